import PyProof.Rows.All
import Wide.All
import OpenK.AllK
import Wide.FinOn
import Lean
import PyProof.EqAt
import PyProof.EqKinds
import PyProof.TupleCall
import PyProof.NeKinds
import PyProof.ZipIter
import PyProof.Draws
import PyProof.FactsAll.zip
import KE.KSortTup
import KE.KDictSum
import PyProof.TupleOfSeq
import PyProof.StrWalks
import PyProof.Rows.SetFrom
import KE.KRevIter
import PyProof.Rows.Range3
import KE.KTryMore
import KE.KIsNot
import PyProof.ExcArgsOwn
import PyProof.ExcAttrAll.ValueError
import PyProof.ExcBaseAll.ValueError
import PyProof.NsDelKeeps
import PyProof.Rows.CallKwBuiltin
import PyProof.WalkInts
import PyProof.Rows.Catch
import KE.KLam
import KE.KNestM
import PyProof.FactsAll.list_3
import KE.KDictList
import PyProof.Rows.CountFlat
import KE.KDictOf
import PyProof.AttrMissHeap
import PyProof.DictFindH
import PyProof.ExcInit
import PyProof.ExcClass3
import PyProof.InstStoreFacts
import PySem.Challenge.RW_twoglass_k23_parts_refused
set_option Elab.async false
set_option linter.all false
set_option maxRecDepth 100000
local macro_rules|`(tactic|omega)=>`(tactic|first|lia|omega (config:={}))
open List renaming filterMap_cons→G7,mem_cons_self→G8,mem_cons_of_mem→G9,mem_append_left→Ha,getElem_inj→Hc,getElem?_set_self→Hf,getElem?_set_ne→Hg,mem_append_right→Hk,size_toArray→Hl,length_cons→Ho,map_cons→Hq,length_map→Hr,append_nil→Hu,of_mem_zip→Hw,length_take→Hx,getElem?_append_right→Hy,getElem?_replicate→Hz,getElem?_append_left→HA,getElem?_map→HB,getElem?_take_of_lt→HC,take_sublist→HD,mem_of_getElem?→HE,length_append→HF,length_drop→HH,length_set→HJ,length_singleton→HL,map_nil→HM,lookup_cons→HN,forIn_cons→HP,cons_append→HR,take_zero→HS,take_nil→HU,take_succ_cons→HV,drop_zero→HW,drop_nil→HX,drop_succ_cons→HY,all_cons→HZ,range_succ_eq_map→H0,getElem?_eq_getElem→Ia,getElem_of_mem→Ih,any_cons→Ii,nil_append→Ij,map_append→Ik,length_range→Il,getElem?_range→Io,drop_eq_getElem_cons→Ip,append_assoc→Iq,mem_cons→Iu,not_mem_nil→Iw,getElem?_cons_zero→Iy,getElem?_cons_succ→Iz,zip_cons_cons→IH,contains_cons→II,nodup_append→IK,replicate_zero→IM,any_map→IQ,zip_nil_right→IR,length_nil→IT,getElem?_eq_none→IW,getD_eq_getElem?_getD→IY,mem_of_mem_drop→IZ,map_drop→I0,map_take→Ja,sum_cons→Jb,take_of_length_le→Jc,set_cons_zero→Jd,set_cons_succ→Je,map_map→Ji,mem_nil_iff→Jl,getElem_map→Jm,mem_map_of_mem→Jn,take_append_drop→Jp,contains_iff_mem→Jq
open Int renaming toNat_natCast→HG,emod_nonneg→Jh,emod_lt_of_pos→Jj,le_refl→Jo,mul_ediv_add_emod→Jr,eq_ofNat_of_zero_le→Js
open Nat renaming lt_of_lt_of_le→G2,lt_irrefl→G3,ne_of_lt→G4,le_trans→G5,le_of_lt→G6,ne_of_gt→Hh,le_refl→Hj,le_of_eq→Hs,zero_le→Ht,le_succ→Hv,min_self→Ib,sub_zero→Im,le_add_right→IB,add_lt_add_left→IC,lt_add_of_pos_right→IE,zero_add→IG,sub_self→IL,add_comm→IP,lt_or_ge→IX,lt_or_gt_of_ne→Jk
open Bool renaming false_and→Hi,false_ne_true→Hm,and_eq_true→HI,false_eq_true→HQ,and_true→Ic,and_false→Ie,or_eq_true→Ig,or_eq_false_iff→IJ,or_true→IU,not_eq_true'→IV,not_true→Jf,not_false→Jg
open Option renaming getD_none→HK,getD_some→Ir
open PySem renaming Value→Kt,NameKind→Ku,Addr→Kv,Expr→Kw,Stmt→Kx,Shared→Ky,World→Kz,Program→KA,Heap→KC,sizeLine→KG,mainGlobals→KH,bootBuiltins→KI,Around→KJ,Scope→KL,Model→KN,wpAny→KO,starEach→KP,wpAny_mono→KQ,CmpOp→KR,compareOp→KS,behindInMarks→KU,wpAny_truthy_bool→KW,wpAny_execs_nil→KY,wpAny_bind→KZ,wpAny_holding→K1,wpAny_standAt→K2,wpAny_pure→K3,wpAny_pyIter_list→K4,PassesOwn→K5,foldedSetIterable→K6,wpAny_passesOwn→K7,binaryOp→K8,sizeLine_eq→K9,wpAny_loadPart→La,wpAny_lookBehind→Lb,pastItsLine_dict→Lc,Result→Ld,codeAny→Le,attributeBase→Lf,plainObj_wpAny_Assign_Attribute→Lg,callWith→Lh,keywordEach→Li,cLine→Lj,FuncData→Ln,BindsTo→Lp,wpAny_call→Lq,codeAny_mono→Lr,wpAny_Call_Name_kw→Ls,concat_meets→Lv,noFill_tuple_add→Lw,seq_tuple_add→Lx,IsPart→Ly,wpAny_field→Lz,wpAny_callSpecial?_slot→LA,wpAny_call_entry→LC,wpAny_typeOf→LD,wpAny_newObj_type→LJ,Keyword→LK,wpAny_comprehension_free→LO,wpAny_rule→LQ,wpAny_getItem_str_slice→LR,post_val_or_str→LU,wpAny_seqItems→LV,IsZip→LW,IsPair→LX,wpAny_setField_rec→LY,wpAny_onRaise→LZ,wpAny_updateSeq_pair→L6,wpAny_attempt→L7,codeAny_call_builtin→Mb,ExcBaseFacts→Mf,wpAny_loadPart_at→Mg
open PySem.W renaming instObj→Jt,methodObj→Ju,Frag→Jv,lookIn→Jw,plainGet→Jx,hasDictIn→Jy,findIn→Jz,handedIn→JA,plainGet_of→JB,findObj_own→JC,isFn→JD,plainOver→JE,takerIn→JF,makesIn→JG,typeIn→JH,emptyDict→JI,keepIn→JK,callWith_K→JL,cellsFrom_some→JM,fnOf→JN,codeIn→JO,OpenLaw→JP,nsIn→JQ,notCls→JR,kitOne→JS,kia_one→JT,excIn→JU,isNs_of_in→JV,tail_of_in→JW,exmOne→JX,mroIn→JY,subIn→JZ,kitCls→J0,kitAny→J1,mg_of→J2,Looks→L8,looks_findIn→L9,looks_mroIn→Md
open PySem.Heap renaming lt_size→J3,get?_none_of_le→J4,SameBut→J5,get?_push_of_some→J6,get?_push_size→J7,size_push→J8,get?_update_self→J9,get?_update_other→Ka,FlyingW→Kb,get?_update_ne→Kc,get?_push_at→Kd,MadeExcOf→Ke
open PyProof.Rows renaming callWith_type1→Kf,slot_tuple_getitem→Kg,envOfC→Kh,IsTup→Ki,Call_→Kj,boot_list→Kk,boot_int→Kl,boot_tuple→Km
open PySem.F renaming slot_tuple_add→Kn,entry_tuple_add→Ko,args_tuple_add_2→Kp,slot_list_index→Kq,excBase_ValueError→Kr
set_option maxHeartbeats 1000000
local macro_rules | `(‹0›)=>`(by omega)
namespace L2
open PySem PySem.Spec PyProof.Rows
noncomputable abbrev dy:=List (Option Nat)
noncomputable abbrev bC:=Str->Option Kt
noncomputable abbrev kG:=List (Str×Ku)
noncomputable abbrev aR:=List (Kv×Obj)
noncomputable abbrev jr:=List (Str×Kv)
noncomputable abbrev aU:=List Kw
noncomputable abbrev cD:=List Kx
noncomputable abbrev aL:=List Kt
noncomputable abbrev ay:=List Kv
noncomputable abbrev gO:=List (Str×Bool)
noncomputable abbrev bY:=Option Int
noncomputable abbrev bj:=Kt->Ky->Prop
noncomputable abbrev fF:=Ky->Prop
noncomputable abbrev ap:=List Str
noncomputable abbrev Key:=Sum Int Str
noncomputable def zQ:Key->Kt->Bool
 |.inl k,v=>Value.isInt k v
 |.inr x,v=>Value.isStrOf x v
noncomputable def EF(w:Kz):Key->Int
 |.inl k=>hashInt k
 |.inr x=>hashStr w x
theorem bR:∀{k:Key}{v:Kt},zQ k v=true->(∃i t,k=Sum.inl i/\v=Value.int i t)\/(∃x t,k=Sum.inr x/\v=Value.str x t)
 |.inl i,v,h=>by
  obtain⟨t,e⟩:=Value.isInt_shape (k:=i) (v:=v) h;exact .inl ⟨i,t,rfl,e⟩
 |.inr x,v,h=>by
  obtain⟨t,e⟩:=Value.isStrOf_shape (x:=x) (v:=v) h;exact .inr ⟨x,t,rfl,e⟩
theorem AB(a b:Int):decide ((Sum.inl a:Key)=Sum.inl b)=(a==b):=by
 by_cases e:a=b
 ·subst e;simp
 ·have h:¬(Sum.inl a:Key)=Sum.inl b:=λq=>e (Sum.inl.inj q);rw[decide_eq_false h];exact(beq_eq_false_iff_ne.mpr e).symm
theorem B5(a b:Str):decide ((Sum.inr a:Key)=Sum.inr b)=decide (a=b):=by
 by_cases e:a=b
 ·subst e;simp
 ·have h:¬(Sum.inr a:Key)=Sum.inr b:=λq=>e (Sum.inr.inj q);rw[decide_eq_false h,decide_eq_false e]
theorem A0(a:Int)(b:Str):decide ((Sum.inl a:Key)=Sum.inr b)=false:=decide_eq_false (λq=>nomatch q)
theorem A9(a:Str)(b:Int):decide ((Sum.inr a:Key)=Sum.inl b)=false:=decide_eq_false (λq=>nomatch q)
noncomputable def nH(prog:KA)(w:Kz):PySem.KeyKind prog w Key where
 is:=zQ
 hash:=EF w
 inj:=λv a b ha hb=>by
  rcases bR ha with⟨i,t,rfl,rfl⟩|⟨x,t,rfl,rfl⟩
  ·rcases bR hb with⟨j,u,rfl,e⟩|⟨y,u,rfl,e⟩
   ·injection e with e1 _;rw[e1]
   ·exact nomatch e
  ·rcases bR hb with⟨j,u,rfl,e⟩|⟨y,u,rfl,e⟩
   ·exact nomatch e
   ·injection e with e1 _;rw[e1]
 byValue:=λk v h=>by
  rcases bR h with⟨i,t,rfl,rfl⟩|⟨x,t,rfl,rfl⟩<;>rfl
 pyHash:=λhv h=>by
  rcases bR hv with⟨i,t,rfl,rfl⟩|⟨x,t,rfl,rfl⟩
  ·exact wpAny_pyHash_int h
  ·exact wpAny_pyHash_str h
 eqBool:=λhu hv h=>by
  rcases bR hu with⟨i,t,rfl,rfl⟩|⟨x,t,rfl,rfl⟩
  ·rcases bR hv with⟨j,u,rfl,rfl⟩|⟨y,u,rfl,rfl⟩
   ·rw[AB]at h;exact wpAny_eqBool_int h
   ·rw[A0]at h;exact SeqAt.EqAt.int_str i t y u _ _ _ _ h
  ·rcases bR hv with⟨j,u,rfl,rfl⟩|⟨y,u,rfl,rfl⟩
   ·rw[A9]at h;exact SeqAt.EqAt.str_int x t j u _ _ _ _ h
   ·rw[B5]at h;exact wpAny_eqBool_str h
 «strs»:=λk x t v h=>by
  rcases bR h with⟨i,u,rfl,e⟩|⟨y,u,rfl,e⟩
  ·exact nomatch e
  ·injection e with e1 _;subst e1;cases v<;>rfl
inductive V where
 |non|bl (b:Bool)|int (i:Int)|str (x:Str)|byt (b:Array UInt8)|flt (b:UInt64)|ref (a:Kv)|ty (n:String)
 deriving DecidableEq
noncomputable abbrev aB:=List V
noncomputable def RelV:V->Kt->Prop
 |.non,u=>u=Value.none
 |.bl b,u=>u=Value.bool b
 |.int i,u=>∃t,u=Value.int i t
 |.str x,u=>∃t,u=Value.str x t
 |.byt b,u=>∃t,u=Value.bytes b t
 |.flt b,u=>∃t,u=Value.float b t
 |.ref a,u=>u=Value.ref a
 |.ty n,u=>u=Value.type n
noncomputable abbrev Vals:aB->aL->Prop:=Paired RelV
theorem Vals.length{xs:aB}{us:aL}(r:Vals xs us):xs.length=us.length:=Paired.length r
theorem Vals.get:∀{xs:aB}{us:aL}{i:Nat}{x:V},Vals xs us->xs[i]?=some x->∃u,us[i]?=some u/\RelV x u
 |_,_,_,_,.nil,e=>by simp at e
 |_,_,0,_,.cons r _,e=>by simp at e;subst e;exact⟨_,rfl,r⟩
 |_,_,i+1,x,.cons _ t,e=>by
  obtain⟨u,h1,h2⟩:=Vals.get (i:=i) (x:=x) t (by simpa using e);exact⟨u,by simpa using h1,h2⟩
theorem Vals.set{x:V}{u:Kt}(r:RelV x u):∀{xs:aB}{us:aL}(i:Nat),Vals xs us->Vals (xs.set i x) (us.set i u)
 |_,_,_,.nil=>.nil
 |_,_,0,.cons _ t=>.cons r t
 |_,_,i+1,.cons q t=>.cons q (Vals.set r i t)
theorem Vals.append:∀{xs ys:aB}{us ws:aL},Vals xs us->Vals ys ws->Vals (xs++ys) (us++ws)
 |_,_,_,_,.nil,s=>s
 |_,_,_,_,.cons r t,s=>.cons r (Vals.append t s)
theorem Vals.take:∀{xs:aB}{us:aL}(n:Nat),Vals xs us->Vals (xs.take n) (us.take n)
 |_,_,0,_=>.nil
 |_,_,_+1,.nil=>.nil
 |_,_,n+1,.cons r t=>.cons r (Vals.take n t)
theorem Vals.drop:∀{xs:aB}{us:aL}(n:Nat),Vals xs us->Vals (xs.drop n) (us.drop n)
 |_,_,0,r=>r
 |_,_,_+1,.nil=>.nil
 |_,_,n+1,.cons _ t=>Vals.drop n t
noncomputable def pz:Option V->Option Kt->Prop
 |some v,some u=>RelV v u
 |none,none=>True
 |_,_=>False
noncomputable def KV{κ:Type}:List (κ×V)->List (κ×Kt)->Prop:=Paired λ(p:κ×V)(q:κ×Kt)=>p.1=q.1/\RelV p.2 q.2
noncomputable def kV:Key->V
 |.inl i=>.int i
 |.inr x=>.str x
inductive HO where
  |lst (xs:aB)
  |tup (xs:aB)
  |dK (kvs:List (Key×V))|dT (kvs:List (List Key×V))
  |set (S:Int->Bool) (n:Nat)
  |ins (C dx:Kv) (fs:List (Str×V))
  |own (x:Kv)
  |xd (fs:List (Str×V))
  |met (f x:Kv)
  |rng (lo hi:Int)
  |frz (o:Obj) (u:HO)
  |tbl (ps:Array Kt)
  |ext (φ:(Kv->Prop)->KC->Prop)
noncomputable abbrev Hp:=Kv->Option HO
noncomputable def upd(H:Hp)(a:Kv)(o:HO):Hp:=λb=>if b=a then some o else H b
theorem aA{H:Hp}{a:Kv}{o:HO}:upd H a o a=some o:=by unfold upd;rw[if_pos rfl]
theorem av{H:Hp}{a b:Kv}{o:HO}(h:b≠a):upd H a o b=H b:=by unfold upd;rw[if_neg h]
theorem rT{H:Hp}{a:Kv}{o u:HO}:upd (upd H a o) a u=upd H a u:=by
 funext b;unfold upd;split<;>rfl
theorem aM{H:Hp}{a b:Kv}{o:HO}(h:H a=some o)(h':H b=none):a≠b:=by
 intro e;subst e;rw[h]at h';cases h'
section
variable(P:KA)(w:Kz)
noncomputable def ce(H:Hp)(h:KC)(a:Kv):HO->Prop
 |.lst xs=>xs.length<=KG/\∃(its:aL)(n:Nat),Vals xs its/\h.get? a=some {cls:=.type "list",data:=.seq its.toArray n}
 |.tup xs=>xs.length<=KG/\∃its:aL,Vals xs its/\IsTup h a its.toArray
 |.dK kvs=>kvs.length<=KG/\(a==sysModules)=false/\∃vs,KV kvs vs/\h.DictOf (nH P w) a vs
 |.dT kvs=>kvs.length<=KG/\(a==sysModules)=false/\∃xs:List (List Key×Kv×Kt),
   Paired (λ(p:List Key×V)(q:List Key×Kv×Kt)=>p.1=q.1/\H q.2.1=some (.tup (p.1.map kV))/\RelV p.2 q.2.2) kvs xs/\
   ∃o es ep,h.get? a=some o/\o.ExactDict/\o.data=.dict es ep/\es.toList=xs.map (entryOfKey (tupleKind (nH P w)))/\(xs.map (·.1)).Nodup
 |.set S n=>h.SetOf (intKind P w) a S n
 |.ins C dx fs=>H dx=some (.own a)/\fs.length<=1000/\dx≠a/\h.get? a=some (Jt C dx)/\
   ∃mA,h.Ns1 dx mA/\(∀f,pz (fs.lookup f) (mA f))/\PySem.Within mA (fs.map (·.1))
 |.own _=>∃o,h.get? a=some o
 |.xd fs=>∃mA,h.Ns1 a mA/\∀f,pz (fs.lookup f) (mA f)
 |.rng lo hi=>∃t u v,h.get? a=some {cls:=.type "range",data:=.fields #[.int lo t,.int hi u,.int 1 v]}
 |.frz o u=>h.get? a=some o/\ce H h a u
 |.tbl ps=>h.get? a=some {cls:=.none,data:=.fields ps}
 |.met f x=>h.get? a=some (Ju (.ref f) (.ref x))
 |.ext φ=>φ (λb=>H b=some (.own a)) h/\(∃o,h.get? a=some o)/\∀(S1 S2:Kv->Prop)(h1 h2:KC),φ S1 h1->(∀b,S1 b->S2 b)->(∀b o,(b=a\/S1 b)->h1.get? b=some o->h2.get? b=some o)->φ S2 h2
noncomputable def kZ(H:Hp)(h:KC):Prop:=∀a o,H a=some o->ce P w H h a o
end
section
variable{P:KA}{w:Kz}{H H':Hp}{h h':KC}{a:Kv}{o:HO}
theorem ce.lt(x:ce P w H h a o):a<h.objs.size:=by
 cases o with
 |lst xs=>obtain⟨_,_,_,_,e⟩:=x;exact J3 e
 |tup xs=>obtain⟨_,_,_,p⟩:=x;exact p.lt
 |dK kvs=>obtain⟨_,_,_,_,o,_,_,e,_⟩:=x;exact J3 e
 |dT kvs=>obtain⟨_,_,_,_,o,_,_,e,_⟩:=x;exact J3 e
 |set S n=>obtain⟨o,_,_,_,e,_⟩:=x;exact J3 e
 |ins C dx fs=>obtain⟨_,_,_,e,_⟩:=x;exact J3 e
 |own y=>obtain⟨_,e⟩:=x;exact J3 e
 |xd fs=>obtain⟨_,⟨_,_,_,e,_⟩,_⟩:=x;exact J3 e
 |rng lo hi=>obtain⟨_,_,_,e⟩:=x;exact J3 e
 |frz ob u=>obtain⟨e,_⟩:=x;exact J3 e
 |tbl ps=>exact J3 (show h.get? a=some _ from x)
 |met f y=>exact J3 (show h.get? a=some _ from x)
 |ext φ=>obtain⟨_,⟨_,e⟩,_⟩:=x;exact J3 e
theorem Paired.mapP{α β:Type}{F G:α->β->Prop}:∀{l₁:List α}{l₂:List β},Paired F l₁ l₂->(∀a b,F a b->G a b)->Paired G l₁ l₂
 |_,_,.nil,_=>.nil
 |_,_,.cons r t,f=>.cons (f _ _ r) (Paired.mapP t f)
theorem ce.stay(x:ce P w H h a o)(k:∀b u,(b=a\/H b=some (.own a))->h.get? b=some u->h'.get? b=some u)
  (ho:∀b,H b=some (.own a)->H' b=some (.own a)) (ht:∀b xs,H b=some (.tup xs)->H' b=some (.tup xs)):ce P w H' h' a o:=by
 induction o with
 |lst xs=>obtain⟨z,its,n,r,e⟩:=x;exact⟨z,its,n,r,k _ _ (.inl rfl) e⟩
 |tup xs=>obtain⟨z,its,r,ob,e,c⟩:=x;exact⟨z,its,r,ob,k _ _ (.inl rfl) e,c⟩
 |dK kvs=>obtain⟨z,y,vs,r,ob,es,ep,e,c⟩:=x;exact⟨z,y,vs,r,ob,es,ep,k _ _ (.inl rfl) e,c⟩
 |dT kvs=>
  obtain⟨z,y,xs,r,ob,es,ep,e,c⟩:=x;exact⟨z,y,xs,Paired.mapP r λp q z=>⟨z.1,ht _ _ z.2.1,z.2.2⟩,ob,es,ep,k _ _ (.inl rfl) e,c⟩
 |set S n=>obtain⟨ob,es,ep,t,e,c⟩:=x;exact⟨ob,es,ep,t,k _ _ (.inl rfl) e,c⟩
 |ins C dx fs=>
  obtain⟨d,z,ne,e,mA,⟨od,es,ep,e2,c⟩,r⟩:=x;exact⟨ho _ d,z,ne,k _ _ (.inl rfl) e,mA,⟨od,es,ep,k _ _ (.inr d) e2,c⟩,r⟩
 |own y=>obtain⟨ob,e⟩:=x;exact⟨ob,k _ _ (.inl rfl) e⟩
 |xd fs=>obtain⟨mA,⟨od,es,ep,e,c⟩,r⟩:=x;exact⟨mA,⟨od,es,ep,k _ _ (.inl rfl) e,c⟩,r⟩
 |rng lo hi=>obtain⟨t,u,v,e⟩:=x;exact⟨t,u,v,k _ _ (.inl rfl) e⟩
 |frz ob u ih=>obtain⟨e,q⟩:=x;exact⟨k _ _ (.inl rfl) e,ih q⟩
 |tbl ps=>
  have e:h.get? a=some {cls:=.none,data:=.fields ps}:=x;show h'.get? a=some {cls:=.none,data:=.fields ps};exact k a _ (.inl rfl) e
 |met f y=>
  have e:h.get? a=some (Ju (.ref f) (.ref y)):=x;show h'.get? a=some (Ju (.ref f) (.ref y));exact k a _ (.inl rfl) e
 |ext φ=>obtain⟨p,⟨o,e⟩,st⟩:=x;exact⟨st _ _ _ _ p ho k,⟨o,k _ _ (.inl rfl) e⟩,st⟩
theorem kZ.lt(x:kZ P w H h)(e:H a=some o):a<h.objs.size:=(x a o e).lt
theorem kZ.fresh(x:kZ P w H h)(e:h.objs.size<=a):H a=none:=by
 cases q:H a with
 |none=>rfl
 |some u=>exact absurd (G2 (x.lt q) e) (G3 _)
theorem kZ.kept(x:kZ P w H h)(k:∀b u,h.get? b=some u->h'.get? b=some u):kZ P w H h':=λa o e=>
 (x a o e).stay (λb u _ q=>k b u q) (λ_ q=>q) λ_ _ q=>q
theorem kZ.laid(x:kZ P w H h)(k:∀b u,h.get? b=some u->h'.get? b=some u)(hp:h.objs.size<=a)(new:ce P w (upd H a o) h' a o):kZ P w (upd H a o) h':=λb u e=>by
 have hn:=x.fresh hp;by_cases hb:b=a
 ·subst hb;rw[aA]at e;cases e;exact new
 ·rw[av hb]at e;exact(x b u e).stay (λc v _ q=>k c v q) (λc q=>by rw[av (aM q hn)];exact q) λc xs q=>by rw[av (aM q hn)];exact q
end
noncomputable def Rd(H:Hp)(a:Kv)(u:HO):Prop:=H a=some u\/∃o,H a=some (.frz o u)
theorem Rd.ok{P:KA}{w:Kz}{H:Hp}{h:KC}{a:Kv}{u:HO}(r:Rd H a u)(x:kZ P w H h):ce P w H h a u:=by
 rcases r with r|⟨o,r⟩
 ·exact x a u r
 ·obtain⟨_,q⟩:=x a _ r;exact q
noncomputable def D3:Option HO->Prop
 |some (.lst _)=>True
 |some (.dK _)=>True
 |some (.dT _)=>True
 |some (.set _ _)=>True
 |some (.ins _ _ _)=>True
 |some (.ext _)=>True
 |_=>False
section
variable{P:KA}{w:Kz}{H:Hp}{h h':KC}{x e:Kv}{o':HO}
theorem kZ.write(ok:kZ P w H h)(mu:D3 (H x))(he:e=x\/H e=some (.own x))(k:∀b u,b≠e->h.get? b=some u->h'.get? b=some u)(heo:∃u,h'.get? e=some u)
  (new:ce P w (upd H x o') h' x o'):kZ P w (upd H x o') h':=λb u q=>by
 have nown:∀c y,H c=some (.own y)->c≠x:=λc y r z=>by subst z;rw[r]at mu;exact mu
 have ntup:∀c xs,H c=some (.tup xs)->c≠x:=λc xs r z=>by subst z;rw[r]at mu;exact mu
 by_cases hb:b=x
 ·subst hb;rw[aA]at q;cases q;exact new
 ·rw[av hb]at q;by_cases hbe:b=e
  ·have q':H b=some (.own x):=by
    rcases he with z|z
    ·exact absurd (hbe.trans z) hb
    ·rw[hbe];exact z
   rw[q]at q';cases q';obtain⟨v,hv⟩:=heo;exact⟨v,by rw[hbe];exact hv⟩
  ·refine(ok b u q).stay (λc v hc r=>k c v ?_ r) (λc r=>by rw[av (nown c b r)];exact r) λc xs r=>by rw[av (ntup c xs r)];exact r
   rcases hc with rfl|hc
   ·exact hbe
   ·rintro rfl;rcases he with z|z
    ·exact nown c b hc z
    ·rw[hc]at z;cases z;exact hb rfl
end
structure Un(fs ex:ay)(H H':Hp)(h h':KC):Prop where
 keep:∀b o,h.get? b=some o->H b=none->b∉fs->b∉ex->h'.get? b=some o
 slot:∀b o,h.get? b=some o->H b=none->b∈fs->b∉ex->∃sl,h'.get? b=some {o with slots:=sl}
 free:∀b o,h.get? b=some o->H b=none->b∉ex->H' b=none
 there:∀b o,h.get? b=some o->b∉ex->∃o',h'.get? b=some o'
 tups:∀b xs,H b=some (.tup xs)->H' b=some (.tup xs)
 frzs:∀b o u,H b=some (.frz o u)->H' b=some (.frz o u)
 tbls:∀b ps,H b=some (.tbl ps)->∃more,H' b=some (.tbl (ps++more))
section
variable{fs fs' ex ex':ay}{H H1 H2:Hp}{h h1 h2 h':KC}{a x e:Kv}{o:HO}
theorem Un.any(u:Un fs ex H H1 h h1){b:Kv}{ob:Obj}(q:h.get? b=some ob)(n:H b=none)(hx:b∉ex):∃sl,h1.get? b=some {ob with slots:=sl}:=by
 by_cases hb:b∈fs
 ·exact u.slot b ob q n hb hx
 ·exact⟨ob.slots,u.keep b ob q n hb hx⟩
theorem Un.kept(k:∀b u,h.get? b=some u->h'.get? b=some u):Un fs ex H H h h':=
 ⟨λb ob q _ _ _=>k b ob q,λb ob q _ _ _=>⟨ob.slots,k b ob q⟩,λ_ _ _ n _=>n,λb ob q _=>⟨ob,k b ob q⟩,λ_ _ q=>q,λ_ _ _ q=>q,λ_ ps q=>⟨#[],by rw[q];simp⟩⟩
theorem Un.refl:Un fs ex H H h h:=Un.kept λ_ _ q=>q
theorem Un.laid(k:∀b u,h.get? b=some u->h'.get? b=some u)(hp:h.objs.size<=a)(hn:H a=none):Un fs ex H (upd H a o) h h' where
 keep:=λb u q _ _ _=>k b u q
 slot:=λb u q _ _ _=>⟨u.slots,k b u q⟩
 free:=λb u q n _=>by rw[av (G4 (G2 (J3 q) hp))];exact n
 there:=λb u q _=>⟨u,k b u q⟩
 tups:=λb xs q=>by rw[av (aM q hn)];exact q
 frzs:=λb u xs q=>by rw[av (aM q hn)];exact q
 tbls:=λb ps q=>⟨#[],by rw[av (aM q hn),q];simp⟩
theorem Un.write(mu:D3 (H x))(he:e=x\/H e=some (.own x))(k:∀b u,b≠e->h.get? b=some u->h'.get? b=some u)(heo:∃u,h'.get? e=some u):Un fs ex H (upd H x o) h h':=by
 have hx:∀b,H b=none->b≠x:=λb n z=>by subst z;rw[n]at mu;exact mu
 have hb:∀b,H b=none->b≠e:=λb n z=>by
  subst z;rcases he with r|r
  ·exact hx b n r
  ·rw[n]at r;cases r
 have hm:∀b u,H b=some u->¬D3 (some u)->b≠x:=λb u q nm z=>by subst z;rw[q]at mu;exact nm mu
 refine⟨λb u q n _ _=>k b u (hb b n) q,λb u q n _ _=>⟨u.slots,k b u (hb b n) q⟩,λb u q n _=>by rw[av (hx b n)];exact n,λb u q _=>?_,
  λb xs q=>by rw[av (hm b _ q λz=>z)];exact q,λb u xs q=>by rw[av (hm b _ q λz=>z)];exact q,λb ps q=>⟨#[],by rw[av (hm b _ q λz=>z),q];simp⟩⟩
 by_cases hbe:b=e
 ·subst hbe;exact heo
 ·exact⟨u,k b u hbe q⟩
end
noncomputable def DW(h:KC)(H:Hp):ay:=(List.range h.objs.size).filter λa=>(H a).isSome
noncomputable def gL(h:KC)(H:Hp):KC:=PySem.W.hideAll h (DW h H)
theorem t7(h:KC)(H:Hp):(gL h H).objs.size=h.objs.size:=PySem.W.hideAll_size _ _
theorem kE{h:KC}{H:Hp}{b:Kv}{o:Obj}(e:h.get? b=some o)(n:H b=none):(gL h H).get? b=some o:=
 PySem.W.hideAll_get _ e λhm=>by
  have q:(H b).isSome=true:=(List.mem_filter.mp hm).2;rw[n]at q;simp at q
theorem hX{h:KC}{H:Hp}{b:Kv}{o:Obj}(e:(gL h H).get? b=some o):h.get? b=some o/\H b=none:=by
 have e':h.get? b=some o:=PySem.W.of_hideAll (DW h H) e;refine⟨e',?_⟩;cases q:H b with
 |none=>rfl
 |some x=>
  have hm:b∈DW h H:=List.mem_filter.mpr ⟨List.mem_range.mpr (J3 e'),by simp[q]⟩;have z:(gL h H).get? b=none:=PySem.W.hideAll_none (DW h H) hm;rw[z]at e;cases e
noncomputable def zH(g h:KC)(L:Kv):aR:=(List.range h.objs.size).filterMap λa=>if a=L\/(g.get? a).isSome=true then none else(h.get? a).map λo=>(a,o)
noncomputable def rest(g h:KC)(L d:Kv):aR:=(zH g h L).filter λp=>decide (p.1≠d)
structure Mod(K:Jv)(mg:bC)(base:KC):Prop where
 kin:K.In base
 glob:base.Ns KH mg
 blt:∃mb,base.Ns builtinsNs mb/\∀x:Str,x≠"__name__"->mb x=KI x
 nolimit:base.NoLimit
structure Cx where
 prog:KA
 w:Kz
 K:Jv
 mg:bC
 base:KC
 A:KJ
 N:ap
 s₀:Ky
 H₀:Hp
 env:Env
 outer:List Env
 stack:List Env
 ex:ay
 fn:Str->Bool
 calm:Bool
 pn:aR
 xe:bj
noncomputable def frs(l:List Env):ay:=l.filterMap (·.frame)
noncomputable abbrev Cx.fs(X:Cx):ay:=frs X.outer
noncomputable def Bp(sc:KL)(x:Str):Prop:=sc.names.lookup x=some .local\/sc.names.lookup x=some .cell\/sc.names.lookup x=some .free
noncomputable def Loc(sc:KL)(x:Str):Prop:=sc.names.lookup x=some .local\/sc.names.lookup x=some .cell
noncomputable def Look(env:Env)(h:KC)(m:bC)(x:Str)(u:Kt):Prop:=
 (env.kindOf x=some .local/\m x=some u)\/((env.kindOf x=some .cell\/env.kindOf x=some .free)/\∃c,env.cells.lookup x=some c/\h.IsCell c (some u))
structure Cx.Ok(X:Cx):Prop where
 mod:Mod X.K X.mg X.base
 kind:X.env.scope.kind=.function
 glob:X.env.globals=KH
 blt:X.env.builtins=builtinsNs
 above:X.s₀.heap.objs.size<=X.env.locals
 inj:∀x y c,X.env.cells.lookup x=some c->X.env.cells.lookup y=some c->x=y
 has:∀x,(X.env.kindOf x=some .cell\/X.env.kindOf x=some .free)->∃c,X.env.cells.lookup x=some c
 cab:∀x c,X.fn x=true->X.env.cells.lookup x=some c->X.s₀.heap.objs.size<=c
 hd:X.calm=true->X.A.handled=none
 frames:X.A.frames=some X.stack
 stk:X.stack=X.outer\/(X.stack=X.env::X.outer/\X.env.frame=some X.env.locals)
 exf:∀b∈X.ex,b≠X.env.locals/\∀x c,X.env.cells.lookup x=some c->c≠b
 bs:∀b o,X.base.get? b=some o->X.s₀.heap.get? b=some o/\X.H₀ b=none
 bsz:X.base.objs.size<=X.s₀.heap.objs.size
 noex:∀b o,X.base.get? b=some o->b∉X.ex
 exfs:∀b∈X.ex,b∉X.fs
 funs:X.s₀.heap.FunFrames X.base X.outer
 frf:∀b∈X.fs,X.H₀ b=none
structure Inv(X:Cx)(pins:aR)(σ:List (Option V))(H:Hp)(s:Ky):Prop where
 ok:X.Ok
 os:s.os=X.s₀.os
 bare:AllBare s.gens
 base:Un X.fs X.ex X.H₀ H X.s₀.heap s.heap
 loc:∃m,s.heap.Ns X.env.locals m/\∀(i:Nat)(x:Str)(v:V),X.N[i]?=some x->σ[i]?=some (some v)->Bp X.env.scope x->∃u,RelV v u/\Look X.env s.heap m x u
 cell:∀x c,X.env.cells.lookup x=some c->∃v,s.heap.IsCell c v
 free:H X.env.locals=none
 freeC:∀x c,X.env.cells.lookup x=some c->H c=none
 pin:∀p∈X.pn++pins,s.heap.get? p.1=some p.2/\H p.1=none/\p.1≠X.env.locals/\p.1∉X.fs/\∀v,p.2.data≠.cell v
 hok:kZ X.prog X.w H s.heap
 len:σ.length=X.N.length
section
variable{X:Cx}{pins:aR}{σ:List (Option V)}{H H':Hp}{s:Ky}{h':KC}
theorem Cx.Ok.nofr(ok:X.Ok){b:Kv}{o:Obj}(e:X.base.get? b=some o):b∉X.fs:=λhb=>by
 have:=(ok.funs.mem hb).1
 rw[e]at this;cases this
theorem Inv.bs(I:Inv X pins σ H s):∀b o,X.base.get? b=some o->s.heap.get? b=some o/\H b=none:=λb o e=>
 ⟨I.base.keep b o (I.ok.bs b o e).1 (I.ok.bs b o e).2 (I.ok.nofr e) (I.ok.noex b o e),I.base.free b o (I.ok.bs b o e).1 (I.ok.bs b o e).2 (I.ok.noex b o e)⟩
theorem Inv.bk(I:Inv X pins σ H s):∀b o,X.base.get? b=some o->s.heap.get? b=some o:=λb o e=>(I.bs b o e).1
theorem Inv.mod(I:Inv X pins σ H s):Mod X.K X.mg X.base:=I.ok.mod
theorem Inv.kIn(I:Inv X pins σ H s):X.K.In s.heap:=I.ok.mod.kin.keeps I.bk
theorem Inv.lt(I:Inv X pins σ H s):X.env.locals<s.heap.objs.size:=let ⟨_,hn,_⟩:=I.loc;hn.lt
theorem Inv.sz(I:Inv X pins σ H s):X.s₀.heap.objs.size<=s.heap.objs.size:=G5 I.ok.above (G6 I.lt)
theorem Inv.nofs(I:Inv X pins σ H s){a:Kv}(h:s.heap.objs.size<=a):a∉X.fs:=λhb=>by
 obtain⟨_,o,ho,_⟩:=I.ok.funs.mem hb;exact absurd (G2 (J3 ho) (G5 I.sz h)) (G3 _)
theorem Inv.cne(I:Inv X pins σ H s):∀x c,X.env.cells.lookup x=some c->c≠X.env.locals:=λx c e z=>by
 obtain⟨v,o,ho,hd⟩:=I.cell x c e;obtain⟨m,⟨o',es,ep,ho',hd',_⟩,_⟩:=I.loc;rw[z,ho']at ho;cases ho;rw[hd']at hd;cases hd
theorem Inv.funs(I:Inv X pins σ H s):s.heap.FunFrames X.base X.outer:=by
 have all:∀(l:List Env),(∀b∈frs l,b∈X.fs)->X.s₀.heap.FunFrames X.base l->s.heap.FunFrames X.base l:=by
  intro l
  induction l with
  |nil=>intro _ _;trivial
  |cons env r ih=>
   intro hs hl;obtain⟨hk,⟨L,o,hf,hn,ho,hd⟩,hr⟩:=hl;have hL:L∈X.fs:=hs L (by unfold frs;rw[G7,hf];exact G8);obtain⟨sl,e⟩:=I.base.slot L o ho (I.ok.frf L hL) hL λz=>I.ok.exfs L z hL;exact⟨hk,⟨L,_,hf,hn,e,hd⟩,ih (λb hb=>hs b (by unfold frs;rw[G7,hf];exact G9 _ hb)) hr⟩
 exact all X.outer (λ_ hb=>hb) I.ok.funs
theorem Inv.stack(I:Inv X pins σ H s):s.heap.FunFrames X.base X.stack:=by
 rcases I.ok.stk with e|⟨e,hf⟩
 ·rw[e];exact I.funs
 ·rw[e];obtain⟨m,hn,_⟩:=I.loc;refine .cons (by rw[I.ok.kind];decide) hf hn ?_ I.funs;exact J4 (G5 I.ok.bsz I.ok.above)
theorem Inv.stkSub(I:Inv X pins σ H s):∀b∈frs X.stack,b∈X.env.locals::X.fs:=λb hb=>by
 rcases I.ok.stk with e|⟨e,hf⟩
 ·rw[e]at hb;exact G9 _ hb
 ·rw[e]at hb;unfold frs at hb;rw[G7,hf]at hb;exact hb
theorem Inv.stkFree(I:Inv X pins σ H s):∀b∈frs X.stack,H b=none:=λb hb=>by
 rcases List.mem_cons.mp (I.stkSub b hb)with e|hb
 ·rw[e];exact I.free
 ·obtain⟨_,o,ho,_⟩:=I.ok.funs.mem hb;exact I.base.free b o ho (I.ok.frf b hb) λz=>I.ok.exfs b z hb
theorem Inv.step{g':Array GenState}{t':Nat}{d':Drawn}{ch:ay}(I:Inv X pins σ H s)
  (hch:∀b∈ch,(b∈X.ex\/X.s₀.heap.objs.size<=b)/\b≠X.env.locals/\(∀x c,X.env.cells.lookup x=some c->c≠b)/\∀p∈X.pn++pins,p.1≠b)
  (keep:∀b o,b≠X.env.locals->b∉X.fs->b∉ch->s.heap.get? b=some o->H b=none->h'.get? b=some o)
  (slot:∀b o,b≠X.env.locals->b∈X.fs->b∉ch->s.heap.get? b=some o->H b=none->∃sl,h'.get? b=some {o with slots:=sl}) (free:∀b o,b∉ch->s.heap.get? b=some o->H b=none->H' b=none)
  (there:∀b o,b∉ch->s.heap.get? b=some o->∃o',h'.get? b=some o')
  (tups:∀b xs,H b=some (.tup xs)->H' b=some (.tup xs)) (frzs:∀b o u,H b=some (.frz o u)->H' b=some (.frz o u)) (tbls:∀b ps,H b=some (.tbl ps)->∃more,H' b=some (.tbl (ps++more)))
  (ns:∀m,s.heap.Ns X.env.locals m->h'.Ns X.env.locals m) (hok:kZ X.prog X.w H' h') (hg:AllBare g'):
  Inv X pins σ H' {s with heap:=h',gens:=g',drawn:=d',toks:=t'}:=by
 have neL:∀b o,X.s₀.heap.get? b=some o->b≠X.env.locals:=λb o e=>G4 (G2 (J3 e) I.ok.above);have neC:∀b o,X.s₀.heap.get? b=some o->b∉X.ex->b∉ch:=λb o e hx hb=>by
  rcases(hch b hb).1 with z|z
  ·exact hx z
  ·exact absurd (G2 (J3 e) z) (G3 _)
 have cellK:∀x c,X.env.cells.lookup x=some c->∀v,s.heap.IsCell c v->h'.IsCell c v:=λx c e v ⟨o,ho,hd⟩=>by
  have nch:c∉ch:=λz=>(hch c z).2.2.1 x c e rfl;by_cases hc:c∈X.fs
  ·obtain⟨sl,q⟩:=slot c o (I.cne x c e) hc nch ho (I.freeC x c e);exact⟨_,q,hd⟩
  ·exact⟨o,keep c o (I.cne x c e) hc nch ho (I.freeC x c e),hd⟩
 refine⟨I.ok,I.os,hg,⟨λb o e n hb hx=>?_,λb o e n hb hx=>?_,λb o e n hx=>?_,λb o e hx=>?_,λb xs e=>tups b xs (I.base.tups b xs e),λb o xs e=>frzs b o xs (I.base.frzs b o xs e),λb ps e=>?_⟩,?_,λx c e=>?_,?_,λx c e=>?_,λp hp=>?_,hok,I.len⟩
 ·exact keep b o (neL b o e) hb (neC b o e hx) (I.base.keep b o e n hb hx) (I.base.free b o e n hx)
 ·obtain⟨sl,e1⟩:=I.base.slot b o e n hb hx;obtain⟨sl',e2⟩:=slot b _ (neL b o e) hb (neC b o e hx) e1 (I.base.free b o e n hx);exact⟨sl',e2⟩
 ·obtain⟨o',e1⟩:=I.base.there b o e hx;exact free b o' (neC b o e hx) e1 (I.base.free b o e n hx)
 ·obtain⟨o',e1⟩:=I.base.there b o e hx;exact there b o' (neC b o e hx) e1
 ·obtain⟨m1,e1⟩:=I.base.tbls b ps e;obtain⟨m2,e2⟩:=tbls b _ e1;exact⟨m1++m2,by rw[e2,Array.append_assoc]⟩
 ·obtain⟨m,hn,hl⟩:=I.loc;refine⟨m,ns m hn,λi x v e1 e2 e3=>?_⟩;obtain⟨u,r,l⟩:=hl i x v e1 e2 e3;refine⟨u,r,?_⟩;rcases l with l|⟨k,c,e,z⟩
  ·exact .inl l
  ·exact .inr ⟨k,c,e,cellK x c e _ z⟩
 ·obtain⟨v,z⟩:=I.cell x c e;exact⟨v,cellK x c e v z⟩
 ·obtain⟨m,⟨o,_,_,ho,_⟩,_⟩:=I.loc;exact free _ o (λz=>(hch _ z).2.1 rfl) ho I.free
 ·obtain⟨v,o,ho,hd⟩:=I.cell x c e;exact free c o (λz=>(hch c z).2.2.1 x c e rfl) ho (I.freeC x c e)
 ·obtain⟨e,n,ne,nf,d⟩:=I.pin p hp;have nch:p.1∉ch:=λz=>(hch p.1 z).2.2.2 p hp rfl;exact⟨keep p.1 p.2 ne nf nch e n,free p.1 p.2 nch e n,ne,nf,d⟩
theorem Inv.un{t':Nat}(I:Inv X pins σ H s)(u:Un X.fs [] H H' s.heap h')(hok:kZ X.prog X.w H' h'):Inv X pins σ H' {s with heap:=h',toks:=t'}:=by
 obtain⟨m,⟨o,es,ep,ho,r⟩,_⟩:=id I.loc;obtain⟨sl,hL⟩:=u.any ho I.free (by simp);exact I.step (g':=s.gens) (d':=s.drawn) (ch:=[]) (λ_ z=>nomatch z) (λb o _ hb _ e n=>u.keep b o e n hb (by simp)) (λb o _ hb _ e n=>u.slot b o e n hb (by simp)) (λb o _ e n=>u.free b o e n (by simp)) (λb o _ e=>u.there b o e (by simp)) u.tups u.frzs u.tbls (λm' hm=>by
  obtain⟨o',es',ep',ho',r'⟩:=hm;rw[ho]at ho';cases ho';exact⟨_,es',ep',hL,r'⟩) hok I.bare
theorem Inv.call{g':Array GenState}{t':Nat}{d':Drawn}{ch:ay}(I:Inv X pins σ H s)(u:Un (frs X.stack) ch H H' s.heap h')(hok:kZ X.prog X.w H' h')(hg:AllBare g')
  (hch:∀b∈ch,(b∈X.ex\/X.s₀.heap.objs.size<=b)/\b≠X.env.locals/\(∀x c,X.env.cells.lookup x=some c->c≠b)/\∀p∈X.pn++pins,p.1≠b):
  Inv X pins σ H' {s with heap:=h',gens:=g',drawn:=d',toks:=t'}:=by
 obtain⟨m,⟨o,es,ep,ho,r⟩,_⟩:=id I.loc;obtain⟨sl,hL⟩:=u.any ho I.free λz=>(hch _ z).2.1 rfl;exact I.step (ch:=ch) hch (λb o hL hb hc e n=>u.keep b o e n (λz=>(List.mem_cons.mp (I.stkSub b z)).elim hL hb) hc) (λb o _ _ hc e n=>u.any e n hc) (λb o hc e n=>u.free b o e n hc) (λb o hc e=>u.there b o e hc) u.tups u.frzs u.tbls (λm' hm=>by
  obtain⟨o',es',ep',ho',r'⟩:=hm;rw[ho]at ho';cases ho';exact⟨_,es',ep',hL,r'⟩) hok hg
theorem Inv.turned{t':Nat}{it:Kv}(I:Inv X pins σ H s)(k:∀b o,b≠it->s.heap.get? b=some o->h'.get? b=some o)(hn:H it=none)(hL:it≠X.env.locals)
  (h1:it∈X.ex\/X.s₀.heap.objs.size<=it) (h2:∀x c,X.env.cells.lookup x=some c->c≠it) (h3:∀p∈X.pn++pins,p.1≠it):Inv X pins σ H {s with heap:=h',toks:=t'}:=by
 have nit:∀b u,H b=some u->b≠it:=λb u e z=>by rw[z,hn]at e;cases e
 refine I.step (g':=s.gens) (d':=s.drawn) (ch:=[it]) (λb hb=>?_) (λb o _ _ hc e _=>k b o (λz=>hc (by simp[z])) e) (λb o _ _ hc e _=>⟨o.slots,k b o (λz=>hc (by simp[z])) e⟩) (λ_ _ _ _ n=>n)
  (λb o hc e=>⟨o,k b o (λz=>hc (by simp[z])) e⟩) (λ_ _ e=>e) (λ_ _ _ e=>e) (λb ps e=>⟨#[],by rw[e];simp⟩) (λm hm=>?_) (λb u e=>?_) I.bare
 ·have e:b=it:=by simpa using hb
  subst e;exact⟨h1,hL,h2,h3⟩
 ·obtain⟨o,es,ep,ho,r⟩:=hm;exact⟨o,es,ep,k _ o (Ne.symm hL) ho,r⟩
 ·refine(I.hok b u e).stay (λc v hc q=>k c v ?_ q) (λ_ q=>q) λ_ _ q=>q;rcases hc with z|z
  ·rw[z];exact nit b u e
  ·exact nit c _ z
theorem Inv.tok(I:Inv X pins σ H s)(t:Nat):Inv X pins σ H {s with toks:=t}:=I.un (h':=s.heap) (t':=t) Un.refl I.hok
theorem Inv.kept{t':Nat}(I:Inv X pins σ H s)(k:∀b u,s.heap.get? b=some u->h'.get? b=some u):Inv X pins σ H {s with heap:=h',toks:=t'}:=I.un (Un.kept k) (I.hok.kept k)
theorem Inv.laid{a:Kv}{o:HO}{t':Nat}(I:Inv X pins σ H s)(k:∀b u,s.heap.get? b=some u->h'.get? b=some u)(hp:s.heap.objs.size<=a)(new:ce X.prog X.w (upd H a o) h' a o):
  Inv X pins σ (upd H a o) {s with heap:=h',toks:=t'}:=I.un (Un.laid k hp (I.hok.fresh hp)) (I.hok.laid k hp new)
theorem Inv.write{x e:Kv}{o:HO}{t':Nat}(I:Inv X pins σ H s)(mu:D3 (H x))(he:e=x\/H e=some (.own x))(k:∀b u,b≠e->s.heap.get? b=some u->h'.get? b=some u)(heo:∃u,h'.get? e=some u)
  (new:ce X.prog X.w (upd H x o) h' x o):Inv X pins σ (upd H x o) {s with heap:=h',toks:=t'}:=I.un (Un.write mu he k heo) (I.hok.write mu he k heo new)
theorem Inv.pins_of{pins':aR}(I:Inv X pins σ H s)(h:∀p∈pins',s.heap.get? p.1=some p.2/\H p.1=none/\p.1≠X.env.locals/\p.1∉X.fs/\∀v,p.2.data≠.cell v):Inv X pins' σ H s:=
 ⟨I.ok,I.os,I.bare,I.base,I.loc,I.cell,I.free,I.freeC,λp hp=>(List.mem_append.mp hp).elim (λz=>I.pin p (Ha _ z)) (h p),I.hok,I.len⟩
theorem oz{N:ap}(hN:N.Nodup){i j:Nat}{x:Str}(a:N[i]?=some x)(b:N[j]?=some x):i=j:=by
 obtain⟨h1,e1⟩:=List.getElem?_eq_some_iff.mp a;obtain⟨h2,e2⟩:=List.getElem?_eq_some_iff.mp b;exact(Hc hN).mp (e1.trans e2.symm)
theorem lF{M:KN}{A:KJ}{E:bj}{i:Nat}{x:Str}{v:V}{u:Kt}{Q:Unit->fF}(I:Inv X pins σ H s)(hN:X.N.Nodup)(hi:X.N[i]?=some x)(hx:Loc X.env.scope x)(r:RelV v u)
  (h:∀s',Inv X pins (σ.set i (some v)) H s'->(∃a,J5 a s.heap s'.heap/\(a=X.env.locals\/X.env.cells.lookup x=some a))->Q () s') (hf:X.fn x=true\/X.env.scope.names.lookup x=some .local:=by first|exact .inl rfl|exact .inr rfl|assumption):KO M A (storeName X.env x u) Q E s:=by
 obtain⟨m,hn,hl⟩:=id I.loc;have hcls:(X.env.scope.kind==.class||(X.env.scope.kind==.module&&X.env.locals !=X.env.globals))=false:=by rw[I.ok.kind];rfl
 have hiσ:i<σ.length:=by rw[I.len];exact(List.getElem?_eq_some_iff.mp hi).1
 have cne:=I.cne;have tracked:∀{a:Kv}{h':KC},(∃o,s.heap.get? a=some o/\H a=none)->J5 a s.heap h'->kZ X.prog X.w H h':=λ{a h'} ha hs b ob e=>by
  obtain⟨_,_,hfree⟩:=ha;refine(I.hok b ob e).stay (λc w' hc q=>(hs.2 c ?_).trans q) (λ_ q=>q) λ_ _ q=>q;rintro rfl;rcases hc with rfl|hc
  ·rw[hfree]at e;cases e
  ·rw[hfree]at hc;cases hc
 rcases hx with hk|hk
 ·refine wpAny_storeName_local hk hn (λh' hn' hs=>?_) hcls;obtain⟨oL,_,_,hoL,_⟩:=id hn;refine h _ ⟨I.ok,I.os,I.bare,⟨λb o e n hb hx=>?_,λb o e n hb hx=>?_,I.base.free,λb o e hx=>?_,I.base.tups,I.base.frzs,I.base.tbls⟩,⟨_,hn',λj y v' e1 e2 e3=>?_⟩,λy c e=>?_,I.free,I.freeC,λp hp=>?_,tracked ⟨oL,hoL,I.free⟩ hs,by simpa using I.len⟩ ⟨_,hs,.inl rfl⟩
  ·exact(hs.2 b (G4 (G2 (J3 e) I.ok.above))).trans (I.base.keep b o e n hb hx)
  ·obtain⟨sl,e1⟩:=I.base.slot b o e n hb hx;exact⟨sl,(hs.2 b (G4 (G2 (J3 e) I.ok.above))).trans e1⟩
  ·obtain⟨o',e1⟩:=I.base.there b o e hx;exact⟨o',(hs.2 b (G4 (G2 (J3 e) I.ok.above))).trans e1⟩
  ·by_cases hj:j=i
   ·subst hj;rw[hi]at e1;cases e1;rw[Hf hiσ]at e2;cases e2;exact⟨u,r,.inl ⟨hk,by simp⟩⟩
   ·rw[Hg (Ne.symm hj)]at e2;obtain⟨u',r',q⟩:=hl j y v' e1 e2 e3;refine⟨u',r',?_⟩;rcases q with⟨k,e⟩|⟨k,c,e,z⟩
    ·refine .inl ⟨k,?_⟩
     have:y≠x:=λe=>hj (oz hN e1 (e ▸ hi))
     simp[this,e]
    ·exact .inr ⟨k,c,e,z.sameBut hs (cne y c e)⟩
  ·obtain⟨w',z⟩:=I.cell y c e;exact⟨w',z.sameBut hs (cne y c e)⟩
  ·obtain⟨e,n,ne,nf,d⟩:=I.pin p hp;exact⟨(hs.2 p.1 ne).trans e,n,ne,nf,d⟩
 ·have hfn:X.fn x=true:=by
   rcases hf with z|z
   ·exact z
   ·rw[z]at hk;cases hk
  obtain⟨c,hc⟩:=I.ok.has x (.inl hk);obtain⟨w',z⟩:=I.cell x c hc;refine wpAny_storeName_cell I.ok.kind hk hc z (λh' hc' hs=>?_);obtain⟨oc,hoc,hocd⟩:=id z;refine h {s with heap:=h'} ⟨I.ok,I.os,I.bare,⟨λb o e n hb hx=>?_,λb o e n hb hx=>?_,I.base.free,λb o e hx=>?_,I.base.tups,I.base.frzs,I.base.tbls⟩,⟨m,hn.sameBut hs (Ne.symm (cne x c hc)),λj y v' e1 e2 e3=>?_⟩,λy c' e=>?_,I.free,I.freeC,λp hp=>?_,tracked ⟨oc,hoc,I.freeC x c hc⟩ hs,by simpa using I.len⟩ ⟨c,hs,.inr hc⟩
  ·exact(hs.2 b (G4 (G2 (J3 e) (I.ok.cab x c hfn hc)))).trans (I.base.keep b o e n hb hx)
  ·obtain⟨sl,e1⟩:=I.base.slot b o e n hb hx;exact⟨sl,(hs.2 b (G4 (G2 (J3 e) (I.ok.cab x c hfn hc)))).trans e1⟩
  ·obtain⟨o',e1⟩:=I.base.there b o e hx;exact⟨o',(hs.2 b (G4 (G2 (J3 e) (I.ok.cab x c hfn hc)))).trans e1⟩
  ·by_cases hj:j=i
   ·subst hj;rw[hi]at e1;cases e1;rw[Hf hiσ]at e2;cases e2;exact⟨u,r,.inr ⟨.inl hk,c,hc,hc'⟩⟩
   ·rw[Hg (Ne.symm hj)]at e2;obtain⟨u',r',q⟩:=hl j y v' e1 e2 e3;refine⟨u',r',?_⟩;rcases q with q|⟨k,c',e,z'⟩
    ·exact .inl q
    ·refine .inr ⟨k,c',e,z'.sameBut hs ?_⟩;rintro rfl;exact hj (oz hN e1 (I.ok.inj _ _ _ e hc ▸ hi))
  ·by_cases hcc:c'=c
   ·subst hcc;exact⟨_,hc'⟩
   ·obtain⟨w2,z2⟩:=I.cell y c' e;exact⟨w2,z2.sameBut hs hcc⟩
  ·obtain⟨e,n,ne,nf,d⟩:=I.pin p hp;refine⟨(hs.2 p.1 ?_).trans e,n,ne,nf,d⟩;intro q;rw[q,hoc]at e;have q':oc=p.2:=Option.some.inj e;exact d w' (by rw[<-q'];exact hocd)
theorem kL{M:KN}{A:KJ}{E:bj}{i:Nat}{x:Str}{v:V}{u:Kt}{Q:Unit->fF}(I:Inv X pins σ H s)(hN:X.N.Nodup)(hi:X.N[i]?=some x)(hx:Loc X.env.scope x)(r:RelV v u)
  (h:∀s',Inv X pins (σ.set i (some v)) H s'->Q () s') (hf:X.fn x=true\/X.env.scope.names.lookup x=some .local:=by first|exact .inl rfl|exact .inr rfl|assumption):KO M A (storeName X.env x u) Q E s:=
 lF I hN hi hx r (λs' I' _=>h s' I') hf
theorem Inv.call'{s':Ky}{ch:ay}(I:Inv X pins σ H s)(ho:s'.os=s.os)(u:Un (frs X.stack) ch H H' s.heap s'.heap)(hok:kZ X.prog X.w H' s'.heap)(hg:AllBare s'.gens)
  (hch:∀b∈ch,(b∈X.ex\/X.s₀.heap.objs.size<=b)/\b≠X.env.locals/\(∀x c,X.env.cells.lookup x=some c->c≠b)/\∀p∈X.pn++pins,p.1≠b):Inv X pins σ H' s':=by
 obtain⟨h',g',d',t',o'⟩:=s';have e:o'=s.os:=ho;subst e;exact I.call (g':=g') (t':=t') (d':=d') u hok hg hch
end
noncomputable abbrev XK:=Kt->Option Kv->Hp->Prop
noncomputable abbrev St:=List (Option V)
noncomputable abbrev VK:=V->Hp->Prop
noncomputable abbrev TE:=St->Hp->VK->Prop
noncomputable abbrev TT:=St->Hp->(Bool->Hp->Prop)->Prop
noncomputable abbrev TA:=St->Hp->(aB->Hp->Prop)->Prop
structure Ends where
 nx:St->Hp->Prop
 rt:VK
 bk:St->Hp->Prop:=λ_ _=>False
 ct:St->Hp->Prop:=λ_ _=>False
noncomputable abbrev TS:=Ends->St->Hp->Prop
noncomputable def EP(X:Cx)(pins:aR)(σ:St)(Q:VK)(u:Kt)(s':Ky):Prop:=∃v H',Inv X pins σ H' s'/\RelV v u/\Q v H'
noncomputable def TP(X:Cx)(pins:aR)(σ:St)(Q:Bool->Hp->Prop)(b:Bool)(s':Ky):Prop:=∃H',Inv X pins σ H' s'/\Q b H'
noncomputable def AP(X:Cx)(pins:aR)(σ:St)(Q:aB->Hp->Prop)(us:aL)(s':Ky):Prop:=∃vs H',Inv X pins σ H' s'/\Vals vs us/\Q vs H'
noncomputable def SP(X:Cx)(pins:aR)(D:Ends)(f:Flow)(s':Ky):Prop:=
 match f with
 |.next=>∃σ' H',Inv X pins σ' H' s'/\D.nx σ' H'
 |.brk=>∃σ' H',Inv X pins σ' H' s'/\D.bk σ' H'
 |.cont=>∃σ' H',Inv X pins σ' H' s'/\D.ct σ' H'
 |.ret u=>∃v σ' H',Inv X pins σ' H' s'/\RelV v u/\D.rt v H'
noncomputable def PE(X:Cx)(e:Kw)(t:TE):Prop:=
 ∀(pins:aR)(s:Ky)(σ:St)(H:Hp)(Q:VK),Inv X pins σ H s->t σ H Q->KO (model X.prog X.w) X.A (eval e X.env) (EP X pins σ Q) X.xe s
noncomputable def PT(X:Cx)(e:Kw)(t:TT):Prop:=
 ∀(pins:aR)(s:Ky)(σ:St)(H:Hp)(Q:Bool->Hp->Prop),Inv X pins σ H s->t σ H Q->KO (model X.prog X.w) X.A (isTrue e X.env (eval e X.env)) (TP X pins σ Q) X.xe s
noncomputable def PW(X:Cx)(e:Kw)(t:TT):Prop:=
 ∀(whole:Sem Kt)(pins:aR)(s:Ky)(σ:St)(H:Hp)(Q:Bool->Hp->Prop),Inv X pins σ H s->t σ H Q->KO (model X.prog X.w) X.A (isTrue e X.env whole) (TP X pins σ Q) X.xe s
theorem PW.pt{X:Cx}{e:Kw}{t:TT}(h:PW X e t):PT X e t:=h _
noncomputable def PA(X:Cx)(es:aU)(t:TA):Prop:=
 ∀(pos:Pos)(pins:aR)(s:Ky)(σ:St)(H:Hp)(Q:aB->Hp->Prop),Inv X pins σ H s->t σ H Q->KO (model X.prog X.w) X.A (spliced (backTo pos (KP es X.env))) (AP X pins σ Q) X.xe s
noncomputable def PS(X:Cx)(st:Kx)(t:TS):Prop:=
 ∀(pins:aR)(s:Ky)(σ:St)(H:Hp)(D:Ends),Inv X pins σ H s->t D σ H->KO (model X.prog X.w) X.A (exec st X.env) (SP X pins D) X.xe s
noncomputable def og(X:Cx)(st:cD)(t:TS):Prop:=
 ∀(pins:aR)(s:Ky)(σ:St)(H:Hp)(D:Ends),Inv X pins σ H s->t D σ H->KO (model X.prog X.w) X.A (execs st X.env) (SP X pins D) X.xe s
theorem bV{α:Type}{t:Sem α}{Q Q':α->fF}{M:KN}{A:KJ}{E:bj}{s:Ky}(h:KO M A t Q E s)(hQ:∀a s,Q a s->Q' a s):KO M A t Q' E s:=KQ h hQ λ_ _ x=>x
section
variable{X:Cx}
noncomputable def km(i:Nat):TE:=λσ H Q=>∃v,σ[i]?=some (some v)/\Q v H
noncomputable def tC(v:V):TE:=λ_ H Q=>Q v H
theorem B2{i:Nat}{x:Str}{pos:Pos}(hN:X.N[i]?=some x)(hv:Bp X.env.scope x)(hd:(x==("__debug__":Str))=false:=by decide)(hcd:(x==("__classdict__":Str))=false:=by decide):PE X (.Name x pos) (km i):=by
 intro pins s σ H Q I h;obtain⟨v,e,h⟩:=h;obtain⟨m,hn,hl⟩:=I.loc;obtain⟨u,r,l⟩:=hl i x v hN e hv;have fin:EP X pins σ Q u s:=⟨v,H,I,r,h⟩
 rcases l with⟨hk,hm⟩|⟨hk,c,hc,hcell⟩
 ·exact wpAny_Name (wpAny_loadName_local I.ok.kind hk hn hm fin) hd
 ·rcases hk with hk|hk
  ·exact wpAny_Name (wpAny_loadName_cell I.ok.kind hk hc hcell fin) hd
  ·exact wpAny_Name (wpAny_loadName_free I.ok.kind hk hc hcell fin hcd) hd
theorem Bs{i j pos}:PE X (.Constant (.int i) j pos) (tC (.int i)):=λ_ _ _ H _ I h=>wpAny_Constant_int ⟨.int i,H,I.tok _,⟨_,rfl⟩,h⟩
theorem Cr{b j pos}:PE X (.Constant (.bool b) j pos) (tC (.bl b)):=λ_ _ _ H _ I h=>Constant_bool ⟨.bl b,H,I,rfl,h⟩
theorem Bg{j pos}:PE X (.Constant .none j pos) (tC .non):=λ_ _ _ H _ I h=>Constant_none ⟨.non,H,I,rfl,h⟩
theorem Aw{x j pos}:PE X (.Constant (.str x) j pos) (tC (.str x)):=λ_ _ _ H _ I h=>Calls.Constant_str ⟨.str x,H,I.tok _,⟨_,rfl⟩,h⟩
noncomputable def Gl(X:Cx)(x:Str):Prop:=X.env.kindOf x=some .globalImplicit
theorem gx{E:bj}{pins:aR}{s:Ky}{σ:St}{H:Hp}{x:Str}{u:Kt}{pos:Pos}{Q:bj}(I:Inv X pins σ H s)(hg:Gl X x)(hm:X.mg x=some u)(h:Q u s)
  (hd:(x==("__debug__":Str))=false:=by decide):KO (model X.prog X.w) X.A (eval (.Name x pos) X.env) Q E s:=
 Calls.Name_function_global I.ok.kind hg (Calls.loadGlobal_global (by rw[I.ok.glob];exact I.mod.glob.keeps I.bk) hm h) hd
theorem jd{E:bj}{pins:aR}{s:Ky}{σ:St}{H:Hp}{x:Str}{u:Kt}{pos:Pos}{Q:bj}(I:Inv X pins σ H s)(hg:Gl X x)(hm:X.mg x=none)(hv:KI x=some u)(h:Q u s)
  (hn:x≠"__name__":=by decide) (hd:(x==("__debug__":Str))=false:=by decide):KO (model X.prog X.w) X.A (eval (.Name x pos) X.env) Q E s:=by
 obtain⟨mb,h1,h2⟩:=I.mod.blt;exact Calls.Name_function_global I.ok.kind hg (Calls.loadGlobal_builtin (by rw[I.ok.glob];exact I.mod.glob.keeps I.bk) hm (by rw[I.ok.blt];exact h1.keeps I.bk) ((h2 x hn).trans hv) h) hd
theorem n5{x:Str}{v:V}{u:Kt}{pos:Pos}(hg:Gl X x)(hm:X.mg x=some u)(r:RelV v u)(hd:(x==("__debug__":Str))=false:=by decide):PE X (.Name x pos) (tC v):=
 λ_ _ _ H _ I h=>gx I hg hm ⟨v,H,I,r,h⟩ hd
theorem sq{x:Str}{v:V}{u:Kt}{pos:Pos}(hg:Gl X x)(hm:X.mg x=none)(hv:KI x=some u)(r:RelV v u)(hn:x≠"__name__":=by decide)(hd:(x==("__debug__":Str))=false:=by decide):PE X (.Name x pos) (tC v):=
 λ_ _ _ H _ I h=>jd I hg hm hv ⟨v,H,I,r,h⟩ hn hd
variable{a b:Kw}{ta tb:TE}{pos:Pos}
noncomputable def PC(X:Cx)(op:KR)(a b:Kw)(t:TE):Prop:=
 ∀(pins:aR)(s:Ky)(σ:St)(H:Hp)(Q:VK),Inv X pins σ H s->t σ H Q->
  KO (model X.prog X.w) X.A (eval a X.env) (λv s₁=>KO (model X.prog X.w) X.A (eval b X.env) (λu s₂=>KO (model X.prog X.w) X.A (KS op v u) (EP X pins σ Q) X.xe s₂) X.xe s₁) X.xe s
theorem oX(b:Kw){op:KR}(h:op≠.In)(h2:op≠.NotIn):KU op b=false:=by
 have e1:(op==CmpOp.In)=false:=by cases op<;>first|rfl|exact absurd rfl h
 have e2:(op==CmpOp.NotIn)=false:=by cases op<;>first|rfl|exact absurd rfl h2
 cases b<;>simp[KU,e1,e2]
noncomputable def Fm(ta:TE):TE:=λσ H Q=>ta σ H λx H1=>Q (.bl (decide (x=.non))) H1
theorem RelV.none_iff{x:V}{v:Kt}(r:RelV x v):(v==Value.none)=decide (x=.non):=by
 cases x with
 |non=>cases r;rfl
 |bl _=>cases r;rfl
 |int _=>obtain⟨t,rfl⟩:=r;rfl
 |str _=>obtain⟨t,rfl⟩:=r;rfl
 |byt _=>obtain⟨t,rfl⟩:=r;rfl
 |flt _=>obtain⟨t,rfl⟩:=r;rfl
 |ref _=>cases r;rfl
 |ty _=>cases r;rfl
theorem wr{j pos'}(ha:PE X a ta):PC X .Is a (.Constant .none j pos') (Fm ta):=by
 intro pins s σ H Q I h;refine bV (ha pins s σ H _ I h) λv s1 ⟨x,H1,I1,r1,q1⟩=>?_;exact Constant_none (is_none_gen ⟨.bl _,H1,I1,by rw[r1.none_iff];rfl,q1⟩)
noncomputable def tB(t:TE):TT:=λσ H Q=>t σ H λx H1=>∃c,x=.bl c/\Q c H1
theorem BV{op:KR}{t:TE}(h:PC X op a b t)(h1:KU op b=false:=by first|exact oX _ (by decide) (by decide)|rfl):PE X (.Compare a [op] [b] pos) t:=λpins s σ H Q I hw=>wpAny_Compare1 (h pins s σ H Q I hw) h1
theorem Cb{op:KR}{t:TE}(h:PC X op a b t)(h1:KU op b=false:=by first|exact oX _ (by decide) (by decide)|rfl):PT X (.Compare a [op] [b] pos) (tB t):=by
 intro pins s σ H Q I hw;refine wpAny_isTrue_Compare1 (bV (h pins s σ H _ I hw) λv s1 h1=>bV h1 λu s2 h2=>bV h2 λc s3 ⟨x,H1,I1,r1,q1⟩=>?_) h1;obtain⟨d,rfl,q⟩:=q1;cases r1;exact KW ⟨H1,I1,q⟩
variable{tA tB':TT}{rest:aU}
noncomputable def FV(t u:TT):TT:=λσ H Q=>t σ H λc H1=>if c=true then u σ H1 Q else Q false H1
noncomputable def GN(t u:TT):TT:=λσ H Q=>t σ H λc H1=>if c=true then Q true H1 else u σ H1 Q
noncomputable def Ew(t:TT):TT:=λσ H Q=>t σ H λc H1=>Q (!c) H1
theorem yO(ha:PT X a tA):PW X (.BoolOp .And [a] pos) tA:=by
 intro wh pins s σ H Q I h;refine isTrue_and (bV (ha pins s σ H Q I h) λc s1 e=>?_);cases c with
 |true=>exact isTrue_and_nil e
 |false=>exact e
theorem Bw(ha:PT X a tA):PW X (.BoolOp .Or [a] pos) tA:=by
 intro wh pins s σ H Q I h;refine isTrue_or (bV (ha pins s σ H Q I h) λc s1 e=>?_);cases c with
 |false=>exact isTrue_or_nil e
 |true=>exact e
theorem Au(ha:PT X a tA)(hb:PW X (.BoolOp .And (b::rest) pos) tB'):PW X (.BoolOp .And (a::b::rest) pos) (FV tA tB'):=by
 intro wh pins s σ H Q I h;refine isTrue_and (bV (ha pins s σ H _ I h) λc s1 ⟨H1,I1,q1⟩=>?_);cases c with
 |true=>exact hb wh pins s1 σ H1 Q I1 q1
 |false=>exact⟨H1,I1,q1⟩
theorem CZ(ha:PT X a tA)(hb:PW X (.BoolOp .Or (b::rest) pos) tB'):PW X (.BoolOp .Or (a::b::rest) pos) (GN tA tB'):=by
 intro wh pins s σ H Q I h;refine isTrue_or (bV (ha pins s σ H _ I h) λc s1 ⟨H1,I1,q1⟩=>?_);cases c with
 |true=>exact⟨H1,I1,q1⟩
 |false=>exact hb wh pins s1 σ H1 Q I1 q1
theorem Aq(ha:PT X a tA):PT X (.UnaryOp .Not a pos) (Ew tA):=by
 intro pins s σ H Q I h;exact isTrue_not (ha pins s σ H (λc H1=>Q (!c) H1) I h)
noncomputable def CF(ta tb:TE):TE:=λσ H Q=>ta σ H λx H1=>∃c,x=.bl c/\if c=true then tb σ H1 Q else Q (.bl false) H1
noncomputable def Fk(ta tb:TE):TE:=λσ H Q=>ta σ H λx H1=>∃c,x=.bl c/\if c=true then Q (.bl true) H1 else tb σ H1 Q
noncomputable def De(ta:TE):TE:=λσ H Q=>ta σ H λx H1=>∃c,x=.bl c/\Q (.bl (!c)) H1
theorem BH{op}{t:TE}(h:PE X a t):PE X (.BoolOp op [a] pos) t:=λpins s σ H Q I hw=>BoolOp_one (h pins s σ H Q I hw)
theorem B6(ha:PE X a ta)(hb:PE X (.BoolOp .And (b::rest) pos) tb):PE X (.BoolOp .And (a::b::rest) pos) (CF ta tb):=by
 intro pins s σ H Q I h;refine BoolOp_and (bV (ha pins s σ H _ I h) λv s1 ⟨x,H1,I1,r1,q1⟩=>?_);obtain⟨c,rfl,q1⟩:=q1;cases r1;refine KW ?_;cases c with
 |true=>exact hb pins s1 σ H1 Q I1 q1
 |false=>exact⟨.bl false,H1,I1,rfl,q1⟩
theorem C6(ha:PE X a ta)(hb:PE X (.BoolOp .Or (b::rest) pos) tb):PE X (.BoolOp .Or (a::b::rest) pos) (Fk ta tb):=by
 intro pins s σ H Q I h;refine BoolOp_or (bV (ha pins s σ H _ I h) λv s1 ⟨x,H1,I1,r1,q1⟩=>?_);obtain⟨c,rfl,q1⟩:=q1;cases r1;refine KW ?_;cases c with
 |false=>exact hb pins s1 σ H1 Q I1 q1
 |true=>exact⟨.bl true,H1,I1,rfl,q1⟩
theorem Bm(ha:PE X a ta):PE X (.UnaryOp .Not a pos) (De ta):=by
 intro pins s σ H Q I h;refine UnaryOp_ (bV (ha pins s σ H _ I h) λv s1 ⟨x,H1,I1,r1,q1⟩=>?_);obtain⟨c,rfl,q1⟩:=q1;cases r1;exact not_of (KW ⟨.bl (!c),H1,I1,rfl,q1⟩)
noncomputable def GC(t:TT)(ta tb:TE):TE:=λσ H Q=>t σ H λc H1=>if c=true then ta σ H1 Q else tb σ H1 Q
theorem vJ{c:Kw}(hc:PT X c tA)(ha:PE X a ta)(hb:PE X b tb):PE X (.IfExp c a b pos) (GC tA ta tb):=by
 intro pins s σ H Q I h;refine wpAny_IfExp (bV (hc pins s σ H _ I h) λd s1 ⟨H1,I1,q1⟩=>?_);cases d with
 |true=>exact ha pins s1 σ H1 Q I1 q1
 |false=>exact hb pins s1 σ H1 Q I1 q1
end
noncomputable def gQ(K:Jv)(H:Hp)(a:Kv)(xs:aB):Prop:=
 Rd H a (.lst xs) \/
  ∃(o:Obj)(its:Array Kt)(n:Nat),K.lookup a=some o/\o.cls=.type "list"/\o.dict=none/\o.data=.seq its n/\its.size<=KG/\Vals xs its.toList
noncomputable def jn(K:Jv)(H:Hp)(a:Kv)(xs:aB):Prop:=
 Rd H a (.tup xs) \/
  ∃(o:Obj)(its:Array Kt)(n:Nat),K.lookup a=some o/\o.cls=.type "tuple"/\o.data=.seq its n/\its.size<=KG/\Vals xs its.toList
noncomputable def Fp:Kt->Option V
 |.none=>some .non
 |.bool b=>some (.bl b)
 |.int i _=>some (.int i)
 |.str x _=>some (.str x)
 |.bytes b _=>some (.byt b)
 |.float b _=>some (.flt b)
 |.ref a=>some (.ref a)
 |.type n=>some (.ty n)
 |_=>none
theorem RelV.abs{x:V}{u:Kt}(r:RelV x u):Fp u=some x:=by
 cases x with
 |non=>cases r;rfl
 |bl _=>cases r;rfl
 |int _=>obtain⟨t,rfl⟩:=r;rfl
 |str _=>obtain⟨t,rfl⟩:=r;rfl
 |byt _=>obtain⟨t,rfl⟩:=r;rfl
 |flt _=>obtain⟨t,rfl⟩:=r;rfl
 |ref _=>cases r;rfl
 |ty _=>cases r;rfl
theorem RelV.inj{x y:V}{u:Kt}(r:RelV x u)(q:RelV y u):x=y:=Option.some.inj (r.abs.symm.trans q.abs)
theorem Vals.inj:∀{xs ys:aB}{us:aL},Vals xs us->Vals ys us->xs=ys
 |_,_,_,.nil,.nil=>rfl
 |_,_,_,.cons r t,.cons r' t'=>by rw[r.inj r',Vals.inj t t']
section
variable{X:Cx}{pins:aR}{σ:St}{H:Hp}{s:Ky}{a:Kv}{xs ys:aB}
theorem gQ.of{K:Jv}(h:H a=some (.lst xs)):gQ K H a xs:=.inl (.inl h)
theorem jn.of{K:Jv}(h:H a=some (.tup xs)):jn K H a xs:=.inl (.inl h)
theorem Inv.list(I:Inv X pins σ H s)(h:gQ X.K H a xs):∃its:aL,Vals xs its/\PlainL s.heap a its.toArray/\xs.length<=KG:=by
 rcases h with h|⟨o,its,n,hk,hc,hd,hs,hz,r⟩
 ·obtain⟨z,its,n,r,e⟩:=h.ok I.hok;exact⟨its,r,⟨_,n,e,rfl,rfl,rfl⟩,z⟩
 ·refine⟨its.toList,r,⟨o,n,I.kIn a o hk,hc,hd,by simpa using hs⟩,?_⟩;have e:=r.length;simp only[Array.length_toList]at e;omega
theorem Inv.tuple(I:Inv X pins σ H s)(h:jn X.K H a xs):∃its:aL,Vals xs its/\IsTup s.heap a its.toArray/\xs.length<=KG:=by
 rcases h with h|⟨o,its,n,hk,hc,hs,hz,r⟩
 ·obtain⟨z,its,r,p⟩:=h.ok I.hok;exact⟨its,r,p,z⟩
 ·refine⟨its.toList,r,⟨o,I.kIn a o hk,hc,n,by simpa using hs⟩,?_⟩;have e:=r.length;simp only[Array.length_toList]at e;omega
theorem Inv.list_inj(I:Inv X pins σ H s)(h:gQ X.K H a xs)(h':gQ X.K H a ys):xs=ys:=by
 obtain⟨its,r,⟨o,n,e,_,_,d⟩,_⟩:=I.list h;obtain⟨its',r',⟨o',n',e',_,_,d'⟩,_⟩:=I.list h';rw[e]at e';cases e';rw[d]at d';injection d' with d1 _
 have:its=its':=by simpa using congrArg Array.toList d1
 subst this;exact r.inj r'
theorem Inv.tuple_inj(I:Inv X pins σ H s)(h:jn X.K H a xs)(h':jn X.K H a ys):xs=ys:=by
 obtain⟨its,r,⟨o,e,_,n,d⟩,_⟩:=I.tuple h;obtain⟨its',r',⟨o',e',_,n',d'⟩,_⟩:=I.tuple h';rw[e]at e';cases e';rw[d]at d';injection d' with d1 _
 have:its=its':=by simpa using congrArg Array.toList d1
 subst this;exact r.inj r'
end
noncomputable abbrev Cx.wish(X:Cx)(E:bj):Cx:={X with xe:=E}
noncomputable abbrev Cx.nox(X:Cx):Cx:=X.wish λ_ _=>False
theorem Cx.Ok.wish{X:Cx}(ok:X.Ok)(E:bj):(X.wish E).Ok:=
 ⟨ok.mod,ok.kind,ok.glob,ok.blt,ok.above,ok.inj,ok.has,ok.cab,ok.hd,ok.frames,ok.stk,ok.exf,ok.bs,ok.bsz,ok.noex,ok.exfs,ok.funs,ok.frf⟩
theorem Cx.Ok.unwish{X:Cx}{E:bj}(ok:(X.wish E).Ok):X.Ok:=
 ⟨ok.mod,ok.kind,ok.glob,ok.blt,ok.above,ok.inj,ok.has,ok.cab,ok.hd,ok.frames,ok.stk,ok.exf,ok.bs,ok.bsz,ok.noex,ok.exfs,ok.funs,ok.frf⟩
section
variable{X:Cx}{pins:aR}{σ:St}{H:Hp}{s:Ky}{E:bj}
theorem Inv.wish(I:Inv X pins σ H s)(E:bj):Inv (X.wish E) pins σ H s:=⟨I.ok.wish E,I.os,I.bare,I.base,I.loc,I.cell,I.free,I.freeC,I.pin,I.hok,I.len⟩
theorem Inv.unwish(I:Inv (X.wish E) pins σ H s):Inv X pins σ H s:=⟨I.ok.unwish,I.os,I.bare,I.base,I.loc,I.cell,I.free,I.freeC,I.pin,I.hok,I.len⟩
theorem SP.unwish{D:Ends}{f:Flow}{s':Ky}(h:SP (X.wish E) pins D f s'):SP X pins D f s':=by
 cases f with
 |next=>obtain⟨σ',H',I,q⟩:=h;exact⟨σ',H',I.unwish,q⟩
 |brk=>obtain⟨σ',H',I,q⟩:=h;exact⟨σ',H',I.unwish,q⟩
 |cont=>obtain⟨σ',H',I,q⟩:=h;exact⟨σ',H',I.unwish,q⟩
 |ret u=>obtain⟨v,σ',H',I,r,q⟩:=h;exact⟨v,σ',H',I.unwish,r,q⟩
theorem og.nox{st:cD}{t:TS}(h:og X.nox st t):og X st t:=λpins s σ H D I hw=>
 KQ (h pins s σ H D (I.wish _) hw) (λ_ _ q=>q.unwish) λ_ _ z=>False.elim z
end
section
variable{X:Cx}{st:Kx}{rest:cD}{t u:TS}{e:Kw}{te:TE}{pos:Pos}
noncomputable def wR:TS:=λD σ H=>D.nx σ H
noncomputable def Ff(t u:TS):TS:=λD σ H=>t {D with nx:=u D} σ H
theorem sd:og X [] wR:=λ_ _ σ H _ I h=>KY ⟨σ,H,I,h⟩
theorem o4(h1:PS X st t)(h2:og X rest u):og X (st::rest) (Ff t u):=by
 intro pins s σ H D I h;refine wpAny_execs_cons (bV (h1 pins s σ H {D with nx:=u D} I h) λf s1 q=>?_);cases f with
 |next=>
  obtain⟨σ',H',I',q⟩:=q;exact h2 pins s1 σ' H' D I' q
 |ret v=>exact q
 |brk=>exact q
 |cont=>exact q
theorem nR(h1:PS X st t):og X [st] t:=by
 intro pins s σ H D I h;refine wpAny_execs_cons (bV (h1 pins s σ H D I h) λf s1 q=>?_);cases f with
 |next=>exact KY q
 |ret v=>exact q
 |brk=>exact q
 |cont=>exact q
theorem yd:PS X (.Pass pos) wR:=λ_ _ σ H _ I h=>wpAny_Pass ⟨σ,H,I,h⟩
theorem Inv.quiet{pins:aR}{σ:St}{H:Hp}{s:Ky}(I:Inv X pins σ H s):interactive X.env=false:=by simp[interactive,I.ok.kind]
theorem Bl{x j pos pos'}:PS X (.Expr (.Constant (.str x) j pos) pos') wR:=λ_ s σ H _ I h=>wpAny_Expr (Calls.Constant_str (show SP X _ _ .next {s with toks:=s.toks+1}from⟨σ,H,I.tok _,h⟩)) I.quiet
noncomputable def CW(te:TE):TS:=λD σ H=>te σ H λ_ H1=>D.nx σ H1
theorem rC(he:PE X e te)(hs:swapsWith e none pos.line X.env=pure false:=by rfl):PS X (.Expr e pos) (CW te):=by
 intro pins s σ H D I h;exact wpAny_Expr_any (bV (he pins s σ H _ I h) λv s1 ⟨x,H1,I1,r1,q1⟩=>⟨σ,H1,I1,q1⟩) I.quiet hs
noncomputable def EH(te:TE):TS:=λD σ H=>te σ H D.rt
theorem AH(he:PE X e te):PS X (.Return (some e) pos) (EH te):=by
 intro pins s σ H D I h;exact wpAny_Return_some (bV (he pins s σ H _ I h) λv s1 ⟨x,H1,I1,r1,q1⟩=>⟨x,σ,H1,I1,r1,q1⟩)
noncomputable def Ef(c:TT)(t u:TS):TS:=λD σ H=>c σ H λb H1=>if b=true then t D σ H1 else u D σ H1
theorem Cq{c:Kw}{a b:cD}{tc:TT}(hc:PT X c tc)(ha:og X a t)(hb:og X b u):PS X (.If c a b pos) (Ef tc t u):=by
 intro pins s σ H D I h;refine wpAny_If (bV (hc pins s σ H _ I h) λd s1 ⟨H1,I1,q1⟩=>?_);cases d with
 |true=>exact ha pins s1 σ H1 D I1 q1
 |false=>exact hb pins s1 σ H1 D I1 q1
end
noncomputable abbrev TG:=V->St->Hp->(St->Hp->Prop)->Prop
noncomputable abbrev zK:=List V->St->Hp->(St->Hp->Prop)->Prop
noncomputable def PG(X:Cx)(target:Kw)(t:TG):Prop:=
 ∀(pins:aR)(s:Ky)(σ:St)(H:Hp)(v:V)(u:Kt)(Q:St->Hp->Prop),Inv X pins σ H s->RelV v u->t v σ H Q->
  KO (model X.prog X.w) X.A (assign target X.env u) (λ_ s'=>∃σ' H',Inv X pins σ' H' s'/\Q σ' H') X.xe s
noncomputable def Dj(X:Cx)(ts:aU)(t:zK):Prop:=
 ∀(pins:aR)(s:Ky)(σ:St)(H:Hp)(vs:aB)(us:aL)(Q:St->Hp->Prop),Inv X pins σ H s->Vals vs us->t vs σ H Q->
  KO (model X.prog X.w) X.A (assignInOrder ((assignEach ts X.env).map (·.2)) us) (λ_ s'=>∃σ' H',Inv X pins σ' H' s'/\Q σ' H') X.xe s
noncomputable abbrev BD:=V->V->V->Hp->(Hp->Prop)->Prop
noncomputable def Cp(X:Cx)(t:BD):Prop:=
 ∀(pins:aR)(s:Ky)(σ:St)(H:Hp)(o i v:V)(ov iv u:Kt)(Q:Hp->Prop),Inv X pins σ H s->RelV o ov->RelV i iv->RelV v u->t o i v H Q->
  KO (model X.prog X.w) X.A (setItem ov iv u) (λ_ s'=>∃H',Inv X pins σ H' s'/\Q H') X.xe s
section
variable{X:Cx}{pos:Pos}
noncomputable def lO(i:Nat):TG:=λv σ H Q=>Q (σ.set i (some v)) H
theorem yC{i:Nat}{x:Str}(hN:X.N.Nodup)(hi:X.N[i]?=some x)(hx:Loc X.env.scope x)(hf:X.fn x=true\/X.env.scope.names.lookup x=some .local:=by first|exact .inl rfl|exact .inr rfl|assumption):PG X (.Name x pos) (lO i):=by
 intro pins s σ H v u Q I r h;exact wpAny_assign_Name (kL I hN hi hx r (λs' I'=>⟨_,H,I',h⟩) hf)
noncomputable def Es:zK:=λvs σ H Q=>vs=[]/\Q σ H
noncomputable def Di(t:TG)(u:zK):zK:=λvs σ H Q=>∃v r,vs=v::r/\t v σ H λσ' H'=>u r σ' H' Q
theorem zl:Dj X [] Es:=by
 intro pins s σ H vs us Q I r h;obtain⟨e,h⟩:=h;subst e;cases r;exact assignInOrder_nil ⟨σ,H,I,h⟩
theorem uV{e:Kw}{es:aU}{t:TG}{u:zK}(h1:PG X e t)(h2:Dj X es u)
  (hs:(assignEach (e::es) X.env).map (·.2)=assign e X.env::(assignEach es X.env).map (·.2):=by rfl):Dj X (e::es) (Di t u):=by
 intro pins s σ H vs us Q I r h;obtain⟨v,vr,e1,h⟩:=h;subst e1;cases r with
 |cons r rr=>
  rw[hs];refine assignInOrder_cons (bV (h1 pins s σ H _ _ _ I r h) λ_ s1 ⟨σ1,H1,I1,q1⟩=>?_);exact h2 pins s1 σ1 H1 _ _ Q I1 rr q1
noncomputable def E9(K:Jv)(n:Nat)(t:zK):TG:=λv σ H Q=>∃a xs,v=.ref a/\jn K H a xs/\xs.length=n/\t xs σ H Q
theorem Bj{es:aU}{k:Nat}{t:zK}{n:Nat}(hc:X.calm=true)(h:Dj X es t)
  (hn:(assignEach es X.env).length=n:=by rfl) (hst:(assignEach es X.env).findIdx? (·.1)=none:=by rfl):PG X (.Tuple es k pos) (E9 X.K n t):=by
 intro pins s σ H v u Q I r hw;obtain⟨a,xs,e1,hq,hl,hw⟩:=hw;subst e1;cases r;obtain⟨its,rv,ht,hz⟩:=I.tuple hq;refine assign_Tuple_tuple (I.ok.hd hc) ht (by simp[hn,<-hl,rv.length]) hst λh' hx=>?_;have I1:Inv X pins σ H {s with heap:=h'}:=I.kept (t':=s.toks) λb o e=>hx b o (G4 (J3 e)) e;exact h pins _ σ H xs _ Q I1 (by simpa using rv) hw
noncomputable def cI(to ti:TE)(t:BD):TG:=λv σ H Q=>to σ H λo H1=>ti σ H1 λi H2=>t o i v H2 λH3=>Q σ H3
theorem An{o i:Kw}{to ti:TE}{t:BD}(ho:PE X o to)(hi:PE X i ti)(hs:Cp X t)
  (ha:∀ v,assign (.Subscript o i pos) X.env v=(do
   let ov<-holding [v] (eval o X.env)
   let iv<-holding [v,ov] (eval i X.env)
   standAt pos
   holding [v,ov,iv] (setItem ov iv v)
   release [v,ov,iv] []):=by intro _;rfl):PG X (.Subscript o i pos) (cI to ti t):=by
 intro pins s σ H v u Q I r h;rw[ha];refine KZ (K1 (bV (ho pins s σ H _ I h) λov s1 ⟨x,H1,I1,r1,q1⟩=>?_));refine KZ (K1 (bV (hi pins s1 σ H1 _ I1 q1) λiv s2 ⟨y,H2,I2,r2,q2⟩=>?_));refine KZ (K2 (KZ (K1 (bV (hs pins s2 σ H2 x y v ov iv u _ I2 r1 r2 r q2) λ_ s3 ⟨H3,I3,q3⟩=>?_))));exact wpAny_release ⟨σ,H3,I3,q3⟩
noncomputable def ww(te:TE)(g:TG):TS:=λD σ H=>te σ H λx H1=>g x σ H1 D.nx
theorem v6{tg e:Kw}{te:TE}{g:TG}(he:PE X e te)(hg:PG X tg g)(hs:swapsWithSole [tg] e pos.line X.env=pure false:=by rfl)(hw:swappedStores [tg] e X.env=pure none:=by rfl)
  (h1:(assignEach [tg] X.env).map (·.2)=[assign tg X.env]:=by rfl):PS X (.Assign [tg] e pos) (ww te g):=by
 intro pins s σ H D I h;refine wpAny_Assign_stores (bV (he pins s σ H _ I h) λv s1 ⟨x,H1,I1,r1,q1⟩=>?_) hs hw;rw[h1];exact bV (hg pins s1 σ H1 x v _ I1 r1 q1) λ_ s2 q=>q
theorem vN{i:Nat}{x:Str}{e:Kw}{te:TE}{pos':Pos}(hN:X.N.Nodup)(hi:X.N[i]?=some x)(hx:Loc X.env.scope x)(he:PE X e te)(hs:swapsWith e (some (.Name x pos')) pos.line X.env=pure false:=by rfl)(hf:X.fn x=true\/X.env.scope.names.lookup x=some .local:=by first|exact .inl rfl|exact .inr rfl|assumption):
  PS X (.Assign [.Name x pos'] e pos) (ww te (lO i)):=by
 intro pins s σ H D I h;refine wpAny_Assign_Name (bV (he pins s σ H _ I h) λv s1 ⟨y,H1,I1,r1,q1⟩=>?_) hs;exact kL I1 hN hi hx r1 (λs2 I2=>⟨_,H1,I2,q1⟩) hf
end
structure It where
 go:Nat->Hp->Prop
 yld:Nat->Hp->V->Hp->Prop
 stop:Nat->Hp->Prop
noncomputable def kW(X:Cx)(pins:aR)(H:Hp)(b:Kv):Prop:=
 H b=none/\b≠X.env.locals/\b∉X.fs/\(b∈X.ex\/X.s₀.heap.objs.size<=b)/\(∀x c,X.env.cells.lookup x=some c->c≠b)/\∀p∈X.pn++pins,p.1≠b
theorem Inv.fpOk{X:Cx}{pins:aR}{σ:St}{H H':Hp}{s:Ky}{b:Kv}(I:Inv X pins σ H s)(hb:s.heap.objs.size<=b)(hn:H' b=none):kW X pins H' b:=by
 refine⟨hn,Hh (G2 I.lt hb),I.nofs hb,.inr (G5 I.sz hb),λx c e z=>?_,λp hp z=>?_⟩
 ·obtain⟨v,q⟩:=I.cell x c e;exact absurd (G2 q.lt (by rw[z];exact hb)) (G3 _)
 ·exact absurd (G2 (J3 (I.pin p hp).1) (by rw[z];exact hb)) (G3 _)
structure Turn(P:KA)(w:Kz)(K:Jv)(tg:Kw)(J:It)(fp:ay)(it:Kv)(tn:Nat->KC->Prop):Prop where
 mem:it∈fp
 obj:∀i h,tn i h->∀b∈fp,∃o,h.get? b=some o/\∀v,o.data≠.cell v
 keep:∀i h h',tn i h->(∀b∈fp,∀o,h.get? b=some o->h'.get? b=some o)->tn i h'
 item:∀(X:Cx),X.prog=P->X.w=w->X.K=K->X.calm=true->∀(i:Nat)(pins:aR)(s:Ky)(σ:St)(H:Hp)(E:bj),Inv X pins σ H s->(∀b∈fp,kW X pins H b)->tn i s.heap->J.go i H->
  KO (model P w) X.A (pyNext (.ref it)) (λr s1=>∃u,r=some u/\
   KO (model P w) X.A (letOwnedTupleGo tg (.ref it) u) (λ_ s2=>∃x H',Inv X pins σ H' s2/\RelV x u/\J.yld i H x H'/\tn (i+1) s2.heap/\∀b∈fp,H' b=none) E s1) E s
 done:∀(X:Cx),X.prog=P->X.w=w->X.K=K->X.calm=true->∀(i:Nat)(pins:aR)(s:Ky)(σ:St)(H:Hp)(E:bj),Inv X pins σ H s->(∀b∈fp,kW X pins H b)->tn i s.heap->J.stop i H->
  KO (model P w) X.A (pyNext (.ref it)) (λr s1=>r=none/\Inv X pins σ H s1) E s
 self:∀(A:KJ)(i:Nat)(s:Ky)(Q:bj)(E:bj),tn i s.heap->Q (.ref it) s->KO (model P w) A (pyIter (.ref it)) Q E s
noncomputable abbrev TI:=St->Hp->(It->Hp->Prop)->Prop
noncomputable def PIE(X:Cx)(pins:aR)(σ:St)(tg:Kw)(R:It->Hp->Prop)(itv:Kt)(s2:Ky):Prop:=
 ∃(it:Kv)(fp:ay)(tn:Nat->KC->Prop)(J:It)(H':Hp),itv=.ref it/\Inv X pins σ H' s2/\Turn X.prog X.w X.K tg J fp it tn/\tn 0 s2.heap/\(∀b∈fp,kW X pins H' b)/\R J H'
noncomputable def PI(X:Cx)(tg iter:Kw)(wi:TI):Prop:=
 ∀(pins:aR)(s:Ky)(σ:St)(H:Hp)(R:It->Hp->Prop),Inv X pins σ H s->wi σ H R->
  KO (model X.prog X.w) X.A (eval iter X.env) (λv s1=>KO (model X.prog X.w) X.A (pyIter v) (PIE X pins σ tg R) X.xe s1) X.xe s
theorem vY{M:KN}{A:KJ}{E:bj}{s:Ky}{tg:Kw}{it:Kv}{u:Kt}{o:Obj}{n:String}{vs:Array Kt}{Q:Unit->fF}(ho:s.heap.get? it=some o)(hc:o.cls=.type n)(hd:o.data=.fields vs)
    (hn:["enumerate","zip","dict_itemiterator","dict_reverseitemiterator","odict_iterator","itertools.zip_longest","itertools.pairwise"].contains n=false) (hQ:Q () s):KO M A (letOwnedTupleGo tg (.ref it) u) Q E s:=by
  unfold letOwnedTupleGo;cases tg<;>first
    |exact K3 hQ
    | (cases u <;> first
        |exact K3 hQ
        | (refine KZ (wpAny_load ho ?_)
           rw[hc,hd];show KO M A (if(["enumerate","zip","dict_itemiterator","dict_reverseitemiterator","odict_iterator","itertools.zip_longest","itertools.pairwise"].contains n&&vs[0]?==some (rawInt _))=true then _ else _) Q E s;rw[if_neg (by intro h;rw[hn,Hi]at h;cases h)];exact K3 hQ))
noncomputable def FC(K:Jv)(a:Kv):It:=
 ⟨λi H=>∃xs x,gQ K H a xs/\xs[i]?=some x,λi H x H'=>H'=H/\∀xs,gQ K H a xs->xs[i]?=some x,λi H=>∃xs,gQ K H a xs/\xs.length<=i⟩
noncomputable def Ez(K:Jv)(a:Kv):It:=
 ⟨λi H=>∃xs x,jn K H a xs/\xs[i]?=some x,λi H x H'=>H'=H/\∀xs,jn K H a xs->xs[i]?=some x,λi H=>∃xs,jn K H a xs/\xs.length<=i⟩
noncomputable def DJ(lo:Int)(n:Nat):It:=⟨λi _=>i<n,λi H x H'=>H'=H/\x=.int (lo+i),λi _=>n<=i⟩
theorem ud{P:KA}{w:Kz}{K:Jv}{tg:Kw}(a it:Kv):Turn P w K tg (FC K a) [it] it (λi h=>h.IsListIter it a i)where
 mem:=by simp
 obj:=λi h st b hb=>by
  have e:b=it:=by simpa using hb
  subst e;obtain⟨o,e,c,d⟩:=st;exact⟨o,e,λv z=>by rw[d]at z;cases z⟩
 keep:=λi h h' st k=>st.at λo e=>k it (by simp) o e
 item:=by
  intro X hP hw hK hc i pins s σ H E I hf st hg;subst hP hw hK;obtain⟨xs,x,hq,hx⟩:=hg;obtain⟨its,rv,p,hz⟩:=I.list hq;obtain⟨u,hu,ru⟩:=rv.get hx;obtain⟨f0,f1,f2,f3,f4,f5⟩:=hf it (by simp);refine wpAny_pyNext_list_item st p.isList (x:=u) (by simpa using hu) λh' st' sb=>?_;have I1:Inv X pins σ H {s with heap:=h'}:=I.turned (t':=s.toks) (λb o hb e=>(sb.2 b hb).trans e) f0 f1 f3 f4 f5;obtain⟨o,e,c,d⟩:=id st';exact⟨u,rfl,vY (s:={s with heap:=h'}) e c d (by decide) ⟨x,H,I1,ru,⟨rfl,λys hy=>by rw[I.list_inj hy hq];exact hx⟩,st',λb hb=>(hf b hb).1⟩⟩
 done:=by
  intro X hP hw hK hc i pins s σ H E I hf st hg;subst hP hw hK;obtain⟨xs,hq,hx⟩:=hg;obtain⟨its,rv,p,hz⟩:=I.list hq;obtain⟨f0,f1,f2,f3,f4,f5⟩:=hf it (by simp);have hl:=rv.length;exact wpAny_pyNext_list_end (I.ok.hd hc) st p.isList (by simp;omega) λh' eb=>⟨rfl,I.turned (t':=s.toks) (λb o hb e=>eb b o hb e) f0 f1 f3 f4 f5⟩
 self:=λ_ _ _ _ _ st h=>wpAny_pyIter_listiter st h
theorem pM{P:KA}{w:Kz}{K:Jv}{tg:Kw}(a it:Kv):Turn P w K tg (Ez K a) [it] it (λi h=>h.IsTupleIter it a i)where
 mem:=by simp
 obj:=λi h st b hb=>by
  have e:b=it:=by simpa using hb
  subst e;obtain⟨o,e,c,d⟩:=st;exact⟨o,e,λv z=>by rw[d]at z;cases z⟩
 keep:=λi h h' st k=>st.at λo e=>k it (by simp) o e
 item:=by
  intro X hP hw hK hc i pins s σ H E I hf st hg;subst hP hw hK;obtain⟨xs,x,hq,hx⟩:=hg;obtain⟨its,rv,p,hz⟩:=I.tuple hq;obtain⟨u,hu,ru⟩:=rv.get hx;obtain⟨f0,f1,f2,f3,f4,f5⟩:=hf it (by simp);refine wpAny_pyNext_tuple_item st (show s.heap.IsTuple a its.toArray from p) (x:=u) (by simpa using hu) λh' st' sb=>?_;have I1:Inv X pins σ H {s with heap:=h'}:=I.turned (t':=s.toks) (λb o hb e=>(sb.2 b hb).trans e) f0 f1 f3 f4 f5;obtain⟨o,e,c,d⟩:=id st';exact⟨u,rfl,vY (s:={s with heap:=h'}) e c d (by decide) ⟨x,H,I1,ru,⟨rfl,λys hy=>by rw[I.tuple_inj hy hq];exact hx⟩,st',λb hb=>(hf b hb).1⟩⟩
 done:=by
  intro X hP hw hK hc i pins s σ H E I hf st hg;subst hP hw hK;obtain⟨xs,hq,hx⟩:=hg;obtain⟨its,rv,p,hz⟩:=I.tuple hq;obtain⟨f0,f1,f2,f3,f4,f5⟩:=hf it (by simp);have hl:=rv.length;exact wpAny_pyNext_tuple_end (I.ok.hd hc) st (show s.heap.IsTuple a its.toArray from p) (by simp;omega) λh' eb=>⟨rfl,I.turned (t':=s.toks) (λb o hb e=>eb b o hb e) f0 f1 f3 f4 f5⟩
 self:=λ_ _ _ _ _ st h=>wpAny_pyIter_tupleiter st h
theorem qq{P:KA}{w:Kz}{K:Jv}{tg:Kw}(it:Kv)(lo:Int)(n:Nat):Turn P w K tg (DJ lo n) [it] it (λi h=>IsRangeIter h it (lo+(i:Nat)*1) ((n:Int)-(i:Nat)) 1)where
 mem:=by simp
 obj:=λi h st b hb=>by
  have e:b=it:=by simpa using hb
  subst e;exact⟨_,st,λv z=>by
   have z':Data.fields _=Data.cell v:=z;cases z'⟩
 keep:=λi h h' st k=>k it (by simp) _ st
 item:=by
  intro X hP hw hK hc i pins s σ H E I hf st hg;subst hP hw hK;obtain⟨f0,f1,f2,f3,f4,f5⟩:=hf it (by simp);have W:=Walks.range (prog:=X.prog) (w:=X.w) (I.ok.hd hc) it lo 1 n;refine W.item i s _ _ hg st λv h' tk hv st' kk=>?_;obtain⟨t,rfl⟩:=hv;have I1:Inv X pins σ H {s with heap:=h',toks:=tk}:=I.turned (λb o hb e=>kk b o (by simpa using hb) e) f0 f1 f3 f4 f5;refine⟨_,rfl,vY (s:={s with heap:=h',toks:=tk}) (n:="range_iterator") st' rfl rfl (by decide) ⟨.int (lo+i),H,I1,⟨t,?_⟩,⟨rfl,rfl⟩,st',λb hb=>(hf b hb).1⟩⟩;rw[Int.mul_one]
 done:=by
  intro X hP hw hK hc i pins s σ H E I hf st hg;subst hP hw hK;obtain⟨f0,f1,f2,f3,f4,f5⟩:=hf it (by simp);exact wpAny_pyNext_range_end (I.ok.hd hc) st (by have:n<=i:=hg;omega) λh' eb=>⟨rfl,I.turned (t':=s.toks) (λb o hb e=>eb b o hb e) f0 f1 f3 f4 f5⟩
 self:=λ_ _ _ _ _ st h=>wpAny_pyIter_rangeiter st h
section
variable{X:Cx}{tg:Kw}
noncomputable def Dp(K:Jv)(tl:TE):TI:=λσ H R=>tl σ H λx H1=>∃a,x=.ref a/\(∃xs,gQ K H1 a xs)/\R (FC K a) H1
noncomputable def FJ(K:Jv)(tl:TE):TI:=λσ H R=>tl σ H λx H1=>∃a,x=.ref a/\(∃xs,jn K H1 a xs)/\R (Ez K a) H1
theorem rh{l:Kw}{tl:TE}(hl:PE X l tl):PI X tg l (Dp X.K tl):=by
 intro pins s σ H R I h;refine bV (hl pins s σ H _ I h) λv s1 ⟨x,H1,I1,r1,q1⟩=>?_;obtain⟨a,e,⟨xs,hq⟩,q⟩:=q1;subst e;cases r1;obtain⟨its,rv,p,hz⟩:=I1.list hq;refine K4 p.isList ?_;refine⟨s1.heap.objs.size,[s1.heap.objs.size],_,_,H1,rfl,I1.kept (t':=s1.toks) λb o e=>J6 _ e,ud a _,⟨_,J7 _ rfl,rfl,rfl⟩,λb hb=>?_,q⟩;have e:b=s1.heap.objs.size:=by simpa using hb
 subst e;exact I1.fpOk (Hj _) (I1.hok.fresh (Hj _))
theorem AK{l:Kw}{tl:TE}(hl:PE X l tl):PI X tg l (FJ X.K tl):=by
 intro pins s σ H R I h;refine bV (hl pins s σ H _ I h) λv s1 ⟨x,H1,I1,r1,q1⟩=>?_;obtain⟨a,e,⟨xs,hq⟩,q⟩:=q1;subst e;cases r1;obtain⟨its,rv,p,hz⟩:=I1.tuple hq;refine wpAny_pyIter_tuple (show s1.heap.IsTuple a its.toArray from p) ?_;refine⟨s1.heap.objs.size,[s1.heap.objs.size],_,_,H1,rfl,I1.kept (t':=s1.toks) λb o e=>J6 _ e,pM a _,⟨_,J7 _ rfl,rfl,rfl⟩,λb hb=>?_,q⟩;have e:b=s1.heap.objs.size:=by simpa using hb
 subst e;exact I1.fpOk (Hj _) (I1.hok.fresh (Hj _))
theorem vp{pins:aR}{σ:St}{H:Hp}{s:Ky}{R:It->Hp->Prop}{E:bj}{lo hi:Int}{t u v:Tok}{tk:Nat}(I:Inv X pins σ H s)(h1:-(2^62)<=lo)(h2:lo<2^62)(h3:-(2^62)<=hi)(h4:hi<2^62)
  (q:R (DJ lo (hi-lo).toNat) H):KO (model X.prog X.w) X.A (pyIter (.ref s.heap.objs.size)) (PIE X pins σ tg R) E {s with heap:=s.heap.push {cls:=.type "range",data:=.fields #[.int lo t,.int hi u,.int 1 v]},toks:=tk}:=by
 refine wpAny_pyIter_range (IsRange.new ..) (small_one h1 h2 h3 h4) ?_;have I1:Inv X pins σ H {s with heap:=s.heap.push {cls:=.type "range",data:=.fields #[.int lo t,.int hi u,.int 1 v]},toks:=tk}:=I.kept λb o e=>J6 _ e;refine⟨(s.heap.push {cls:=.type "range",data:=.fields #[.int lo t,.int hi u,.int 1 v]}).objs.size,[(s.heap.push {cls:=.type "range",data:=.fields #[.int lo t,.int hi u,.int 1 v]}).objs.size],_,_,H,rfl,
  I1.kept (t':=tk) λb o e=>J6 _ e,qq _ lo (hi-lo).toNat,?_,λb hb=>?_,q⟩
 ·have e1:lo+((0:Nat):Int)*1=lo:=by simp
  have e2:(((hi-lo).toNat:Nat):Int)-((0:Nat):Int)=Builtin.Range.rangeSize lo hi 1:=by rw[rangeSize_one];split<;>omega
  show IsRangeIter _ _ (lo+((0:Nat):Int)*1) ((((hi-lo).toNat:Nat):Int)-((0:Nat):Int)) 1;rw[e1,e2];exact J7 _ rfl
 ·have e:b=(s.heap.push {cls:=.type "range",data:=.fields #[.int lo t,.int hi u,.int 1 v]}).objs.size:=by simpa using hb
  subst e;exact I1.fpOk (Hj _) (I1.hok.fresh (Hj _))
noncomputable def CK(ta:TA):TI:=λσ H R=>ta σ H λvs H1=>∃j:Int,vs=[.int j]/\-(2^62)<=j/\j<2^62/\R (DJ 0 j.toNat) H1
theorem uy{a:Kw}{ta:TA}{p pos:Pos}(hg:Gl X "range")(hm:X.mg "range"=none)(ha:PA X [a] ta)(hs:KP [a] X.env=[(false,eval a X.env)]:=by rfl):PI X tg (.Call (.Name "range" p) [a] [] pos) (CK ta):=by
 intro pins s σ H R I h;refine Call_ (jd I hg hm boot_range (Kf (bV (ha pos pins s σ H _ I h) λus s1 ⟨vs,H1,I1,r1,q1⟩=>?_) hs rfl));obtain⟨j,e,q1,q2,q⟩:=q1;subst e;cases r1 with
 |cons r rr=>
  cases rr;obtain⟨t,rfl⟩:=r;exact call_range_1 (vp I1 ‹0› ‹0› q1 q2 (by simpa using q))
noncomputable def EA(wi:TI)(g:TG)(tb:TS):TS:=λD σ H=>wi σ H λJ H1=>∃W:Nat->Nat->St->Hp->Prop,(∃m,W 0 m σ H1)/\∀i m σ H,W i m σ H->
 (J.stop i H/\D.nx σ H)\/(J.go i H/\∃N:St->Hp->Prop,(∀σ' H',N σ' H'->∃m',m'<m/\W (i+1) m' σ' H')/\∀x H',J.yld i H x H'->g x σ H' λσ2 H2=>tb {D with nx:=N,ct:=N,bk:=D.nx} σ2 H2)
noncomputable def kF(fp:ay)(h:KC):aR:=fp.filterMap λb=>(h.get? b).map λo=>(b,o)
theorem fh{fp:ay}{h:KC}{b:Kv}{o:Obj}(hb:b∈fp)(e:h.get? b=some o):(b,o)∈kF fp h:=List.mem_filterMap.mpr ⟨b,hb,by rw[e];rfl⟩
theorem tW{fp:ay}{h:KC}{p:Kv×Obj}(hp:p∈kF fp h):p.1∈fp/\h.get? p.1=some p.2:=by
 obtain⟨b,hb,e⟩:=List.mem_filterMap.mp hp;cases q:h.get? b with
 |none=>rw[q]at e;cases e
 |some o=>
  rw[q]at e;have e':(b,o)=p:=Option.some.inj e;subst e';exact⟨hb,q⟩
theorem Inv.pinned{pins:aR}{σ:St}{H:Hp}{s:Ky}{fp:ay}(I:Inv X pins σ H s)(hf:∀b∈fp,kW X pins H b)(ho:∀b∈fp,∃o,s.heap.get? b=some o/\∀v,o.data≠.cell v):Inv X (pins++kF fp s.heap) σ H s:=
 I.pins_of λp hp=>(List.mem_append.mp hp).elim (λz=>I.pin p (Hk _ z)) λz=>by
  obtain⟨hb,e⟩:=tW z;obtain⟨f0,f1,f2,_⟩:=hf p.1 hb;obtain⟨o,e',d⟩:=ho p.1 hb;rw[e]at e';cases e';exact⟨e,f0,f1,f2,d⟩
theorem Inv.unpinned{pins pl:aR}{σ:St}{H:Hp}{s:Ky}(I:Inv X (pins++pl) σ H s):Inv X pins σ H s:=I.pins_of λp hp=>I.pin p (Hk _ (Ha _ hp))
theorem Ao{iter:Kw}{body:cD}{wi:TI}{g:TG}{tb:TS}{pos:Pos}(hp:K5 (model X.prog X.w) X.A X.env X.xe)(hc:X.calm=true)(hi:PI X tg iter wi)(hg:PG X tg g)(hb:og X body tb)
  (hs:∀x,K6 iter X.env x=pure x:=by intro _;rfl):PS X (.For tg iter body [] pos) (EA wi g tb):=by
 intro pins s σ H D I h;refine wpAny_For (bV (hi pins s σ H _ I h) λv s1 h1=>bV h1 λitv s2 h2=>?_) hs;obtain⟨it,fp,tn,J,H2,e,I2,T,st2,f2,W,⟨m0,w0⟩,turn⟩:=h2;subst e;have stat:∀{H':Hp},(∀b∈fp,H' b=none)->∀b∈fp,kW X pins H' b:=λhn b hb=>⟨hn b hb,(f2 b hb).2⟩
 refine codeAny_forLoop_any (λn s'=>∃i σ' H',Inv X pins σ' H' s'/\tn i s'.heap/\(∀b∈fp,H' b=none)/\W i n σ' H') ?_ m0 ⟨0,σ,H2,I2,st2,λb hb=>(f2 b hb).1,w0⟩;rintro n s3 ⟨i,σ3,H3,I3,st3,fr3,w3⟩;rcases turn i n σ3 H3 w3 with⟨stop,qn⟩|⟨go,N,hN,step⟩
 ·refine K7 hp (bV (T.done X rfl rfl rfl hc i pins s3 σ3 H3 X.xe I3 (stat fr3) st3 stop) λr s4 ⟨hr,I4⟩=>?_);subst hr;exact KY ⟨σ3,H3,I4,qn⟩
 ·refine K7 hp (bV (T.item X rfl rfl rfl hc i pins s3 σ3 H3 X.xe I3 (stat fr3) st3 go) λr s4 ⟨u,hr,h4⟩=>?_);subst hr;refine K7 hp (bV h4 λ_ s5 ⟨x,H5,I5,r5,y5,st5,fr5⟩=>?_);have I5':=I5.pinned (stat fr5) (T.obj _ _ st5);refine K7 hp (bV (hg _ s5 σ3 H5 x u _ I5' r5 (step x H5 y5)) λ_ s6 ⟨σ6,H6,I6,q6⟩=>?_);refine K7 hp (bV (hb _ s6 σ6 H6 _ I6 q6) λf s7 q7=>?_);have again:∀{σ7:St}{H7:Hp},Inv X (pins++kF fp s5.heap) σ7 H7 s7->N σ7 H7->∃m,m<n/\∃i σ' H',Inv X pins σ' H' s7/\tn i s7.heap/\(∀b∈fp,H' b=none)/\W i m σ' H':=λ{σ7 H7} I7 n7=>by
   obtain⟨m',hm,w7⟩:=hN σ7 H7 n7;refine⟨m',hm,i+1,σ7,H7,I7.unpinned,T.keep _ _ _ st5 λb hb o e=>(I7.pin (b,o) (Hk _ (Hk _ (fh hb e)))).1,λb hb=>?_,w7⟩;obtain⟨o,e,d⟩:=T.obj _ _ st5 b hb;exact(I7.pin (b,o) (Hk _ (Hk _ (fh hb e)))).2.1
  cases f with
  |next=>obtain⟨σ7,H7,I7,n7⟩:=q7;exact again I7 n7
  |cont=>obtain⟨σ7,H7,I7,n7⟩:=q7;exact again I7 n7
  |brk=>obtain⟨σ7,H7,I7,q7⟩:=q7;exact⟨σ7,H7,I7.unpinned,q7⟩
  |ret v=>obtain⟨x7,σ7,H7,I7,r7,q7⟩:=q7;exact⟨x7,σ7,H7,I7.unpinned,r7,q7⟩
end
noncomputable abbrev R2:=V->V->Hp->VK->Prop
noncomputable def eU(X:Cx)(f:Kt->Kt->Sem Kt)(r:R2):Prop:=
 ∀(pins:aR)(s:Ky)(σ:St)(H:Hp)(x y:V)(v u:Kt)(Q:VK),Inv X pins σ H s->RelV x v->RelV y u->r x y H Q->
  KO (model X.prog X.w) X.A (f v u) (EP X pins σ Q) X.xe s
noncomputable def EE(X:Cx)(f:Kt->Sem Kt)(r:V->Hp->VK->Prop):Prop:=
 ∀(pins:aR)(s:Ky)(σ:St)(H:Hp)(x:V)(v:Kt)(Q:VK),Inv X pins σ H s->RelV x v->r x H Q->
  KO (model X.prog X.w) X.A (f v) (EP X pins σ Q) X.xe s
noncomputable def cX(X:Cx)(f:Kt)(r:aB->Hp->VK->Prop):Prop:=
 ∀(pins:aR)(s:Ky)(σ:St)(H:Hp)(xs:aB)(us:aL)(Q:VK),Inv X pins σ H s->Vals xs us->r xs H Q->
  KO (model X.prog X.w) X.A (call f us) (EP X pins σ Q) X.xe s
noncomputable def Fb(X:Cx)(r:V->Hp->(Bool->Hp->Prop)->Prop):Prop:=
 ∀(pins:aR)(s:Ky)(σ:St)(H:Hp)(x:V)(v:Kt)(Q:Bool->Hp->Prop),Inv X pins σ H s->RelV x v->r x H Q->
  KO (model X.prog X.w) X.A (truthy v) (TP X pins σ Q) X.xe s
noncomputable def CI(r:R2)(ta tb:TE):TE:=λσ H Q=>ta σ H λx H1=>tb σ H1 λy H2=>r x y H2 Q
noncomputable def Gf(r:V->Hp->VK->Prop)(ta:TE):TE:=λσ H Q=>ta σ H λx H1=>r x H1 Q
noncomputable def rI(C:Int->Int->Prop)(g:Int->Int->V):R2:=λx y H Q=>∃i j,x=.int i/\y=.int j/\C i j/\Q (g i j) H
noncomputable def wg(g:Int->Int->V):R2:=λx y H Q=>∃i j,x=.int i/\y=.int j/\Q (g i j) H
noncomputable def rU(g:Int->V):V->Hp->VK->Prop:=λx H Q=>∃i,x=.int i/\Q (g i) H
section
variable{X:Cx}{a b c:Kw}{ta tb tc:TE}{pos:Pos}
theorem AQ(ha:PE X a ta)(hb:PE X b tb){pins:aR}{s:Ky}{σ:St}{H:Hp}{R:V->V->Hp->Prop}(I:Inv X pins σ H s)
  (h:ta σ H λx H1=>tb σ H1 λy H2=>R x y H2) {Q:bj} {f:Kt->Kt->Sem Kt}
  (hf:∀v u s2 x y H2,Inv X pins σ H2 s2->RelV x v->RelV y u->R x y H2->KO (model X.prog X.w) X.A (f v u) Q X.xe s2):
  KO (model X.prog X.w) X.A (eval a X.env) (λv s₁=>KO (model X.prog X.w) X.A (eval b X.env) (λu s₂=>KO (model X.prog X.w) X.A (f v u) Q X.xe s₂) X.xe s₁) X.xe s:=by
 refine bV (ha pins s σ H _ I h) λv s1 ⟨x,H1,I1,r1,q1⟩=>?_;refine bV (hb pins s1 σ H1 _ I1 q1) λu s2 ⟨y,H2,I2,r2,q2⟩=>?_;exact hf v u s2 x y H2 I2 r1 r2 q2
theorem Dz{op:Operator}{r:R2}(ho:eU X (K8 op) r)(ha:PE X a ta)(hb:PE X b tb):PE X (.BinOp a op b pos) (CI r ta tb):=by
 intro pins s σ H Q I h;exact wpAny_BinOp (AQ ha hb I h λv u s2 x y H2 I2 rx ry q=>ho pins s2 σ H2 x y v u Q I2 rx ry q)
theorem Dc{op:UnaryOp}{r:V->Hp->VK->Prop}(ho:EE X (unaryOp op) r)(ha:PE X a ta):PE X (.UnaryOp op a pos) (Gf r ta):=by
 intro pins s σ H Q I h;exact UnaryOp_ (bV (ha pins s σ H _ I h) λv s1 ⟨x,H1,I1,r1,q1⟩=>ho pins s1 σ H1 x v Q I1 r1 q1)
theorem DQ{f:Kt->Kt->Sem Kt}{C:Int->Int->Prop}{g:Int->Int->Int}
  (rule:∀(i j:Int)(t u:Tok)(s:Ky)(Q:bj)(E:bj),C i j->Q (.int (g i j) s.toks) {s with toks:=s.toks+1}->KO (model X.prog X.w) X.A (f (.int i t) (.int j u)) Q E s):
  eU X f (rI C λi j=>.int (g i j)):=by
 intro pins s σ H x y v u Q I rx ry h;obtain⟨i,j,rfl,rfl,hc,q⟩:=h;obtain⟨t,rfl⟩:=rx;obtain⟨t',rfl⟩:=ry;exact rule i j t t' s _ _ hc ⟨.int (g i j),H,I.tok _,⟨_,rfl⟩,q⟩
theorem CY{f:Kt->Kt->Sem Kt}{g:Int->Int->Int}
  (rule:∀(i j:Int)(t u:Tok)(s:Ky)(Q:bj)(E:bj),Q (.int (g i j) s.toks) {s with toks:=s.toks+1}->KO (model X.prog X.w) X.A (f (.int i t) (.int j u)) Q E s):
  eU X f (wg λi j=>.int (g i j)):=by
 intro pins s σ H x y v u Q I rx ry h;obtain⟨i,j,rfl,rfl,q⟩:=h;obtain⟨t,rfl⟩:=rx;obtain⟨t',rfl⟩:=ry;exact rule i j t t' s _ _ ⟨.int (g i j),H,I.tok _,⟨_,rfl⟩,q⟩
theorem xK{f:Kt->Kt->Sem Kt}{g:Int->Int->Bool}
  (rule:∀(i j:Int)(t u:Tok)(s:Ky)(Q:bj)(E:bj),Q (.bool (g i j)) s->KO (model X.prog X.w) X.A (f (.int i t) (.int j u)) Q E s):
  eU X f (wg λi j=>.bl (g i j)):=by
 intro pins s σ H x y v u Q I rx ry h;obtain⟨i,j,rfl,rfl,q⟩:=h;obtain⟨t,rfl⟩:=rx;obtain⟨t',rfl⟩:=ry;exact rule i j t t' s _ _ ⟨.bl (g i j),H,I,rfl,q⟩
noncomputable def Dx(i j:Int):Prop:=0<=j/\j<=1000000/\i.natAbs<2^64
noncomputable def By(i j:Int):Prop:=(-(2^64)<i/\i<2^64)\/(-(2^64)<j/\j<2^64)
theorem By.ok{i j:Int}(h:By i j):IntMulOk i j:=by
 rcases h with⟨h1,h2⟩|⟨h1,h2⟩
 ·exact .of_left (intBits_le_64 h1 h2)
 ·exact .of_right (intBits_le_64 h1 h2)
theorem BF:eU X (K8 .Add) (wg λi j=>.int (i+j)):=CY λ_ _ _ _ _ _ _ q=>add_int q
theorem Br:eU X (K8 .Sub) (wg λi j=>.int (i-j)):=CY λ_ _ _ _ _ _ _ q=>sub_int q
theorem Az:eU X (K8 .Mult) (rI By λi j=>.int (i*j)):=DQ λ_ _ _ _ _ _ _ hc q=>mul_int q hc.ok
theorem Av:eU X (K8 .Mod) (rI (λ_ j=>0<j) λi j=>.int (i%j)):=DQ λi j _ _ _ _ _ hc q=>by
 have h1:(0:Int)<j:=hc;exact mod_int' ‹0› (by rw[Int.fmod_eq_emod_of_nonneg i ‹0›];exact q)
theorem Ax:eU X (K8 .Pow) (rI Dx λi j=>.int (i^j.toNat)):=DQ λ_ _ _ _ _ _ _ hc q=>pow_int_small hc.1 hc.2.1 hc.2.2 q
theorem GQ{f:Kt->Sem Kt}{g:Int->Int}
  (rule:∀(i:Int)(t:Tok)(s:Ky)(Q:bj)(E:bj),Q (.int (g i) s.toks) {s with toks:=s.toks+1}->KO (model X.prog X.w) X.A (f (.int i t)) Q E s):
  EE X f (rU λi=>.int (g i)):=by
 intro pins s σ H x v Q I rx h;obtain⟨i,rfl,q⟩:=h;obtain⟨t,rfl⟩:=rx;exact rule i t s _ _ ⟨.int (g i),H,I.tok _,⟨_,rfl⟩,q⟩
theorem BJ:EE X (unaryOp .USub) (rU λi=>.int (-i)):=GQ λ_ _ _ _ _ q=>neg_int q
end
section
variable{X:Cx}{a b c:Kw}{ta tb tc:TE}{pos:Pos}
theorem wQ{pins:aR}{σ:St}{H:Hp}{s:Ky}{Q:VK}{k k':Bool}(I:Inv X pins σ H s)(q:Q (.bl k) H)(e:k=k'):EP X pins σ Q (.bool k') s:=by
 subst e;exact⟨.bl k,H,I,rfl,q⟩
theorem C9:eU X (KS .Lt) (wg λi j=>.bl (decide (i<j))):=xK λ_ _ _ _ _ _ _ q=>lt_int q
theorem lZ:eU X (KS .LtE) (wg λi j=>.bl (decide (i<=j))):=xK λ_ _ _ _ _ _ _ q=>le_int q
theorem zL:eU X (KS .Gt) (wg λi j=>.bl (decide (j<i))):=xK λ_ _ _ _ _ _ _ q=>gt_int q
theorem Ad:eU X (KS .GtE) (wg λi j=>.bl (decide (j<=i))):=xK λ_ _ _ _ _ _ _ q=>ge_int q
theorem sX:eU X (KS .Lt) (λx y H Q=>∃i j,x=.str i/\y=.str j/\Q (.bl (decide (i.cps.toList<j.cps.toList))) H):=by
 intro pins s σ H x y v u Q I rx ry h;obtain⟨i,j,rfl,rfl,q⟩:=h;obtain⟨t,rfl⟩:=rx;obtain⟨t',rfl⟩:=ry;exact lt_str (wQ I q rfl)
theorem du(b:Kw){op:KR}(h:op≠.In:=by decide)(h2:op≠.NotIn:=by decide):KU op b=false:=by
 have e1:(op==CmpOp.In)=false:=by cases op<;>first|rfl|exact absurd rfl h
 have e2:(op==CmpOp.NotIn)=false:=by cases op<;>first|rfl|exact absurd rfl h2
 cases b<;>simp[KU,e1,e2]
theorem yL{op:KR}{r:R2}(ho:eU X (KS op) r)(ha:PE X a ta)(hb:PE X b tb)(hm:KU op b=false):PE X (.Compare a [op] [b] pos) (CI r ta tb):=by
 intro pins s σ H Q I h;exact wpAny_Compare1 (AQ ha hb I h λv u s2 x y H2 I2 rx ry q=>ho pins s2 σ H2 x y v u Q I2 rx ry q) hm
noncomputable def xj(t:TE):TT:=λσ H Q=>t σ H λx H'=>∃k,x=.bl k/\Q k H'
theorem yn{op:KR}{r:R2}(ho:eU X (KS op) r)(ha:PE X a ta)(hb:PE X b tb)(hm:KU op b=false):PT X (.Compare a [op] [b] pos) (xj (CI r ta tb)):=by
 intro pins s σ H Q I h;refine wpAny_isTrue_Compare1 (bV (ha pins s σ H _ I h) λv s1 ⟨x,H1,I1,r1,q1⟩=>bV (hb pins s1 σ H1 _ I1 q1) λu s2 ⟨y,H2,I2,r2,q2⟩=>
  bV (ho pins s2 σ H2 x y v u _ I2 r1 r2 q2) λc s3 ⟨z,H3,I3,r3,k,e,q3⟩=>?_) hm
 subst e;cases r3;exact KW ⟨H3,I3,q3⟩
noncomputable def qC(r r':R2)(ta tb tc:TE):TE:=λσ H Q=>ta σ H λx H1=>tb σ H1 λy H2=>r x y H2 λz H3=>∃k,z=.bl k/\
 (if k=true then tc σ H3 λw' H4=>r' y w' H4 Q else Q (.bl false) H3)
theorem wo{op op':KR}{r r':R2}(ho:eU X (KS op) r)(ho':eU X (KS op') r')(ha:PE X a ta)(hb:PE X b tb)(hc:PE X c tc)
  (hm:lastMarks [op,op'] [b,c]=false:=by with_unfolding_all rfl):PE X (.Compare a [op,op'] [b,c] pos) (qC r r' ta tb tc):=by
 intro pins s σ H Q I h;refine Compare_chain (bV (ha pins s σ H _ I h) λv s1 ⟨x,H1,I1,r1,q1⟩=>chain_link (bV (hb pins s1 σ H1 _ I1 q1) λu s2 ⟨y,H2,I2,r2,q2⟩=>
  bV (ho pins s2 σ H2 x y v u _ I2 r1 r2 q2) λd s3 ⟨z,H3,I3,r3,k,e,q3⟩=>?_)) hm
 subst e;cases r3;refine KW ?_;cases k with
 |false=>exact ite_ff ⟨.bl false,H3,I3,rfl,q3⟩
 |true=>exact ite_tt (chain_last (bV (hc pins s3 σ H3 _ I3 q3) λw' s4 ⟨z',H4,I4,r4,q4⟩=>ho' pins s4 σ H4 y z' u w' Q I4 r2 r4 q4))
theorem wf{op op':KR}{r r':R2}(ho:eU X (KS op) r)(ho':eU X (KS op') r')(ha:PE X a ta)(hb:PE X b tb)(hc:PE X c tc)
  (hm:lastMarks [op,op'] [b,c]=false:=by with_unfolding_all rfl):PT X (.Compare a [op,op'] [b,c] pos) (xj (qC r r' ta tb tc)):=by
 intro pins s σ H Q I h;refine isTrue_chain (bV (ha pins s σ H _ I h) λv s1 ⟨x,H1,I1,r1,q1⟩=>test_link (bV (hb pins s1 σ H1 _ I1 q1) λu s2 ⟨y,H2,I2,r2,q2⟩=>
  bV (ho pins s2 σ H2 x y v u _ I2 r1 r2 q2) λd s3 ⟨z,H3,I3,r3,k,e,q3⟩=>?_)) hm
 subst e;cases r3;refine KW ?_;cases k with
 |false=>
  obtain⟨k',e',q'⟩:=q3;cases e';exact ite_ff ⟨H3,I3,q'⟩
 |true=>
  refine ite_tt (test_last (bV (hc pins s3 σ H3 _ I3 q3) λw' s4 ⟨z',H4,I4,r4,q4⟩=>bV (ho' pins s4 σ H4 y z' u w' _ I4 r2 r4 q4) λd' s5 ⟨z2,H5,I5,r5,k2,e2,q5⟩=>?_));subst e2;cases r5;exact KW ⟨H5,I5,q5⟩
noncomputable def Ck(K:Jv)(x:V)(H:Hp)(k:Bool):Prop:=
 match x with
 |.non=>k=false
 |.bl b=>k=b
 |.int i=>k=(i !=0)
 |.str y=>y.length<=KG/\k=((y.length:Int) !=0)
 |.byt y=>y.size<=KG/\k=((y.size:Int) !=0)
 |.ref p=>(∃xs,gQ K H p xs/\k=!xs.isEmpty)\/(∃xs,jn K H p xs/\k=!xs.isEmpty)\/∃kvs,H p=some (.dK kvs)/\k=!kvs.isEmpty
 |_=>False
theorem pZ{κ:Type}{kvs:List (κ×V)}{vs:List (κ×Kt)}(r:KV kvs vs):(!vs.isEmpty)=!kvs.isEmpty:=by
 cases r<;>rfl
theorem kh{xs:aB}{its:aL}(r:Vals xs its):(!its.toArray.isEmpty)=!xs.isEmpty:=by
 cases r<;>simp
theorem gV:(KG:Nat)<2^63:=by rw[K9];decide
theorem As:Fb X (λx H Q=>∃k,Ck X.K x H k/\Q k H):=by
 intro pins s σ H x v Q I rx h;obtain⟨k,e,q⟩:=h;have hl:=gV;have hs:KG=16777216:=K9;cases x with
 |non=>
  cases rx;have e':k=false:=e;subst e';exact truthy_none ⟨H,I,q⟩
 |bl b=>
  cases rx;have e':k=b:=e;subst e';exact KW ⟨H,I,q⟩
 |int i=>
  obtain⟨t,rfl⟩:=rx;have e':k=(i !=0):=e;subst e';exact PySem.P.truthy_int ⟨H,I,q⟩
 |str y=>
  obtain⟨t,rfl⟩:=rx;obtain⟨hy,e'⟩:y.length<=KG/\k=((y.length:Int) !=0):=e;subst e';exact PySem.P.truthy_str ‹0› ⟨H,I.tok _,q⟩
 |byt y=>
  obtain⟨t,rfl⟩:=rx;obtain⟨hy,e'⟩:y.size<=KG/\k=((y.size:Int) !=0):=e;subst e';exact PySem.W.truthy_bytes ‹0› ⟨H,I.tok _,q⟩
 |ref p=>
  cases rx;have e':(∃xs,gQ X.K H p xs/\k=!xs.isEmpty)\/(∃xs,jn X.K H p xs/\k=!xs.isEmpty)\/∃kvs,H p=some (.dK kvs)/\k=!kvs.isEmpty:=e;rcases e' with⟨xs,hx,e'⟩|⟨xs,hx,e'⟩|⟨kvs,hx,e'⟩
  ·subst e';obtain⟨its,r,pl,hz⟩:=I.list hx;have hlen:=r.length;exact wpAny_truthy_list pl.isList (by simp only[Hl];omega) ⟨H,I.tok _,by rw[kh r];exact q⟩
  ·subst e';obtain⟨its,r,pl,hz⟩:=I.tuple hx;have hlen:=r.length;exact truthy_tuple pl (by simp only[Hl];omega) ⟨H,I.tok _,by rw[kh r];exact q⟩
  ·subst e';obtain⟨hz,hS,vs,r,m⟩:kvs.length<=KG/\(p==sysModules)=false/\∃vs,KV kvs vs/\s.heap.DictOf (nH X.prog X.w) p vs:=I.hok p _ hx;have hlen:kvs.length=vs.length:=Paired.length r;exact wpAny_truthy_dict hS m ‹0› ⟨H,I.tok _,by rw[pZ r];exact q⟩
 |_=>exact(show False from e).elim
theorem xn(ha:PE X a ta)(he:∀whole,isTrue a X.env whole=(do let v<-whole;standAt a.pos;holding [v] (truthy v))):
  PT X a (λσ H Q=>ta σ H λx H'=>∃k,Ck X.K x H' k/\Q k H'):=by
 intro pins s σ H Q I h;exact isTrue_plain (bV (ha pins s σ H _ I h) λv s1 ⟨x,H1,I1,r1,q1⟩=>As pins s1 σ H1 x v Q I1 r1 q1) (he _)
theorem qu:eU X (K8 .Add) (λx y H Q=>∃i j,x=.str i/\y=.str j/\i.length+j.length<=KG/\Q (.str (i++j)) H):=by
 intro pins s σ H x y v u Q I rx ry h;obtain⟨i,j,rfl,rfl,hz,q⟩:=h;obtain⟨t,rfl⟩:=rx;obtain⟨t',rfl⟩:=ry;exact add_str (λt' tk=>⟨.str (i++j),H,I.tok _,⟨_,rfl⟩,q⟩) hz
theorem vals1{x:V}{us:aL}(r:Vals [x] us):∃u,us=[u]/\RelV x u:=by
 cases r with
 |cons r1 r2=>cases r2;exact⟨_,rfl,r1⟩
theorem vals2{x y:V}{us:aL}(r:Vals [x,y] us):∃u w',us=[u,w']/\RelV x u/\RelV y w':=by
 cases r with
 |cons r1 r2=>
  cases r2 with
  |cons r3 r4=>cases r4;exact⟨_,_,rfl,r1,r3⟩
theorem lQ:cX X (.type "int") (λxs H Q=>(∃i,xs=[.int i]/\Q (.int i) H)\/∃k,xs=[.bl k]/\Q (.int (if k then 1 else 0)) H):=by
 intro pins s σ H xs us Q I r h;rcases h with⟨i,rfl,q⟩|⟨k,rfl,q⟩
 ·obtain⟨u,rfl,t,rfl⟩:=vals1 r;exact call_int_int ⟨.int i,H,I,⟨_,rfl⟩,q⟩
 ·obtain⟨u,rfl,r1⟩:=vals1 r;cases r1;exact call_int_bool ⟨.int (if k then 1 else 0),H,I.tok _,⟨_,rfl⟩,q⟩
end
structure uA(h:KC)(x dx C:Kv)(mA:bC):Prop where
 obj:h.get? x=some (Jt C dx)
 ns:h.Ns1 dx mA
 ne:dx≠x
theorem mE{h:KC}{dx:Kv}{mA:bC}(n:h.Ns1 dx mA):∃od,h.get? dx=some od/\∀name,Jw name od=some (mA name):=by
 obtain⟨o,es,ep,ho,hd,hk,_,hm⟩:=n;refine⟨o,ho,λname=>?_⟩;have e:=hm name;unfold nsFind findBy at e;rw[<-Array.find?_toList]at e;unfold Jw;rw[hd];dsimp only;split
 ·rename_i y q;rw[q]at e;exact congrArg some e
 ·rename_i q;rw[q]at e;have a:es.toList.any (·.refKey)=false:=by
   rw[List.any_eq_false];intro y hy;obtain⟨z,t,hkey⟩:=hk y (Array.mem_toList_iff.mp hy);simp[DictEntry.refKey,hkey]
  have a':¬es.toList.any (·.refKey)=true:=by rw[a];exact Hm
  rw[if_neg a'];exact congrArg some e
theorem uA.look{h:KC}{x dx C:Kv}{mA:bC}(I:uA h x dx C mA):∃od,PySem.W.InstAt h x (Jt C dx) C (some od)/\∀name,Jw name od=some (mA name):=
 let ⟨od,ho,hl⟩:=mE I.ns
 ⟨od,⟨I.obj,rfl,rfl,ho⟩,hl⟩
section
variable{prog:KA}{w:Kz}{A:KJ}{E:bj}{s:Ky}{K:Jv}{x dx C f:Kv}{mA:bC}{name:Str}{v:Kt}
theorem zy{expr:Bool}{Q:bj}(X:K.In s.heap)(I:uA s.heap x dx C mA)(hg:Jx K C name=true)(hh:Jy K C=true)
  (ha:Jz K (.ref C) name=some none) (hv:mA name=some v) (hv':JA v=true) (h:Q v {s with toks:=s.toks+1}):
  KO (model prog w) A (getAttr (.ref x) name expr) Q E s:=by
 obtain⟨od,J,hl⟩:=I.look;exact PySem.W.get_value X J (JB hg).1 (JC hh ha rfl (by rw[hl,hv])) hv' h
theorem vQ{pl:Sem Bool}{Q:Kt×List Kt->fF}(X:K.In s.heap)(I:uA s.heap x dx C mA)(hg:Jx K C name=true)
  (hf:Jz K (.ref C) name=some (some (.ref f))) (ht:JD K (.ref f)=true) (hv:mA name=none) (h:Q (.ref f,[.ref x]) s):
  KO (model prog w) A (getMethod (.ref x) name pl) Q E s:=by
 obtain⟨od,J,hl⟩:=I.look;exact PySem.W.method_fn X J (JB hg).1 (JB hg).2 hf (beq_iff_eq.mp ht) (by show(Jw name od).map (·.isSome)=some false;rw[hl,hv];rfl) h
theorem ye{ns:ap}{Q:Unit->fF}(X:K.In s.heap)(I:uA s.heap x dx C mA)
  (hs:Jz K (.ref C) "__setattr__"=some (some (.builtin "object.__setattr__"))) (hp:JE K C=true) (ht:JF K C name=some none) (hh:Jy K C=true)
  (hw:PySem.Within mA ns) (hsz:ns.length<=KG)
  (h:∀h',uA h' x dx C (λy=>if y=name then some v else mA y)->J5 dx s.heap h'->Q () {s with heap:=h',toks:=s.toks+2}):
  KO (model prog w) A (setAttr (.ref x) name v) Q E s:=by
 obtain⟨od,J,hl⟩:=I.look;refine PySem.W.set_plain X J hs (PySem.W.osa_open (s:={s with toks:=s.toks+1}) (r:=none) X J hp ht λb=>?_);obtain⟨cd,hc,hd'⟩:=PySem.W.any_some hh;have hx:s.heap.get? x=some ⟨.ref C,some dx,.plain,#[]⟩:=I.obj;refine KZ (K3 (KZ (KZ (La hx (KZ (PySem.W.Looks.here (s:={s with toks:=s.toks+1}) (PySem.W.looks_clsIn X hc) ?_))))));rw[hd'];refine K3 (a:=some dx) (KZ (K3 (KZ ?_)));refine wpAny_nsSet1 (s:={s with toks:=s.toks+1}) I.ns λh' hn2 hs2=>?_;obtain⟨oD,esD,epD,hoD,hdD,hcD⟩:=hn2.count (PySem.Within.cons name v hw);refine KZ (Lb hoD (by rw[hdD];exact Lc (G5 hcD (by rw[Ho];omega))) ?_);exact K3 (h _ ⟨(hs2.2 _ (Ne.symm I.ne)).trans I.obj,hn2,I.ne⟩ hs2)
theorem uX{R:Ld->fF}{vs:aL}{kw:List (Str×Kt)}(X:K.In s.heap)(hm:JG K C=true)
  (hi:Jz K (.ref C) "__init__"=some (some (.ref f))) (hf:JH K (.ref f)=some (.type "function"))
  (h:Le (model prog w) (A.under (.builtin "type.__call__" ⟨.ref C::vs,kw⟩)) (.call (.ref f) ⟨.ref (s.heap.objs.size+1)::vs,kw⟩) (PySem.W.InitBack (s.heap.objs.size+1) R)
   {s with heap:=(s.heap.push JI).push (Jt C s.heap.objs.size)}):
  Le (model prog w) A (.call (.ref C) ⟨vs,kw⟩) R s:=by
 obtain⟨hh,g,d,t,os⟩:=s;exact PySem.W.make_core (PySem.W.makes_of X hm) (PySem.W.looks_findIn X hi) (λself=>PySem.W.bind_fn X self hf) (.inl rfl) h
end
noncomputable def fH(f:Str)(v:V):List (Str×V)->List (Str×V)
 |[]=>[(f,v)]
 |(g,x)::r=>if g=f then(g,v)::r else(g,x)::fH f v r
theorem jD(f g:Str)(v:V):∀fs:List (Str×V),(fH f v fs).lookup g=if g=f then some v else fs.lookup g
 |[]=>by
  show List.lookup g [(f,v)]=_;by_cases h:g=f
  ·have hb:(g==f)=true:=beq_iff_eq.mpr h;simp only[List.lookup,hb,if_pos h]
  ·have hb:(g==f)=false:=beq_eq_false_iff_ne.mpr h;simp only[List.lookup,hb,if_neg h]
 |(k,x)::r=>by
  have ih:=jD f g v r;rw[show fH f v ((k,x)::r)=(if k=f then(k,v)::r else(k,x)::fH f v r)from rfl];by_cases hk:k=f
  ·rw[if_pos hk];by_cases h:g=k
   ·have hb:(g==k)=true:=beq_iff_eq.mpr h;simp only[List.lookup,hb,if_pos (h.trans hk)]
   ·have hb:(g==k)=false:=beq_eq_false_iff_ne.mpr h;simp only[List.lookup,hb,if_neg (λe:g=f=>h (e.trans hk.symm))]
  ·rw[if_neg hk];by_cases h:g=k
   ·have hb:(g==k)=true:=beq_iff_eq.mpr h;simp only[List.lookup,hb,if_neg (λe:g=f=>hk (h.symm.trans e))]
   ·have hb:(g==k)=false:=beq_eq_false_iff_ne.mpr h;simp only[List.lookup,hb];exact ih
theorem jw(f:Str)(v:V):∀fs:List (Str×V),f∈(fH f v fs).map (·.1)/\∀g,g∈fs.map (·.1)->g∈(fH f v fs).map (·.1)
 |[]=>⟨by simp[fH],λg h=>by simp at h⟩
 |(k,x)::r=>by
  obtain⟨i1,i2⟩:=jw f v r;rw[show fH f v ((k,x)::r)=(if k=f then(k,v)::r else(k,x)::fH f v r)from rfl];by_cases hk:k=f
  ·rw[if_pos hk];subst hk;exact⟨by simp,λg h=>by simpa using h⟩
  ·rw[if_neg hk];refine⟨?_,λg h=>?_⟩
   ·rw[Hq];exact G9 _ i1
   ·rw[Hq]at h ⊢;rcases List.mem_cons.mp h with e|e
    ·exact List.mem_cons.mpr (.inl e)
    ·exact G9 _ (i2 g e)
theorem jB(f:Str)(v:V):∀fs:List (Str×V),(fH f v fs).length<=fs.length+1
 |[]=>by simp[fH]
 |(k,x)::r=>by
  have ih:=jB f v r;rw[show fH f v ((k,x)::r)=(if k=f then(k,v)::r else(k,x)::fH f v r)from rfl];by_cases hk:k=f
  ·rw[if_pos hk,Ho,Ho];omega
  ·rw[if_neg hk,Ho,Ho];omega
theorem pz.some_of{v:V}{o:Option Kt}(r:pz (some v) o):∃u,o=some u/\RelV v u:=by
 cases o with
 |none=>exact(show False from r).elim
 |some u=>exact⟨u,rfl,r⟩
theorem pz.none_of{o:Option Kt}(r:pz none o):o=none:=by
 cases o with
 |none=>rfl
 |some u=>exact(show False from r).elim
theorem mh{v:V}{u:Kt}(r:RelV v u):JA u=true:=by
 cases v with
 |non=>cases(show u=Value.none from r);rfl
 |bl b=>cases(show u=Value.bool b from r);rfl
 |int i=>obtain⟨t,e⟩:=(show∃t,u=Value.int i t from r);cases e;rfl
 |str x=>obtain⟨t,e⟩:=(show∃t,u=Value.str x t from r);cases e;rfl
 |byt b=>obtain⟨t,e⟩:=(show∃t,u=Value.bytes b t from r);cases e;rfl
 |flt b=>obtain⟨t,e⟩:=(show∃t,u=Value.float b t from r);cases e;rfl
 |ref a=>cases(show u=Value.ref a from r);rfl
 |ty n=>cases(show u=Value.type n from r);rfl
section
variable{P:KA}{w:Kz}{H H':Hp}{h h':KC}{a C dx:Kv}{fs fs':List (Str×V)}
theorem nu(hok:kZ P w H h)(e:H a=some (.ins C dx fs)):∃mA,uA h a dx C mA/\(∀f,pz (fs.lookup f) (mA f))/\PySem.Within mA (fs.map (·.1))/\fs.length<=1000/\H dx=some (.own a):=by
 obtain⟨d,z,ne,ob,mA,n,r,q⟩:=(show ce P w H h a (.ins C dx fs)from hok a _ e)
 exact⟨mA,⟨ob,n,ne⟩,r,q,z,d⟩
end
structure pF(K:Jv)(C:Kv):Prop where
 pg:Jx K C Str.empty=true
 hd:Jy K C=true
 po:JE K C=true
 sa:Jz K (.ref C) "__setattr__"=some (some (.builtin "object.__setattr__"))
theorem pF.get{K:Jv}{C:Kv}(c:pF K C)(f:Str):Jx K C f=true:=c.pg
noncomputable def cp(K:Jv)(C:Kv)(f:Str):Prop:=Jz K (.ref C) f=some none
theorem cp.taker{K:Jv}{C:Kv}{f:Str}(n:cp K C f):JF K C f=some none:=by
 unfold JF;rw[show Jz K (.ref C) f=some none from n];rfl
structure Meth(K:Jv)(C:Kv)(m:Str)(f:Kv):Prop where
 at_:Jz K (.ref C) m=some (some (.ref f))
 fn:JD K (.ref f)=true
 kp:JK K (.ref f)=true
section
variable{X:Cx}{pins:aR}{σ:St}{H:Hp}{s:Ky}{a C dx:Kv}{fs:List (Str×V)}{f:Str}{v:V}{A:KJ}{E:bj}
theorem qA{b:Bool}{Q:bj}(I:Inv X pins σ H s)(e:H a=some (.ins C dx fs))(c:pF X.K C)(n:cp X.K C f)(l:fs.lookup f=some v)
  (h:∀u s',Inv X pins σ H s'->RelV v u->Q u s'):KO (model X.prog X.w) A (getAttr (.ref a) f b) Q E s:=by
 obtain⟨mA,O,r,_,_,_⟩:=nu I.hok e;obtain⟨u,hu,ru⟩:=pz.some_of (v:=v) (o:=mA f) (by rw[<-l];exact r f);exact zy I.kIn O (c.get f) c.hd n hu (mh ru) (h u _ (I.tok _) ru)
theorem pJ{m:Str}{g:Kv}{pl:Sem Bool}{Q:Kt×List Kt->fF}(I:Inv X pins σ H s)(e:H a=some (.ins C dx fs))(c:pF X.K C)(k:Meth X.K C m g)(l:fs.lookup m=none)
  (h:Q (.ref g,[.ref a]) s):KO (model X.prog X.w) A (getMethod (.ref a) m pl) Q E s:=by
 obtain⟨mA,O,r,_,_,_⟩:=nu I.hok e;have hn:mA m=none:=pz.none_of (by rw[<-l];exact r m);exact vQ I.kIn O (c.get m) k.at_ k.fn hn h
theorem qw{y:V}{u:Kt}{Q:Unit->fF}(I:Inv X pins σ H s)(e:H a=some (.ins C dx fs))(c:pF X.K C)(n:cp X.K C f)(hl:fs.length<1000)(ry:RelV y u)
  (h:∀s',Inv X pins σ (upd H a (.ins C dx (fH f y fs))) s'->Q () s'):KO (model X.prog X.w) A (setAttr (.ref a) f u) Q E s:=by
 obtain⟨mA,O,r,wi,_,ho⟩:=nu I.hok e;have hz:(fs.map (·.1)).length<=KG:=by rw[Hr,K9];omega
 refine ye I.kIn O c.sa c.po n.taker c.hd wi hz λh' O' sb=>h _ ?_;have hd:∃o,h'.get? dx=some o:=let ⟨o,_,_,e',_⟩:=O'.ns;⟨o,e'⟩
 refine I.write (x:=a) (e:=dx) (by rw[e];exact True.intro) (.inr ho) (λb q hb z=>(sb.2 b hb).trans z) hd ?_;refine⟨by rw[av O.ne];exact ho,?_,O.ne,O'.obj,_,O'.ns,λg=>?_,λg hg=>?_⟩
 ·have:=jB f y fs;omega
 ·show pz ((fH f y fs).lookup g) (if g=f then some u else mA g);rw[jD];by_cases q:g=f
  ·rw[if_pos q,if_pos q];exact ry
  ·rw[if_neg q,if_neg q];exact r g
 ·by_cases q:g=f
  ·rw[q];exact(jw f y fs).1
  ·refine(jw f y fs).2 g (wi g λz=>hg ?_);show(if g=f then some u else mA g)=none;rw[if_neg q];exact z
theorem Inv.made(I:Inv X pins σ H s):Inv X pins σ (upd (upd H s.heap.objs.size (.own (s.heap.objs.size+1))) (s.heap.objs.size+1) (.ins C s.heap.objs.size []))
  {s with heap:=(s.heap.push JI).push (Jt C s.heap.objs.size)}:=by
 have e1:(s.heap.push JI).get? s.heap.objs.size=some JI:=J7 s.heap rfl;have e2:((s.heap.push JI).push (Jt C s.heap.objs.size)).get? (s.heap.objs.size+1)=some (Jt C s.heap.objs.size):=by
  have:=J7 (s.heap.push JI) (o:=Jt C s.heap.objs.size) rfl
  rwa [J8]at this
 have e3:(s.heap.push JI).Ns s.heap.objs.size (λ_=>none):=⟨JI,#[],_,e1,rfl,(λe he=>absurd he (by simp)),λ_=>rfl⟩
 have I1:=I.laid (a:=s.heap.objs.size) (o:=.own (s.heap.objs.size+1)) (h':=s.heap.push JI) (t':=s.toks) (λb u q=>J6 _ q) (Hj _) ⟨_,e1⟩;refine I1.laid (a:=s.heap.objs.size+1) (o:=.ins C s.heap.objs.size []) (t':=s.toks) (λb u q=>J6 _ q) (Hs (J8 _ _)) ?_;have ne:s.heap.objs.size≠s.heap.objs.size+1:=G4 (Nat.lt_succ_self _);refine⟨by rw[av ne,aA],Ht _,ne,e2,λ_=>none,(Heap.Ns1.of_empty e3).at λo q=>J6 _ q,λ_=>True.intro,λy hy=>absurd rfl hy⟩
theorem rK{prog:KA}{w:Kz}{env:Env}{e:Kw}{f:Str}{pos:Pos}{s:Ky}{Q:bj}(hb:Lf e f env (eval e env)=eval e env)
  (h:KO (model prog w) A (eval e env) (λo s₁=>KO (model prog w) A (getAttr o f true) Q E s₁) E s):KO (model prog w) A (eval (.Attribute e f pos) env) Q E s:=
 Attribute_any_ h (by rw[arm_eval_Attribute,hb])
end
noncomputable def F7(K:Jv)(ta:TE)(f:Str):TE:=λσ H Q=>ta σ H λx H1=>∃a C dx fs v,x=.ref a/\H1 a=some (.ins C dx fs)/\pF K C/\cp K C f/\fs.lookup f=some v/\Q v H1
noncomputable def Em(K:Jv)(ta tv:TE)(f:Str):TS:=λD σ H=>tv σ H λy H1=>ta σ H1 λx H2=>∃a C dx fs,x=.ref a/\H2 a=some (.ins C dx fs)/\pF K C/\cp K C f/\fs.length<1000/\
 D.nx σ (upd H2 a (.ins C dx (fH f y fs)))
section
variable{X:Cx}{o e value:Kw}{f:Str}{pos pos' tpos:Pos}{ta tv:TE}
theorem A5(he:PE X e ta)(hb:Lf e f X.env (eval e X.env)=eval e X.env):PE X (.Attribute e f pos) (F7 X.K ta f):=by
 intro pins s σ H Q I h;refine rK hb (bV (he pins s σ H _ I h) λu s1 ⟨x,H1,I1,rx,a,C,dx,fs,v,ex,ea,c,n,l,q⟩=>?_);subst ex;obtain rfl:u=Value.ref a:=rx;exact qA I1 ea c n l λu' s2 I2 ru=>⟨v,H1,I2,ru,q⟩
theorem wd(ha:PE X o ta)(hv:PE X value tv)(hs:swapsWith value (some (.Attribute o f pos')) pos.line X.env=pure false):PS X (.Assign [.Attribute o f pos'] value pos) (Em X.K ta tv f):=by
 intro pins s σ H D I h;refine Lg (bV (hv pins s σ H _ I h) λu s1 ⟨y,H1,I1,ry,q⟩=>bV (ha pins s1 σ H1 _ I1 q) λov s2 h2=>?_) hs;obtain⟨x,H2,I2,rx,a,C,dx,fs,ex,ea,c,n,l,q2⟩:=h2;subst ex;obtain rfl:ov=Value.ref a:=rx;exact qw I2 ea c n l ry λs3 I3=>⟨σ,_,I3,q2⟩
theorem oQ{pl:Sem Bool}{m:Str}{apos:Pos}{args:aU}{pins:aR}{s:Ky}{σ:St}{H:Hp}{Q:bj}{te:TE}(he:PE X e te)(I:Inv X pins σ H s)
  (h:te σ H fun x H1=>∃ a C dx fs g,x=.ref a/\H1 a=some (.ins C dx fs)/\pF X.K C/\Meth X.K C m g/\fs.lookup m=none /\
   ∀s1,Inv X pins σ H1 s1->KO (model X.prog X.w) X.A (Lh pos (.ref g) [.ref a] (backTo pos (KP args X.env)) (backToKw pos (Li [] X.env))) Q X.xe s1)
  (ht:eval (.Call (.Attribute e m apos) args [] pos) X.env=(do
   let ov<-eval e X.env
   standAt apos.atName
   let (f,first)<-holding [ov] (getMethod ov m pl)
   Lh pos f first (backTo pos (KP args X.env)) (backToKw pos (Li [] X.env)))):
  KO (model X.prog X.w) X.A (eval (.Call (.Attribute e m apos) args [] pos) X.env) Q X.xe s:=by
 refine PySem.W.methodCall_KW (pl:=pl) (bV (he pins s σ H _ I h) λu s1 ⟨x,H1,I1,rx,a,C,dx,fs,g,ex,ea,c,k,l,q⟩=>?_) ht;subst ex;obtain rfl:u=Value.ref a:=rx;exact pJ I1 ea c k l (q s1 I1)
end
structure dr(k:Nat)(A:KJ):Prop where
 hd:A.handled=none
 dp:A.depth+3*k+5<recursionLimit
 un:A.units+16*k+200<Lj
theorem dr.mono{j k:Nat}{A:KJ}(r:dr k A)(h:j<=k):dr j A:=⟨r.hd,by have:=r.dp;omega,by have:=r.un;omega⟩
theorem dr.deeper{k:Nat}{A:KJ}(r:dr (k+1) A)(env:Env):dr k (A.deeper env):=
 ⟨r.hd,by have:=r.dp;show A.depth+1+3*k+5<_;omega,by have:=r.un;show A.units+3+16*k+200<_;omega⟩
theorem qf{A:KJ}{C:Kv}{us:aL}{kw:List (Str×Kt)}:(A.under (.builtin "type.__call__" ⟨.ref C::us,kw⟩)).depth=A.depth+1:=by
 first|rfl|simp[Around.under,Code.weight,Code.isCreation,Code.isGuard,Code.isCaller,Code.frames,Code.isFrame,guardIds]
theorem qe{A:KJ}{C:Kv}{us:aL}{kw:List (Str×Kt)}:(A.under (.builtin "type.__call__" ⟨.ref C::us,kw⟩)).units=A.units+1:=by
 first|rfl|simp[Around.under,Code.cUnits,Code.frames,Code.isFrame]
theorem dr.make{k:Nat}{A:KJ}(r:dr (k+1) A)(C:Kv)(us:aL)(kw:List (Str×Kt)):dr k (A.under (.builtin "type.__call__" ⟨.ref C::us,kw⟩)):=
 ⟨r.hd,by have:=r.dp;rw[qf];omega,by have:=r.un;rw[qe];omega⟩
theorem dr.depth{k:Nat}{A:KJ}(r:dr k A):A.depth<recursionLimit:=by have:=r.dp;omega
theorem dr.units{k:Nat}{A:KJ}(r:dr k A):A.units+64<Lj:=by have:=r.un;omega
noncomputable def CG:TA:=λ_ H Q=>Q [] H
noncomputable def wv(ta:TE)(tr:TA):TA:=λσ H Q=>ta σ H λx H1=>tr σ H1 λxs H2=>Q (x::xs) H2
section
variable{X:Cx}{e:Kw}{es:aU}{te:TE}{t:TA}{pos:Pos}
theorem jk:PA X [] CG:=λ_ _ _ _ H Q I h=>Calls.spliced_nil ⟨[],H,I,.nil,h⟩
theorem dg(ha:PE X e te)(hr:PA X es t)(hs:KP (e::es) X.env=(false,eval e X.env)::KP es X.env:=by rfl):PA X (e::es) (wv te t):=by
 intro pos pins s σ H Q I h;rw[hs];show KO _ _ (spliced ((false,eval e X.env)::backTo pos (KP es X.env))) _ _ s;refine Calls.spliced_cons (bV (ha pins s σ H _ I h) λu s1 ⟨x,H1,I1,r1,q1⟩=>?_);exact bV (hr pos pins s1 σ H1 _ I1 q1) λus s2 ⟨xs,H2,I2,r2,q2⟩=>⟨x::xs,H2,I2,.cons r1 r2,q2⟩
noncomputable def Fl(t:TA):TE:=λσ H Q=>t σ H λxs H1=>xs.length<=KG/\∀p,H1 p=none->Q (.ref p) (upd H1 p (.tup xs))
noncomputable def Ep(t:TA):TE:=λσ H Q=>t σ H λxs H1=>xs.length<=KG/\∀p,H1 p=none->Q (.ref p) (upd H1 p (.lst xs))
theorem vU{x1}(h:PA X es t):PE X (.Tuple es x1 pos) (Fl t):=by
 intro pins s σ H Q I hq;refine wpAny_Tuple_spliced (bV (h pos pins s σ H _ I hq) λus s1 ⟨xs,H1,I1,r,z,q⟩=>⟨by rw[<-r.length];exact z,?_⟩);have hf:H1 s1.heap.objs.size=none:=I1.hok.fresh (Hj _);refine⟨.ref s1.heap.objs.size,upd H1 s1.heap.objs.size (.tup xs),I1.laid (t':=s1.toks) (λb u e=>J6 _ e) (Hj _) ?_,rfl,q _ hf⟩;exact⟨z,us,r,⟨_,J7 _ rfl,rfl,_,rfl⟩⟩
theorem wa(h:PA X es t):PE X (.List es pos) (Ep t):=by
 intro pins s σ H Q I hq;refine wpAny_List_spliced (bV (h pos pins s σ H _ I hq) λus s1 ⟨xs,H1,I1,r,z,q⟩=>⟨by rw[<-r.length];exact z,?_⟩);have hf:H1 s1.heap.objs.size=none:=I1.hok.fresh (Hj _);refine⟨.ref s1.heap.objs.size,upd H1 s1.heap.objs.size (.lst xs),I1.laid (t':=s1.toks) (λb u e=>J6 _ e) (Hj _) ?_,rfl,q _ hf⟩;exact⟨z,us,0,r,J7 _ rfl⟩
end
noncomputable abbrev Sp:=List V->Hp->VK->XK->Prop
noncomputable abbrev pV:=List Env->Hp->Ky->XK->bj
structure tK(P:KA)(w:Kz)(K:Jv)(mg:bC)(base:KC)(A:KJ)(outer:List Env)(s:Ky)(H:Hp):Prop where
 frames:A.frames=some outer
 mod:Mod K mg base
 bs:∀b o,base.get? b=some o->s.heap.get? b=some o/\H b=none
 bsz:base.objs.size<=s.heap.objs.size
 funs:s.heap.FunFrames base outer
 frf:∀b∈frs outer,H b=none
 hok:kZ P w H s.heap
 bare:AllBare s.gens
noncomputable def CE(outer:List Env)(P:KA)(w:Kz)(H:Hp)(s:Ky)(Q:VK)(u:Kt)(s':Ky):Prop:=
 ∃v H',s'.os=s.os/\AllBare s'.gens/\Un (frs outer) [] H H' s.heap s'.heap/\kZ P w H' s'.heap/\RelV v u/\Q v H'
noncomputable def CR(CX:pV)(outer:List Env)(P:KA)(w:Kz)(H:Hp)(s:Ky)(Q:VK)(E:XK)(r:Ld)(s':Ky):Prop:=
 match r with
 |.ok (.ret u)=>CE outer P w H s Q u s'
 |.ok _=>False
 |.error e=>CX outer H s E e s'
structure dJ(P:KA)(w:Kz)(K:Jv)(mg:bC)(base:KC)(CX:pV)(k:Nat)(f:Kv)(fd:Ln)(ps:ap)(sp:Sp):Prop where
 len:∀vs H Q E,sp vs H Q E->vs.length=ps.length
 run:∀(A:KJ)(outer:List Env)(s:Ky)(H:Hp)(args:Args)(us:aL)(vs:aB)(Q:VK)(E:XK),dr k A->tK P w K mg base A outer s H->Lp s fd args (ps.zip us)->Vals vs us->sp vs H Q E->
  Le (model P w) A (.call (.ref f) args) (CR CX outer P w H s Q E) s
theorem dJ.mono{P:KA}{w:Kz}{K:Jv}{mg:bC}{base:KC}{CX:pV}{j k:Nat}{f:Kv}{fd:Ln}{ps:ap}{sp:Sp}(F:dJ P w K mg base CX j f fd ps sp)(h:j<=k):
  dJ P w K mg base CX k f fd ps sp:=⟨F.len,λA outer s H args us vs Q E hr=>F.run A outer s H args us vs Q E (hr.mono h)⟩
theorem tK.make{P:KA}{w:Kz}{K:Jv}{mg:bC}{base:KC}{A:KJ}{outer:List Env}{s:Ky}{H:Hp}(e:tK P w K mg base A outer s H)(C:Kv)(us:aL)(kw:List (Str×Kt)):
  tK P w K mg base (A.under (.builtin "type.__call__" ⟨.ref C::us,kw⟩)) outer s H:=⟨by first|exact e.frames|(simpa [Around.under,Code.envs,Code.isFrame,pushEnvs]using e.frames),e.mod,e.bs,e.bsz,e.funs,e.frf,e.hok,e.bare⟩
section
variable{X:Cx}{pins:aR}{σ:St}{H:Hp}{s s':Ky}
theorem Inv.env0(I:Inv X pins σ H s):tK X.prog X.w X.K X.mg X.base X.A X.stack s H:=
 ⟨I.ok.frames,I.ok.mod,I.bs,G5 I.ok.bsz I.sz,I.stack,I.stkFree,I.hok,I.bare⟩
theorem Inv.after{Q:VK}{u:Kt}(I:Inv X pins σ H s)(h:CE X.stack X.prog X.w H s Q u s'):EP X pins σ Q u s':=by
 obtain⟨v,H',os,bare,un,hok,r,q⟩:=h;obtain⟨hh,g,d,t,os'⟩:=s';obtain rfl:os'=s.os:=os;exact⟨v,H',I.call (h':=hh) (g':=g) (d':=d) (t':=t) (ch:=[]) un hok bare (λb z=>absurd z (by simp)),r,q⟩
end
noncomputable def CV(C:Kv)(sp:Sp)(dvs:aB)(E:XK)(t:TA):TE:=λσ H Q=>t σ H λvs H1=>∀x dx,H1 x=none->H1 dx=none->dx≠x->
 sp (.ref x::(vs++dvs)) (upd (upd H1 dx (.own x)) x (.ins C dx [])) (λv H2=>v=.non/\Q (.ref x) H2) E
noncomputable def Binds(K:Jv)(fd:Ln)(ps:ap)(ds:aL):Prop:=
 ∀(s:Ky)(us:aL),K.In s.heap->(us++ds).length=ps.length->Lp s fd ⟨us,[]⟩ (ps.zip (us++ds))
theorem Binds.all{K:Jv}{fd:Ln}{ps:ap}(h:∀us:aL,us.length=ps.length->bindArgs fd ⟨us,[]⟩=pure (ps.zip us)):Binds K fd ps []:=λs us _ hl=>by
 rw[Hu]at hl ⊢;exact .of_eq (h us hl)
noncomputable def qG(CX:pV)(X:Cx)(E:XK):Prop:=∀(pins:aR)(σ:St)(H:Hp)(s:Ky)(e:Kt)(s':Ky),Inv X pins σ H s->CX X.stack H s E e s'->X.xe e s'
section
variable{X:Cx}{CX:pV}{k:Nat}{f C:Kv}{fd:Ln}{ps:ap}{sp:Sp}{dvs:aB}{ds:aL}{E:XK}{x m:Str}{p pos apos:Pos}{e o:Kw}{es:aU}{ta:TE}{t:TA}
structure Mk(K:Jv)(C f:Kv):Prop where
 makes:JG K C=true
 init:Jz K (.ref C) "__init__"=some (some (.ref f))
 fn:JD K (.ref f)=true
 kp:JK K (.ref C)=true
theorem vX{pins:aR}{σ:St}{H:Hp}{s:Ky}{Q:VK}{us:aL}{vs:aB}(M:Mk X.K C f)(F:dJ X.prog X.w X.K X.mg X.base CX k f fd ps sp)(hr:dr (k+1) X.A)(hb:Binds X.K fd ps ds)(hd:Vals dvs ds)
  (hx:qG CX X E) (I:Inv X pins σ H s) (r:Vals vs us)
  (h:∀x dx,H x=none->H dx=none->dx≠x->sp (.ref x::(vs++dvs)) (upd (upd H dx (.own x)) x (.ins C dx [])) (λv H2=>v=.non/\Q (.ref x) H2) E):
  KO (model X.prog X.w) X.A (call (.ref C) us) (EP X pins σ Q) X.xe s:=by
 have hq:=h (s.heap.objs.size+1) s.heap.objs.size (I.hok.fresh (Hv _)) (I.hok.fresh (Hj _)) (G4 (Nat.lt_succ_self _));have I2:=Inv.made (C:=C) I;have r2:Vals (V.ref (s.heap.objs.size+1)::(vs++dvs)) (Value.ref (s.heap.objs.size+1)::(us++ds)):=.cons rfl (r.append hd);have hl:(Value.ref (s.heap.objs.size+1)::us++ds).length=ps.length:=by
  have e:=r2.length;rw[F.len _ _ _ _ hq]at e;exact e.symm
 refine Lq (uX (f:=f) I.kIn M.makes M.init (beq_iff_eq.mp M.fn) (Lr (F.run _ X.stack _ _ ⟨Value.ref (s.heap.objs.size+1)::us,[]⟩ (Value.ref (s.heap.objs.size+1)::(us++ds)) _ _ E (hr.make C us [])
  (I2.env0.make C us []) (hb _ (Value.ref (s.heap.objs.size+1)::us) I2.kIn hl) r2 hq) λr s' hq'=>?_))
 cases r with
 |error e=>exact hx pins σ _ _ e s' I2 hq'
 |ok fl=>
  cases fl with
  |ret u=>
   obtain⟨v,H',I3,rv,ev,q3⟩:=I2.after hq';subst ev;exact⟨rv,⟨V.ref (s.heap.objs.size+1),H',I3,rfl,q3⟩⟩
  |next=>exact False.elim hq'
  |brk=>exact False.elim hq'
  |cont=>exact False.elim hq'
theorem xN(M:Mk X.K C f)(F:dJ X.prog X.w X.K X.mg X.base CX k f fd ps sp)(hr:dr (k+1) X.A)(hg:Gl X x)(hm:X.mg x=some (.ref C))(hb:Binds X.K fd ps ds)(hd:Vals dvs ds)(hx:qG CX X E)
  (ha:PA X (e::es) t) (hdb:(x==("__debug__":Str))=false:=by decide) (he:KP (e::es) X.env=(false,eval e X.env)::KP es X.env:=by rfl) (hpl:(backTo pos (KP es X.env)).any (·.1)=false:=by rfl):
  PE X (.Call (.Name x p) (e::es) [] pos) (CV C sp dvs E t):=by
 intro pins s σ H Q I h;refine Ls (gx I hg hm ?_ hdb);refine JL (h₀:=X.base) I.ok.mod.kin M.kp (bV (ha pos pins s σ H _ I h) λus s1 ⟨vs,H1,I1,r,q⟩=>⟨I1.kIn,?_⟩) he hpl;exact vX M F hr hb hd hx I1 r q
end
structure cu(N P:ap)(sc:KL):Prop where
 kind:sc.kind=.function
 co:sc.isCoroutine=false
 gen:sc.isGenerator=false
 nd:N.Nodup
 pre:N.take P.length=P
 par:∀x∈P,sc.names.lookup x=some .local\/sc.names.lookup x=some .cell
 nofree:∀y∈sc.names,y.2≠.free
theorem lI{kindOf:Str->Option Ku}{x:Str}:∀{binds:List (Str×Kt)}{m:bC},(∀v,(x,v)∉binds)->bindL kindOf binds m x=m x
 |[],_,_=>rfl
 |(n,v)::r,m,h=>by
  unfold bindL;rw[lI λw hw=>h w (G9 _ hw)];split
  ·have:x≠n:=(by rintro rfl;exact h v G8);simp[this]
  ·rfl
theorem lN{kindOf:Str->Option Ku}{x:Str}:∀{binds:List (Str×Kt)}{m:bC},(∀v,(x,v)∉binds)->bindC kindOf binds m x=m x
 |[],_,_=>rfl
 |(n,v)::r,m,h=>by
  unfold bindC;rw[lN λw hw=>h w (G9 _ hw)];split
  ·rfl
  ·have:x≠n:=(by rintro rfl;exact h v G8);simp[this]
theorem mq{kindOf:Str->Option Ku}{x:Str}{v:Kt}:∀{P:ap}{vs:aL}{i:Nat}{m:bC},P.Nodup->P[i]?=some x->vs[i]?=some v->kindOf x=some .local->
  bindL kindOf (P.zip vs) m x=some v
 |[],_,_,_,_,h,_,_=>by simp at h
 |_::_,[],_,_,_,_,h,_=>by simp at h
 |p::P,w::vs,0,m,nd,h1,h2,hk=>by
  simp at h1 h2;subst h1;subst h2;show bindL kindOf ((p,w)::P.zip vs) m p=_;unfold bindL;rw[lI λv hv=>(List.nodup_cons.mp nd).1 (Hw hv).1,if_pos hk];simp
 |p::P,w::vs,i+1,m,nd,h1,h2,hk=>by
  show bindL kindOf ((p,w)::P.zip vs) m x=_;unfold bindL;exact mq (i:=i) (List.nodup_cons.mp nd).2 (by simpa using h1) (by simpa using h2) hk
theorem lB{kindOf:Str->Option Ku}{x:Str}{v:Kt}:∀{P:ap}{vs:aL}{i:Nat}{m:bC},P.Nodup->P[i]?=some x->vs[i]?=some v->kindOf x≠some .local->
  bindC kindOf (P.zip vs) m x=some v
 |[],_,_,_,_,h,_,_=>by simp at h
 |_::_,[],_,_,_,_,h,_=>by simp at h
 |p::P,w::vs,0,m,nd,h1,h2,hk=>by
  simp at h1 h2;subst h1;subst h2;show bindC kindOf ((p,w)::P.zip vs) m p=_;unfold bindC;rw[lN λv hv=>(List.nodup_cons.mp nd).1 (Hw hv).1,if_neg hk];simp
 |p::P,w::vs,i+1,m,nd,h1,h2,hk=>by
  show bindC kindOf ((p,w)::P.zip vs) m x=_;unfold bindC;exact lB (i:=i) (List.nodup_cons.mp nd).2 (by simpa using h1) (by simpa using h2) hk
noncomputable def start(N:ap)(vs:aB):St:=vs.map some++List.replicate (N.length-vs.length) none
noncomputable def fG(CX:pV)(P:KA)(w:Kz)(K:Jv)(mg:bC)(base:KC)(N:ap)(qual:Str)(scope:KL)(f:Kv)(cd:Kt)(A:KJ)(outer:List Env)(s:Ky)(H:Hp)(E:XK):Cx where
 prog:=P
 w:=w
 K:=K
 mg:=mg
 base:=base
 A:=A.deeper (envOfC qual scope s.heap.objs.size f cd)
 N:=N
 s₀:=s
 H₀:=H
 env:=envOfC qual scope s.heap.objs.size f cd
 outer:=outer
 stack:=envOfC qual scope s.heap.objs.size f cd::outer
 ex:=[]
 calm:=true
 fn:=λ_=>true
 pn:=[]
 xe:=λe s'=>KO (model P w) (A.deeper (envOfC qual scope s.heap.objs.size f cd)) (leaving (envOfC qual scope s.heap.objs.size f cd) e) (λ_ s''=>CX outer H s E e s'') (λe' s''=>CX outer H s E e' s'') s'
theorem pE{sc:KL}{n:Nat}{x:Str}(h:sc.names.lookup x=some .cell):∃c,(cellsFrom n sc.names []).lookup x=some c:=by
 have q:=JM sc.names n [] (.inl h);exact Option.isSome_iff_exists.mp q
theorem tq{CX:pV}{P:KA}{w:Kz}{K:Jv}{mg:bC}{base:KC}{N ps:ap}{qual:Str}{scope:KL}{f:Kv}{cd:Kt}{A:KJ}{outer:List Env}{s s1:Ky}{H:Hp}{E:XK}{us:aL}{vs:aB}
  (S:cu N ps scope) (hd:A.handled=none) (e0:tK P w K mg base A outer s H) (hl:vs.length=ps.length) (r:Vals vs us)
  (x:InCallC s s.heap.objs.size (bindL (envOfC qual scope s.heap.objs.size f cd).kindOf (ps.zip us) λ_=>none) (cellsFrom (s.heap.objs.size+1) scope.names []) (bindC (envOfC qual scope s.heap.objs.size f cd).kindOf (ps.zip us) λ_=>none) s1):
  Inv (fG CX P w K mg base N qual scope f cd A outer s H E) [] (start N vs) H s1:=by
 have hpl:ps.length<=N.length:=by have:=congrArg List.length S.pre;rw[Hx]at this;omega
 obtain⟨h1,tk,rfl,hk⟩:=x.done;have noA:∀b:Kv,b∉(fG CX P w K mg base N qual scope f cd A outer s H E).ex:=λb z=>absurd (show b∈([]:ay)from z) (by simp);refine⟨⟨e0.mod,S.kind,rfl,rfl,Hj _,λy z c h1 h2=>?_,λy hy=>?_,λy c _ h=>?_,λ_=>hd,Around.frames_deeper e0.frames,.inr ⟨rfl,rfl⟩,λb z=>absurd z (noA b),e0.bs,e0.bsz,λb _ _=>noA b,λb z=>absurd z (noA b),e0.funs,e0.frf⟩,
  rfl,e0.bare,Un.kept hk,⟨_,x.toInCall.ns,λi y v h1 h2 h3=>?_⟩,λy c h=>⟨_,x.cell y c h⟩,e0.hok.fresh (Hj _),λy c h=>?_,λp hp=>absurd (show p∈([]:aR)from hp) (by simp),e0.hok.kept hk,?_⟩
 ·exact name_of_addr x.apart (PySem.mem_of_lookup h1) (PySem.mem_of_lookup h2)
 ·have hy:scope.names.lookup y=some .cell\/scope.names.lookup y=some .free:=hy;rcases hy with hy|hy
  ·exact pE hy
  ·exact absurd rfl (S.nofree _ (PySem.mem_of_lookup hy))
 ·exact G6 (x.above y c (PySem.mem_of_lookup h))
 ·have hi:i<vs.length:=by
   unfold start at h2;by_cases hi:i<vs.length
   ·exact hi
   ·rw[Hy (by simpa using hi)]at h2;rw[Hz]at h2;split at h2<;>cases h2
  have ha:vs[i]?=some v:=by
   unfold start at h2;rw[HA (by simpa using hi),HB]at h2;cases e:vs[i]? with
   |none=>rw[e]at h2;cases h2
   |some a=>rw[e]at h2;cases h2;rfl
  obtain⟨u,hu,rv⟩:=r.get ha;have hp:ps[i]?=some y:=by
   rw[<-S.pre,HC ‹0›];exact h1
  have ndP:ps.Nodup:=by rw[<-S.pre];exact S.nd.sublist (HD _ _)
  refine⟨u,rv,?_⟩;rcases S.par y (HE hp)with k|k
  ·exact .inl ⟨k,mq ndP hp hu k⟩
  ·obtain⟨c,e⟩:=pE (n:=s.heap.objs.size+1) k;refine .inr ⟨.inl k,c,e,?_⟩;have q:=x.cell y c e;rw[lB ndP hp hu (by show scope.names.lookup y≠_;rw[k];decide)]at q;exact q
 ·exact e0.hok.fresh (G6 (x.above y c (PySem.mem_of_lookup h)))
 ·unfold start;show _=N.length;rw[HF,Hr,List.length_replicate];omega
theorem Af{CX:pV}{P:KA}{w:Kz}{K:Jv}{mg:bC}{base:KC}{k:Nat}{f:Kv}{name qual:Str}{params:Arguments}{body:cD}{scope:KL}{dV kV doc pm cdv ct oc:Kt}{an od:Option Kv}
  {osl:Array (Option Kt)} {N ps:ap} {sp:Sp} (lk:K.lookup f=some ⟨oc,od,.func (JN name qual params body scope dV kV doc pm an cdv ct),osl⟩) (hcd:JO K cdv qual=true) (S:cu N ps scope)
  (len:∀vs H Q E,sp vs H Q E->vs.length=ps.length)
  (hbody:∀ (A:KJ) (outer:List Env) (s:Ky) (H:Hp) (vs:aB) (Q:VK) (E:XK),dr k (A.deeper (envOfC qual scope s.heap.objs.size f cdv))->sp vs H Q E ->
   ∃t,og (fG CX P w K mg base N qual scope f cdv A outer s H E) body t/\t {nx:=λ_ H'=>Q .non H',rt:=Q} (start N vs) H):
  dJ P w K mg base CX (k+1) f (JN name qual params body scope dV kV doc pm an cdv ct) ps sp:=by
 refine⟨len,λA outer s H args us vs Q E hr e0 hb r hsp=>?_⟩;have hl:=len _ _ _ _ hsp;have KX:K.In s.heap:=e0.mod.kin.keeps λb o e=>(e0.bs b o e).1;have lim:s.heap.NoLimit:=e0.mod.nolimit.keeps λb o e=>(e0.bs b o e).1;have hkind:∀y∈ps.zip us,scope.names.lookup y.1=some .local\/(scope.names.lookup y.1=some .cell/\((cellsFrom (s.heap.objs.size+1) scope.names []).lookup y.1).isSome=true):=λ⟨n,v⟩ hy=>by
  rcases S.par n (Hw hy).1 with q|q
  ·exact .inl q
  ·exact .inr ⟨q,JM _ _ _ (.inl q)⟩
 refine codeAny_call_function hr.depth (KX _ _ lk) rfl S.co S.gen rfl (PySem.W.codeRec_of KX hcd) (hb _ _ _ _ ?_);refine wpAny_newFunctionEnv_cells S.kind hkind λenv he s1 x=>?_;subst he;refine⟨lim.keeps x.toInCall.keep,codeAny_func ?_⟩;obtain⟨t,ht,hq⟩:=hbody A outer s H vs Q E (hr.deeper _) hsp;have I:Inv (fG CX P w K mg base N qual scope f cdv A outer s H E) [] (start N vs) H s1:=tq S hr.hd e0 hl r x;refine KQ (ht [] s1 (start N vs) H _ I hq) (λfl s' hs=>?_) λe s' hs=>hs;have fin:∀{σ':St}{H':Hp}{v:V}{u:Kt},Inv (fG CX P w K mg base N qual scope f cdv A outer s H E) [] σ' H' s'->RelV v u->Q v H'->CE outer P w H s Q u s':=
  λ{σ' H' v u} J rv q=>⟨v,H',J.os,J.bare,J.base,J.hok,rv,q⟩
 cases fl with
 |ret u=>
  obtain⟨v,σ',H',J,rv,q⟩:=hs;exact fin J rv q
 |next=>
  obtain⟨σ',H',J,q⟩:=hs;exact fin (v:=V.non) (u:=Value.none) J rfl q
 |brk=>
  obtain⟨_,_,_,q⟩:=hs;exact False.elim q
 |cont=>
  obtain⟨_,_,_,q⟩:=hs;exact False.elim q
section
variable{X:Cx}{x:Str}{p pos:Pos}{e:Kw}{es:aU}{t:TA}{id T:String}{r:aB->Hp->VK->Prop}
noncomputable def Ec(r:aB->Hp->VK->Prop)(t:TA):TE:=λσ H Q=>t σ H λvs H1=>r vs H1 Q
theorem fU(hc:cX X (.builtin id) r)(hg:Gl X x)(hm:X.mg x=none)(hv:KI x=some (.builtin id))(ha:PA X (e::es) t)(hn:x≠"__name__":=by decide)(hdb:(x==("__debug__":Str))=false:=by decide)
  (he:KP (e::es) X.env=(false,eval e X.env)::KP es X.env:=by rfl) (hpl:(backTo pos (KP es X.env)).any (·.1)=false:=by rfl):PE X (.Call (.Name x p) (e::es) [] pos) (Ec r t):=by
 intro pins s σ H Q I h;refine Ls (jd I hg hm hv ?_ hn hdb);exact PyProof.Rows.callWith_builtin1 (bV (ha pos pins s σ H _ I h) λus s1 ⟨vs,H1,I1,r1,q1⟩=>hc pins s1 σ H1 vs us Q I1 r1 q1) he hpl
theorem lA(hc:cX X (.type T) r)(hg:Gl X x)(hm:X.mg x=none)(hv:KI x=some (.type T))(ha:PA X (e::es) t)(hn:x≠"__name__":=by decide)(hdb:(x==("__debug__":Str))=false:=by decide)
  (he:KP (e::es) X.env=(false,eval e X.env)::KP es X.env:=by rfl) (hpl:(backTo pos (KP es X.env)).any (·.1)=false:=by rfl):PE X (.Call (.Name x p) (e::es) [] pos) (Ec r t):=by
 intro pins s σ H Q I h;refine Ls (jd I hg hm hv ?_ hn hdb);exact Kf (bV (ha pos pins s σ H _ I h) λus s1 ⟨vs,H1,I1,r1,q1⟩=>hc pins s1 σ H1 vs us Q I1 r1 q1) he hpl
end
end L2
namespace HT
open PySem PyProof.Rows
theorem CH(A:KJ)(s:Ky)(a:Int)(t:Tok)(c:Int)(u:Tok)(prog:KA)(w:Kz)(E:Kt->Ky->Prop)(Q:Kt->Ky->Prop)(h:Q (.bool (decide (a<c))) s):
  KO (model prog w) A (richCompare .Lt (.int a t) (.int c u)) Q E s:=
 (PyProof.Rows.lt_int h:KO (model prog w) A (KS .Lt (.int a t) (.int c u)) Q E s)
section
open PySem.SeqAt
open PySem.AutoSeq1 (wpAny_loadPart')
open PySem.MeetsSeq PySem.MeetsSeq2 PySem.MeetsSeq3
end
section
variable{prog:KA}{w:Kz}{A:KJ}{E:Kt->Ky->Prop}{s:Ky}
theorem DT{t b:Kv}{vs ws:List Kt}{Q:Kt->Ky->Prop}(ht:IsTup s.heap t vs.toArray)(hb:IsTup s.heap b ws.toArray)(hv:vs≠[])
  (h1:ws=[]->Q (.ref t) s) (h2:ws≠[]->Q (.ref s.heap.objs.size) {s with heap:=s.heap.push {cls:=.type "tuple",data:=.seq (vs++ws).toArray}})
  (hsz:vs.length+ws.length<=KG):KO (model prog w) A (K8 .Add (.ref t) (.ref b)) Q E s:=by
 obtain⟨⟨cls,dd,data,sl⟩,ho,hc,n,hd⟩:=id ht;obtain⟨⟨cls2,dd2,data2,sl2⟩,ho2,hc2,n2,hd2⟩:=id hb;simp only at hc hd hc2 hd2;subst hc hd hc2 hd2;have e:vs.toArray++ws.toArray=(vs++ws).toArray:=by simp
 by_cases hw:ws=[]
 ·exact Lv ⟨_,ho,rfl⟩ ⟨_,ho2,rfl⟩ Lw Lx Kn Ko (Kp _ _)
   (tuple_addW1 t b vs.toArray ws.toArray n n2 dd dd2 sl sl2 (by simpa using hv) (by simp[hw])) ⟨ho,ho2,h1 hw⟩
 ·refine Lv ⟨_,ho,rfl⟩ ⟨_,ho2,rfl⟩ Lw Lx Kn Ko (Kp _ _)
   (tuple_addW2 t b vs.toArray ws.toArray n n2 dd dd2 sl sl2 (by simpa using hv) (by simpa using hw) (by rw[Hl,Hl];exact hsz)) ⟨ho,ho2,?_⟩
  rw[e];exact h2 hw
noncomputable def sIx(n d:Nat):Option Int->Nat
 |none=>d
 |some v=>if v<0 then(v+(n:Int)).toNat else min v.toNat n
theorem C8(n d:Nat):sIx n d none=d:=rfl
theorem DN(n d k:Nat):sIx n d (some (k:Int))=min k n:=by
 show(if(k:Int)<0 then((k:Int)+(n:Int)).toNat else min (k:Int).toNat n)=min k n;rw[if_neg ‹0›,HG]
theorem AR(n d:Nat)(hd:d<=n)(o:Option Int):sIx n d o<=n:=by
 cases o with
 |none=>exact hd
 |some v=>
  show(if v<0 then(v+(n:Int)).toNat else min v.toNat n)<=n;by_cases hv:v<0
  ·rw[if_pos hv];omega
  ·rw[if_neg hv];exact Nat.min_le_right _ _
theorem sv(v:Int)(n d:Nat):(if v<0 then max (v+(n:Int)) 0 else min v (n:Int))=((sIx n d (some v):Nat):Int):=by
 show(if v<0 then max (v+(n:Int)) 0 else min v (n:Int))=(((if v<0 then(v+(n:Int)).toNat else min v.toNat n):Nat):Int)
 by_cases hv:v<0
 ·simp only[if_pos hv];omega
 ·simp only[if_neg hv];omega
theorem qi(lo hi:Option Int)(n:Nat):Builtin.Slice.sliceAdjust lo hi 1 (n:Int)=(((sIx n 0 lo:Nat):Int),((sIx n n hi:Nat):Int)):=by
 have h1:¬((1:Int)<0):=by omega
 unfold Builtin.Slice.sliceAdjust;simp only[h1,if_false];refine Prod.ext ?_ ?_
 ·cases lo with
  |none=>rfl
  |some v=>exact sv v n 0
 ·cases hi with
  |none=>rfl
  |some v=>exact sv v n n
theorem pY(i j:Nat):Builtin.Slice.slicePlaces (i:Int) (j:Int) 1=j-i:=by
 unfold Builtin.Slice.slicePlaces;have h1:(1:Int)>0:=by omega
 simp only[h1,if_true,Int.ediv_one];split<;>omega
theorem kT{v:Kt}{o:Option Int}{Q:Option Int->Ky->Prop}(p:Ly v o)(h:Q o s):KO (model prog w) A (Builtin.Slice.slicePartIndex v) Q E s:=by
 cases p with
 |none=>exact slicePart_none h
 |int i t=>exact slicePart_int h
theorem jh{sl:Kv}{vl vu:Kt}{lo hi:Option Int}{n:Nat}{Q:Int×Int×Nat->Ky->Prop}(hs:s.heap.IsSliceOf sl vl vu .none)(pl:Ly vl lo)(pu:Ly vu hi)
  (h:Q (((sIx n 0 lo:Nat):Int),1,sIx n n hi-sIx n 0 lo) s):KO (model prog w) A (Builtin.Slice.sliceApplied (.ref sl) (pure (n:Int))) Q E s:=by
 obtain⟨os,hos,hcs,hds⟩:=id hs;unfold Builtin.Slice.sliceApplied Builtin.Slice.sliceFields;refine KZ (KZ (Lz hos hds (x:=vl) rfl (KZ (Lz hos hds (x:=vu) rfl (KZ (Lz hos hds (x:=.none) rfl (K3 ?_)))))));refine KZ (slicePart_none ?_);show KO _ _ (if((1:Int)==0)=true then _ else _) _ _ s;rw[if_neg (by decide)];refine KZ (kT pl (KZ (kT pu (KZ (K3 ?_)))));show KO _ _ (match Builtin.Slice.sliceAdjust lo hi 1 (n:Int)with|(lo,hi)=>pure (lo,(1:Int),Builtin.Slice.slicePlaces lo hi 1)) _ _ s;rw[qi lo hi n];show KO _ _ (pure (((sIx n 0 lo:Nat):Int),(1:Int),Builtin.Slice.slicePlaces ((sIx n 0 lo:Nat):Int) ((sIx n n hi:Nat):Int) 1)) _ _ s;rw[pY];exact K3 h
theorem vc(xs:Array Kt)(i k:Nat):((List.range k).filterMap λ(m:Nat)=>xs[((i:Int)+(m:Int)*1).toNat]?).toArray=((xs.toList.drop i).take k).toArray:=by
 have e:(λ(m:Nat)=>xs[((i:Int)+(m:Int)*1).toNat]?)=λm=>xs[i+m]?:=by
  funext m
  have:((i:Int)+(m:Int)*1).toNat=i+m:=by omega
  rw[this]
 rw[e]
 have:=pick_run xs i k
 rw[List.filterMap_map]at this;have e2:((λx=>xs[x]?)∘λx=>i+x)=λm=>xs[i+m]?:=rfl;rw[e2]at this;rw[this]
theorem qU{t sl:Kv}{items:Array Kt}{vl vu:Kt}{lo hi:Option Int}{Q:Kt->Ky->Prop}(ht:IsTup s.heap t items)(hs:s.heap.IsSliceOf sl vl vu .none)(pl:Ly vl lo)(pu:Ly vu hi)
  (hw:¬(sIx items.size 0 lo=0/\sIx items.size items.size hi=items.size))
  (h:Q (.ref s.heap.objs.size) {s with heap:=s.heap.push {cls:=.type "tuple",data:=.seq ((items.toList.drop (sIx items.size 0 lo)).take (sIx items.size items.size hi-sIx items.size 0 lo)).toArray}})
  (hsz:items.size<=KG):KO (model prog w) A (getItem (.ref t) (.ref sl)) Q E s:=by
 have htake:sizeOk (.seq ((items.toList.drop (sIx items.size 0 lo)).take (sIx items.size items.size hi-sIx items.size 0 lo)).toArray):=by
  show((items.toList.drop (sIx items.size 0 lo)).take (sIx items.size items.size hi-sIx items.size 0 lo)).toArray.size<=KG;rw[Hl,Hx,HH,Array.length_toList];omega
 have hj:sIx items.size items.size hi<=items.size:=AR _ _ (Hj _) hi;obtain⟨os,hos,hcs,hds⟩:=id hs;have hTs:s.TypeIs (.ref sl) "slice":=⟨os,hos,hcs⟩
 unfold getItem
 try with_reducible refine K1 ?_
 first|refine KZ (K3 ?_)|skip
 refine KZ (wpAny_sequenceKey ht.typeIs (by decide) ?_);refine KZ (LA (name:=Str.ofString "__getitem__") ht.typeIs Kg
  (LC Kg ht.typeIs entry_tuple_getitem ?_ (args_tuple_getitem _ _)))
 show KO _ _ (Builtin.Tuple.tupleItemsOf (.ref t) >>= _) _ _ s;refine KZ (tupleItemsOf_ ht ?_);refine KZ (LD hTs ?_);rw[if_pos (by decide)];refine KZ (jh hs pl pu ?_);have hno:¬((((sIx items.size 0 lo:Nat):Int)==0&&(1:Int)==1&&(sIx items.size items.size hi-sIx items.size 0 lo)==items.size)=true):=by
  intro q;rw[HI,HI]at q;have q1:((sIx items.size 0 lo:Nat):Int)=0:=eq_of_beq q.1.1;have q2:sIx items.size items.size hi-sIx items.size 0 lo=items.size:=eq_of_beq q.2;exact hw ⟨by omega,by omega⟩
 show KO _ _ (if(((sIx items.size 0 lo:Nat):Int)==0&&(1:Int)==1&&(sIx items.size items.size hi-sIx items.size 0 lo)==items.size)=true then _ else _) _ _ s;rw[if_neg hno,vc]
 first
  |exact KZ (m:=Builtin.Tuple.tupleExact _) (LJ (K3 ⟨_,rfl,K3 h⟩) htake)
  |exact KZ (m:=Builtin.Tuple.tupleExact _) (LJ (KZ (K3 (K3 ⟨_,rfl,K3 h⟩))) htake)
  |exact KZ (KZ (m:=Builtin.Tuple.tupleExact _) (LJ (K3 (K3 ⟨_,rfl,K3 h⟩)) htake))
  |exact KZ (KZ (m:=Builtin.Tuple.tupleExact _) (LJ (K3 ⟨_,rfl,K3 h⟩) htake))
end
end HT
namespace L2
open PySem PySem.Spec PyProof.Rows
noncomputable abbrev TO:=St->Hp->(bY->Hp->Prop)->Prop
noncomputable def PO(X:Cx)(e:Option Kw)(t:TO):Prop:=
 ∀(pins:aR)(s:Ky)(σ:St)(H:Hp)(Q:bY->Hp->Prop),Inv X pins σ H s->t σ H Q->
  KO (model X.prog X.w) X.A (evalPart e X.env) (λu s'=>∃o H',Inv X pins σ H' s'/\Ly u o/\Q o H') X.xe s
noncomputable def zf:TO:=λ_ H Q=>Q none H
noncomputable def Du(t:TE):TO:=λσ H Q=>t σ H λx H1=>∃i,x=.int i/\Q (some i) H1
section
variable{X:Cx}{e:Kw}{te:TE}{lo hi:Option Kw}{tl th:TO}{pos p2:Pos}
theorem yR:PO X none zf:=by
 intro pins s σ H Q I h;rw[evalPart_none];exact K3 ⟨none,H,I,.none,h⟩
theorem xB(h:PE X e te):PO X (some e) (Du te):=by
 intro pins s σ H Q I hw;rw[evalPart_some];refine bV (h pins s σ H _ I hw) λu s1 ⟨x,H1,I1,r1,q1⟩=>?_;obtain⟨i,rfl,q⟩:=q1;obtain⟨t,rfl⟩:=r1;exact⟨some i,H1,I1,.int i t,q⟩
noncomputable def D4(X:Cx)(r:V->bY->bY->Hp->VK->Prop):Prop:=
 ∀(pins:aR)(s:Ky)(σ:St)(H:Hp)(x:V)(v vl vu:Kt)(lo hi:bY)(sl:Kv)(Q:VK),Inv X pins σ H s->RelV x v->s.heap.IsSliceOf sl vl vu .none->Ly vl lo->Ly vu hi->r x lo hi H Q->
  ∃T id,typeLookup (.type T) "__getitem__"=pure (some (.builtin id))/\s.TypeIs v T/\KO (model X.prog X.w) X.A (getItem v (.ref sl)) (EP X pins σ Q) X.xe s
noncomputable def GX(r:V->bY->bY->Hp->VK->Prop)(te:TE)(tl th:TO):TE:=λσ H Q=>te σ H λx H1=>tl σ H1 λl H2=>th σ H2 λu H3=>r x l u H3 Q
theorem vG{r:V->bY->bY->Hp->VK->Prop}(hr:D4 X r)(he:PE X e te)(hl:PO X lo tl)(hu:PO X hi th):PE X (.Subscript e (.Slice lo hi none p2) pos) (GX r te tl th):=by
 intro pins s σ H Q I h;refine Subscript_ (bV (he pins s σ H _ I h) λv s1 ⟨x,H1,I1,r1,q1⟩=>?_);refine wpAny_Slice (bV (hl pins s1 σ H1 _ I1 q1) λvl s2 ⟨l,H2,I2,pl,q2⟩=>bV (hu pins s2 σ H2 _ I2 q2) λvu s3 ⟨u,H3,I3,pu,q3⟩=>?_);rw[evalPart_none];refine K3 ?_;have I4:Inv X pins σ H3 {s3 with heap:=s3.heap.push {cls:=.type "slice",data:=.fields #[vl,vu,.none]}}:=I3.kept (t':=s3.toks) λb ob q=>J6 _ q;obtain⟨T,id,hT,ht,hg⟩:=hr pins {s3 with heap:=s3.heap.push {cls:=.type "slice",data:=.fields #[vl,vu,.none]}} σ H3 x v vl vu l u s3.heap.objs.size Q I4 r1 (Heap.IsSliceOf.new ..) pl pu q3;show KO (model X.prog X.w) X.A (subscriptTail e (.Slice lo hi none p2) v (.ref s3.heap.objs.size)) (EP X pins σ Q) X.xe {s3 with heap:=s3.heap.push {cls:=.type "slice",data:=.fields #[vl,vu,.none]}};exact tail_any (ops:=[.ref s3.heap.objs.size,v]) ht hT hg (by with_unfolding_all rfl)
noncomputable def oG(xs:aB)(lo hi:bY):aB:=(xs.drop (HT.sIx xs.length 0 lo)).take (HT.sIx xs.length xs.length hi-HT.sIx xs.length 0 lo)
theorem jC(xs:aB)(lo hi:bY):(oG xs lo hi).length<=xs.length:=by
 unfold oG;rw[Hx,HH];omega
noncomputable def Fv(K:Jv):V->bY->bY->Hp->VK->Prop:=λx lo hi H Q=>∃a xs,x=.ref a/\jn K H a xs/\
 ¬(HT.sIx xs.length 0 lo=0/\HT.sIx xs.length xs.length hi=xs.length)/\∀p,H p=none->Q (.ref p) (upd H p (.tup (oG xs lo hi)))
theorem BC:D4 X (Fv X.K):=by
 intro pins s σ H x v vl vu lo hi sl Q I rx hs pl pu h;obtain⟨a,xs,rfl,hx,hw,q⟩:=h;cases rx;obtain⟨its,r,ht,hz⟩:=I.tuple hx;have hlen:its.toArray.size=xs.length:=by rw[Hl];exact r.length.symm
 refine⟨"tuple",_,PyProof.Rows.slot_tuple_getitem.lookup,ht.typeIs,?_⟩;refine HT.qU ht hs pl pu (by rw[hlen];exact hw) ?_ (by rw[hlen];exact hz);rw[hlen];refine⟨.ref s.heap.objs.size,_,I.laid (t':=s.toks) (o:=.tup (oG xs lo hi)) (λb ob q=>J6 _ q) (Hj _) ?_,rfl,q _ (I.hok.fresh (Hj _))⟩;exact⟨G5 (jC xs lo hi) hz,_,(r.drop (HT.sIx xs.length 0 lo)).take (HT.sIx xs.length xs.length hi-HT.sIx xs.length 0 lo),IsTup.new _ _⟩
noncomputable def C5(K:Jv):R2:=λx y H Q=>∃a b xs ys,x=.ref a/\y=.ref b/\jn K H a xs/\jn K H b ys/\xs≠[]/\xs.length+ys.length<=KG/\
 (ys=[]->Q (.ref a) H)/\(ys≠[]->∀p,H p=none->Q (.ref p) (upd H p (.tup (xs++ys))))
theorem Vals.nil_iff{xs:aB}{us:aL}(r:Vals xs us):us=[]↔xs=[]:=by
 cases r with
 |nil=>simp
 |cons _ _=>simp
theorem zp:eU X (K8 .Add) (C5 X.K):=by
 intro pins s σ H x y v u Q I rx ry h;obtain⟨a,b,xs,ys,rfl,rfl,ha,hb,hx,hz,q1,q2⟩:=h;cases rx;cases ry;obtain⟨its,r1,p1,_⟩:=I.tuple ha;obtain⟨its2,r2,p2,_⟩:=I.tuple hb;refine HT.DT p1 p2 (λz=>hx (r1.nil_iff.mp z)) (λz=>⟨.ref a,H,I,rfl,q1 (r2.nil_iff.mp z)⟩) (λz=>?_) (by rw[<-r1.length,<-r2.length];exact hz);refine⟨.ref s.heap.objs.size,_,I.laid (t':=s.toks) (o:=.tup (xs++ys)) (λb ob q=>J6 _ q) (Hj _) ?_,rfl,q2 (λw=>z (r2.nil_iff.mpr w)) _ (I.hok.fresh (Hj _))⟩;exact⟨by rw[HF];exact hz,_,r1.append r2,IsTup.new _ _⟩
end
noncomputable def pH(n:Nat)(i:Int):Option Nat:=if 0<=i then(if i<n then some i.toNat else none)else if -(n:Int)<=i then some (i+n).toNat else none
noncomputable def jc{α:Type}(xs:List α)(i:Int):Option α:=(pH xs.length i).bind λj=>xs[j]?
theorem qP{n:Nat}{i:Int}{j:Nat}(h:pH n i=some j):seqIndex? i n=some j/\j<n/\-(n:Int)<=i/\i<n:=by
 unfold pH at h;by_cases h0:0<=i
 ·rw[if_pos h0]at h;by_cases h1:i<n
  ·rw[if_pos h1]at h;have e:i.toNat=j:=Option.some.inj h;exact⟨by rw[seqIndex_of h0 h1,e],by omega,by omega,h1⟩
  ·rw[if_neg h1]at h;cases h
 ·rw[if_neg h0]at h;by_cases h1:-(n:Int)<=i
  ·rw[if_pos h1]at h;have e:(i+n).toNat=j:=Option.some.inj h;exact⟨by rw[seqIndex_neg ‹0› h1,e],by omega,h1,by omega⟩
  ·rw[if_neg h1]at h;cases h
theorem mQ{α:Type}{xs:List α}{i:Int}{v:α}(h:jc xs i=some v):∃j,seqIndex? i xs.length=some j/\xs[j]?=some v/\j<xs.length/\-(xs.length:Int)<=i/\i<xs.length:=by
 unfold jc at h;cases e:pH xs.length i with
 |none=>rw[e]at h;cases h
 |some j=>
  rw[e]at h;obtain⟨h1,h2,h3,h4⟩:=qP e;exact⟨j,h1,h,h2,h3,h4⟩
noncomputable def nI(b:Kw):Prop:=∀o i,subscripted b false o i=operate [o,i] (getItem o i)
noncomputable def Cy(X:Cx)(r:R2):Prop:=
 ∀(value slice:Kw)(pins:aR)(s:Ky)(σ:St)(H:Hp)(x y:V)(v u:Kt)(Q:VK),Inv X pins σ H s->RelV x v->RelV y u->r x y H Q->
  subscripted slice false v u=operate [v,u] (getItem v u)->KO (model X.prog X.w) X.A (subscriptTail value slice v u) (EP X pins σ Q) X.xe s
noncomputable def Fs(X:Cx)(id:String)(r:V->aB->Hp->VK->Prop):Prop:=
 ∀(pins:aR)(s:Ky)(σ:St)(H:Hp)(x:V)(xs:aB)(v:Kt)(us:aL)(Q:VK),Inv X pins σ H s->RelV x v->Vals xs us->r x xs H Q->
  KO (model X.prog X.w) X.A (call (.builtin id) (v::us)) (EP X pins σ Q) X.xe s
section
variable{X:Cx}{a b:Kw}{ta tb:TE}{pos:Pos}
theorem CQ{r:R2}(hr:Cy X r)(ha:PE X a ta)(hb:PE X b tb)(hs:nI b):PE X (.Subscript a b pos) (CI r ta tb):=by
 intro pins s σ H Q I h;exact Subscript_ (AQ ha hb I h λv u s2 x y H2 I2 rx ry q=>hr a b pins s2 σ H2 x y v u Q I2 rx ry q (hs _ _))
noncomputable def En(K:Jv):R2:=λx y H Q=>∃p xs i v,x=.ref p/\y=.int i/\gQ K H p xs/\jc xs i=some v/\Q v H
noncomputable def EQ(K:Jv):R2:=λx y H Q=>∃p xs i v,x=.ref p/\y=.int i/\jn K H p xs/\jc xs i=some v/\Q v H
noncomputable def FQ:R2:=λx y H Q=>∃z i c,x=.str z/\y=.int i/\z.length<=KG/\jc z.cps.toList i=some c/\Q (.str ⟨#[c]⟩) H
theorem yx:Cy X (En X.K):=by
 intro value slice pins s σ H x y v u Q I rx ry h hs;obtain⟨p,xs,i,z,rfl,rfl,hq,he,q⟩:=h;cases rx;obtain⟨t,rfl⟩:=ry;obtain⟨its,r,pl,hz⟩:=I.list hq;obtain⟨j,h1,h2,h3,h4,h5⟩:=mQ he;obtain⟨w,ew,rw'⟩:=r.get h2;have hl:=r.length;have hn:=gV;have fin:EP X pins σ Q w s:=⟨z,H,I,rw',q⟩
 by_cases h0:0<=i
 ·have hj:i.toNat=j:=by
   rw[seqIndex_of h0 h5]at h1;exact Option.some.inj h1
  exact item_listR pl.isList h0 ‹0› (by rw[hj];simpa using ew) fin hs
 ·have hj:(i+(its.toArray.size:Int)).toNat=j:=by
   rw[seqIndex_neg ‹0› h4]at h1;rw[Hl,<-hl];exact Option.some.inj h1
  exact subscriptTail_builtinR (x:=w) pl.isList.typeIs slot_list_getitem.lookup
   (wpAny_getItem_list_neg (Q:=λr s'=>r=w/\EP X pins σ Q r s') pl.isList ‹0› (by rw[Hl]<;>omega) ‹0› (by rw[hj];simpa using ew) ⟨rfl,fin⟩) hs
theorem AD:Cy X (EQ X.K):=by
 intro value slice pins s σ H x y v u Q I rx ry h hs;obtain⟨p,xs,i,z,rfl,rfl,hq,he,q⟩:=h;cases rx;obtain⟨t,rfl⟩:=ry;obtain⟨its,r,pl,hz⟩:=I.tuple hq;obtain⟨j,h1,h2,h3,h4,h5⟩:=mQ he;obtain⟨w,ew,rw'⟩:=r.get h2;have hl:=r.length;have hn:=gV;have fin:EP X pins σ Q w s:=⟨z,H,I,rw',q⟩
 exact subscriptTail_builtinR (x:=w) pl.typeIs slot_tuple_getitem.lookup
  (getItem_tuple (j:=j) (Q:=λr s'=>r=w/\EP X pins σ Q r s') pl ‹0› ‹0› (by rw[Hl,<-hl];exact h1) (by simpa using ew) ⟨rfl,fin⟩) hs
theorem AI:Cy X FQ:=by
 intro value slice pins s σ H x y v u Q I rx ry h hs;obtain⟨z,i,c,rfl,rfl,hz,he,q⟩:=h;obtain⟨t,rfl⟩:=rx;obtain⟨t',rfl⟩:=ry;obtain⟨j,h1,h2,h3,h4,h5⟩:=mQ he;have hl:z.cps.toList.length=z.length:=by simp[Str.length]
 rw[hl]at h1 h4 h5;have hn:=gV;exact tail_any (typeIs_str s z t) slot_str_getitem.lookup (getItem_str (c:=c) (by
  have e1:decide (i < -(2^63:Int))=false:=decide_eq_false ‹0›;have e2:decide (i>=2^63)=false:=decide_eq_false ‹0›;rw[e1,e2,Bool.or_false]) (by rw[h1];simpa using h2) ⟨.str ⟨#[c]⟩,H,I.tok _,⟨_,rfl⟩,q⟩) hs
theorem qk(its:aL)(n j:Nat)(u:Kt):Obj.mapSeq (·.setIfInBounds j u) {cls:=.type "list",data:=.seq its.toArray n}={cls:=.type "list",data:=.seq (its.set j u).toArray n}:=by
 simp[Obj.mapSeq]
theorem Inv.lst{pins:aR}{σ:St}{H:Hp}{s:Ky}{p:Kv}{xs:aB}(I:Inv X pins σ H s)(h:H p=some (.lst xs)):
  ∃(its:aL)(n:Nat),Vals xs its/\s.heap.get? p=some {cls:=.type "list",data:=.seq its.toArray n}/\xs.length<=KG:=by
 obtain⟨z,its,n,r,e⟩:=I.hok p _ h;exact⟨its,n,r,e,z⟩
theorem Inv.lstUpd{pins:aR}{σ:St}{H:Hp}{s:Ky}{p:Kv}{xs ys:aB}{its its':aL}{n n':Nat}{f:Obj->Obj}(I:Inv X pins σ H s)(h:H p=some (.lst xs))
  (ho:s.heap.get? p=some {cls:=.type "list",data:=.seq its.toArray n}) (hf:f {cls:=.type "list",data:=.seq its.toArray n}={cls:=.type "list",data:=.seq its'.toArray n'}) (r:Vals ys its') (hz:ys.length<=KG) (t:Nat):
  Inv X pins σ (upd H p (.lst ys)) {s with heap:=s.heap.update p f,toks:=t}:=by
 have e:(s.heap.update p f).get? p=some {cls:=.type "list",data:=.seq its'.toArray n'}:=by
  rw[J9 f ho (by rw[hf]<;>rfl),hf]
 refine I.write (x:=p) (e:=p) (by rw[h];trivial) (.inl rfl) (λb u hb q=>(Ka _ _ (Ne.symm hb)).trans q) ⟨_,e⟩ ?_;exact⟨hz,its',n',r,e⟩
noncomputable def zX:V->V->V->Hp->(Hp->Prop)->Prop:=λo i v H Q=>∃p xs k j,o=.ref p/\i=.int k/\H p=some (.lst xs)/\pH xs.length k=some j/\Q (upd H p (.lst (xs.set j v)))
theorem set_list:Cp X zX:=by
 intro pins s σ H o i v ov iv u Q I ro ri rv h;obtain⟨p,xs,k,j,rfl,rfl,hp,hj,q⟩:=h;cases ro;obtain⟨t,rfl⟩:=ri;obtain⟨its,n,r,ho,hz⟩:=I.lst hp;obtain⟨h1,h2,h3,h4⟩:=qP hj;have hl:=r.length;have hn:=gV;have I':Inv X pins σ (upd H p (.lst (xs.set j v))) {s with heap:=s.heap.update p (Obj.mapSeq (·.setIfInBounds j u))}:=
  I.lstUpd hp ho (qk its n j u) (r.set rv j) (by rw[HJ];exact hz) s.toks
 by_cases h0:0<=k
 ·have hk:k.toNat=j:=by
   rw[seqIndex_of h0 h4]at h1;exact Option.some.inj h1
  exact PySem.W.ki_setAt ho h0 ‹0› (by rw[Hl,<-hl];exact h4) (by rw[hk];exact⟨_,I',q⟩)
 ·have hk:(k+(its.toArray.size:Int)).toNat=j:=by
   rw[seqIndex_neg ‹0› h3]at h1;rw[Hl,<-hl];exact Option.some.inj h1
  exact PySem.W.ki_setBack ho ‹0› (by rw[Hl,<-hl];exact h3) ‹0› (by rw[hk];exact⟨_,I',q⟩)
theorem m9(lo hi:bY)(n:Nat):(sliceBounds lo hi none n).1=((HT.sIx n 0 lo:Nat):Int)/\(sliceBounds lo hi none n).2.1=((HT.sIx n n hi:Nat):Int)/\(sliceBounds lo hi none n).2.2=1:=by
 refine⟨?_,?_,rfl⟩
 ·cases lo with
  |none=>simp[sliceBounds,HT.sIx]
  |some i=>
   simp only[sliceBounds,HT.sIx,HK,show(1:Int)>0 by decide,if_true];by_cases h:i<0
   ·simp only[h,if_true]<;>omega
   ·simp only[h,if_false]<;>omega
 ·cases hi with
  |none=>simp[sliceBounds,HT.sIx]
  |some i=>
   simp only[sliceBounds,HT.sIx,HK,show(1:Int)>0 by decide,if_true];by_cases h:i<0
   ·simp only[h,if_true]<;>omega
   ·simp only[h,if_false]<;>omega
theorem lq(its:aL)(lo hi:bY):slicePick its.toArray lo hi none=((its.drop (HT.sIx its.length 0 lo)).take (HT.sIx its.length its.length hi-HT.sIx its.length 0 lo)).toArray:=by
 obtain⟨h1,h2,h3⟩:=m9 lo hi its.toArray.size;unfold slicePick;rw[h1,h2,h3];simp only[sliceRange_one,pick_run,Hl]<;>rfl
noncomputable def ER(K:Jv):V->bY->bY->Hp->VK->Prop:=λx lo hi H Q=>∃a xs,x=.ref a/\gQ K H a xs/\∀p,H p=none->Q (.ref p) (upd H p (.lst (oG xs lo hi)))
theorem ya:D4 X (ER X.K):=by
 intro pins s σ H x v vl vu lo hi sl Q I rx hs pl pu h;obtain⟨a,xs,rfl,hx,q⟩:=h;cases rx;obtain⟨its,r,ht,hz⟩:=I.list hx;have hlen:=r.length;refine⟨"list",_,slot_list_getitem.lookup,ht.isList.typeIs,?_⟩;refine wpAny_getItem_list_slice ht.isList hs pl pu .none (by simp) ?_ (by rw[Hl]<;>omega);rw[lq,<-hlen];refine⟨.ref s.heap.objs.size,_,I.laid (t':=s.toks) (o:=.lst (oG xs lo hi)) (λb ob q=>J6 _ q) (Hj _) ?_,rfl,q _ (I.hok.fresh (Hj _))⟩;exact⟨G5 (jC xs lo hi) hz,_,0,(r.drop (HT.sIx xs.length 0 lo)).take (HT.sIx xs.length xs.length hi-HT.sIx xs.length 0 lo),J7 _ rfl⟩
noncomputable def wV:V->Bool
 |.non=>true
 |.bl _=>true
 |.int _=>true
 |.str _=>true
 |_=>false
noncomputable def Fj:V->V->Bool
 |.non,.non=>true
 |.bl a,.bl b=>a==b
 |.bl a,.int b=>(if a then 1 else 0)==b
 |.int a,.bl b=>a==(if b then 1 else 0)
 |.int a,.int b=>a==b
 |.str a,.str b=>a==b
 |_,_=>false
theorem A7{A:KJ}{s:Ky}{y x:V}{u v:Kt}(ry:RelV y u)(rx:RelV x v)(fy:wV y=true)(fx:wV x=true):SeqAt.EqAt A s u v (Fj y x):=by
 cases y with
 |non=>
  cases ry;cases x with
  |non=>cases rx;exact SeqAt.EqAt.same _
  |bl b=>cases rx;exact SeqAt.EqAt.none_bool b
  |int b=>obtain⟨t,rfl⟩:=rx;exact SeqAt.EqAt.none_int b t
  |str b=>obtain⟨t,rfl⟩:=rx;exact SeqAt.EqAt.none_str b t
  |_=>exact absurd (show false=true from fx) Hm
 |bl a=>
  cases ry;cases x with
  |non=>cases rx;exact SeqAt.EqAt.bool_none a
  |bl b=>cases rx;exact SeqAt.EqAt.bool_bool a b
  |int b=>obtain⟨t,rfl⟩:=rx;exact SeqAt.EqAt.bool_int a b t
  |str b=>obtain⟨t,rfl⟩:=rx;exact SeqAt.EqAt.bool_str a b t
  |_=>exact absurd (show false=true from fx) Hm
 |int a=>
  obtain⟨t',rfl⟩:=ry;cases x with
  |non=>cases rx;exact SeqAt.EqAt.int_none a t'
  |bl b=>cases rx;exact SeqAt.EqAt.int_bool a t' b
  |int b=>obtain⟨t,rfl⟩:=rx;exact SeqAt.EqAt.int_int a t' b t
  |str b=>obtain⟨t,rfl⟩:=rx;exact SeqAt.EqAt.int_str a t' b t
  |_=>exact absurd (show false=true from fx) Hm
 |str a=>
  obtain⟨t',rfl⟩:=ry;cases x with
  |non=>cases rx;exact SeqAt.EqAt.str_none a t'
  |bl b=>cases rx;exact SeqAt.EqAt.str_bool a t' b
  |int b=>obtain⟨t,rfl⟩:=rx;exact SeqAt.EqAt.str_int a t' b t
  |str b=>obtain⟨t,rfl⟩:=rx;exact SeqAt.EqAt.str_str a t' b t
  |_=>exact absurd (show false=true from fx) Hm
 |_=>exact absurd (show false=true from fy) Hm
theorem iS:cX X (.builtin "len") (λxs H Q=>∃p ys,xs=[.ref p]/\(gQ X.K H p ys\/jn X.K H p ys)/\Q (.int ys.length) H):=by
 intro pins s σ H xs us Q I r h;obtain⟨p,ys,rfl,hq,q⟩:=h;obtain⟨u,rfl,rx⟩:=vals1 r;cases rx;have hn:=gV;rcases hq with hq|hq
 ·obtain⟨its,r',pl,hz⟩:=I.list hq;have hlen:=r'.length;exact Calls.call_len_list pl.isList (by simp only[Hl]<;>omega) ⟨.int ys.length,H,I.tok _,⟨s.toks+1,by rw[Hl,hlen]⟩,q⟩
 ·obtain⟨its,r',pl,hz⟩:=I.tuple hq;have hlen:=r'.length;exact len_tuple pl (by simp only[Hl]<;>omega) ⟨.int ys.length,H,I.tok _,⟨s.toks+1,by rw[Hl,hlen]⟩,q⟩
theorem n8:cX X (.builtin "len") (λxs H Q=>∃z,xs=[.str z]/\z.length<=KG/\Q (.int z.length) H):=by
 intro pins s σ H xs us Q I r h;obtain⟨z,rfl,hz,q⟩:=h;obtain⟨u,rfl,t,rfl⟩:=vals1 r;have hn:=gV;exact len_str ‹0› ⟨.int z.length,H,I.tok _,⟨_,rfl⟩,q⟩
theorem eS:cX X (.type "list") (λxs H Q=>∃p ys,xs=[.ref p]/\(gQ X.K H p ys\/jn X.K H p ys)/\∀l,H l=none->Q (.ref l) (upd H l (.lst ys))):=by
 intro pins s σ H xs us Q I r h;obtain⟨p,ys,rfl,hq,q⟩:=h;obtain⟨u,rfl,rx⟩:=vals1 r;cases rx;have fin:∀(its:aL),Vals ys its->ys.length<=KG->∀(h':KC)(c':Nat),(∀b o',s.heap.get? b=some o'->h'.get? b=some o')->
   h'.get? s.heap.objs.size=some {cls:=.type "list",dict:=none,data:=.seq its.toArray c',slots:=#[]}->EP X pins σ Q (.ref s.heap.objs.size) {s with heap:=h'}:=λits r' hz h' c' kp e=>
  ⟨.ref s.heap.objs.size,_,I.laid (t':=s.toks) kp (Hj _) (show ce X.prog X.w _ h' _ (.lst ys)from⟨hz,its,c',r',e⟩),rfl,q _ (I.hok.fresh (Hj _))⟩
 rcases hq with hq|hq
 ·obtain⟨its,r',pl,hz⟩:=I.list hq;have hlen:=r'.length;obtain⟨o,ho,hc,n,hd⟩:=pl.isList;exact call_list_seq p (.inl rfl) ho hc hd (λh' c' kp e=>fin its r' hz h' c' kp e) (by simp only[Hl]<;>omega)
 ·obtain⟨its,r',pl,hz⟩:=I.tuple hq;have hlen:=r'.length;obtain⟨o,ho,hc,n,hd⟩:=pl;exact call_list_seq p (.inr rfl) ho hc hd (λh' c' kp e=>fin its r' hz h' c' kp e) (by simp only[Hl]<;>omega)
theorem gP:cX X (.type "tuple") (λxs H Q=>∃p ys,xs=[.ref p]/\((gQ X.K H p ys/\∀l,H l=none->Q (.ref l) (upd H l (.tup ys)))\/(jn X.K H p ys/\Q (.ref p) H))):=by
 intro pins s σ H xs us Q I r h;obtain⟨p,ys,rfl,h⟩:=h;obtain⟨u,rfl,rx⟩:=vals1 r;cases rx;rcases h with⟨hq,q⟩|⟨hq,q⟩
 ·obtain⟨its,r',pl,hz⟩:=I.list hq;have hlen:=r'.length;refine call_tuple_list pl.isList (λh' kp=>?_) (by simp only[Hl]<;>omega);have I1:Inv X pins σ H {s with heap:=h'}:=I.kept (t':=s.toks) kp;have I2:Inv X pins σ (upd H h'.objs.size (.tup ys)) {s with heap:=h'.push {cls:=.type "tuple",data:=.seq its.toArray}}:=
   I1.laid (t':=s.toks) (λb o e=>J6 _ e) (Hj _) (show ce X.prog X.w _ _ _ (.tup ys)from⟨hz,its,r',IsTup.new _ _⟩)
  exact⟨.ref h'.objs.size,_,I2,rfl,q _ (I1.hok.fresh (Hj _))⟩
 ·obtain⟨its,r',pl,hz⟩:=I.tuple hq;exact call_tuple_same pl ⟨.ref p,H,I,rfl,q⟩
noncomputable def Ga(K:Jv)(T:String)(x:V)(H:Hp):Prop:=match x with
 |.str _=>T="str"
 |.int _=>T="int"
 |.ref p=>(T="list"/\∃xs,gQ K H p xs)\/(T="tuple"/\∃o,K.lookup p=some o/\o.cls=.type "tuple"/\o.dict=none) \/
   (T="dict"/\((∃kvs,H p=some (.dK kvs))\/∃kvs,H p=some (.dT kvs)))\/(T="set"/\∃S n,H p=some (.set S n))
 |_=>False
theorem Bo{pins:aR}{σ:St}{H:Hp}{s:Ky}{T:String}{x:V}{v:Kt}(I:Inv X pins σ H s)(r:RelV x v)(ty:Ga X.K T x H):
  s.TypeIs v T/\∀a,v=.ref a->∃ob,s.heap.get? a=some ob/\ob.dict=none:=by
 cases x with
 |str z=>
  obtain⟨t,rfl⟩:=r;cases(show T="str"from ty);exact⟨typeIs_str s z t,λ_ e=>nomatch e⟩
 |int i=>
  obtain⟨t,rfl⟩:=r;cases(show T="int"from ty);exact⟨typeIs_int s i t,λ_ e=>nomatch e⟩
 |ref p=>
  cases r;rcases ty with⟨rfl,xs,hq⟩|⟨rfl,o,hk,hc,hd⟩|⟨rfl,hk⟩|⟨rfl,S,n,hk⟩
  ·obtain⟨its,_,pl,_⟩:=I.list hq;refine⟨pl.isList.typeIs,λa e=>?_⟩;cases e;obtain⟨o,n,e,c,hd,_⟩:=pl;exact⟨o,e,hd⟩
  ·refine⟨⟨o,I.kIn p o hk,hc⟩,λa e=>?_⟩;cases e;exact⟨o,I.kIn _ o hk,hd⟩
  ·have z:∃o,s.heap.get? p=some o/\o.ExactDict:=by
    rcases hk with⟨kvs,hk⟩|⟨kvs,hk⟩
    ·obtain⟨_,_,_,_,o,_,_,e,ex,_⟩:=I.hok p _ hk;exact⟨o,e,ex⟩
    ·obtain⟨_,_,_,_,o,_,_,e,ex,_⟩:=I.hok p _ hk;exact⟨o,e,ex⟩
   obtain⟨o,e,ex⟩:=z;refine⟨⟨o,e,ex.1⟩,λa e2=>?_⟩;cases e2;exact⟨o,e,ex.2.1⟩
  ·obtain⟨o,_,_,_,e,ex,_⟩:=I.hok p _ hk;refine⟨⟨o,e,ex.1⟩,λa e2=>?_⟩;cases e2;exact⟨o,e,ex.2.1⟩
 |_=>exact False.elim ty
noncomputable def Gx(K:Jv)(T:String)(r:V->aB->Hp->VK->Prop)(to:TE)(t:TA):TE:=λσ H Q=>to σ H λx H1=>Ga K T x H1/\t σ H1 λxs H2=>r x xs H2 Q
variable{o e:Kw}{es:aU}{to:TE}{t:TA}{name:Str}{apos cpos:Pos}{T id:String}{r:V->aB->Hp->VK->Prop}
theorem wy(pa:PlainAttrs T)(slot:Slot T name id)(hty:typeOf (.builtin id)=pure (.type "method_descriptor"))(hm:Fs X id r)(ho:PE X o to)(ha:PA X (e::es) t)
  (hbase:Lf o name X.env (eval o X.env)=eval o X.env:=by rfl)
  (hfew:((backTo cpos (KP (e::es) X.env)).all (fun x=>!x.1) && (backToKw cpos (Li [] X.env)).all (fun x=>x.1.isSome)
   && decide ((e::es).length+([]:List LK).length+(if([]:List LK).isEmpty then 0 else 1)<30))=true:=by rfl)
  (hline:(apos.endLine==cpos.line)=true:=by rfl) (hs:KP (e::es) X.env=(false,eval e X.env)::KP es X.env:=by rfl) (hplain:(backTo cpos (KP es X.env)).any (·.1)=false:=by rfl):
  PE X (.Call (.Attribute o name apos) (e::es) [] cpos) (Gx X.K T r to t):=by
 intro pins s σ H Q I h;refine wpAny_Call_method_late hbase hfew hline rfl (bV (ho pins s σ H _ I h) λv s1 ⟨x,H1,I1,r1,ty,q1⟩=>?_);obtain⟨h1,h2⟩:=Bo I1 r1 ty;refine⟨T,id,pa,slot,hty,h1,h2,?_⟩;have hA:=ha cpos pins s1 σ H1 _ I1 q1;rw[hs]at hA ⊢;refine Calls.callWith_builtin (by show(false||(backTo cpos (KP es X.env)).any (·.1))=false;rw[hplain]<;>rfl) (Calls.evalArgs_plain ?_);exact bV hA λus s2 ⟨vs,H2,I2,r2,q2⟩=>hm pins s2 σ H2 x vs v us Q I2 r1 r2 q2
end
noncomputable def Gb(X:Cx)(id:String)(r:V->aB->Hp->VK->Prop):Prop:=
 ∀(pins:aR)(s:Ky)(σ:St)(H:Hp)(x:V)(xs:aB)(v:Kt)(us:aL)(Q:VK),Inv X pins σ H s->RelV x v->Vals xs us->r x xs H Q->
  KO (model X.prog X.w) X.A (call (.builtin id) (v::us)) (EP X pins σ Q) X.xe s
theorem Vals.one:∀{x:V}{us:aL},Vals [x] us->∃u,us=[u]/\RelV x u
 |_,_,.cons r .nil=>⟨_,rfl,r⟩
section
variable{X:Cx}{pins:aR}{σ:St}{H:Hp}{s:Ky}{l b:Kv}{xs ys zs:aB}
theorem Inv.lset{its its':aL}{n:Nat}{f:Array Kt->Array Kt}{t':Nat}(I:Inv X pins σ H s)(hH:H l=some (.lst xs))
  (e:s.heap.get? l=some {cls:=.type "list",data:=.seq its.toArray n}) (hf:f its.toArray=its'.toArray) (hv:Vals ys its') (hz:ys.length<=KG):
  Inv X pins σ (upd H l (.lst ys)) {s with heap:=s.heap.update l (Obj.mapSeq f),toks:=t'}:=by
 have q:=PySem.IsL.update e f;rw[hf]at q;refine I.write (x:=l) (e:=l) (by rw[hH];exact trivial) (.inl rfl) (λb' u hb hu=>(Ka s.heap (Obj.mapSeq f) (Ne.symm hb)).trans hu) ⟨_,q⟩ ?_;exact⟨hz,its',_,hv,q⟩
theorem Inv.lnew{its:aL}{t':Nat}(I:Inv X pins σ H s)(hv:Vals ys its)(hz:ys.length<=KG):
  Inv X pins σ (upd H s.heap.objs.size (.lst ys)) {s with heap:=s.heap.push {cls:=.type "list",data:=.seq its.toArray},toks:=t'}:=
 I.laid (λ_ _ q=>J6 _ q) (Hj _) ⟨hz,its,0,hv,J7 _ rfl⟩
theorem Inv.fresh(I:Inv X pins σ H s):H s.heap.objs.size=none:=I.hok.fresh (Hj _)
theorem Inv.lstM(I:Inv X pins σ H s)(hH:H l=some (.lst xs)):xs.length<=KG/\∃(its:aL)(n:Nat),Vals xs its/\xs.length=its.length/\s.heap.get? l=some {cls:=.type "list",data:=.seq its.toArray n}:=by
 obtain⟨z,its,n,r,e⟩:=I.hok l _ hH;exact⟨z,its,n,r,r.length,e⟩
end
section
variable{X:Cx}
noncomputable def qY:V->aB->Hp->VK->Prop:=λx vs H Q=>∃l xs y,x=.ref l/\vs=[y]/\H l=some (.lst xs)/\xs.length<KG/\Q .non (upd H l (.lst (xs++[y])))
theorem me:Gb X "list.append" qY:=by
 intro pins s σ H x vs v us Q I rx rv h;obtain⟨l,xs,y,rfl,rfl,hH,hz,q⟩:=h;cases rx;obtain⟨u,rfl,ru⟩:=rv.one;obtain⟨z,its,n,r,hl,e⟩:=I.lstM hH;refine call_meets F.slot_list_append ⟨_,e,rfl⟩ F.entry_list_append (F.args_list_append_2 _ _) (PySem.list_append l its.toArray n u (by rw[Hl];omega)) ⟨e,?_⟩;refine⟨.non,_,I.lset (its':=its++[u]) hH e (by simp) (r.append (.cons ru .nil)) ?_,rfl,q⟩;rw[HF,HL];omega
end
end L2
namespace Att
open PySem PySem.W PySem.Calls PyProof.Rows
theorem jG{P:Params}{h:KC}:∀(ns:List Int)(vs:List Kt),WellAll P h vs (ns.map WData.int)->IntsAre vs ns:=by
 intro ns
 induction ns with
 |nil=>
  intro vs w;rw[HM]at w;cases w;exact .nil
 |cons n ns ih=>
  intro vs w;rw[Hq]at w;cases w with
  |cons a b=>
   cases a;exact .cons _ _ (ih _ b)
theorem ue{l:OpenLaw}{n:Nat}(hn:l.most=some n){P:Params}{h:KC}{args:List WData}{vals:List Kt}
  (hpre:l.row.toRowW.claim.pre args=true) (hwl:WellAll P h vals args):
  ∃a vs ns,vals=[Value.ref a]/\args=[WData.list (ns.map WData.int)]/\h.get? a=some {cls:=.type "list",data:=.seq vs.toArray}/\IntsAre vs ns/\ns.length<=n:=by
 have hsh:WShape.hasAll [] args [.list .int]=true:=(pre_splitW hpre).1;have hc:l.pre.holds [] {args:=args}=true:=(pre_splitW hpre).2;obtain⟨d,r,rfl,h1,h2⟩:=hasAllW_cons hsh;obtain rfl:=hasAllW_nil h2;obtain⟨xs,rfl,h3⟩:=hasW_list h1;obtain⟨ns,rfl⟩:=items_int h3;have hlen:ns.length<=n:=by
  unfold OpenLaw.pre at hc;have h4:(WTm.not (.lt (.lit (.int (n:Int))) (.len (.arg 0)))).holds [] {args:=[.list (ns.map .int)]}=true:=by
   have h4:=(holds_andW hc).1;rw[hn]at h4;exact h4
  have h5:=condW_of h4 (w_not (w_lt w_lit (w_len_list (w_arg rfl))));rw[Hr]at h5;refine Nat.le_of_not_lt λq=>?_;have q':(n:Int)<((ns.length:Nat):Int):=by omega
  first
   |(rw[decide_eq_true q']at h5;exact absurd h5 (by decide))
   |(simp at h5;omega)
 cases hwl with
 |cons w1 w2=>
  cases w2;cases w1 with
  |list ho hall=>exact⟨_,_,ns,rfl,rfl,ho,jG ns _ hall,hlen⟩
theorem tL(l:OpenLaw)(args:List WData):l.row.toRowW.claim.post args (.bool true) args=true:=
 postW_of (r:=l.row.toRowW) (X:=(true==true))
  (show WShape.has [] (.bool true) .bool=true by first|rfl|decide|simp[WShape.has,WShape.arms,WShape.armsAll])
  (show(WTm.eq .res (.lit (.bool true))).value [] {args:=args,res:=some (.bool true),after:=args}=some (.bool (true==true))from w_eq_bool (w_res rfl) w_lit) rfl
theorem zP{l:OpenLaw}{n:Nat}{q:KA}{loose:List Str}{XP:(Str->Option Kt)->KC->Prop}{YP:Kz->KC->Prop}{d:DefRec}
  (hn:l.most=some n) (hdf:d.params.defaults=[])
  (call:∀ (w:Kz) (s₀ s₁:Ky) (mg mb:Str->Option Kt) (fa:Kv) (o:Obj) (pm cd doc:Kt) (a:Kv) (vs:List Kt) (ns:List Int),
   Ground q loose [] XP w s₀ mg mb s₁.heap->YP w s₁.heap->
   s₁.heap.get? fa=some o->o.data=.func (docDef d.name d.params d.body d.scope pm cd doc)->s₁.heap.CodeRec cd d.name->mg d.name=some (.ref fa)->
   s₁.heap.get? a=some {cls:=.type "list",data:=.seq vs.toArray}->IntsAre vs ns->ns.length<=n->s₁.gens=#[]->
   Le (model l.prog w) callerA (.call (.ref fa) ⟨[.ref a],[]⟩) (λr s'=>r=.ok (.ret (.bool true))/\OldK s₁.heap s'.heap/\s'.os=s₁.os/\AllBare s'.gens) s₁):
  WalkO q loose XP YP l.row.toRowW d [] (λf vs=>PySem.call f vs):=by
 intro w s₀ s₁ mg mb G Y fa o pm cd doc dV kV ho hd hcd hD hmg hg args vals as hpre hlay hrd hwl hlo;obtain rfl:dV=.none:=Dflts.none hD hdf;obtain rfl:kV=.none:=Dflts.noKw hD;obtain⟨a,vs,ns,rfl,rfl,hobj,hints,hlen⟩:=ue hn hpre hwl;refine enter_call (Lr (call w s₀ s₁ mg mb fa o pm cd doc a vs ns G Y ho (fd_plain hd) hcd hmg hobj hints hlen hg) λr s' hq=>?_);obtain⟨rfl,h2,h3,h4⟩:=hq;exact⟨.inl ⟨.bool true,.bool true,[],rfl,λ_=>rfl,.bool true,tL l _,λ_=>⟨List.Pairwise.nil,λ_ hm=>(nomatch hm)⟩⟩,h2,h3,h4⟩
section
variable{prog:KA}{w:Kz}{A:KJ}{E:Kt->Ky->Prop}{s:Ky}{K:Frag}
end
end Att
namespace L2
open PySem PySem.Spec PyProof.Rows
theorem lL:∀{vs:aL}{ns:List Int},IntsAre vs ns->Vals (ns.map V.int) vs
 |_,_,.nil=>.nil
 |_,_,.cons n t h=>.cons ⟨t,rfl⟩ (lL h)
noncomputable def Only(H:Hp):Prop:=∀b,H b=none\/∃o xs,H b=some (.frz o (.lst xs))
theorem wZ{P:KA}{w:Kz}{K:Jv}{mg mb:bC}{CX:pV}{k:Nat}{fa a:Kv}{fd:Ln}{x:Str}{sp:Sp}{s₁:Ky}{vs:aL}{ns:List Int}
  (KX:K.In s₁.heap) (hns:s₁.heap.Ns KH mg) (hb:s₁.heap.Ns builtinsNs mb) (hbb:∀x:Str,x≠"__name__"->mb x=KI x) (hlim:s₁.heap.NoLimit) (hg:s₁.gens=#[])
  (ha:s₁.heap.get? a=some {cls:=.type "list",data:=.seq vs.toArray}) (hi:IntsAre vs ns) (hl:ns.length<=KG) (hr:dr k callerA)
  (F:∀base:KC,K.In base->base.Ns KH mg->dJ P w K mg base CX k fa fd [x] sp) (hbind:∀(s:Ky)(u:Kt),Lp s fd ⟨[u],[]⟩ [(x,u)])
  (hsp:∀H:Hp,Only H->gQ K H a (ns.map V.int)->sp [.ref a] H (λv _=>v=.bl true) λ_ _ _=>False)
  (hCX:∀H e s',CX [] H s₁ (λ_ _ _=>False) e s'->False):
  Le (model P w) callerA (.call (.ref fa) ⟨[.ref a],[]⟩) (λr s'=>r=.ok (.ret (.bool true))/\OldK s₁.heap s'.heap/\s'.os=s₁.os/\AllBare s'.gens) s₁:=by
 have rv:=lL hi;have lenV:=hi.length;have core:∀H:Hp,Only H->gQ K H a (ns.map V.int)->kZ P w H s₁.heap->(∀b,H b≠none->b=a)->(H a≠none->K.lookup a=none)->
   Le (model P w) callerA (.call (.ref fa) ⟨[.ref a],[]⟩) (λr s'=>r=.ok (.ret (.bool true))/\OldK s₁.heap s'.heap/\s'.os=s₁.os/\AllBare s'.gens) s₁:=by
  intro H hO hS hok hA hK;have base_of:∀{b:Kv}{o:Obj},s₁.heap.get? b=some o->H b=none->(gL s₁.heap H).get? b=some o:=λe n=>kE e n;have noA:∀{b:Kv}{o:Obj}{es:Array DictEntry}{ep:Nat},s₁.heap.get? b=some o->o.data=.dict es ep->H b=none:=λ{b o es ep} e d=>by
   cases q:H b with
   |none=>rfl
   |some u=>
    have e':b=a:=hA b (by rw[q];simp);subst e';rw[ha]at e;cases e;have d':Data.seq vs.toArray _=Data.dict es ep:=d;cases d'
  have nsK:∀{b:Kv}{m:bC},s₁.heap.Ns b m->(gL s₁.heap H).Ns b m:=λ{b m} ⟨o,es,ep,e,d,r⟩=>⟨o,es,ep,base_of e (noA e d),d,r⟩
  have hKb:K.In (gL s₁.heap H):=λb o e=>base_of (KX b o e) (by
   cases q:H b with
   |none=>rfl
   |some u=>
    have e':b=a:=hA b (by rw[q];simp);subst e';rw[hK (by rw[q];simp)]at e;cases e)
  have hM:Mod K mg (gL s₁.heap H):=⟨hKb,nsK hns,⟨mb,nsK hb,hbb⟩,let ⟨mc,h1,h2⟩:=hlim;⟨mc,nsK h1,h2⟩⟩
  have e0:tK P w K mg (gL s₁.heap H) callerA [] s₁ H:=⟨rfl,hM,λb o e=>hX e,Hs (t7 _ _),trivial,λb hb=>absurd (show b∈([]:ay)from hb) (by simp),hok,.of_eq hg⟩
  refine Lr ((F _ hKb (nsK hns)).run callerA [] s₁ H ⟨[.ref a],[]⟩ [.ref a] [.ref a] _ _ hr e0 (hbind s₁ (.ref a)) (.cons rfl .nil) (hsp H hO hS)) λr s' h=>?_;cases r with
  |error e=>exact(hCX H e s' h).elim
  |ok fl=>
   cases fl with
   |next=>exact False.elim h
   |brk=>exact False.elim h
   |cont=>exact False.elim h
   |ret u=>
    obtain⟨v,H',os,bare,un,hok',r',q⟩:=h;have q':v=.bl true:=q;subst q';obtain rfl:u=Value.bool true:=r';refine⟨rfl,OldK.of_keep λb o e=>?_,os,bare⟩;cases q:H b with
    |none=>exact un.keep b o e q (by intro z;exact absurd (show b∈([]:ay)from z) (by simp)) (by simp)
    |some u=>
     rcases hO b with z|⟨ob,xs,z⟩
     ·rw[q]at z;cases z
     ·have z2:=un.frzs b ob _ z;obtain⟨e1,_⟩:=hok b _ z;obtain⟨e2,_⟩:=hok' b _ z2;rw[e]at e1;cases e1;exact e2
 cases hk:K.lookup a with
 |some o=>
  have e:=KX a o hk;rw[ha]at e;cases e;refine core (λ_=>none) (λ_=>.inl rfl) (.inr ⟨_,vs.toArray,_,hk,rfl,rfl,rfl,by rw[Hl,lenV];exact hl,by simpa using rv⟩) (λb u z=>by have z':(none:Option HO)=some u:=z;cases z') (λb z=>absurd rfl z) λz=>absurd rfl z
 |none=>
  refine core (λb=>if b=a then some (.frz {cls:=.type "list",data:=.seq vs.toArray} (.lst (ns.map V.int)))else none) (λb=>?_) (.inl (.inr ⟨{cls:=.type "list",data:=.seq vs.toArray},if_pos rfl⟩)) (λb u z=>?_) (λb z=>?_) λ_=>hk
  ·by_cases hb:b=a
   ·exact .inr ⟨_,_,if_pos hb⟩
   ·exact .inl (if_neg hb)
  ·by_cases hb:b=a
   ·have z':=(if_pos hb).symm.trans z;cases z';subst hb;exact⟨ha,by rw[Hr];exact hl,vs,_,rv,ha⟩
   ·have z':=(if_neg hb).symm.trans z;cases z'
  ·by_cases hb:b=a
   ·exact hb
   ·exact absurd (if_neg hb) z
theorem DE{l:JP}{n k:Nat}{q:KA}{loose:ap}{XP:(bC)->KC->Prop}{YP:Kz->KC->Prop}{d:DefRec}{K:Params->Jv}{CX:Kz->pV}{sp:Kz->Sp}{x:Str}
  (hn:l.most=some n) (hn2:n<=KG) (hdf:d.params.defaults=[]) (hr:dr k callerA)
  (hY:∀(w:Kz)(h:KC),YP w h->(K w.params).In h)
  (F:∀ (w:Kz) (mg:bC) (fa:Kv) (h:KC),(K w.params).In h->h.Ns KH mg->mg d.name=some (.ref fa) ->
   ∃fd:Ln,(∀(s:Ky)(u:Kt),Lp s fd ⟨[u],[]⟩ [(x,u)])/\
    ∀base:KC,(K w.params).In base->base.Ns KH mg->dJ l.prog w (K w.params) mg base (CX w) k fa fd [x] (sp w))
  (hsp:∀(w:Kz)(H:Hp)(a:Kv)(ns:List Int),ns.length<=n->Only H->gQ (K w.params) H a (ns.map V.int)->sp w [.ref a] H (λv _=>v=.bl true) λ_ _ _=>False)
  (hCX:∀(w:Kz)(H:Hp)(s:Ky)(e:Kt)(s':Ky),CX w [] H s (λ_ _ _=>False) e s'->False):
  PySem.W.WalkO q loose XP YP l.row.toRowW d [] (λf vs=>PySem.call f vs):=by
 refine Att.zP hn hdf λw s₀ s₁ mg mb fa o pm cd doc a vs ns G Y ho hd hcd hmg hobj hints hlen hg=>?_;have KX:=hY w _ Y;obtain⟨fd,hb,hF⟩:=F w mg fa _ KX G.T.g hmg;exact wZ KX G.T.g G.T.b G.T.builtins G.T.nolimit hg hobj hints (G5 hlen hn2) hr hF hb (λH hO hS=>hsp w H a ns hlen hO hS) λH e s'=>hCX w H s₁ e s'
noncomputable def inClass(s:Kx)(j:Nat):Kx:=match s with
 |.ClassDef _ _ _ body _ _ _ _ _ _ _=>body.getD j (.Pass ⟨0,0,0,0⟩)
 |_=>.Pass ⟨0,0,0,0⟩
noncomputable def eX(s:Kx):Arguments:=match s with
 |.FunctionDef _ a _ _ _ _ _ _ _ _=>a
 |_=>{posonlyargs:=[],args:=[],vararg:=none,kwonlyargs:=[],kw_defaults:=[],kwarg:=none,defaults:=[]}
noncomputable def cA(s:Kx):cD:=match s with
 |.FunctionDef _ _ b _ _ _ _ _ _ _=>b
 |_=>[]
noncomputable def aD(s:Kx):KL:=match s with
 |.FunctionDef _ _ _ _ _ _ sc _ _ _=>sc
 |_=>{kind:=.function,names:=[],isGenerator:=false,isCoroutine:=false}
noncomputable abbrev CC:pV:=λ_ _ _ _ _ _=>False
noncomputable abbrev E0:XK:=λ_ _ _=>False
structure pq(K:Jv)(x qual:Str)(st:Kx)(f:Kv)(fd:Ln):Prop where
 ex:∃(oc:Kt)(od:Option Kv)(kV doc pm:Kt)(an:Option Kv)(cdv ct:Kt)(osl:Array (Option Kt)),
  fd=JN x qual (eX st) (cA st) (aD st) .none kV doc pm an cdv ct/\K.lookup f=some ⟨oc,od,.func fd,osl⟩/\JO K cdv qual=true
 kp:JK K (.ref f)=true
section
variable{P:KA}{w:Kz}{K:Jv}{mg:bC}{base:KC}
theorem pq.ok{x qual:Str}{st:Kx}{f:Kv}{fd:Ln}{N ps:ap}{k:Nat}{sp:Sp}(F:pq K x qual st f fd)(S:cu N ps (aD st))(len:∀vs H Q E,sp vs H Q E->vs.length=ps.length)
  (hbody:∀ (cdv:Kt) (A:KJ) (outer:List Env) (s:Ky) (H:Hp) (vs:aB) (Q:VK) (E:XK),dr k (A.deeper (envOfC qual (aD st) s.heap.objs.size f cdv))->sp vs H Q E ->
   ∃t,og (fG CC P w K mg base N qual (aD st) f cdv A outer s H E).nox (cA st) t/\t {nx:=λ_ H'=>Q .non H',rt:=Q} (start N vs) H):dJ P w K mg base CC (k+1) f fd ps sp:=by
 obtain⟨oc,od,kV,doc,pm,an,cdv,ct,osl,rfl,lk,hcd⟩:=F.ex;refine Af lk hcd S len λA outer s H vs Q E hr hsp=>?_;obtain⟨t,h,q⟩:=hbody cdv A outer s H vs Q E hr hsp;exact⟨t,h.nox,q⟩
theorem pq.binds{x qual:Str}{st:Kx}{f:Kv}{fd:Ln}{ps:ap}(F:pq K x qual st f fd)
  (h:∀(kV doc pm:Kt)(an:Option Kv)(cdv ct:Kt)(us:aL),us.length=ps.length->bindArgs (JN x qual (eX st) (cA st) (aD st) .none kV doc pm an cdv ct) ⟨us,[]⟩=pure (ps.zip us)):Binds K fd ps []:=by
 obtain⟨oc,od,kV,doc,pm,an,cdv,ct,osl,rfl,lk,hcd⟩:=F.ex;exact .all (h kV doc pm an cdv ct)
theorem fT{x qual:Str}{st:Kx}{f:Kv}{oc:Kt}{od an:Option Kv}{osl:Array (Option Kt)}{kV doc pm cdv ct:Kt}(l:K.lookup f=some ⟨oc,od,.func (JN x qual (eX st) (cA st) (aD st) .none kV doc pm an cdv ct),osl⟩)
  (c:JO K cdv qual=true) (k:JK K (.ref f)=true):pq K x qual st f (JN x qual (eX st) (cA st) (aD st) .none kV doc pm an cdv ct):=⟨⟨oc,od,kV,doc,pm,an,cdv,ct,osl,rfl,l,c⟩,k⟩
end
section
variable{X:Cx}
theorem pv(i:Nat){x:Str}{pos:Pos}(hN:X.N[i]?=some x:=by rfl)(hv:Bp X.env.scope x:=by first|exact Or.inl rfl|exact Or.inr (Or.inl rfl)|exact Or.inr (Or.inr rfl))(hd:(x==("__debug__":Str))=false:=by decide)
  (hcd:(x==("__classdict__":Str))=false:=by decide):PE X (.Name x pos) (km i):=B2 hN hv hd hcd
end
theorem o5{A B:Prop}(h:B):if false=true then A else B:=by
 rw[if_neg Hm];exact h
theorem oN{A B:Prop}(h:A):if true=true then A else B:=by
 rw[if_pos rfl];exact h
noncomputable def aQ(H H':Hp):Prop:=∀b o,H b=some o->H' b=some o
theorem aQ.refl(H:Hp):aQ H H:=λ_ _ h=>h
theorem aQ.trans{H H1 H2:Hp}(a:aQ H H1)(b:aQ H1 H2):aQ H H2:=λc o h=>b c o (a c o h)
theorem aQ.free{H H':Hp}(e:aQ H H'){l:Kv}(h:H' l=Option.none):H l=Option.none:=by
 cases q:H l with
 |none=>rfl
 |some o=>
  rw[e l o q]at h;cases h
theorem aQ.seq{K:Jv}{H H':Hp}{a:Kv}{xs:aB}(e:aQ H H')(h:gQ K H a xs):gQ K H' a xs:=by
 rcases h with(h|⟨o,h⟩)|h
 ·exact .inl (.inl (e _ _ h))
 ·exact .inl (.inr ⟨o,e _ _ h⟩)
 ·exact .inr h
section
variable{X:Cx}{pins:aR}{σ:St}{H:Hp}{s:Ky}{a:Kv}{y v:V}{u r:Kt}{o:Option V}{A:KJ}{E:bj}
end
noncomputable def b8(cells:jr):kG->jr->jr
 |[],acc=>acc
 |(n,k)::r,acc=>if k=.free then(match cells.lookup n with|some c=>b8 cells r ((n,c)::acc)|none=>b8 cells r acc)else b8 cells r acc
theorem gh{cells:jr}:∀(names:kG)(acc:jr),(∀x c,acc.lookup x=some c->cells.lookup x=some c)->
  ∀x c,(b8 cells names acc).lookup x=some c->cells.lookup x=some c
 |[],acc,h=>h
 |(n,k)::r,acc,h=>by
  unfold b8;by_cases hk:k=.free
  ·rw[if_pos hk];cases e:cells.lookup n with
   |none=>exact gh r acc h
   |some c0=>
    refine gh r _ λx c q=>?_;rw[HN]at q;cases hx:x==n with
    |true=>
     rw[hx]at q;have e1:x=n:=(by simpa using hx);cases q;rw[e1];exact e
    |false=>rw[hx]at q;exact h x c q
  ·rw[if_neg hk];exact gh r acc h
theorem eR{cells:jr}:∀(names:kG)(acc:jr)(x:Str),(acc.lookup x).isSome=true->((b8 cells names acc).lookup x).isSome=true
 |[],acc,x,h=>h
 |(n,k)::r,acc,x,h=>by
  unfold b8;by_cases hk:k=.free
  ·rw[if_pos hk];cases e:cells.lookup n with
   |none=>exact eR r acc x h
   |some c0=>
    refine eR r _ x ?_;rw[HN];cases hx:x==n with
    |true=>rfl
    |false=>exact h
  ·rw[if_neg hk];exact eR r acc x h
theorem eD{cells:jr}:∀(names:kG)(acc:jr)(x:Str),(x,NameKind.free)∈names->(∃c,cells.lookup x=some c)->((b8 cells names acc).lookup x).isSome=true
 |[],acc,x,h,_=>absurd h (by simp)
 |(n,k)::r,acc,x,h,hc=>by
  unfold b8;rcases List.mem_cons.mp h with e|h
  ·cases e;rw[if_pos rfl];obtain⟨c,e⟩:=hc;rw[e];refine eR r _ _ ?_;rw[HN];simp
  ·by_cases hk:k=.free
   ·rw[if_pos hk];cases e:cells.lookup n with
    |none=>exact eD r acc x h hc
    |some c0=>exact eD r _ x h hc
   ·rw[if_neg hk];exact eD r acc x h hc
theorem iI{scope:KL}{env:Env}(h:∀p∈scope.names,p.2=.free->∃c,env.cells.lookup p.1=some c):closureFor scope env=pure (b8 env.cells scope.names []):=by
 have go:∀(names:kG)(acc:jr),(∀p∈names,p.2=.free->∃c,env.cells.lookup p.1=some c)->
   (forIn names acc λx cs=>(match x with|(name,kind)=>if(kind==NameKind.free)=true then do let a<-cellOf env name;pure (ForInStep.yield ((name,a)::cs))else pure (ForInStep.yield cs):Sem (ForInStep jr)))=pure (b8 env.cells names acc):=by
  intro names
  induction names with
  |nil=>intro acc _;rfl
  |cons p r ih=>
   intro acc hp;obtain⟨n,k⟩:=p;rw[HP];by_cases hk:k=.free
   ·obtain⟨c,e⟩:=hp (n,k) G8 hk;subst hk;have e2:cellOf env n=pure c:=(by unfold cellOf;rw[e]);simp only[beq_self_eq_true,if_true,e2,pure_bind];rw[ih _ λq hq=>hp q (G9 _ hq)]
    conv=>rhs;rw[b8]
    simp[e]
   ·have hb:(k==NameKind.free)=false:=(by simpa using hk);simp only[hb,HQ,if_false,pure_bind];rw[ih _ λq hq=>hp q (G9 _ hq)]
    conv=>rhs;rw[b8,if_neg hk]
 have:=go scope.names [] h
 unfold closureFor;simp only[];rw[this];rfl
noncomputable def bz(X:Cx)(scope:KL)(N:ap)(cl:jr)(C:Kv)(fp:ay)(s:Ky)(H:Hp)(E:bj):Cx where
 prog:=X.prog
 w:=X.w
 K:=X.K
 mg:=X.mg
 base:=X.base
 A:=X.A
 N:=N
 s₀:=s
 H₀:=H
 env:=compEnvC scope cl C X.env
 outer:=X.stack
 stack:=X.stack
 ex:=fp
 fn:=λ_=>false
 calm:=X.calm
 pn:=[]
 xe:=E
noncomputable def nS(XN N:ap)(names:kG)(ix:dy):Bool:=
 decide (ix.length=N.length)&&(N.zip ix).all λp=>match p.2 with
  |some i=>decide (XN[i]?=some p.1)&&decide (names.lookup p.1=some .free)
  |none=>true
noncomputable def inBlock(ix:dy)(σ:St):St:=ix.map λo=>match o with
 |some i=>(σ[i]?).getD none
 |none=>none
theorem nS.len{XN N:ap}{names:kG}{ix:dy}(h:nS XN N names ix=true):ix.length=N.length:=by
 unfold nS at h;rw[HI]at h;exact of_decide_eq_true h.1
theorem nS.at_{XN N:ap}{names:kG}{ix:dy}(h:nS XN N names ix=true){j i:Nat}{x:Str}(h1:N[j]?=some x)(h2:ix[j]?=some (some i)):XN[i]?=some x/\names.lookup x=some .free:=by
 unfold nS at h;rw[HI]at h;have hm:(x,some i)∈N.zip ix:=by
  have e:(N.zip ix)[j]?=some (x,some i):=by rw[List.getElem?_zip_eq_some];exact⟨h1,h2⟩
  exact HE e
 have q:=List.all_eq_true.mp h.2 _ hm;simp only[HI]at q;exact⟨of_decide_eq_true q.1,of_decide_eq_true q.2⟩
theorem fZ{env:Env}:∀{names:kG}{x:Str}{k:Ku},
  (names.map λ(n,k)=>if(k==NameKind.free&&env.scope.kind==.function&&env.kindOf n==some .cell)then(n,NameKind.cell)else(n,k)).lookup x=some k->
  names.lookup x=some k\/(names.lookup x=some .free/\k=.cell)
 |[],_,_,h=>by simp at h
 |(n,k0)::r,x,k,h=>by
  have ih:=@fZ env r x k
  replace h:List.lookup x ((if(k0==NameKind.free&&env.scope.kind==.function&&env.kindOf n==some .cell)=true then(n,NameKind.cell)else(n,k0))::(r.map λ(n,k)=>if(k==NameKind.free&&env.scope.kind==.function&&env.kindOf n==some .cell)then(n,NameKind.cell)else(n,k)))=some k:=h
  by_cases hc:(k0==NameKind.free&&env.scope.kind==.function&&env.kindOf n==some .cell)=true
  ·rw[if_pos hc]at h;have hk0:k0=.free:=by
    simp only[HI]at hc
    simpa using hc.1.1
   cases hx:x==n with
   |true=>
    simp only[HN,hx]at h;simp only[HN,hx];cases h;exact .inr ⟨by rw[hk0],rfl⟩
   |false=>
    simp only[HN,hx]at h ⊢;exact ih h
  ·rw[if_neg hc]at h;cases hx:x==n with
   |true=>
    simp only[HN,hx]at h ⊢;exact .inl h
   |false=>
    simp only[HN,hx]at h ⊢;exact ih h
noncomputable def BO(X:Cx)(ifs:aU)(t:TT):Prop:=
 ∀(pins:aR)(s:Ky)(σ:St)(H:Hp)(Q:Bool->Hp->Prop),Inv X pins σ H s->t σ H Q->
  KO (model X.prog X.w) X.A (forIn ifs true λc r=>if r=true then do let ok<-isTrue c X.env (eval c X.env);pure (ForInStep.yield ok)else pure (ForInStep.yield r)) (TP X pins σ Q) X.xe s
noncomputable def Dl:TT:=λ_ H Q=>Q true H
theorem xG{X:Cx}:BO X [] Dl:=λ_ _ _ H _ I h=>wpAny_tests_nil ⟨H,I,h⟩
theorem yN{X:Cx}{c:Kw}{t:TT}(h:PT X c t):BO X [c] t:=λpins s σ H Q I q=>wpAny_tests_one (h pins s σ H Q I q)
theorem gf{prog:KA}{w:Kz}{A:KJ}{R:Ld->fF}{s:Ky}{elt target iter:Kw}{ifs:aU}{scope:KL}{pos:Pos}{it acc:Kt}{env:Env}(I:Nat->fF)
  (turn:∀ n s,I n s->KO (model prog w) A (pyNext it) (fun r s₁=>match r with
   |none=>R (.ok .next) s₁
   |some v=>KO (model prog w) A (letOwnedTupleGo target it v) (λ_ s₁'=>KO (model prog w) A (assign target env v) (λ_ s₂=>
     KO (model prog w) A (forIn ifs true λc r=>if r=true then do let ok<-isTrue c env (eval c env);pure (ForInStep.yield ok)else pure (ForInStep.yield r)) (λok s₃=>
      if ok=true then KO (model prog w) A (eval elt env) (λx s₄=>
       KO (model prog w) A (call (.builtin "list.append") [acc,x]) (λ_ s₅=>∃m,m<n/\I m s₅) (notedBy (model prog w) A env λe s'=>R (.error e) s') s₄) (notedBy (model prog w) A env λe s'=>R (.error e) s') s₃
      else∃m,m<n/\I m s₃) (notedBy (model prog w) A env λe s'=>R (.error e) s') s₂) (notedBy (model prog w) A env λe s'=>R (.error e) s') s₁') (notedBy (model prog w) A env λe s'=>R (.error e) s') s₁) (notedBy (model prog w) A env λe s'=>R (.error e) s') s)
  (n:Nat) (h:I n s):
  Le (model prog w) A (.compLoop (.ListComp elt [⟨target,iter,ifs,0⟩] scope pos) 0 it acc env) R s:=by
 refine codeAny_loop rfl I (λn s hI=>?_) n h;show KO _ A ((compTurn (.ListComp elt [⟨target,iter,ifs,0⟩] scope pos) 0 it acc env).onRaise (λx=>do noteFrame x env;theTreesLotGoes x)) _ _ s;refine wpAny_noted ?_;rw[compTurn_list];refine KZ (K2 (KZ (KQ (turn n s hI) (λr s₁ h₁=>?_) λ_ _ h'=>h')));cases r with
 |none=>exact K3 h₁
 |some v=>
  refine KZ (KQ h₁ (λ_ s₁' h₁'=>?_) λ_ _ h'=>h');refine KZ (KQ h₁' (λ_ s₂ h₂=>KZ (KQ h₂ (λok s₃ h₃=>?_) λ_ _ h'=>h')) λ_ _ h'=>h');cases ok with
  |false=>exact K3 ⟨rfl,h₃⟩
  |true=>
   exact KZ (KZ (KQ h₃ (λx s₄ h₄=>KZ (KQ h₄ (λ_ s₅ h₅=>K3 (K3 ⟨rfl,h₅⟩)) λ_ _ h'=>h')) λ_ _ h'=>h'))
noncomputable def DM(wi:TI)(g:TG)(tc:TT)(te:TE)(ix:dy):TE:=λσ H Q=>
 wi σ H λJ H1=>∀D,H1 D=none->∃W:Nat->Nat->St->Hp->Prop,(∃m,W 0 m (inBlock ix σ) (upd H1 D (.lst [])))/\
  ∀i m σ' H',W i m σ' H'->(J.stop i H'/\Q (.ref D) H') \/
   (J.go i H'/\∀ x H2,J.yld i H' x H2->g x σ' H2 fun σ3 H3=>tc σ3 H3 fun b H4 =>
    if b=true then te σ3 H4 λv H5=>∃acc,H5 D=some (.lst acc)/\acc.length<KG/\∃m',m'<m/\W (i+1) m' σ3 (upd H5 D (.lst (acc++[v])))
    else∃m',m'<m/\W (i+1) m' σ3 H4)
section
variable{X:Cx}{elt tg iter:Kw}{ifs:aU}{scope:KL}{pos:Pos}{N:ap}{ix:dy}{wi:TI}{g:TG}{tc:TT}{te:TE}
theorem kJ{pins:aR}{σ:St}{s2:Ky}{H2:Hp}{it:Kv}{fp:ay}{tn:Nat->KC->Prop}{J:It}{Q:V->Hp->Prop}{E:bj}{RR:Kt->Kv->Ld->fF}
    (hc:X.calm=true) (hcell:∀y∈scope.names,y.2≠.cell) (hkind:scope.kind=.function)
    (hfr:∀y∈scope.names,y.2=.free->X.env.scope.names.lookup y.1=some .cell\/X.env.scope.names.lookup y.1=some .free)
    (hix:nS X.N N scope.names ix=true)
    (hb:∀cl C fp s H E,PG (bz X scope N cl C fp s H E) tg g/\BO (bz X scope N cl C fp s H E) ifs tc/\PE (bz X scope N cl C fp s H E) elt te)
    (I2:Inv X pins σ H2 s2) (T:Turn X.prog X.w X.K tg J fp it tn) (st2:tn 0 s2.heap) (f2:∀b∈fp,kW X pins H2 b)
    (q:∀ D,H2 D=none->∃ W:Nat->Nat->St->Hp->Prop,(∃ m,W 0 m (inBlock ix σ) (upd H2 D (.lst []))) /\
      ∀i m σ' H',W i m σ' H'->(J.stop i H'/\Q (.ref D) H') \/
        (J.go i H'/\∀ x H3,J.yld i H' x H3->g x σ' H3 fun σ3 H3=>tc σ3 H3 fun b H4 =>
          if b=true then te σ3 H4 λv H5=>∃acc,H5 D=some (.lst acc)/\acc.length<KG/\∃m',m'<m/\W (i+1) m' σ3 (upd H5 D (.lst (acc++[v])))
          else∃m',m'<m/\W (i+1) m' σ3 H4))
    (hRR:∀D C H' s' m,H2 D=none->s2.heap.objs.size<=C->H' C=none->s'.heap.Ns C m->(∀h',J5 C s'.heap h'->Inv X pins σ H' {s' with heap:=h'})->Q (.ref D) H'->RR (.ref D) C (.ok .next) s'):
    KO (model X.prog X.w) X.A (newList []) (λacc s₃=>KO (model X.prog X.w) X.A (newFunctionEnv scope X.env.globals (b8 X.env.cells scope.names []) [] X.env.qual none .none (some X.env)) (λcenv s₄=>
      Le (model X.prog X.w) X.A (.compStart (.ListComp elt [⟨tg,iter,ifs,0⟩] scope pos) 0 (.ref it) acc {cenv with scope:=relabel scope X.env}) (RR acc cenv.locals) s₄) E s₃) E s2:=by
  refine LJ (wpAny_newFunctionEnv hcell (by intro y hy;simp at hy) (λh₁ hns₁ hsb₁=>?_) hkind);dsimp only at hns₁ hsb₁ ⊢;have I3:Inv X pins σ (upd H2 s2.heap.objs.size (.lst [])) {s2 with heap:=s2.heap.push {cls:=.type "list",dict:=none,data:=.seq ([]:aL).toArray},toks:=s2.toks}:=I2.lnew (its:=[]) (t':=s2.toks) .nil (Ht _);generalize hs3:({s2 with heap:=s2.heap.push {cls:=.type "list",dict:=none,data:=.seq ([]:aL).toArray},toks:=s2.toks}:Ky)=s3 at I3;have eh3:s2.heap.push {cls:=.type "list",dict:=none,data:=.seq ([]:aL).toArray}=s3.heap:=by rw[<-hs3]
  rw[eh3]at hns₁ hsb₁ ⊢;have hC3:s3.heap.objs.size=s2.heap.objs.size+1:=by rw[<-eh3,J8]
  have hD:H2 s2.heap.objs.size=none:=I2.fresh;obtain⟨W,⟨m0,w0⟩,turn⟩:=q s2.heap.objs.size hD;generalize hH3:upd H2 s2.heap.objs.size (.lst [])=H3 at I3 w0;have old:∀b o,s3.heap.get? b=some o->h₁.get? b=some o:=λb o e=>hsb₁.extBut b o (G4 (J3 e)) (J6 _ e);have fpH3:∀b∈fp,H3 b=none:=λb hb'=>by
    rw[<-hH3,av]
    ·exact(f2 b hb').1
    · obtain⟨o,e,_⟩:=T.obj _ _ st2 b hb'
      exact G4 (J3 e)
  have fpLt:∀b∈fp,b<s3.heap.objs.size:=λb hb'=>by
    obtain⟨o,e,_⟩:=T.obj _ _ st2 b hb';rw[hC3];exact Nat.lt_succ_of_lt (J3 e)
  have hfree:∀p∈scope.names,p.2=.free->∃c,X.env.cells.lookup p.1=some c:=λp hp hk=>I2.ok.has p.1 (hfr p hp hk);have csub:∀x c,(b8 X.env.cells scope.names []).lookup x=some c->X.env.cells.lookup x=some c:=gh scope.names [] (λx c e=>by simp at e);have names':∀x k,(relabel scope X.env).names.lookup x=some k->scope.names.lookup x=some k\/(scope.names.lookup x=some .free/\k=.cell):=λx k h=>fZ h;have ok:(bz X scope N (b8 X.env.cells scope.names []) s3.heap.objs.size fp s3 H3 (notedBy (model X.prog X.w) X.A (compEnvC scope (b8 X.env.cells scope.names []) s3.heap.objs.size X.env) λe s'=>RR (.ref s2.heap.objs.size) s3.heap.objs.size (.error e) s')).Ok:=
    { mod:=I3.ok.mod
      kind:=hkind
      glob:=I3.ok.glob
      blt:=I3.ok.blt
      above:=Hj _
      inj:=λx y c h1 h2=>I3.ok.inj x y c (csub x c h1) (csub y c h2)
      has:=λx hx=>by
        have fr:scope.names.lookup x=some .free:=by
          rcases hx with hx|hx
          · rcases names' x .cell hx with h|⟨h,_⟩
            ·exact absurd rfl (hcell _ (PySem.mem_of_lookup h))
            ·exact h
          · rcases names' x .free hx with h|⟨_,h⟩
            ·exact h
            ·cases h
        have hm:=PySem.mem_of_lookup fr;exact Option.isSome_iff_exists.mp (eD scope.names [] x hm (hfree _ hm rfl))
      cab:=λx c h _=>by cases h
      hd:=I3.ok.hd
      frames:=I3.ok.frames
      stk:=.inl rfl
      exf:=λb hb'=>⟨G4 (fpLt b hb'),λx c e=>(f2 b hb').2.2.2.2.1 x c (csub x c e)⟩
      bs:=λb o e=>I3.bs b o e
      bsz:=G5 I3.ok.bsz I3.sz
      noex:=λb o e hb'=>by
        obtain⟨_,_,_,h4,_⟩:=f2 b hb';rcases h4 with h4|h4
        ·exact I3.ok.noex b o e h4
        ·exact absurd (G2 (J3 (I3.ok.bs b o e).1) h4) (G3 _)
      exfs:=λb hb' hs=>by
        obtain⟨_,h2,h3,_⟩:=f2 b hb';rcases List.mem_cons.mp (I3.stkSub b hs)with e|e
        ·exact h2 e
        ·exact h3 e
      funs:=I3.stack
      frf:=λb hb'=>I3.stkFree b hb'}
  generalize hE:(notedBy (model X.prog X.w) X.A (compEnvC scope (b8 X.env.cells scope.names []) s3.heap.objs.size X.env) λe s'=>RR (.ref s2.heap.objs.size) s3.heap.objs.size (.error e) s')=E' at ok;obtain⟨hg,htc,hel⟩:=hb (b8 X.env.cells scope.names []) s3.heap.objs.size fp s3 H3 E';have Istart:∀tk,Inv (bz X scope N (b8 X.env.cells scope.names []) s3.heap.objs.size fp s3 H3 E') [] (inBlock ix σ) H3 {s3 with heap:=h₁,toks:=tk}:=λtk=>by
    refine⟨ok,rfl,I3.bare,Un.kept old,⟨_,hns₁,λj x v e1 e2 _=>?_⟩,λx c e=>?_,I3.fresh,λx c e=>I3.freeC x c (csub x c e),λp hp=>absurd (show p∈([]:aR)from hp) (by simp),I3.hok.kept old,?_⟩
    ·
      unfold inBlock at e2;rw[HB]at e2;cases q1:ix[j]? with
      |none=>rw[q1]at e2;simp at e2
      |some o=>
        rw[q1]at e2;cases o with
        |none=>simp at e2
        |some i=>
          obtain⟨n1,n2⟩:=nS.at_ hix e1 q1;have e2':(σ[i]?).getD none=some v:=Option.some.inj e2;have e3:σ[i]?=some (some v):=by
            cases q2:σ[i]? with
            |none=>rw[q2]at e2';simp at e2'
            |some o2=>rw[q2]at e2';simpa using e2'
          obtain⟨m,hn,hl⟩:=I3.loc;have hm:=PySem.mem_of_lookup n2;have hk:=hfr _ hm rfl;have hv:Bp X.env.scope x:=by
            rcases hk with hk|hk
            ·exact .inr (.inl hk)
            ·exact .inr (.inr hk)
          obtain⟨u,r,l⟩:=hl i x v n1 e3 hv;refine⟨u,r,.inr ?_⟩;rcases l with⟨kl,_⟩|⟨_,c,hcx,hcell'⟩
          · have kl':X.env.scope.names.lookup x=some .local:=kl
            rcases hk with hk|hk
            ·rw[kl']at hk;cases hk
            ·rw[kl']at hk;cases hk
          · obtain⟨c',hc'⟩:=Option.isSome_iff_exists.mp (eD (cells:=X.env.cells) scope.names [] x hm ⟨c,hcx⟩)
            have ec:c'=c:=Option.some.inj ((csub x c' hc').symm.trans hcx);subst ec;refine⟨?_,c',hc',?_⟩
            ·
              show(relabel scope X.env).names.lookup x=some .cell\/(relabel scope X.env).names.lookup x=some .free;have gen:∀names:kG,names.lookup x=some .free->((names.map λ(n,k)=>if(k==NameKind.free&&X.env.scope.kind==.function&&X.env.kindOf n==some .cell)then(n,NameKind.cell)else(n,k)).lookup x=some .cell\/(names.map λ(n,k)=>if(k==NameKind.free&&X.env.scope.kind==.function&&X.env.kindOf n==some .cell)then(n,NameKind.cell)else(n,k)).lookup x=some .free):=by
                intro names
                induction names with
                |nil=>intro h;simp at h
                |cons p r ih=>
                  obtain⟨n,k⟩:=p;intro h;show List.lookup x ((if(k==NameKind.free&&X.env.scope.kind==.function&&X.env.kindOf n==some .cell)=true then(n,NameKind.cell)else(n,k))::_)=_\/List.lookup x ((if(k==NameKind.free&&X.env.scope.kind==.function&&X.env.kindOf n==some .cell)=true then(n,NameKind.cell)else(n,k))::_)=_;cases hx:x==n with
                  |true=>
                    simp only[HN,hx]at h;by_cases hcc:(k==NameKind.free&&X.env.scope.kind==.function&&X.env.kindOf n==some .cell)=true
                    ·rw[if_pos hcc];left;simp only[HN,hx]
                    ·rw[if_neg hcc];right;simp only[HN,hx];exact h
                  |false=>
                    simp only[HN,hx]at h;by_cases hcc:(k==NameKind.free&&X.env.scope.kind==.function&&X.env.kindOf n==some .cell)=true
                    ·rw[if_pos hcc];simp only[HN,hx];exact ih h
                    ·rw[if_neg hcc];simp only[HN,hx];exact ih h
              exact gen scope.names n2
            ·exact hcell'.keeps old
    · obtain⟨v,z⟩:=I3.cell x c (csub x c e)
      exact⟨v,z.keeps old⟩
    · show(inBlock ix σ).length=N.length
      unfold inBlock;rw[Hr];exact nS.len hix
  have stat:∀{H':Hp},(∀b∈fp,H' b=none)->∀b∈fp,kW (bz X scope N (b8 X.env.cells scope.names []) s3.heap.objs.size fp s3 H3 E') [] H' b:=λhn b hb'=>
    ⟨hn b hb',(ok.exf b hb').1,ok.exfs b hb',.inl hb',(ok.exf b hb').2,λp hp=>absurd (show p∈([]:aR)from hp) (by simp)⟩
  have tn1:tn 0 h₁:=T.keep _ _ _ st2 λb hb' o e=>old b o (by rw[<-eh3];exact J6 _ e);have loop:∀tk,Le (model X.prog X.w) X.A (.compLoop (.ListComp elt [⟨tg,iter,ifs,0⟩] scope pos) 0 (.ref it) (.ref s2.heap.objs.size) (compEnvC scope (b8 X.env.cells scope.names []) s3.heap.objs.size X.env))
      (RR (.ref s2.heap.objs.size) s3.heap.objs.size) {s3 with heap:=h₁,toks:=tk}:=by
    intro tk;refine gf (λn s'=>∃i σ' H',Inv (bz X scope N (b8 X.env.cells scope.names []) s3.heap.objs.size fp s3 H3 E') [] σ' H' s'/\tn i s'.heap/\(∀b∈fp,H' b=none)/\W i n σ' H') ?_ m0 ⟨0,_,_,Istart tk,tn1,fpH3,w0⟩;rintro n s5 ⟨i,σ5,H5,I5,st5,fr5,w5⟩;rw[hE];rcases turn i n σ5 H5 w5 with⟨stop,qn⟩|⟨go,step⟩
    · refine bV (T.done (bz X scope N (b8 X.env.cells scope.names []) s3.heap.objs.size fp s3 H3 E') rfl rfl rfl hc i [] s5 σ5 H5 _ I5 (stat fr5) st5 stop) λr s6 ⟨hr,I6⟩=>?_
      subst hr;obtain⟨m6,hn6,_⟩:=I6.loc;refine hRR s2.heap.objs.size s3.heap.objs.size H5 s6 m6 hD (by rw[hC3];exact Hv _) I6.free hn6 (λh' sb=>?_) qn;have ne:∀b o,s3.heap.get? b=some o->b≠s3.heap.objs.size:=λb o e=>G4 (J3 e);refine I3.call' (s':={s6 with heap:=h'}) (H':=H5) (ch:=fp) I6.os ⟨λb o e n hb' hx=>?_,λb o e n hb' hx=>?_,λb o e n hx=>?_,λb o e hx=>?_,I6.base.tups,I6.base.frzs,I6.base.tbls⟩ ?_ I6.bare λb hb'=>?_
      ·exact(sb.2 b (ne b o e)).trans (I6.base.keep b o e n hb' hx)
      · obtain⟨sl,e1⟩:=I6.base.slot b o e n hb' hx
        exact⟨sl,(sb.2 b (ne b o e)).trans e1⟩
      ·exact I6.base.free b o e n hx
      · obtain⟨o',e1⟩:=I6.base.there b o e hx
        exact⟨o',(sb.2 b (ne b o e)).trans e1⟩
      · intro b ob e
        have hfreeC:H5 s3.heap.objs.size=none:=I6.free;refine(I6.hok b ob e).stay (λc v hcc q=>(sb.2 c ?_).trans q) (λ_ q=>q) λ_ _ q=>q;rintro rfl;rcases hcc with rfl|hcc
        ·rw[hfreeC]at e;cases e
        ·rw[hfreeC]at hcc;cases hcc
      · obtain⟨_,h2',_,h4',h5',h6'⟩:=f2 b hb'
        exact⟨h4',h2',h5',h6'⟩
    · refine bV (T.item (bz X scope N (b8 X.env.cells scope.names []) s3.heap.objs.size fp s3 H3 E') rfl rfl rfl hc i [] s5 σ5 H5 _ I5 (stat fr5) st5 go) λr s6 ⟨u,hr,h6⟩=>?_
      subst hr;refine bV h6 λ_ s7 ⟨x,H7,I7,r7,y7,st7,fr7⟩=>?_;have I7':=I7.pinned (stat fr7) (T.obj _ _ st7);refine bV (hg _ s7 σ5 H7 x u _ I7' r7 (step x H7 y7)) λ_ s8 ⟨σ8,H8,I8,q8⟩=>?_;refine bV (htc _ s8 σ8 H8 _ I8 q8) λb s9 ⟨H9,I9,q9⟩=>?_;have again:∀{σ':St}{H':Hp}{s':Ky}{m':Nat},Inv (bz X scope N (b8 X.env.cells scope.names []) s3.heap.objs.size fp s3 H3 E') ([]++kF fp s7.heap) σ' H' s'->m'<n->W (i+1) m' σ' H'->
          ∃m,m<n/\∃i σ' H',Inv (bz X scope N (b8 X.env.cells scope.names []) s3.heap.objs.size fp s3 H3 E') [] σ' H' s'/\tn i s'.heap/\(∀b∈fp,H' b=none)/\W i m σ' H':=λ{σ' H' s' m'} I' hm w'=>by
        refine⟨m',hm,i+1,σ',H',I'.unpinned,T.keep _ _ _ st7 λb hb' o e=>(I'.pin (b,o) (Hk _ (Hk _ (fh hb' e)))).1,λb hb'=>?_,w'⟩;obtain⟨o,e,d⟩:=T.obj _ _ st7 b hb';exact(I'.pin (b,o) (Hk _ (Hk _ (fh hb' e)))).2.1
      cases b with
      |false=>
        rw[if_neg Hm]at q9 ⊢;obtain⟨m',hm,w9⟩:=q9;exact again I9 hm w9
      |true=>
        rw[if_pos rfl]at q9 ⊢;refine bV (hel _ s9 σ8 H9 _ I9 q9) λy s10 ⟨v,H10,I10,r10,q10⟩=>?_;obtain⟨acc,ha,hz,m',hm,w10⟩:=q10;refine bV (me _ s10 σ8 H10 (.ref s2.heap.objs.size) [v] (.ref s2.heap.objs.size) [y] (λ_ H'=>H'=upd H10 s2.heap.objs.size (.lst (acc++[v]))) I10 rfl (.cons r10 .nil) ⟨_,acc,v,rfl,rfl,ha,hz,rfl⟩) λ_ s11 ⟨_,H11,I11,_,EV⟩=>?_;subst EV;exact again I11 hm w10
  subst hs3;exact codeAny_compStart_list (loop _) (T.self _ 0 _ _ _ tn1 (loop _))
theorem Ae(hc:X.calm=true)(hcell:∀y∈scope.names,y.2≠.cell)(hkind:scope.kind=.function)(hnames:∀y∈scope.names,y.2=.local->scope.names.lookup y.1=some .local)
  (hfr:∀y∈scope.names,y.2=.free->X.env.scope.names.lookup y.1=some .cell\/X.env.scope.names.lookup y.1=some .free)
  (hix:nS X.N N scope.names ix=true) (hi:PI X tg iter wi)
  (hb:∀cl C fp s H E,PG (bz X scope N cl C fp s H E) tg g/\BO (bz X scope N cl C fp s H E) ifs tc/\PE (bz X scope N cl C fp s H E) elt te)
  (hs:∀x,K6 iter X.env x=pure x:=by intro _;rfl):PE X (.ListComp elt [⟨tg,iter,ifs,0⟩] scope pos) (DM wi g tc te ix):=by
 intro pins s σ H Q I h;rw[eval_ListComp];refine LO (use:=none) rfl hs (iI λp hp hk=>I.ok.has p.1 (hfr p hp hk)) hkind hnames (bV (hi pins s σ H _ I h) λv s1 h1=>bV h1 λitv s2 h2=>?_);obtain⟨it,fp,tn,J,H2,e,I2,T,st2,f2,q⟩:=h2;subst e;refine kJ (Q:=Q) (RR:=λacc C=>compPost (model X.prog X.w) X.A X.xe none (EP X pins σ Q) acc C) hc hcell hkind hfr hix hb I2 T st2 f2 q ?_;intro D C H' s' m _ _ _ hn hI hq;exact⟨m,hn,λh' sb=>⟨.ref D,H',hI h' sb,rfl,hq⟩⟩
theorem zV{i:Nat}{y:Str}{py spos:Pos}(hN:X.N.Nodup)(hi':X.N[i]?=some y)(hx:Loc X.env.scope y)
  (hc:X.calm=true) (hcell:∀y∈scope.names,y.2≠.cell) (hkind:scope.kind=.function) (hnames:∀y∈scope.names,y.2=.local->scope.names.lookup y.1=some .local)
  (hfr:∀y∈scope.names,y.2=.free->X.env.scope.names.lookup y.1=some .cell\/X.env.scope.names.lookup y.1=some .free)
  (hix:nS X.N N scope.names ix=true) (hi:PI X tg iter wi)
  (hb:∀cl C fp s H E,PG (bz X scope N cl C fp s H E) tg g/\BO (bz X scope N cl C fp s H E) ifs tc/\PE (bz X scope N cl C fp s H E) elt te)
  (hsw:swapsWith (.ListComp elt [⟨tg,iter,ifs,0⟩] scope pos) (some (.Name y py)) spos.line X.env=pure true:=by rfl)
  (hs:∀x,K6 iter X.env x=pure x:=by intro _;rfl)
  (hf:X.fn y=true\/X.env.scope.names.lookup y=some .local:=by first|exact .inl rfl|exact .inr rfl|assumption):
  PS X (.Assign [.Name y py] (.ListComp elt [⟨tg,iter,ifs,0⟩] scope pos) spos) (ww (DM wi g tc te ix) (lO i)):=by
 intro pins s σ H D0 I h;rw[exec_Assign_Name_used _ _ _ _ hsw];refine KZ (K2 (KZ ?_));show KO _ X.A (do let _<-comprehension (.ListComp elt [⟨tg,iter,ifs,0⟩] scope pos) scope X.env _ (newList []) false (eval iter X.env) (some (assign (.Name y py) X.env))) _ _ s;refine KZ (bV (LO (use:=some (assign (.Name y py) X.env)) (Q:=λ_ s'=>SP X pins D0 .next s') rfl hs (iI λp hp hk=>I.ok.has p.1 (hfr p hp hk)) hkind hnames
  (bV (hi pins s σ H _ I h) λv s1 h1=>bV h1 λitv s2 h2=>?_)) λ_ s' hq=>K3 (K3 hq))
 obtain⟨it,fp,tn,J,H2,e,I2,T,st2,f2,q⟩:=h2;subst e;refine kJ (Q:=λv H'=>lO i v σ H' D0.nx) (RR:=λacc C=>compPost (model X.prog X.w) X.A X.xe (some (assign (.Name y py) X.env)) (λ_ s'=>SP X pins D0 .next s') acc C) hc hcell hkind hfr hix hb I2 T st2 f2 q ?_;intro D C H' s' m _ hC hfree hn hI hq;have I':Inv X pins σ H' s':=hI s'.heap (.refl ..);have nL:C≠X.env.locals:=Hh (G2 I2.lt hC);have nC:∀x c,X.env.cells.lookup x=some c->c≠C:=λx c e z=>by
  obtain⟨v,q⟩:=I2.cell x c e;exact absurd (G2 q.lt (by rw[z];exact hC)) (G3 _)
 have nP:∀p∈X.pn++pins,p.1≠C:=λp hp z=>absurd (G2 (J3 (I2.pin p hp).1) (by rw[z];exact hC)) (G3 _);show KO _ X.A (assign (.Name y py) X.env (.ref D)) _ _ _;refine wpAny_assign_Name (lF I' hN hi' hx (v:=.ref D) rfl (λs'' I'' ch=>?_) hf);obtain⟨a,sb,ha⟩:=ch;have hCa:C≠a:=by
  rcases ha with ha|ha
  ·rw[ha];exact nL
  ·exact Ne.symm (nC y a ha)
 refine⟨m,hn.sameBut sb hCa,λh' sb'=>⟨_,H',?_,hq⟩⟩;exact I''.turned (t':=s''.toks) (λb o hb' e=>(sb'.2 b hb').trans e) hfree nL (.inr (G5 I2.sz hC)) nC nP
end
end L2
namespace TG
open PySem PySem.Spec
noncomputable def DP{α:Type}:Sem α->Prop
 |.pure _=>True
 |.raise _=>True
 |.unsupported _=>True
 |.finish _=>True
 |.rule _ k=>DP (k ())
 |.at _ k=>DP (k ())
 |.load _ _ k=>∀o,DP (k o)
 |.update _ _ f k=>(∀o,(f o).dict=o.dict)/\DP (k ())
 |.loadIfAlive _ k=>∀o,DP (k o)
 |.point _ k=>DP (k ())
 |.alloc _ k=>∀a,DP (k a)
 |.fresh k=>∀a,DP (k a)
 |.ask k=>∀a,DP (k a)
 |.stack k=>∀a,DP (k a)
 |_=>False
theorem DP.bind{α β:Type}{f:α->Sem β}(hf:∀a,DP (f a)):∀{m:Sem α},DP m->DP (m >>= f):=λ{m} h=>by
 show DP (m.bind f)
 induction m with
 |pure a=>exact hf a
 |raise _=>trivial
 |unsupported _=>trivial
 |finish _=>trivial
 |rule _ k ih=>exact ih () h
 |«at» _ k ih=>exact ih () h
 |load _ _ k ih=>exact λo=>ih o (h o)
 |update _ _ g k ih=>exact⟨h.1,ih () h.2⟩
 |loadIfAlive _ k ih=>exact λo=>ih o (h o)
 |point _ k ih=>exact ih () h
 |alloc _ k ih=>exact λo=>ih o (h o)
 |fresh k ih=>exact λo=>ih o (h o)
 |ask k ih=>exact λo=>ih o (h o)
 |stack k ih=>exact λo=>ih o (h o)
 |_=>exact h.elim
noncomputable def DS(h h':KC):Prop:=∀(a:Nat)(o:Obj),h.objs[a]?=some o->∃o',h'.objs[a]?=some o'/\o'.dict=o.dict
theorem DS.refl(h:KC):DS h h:=λ_ o e=>⟨o,e,rfl⟩
theorem DS.trans{h1 h2 h3:KC}(x:DS h1 h2)(y:DS h2 h3):DS h1 h3:=λa o e=>by
 obtain⟨o1,e1,d1⟩:=x a o e;obtain⟨o2,e2,d2⟩:=y a o1 e1;exact⟨o2,e2,d2.trans d1⟩
theorem pj{h:KC}{a:Kv}{o:Obj}(e:h.get? a=some o):h.objs[a]?=some o:=by
 unfold Heap.get? at e;split at e
 ·cases e
 ·exact e
theorem DS.dict{h h':KC}(x:DS h h'){a:Kv}{o o':Obj}(e:h.get? a=some o)(e':h'.get? a=some o'):o'.dict=o.dict:=by
 obtain⟨o1,e1,d1⟩:=x a o (pj e);rw[pj e']at e1;cases e1;exact d1
theorem DS.push(h:KC)(o:Obj):DS h (h.push o):=λa u e=>⟨u,by
 show(h.objs.push o)[a]?=_
 have:=(Array.getElem?_eq_some_iff.mp e).1
 rw[Array.getElem?_push,if_neg ‹0›];exact e,rfl⟩
theorem DS.upd(h:KC)(b:Kv){f:Obj->Obj}(hf:∀o,(f o).dict=o.dict):DS h (h.update b f):=λa u e=>by
 show∃o',(h.objs.modify b f)[a]?=some o'/\_;rw[Array.getElem?_modify,e];split
 ·exact⟨_,rfl,hf u⟩
 ·exact⟨_,rfl,rfl⟩
theorem DP.wp{α:Type}{M:KN}{Γ:PySem.Ctx}{Q:α->Pos->Ky->Prop}{E:Kt->Pos->Ky->Prop}{t:Sem α}(d:DP t){p:Pos}{s:Ky}(h:Sem.wp M Γ t Q E p s):Sem.wp M Γ t (λa p' s'=>Q a p' s'/\DS s.heap s'.heap) (λa p' s'=>E a p' s'/\DS s.heap s'.heap) p s:=by
 have go:∀(h0:KC)(p:Pos)(s:Ky),DS h0 s.heap->Sem.wp M Γ t Q E p s->Sem.wp M Γ t (λa p' s'=>Q a p' s'/\DS h0 s'.heap) (λa p' s'=>E a p' s'/\DS h0 s'.heap) p s:=by
  intro h0;clear h
  induction t with
  |pure a=>exact λp s z h=>⟨h,z⟩
  |raise a=>exact λp s z h=>⟨h,z⟩
  |unsupported _=>exact λp s z h=>h
  |finish _=>exact λp s z h=>h
  |rule _ k ih=>exact λp s z h=>ih () d p s z h
  |«at» q k ih=>exact λp s z h=>ih () d q s z h
  |load a _ k ih=>exact λp s z h=>let ⟨o,ho,h⟩:=h;⟨o,ho,ih o (d o) p s z h⟩
  |update a _ f k ih=>exact λp s z h=>⟨h.1,ih () d.2 p _ (z.trans (DS.upd _ a d.1)) h.2⟩
  |loadIfAlive a k ih=>exact λp s z h=>ih _ (d _) p s z h
  |point _ k ih=>exact λp s z h=>ih () d p s z h
  |alloc o k ih=>exact λp s z h=>ih _ (d _) p _ (z.trans (DS.push _ o)) h
  |fresh k ih=>exact λp s z h=>ih _ (d _) p _ z h
  |ask k ih=>exact λp s z h=>ih _ (d _) p _ z h
  |stack k ih=>exact λp s z h=>ih _ (d _) p _ z h
  |_=>exact d.elim
 exact go s.heap p s (DS.refl _) h
theorem DP.any{α:Type}{M:KN}{A:KJ}{Q:α->Ky->Prop}{E:Kt->Ky->Prop}{t:Sem α}{s:Ky}(d:DP t)(h:KO M A t Q E s):KO M A t (λa s'=>Q a s'/\DS s.heap s'.heap) E s:=λΓ p hi=>Sem.wp_mono _ _ _ (λ_ _ _ x=>x) (λ_ _ _ x=>x.1) _ _ (d.wp (h Γ p hi))
theorem DP.go{M:KN}{A:KJ}{Q:Unit->Ky->Prop}{E:Kt->Ky->Prop}{t:Sem Unit}{s:Ky}{P:KC->Prop}(d:DP t)(h:KO M A t (λ_ s'=>∃h',s'={s with heap:=h'}/\P h') E s)(k:∀h',P h'->DS s.heap h'->Q () {s with heap:=h'}):KO M A t Q E s:=KQ (d.any h) (λ_ s' z=>by
 obtain⟨⟨h',rfl,p⟩,ds⟩:=z;exact k h' p ds) λ_ _ z=>z
theorem iX(v:Kt)(i:Nat):DP (field v i):=by
 unfold field fieldsOf;cases v with
 |ref a=>
  refine DP.bind (λxs=>?_) ?_
  ·split<;>trivial
  ·refine DP.bind (λo=>?_) (λo=>trivial);split<;>trivial
 |_=>exact DP.bind (λxs=>by split<;>trivial) trivial
theorem rR(a:Kv):DP (load a):=λ_=>trivial
theorem AO(f:Array Kt->Array Kt)(o:Obj):(Obj.mapFields f o).dict=o.dict:=by
 unfold Obj.mapFields;split<;>rfl
theorem qp(v:Kt)(i:Nat)(x:Kt):DP (setField v i x):=by
 unfold setField;cases v with
 |ref a=>
  unfold updateField;refine DP.bind (λo=>?_) (rR a);split
  ·split
   ·exact⟨AO _,trivial⟩
   ·trivial
  ·trivial
 |_=>trivial
theorem jx(e:Kt)(f:Option Kv):DP (setFlight e f):=by
 unfold setFlight;refine DP.bind (λtb=>?_) (iX _ _);split
 ·exact qp _ _ _
 ·trivial
theorem uR:DP stack:=λ_=>trivial
theorem we:DP underTheClaimsCaller:=by
 unfold underTheClaimsCaller;exact λ_=>trivial
theorem oq:∀l:List Env,DP (readyFrames l)
 |[]=>trivial
 |env::outer=>by
  unfold readyFrames;cases env.frame with
  |none=>trivial
  |some f=>
   refine DP.bind ?_ (rR f);intro o;split
   ·trivial
   ·refine DP.bind ?_ ?_
    ·intro b;refine DP.bind ?_ ?_
     ·intro b;refine DP.bind ?_ ?_
      ·intro _;exact oq outer
      ·exact⟨λ_=>rfl,trivial⟩
     ·unfold keptBack;split
      ·split
       ·trivial
       ·refine DP.bind ?_ we;intro _;trivial
      ·trivial
    ·unfold behindIsImport;split
     ·trivial
     ·split
      ·trivial
      ·refine DP.bind ?_ (iX _ _);intro _;trivial
theorem zD:DP frameEnvs:=λ_=>trivial
theorem p8(env:Env):DP (frameOf env):=by
 unfold frameOf;refine DP.bind ?_ zD;intro l;refine DP.bind ?_ ?_
 ·intro f;split<;>trivial
 ·unfold frameObject;split
  ·trivial
  ·refine DP.bind ?_ (oq _);intro _;trivial
theorem A8(ty:String)(vs:List Kt):DP (newFields ty vs):=by
 unfold newFields newObj;dsimp only;split
 ·trivial
 ·exact λ_=>trivial
theorem vA(f:Kv)(b:Bool):DP (entryPlaceOf f b):=by
 unfold entryPlaceOf;refine DP.bind ?_ uR;intro l;split<;>trivial
theorem sE(e:Kt)(env:Env):DP (noteFrame e env):=by
 unfold noteFrame;cases env.frame with
 |none=>trivial
 |some f=>
  have tl:∀head:Kt,DP (do setField e 1 (<-EntryCells.newEntry head (<-frameOf env) .none (rawInt f) .none (<-entryPlaceOf f (head !=.none)))):=λhead=>by
   refine DP.bind ?_ (p8 env);intro a;refine DP.bind ?_ (vA _ _);intro b;refine DP.bind ?_ (A8 _ _);intro c;exact qp _ _ _
  refine DP.bind ?_ (iX _ _);intro head;dsimp only;split
  ·refine DP.bind ?_ (iX _ _);intro x;split
   ·trivial
   ·refine DP.bind ?_ (qp _ _ _);intro _;exact tl head
  ·exact tl head
theorem pK(env:Env)(e:Kt):DP (leaving env e):=by
 unfold leaving;refine DP.bind ?_ (sE _ _);intro _;exact jx _ _
open PySem PySem.Spec L2
inductive D where
 |non|bl (b:Bool)|int (i:Int)|str (x:Str)|tup (xs:List D)|lst (xs:List D)
 |dct (ks vs:List D)|obj (c:Str) (fs:ap) (vs:List D)|exc (c:Str) (fs:ap) (vs:List D)
noncomputable abbrev cP:=List (Str×D)
noncomputable abbrev aZ:=Option D
noncomputable def mW:Key->D
 |.inl i=>.int i
 |.inr x=>.str x
noncomputable def clsAt(K:Jv)(c:Str)(C:Kv):Prop:=JQ K KH c=some (some (.ref C))
noncomputable def jq(C a:Kv)(dx:Option Kv):(Kv->Prop)->KC->Prop:=λ_ h=>∃o,h.get? a=some o/\o.cls=.ref C/\o.dict=dx/\JR o=true
mutual
noncomputable def bM(K:Jv)(H:Hp):D->V->Prop
 |.non,v=>v=.non
 |.bl b,v=>v=.bl b
 |.int i,v=>v=.int i
 |.str x,v=>v=.str x
 |.tup xs,v=>∃a vs,v=.ref a/\H a=some (.tup vs)/\aK K H xs vs
 |.lst xs,v=>∃a vs,v=.ref a/\gQ K H a vs/\aK K H xs vs
 |.dct ks ds,v=>∃a vs,v=.ref a/\aK K H ds vs/\((∃kvs:List (Key×V),H a=some (.dK kvs)/\ks=kvs.map (λp=>mW p.1)/\vs=kvs.map (·.2)) \/
   (∃kvs:List (List Key×V),H a=some (.dT kvs)/\ks=kvs.map (λp=>.tup (p.1.map mW))/\vs=kvs.map (·.2)) \/
   ∃(kvs:List (List Key×V))(o:Obj),H a=some (.frz o (.dT kvs))/\ks=.non::kvs.map (λp=>.tup (p.1.map mW))/\vs=kvs.map (·.2))
 |.obj c fs ds,v=>∃a vs,v=.ref a/\aK K H ds vs/\fs.length=vs.length/\∃C dx,clsAt K c C/\H a=some (.ins C dx (fs.zip vs))
 |.exc c fs ds,v=>∃a vs,v=.ref a/\aK K H ds vs/\fs.length=vs.length/\∃C dx,clsAt K c C/\H a=some (.ext (jq C a dx))/\(fs=[]\/∃d,dx=some d/\H d=some (.xd (fs.zip vs)))
noncomputable def aK(K:Jv)(H:Hp):List D->aB->Prop
 |[],vs=>vs=[]
 |x::xs,vs=>∃v r,vs=v::r/\bM K H x v/\aK K H xs r
end
theorem uz{K:Jv}{H H':Hp}{a:Kv}{xs:aB}(e:aQ H H')(h:jn K H a xs):jn K H' a xs:=by
 rcases h with(h|⟨o,h⟩)|h
 ·exact .inl (.inl (e _ _ h))
 ·exact .inl (.inr ⟨o,e _ _ h⟩)
 ·exact .inr h
theorem bx{K:Jv}{H H':Hp}{a:Kv}{xs:aB}(e:aQ H H')(h:H a=some (.tup xs)):jn K H' a xs:=jn.of (e _ _ h)
mutual
theorem bM.mono{K:Jv}{H H':Hp}(e:aQ H H'):∀{d:D}{v:V},bM K H d v->bM K H' d v
 |.non,_,h=>by unfold bM at h ⊢;exact h
 |.bl _,_,h=>by unfold bM at h ⊢;exact h
 |.int _,_,h=>by unfold bM at h ⊢;exact h
 |.str _,_,h=>by unfold bM at h ⊢;exact h
 |.tup xs,_,h=>by
  unfold bM at h ⊢;obtain⟨a,vs,e1,h1,h2⟩:=h;exact⟨a,vs,e1,e _ _ h1,aK.mono e h2⟩
 |.lst xs,_,h=>by
  unfold bM at h ⊢;obtain⟨a,vs,e1,h1,h2⟩:=h;exact⟨a,vs,e1,e.seq h1,aK.mono e h2⟩
 |.dct _ ds,_,h=>by
  unfold bM at h ⊢;obtain⟨a,vs,e1,h1,h2⟩:=h;refine⟨a,vs,e1,aK.mono e h1,?_⟩;rcases h2 with⟨kvs,h2,h3⟩|⟨kvs,h2,h3⟩|⟨kvs,o,h2,h3⟩
  ·exact .inl ⟨kvs,e _ _ h2,h3⟩
  ·exact .inr (.inl ⟨kvs,e _ _ h2,h3⟩)
  ·exact .inr (.inr ⟨kvs,o,e _ _ h2,h3⟩)
 |.obj _ _ ds,_,h=>by
  unfold bM at h ⊢;obtain⟨a,vs,e1,h1,h2,C,dx,h3,h4⟩:=h;exact⟨a,vs,e1,aK.mono e h1,h2,C,dx,h3,e _ _ h4⟩
 |.exc _ _ ds,_,h=>by
  unfold bM at h ⊢;obtain⟨a,vs,e1,h1,h2,C,dx,h3,h4,h5⟩:=h;exact⟨a,vs,e1,aK.mono e h1,h2,C,dx,h3,e _ _ h4,h5.imp id λ⟨d,q1,q2⟩=>⟨d,q1,e _ _ q2⟩⟩
theorem aK.mono{K:Jv}{H H':Hp}(e:aQ H H'):∀{ds:List D}{vs:aB},aK K H ds vs->aK K H' ds vs
 |[],_,h=>by unfold aK at h ⊢;exact h
 |x::xs,_,h=>by
  unfold aK at h ⊢;obtain⟨v,r,e1,h1,h2⟩:=h;exact⟨v,r,e1,bM.mono e h1,aK.mono e h2⟩
end
section
variable{K:Jv}{H:Hp}
theorem fm{v:V}:bM K H .non v↔v=.non:=by unfold bM;rfl
theorem eT{b:Bool}{v:V}:bM K H (.bl b) v↔v=.bl b:=by unfold bM;rfl
theorem dD{i:Int}{v:V}:bM K H (.int i) v↔v=.int i:=by unfold bM;rfl
theorem dh{x:Str}{v:V}:bM K H (.str x) v↔v=.str x:=by unfold bM;rfl
theorem bp{xs:List D}{v:V}:bM K H (.tup xs) v↔∃a vs,v=.ref a/\H a=some (.tup vs)/\aK K H xs vs:=by unfold bM;rfl
theorem bo{xs:List D}{v:V}:bM K H (.lst xs) v↔∃a vs,v=.ref a/\gQ K H a vs/\aK K H xs vs:=by unfold bM;rfl
theorem DL{ks ds : List D}{v : V}: bM K H (.dct ks ds) v ↔ ∃ a vs, v = .ref a /\ aK K H ds vs /\ ((∃ kvs : List (Key × V), H a = some (.dK kvs) /\ ks = kvs.map (fun p => mW p.1) /\ vs = kvs.map (·.2)) \/
      (∃kvs:List (List Key×V),H a=some (.dT kvs)/\ks=kvs.map (λp=>.tup (p.1.map mW))/\vs=kvs.map (·.2)) \/
      ∃(kvs:List (List Key×V))(o:Obj),H a=some (.frz o (.dT kvs))/\ks=.non::kvs.map (λp=>.tup (p.1.map mW))/\vs=kvs.map (·.2)):=by unfold bM;rfl
theorem DZ{c:Str}{fs:ap}{ds:List D}{v:V}:bM K H (.obj c fs ds) v↔∃a vs,v=.ref a/\aK K H ds vs/\fs.length=vs.length/\∃C dx,clsAt K c C/\H a=some (.ins C dx (fs.zip vs)):=by unfold bM;rfl
theorem DU{c:Str}{fs:ap}{ds:List D}{v:V}:bM K H (.exc c fs ds) v↔∃a vs,v=.ref a/\aK K H ds vs/\fs.length=vs.length/\∃C dx,clsAt K c C/\H a=some (.ext (jq C a dx))/\(fs=[]\/∃d,dx=some d/\H d=some (.xd (fs.zip vs))):=by unfold bM;rfl
theorem bL{vs:aB}:aK K H [] vs↔vs=[]:=by unfold aK;rfl
theorem aX{x:D}{xs:List D}{vs:aB}:aK K H (x::xs) vs↔∃v r,vs=v::r/\bM K H x v/\aK K H xs r:=by conv=>lhs;unfold aK
theorem aK.length:∀{ds:List D}{vs:aB},aK K H ds vs->ds.length=vs.length
 |[],_,h=>by rw[bL]at h;rw[h];rfl
 |_::xs,_,h=>by
  rw[aX]at h;obtain⟨v,r,e,_,h⟩:=h;rw[e,Ho,Ho,aK.length h]
theorem aK.get:∀{ds:List D}{vs:aB}{i:Nat}{d:D},aK K H ds vs->ds[i]?=some d->∃v,vs[i]?=some v/\bM K H d v
 |[],_,_,_,_,e=>by simp at e
 |x::xs,_,0,d,h,e=>by
  rw[aX]at h;obtain⟨v,r,rfl,h1,_⟩:=h;simp at e;subst e;exact⟨v,rfl,h1⟩
 |x::xs,_,i+1,d,h,e=>by
  rw[aX]at h;obtain⟨v,r,rfl,_,h2⟩:=h;obtain⟨w,e1,e2⟩:=aK.get (i:=i) h2 (by simpa using e);exact⟨w,by simpa using e1,e2⟩
theorem aK.append:∀{ds es:List D}{vs ws:aB},aK K H ds vs->aK K H es ws->aK K H (ds++es) (vs++ws)
 |[],_,_,_,h,h'=>by rw[bL]at h;subst h;exact h'
 |x::xs,_,_,_,h,h'=>by
  rw[aX]at h;obtain⟨v,r,rfl,h1,h2⟩:=h;rw[HR,aX];exact⟨v,_,rfl,h1,aK.append h2 h'⟩
theorem aK.take:∀{ds:List D}{vs:aB}(n:Nat),aK K H ds vs->aK K H (ds.take n) (vs.take n)
 |_,_,0,_=>by rw[HS,HS,bL]
 |[],_,_+1,h=>by rw[bL]at h;subst h;rw[HU,HU,bL]
 |x::xs,_,n+1,h=>by
  rw[aX]at h;obtain⟨v,r,rfl,h1,h2⟩:=h;rw[HV,HV,aX];exact⟨v,_,rfl,h1,aK.take n h2⟩
theorem aK.drop:∀{ds:List D}{vs:aB}(n:Nat),aK K H ds vs->aK K H (ds.drop n) (vs.drop n)
 |_,_,0,h=>by rw[HW,HW];exact h
 |[],_,_+1,h=>by rw[bL]at h;subst h;rw[HX,HX,bL]
 |x::xs,_,n+1,h=>by
  rw[aX]at h;obtain⟨v,r,rfl,h1,h2⟩:=h;rw[HY,HY];exact aK.drop n h2
theorem aK.snoc{ds:List D}{vs:aB}{d:D}{v:V}(h:aK K H ds vs)(h':bM K H d v):aK K H (ds++[d]) (vs++[v]):=
 h.append (aX.mpr ⟨v,[],rfl,h',bL.mpr rfl⟩)
theorem aK.set{d:D}{v:V}(h':bM K H d v):∀{ds:List D}{vs:aB}(n:Nat),aK K H ds vs->aK K H (ds.set n d) (vs.set n v)
 |[],_,_,h=>by rw[bL]at h;subst h;exact bL.mpr rfl
 |x::xs,_,0,h=>by
  rw[aX]at h;obtain⟨w,r,rfl,h1,h2⟩:=h;exact aX.mpr ⟨v,r,rfl,h',h2⟩
 |x::xs,_,n+1,h=>by
  rw[aX]at h;obtain⟨w,r,rfl,h1,h2⟩:=h;exact aX.mpr ⟨w,_,rfl,h1,aK.set h' n h2⟩
theorem aK.one{d:D}{vs:aB}(h:aK K H [d] vs):∃v,vs=[v]/\bM K H d v:=by
 rw[aX]at h;obtain⟨v,r,rfl,h1,h2⟩:=h;rw[bL]at h2;subst h2;exact⟨v,rfl,h1⟩
theorem aK.two{d e:D}{vs:aB}(h:aK K H [d,e] vs):∃v w,vs=[v,w]/\bM K H d v/\bM K H e w:=by
 rw[aX]at h;obtain⟨v,r,rfl,h1,h2⟩:=h;obtain⟨w,rfl,h3⟩:=h2.one;exact⟨v,w,rfl,h1,h3⟩
theorem lC:∀ns:List Int,aK K H (ns.map D.int) (ns.map V.int)
 |[]=>bL.mpr rfl
 |n::ns=>aX.mpr ⟨_,_,rfl,dD.mpr rfl,lC ns⟩
end
noncomputable def hid(H:Hp)(O:ay):Hp:=λb=>if b∈O then none else H b
theorem az(H:Hp)(O:ay):aQ (hid H O) H:=λb o h=>by
 unfold hid at h;split at h
 ·cases h
 ·exact h
theorem bq{H H':Hp}{O:ay}(e:aQ H H'):aQ (hid H O) (hid H' O):=λb o h=>by
 unfold hid at h ⊢;by_cases hb:b∈O
 ·rw[if_pos hb]at h;cases h
 ·rw[if_neg hb]at h ⊢;exact e b o h
theorem fQ{H:Hp}{O O':ay}(s:∀a∈O,a∈O'):aQ (hid H O') (hid H O):=λb o h=>by
 unfold hid at h ⊢;by_cases hb:b∈O'
 ·rw[if_pos hb]at h;cases h
 ·rw[if_neg hb]at h;rw[if_neg λz=>hb (s b z)];exact h
theorem yM(H:Hp):hid H []=H:=by funext b;unfold hid;simp
theorem qS{H:Hp}{O:ay}{p:Kv}{o:HO}(h:H p=none):aQ (hid H O) (hid (upd H p o) O):=λb u q=>by
 unfold hid at q ⊢;by_cases hb:b∈O
 ·rw[if_pos hb]at q;cases q
 ·rw[if_neg hb]at q ⊢;rw[av (aM q h)];exact q
theorem bB{H:Hp}{p:Kv}(h:H p=none)(o:HO):aQ H (upd H p o):=λb u q=>by rw[av (aM q h)];exact q
theorem hV{H:Hp}{O:ay}{p:Kv}(h:p∉O):hid H O p=H p:=by unfold hid;rw[if_neg h]
theorem ka{H:Hp}{O:ay}{p:Kv}{o:HO}(h:p∈O):aQ (hid H O) (hid (upd H p o) O):=λb u q=>by
 unfold hid at q ⊢;by_cases hb:b∈O
 ·rw[if_pos hb]at q;cases q
 ·rw[if_neg hb]at q ⊢;rw[av (λz=>hb (by rw[z];exact h))];exact q
inductive S where
 |val (d:D)|own (d:D)|nest (d:D)
noncomputable abbrev aw:=List (Option S)
noncomputable def mK:HO->Prop
 |.lst _=>True
 |.dK _=>True
 |.dT _=>True
 |_=>False
class ax where
 tab:Hp->Prop
 same:∀{H H':Hp},tab H->aQ H H'->tab H'
 own:∀{H:Hp}{p:Kv}{o o':HO},tab H->H p=some o->mK o->tab (upd H p o')
variable[ax]
noncomputable def cB(H:Hp)(O:ay):Prop:=ax.tab H/\∀a∈O,∃o,H a=some o/\mK o
theorem cB.not{H:Hp}{O:ay}(h:cB H O){p:Kv}(n:H p=none):p∉O:=λz=>by
 obtain⟨vs,e,_⟩:=h.2 p z;rw[n]at e;cases e
theorem cB.same{H H':Hp}{O:ay}(h:cB H O)(e:aQ H H'):cB H' O:=⟨ax.same h.1 e,λa ha=>let ⟨vs,q,m⟩:=h.2 a ha;⟨vs,e _ _ q,m⟩⟩
theorem cB.upd{H:Hp}{O:ay}{p:Kv}{o:HO}(h:cB H O)(hp:p∈O)(m:mK o):cB (L2.upd H p o) O:=⟨let ⟨_,q,r⟩:=h.2 p hp;ax.own h.1 q r,λa ha=>by
 by_cases z:a=p
 ·rw[z];exact⟨o,aA,m⟩
 ·obtain⟨u,q,r⟩:=h.2 a ha;exact⟨u,by rw[av z];exact q,r⟩⟩
theorem cB.cons{H:Hp}{O:ay}{p:Kv}{o:HO}(h:cB H O)(hp:H p=some o)(m:mK o):cB H (p::O):=⟨h.1,λa ha=>by
 rcases List.mem_cons.mp ha with z|z
 ·rw[z];exact⟨o,hp,m⟩
 ·exact h.2 a z⟩
noncomputable def fK(K:Jv)(H:Hp)(O:ay)(a:Kv)(d:D):Prop:=∃o vs,H a=some o/\match d with
 |.lst xs=>o=.lst vs/\aK K (hid H O) xs vs
 |.dct ks ds=>aK K (hid H O) ds vs/\((∃kvs:List (Key×V),o=.dK kvs/\ks=kvs.map (λp=>mW p.1)/\vs=kvs.map (·.2)) \/
   ∃kvs:List (List Key×V),o=.dT kvs/\ks=kvs.map (λp=>.tup (p.1.map mW))/\vs=kvs.map (·.2))
 |_=>False
theorem fK.mono{K:Jv}{H H':Hp}{O O':ay}{a:Kv}{d:D}(h:fK K H O a d)(e:H a=H' a)(s:aQ (hid H O) (hid H' O')):fK K H' O' a d:=by
 obtain⟨o,vs,h1,h2⟩:=h;refine⟨o,vs,by rw[<-e];exact h1,?_⟩;cases d with
 |lst xs=>exact⟨h2.1,h2.2.mono s⟩
 |dct ks ds=>exact⟨h2.1.mono s,h2.2⟩
 |_=>exact h2
theorem fK.some{K:Jv}{H:Hp}{O:ay}{a:Kv}{d:D}(h:fK K H O a d):∃o,H a=some o:=let ⟨o,_,e,_⟩:=h;⟨o,e⟩
theorem fK.den{K:Jv}{H:Hp}{O O':ay}{a:Kv}{d:D}(h:fK K H O a d)(s:aQ (hid H O) (hid H O'))(ha:a∉O'):bM K (hid H O') d (.ref a):=by
 obtain⟨o,vs,h1,h2⟩:=h;have h1':hid H O' a=Option.some o:=by rw[hV ha];exact h1
 cases d with
 |lst xs=>
  obtain⟨e,g⟩:=h2;subst e;exact bo.mpr ⟨a,vs,rfl,gQ.of h1',g.mono s⟩
 |dct ks ds=>
  obtain⟨g,q⟩:=h2;refine DL.mpr ⟨a,vs,rfl,g.mono s,?_⟩;rcases q with⟨kvs,e,q⟩|⟨kvs,e,q⟩
  ·subst e;exact .inl ⟨kvs,h1',q⟩
  ·subst e;exact .inr (.inl ⟨kvs,h1',q⟩)
 |_=>exact h2.elim
structure cw(K:Jv)(O:ay)(H:Hp)(ρ:aw)(σ:St):Prop where
 val:∀(i:Nat) d,ρ[i]?=some (some (.val d))->∃v,σ[i]?=some (some v)/\bM K (hid H O) d v
 own:∀(i:Nat) d,ρ[i]?=some (some (.own d))->∃a,σ[i]?=some (some (.ref a))/\a∈O/\fK K H O a d
 one:∀(i j:Nat) xs ys a,ρ[i]?=some (some (.own xs))->ρ[j]?=some (some (.own ys))->σ[i]?=some (some (.ref a))->σ[j]?=some (some (.ref a))->i=j
 all:cB H O
theorem rF{H H':Hp}(e:aQ H H'){a:Kv}{o:HO}(h:H a=some o):H a=H' a:=by rw[h,e _ _ h]
theorem cw.same{K:Jv}{O:ay}{H H':Hp}{ρ:aw}{σ:St}(h:cw K O H ρ σ)(e:aQ H H'):cw K O H' ρ σ:=
  ⟨fun i d q=>let ⟨v,a,b⟩:=h.val i d q; ⟨v,a,b.mono (bq e)⟩,
   λi xs q=>let ⟨a,q1,q2,q3⟩:=h.own i xs q;⟨a,q1,q2,q3.mono (let ⟨_,z⟩:=q3.some;rF e z) (bq e)⟩,h.one,h.all.same e⟩
structure Ex where
 c:Str
 fs:ap
 vs:List D
noncomputable abbrev R(α:Type):=Except (Option Ex) α
noncomputable abbrev aN:=aw->R (List D)
noncomputable abbrev bu:=aw->R Bool
noncomputable abbrev cQ:=List D->R D
noncomputable abbrev un{α:Type}:R α:=.error none
noncomputable def rO{α:Type}:Option α->R α
 |some a=>.ok a
 |none=>.error none
noncomputable def Ct(K:Jv)(Hd:Hp)(x:Ex)(C:Kv)(dx:Option Kv):Prop:=clsAt K x.c C/\∃ws,aK K Hd x.vs ws/\x.fs.length=ws.length/\(x.fs=[]\/∃d,dx=some d/\Hd d=some (.xd (x.fs.zip ws)))
theorem Ct.mono{K:Jv}{H H':Hp}{x:Ex}{C:Kv}{dx:Option Kv}(h:Ct K H x C dx)(e:aQ H H'):Ct K H' x C dx:=by
 obtain⟨h1,ws,h2,h3,h4⟩:=h;exact⟨h1,ws,h2.mono e,h3,h4.imp id λ⟨d,q1,q2⟩=>⟨d,q1,e _ _ q2⟩⟩
end TG
namespace TG
open PySem PySem.Spec L2
variable[ax]
open PyProof.Rows (AllBare)
theorem pU{P:KA}{w:Kz}{H:Hp}{h:KC}{a:Kv}{o:HO}(x:ce P w H h a o):∃u,h.get? a=some u:=by
 cases o with
 |lst xs=>obtain⟨_,_,_,_,e⟩:=x;exact⟨_,e⟩
 |tup xs=>obtain⟨_,_,_,o,e,_⟩:=x;exact⟨_,e⟩
 |dK kvs=>obtain⟨_,_,_,_,o,_,_,e,_⟩:=x;exact⟨_,e⟩
 |dT kvs=>obtain⟨_,_,_,_,o,_,_,e,_⟩:=x;exact⟨_,e⟩
 |set S n=>obtain⟨o,_,_,_,e,_⟩:=x;exact⟨_,e⟩
 |ins C dx fs=>obtain⟨_,_,_,e,_⟩:=x;exact⟨_,e⟩
 |own y=>exact x
 |xd fs=>obtain⟨_,⟨_,_,_,e,_⟩,_⟩:=x;exact⟨_,e⟩
 |rng lo hi=>obtain⟨_,_,_,e⟩:=x;exact⟨_,e⟩
 |frz ob u=>obtain⟨e,_⟩:=x;exact⟨_,e⟩
 |tbl ps=>exact⟨_,(show h.get? a=some _ from x)⟩
 |met f y=>exact⟨_,(show h.get? a=some _ from x)⟩
 |ext φ=>obtain⟨_,e,_⟩:=x;exact e
noncomputable def fj(X:Cx)(H:Hp)(b:Kv):Prop:=((∃o,X.s₀.heap.get? b=some o)/\b∉X.ex)\/H b≠none\/(∃o,(b,o)∈X.pn)\/∃x,X.env.cells.lookup x=some b
noncomputable def Gz(B:KC)(e:Kv)(cls a0:Kt)(h:KC):Prop:=h.TracedW B e cls a0\/∃oe vs,h.get? e=some oe/\oe.cls=cls/\oe.data=.fields vs/\vs[1]?=some .none/\vs[0]?=some a0
noncomputable def om(X:Cx)(H:Hp)(s:Ky)(e C:Kv)(dx:Option Kv):Prop:=(∀oe,s.heap.get? e=some oe->oe.dict=dx)/\∃B a0,B.StaysIn s.heap/\B.get? e=none/\s.heap.FunFrames B X.stack/\Gz B e (.ref C) a0 s.heap/\∀b o,s.heap.get? b=some o->fj X H b->b∉frs X.stack->B.get? b=some o
noncomputable def GO(X:Cx)(H:Hp)(O:ay)(s:Ky)(u:Kt)(x:Ex):Prop:=∃e C dx,u=.ref e/\Ct X.K (hid H O) x C dx/\om X H s e C dx
noncomputable def iD(P:KA)(w:Kz):pV:=λouter H s E u s'=>∃e C dx H' B a0,u=.ref e/\(∀oe,s'.heap.get? e=some oe->oe.dict=dx)/\s'.os=s.os/\AllBare s'.gens/\Un (frs outer) [] H H' s.heap s'.heap/\kZ P w H' s'.heap/\Kb B outer e (.ref C) a0 s'.heap/\
 (∀b o,s'.heap.get? b=some o->((∃o',s.heap.get? b=some o')\/H' b≠none)->b∉frs outer->B.get? b=some o)/\E (.ref C) dx H'
noncomputable def El(K:Jv)(H:Hp)(O:ay)(x:Ex)(E:XK):Prop:=∀C dx H',aQ H H'->Ct K (hid H' O) x C dx->E (.ref C) dx H'
noncomputable def AG(X:Cx)(σ:St)(O:ay)(H:Hp)(x:Ex):Prop:=∀pins s u H',Inv X pins σ H' s->aQ H H'->GO X H' O s u x->X.xe u s
theorem AG.mono{X:Cx}{σ:St}{O:ay}{H H':Hp}{x:Ex}(h:AG X σ O H x)(s:aQ H H'):AG X σ O H' x:=λpins st u H2 I s2 f=>h pins st u H2 I (s.trans s2) f
noncomputable def rY(X:Cx)(O:ay)(H:Hp)(x:Ex):XK:=λu dx H'=>∃C,u=.ref C/\aQ H H'/\Ct X.K (hid H' O) x C dx
noncomputable def fX(CX:pV)(X:Cx)(σ:St)(E:XK):Prop:=∀(pins:aR)(H:Hp)(s:Ky)(e:Kt)(s':Ky),Inv X pins σ H s->CX X.stack H s E e s'->X.xe e s'
theorem qR{X:Cx}{σ:St}{O:ay}{H:Hp}{x:Ex}(h:AG X σ O H x):fX (iD X.prog X.w) X σ (rY X O H x):=by
 rintro pins H1 s u s' I ⟨e,C,dx,H',B,a0,rfl,hdx,os,bare,un,hok,⟨f1,f2,f3,f4⟩,kp,C',eC,sm,hd⟩;cases eC;have I':Inv X pins σ H' s':=I.call' os un hok bare (ch:=[]) λb z=>absurd z (by simp);refine h pins s' _ H' I' sm ⟨e,C,dx,rfl,hd,hdx,B,a0,f1,f2,f3,.inl f4,λb o eb hb nf=>kp b o eb ?_ nf⟩;rcases hb with⟨⟨o',hb⟩,nx⟩|hb|⟨o',hb⟩|⟨y,hb⟩
 ·exact .inl (I.base.there b o' hb nx)
 ·exact .inr hb
 ·exact .inl ⟨_,(I.pin _ (Ha _ hb)).1⟩
 ·obtain⟨v,o,q,_⟩:=I.cell y b hb;exact .inl ⟨o,q⟩
theorem rH{X:Cx}{σ:St}:fX (iD X.prog X.w) X σ E0:=λ_ _ _ _ _ _ h=>by
 obtain⟨_,_,_,_,_,_,_,_,_,_,_,_,_,_,z⟩:=h;exact z.elim
theorem ph{X:Cx}{O:ay}{H:Hp}{x:Ex}:El X.K H O x (rY X O H x):=λC dx H' s e=>⟨C,rfl,s,e⟩
section
variable{X:Cx}{pins:aR}{σ:St}{H:Hp}{s:Ky}{h':KC}
theorem qQ(I:Inv X pins σ H s)(k:∀b o,s.heap.get? b=some o->fj X H b->b∉frs X.stack->h'.get? b=some o):kZ X.prog X.w H h':=λa ob ea=>
 (I.hok a ob ea).stay (λb u hb q=>by
  have hn:H b≠none:=by
   rcases hb with e|e
   ·rw[e,ea];intro z;cases z
   ·rw[e];intro z;cases z
  exact k b u q (.inr (.inl hn)) λhf=>hn (I.stkFree b hf)) (λ_ q=>q) λ_ _ q=>q
theorem my(I:Inv X pins σ H s)(us:s.heap.UpToSlots h'){b:Kv}{o:Obj}(hb:b∈frs X.stack)(e:s.heap.get? b=some o):∃sl,h'.get? b=some {o with slots:=sl}:=by
 obtain⟨_,o',e',nf⟩:=I.stack.mem hb;rw[e]at e';cases e';exact us b o e nf
theorem wB(I:Inv X pins σ H s)(hx:X.ex=[])(hst:X.stack=X.env::X.outer)(hf:X.env.frame=some X.env.locals)(us:s.heap.UpToSlots h')(k:∀b o,s.heap.get? b=some o->fj X H b->b∉frs X.stack->h'.get? b=some o):
  Un (frs X.outer) [] X.H₀ H X.s₀.heap h':=by
 have U:=I.base;rw[hx]at U;have fr:frs X.stack=X.env.locals::frs X.outer:=by rw[hst];show List.filterMap _ (_::_)=_;rw[G7,hf];rfl
 have nl:∀b o,X.s₀.heap.get? b=some o->b≠X.env.locals:=λb o q z=>by
  have h1:=J3 q;have h2:=I.ok.above;rw[z]at h1;exact G3 _ (G2 h1 h2)
 have nfr:∀b o,X.s₀.heap.get? b=some o->b∉frs X.outer->b∉frs X.stack:=λb o q nb z=>by
  rw[fr]at z;rcases List.mem_cons.mp z with z|z
  ·exact nl b o q z
  ·exact nb z
 refine⟨λb o q n nb _=>k b o (U.keep b o q n nb (by simp)) (.inl ⟨⟨o,q⟩,by rw[hx];simp⟩) (nfr b o q nb),λb o q n hb _=>?_,λb o q n _=>U.free b o q n (by simp),λb o q _=>?_,U.tups,U.frzs,U.tbls⟩
 ·obtain⟨sl,e⟩:=U.slot b o q n hb (by simp);obtain⟨sl',e'⟩:=my I us (by rw[fr];exact G9 _ hb) e;exact⟨sl',e'⟩
 ·obtain⟨o1,e1⟩:=U.there b o q (by simp);by_cases hb:b∈frs X.stack
  ·obtain⟨sl,e⟩:=my I us hb e1;exact⟨_,e⟩
  ·exact⟨o1,k b o1 e1 (.inl ⟨⟨o,q⟩,by rw[hx];simp⟩) hb⟩
end
theorem AW{P:KA}{w:Kz}{K:Jv}{mg:bC}{base:KC}{N:ap}{qual:Str}{scope:KL}{f:Kv}{cd:Kt}{A:KJ}{outer:List Env}{s:Ky}{H:Hp}{E:XK}{σ:St}{O O':ay}{H':Hp}{x:Ex}
  (hx:El K H O x E) (sm:aQ H H') (hs:∀a∈O,a∈O'):AG (fG (iD P w) P w K mg base N qual scope f cd A outer s H E) σ O' H' x:=by
 rintro pins s1 u H1 I s2 ⟨e,C,dx,rfl,hd,hdx,B,a0,b1,b2,b3,b4,b5⟩;have fin:∀h',Kb B outer e (.ref C) a0 h'->s1.heap.UpToSlots h'->DS s1.heap h'->iD P w outer H s E (.ref e) {s1 with heap:=h'}:=λh' fl us ds=>by
  have k:∀b o,s1.heap.get? b=some o->fj (fG (iD P w) P w K mg base N qual scope f cd A outer s H E) H1 b->b∉frs (fG (iD P w) P w K mg base N qual scope f cd A outer s H E).stack->h'.get? b=some o:=λb o q kb nf=>fl.1 b o (b5 b o q kb nf);have un:=wB I rfl rfl rfl us k;have hok:=qQ I k;refine⟨e,C,dx,H1,B,a0,rfl,λoe' q=>?_,I.os,I.bare,un,hok,fl,λb o q hb nf=>?_,hx C dx H1 (sm.trans s2) (hd.mono (fQ hs))⟩
  ·obtain⟨oe,q1⟩:∃oe,s1.heap.get? e=some oe:=by
    rcases b4 with⟨oe,_,_,_,_,h1,_⟩|⟨oe,_,h1,_⟩
    ·exact⟨oe,h1⟩
    ·exact⟨oe,h1⟩
   exact(ds.dict q1 q).trans (hdx oe q1)
  have nf2:b∉frs (fG (iD P w) P w K mg base N qual scope f cd A outer s H E).stack:=λz=>by
   rcases List.mem_cons.mp (show b∈s.heap.objs.size::frs outer from z)with z|z
   ·rcases hb with hb|hb
    ·obtain⟨o',hb⟩:=hb
     have:=J3 hb
     rw[z]at this;exact G3 _ this
    ·rw[z]at hb;exact hb I.free
   ·exact nf z
  have kb:fj (fG (iD P w) P w K mg base N qual scope f cd A outer s H E) H1 b:=hb.elim (λz=>.inl ⟨z,λy=>nomatch y⟩) λz=>.inr (.inl z);obtain⟨o1,e1⟩:∃o1,s1.heap.get? b=some o1:=by
   rcases hb with⟨o',hb⟩|hb
   ·exact I.base.there b o' hb (λz=>nomatch z)
   ·cases q0:H1 b with
    |none=>exact absurd q0 hb
    |some ob=>exact pU (I.hok b ob q0)
  have:=k b o1 e1 kb nf2
  rw[q]at this;cases this;exact b5 b _ e1 kb nf2
 show KO _ _ (leaving (Kh qual scope s.heap.objs.size f cd) (.ref e)) _ _ s1;refine DP.go (pK _ _) (P:=λh'=>Kb B outer e (.ref C) a0 h'/\s1.heap.UpToSlots h') ?_ λh' z ds=>fin h' z.1 z.2 ds;rcases b4 with b4|⟨oe,vs,c1,c2,c3,c4,c5⟩
 ·exact wpAny_leaves_onW I.ok.frames rfl ⟨b1,b2,b3,b4⟩ λh' fl us=>⟨h',rfl,fl,us⟩
 ·refine wpAny_leaving_firstW I.ok.frames b3 rfl c1 b1 b2 c3 c4 c5 λh' hL=>?_;obtain⟨k1,⟨_,_,k2⟩,k3,k4⟩:=hL;exact⟨h',rfl,⟨k1,b2,k2,c2 ▸ k3⟩,k4⟩
end TG
namespace TG
open PySem PySem.Spec L2
variable[ax]
noncomputable def dE(X:Cx)(σ:St)(O:ay)(H:Hp){α:Type}(r:R α)(Q:α->Prop):Prop:=match r with
 |.ok a=>Q a
 |.error (some x)=>AG X σ O H x
 |.error none=>False
section
variable{X:Cx}{σ:St}{O:ay}{H H':Hp}{α β:Type}
theorem dE.bind{r:R α}{G:α->R β}{Q:β->Prop}(h:dE X σ O H (r.bind G) Q):dE X σ O H r λa=>dE X σ O H (G a) Q:=by
 match r,h with
 |.ok a,h=>exact h
 |.error (some x),h=>exact h
 |.error none,h=>exact h
theorem dE.imp{r:R α}{Q Q':α->Prop}(h:dE X σ O H r Q)(f:∀a,Q a->Q' a):dE X σ O H r Q':=by
 match r,h with
 |.ok a,h=>exact f a h
 |.error (some x),h=>exact h
 |.error none,h=>exact h
theorem dE.mono{r:R α}{Q:α->Prop}(h:dE X σ O H r Q)(s:aQ H H'):dE X σ O H' r Q:=by
 match r,h with
 |.ok a,h=>exact h
 |.error (some x),h=>exact AG.mono h s
 |.error none,h=>exact h
theorem dE.rO{o:Option α}{Q:α->Prop}(h:dE X σ O H (rO o) Q):∃a,o=some a/\Q a:=by
 match o,h with
 |some a,h=>exact⟨a,rfl,h⟩
 |none,h=>exact h.elim
end
noncomputable abbrev FX:=aw->R D
noncomputable def tF(X:Cx)(F:FX):TE:=λσ H Q=>∃O ρ,cw X.K O H ρ σ/\dE X σ O H (F ρ) λd=>∀v H',aQ H H'->bM X.K (hid H' O) d v->Q v H'
noncomputable def DK(X:Cx)(F:bu):TT:=λσ H Q=>∃O ρ,cw X.K O H ρ σ/\dE X σ O H (F ρ) λb=>∀H',aQ H H'->Q b H'
noncomputable def Fc(X:Cx)(F:aN):TA:=λσ H Q=>∃O ρ,cw X.K O H ρ σ/\dE X σ O H (F ρ) λds=>∀vs H',aQ H H'->aK X.K (hid H' O) ds vs->Q vs H'
noncomputable def FE(X:Cx)(e:Kw)(F:FX):Prop:=PE X e (tF X F)
noncomputable def FT(X:Cx)(e:Kw)(F:bu):Prop:=PT X e (DK X F)
noncomputable def FW(X:Cx)(e:Kw)(F:bu):Prop:=PW X e (DK X F)
noncomputable def FA(X:Cx)(es:aU)(F:aN):Prop:=PA X es (Fc X F)
theorem PE.weak{X:Cx}{e:Kw}{t t':TE}(h:PE X e t)(w:∀σ H Q,t' σ H Q->t σ H Q):PE X e t':=λpins s σ H Q I q=>h pins s σ H Q I (w σ H Q q)
theorem PT.weak{X:Cx}{e:Kw}{t t':TT}(h:PT X e t)(w:∀σ H Q,t' σ H Q->t σ H Q):PT X e t':=λpins s σ H Q I q=>h pins s σ H Q I (w σ H Q q)
theorem PW.weak{X:Cx}{e:Kw}{t t':TT}(h:PW X e t)(w:∀σ H Q,t' σ H Q->t σ H Q):PW X e t':=λwhole pins s σ H Q I q=>h whole pins s σ H Q I (w σ H Q q)
theorem PA.weak{X:Cx}{es:aU}{t t':TA}(h:PA X es t)(w:∀σ H Q,t' σ H Q->t σ H Q):PA X es t':=λpos pins s σ H Q I q=>h pos pins s σ H Q I (w σ H Q q)
theorem PS.weak{X:Cx}{st:Kx}{t t':TS}(h:PS X st t)(w:∀D σ H,t' D σ H->t D σ H):PS X st t':=λpins s σ H Q I q=>h pins s σ H Q I (w Q σ H q)
theorem og.weak{X:Cx}{st:cD}{t t':TS}(h:og X st t)(w:∀D σ H,t' D σ H->t D σ H):og X st t':=λpins s σ H Q I q=>h pins s σ H Q I (w Q σ H q)
noncomputable def kY(ρ:aw)(i:Nat):R D:=match ρ[i]? with
 |some (some (.val d))=>.ok d
 |_=>un
theorem zc{ρ:aw}{i:Nat}{d:D}(h:kY ρ i=.ok d):ρ[i]?=some (some (.val d)):=by
 unfold kY at h;split at h
 ·rename_i e;cases h;exact e
 ·cases h
noncomputable def af(i:Nat):FX:=λρ=>kY ρ i
noncomputable def fC(d:D):FX:=λ_=>.ok d
section
variable{X:Cx}
theorem tO{σ:St}{O:ay}{H:Hp}{ρ:aw}{i:Nat}{Q:D->Prop}(h:dE X σ O H (kY ρ i) Q):∃d,ρ[i]?=some (some (.val d))/\Q d:=by
 cases e:kY ρ i with
 |ok d=>rw[e]at h;exact⟨d,zc e,h⟩
 |error z=>
  rw[e]at h;cases z with
  |none=>exact h.elim
  |some x=>
   exfalso;unfold kY at e;split at e
   ·cases e
   ·have:=Except.error.inj e;cases this
theorem fS{e:Kw}{d:D}{v:V}(h:PE X e (tC v))(hd:∀K H,bM K H d v):FE X e (fC d):=
 PE.weak h λσ H Q ⟨O,ρ,E,q⟩=>q v H (aQ.refl H) (hd _ _)
noncomputable def noStar:Kw->Bool
 |.Starred _ _=>false
 |_=>true
theorem bg{e:Kw}{es:aU}{env:Env}(h:noStar e=true):KP (e::es) env=(false,eval e env)::KP es env:=by
 cases e<;>first|rfl|cases h
theorem bZ{pos:Pos}{env:Env}:∀{es:aU},es.all noStar=true->(backTo pos (KP es env)).any (·.1)=false
 |[],_=>rfl
 |e::es,h=>by
  rw[HZ,HI]at h;rw[bg h.1];exact bZ h.2
noncomputable def ah:aN:=λ_=>.ok []
noncomputable def aa(f:FX)(g:aN):aN:=λρ=>(f ρ).bind λx=>(g ρ).bind λxs=>.ok (x::xs)
theorem Eg:FA X [] ah:=PA.weak jk λσ H Q ⟨O,ρ,E,q⟩=>q [] H (aQ.refl H) (bL.mpr rfl)
theorem bind_some{α β:Type}{o:Option α}{f:α->Option β}{b:β}(h:o.bind f=some b):∃a,o=some a/\f a=some b:=by
 cases o with
 |none=>cases h
 |some a=>exact⟨a,rfl,h⟩
theorem jP{ε α β:Type}{o:Except ε α}{f:α->Except ε β}{b:β}(h:o.bind f=.ok b):∃a,o=.ok a/\f a=.ok b:=by
 cases o with
 |error _=>cases h
 |ok a=>exact⟨a,rfl,h⟩
theorem DX{e:Kw}{es:aU}{f:FX}{g:aN}(he:FE X e f)(hs:FA X es g)(hns:noStar e=true:=by rfl):FA X (e::es) (aa f g):=
 PA.weak (dg he hs (bg hns)) λσ H Q ⟨O,ρ,E,h⟩=>
  ⟨O,ρ,E,(dE.bind h).imp λx h v H1 s1 d1=>⟨O,ρ,E.same s1,((dE.bind h).mono s1).imp λxs q vs H2 s2 d2=>q (v::vs) H2 (s1.trans s2) (aX.mpr ⟨v,vs,rfl,d1.mono (bq s2),d2⟩)⟩⟩
noncomputable def small(n:Nat):Bool:=decide (n<=100000)
theorem bU{n:Nat}(h:small n=true):n<=KG:=G5 (of_decide_eq_true h) (by decide)
theorem cx{n:Nat}(h:n<=100000):small n=true:=decide_eq_true h
noncomputable def lW(xs:List D):aZ:=if small xs.length then some (.tup xs)else none
noncomputable def kM(xs:List D):aZ:=if small xs.length then some (.lst xs)else none
noncomputable def a9(g:aN):FX:=λρ=>(g ρ).bind λxs=>rO (lW xs)
noncomputable def eI(g:aN):FX:=λρ=>(g ρ).bind λxs=>rO (kM xs)
theorem a8{α:Type}{c:Bool}{a b:α}(h:(if c then some a else none)=some b):c=true/\a=b:=by
 cases c with
 |true=>exact⟨rfl,Option.some.inj h⟩
 |false=>cases h
theorem cN{K:Jv}{H:Hp}{O:ay}{p:Kv}{ds:List D}{vs:aB}(hO:cB H O)(hp:H p=none)(d:aK K (hid H O) ds vs):bM K (hid (upd H p (.tup vs)) O) (.tup ds) (.ref p):=
 bp.mpr ⟨p,vs,rfl,by rw[hV (hO.not hp),aA],d.mono (qS hp)⟩
theorem dm{K:Jv}{H:Hp}{O:ay}{p:Kv}{ds:List D}{vs:aB}(hO:cB H O)(hp:H p=none)(d:aK K (hid H O) ds vs):bM K (hid (upd H p (.lst vs)) O) (.lst ds) (.ref p):=
 bo.mpr ⟨p,vs,rfl,gQ.of (by rw[hV (hO.not hp),aA]),d.mono (qS hp)⟩
noncomputable def xV(K:Jv)(r:V->Hp->VK->Prop)(g:D->aZ):Prop:=
 ∀(a d:D)(x:V)(O:ay)(H:Hp)(Q:VK),cB H O->g a=some d->bM K (hid H O) a x->(∀v H',aQ H H'->bM K (hid H' O) d v->Q v H')->r x H Q
noncomputable def f1(g:D->aZ)(f:FX):FX:=λρ=>(f ρ).bind λa=>rO (g a)
noncomputable def ca(K:Jv)(r:R2)(g:D->D->aZ):Prop:=
 ∀(a b d:D)(x y:V)(O:ay)(H:Hp)(Q:VK),cB H O->g a b=some d->bM K (hid H O) a x->bM K (hid H O) b y->(∀v H',aQ H H'->bM K (hid H' O) d v->Q v H')->r x y H Q
noncomputable def f2(g:D->D->aZ)(f1 f2:FX):FX:=λρ=>(f1 ρ).bind λa=>(f2 ρ).bind λb=>rO (g a b)
theorem nF{r:R2}{g:D->D->aZ}{fa fb:FX}(s:ca X.K r g):∀σ H Q,tF X (f2 g fa fb) σ H Q->CI r (tF X fa) (tF X fb) σ H Q:=λσ H Q ⟨O,ρ,E,hF⟩=>
 ⟨O,ρ,E,(dE.bind hF).imp fun a hF x H1 s1 d1=>⟨O,ρ,E.same s1,((dE.bind hF).mono s1).imp fun b hF y H2 s2 d2=>by
  obtain⟨d,e,q⟩:=dE.rO hF;exact s a b d x y O H2 Q (E.all.same (s1.trans s2)) e (d1.mono (bq s2)) d2 λv H3 s3 d3=>q v H3 ((s1.trans s2).trans s3) d3⟩⟩
noncomputable def Ej:D->Option Bool
 |.bl b=>some b
 |_=>none
noncomputable def fB(f:FX):bu:=λρ=>(f ρ).bind λd=>rO (Ej d)
theorem kR{t:TE}{f:FX}(h:∀σ H Q,tF X f σ H Q->t σ H Q):∀σ H Q,DK X (fB f) σ H Q->xj t σ H Q:=λσ H Q ⟨O,ρ,E,hF⟩=>
 h σ H _ ⟨O,ρ,E,(dE.bind hF).imp λd hF v H1 s1 d1=>by
  obtain⟨b,e,q⟩:=dE.rO hF;cases d with
  |bl b'=>
   cases e;exact⟨b,eT.mp d1,q H1 s1⟩
  |_=>cases e⟩
noncomputable def sy(K:Jv)(r:aB->Hp->VK->Prop)(g:List D->aZ):Prop:=
 ∀(ds:List D)(d:D)(xs:aB)(O:ay)(H:Hp)(Q:VK),cB H O->g ds=some d->aK K (hid H O) ds xs->(∀v H',aQ H H'->bM K (hid H' O) d v->Q v H')->r xs H Q
noncomputable def fL(g:List D->aZ)(f:aN):FX:=λρ=>(f ρ).bind λds=>rO (g ds)
noncomputable def fR(g:cQ)(f:aN):FX:=λρ=>(f ρ).bind g
theorem wO{r:aB->Hp->VK->Prop}{g:List D->aZ}{f:aN}(s:sy X.K r g):∀σ H Q,tF X (fL g f) σ H Q->Ec r (Fc X f) σ H Q:=λσ H Q ⟨O,ρ,E,hF⟩=>
 ⟨O,ρ,E,(dE.bind hF).imp fun ds hF vs H1 s1 d1=>by
  obtain⟨d,e,q⟩:=dE.rO hF;exact s ds d vs O H1 Q (E.all.same s1) e d1 λv H2 s2 d2=>q v H2 (s1.trans s2) d2⟩
noncomputable def kj(f:bu):bu:=λρ=>(f ρ).bind λb=>.ok (!b)
noncomputable def oM(f g:bu):bu:=λρ=>(f ρ).bind λb=>if b then g ρ else .ok false
noncomputable def uF(f g:bu):bu:=λρ=>(f ρ).bind λb=>if b then .ok true else g ρ
variable{a b c:Kw}{rest:aU}{pos:Pos}{f g:bu}
theorem FW.ft{e:Kw}(h:FW X e f):FT X e f:=PW.pt h
noncomputable def truth:D->Option Bool
 |.non=>some false
 |.bl b=>some b
 |.int i=>some (i !=0)
 |.str x=>if small x.length then some (x.length !=0)else none
 |.tup xs=>some (!xs.isEmpty)
 |.lst xs=>some (!xs.isEmpty)
 |_=>none
noncomputable def cC(f:FX):bu:=λρ=>(f ρ).bind λd=>rO (truth d)
noncomputable def qI(d:D)(k:R D):R D:=match d with
 |.bl true=>k
 |.bl false=>.ok (.bl false)
 |_=>un
noncomputable def Cw(d:D)(k:R D):R D:=match d with
 |.bl false=>k
 |.bl true=>.ok (.bl true)
 |_=>un
noncomputable def BM:D->aZ
 |.bl b=>some (.bl (!b))
 |_=>none
noncomputable def iO(f g:FX):FX:=λρ=>(f ρ).bind λd=>qI d (g ρ)
noncomputable def qH(f g:FX):FX:=λρ=>(f ρ).bind λd=>Cw d (g ρ)
noncomputable def pA(f:FX):FX:=f1 BM f
variable{fa fb:FX}
noncomputable def Ea(t:bu)(f g:FX):FX:=λρ=>(t ρ).bind λc=>if c then f ρ else g ρ
end
end TG
namespace TG
open PySem PySem.Spec L2
variable[ax]
open PySem.SeqAt (EqAt RcAt RcNeAt)
mutual
noncomputable def pyEq:D->D->Bool
 |.non,.non=>true
 |.bl a,.bl b=>a==b
 |.bl a,.int b=>(if a then 1 else 0)==b
 |.int a,.bl b=>a==(if b then 1 else 0)
 |.int a,.int b=>a==b
 |.str a,.str b=>a==b
 |.tup xs,.tup ys=>fw xs ys
 |.lst xs,.lst ys=>fw xs ys
 |.dct _ _,.dct _ _=>true
 |.obj _ _ _,.obj _ _ _=>true
 |.exc _ _ _,.exc _ _ _=>true
 |_,_=>false
noncomputable def fw:List D->List D->Bool
 |[],[]=>true
 |x::xs,y::ys=>pyEq x y&&fw xs ys
 |_,_=>false
end
mutual
theorem jl:∀d:D,pyEq d d=true
 |.non=>by unfold pyEq;rfl
 |.bl b=>by unfold pyEq;simp
 |.int i=>by unfold pyEq;simp
 |.str x=>by unfold pyEq;simp
 |.tup xs=>by unfold pyEq;exact gW xs
 |.lst xs=>by unfold pyEq;exact gW xs
 |.dct _ _=>by unfold pyEq;rfl
 |.obj _ _ _=>by unfold pyEq;rfl
 |.exc _ _ _=>by unfold pyEq;rfl
theorem gW:∀ds:List D,fw ds ds=true
 |[]=>by unfold fw;rfl
 |d::ds=>by unfold fw;rw[jl d,gW ds];rfl
end
noncomputable def qE(xs ys:List D)(j:Nat):Bool:=match xs[j]?,ys[j]? with
 |some a,some b=>pyEq a b
 |_,_=>false
theorem c7:∀xs ys:List D,((List.range (min xs.length ys.length)).all (qE xs ys)&&xs.length==ys.length)=fw xs ys
 |[],[]=>by unfold fw;rfl
 |[],_::_=>by unfold fw;simp
 |_::_,[]=>by unfold fw;simp
 |x::xs,y::ys=>by
  have ih:=c7 xs ys
  conv=>rhs;unfold fw
  rw[<-ih];have e:min (x::xs).length (y::ys).length=min xs.length ys.length+1:=by simp only[Ho];omega
  rw[e,H0,HZ,List.all_map];have e2:((x::xs).length==(y::ys).length)=(xs.length==ys.length):=by simp
  rw[e2,Bool.and_assoc];have e3:(List.range (min xs.length ys.length)).all (qE (x::xs) (y::ys)∘Nat.succ)=(List.range (min xs.length ys.length)).all (qE xs ys):=by
   congr 1
  rw[e3];rfl
mutual
noncomputable def pl:D->Bool
 |.tup xs=>eB xs
 |.lst xs=>eB xs
 |.dct _ _=>false
 |.obj _ _ _=>false
 |.exc _ _ _=>false
 |_=>true
noncomputable def eB:List D->Bool
 |[]=>true
 |x::xs=>pl x&&eB xs
end
theorem cY{ks vs:List D}(h:pl (.dct ks vs)=true):False:=by unfold pl at h;cases h
theorem c9{c:Str}{fs:ap}{vs:List D}(h:pl (.obj c fs vs)=true):False:=by unfold pl at h;cases h
theorem cZ{c:Str}{fs:ap}{vs:List D}(h:pl (.exc c fs vs)=true):False:=by unfold pl at h;cases h
theorem dQ:∀{xs:List D},eB xs=true->∀x∈xs,pl x=true
 |[],_,_,h=>nomatch h
 |x::xs,h,y,hy=>by
  unfold eB at h;rw[HI]at h;rcases List.mem_cons.mp hy with z|z
  ·rw[z];exact h.1
  ·exact dQ h.2 y z
theorem kD:∀{xs:List D},(∀x∈xs,pl x=true)->eB xs=true
 |[],_=>by unfold eB;rfl
 |x::xs,h=>by
  unfold eB;rw[HI];exact⟨h x G8,kD λy hy=>h y (G9 _ hy)⟩
theorem b7{xs:List D}:pl (.tup xs)=eB xs:=by rw[pl]
theorem cE{xs:List D}:pl (.lst xs)=eB xs:=by rw[pl]
theorem Bb{i:Int}:pl (.int i)=true:=by unfold pl;rfl
theorem B4{x:Str}:pl (.str x)=true:=by unfold pl;rfl
noncomputable def cn:Nat->D->Bool
 |n+1,.tup xs=>xs.all (cn n)
 |n+1,.lst xs=>xs.all (cn n)
 |0,.tup _=>false
 |0,.lst _=>false
 |_,.dct _ _=>false
 |_,.obj _ _ _=>false
 |_,.exc _ _ _=>false
 |_,_=>true
section
variable{X:Cx}{pins:aR}{σ:St}{H:Hp}{s:Ky}
theorem Inv.not_both(I:Inv X pins σ H s){a:Kv}{xs ys:aB}(h:jn X.K H a xs)(h':gQ X.K H a ys):False:=by
 obtain⟨its,_,ht,_⟩:=I.tuple h;obtain⟨its2,_,hl,_⟩:=I.list h';exact absurd rfl (SeqAt.ne_of_list_tuple hl.isList (show s.heap.IsTuple a its.toArray from ht))
mutual
theorem Inv.den_inj(I:Inv X pins σ H s):∀{a b:D}{v:V},pl a=true->pl b=true->bM X.K H a v->bM X.K H b v->a=b
 |.non,b,v,pa,pb,h,h'=>by
  rw[fm]at h;subst h;cases b with
  |non=>rfl
  |bl _=>rw[eT]at h';cases h'
  |int _=>rw[dD]at h';cases h'
  |str _=>rw[dh]at h';cases h'
  |tup _=>rw[bp]at h';obtain⟨_,_,e,_⟩:=h';cases e
  |lst _=>rw[bo]at h';obtain⟨_,_,e,_⟩:=h';cases e
  |dct _ _=>exact(cY pb).elim
  |obj _ _ _=>exact(c9 pb).elim
  |exc _ _ _=>exact(cZ pb).elim
 |.bl x,b,v,pa,pb,h,h'=>by
  rw[eT]at h;subst h;cases b with
  |non=>rw[fm]at h';cases h'
  |bl _=>rw[eT]at h';cases h';rfl
  |int _=>rw[dD]at h';cases h'
  |str _=>rw[dh]at h';cases h'
  |tup _=>rw[bp]at h';obtain⟨_,_,e,_⟩:=h';cases e
  |lst _=>rw[bo]at h';obtain⟨_,_,e,_⟩:=h';cases e
  |dct _ _=>exact(cY pb).elim
  |obj _ _ _=>exact(c9 pb).elim
  |exc _ _ _=>exact(cZ pb).elim
 |.int x,b,v,pa,pb,h,h'=>by
  rw[dD]at h;subst h;cases b with
  |non=>rw[fm]at h';cases h'
  |bl _=>rw[eT]at h';cases h'
  |int _=>rw[dD]at h';cases h';rfl
  |str _=>rw[dh]at h';cases h'
  |tup _=>rw[bp]at h';obtain⟨_,_,e,_⟩:=h';cases e
  |lst _=>rw[bo]at h';obtain⟨_,_,e,_⟩:=h';cases e
  |dct _ _=>exact(cY pb).elim
  |obj _ _ _=>exact(c9 pb).elim
  |exc _ _ _=>exact(cZ pb).elim
 |.str x,b,v,pa,pb,h,h'=>by
  rw[dh]at h;subst h;cases b with
  |non=>rw[fm]at h';cases h'
  |bl _=>rw[eT]at h';cases h'
  |int _=>rw[dD]at h';cases h'
  |str _=>rw[dh]at h';cases h';rfl
  |tup _=>rw[bp]at h';obtain⟨_,_,e,_⟩:=h';cases e
  |lst _=>rw[bo]at h';obtain⟨_,_,e,_⟩:=h';cases e
  |dct _ _=>exact(cY pb).elim
  |obj _ _ _=>exact(c9 pb).elim
  |exc _ _ _=>exact(cZ pb).elim
 |.tup xs,b,v,pa,pb,h,h'=>by
  rw[bp]at h;obtain⟨a,vs,e,h1,h2⟩:=h;subst e;cases b with
  |non=>rw[fm]at h';cases h'
  |bl _=>rw[eT]at h';cases h'
  |int _=>rw[dD]at h';cases h'
  |str _=>rw[dh]at h';cases h'
  |tup ys=>
   rw[bp]at h';obtain⟨a',vs',e,h1',h2'⟩:=h';cases e;have ev:=I.tuple_inj (jn.of h1) (jn.of h1');subst ev;rw[Inv.denL_inj I (by first|rw[<-b7];exact pa|rw[<-cE];exact pa) (by first|rw[<-b7];exact pb|rw[<-cE];exact pb) h2 h2']
  |lst _=>rw[bo]at h';obtain⟨_,_,e,h1',_⟩:=h';cases e;exact(Inv.not_both I (jn.of h1) h1').elim
  |dct _ _=>exact(cY pb).elim
  |obj _ _ _=>exact(c9 pb).elim
  |exc _ _ _=>exact(cZ pb).elim
 |.lst xs,b,v,pa,pb,h,h'=>by
  rw[bo]at h;obtain⟨a,vs,e,h1,h2⟩:=h;subst e;cases b with
  |non=>rw[fm]at h';cases h'
  |bl _=>rw[eT]at h';cases h'
  |int _=>rw[dD]at h';cases h'
  |str _=>rw[dh]at h';cases h'
  |lst ys=>
   rw[bo]at h';obtain⟨a',vs',e,h1',h2'⟩:=h';cases e;have ev:=I.list_inj h1 h1';subst ev;rw[Inv.denL_inj I (by first|rw[<-b7];exact pa|rw[<-cE];exact pa) (by first|rw[<-b7];exact pb|rw[<-cE];exact pb) h2 h2']
  |tup _=>rw[bp]at h';obtain⟨_,_,e,h1',_⟩:=h';cases e;exact(Inv.not_both I (jn.of h1') h1).elim
  |dct _ _=>exact(cY pb).elim
  |obj _ _ _=>exact(c9 pb).elim
  |exc _ _ _=>exact(cZ pb).elim
 |.dct _ _,_,_,pa,_,_,_=>(cY pa).elim
 |.obj _ _ _,_,_,pa,_,_,_=>(c9 pa).elim
 |.exc _ _ _,_,_,pa,_,_,_=>(cZ pa).elim
theorem Inv.denL_inj(I:Inv X pins σ H s):∀{as bs:List D}{vs:aB},eB as=true->eB bs=true->aK X.K H as vs->aK X.K H bs vs->as=bs
 |[],bs,vs,pa,pb,h,h'=>by
  rw[bL]at h;subst h;cases bs with
  |nil=>rfl
  |cons b bs=>rw[aX]at h';obtain⟨_,_,e,_⟩:=h';cases e
 |a::as,bs,vs,pa,pb,h,h'=>by
  rw[aX]at h;obtain⟨v,r,e,h1,h2⟩:=h;subst e;cases bs with
  |nil=>rw[bL]at h';cases h'
  |cons b bs=>
   rw[aX]at h';obtain⟨v',r',e,h1',h2'⟩:=h';cases e;unfold eB at pa pb;rw[HI]at pa pb;rw[Inv.den_inj I pa.1 pb.1 h1 h1',Inv.denL_inj I pa.2 pb.2 h2 h2']
end
noncomputable def gS:D->Option V
 |.non=>some .non
 |.bl b=>some (.bl b)
 |.int i=>some (.int i)
 |.str x=>some (.str x)
 |_=>none
theorem je{K:Jv}{d:D}{v x:V}(h:gS d=some x)(hd:bM K H d v):v=x/\wV x=true:=by
 cases d with
 |non=>cases h;exact⟨fm.mp hd,rfl⟩
 |bl b=>cases h;exact⟨eT.mp hd,rfl⟩
 |int i=>cases h;exact⟨dD.mp hd,rfl⟩
 |str y=>cases h;exact⟨dh.mp hd,rfl⟩
 |_=>cases h
theorem yQ{a b:D}{x y:V}(ha:gS a=some x)(hb:gS b=some y):Fj x y=pyEq a b:=by
 cases a<;>cases ha<;>cases b<;>cases hb<;>(unfold pyEq Fj;rfl)
theorem o6{a:D}{x:V}(n:Nat)(h:gS a=some x):cn n a=true:=by
 cases a with
 |tup _=>cases h
 |lst _=>cases h
 |dct _ _=>cases h
 |obj _ _ _=>cases h
 |exc _ _ _=>cases h
 |_=>cases n<;>rfl
theorem oO{a:D}(h:gS a=none):cn 0 a=false:=by
 cases a with
 |tup _=>rfl
 |lst _=>rfl
 |dct _ _=>rfl
 |obj _ _ _=>rfl
 |exc _ _ _=>rfl
 |_=>cases h
theorem in1_units(A:KJ):A.in1.units=A.units+1:=rfl
theorem gJ{vs:aB}{us:aL}(r:Vals vs us){j:Nat}(h:j<us.toArray.size):∃x,vs[j]?=some x/\RelV x us.toArray[j]:=by
 have hj:j<us.length:=by simpa using h
 have hl:=r.length;have hv:j<vs.length:=by omega
 obtain⟨u,e,ru⟩:=r.get (i:=j) (x:=vs[j]) (by simp[hv]);refine⟨vs[j],by simp[hv],?_⟩;have e2:us.toArray[j]=u:=by
  rw[Ia hj]at e
  simpa using Option.some.inj e
 rw[e2];exact ru
theorem gA{K:Jv}{ds:List D}{vs:aB}(h:aK K H ds vs){j:Nat}{x:V}(e:vs[j]?=some x):∃d,ds[j]?=some d/\bM K H d x:=by
 have hj:j<vs.length:=(List.getElem?_eq_some_iff.mp e).1;have hl:=h.length;have hd:j<ds.length:=by omega
 obtain⟨v,e1,e2⟩:=h.get (i:=j) (d:=ds[j]) (by simp[hd]);rw[e]at e1;cases e1;exact⟨ds[j],by simp[hd],e2⟩
theorem qd(I:Inv X pins σ H s):∀(n:Nat)(a b:D)(x y:V)(u v:Kt)(A:KJ),pl a=true->pl b=true->(cn n a=true\/cn n b=true)->bM X.K H a x->bM X.K H b y->RelV x u->RelV y v->A.units+n<Lj->EqAt A s u v (pyEq a b):=by
 intro n
 induction n with
 |zero=>
  intro a b x y u v A pa pb hd ha hb ru rv hA;have hu:A.units<Lj:=hA;cases ha':gS a with
  |some x'=>
   obtain⟨e,f⟩:=je ha' ha;subst e;cases hb':gS b with
   |some y'=>
    obtain⟨e,f'⟩:=je hb' hb;subst e;rw[<-yQ ha' hb'];exact A7 ru rv f f'
   |none=>
    cases b with
    |tup ys=>
     rw[bp]at hb;obtain⟨p,vs,e,h1,h2⟩:=hb;subst e;cases rv;obtain⟨its,_,ht,_⟩:=I.tuple (jn.of h1);have ht':s.heap.IsTuple p its.toArray:=ht;cases a with
     |non=>cases ha';cases ru;unfold pyEq;exact .none_tuple ht' hu
     |bl z=>cases ha';cases ru;unfold pyEq;exact .bool_tuple z ht' hu
     |int z=>cases ha';obtain⟨t,rfl⟩:=ru;unfold pyEq;exact .int_tuple z t ht' hu
     |str z=>cases ha';obtain⟨t,rfl⟩:=ru;unfold pyEq;exact .str_tuple z t ht' hu
     |_=>cases ha'
    |lst ys=>
     rw[bo]at hb;obtain⟨p,vs,e,h1,h2⟩:=hb;subst e;cases rv;obtain⟨its,_,ht,_⟩:=I.list h1;have ht':s.heap.IsList p its.toArray:=ht.isList;cases a with
     |non=>cases ha';cases ru;unfold pyEq;exact .none_list ht' hu
     |bl z=>cases ha';cases ru;unfold pyEq;exact .bool_list z ht' hu
     |int z=>cases ha';obtain⟨t,rfl⟩:=ru;unfold pyEq;exact .int_list z t ht' hu
     |str z=>cases ha';obtain⟨t,rfl⟩:=ru;unfold pyEq;exact .str_list z t ht' hu
     |_=>cases ha'
    |dct _ _=>exact(cY pb).elim
    |obj _ _ _=>exact(c9 pb).elim
    |exc _ _ _=>exact(cZ pb).elim
    |_=>cases hb'
  |none=>
   have hdb:cn 0 b=true:=by
    rcases hd with hd|hd
    ·rw[oO ha']at hd;cases hd
    ·exact hd
   cases hb':gS b with
   |none=>rw[oO hb']at hdb;cases hdb
   |some y'=>
    obtain⟨e,f'⟩:=je hb' hb;subst e;cases a with
    |tup xs=>
     rw[bp]at ha;obtain⟨p,vs,e,h1,h2⟩:=ha;subst e;cases ru;obtain⟨its,_,ht,_⟩:=I.tuple (jn.of h1);have ht':s.heap.IsTuple p its.toArray:=ht;cases b with
     |non=>cases hb';cases rv;unfold pyEq;exact .tuple_none ht' hu
     |bl z=>cases hb';cases rv;unfold pyEq;exact .tuple_bool z ht' hu
     |int z=>cases hb';obtain⟨t,rfl⟩:=rv;unfold pyEq;exact .tuple_int z t ht' hu
     |str z=>cases hb';obtain⟨t,rfl⟩:=rv;unfold pyEq;exact .tuple_str z t ht' hu
     |_=>cases hb'
    |lst xs=>
     rw[bo]at ha;obtain⟨p,vs,e,h1,h2⟩:=ha;subst e;cases ru;obtain⟨its,_,ht,_⟩:=I.list h1;have ht':s.heap.IsList p its.toArray:=ht.isList;cases b with
     |non=>cases hb';cases rv;unfold pyEq;exact .list_none ht' hu
     |bl z=>cases hb';cases rv;unfold pyEq;exact .list_bool z ht' hu
     |int z=>cases hb';obtain⟨t,rfl⟩:=rv;unfold pyEq;exact .list_int z t ht' hu
     |str z=>cases hb';obtain⟨t,rfl⟩:=rv;unfold pyEq;exact .list_str z t ht' hu
     |_=>cases hb'
    |dct _ _=>exact(cY pa).elim
    |obj _ _ _=>exact(c9 pa).elim
    |exc _ _ _=>exact(cZ pa).elim
    |_=>cases ha'
 |succ n ih=>
  intro a b x y u v A pa pb hd ha hb ru rv hA;have hu:A.units<Lj:=by omega
  have flatWay:(∀xs ys,¬(a=.tup xs/\b=.tup ys))->(∀xs ys,¬(a=.lst xs/\b=.lst ys))->EqAt A s u v (pyEq a b):=by
   intro n1 n2;cases ha':gS a with
   |some x'=>exact ih a b x y u v A pa pb (.inl (o6 n ha')) ha hb ru rv ‹0›
   |none=>
    cases hb':gS b with
    |some y'=>exact ih a b x y u v A pa pb (.inr (o6 n hb')) ha hb ru rv ‹0›
    |none=>
     cases a with
     |tup xs=>
      cases b with
      |tup ys=>exact absurd ⟨rfl,rfl⟩ (n1 xs ys)
      |lst ys=>
       rw[bp]at ha;obtain⟨p,vs,e,h1,h2⟩:=ha;subst e;rw[bo]at hb;obtain⟨p',vs',e,h1',h2'⟩:=hb;subst e;cases ru;cases rv;obtain⟨its,_,ht,_⟩:=I.tuple (jn.of h1);obtain⟨its2,_,ht2,_⟩:=I.list h1';unfold pyEq;exact .tuple_list (show s.heap.IsTuple p its.toArray from ht) ht2.isList hu
      |dct _ _=>exact(cY pb).elim
      |obj _ _ _=>exact(c9 pb).elim
      |exc _ _ _=>exact(cZ pb).elim
      |_=>cases hb'
     |lst xs=>
      cases b with
      |lst ys=>exact absurd ⟨rfl,rfl⟩ (n2 xs ys)
      |tup ys=>
       rw[bo]at ha;obtain⟨p,vs,e,h1,h2⟩:=ha;subst e;rw[bp]at hb;obtain⟨p',vs',e,h1',h2'⟩:=hb;subst e;cases ru;cases rv;obtain⟨its,_,ht,_⟩:=I.list h1;obtain⟨its2,_,ht2,_⟩:=I.tuple (jn.of h1');unfold pyEq;exact .list_tuple ht.isList (show s.heap.IsTuple p' its2.toArray from ht2) hu
      |dct _ _=>exact(cY pb).elim
      |obj _ _ _=>exact(c9 pb).elim
      |exc _ _ _=>exact(cZ pb).elim
      |_=>cases hb'
     |dct _ _=>exact(cY pa).elim
     |obj _ _ _=>exact(c9 pa).elim
     |exc _ _ _=>exact(cZ pa).elim
     |_=>cases ha'
  have items:∀(xs ys:List D)(vs vs':aB)(its its':aL),eB xs=true->eB ys=true->(cn (n+1) (.tup xs)=true\/cn (n+1) (.tup ys)=true)->aK X.K H xs vs->aK X.K H ys vs'->Vals vs its->Vals vs' its'->
    ∀j (h1:j<its.toArray.size) (h2:j<its'.toArray.size),EqAt A.in1 s its.toArray[j] its'.toArray[j] (qE xs ys j):=by
   intro xs ys vs vs' its its' px py hdd hx hy rx ry j h1 h2;obtain⟨w1,e1,r1⟩:=gJ rx h1;obtain⟨w2,e2,r2⟩:=gJ ry h2;obtain⟨d1,f1,g1⟩:=gA hx e1;obtain⟨d2,f2,g2⟩:=gA hy e2;have e3:qE xs ys j=pyEq d1 d2:=(by unfold qE;rw[f1,f2]);rw[e3];refine ih d1 d2 w1 w2 _ _ A.in1 (dQ px _ (HE f1)) (dQ py _ (HE f2)) ?_ g1 g2 r1 r2 (by rw[in1_units];omega);rcases hdd with hdd|hdd
   ·exact .inl (List.all_eq_true.mp hdd d1 (HE f1))
   ·exact .inr (List.all_eq_true.mp hdd d2 (HE f2))
  by_cases hT:∃xs ys,a=.tup xs/\b=.tup ys
  ·obtain⟨xs,ys,rfl,rfl⟩:=hT;have da:=ha;have db:=hb;rw[bp]at ha hb;obtain⟨p,vs,e,h1,h2⟩:=ha;subst e;obtain⟨p',vs',e,h1',h2'⟩:=hb;subst e;cases ru;cases rv;by_cases hp:p=p'
   ·subst hp;have e:=Inv.den_inj I pa pb da db;rw[e,jl];exact EqAt.same _
   ·obtain⟨its,rv1,ht,_⟩:=I.tuple (jn.of h1);obtain⟨its2,rv2,ht2,_⟩:=I.tuple (jn.of h1');refine EqAt.of_refs hp ?_;have q:=RcAt.tuples (e:=qE xs ys) (show s.heap.IsTuple p its.toArray from ht) (show s.heap.IsTuple p' its2.toArray from ht2) hu (items xs ys vs vs' its its2 (by first|rw[<-b7];exact pa|rw[<-cE];exact pa) (by first|rw[<-b7];exact pb|rw[<-cE];exact pb) hd h2 h2' rv1 rv2);have z1:its.toArray.size=xs.length:=(by rw[Hl,<-rv1.length,<-h2.length]);have z2:its2.toArray.size=ys.length:=(by rw[Hl,<-rv2.length,<-h2'.length]);rw[z1,z2,c7]at q;unfold pyEq;exact q
  ·by_cases hL:∃xs ys,a=.lst xs/\b=.lst ys
   ·obtain⟨xs,ys,rfl,rfl⟩:=hL;have da:=ha;have db:=hb;rw[bo]at ha hb;obtain⟨p,vs,e,h1,h2⟩:=ha;subst e;obtain⟨p',vs',e,h1',h2'⟩:=hb;subst e;cases ru;cases rv;by_cases hp:p=p'
    ·subst hp;have e:=Inv.den_inj I pa pb da db;rw[e,jl];exact EqAt.same _
    ·obtain⟨its,rv1,ht,_⟩:=I.list h1;obtain⟨its2,rv2,ht2,_⟩:=I.list h1';refine EqAt.of_refs hp ?_;have z1:its.toArray.size=xs.length:=(by rw[Hl,<-rv1.length,<-h2.length]);have z2:its2.toArray.size=ys.length:=(by rw[Hl,<-rv2.length,<-h2'.length]);have er:=c7 xs ys;by_cases hz:its.toArray.size=its2.toArray.size
     ·have q:=RcAt.lists (e:=qE xs ys) ht.isList ht2.isList hz hu (items xs ys vs vs' its its2 (by first|rw[<-b7];exact pa|rw[<-cE];exact pa) (by first|rw[<-b7];exact pb|rw[<-cE];exact pb) hd h2 h2' rv1 rv2);rw[z1]at q;have hz':xs.length=ys.length:=(by omega);rw[<-hz',Ib]at er;simp only[beq_self_eq_true,Ic]at er;rw[er]at q;unfold pyEq;exact q
     ·have hne:(its.toArray.size !=its2.toArray.size)=true:=(by simpa using hz);have q:=RcAt.lists_lengths (A:=A) ht.isList ht2.isList hne hu;have hz':(xs.length==ys.length)=false:=by
       rw[z1,z2]at hz
       simpa using hz
      rw[hz',Ie]at er;unfold pyEq;rw[<-er];exact q
   ·exact flatWay (λxs ys z=>hT ⟨xs,ys,z⟩) λxs ys z=>hL ⟨xs,ys,z⟩
end
end TG
namespace TG
open PySem PySem.Spec L2
variable[ax]
open PySem.SeqAt (EqAt RcAt RcNeAt)
section
variable{X:Cx}{pins:aR}{σ:St}{H:Hp}{s:Ky}
theorem j8(I:Inv X pins σ H s){n:Nat}{xs ys:List D}{vs vs':aB}{its its':aL}{A:KJ}(px:eB xs=true)(py:eB ys=true)(hdd:cn (n+1) (.tup xs)=true\/cn (n+1) (.tup ys)=true)(hx:aK X.K H xs vs)(hy:aK X.K H ys vs')(rx:Vals vs its)(ry:Vals vs' its')(hA:A.units+n<Lj):
  ∀j (h1:j<its.toArray.size) (h2:j<its'.toArray.size),EqAt A s its.toArray[j] its'.toArray[j] (qE xs ys j):=by
 intro j h1 h2;obtain⟨w1,e1,r1⟩:=gJ rx h1;obtain⟨w2,e2,r2⟩:=gJ ry h2;obtain⟨d1,f1,g1⟩:=gA hx e1;obtain⟨d2,f2,g2⟩:=gA hy e2;have e3:qE xs ys j=pyEq d1 d2:=by unfold qE;rw[f1,f2]
 rw[e3];refine qd I n d1 d2 w1 w2 _ _ A (dQ px _ (HE f1)) (dQ py _ (HE f2)) ?_ g1 g2 r1 r2 hA;rcases hdd with hdd|hdd
 ·exact .inl (List.all_eq_true.mp hdd d1 (HE f1))
 ·exact .inr (List.all_eq_true.mp hdd d2 (HE f2))
inductive Way(I:Inv X pins σ H s):D->Kt->Prop where
 |non:Way I .non .none
 |bl (b:Bool):Way I (.bl b) (.bool b)
 |int (i:Int) (t:Tok):Way I (.int i) (.int i t)
 |str (x:Str) (t:Tok):Way I (.str x) (.str x t)
 |tup {xs:List D} {p:Kv} {vs:aB} {its:aL} (h:aK X.K H xs vs) (r:Vals vs its) (t:s.heap.IsTuple p its.toArray):Way I (.tup xs) (.ref p)
 |lst {xs:List D} {p:Kv} {vs:aB} {its:aL} (h:aK X.K H xs vs) (r:Vals vs its) (t:s.heap.IsList p its.toArray):Way I (.lst xs) (.ref p)
noncomputable def top:D->Bool
 |.dct _ _=>false
 |.obj _ _ _=>false
 |.exc _ _ _=>false
 |_=>true
theorem cR{d:D}(h:pl d=true):top d=true:=by
 cases d with
 |dct _ _=>exact(cY h).elim
 |obj _ _ _=>exact(c9 h).elim
 |exc _ _ _=>exact(cZ h).elim
 |_=>rfl
theorem cH(I:Inv X pins σ H s){d:D}{v:V}{u:Kt}(pd:top d=true)(h:bM X.K H d v)(r:RelV v u):Way I d u:=by
 cases d with
 |non=>rw[fm]at h;subst h;cases r;exact .non
 |bl b=>rw[eT]at h;subst h;cases r;exact .bl b
 |int i=>rw[dD]at h;subst h;obtain⟨t,rfl⟩:=r;exact .int i t
 |str x=>rw[dh]at h;subst h;obtain⟨t,rfl⟩:=r;exact .str x t
 |tup xs=>
  rw[bp]at h;obtain⟨p,vs,e,h1,h2⟩:=h;subst e;cases r;obtain⟨its,rv,ht,_⟩:=I.tuple (jn.of h1);exact .tup h2 rv ht
 |lst xs=>
  rw[bo]at h;obtain⟨p,vs,e,h1,h2⟩:=h;subst e;cases r;obtain⟨its,rv,ht,_⟩:=I.list h1;exact .lst h2 rv ht.isList
 |dct _ _=>cases pd
 |obj _ _ _=>cases pd
 |exc _ _ _=>cases pd
theorem Ay(I:Inv X pins σ H s){n:Nat}{a b:D}{x y:V}{u v:Kt}{A:KJ}(pa:pl a=true)(pb:pl b=true)(hd:cn (n+1) a=true\/cn (n+1) b=true)(ha:bM X.K H a x)(hb:bM X.K H b y)(ru:RelV x u)(rv:RelV y v)(hA:A.units+n+1<Lj):RcAt A s u v (pyEq a b):=by
 have hu:A.units<Lj:=by omega
 cases cH I (cR pa) ha ru with
 |non=>cases cH I (cR pb) hb rv with
  |non=>unfold pyEq;exact .none_none
  |bl b=>unfold pyEq;exact .none_bool b
  |int i t=>unfold pyEq;exact .none_int i t
  |str x t=>unfold pyEq;exact .none_str x t
  |tup h r t=>unfold pyEq;exact .none_tuple t hu
  |lst h r t=>unfold pyEq;exact .none_list t hu
 |bl z=>cases cH I (cR pb) hb rv with
  |non=>unfold pyEq;exact .bool_none z
  |bl b=>unfold pyEq;exact .bool_bool z b
  |int i t=>unfold pyEq;exact .bool_int z i t
  |str x t=>unfold pyEq;exact .bool_str z x t
  |tup h r t=>unfold pyEq;exact .bool_tuple z t hu
  |lst h r t=>unfold pyEq;exact .bool_list z t hu
 |int z tz=>cases cH I (cR pb) hb rv with
  |non=>unfold pyEq;exact .int_none z tz
  |bl b=>unfold pyEq;exact .int_bool z tz b
  |int i t=>unfold pyEq;exact .int_int z tz i t
  |str x t=>unfold pyEq;exact .int_str z tz x t
  |tup h r t=>unfold pyEq;exact .int_tuple z tz t hu
  |lst h r t=>unfold pyEq;exact .int_list z tz t hu
 |str z tz=>cases cH I (cR pb) hb rv with
  |non=>unfold pyEq;exact .str_none z tz
  |bl b=>unfold pyEq;exact .str_bool z tz b
  |int i t=>unfold pyEq;exact .str_int z tz i t
  |str x t=>unfold pyEq;exact .str_str z tz x t
  |tup h r t=>unfold pyEq;exact .str_tuple z tz t hu
  |lst h r t=>unfold pyEq;exact .str_list z tz t hu
 |@tup xs p vs its h1 r1 t1=>cases cH I (cR pb) hb rv with
  |non=>unfold pyEq;exact .tuple_none t1 hu
  |bl b=>unfold pyEq;exact .tuple_bool b t1 hu
  |int i t=>unfold pyEq;exact .tuple_int i t t1 hu
  |str x t=>unfold pyEq;exact .tuple_str x t t1 hu
  |@tup ys p' vs' its' h2 r2 t2=>
   have q:=RcAt.tuples (e:=qE xs ys) t1 t2 hu (j8 (A:=A.in1) I (by first|rw[<-b7];exact pa|rw[<-cE];exact pa) (by first|rw[<-b7];exact pb|rw[<-cE];exact pb) hd h1 h2 r1 r2 (by rw[in1_units];omega));have z1:its.toArray.size=xs.length:=(by rw[Hl,<-r1.length,<-h1.length]);have z2:its'.toArray.size=ys.length:=(by rw[Hl,<-r2.length,<-h2.length]);rw[z1,z2,c7]at q;unfold pyEq;exact q
  |lst h r t=>unfold pyEq;exact .tuple_list t1 t hu
 |@lst xs p vs its h1 r1 t1=>cases cH I (cR pb) hb rv with
  |non=>unfold pyEq;exact .list_none t1 hu
  |bl b=>unfold pyEq;exact .list_bool b t1 hu
  |int i t=>unfold pyEq;exact .list_int i t t1 hu
  |str x t=>unfold pyEq;exact .list_str x t t1 hu
  |tup h r t=>unfold pyEq;exact .list_tuple t1 t hu
  |@lst ys p' vs' its' h2 r2 t2=>
   have z1:its.toArray.size=xs.length:=(by rw[Hl,<-r1.length,<-h1.length]);have z2:its'.toArray.size=ys.length:=(by rw[Hl,<-r2.length,<-h2.length]);have er:=c7 xs ys;by_cases hz:its.toArray.size=its'.toArray.size
   ·have q:=RcAt.lists (e:=qE xs ys) t1 t2 hz hu (j8 (A:=A.in1) I (by first|rw[<-b7];exact pa|rw[<-cE];exact pa) (by first|rw[<-b7];exact pb|rw[<-cE];exact pb) hd h1 h2 r1 r2 (by rw[in1_units];omega));rw[z1]at q;have hz':xs.length=ys.length:=(by omega);rw[<-hz',Ib]at er;simp only[beq_self_eq_true,Ic]at er;rw[er]at q;unfold pyEq;exact q
   ·have q:=RcAt.lists_lengths (A:=A) t1 t2 (by simpa using hz) hu;have hz':(xs.length==ys.length)=false:=by
     rw[z1,z2]at hz
     simpa using hz
    rw[hz',Ie]at er;unfold pyEq;rw[<-er];exact q
theorem xf(I:Inv X pins σ H s){n:Nat}{a b:D}{x y:V}{u v:Kt}{A:KJ}(pa:pl a=true)(pb:pl b=true)(hd:cn (n+1) a=true\/cn (n+1) b=true)(ha:bM X.K H a x)(hb:bM X.K H b y)(ru:RelV x u)(rv:RelV y v)(hA:A.units+n+1<Lj):RcNeAt A s u v (!pyEq a b):=by
 have hu:A.units<Lj:=by omega
 cases cH I (cR pa) ha ru with
 |non=>cases cH I (cR pb) hb rv with
  |non=>unfold pyEq;exact .none_none
  |bl b=>unfold pyEq;exact .none_bool b
  |int i t=>unfold pyEq;exact .none_int i t
  |str x t=>unfold pyEq;exact .none_str x t
  |tup h r t=>unfold pyEq;exact .none_tuple t hu
  |lst h r t=>unfold pyEq;exact .none_list t hu
 |bl z=>cases cH I (cR pb) hb rv with
  |non=>unfold pyEq;exact .bool_none z
  |bl b=>unfold pyEq;exact .bool_bool z b
  |int i t=>unfold pyEq;exact .bool_int z i t
  |str x t=>unfold pyEq;exact .bool_str z x t
  |tup h r t=>unfold pyEq;exact .bool_tuple z t hu
  |lst h r t=>unfold pyEq;exact .bool_list z t hu
 |int z tz=>cases cH I (cR pb) hb rv with
  |non=>unfold pyEq;exact .int_none z tz
  |bl b=>unfold pyEq;exact .int_bool z tz b
  |int i t=>unfold pyEq;exact .int_int z tz i t
  |str x t=>unfold pyEq;exact .int_str z tz x t
  |tup h r t=>unfold pyEq;exact .int_tuple z tz t hu
  |lst h r t=>unfold pyEq;exact .int_list z tz t hu
 |str z tz=>cases cH I (cR pb) hb rv with
  |non=>unfold pyEq;exact .str_none z tz
  |bl b=>unfold pyEq;exact .str_bool z tz b
  |int i t=>unfold pyEq;exact .str_int z tz i t
  |str x t=>unfold pyEq;exact .str_str z tz x t
  |tup h r t=>unfold pyEq;exact .str_tuple z tz t hu
  |lst h r t=>unfold pyEq;exact .str_list z tz t hu
 |@tup xs p vs its h1 r1 t1=>cases cH I (cR pb) hb rv with
  |non=>unfold pyEq;exact .tuple_none t1 hu
  |bl b=>unfold pyEq;exact .tuple_bool b t1 hu
  |int i t=>unfold pyEq;exact .tuple_int i t t1 hu
  |str x t=>unfold pyEq;exact .tuple_str x t t1 hu
  |@tup ys p' vs' its' h2 r2 t2=>
   have q:=RcNeAt.tuples (e:=qE xs ys) t1 t2 hu (j8 (A:=A.in1) I (by first|rw[<-b7];exact pa|rw[<-cE];exact pa) (by first|rw[<-b7];exact pb|rw[<-cE];exact pb) hd h1 h2 r1 r2 (by rw[in1_units];omega));have z1:its.toArray.size=xs.length:=(by rw[Hl,<-r1.length,<-h1.length]);have z2:its'.toArray.size=ys.length:=(by rw[Hl,<-r2.length,<-h2.length]);rw[z1,z2,c7]at q;unfold pyEq;exact q
  |lst h r t=>unfold pyEq;exact .tuple_list t1 t hu
 |@lst xs p vs its h1 r1 t1=>cases cH I (cR pb) hb rv with
  |non=>unfold pyEq;exact .list_none t1 hu
  |bl b=>unfold pyEq;exact .list_bool b t1 hu
  |int i t=>unfold pyEq;exact .list_int i t t1 hu
  |str x t=>unfold pyEq;exact .list_str x t t1 hu
  |tup h r t=>unfold pyEq;exact .list_tuple t1 t hu
  |@lst ys p' vs' its' h2 r2 t2=>
   have z1:its.toArray.size=xs.length:=(by rw[Hl,<-r1.length,<-h1.length]);have z2:its'.toArray.size=ys.length:=(by rw[Hl,<-r2.length,<-h2.length]);have er:=c7 xs ys;by_cases hz:its.toArray.size=its'.toArray.size
   ·have q:=RcNeAt.lists (e:=qE xs ys) t1 t2 hz hu (j8 (A:=A.in1) I (by first|rw[<-b7];exact pa|rw[<-cE];exact pa) (by first|rw[<-b7];exact pb|rw[<-cE];exact pb) hd h1 h2 r1 r2 (by rw[in1_units];omega));rw[z1]at q;have hz':xs.length=ys.length:=(by omega);rw[<-hz',Ib]at er;simp only[beq_self_eq_true,Ic]at er;rw[er]at q;unfold pyEq;exact q
   ·have q:=RcNeAt.lists_lengths (A:=A) t1 t2 (by simpa using hz) hu;have hz':(xs.length==ys.length)=false:=by
     rw[z1,z2]at hz
     simpa using hz
    rw[hz',Ie]at er;unfold pyEq;rw[<-er];exact q
end
section
variable{X:Cx}
noncomputable def rD(K:Jv)(g:D->D->aZ):R2:=λx y H Q=>∃O a b d,cB H O/\bM K (hid H O) a x/\bM K (hid H O) b y/\g a b=some d/\∀v H',aQ H H'->bM K (hid H' O) d v->Q v H'
theorem bQ{K:Jv}{g:D->D->aZ}:ca K (rD K g) g:=λa b d x y O H Q hO hg ha hb q=>⟨O,a,b,d,hO,ha,hb,hg,q⟩
theorem iT{f : Kt -> Kt -> Sem Kt}{g : D -> D -> aZ}(h : ∀ (pins : aR) (s : Ky) (σ : St) (H : Hp) (a b d : D) (x y : V) (u v : Kt), Inv X pins σ H s -> bM X.K H a x -> bM X.K H b y -> RelV x u -> RelV y v -> g a b = some d ->
      ∃c,d=.bl c/\∀(Q:bj),Q (.bool c) s->KO (model X.prog X.w) X.A (f u v) Q X.xe s):eU X f (rD X.K g):=by
  rintro pins s σ H x y u v Q I rx ry ⟨O,a,b,d,hO,ha,hb,hg,q⟩;obtain⟨c,rfl,hq⟩:=h pins s σ H a b d x y u v I (ha.mono (az H O)) (hb.mono (az H O)) rx ry hg;exact hq _ ⟨.bl c,H,I,rfl,q _ H (aQ.refl H) (eT.mpr rfl)⟩
noncomputable def et(a b:D):aZ:=if(pl a&&pl b)&&(cn 8 a||cn 8 b)then some (.bl (pyEq a b))else none
noncomputable def j0(a b:D):aZ:=if(pl a&&pl b)&&(cn 8 a||cn 8 b)then some (.bl (!pyEq a b))else none
theorem uQ(hu:X.A.units+64<Lj):eU X (KS .Eq) (rD X.K et):=iT λpins s σ H a b d x y u v I ha hb ru rv hg=>by
 obtain⟨h1,h2⟩:=a8 hg;subst h2;rw[HI,HI,Ig]at h1;exact⟨_,rfl,λQ q=>Ay (n:=7) (A:=X.A) I h1.1.1 h1.1.2 h1.2 ha hb ru rv ‹0› X.prog X.w X.xe Q q⟩
theorem vd(hu:X.A.units+64<Lj):eU X (KS .NotEq) (rD X.K j0):=iT λpins s σ H a b d x y u v I ha hb ru rv hg=>by
 obtain⟨h1,h2⟩:=a8 hg;subst h2;rw[HI,HI,Ig]at h1;exact⟨_,rfl,λQ q=>xf (n:=7) (A:=X.A) I h1.1.1 h1.1.2 h1.2 ha hb ru rv ‹0› X.prog X.w X.xe Q q⟩
noncomputable def inD(x:D)(ys:List D):Bool:=ys.any λy=>pyEq y x
noncomputable def xr(x y:D):aZ:=match y with
 |.tup ys=>if(pl x&&eB ys)&&cn 8 x then some (.bl (inD x ys))else none
 |.lst ys=>if(pl x&&eB ys)&&cn 8 x then some (.bl (inD x ys))else none
 |_=>none
noncomputable def dY(x y:D):aZ:=match y with
 |.tup ys=>if(pl x&&eB ys)&&cn 8 x then some (.bl (!inD x ys))else none
 |.lst ys=>if(pl x&&eB ys)&&cn 8 x then some (.bl (!inD x ys))else none
 |_=>none
open Classical in
theorem rN{pins:aR}{σ:St}{H:Hp}{s:Ky}(I:Inv X pins σ H s){xd:D}{x:V}{u:Kt}{A:KJ}(px:pl xd=true)(hd:cn 8 xd=true)(hx:bM X.K H xd x)(ru:RelV x u)(hA:A.units+8<Lj){ys:List D}{vs:aB}{its:aL}(py:eB ys=true)(hy:aK X.K H ys vs)(rv:Vals vs its):
  ∃e:Kt->Bool,(∀y,y∈its.toArray->EqAt A s y u (e y))/\its.toArray.any e=inD xd ys:=by
 let e:Kt->Bool:=λy=>decide (∃d w,pl d=true/\bM X.K H d w/\RelV w y/\pyEq d xd=true)
 have he:∀d w y,pl d=true->bM X.K H d w->RelV w y->e y=pyEq d xd:=λd w y h0 h1 h2=>by
  cases hq:pyEq d xd with
  |true=>exact decide_eq_true ⟨d,w,h0,h1,h2,hq⟩
  |false=>
   refine decide_eq_false ?_;rintro⟨d',w',g0,g1,g2,g3⟩;have ew:=RelV.inj h2 g2;subst ew;rw[Inv.den_inj I h0 g0 h1 g1,g3]at hq;cases hq
 refine⟨e,λy hy'=>?_,?_⟩
 ·have hm:y∈its:=by simpa using hy'
  obtain⟨j,hj,rfl⟩:=Ih hm;obtain⟨w,e1,r1⟩:=gJ rv (j:=j) (by simpa using hj);obtain⟨d,f1,g1⟩:=gA hy e1;have r1':RelV w its[j]:=by simpa using r1
  have pd:=dQ py _ (HE f1);rw[he d w _ pd g1 r1'];exact qd I 8 d xd w x _ u A pd px (.inr hd) g1 hx r1' ru hA
 ·unfold inD;have go:∀(ys:List D)(vs:aB)(its:aL),eB ys=true->aK X.K H ys vs->Vals vs its->its.any e=ys.any λy=>pyEq y xd:=by
   intro ys
   induction ys with
   |nil=>
    intro vs its py h r;rw[bL]at h;subst h;cases r;rfl
   |cons y ys ih=>
    intro vs its py h r;unfold eB at py;rw[HI]at py;rw[aX]at h;obtain⟨v,r',e1,h1,h2⟩:=h;subst e1;cases r with
    |cons q1 q2=>rw[Ii,Ii,he y v _ py.1 h1 q1,ih _ _ py.2 h2 q2]
  rw[List.any_toArray];exact go ys vs its py hy rv
theorem uI(hu:X.A.units+64<Lj):eU X (KS .In) (rD X.K xr):=iT λpins s σ H a b d x y u v I ha hb ru rv hg=>by
 cases b with
 |tup ys=>
  obtain⟨h1,h2⟩:=a8 hg;subst h2;rw[HI,HI]at h1;rw[bp]at hb;obtain⟨p,vs,e,g1,g2⟩:=hb;subst e;cases rv;obtain⟨its,r,t,_⟩:=I.tuple (jn.of g1);obtain⟨e,he,ea⟩:=rN (A:=X.A.in1) I h1.1.1 h1.2 ha ru (by rw[in1_units];omega) h1.1.2 g2 r;exact⟨_,rfl,λQ q=>SeqAt.in_tupleAt e (show s.heap.IsTuple p its.toArray from t) he (by rw[ea];exact q)⟩
 |lst ys=>
  obtain⟨h1,h2⟩:=a8 hg;subst h2;rw[HI,HI]at h1;rw[bo]at hb;obtain⟨p,vs,e,g1,g2⟩:=hb;subst e;cases rv;obtain⟨its,r,t,_⟩:=I.list g1;obtain⟨e,he,ea⟩:=rN (A:=X.A.in1) I h1.1.1 h1.2 ha ru (by rw[in1_units];omega) h1.1.2 g2 r;exact⟨_,rfl,λQ q=>SeqAt.in_listAt e t.isList he (by rw[ea];exact q)⟩
 |_=>cases hg
theorem mx(hu:X.A.units+64<Lj):eU X (KS .NotIn) (rD X.K dY):=iT λpins s σ H a b d x y u v I ha hb ru rv hg=>by
 cases b with
 |tup ys=>
  obtain⟨h1,h2⟩:=a8 hg;subst h2;rw[HI,HI]at h1;rw[bp]at hb;obtain⟨p,vs,e,g1,g2⟩:=hb;subst e;cases rv;obtain⟨its,r,t,_⟩:=I.tuple (jn.of g1);obtain⟨e,he,ea⟩:=rN (A:=X.A.in1) I h1.1.1 h1.2 ha ru (by rw[in1_units];omega) h1.1.2 g2 r;exact⟨_,rfl,λQ q=>SeqAt.notIn_tupleAt e (show s.heap.IsTuple p its.toArray from t) he (by rw[ea];exact q)⟩
 |lst ys=>
  obtain⟨h1,h2⟩:=a8 hg;subst h2;rw[HI,HI]at h1;rw[bo]at hb;obtain⟨p,vs,e,g1,g2⟩:=hb;subst e;cases rv;obtain⟨its,r,t,_⟩:=I.list g1;obtain⟨e,he,ea⟩:=rN (A:=X.A.in1) I h1.1.1 h1.2 ha ru (by rw[in1_units];omega) h1.1.2 g2 r;exact⟨_,rfl,λQ q=>SeqAt.notIn_listAt e t.isList he (by rw[ea];exact q)⟩
 |_=>cases hg
noncomputable def Bx(p:Int->Int->D)(a b:D):aZ:=match a,b with
 |.int i,.int j=>some (p i j)
 |_,_=>none
noncomputable def Gq:=Bx λi j=>.bl (decide (i<j))
noncomputable def ug:=Bx λi j=>.bl (decide (i<=j))
noncomputable def xu:=Bx λi j=>.bl (decide (j<i))
noncomputable def Bu:=Bx λi j=>.bl (decide (j<=i))
theorem cj{K:Jv}{g:Int->Int->Bool}:ca K (wg λi j=>.bl (g i j)) (Bx λi j=>.bl (g i j)):=λa b d x y O H Q hO hg ha hb q=>by
 cases a with
 |int i=>
  cases b with
  |int j=>cases hg;exact⟨i,j,dD.mp ha,dD.mp hb,q _ H (aQ.refl H) (eT.mpr rfl)⟩
  |_=>cases hg
 |_=>cases hg
theorem pX{K:Jv}{g:Int->Int->Int}:ca K (wg λi j=>.int (g i j)) (Bx λi j=>.int (g i j)):=λa b d x y O H Q hO hg ha hb q=>by
 cases a with
 |int i=>
  cases b with
  |int j=>cases hg;exact⟨i,j,dD.mp ha,dD.mp hb,q _ H (aQ.refl H) (dD.mpr rfl)⟩
  |_=>cases hg
 |_=>cases hg
noncomputable def Dr(c:Int->Int->Bool)(p:Int->Int->Int)(a b:D):aZ:=match a,b with
 |.int i,.int j=>if c i j then some (.int (p i j))else none
 |_,_=>none
theorem gF{K:Jv}{C:Int->Int->Prop}{c:Int->Int->Bool}{g:Int->Int->Int}(hc:∀i j,c i j=true->C i j):ca K (rI C λi j=>.int (g i j)) (Dr c g):=λa b d x y O H Q hO hg ha hb q=>by
 cases a with
 |int i=>
  cases b with
  |int j=>
   obtain⟨h1,h2⟩:=a8 hg;subst h2;exact⟨i,j,dD.mp ha,dD.mp hb,hc i j h1,q _ H (aQ.refl H) (dD.mpr rfl)⟩
  |_=>cases hg
 |_=>cases hg
noncomputable def cI:=Bx λi j=>.int (i-j)
noncomputable def fN:=Dr (λi j=>decide ((-(2^64)<i/\i<2^64)\/(-(2^64)<j/\j<2^64))) (·*·)
noncomputable def zZ(_ j:Int):Prop:=0<j/\j<10^200
theorem vo:eU X (K8 .FloorDiv) (rI zZ λi j=>.int (i/j)):=DQ λi j _ _ _ _ _ hc q=>by
 have h1:(0:Int)<j:=hc.1;have h2:j<10^200:=hc.2;refine PyProof.Rows.floordiv_int ‹0› (by rw[Int.fdiv_eq_ediv_of_nonneg i ‹0›];exact q) (.inl (PyProof.noPylong_of_log2 ?_));have h3:j.natAbs<10^200:=by omega
 rw[Nat.log2_lt ‹0›];exact Nat.lt_trans h3 (by decide +kernel)
noncomputable def bc:=Dr (λ_ j=>decide (0<j/\j<10^200)) (·/·)
noncomputable def aE:=Dr (λ_ j=>decide (0<j)) (·%·)
noncomputable def dG:=Dr (λi j=>decide (0<=j/\j<=1000000/\i.natAbs<2^64)) λi j=>i^j.toNat
theorem AX{K:Jv}:ca K (wg λi j=>.int (i-j)) cI:=pX
theorem Al{K:Jv}:ca K (rI By λi j=>.int (i*j)) fN:=gF λi j h=>by have q:=of_decide_eq_true h;exact q
theorem BQ{K:Jv}:ca K (rI zZ λi j=>.int (i/j)) bc:=gF λi j h=>by have q:=of_decide_eq_true h;exact q
theorem A2{K:Jv}:ca K (rI (λ_ j=>0<j) λi j=>.int (i%j)) aE:=gF λ_ _ h=>of_decide_eq_true h
theorem BP{K:Jv}:ca K (rI Dx λi j=>.int (i^j.toNat)) dG:=gF λi j h=>by have q:=of_decide_eq_true h;exact q
noncomputable def Ds(K:Jv):R2:=λx y H Q=>∃l b xs zs,x=.ref l/\y=.ref b/\gQ K H l xs/\gQ K H b zs/\xs.length+zs.length<=KG/\∀p,H p=none->Q (.ref p) (upd H p (.lst (xs++zs)))
theorem zu:eU X (K8 .Add) (Ds X.K):=by
 intro pins s σ H x y v u Q I rx ry h;obtain⟨l,b,xs,zs,rfl,rfl,hH,hB,hz,q⟩:=h;cases rx;cases ry;obtain⟨its,r,t1,_⟩:=I.list hH;obtain⟨its2,r2,t2,_⟩:=I.list hB;obtain⟨⟨c1,d1,dt1,sl1⟩,n1,ho,hc,hd,hdt⟩:=t1;obtain⟨⟨c2,d2,dt2,sl2⟩,n2,ho2,hc2,hd2,hdt2⟩:=t2;simp only at hc hd hdt hc2 hd2 hdt2;subst hc hd hdt hc2 hd2 hdt2;have z1:=r.length;have z2:=r2.length;refine Lv ⟨_,ho,rfl⟩ ⟨_,ho2,rfl⟩ noFill_list_add seq_list_add F.slot_list_add F.entry_list_add (F.args_list_add_2 _ _) (PyProof.Rows.list_addW l b its.toArray its2.toArray n1 n2 none none sl1 sl2 (by rw[Hl,Hl];omega)) ⟨ho,ho2,?_⟩;have ea:its.toArray++its2.toArray=(its++its2).toArray:=by simp
 rw[ea];exact⟨.ref _,_,I.lnew (t':=s.toks) (r.append r2) (by rw[HF];omega),rfl,q _ I.fresh⟩
noncomputable def Bf(K:Jv):R2:=λx y H Q=>∃a b xs ys,x=.ref a/\y=.ref b/\jn K H a xs/\jn K H b ys/\xs.length+ys.length<=KG/\
 (xs=[]->Q (.ref b) H)/\(xs≠[]->ys=[]->Q (.ref a) H)/\(xs≠[]->ys≠[]->∀p,H p=none->Q (.ref p) (upd H p (.tup (xs++ys))))
theorem vt:eU X (K8 .Add) (Bf X.K):=by
 intro pins s σ H x y v u Q I rx ry h;obtain⟨a,b,xs,ys,ex,ey,ha,hb,hz,q0,q1,q2⟩:=h;by_cases hx:xs=[]
 ·subst ex ey;cases rx;cases ry;obtain⟨its,r1,p1,_⟩:=I.tuple ha;obtain⟨its2,r2,p2,_⟩:=I.tuple hb;obtain⟨⟨cls,dd,data,sl⟩,ho,hc,n,hd⟩:=id p1;obtain⟨⟨cls2,dd2,data2,sl2⟩,ho2,hc2,n2,hd2⟩:=id p2;simp only at hc hd hc2 hd2;subst hc hd hc2 hd2;have e:its=[]:=r1.nil_iff.mpr hx;exact Lv ⟨_,ho,rfl⟩ ⟨_,ho2,rfl⟩ Lw Lx F.slot_tuple_add F.entry_tuple_add (F.args_tuple_add_2 _ _)
   (PyProof.Rows.tuple_addW0 a b its.toArray its2.toArray n n2 dd dd2 sl sl2 (by rw[e];rfl)) ⟨ho,ho2,⟨.ref b,H,I,rfl,q0 hx⟩⟩
 ·exact zp pins s σ H x y v u Q I rx ry ⟨a,b,xs,ys,ex,ey,ha,hb,hx,hz,q1 hx,q2 hx⟩
noncomputable def aI(a b:D):aZ:=match a,b with
 |.int i,.int j=>some (.int (i+j))
 |.str x,.str y=>if small (x.length+y.length)then some (.str (x++y))else none
 |.lst xs,.lst ys=>if small (xs.length+ys.length)then some (.lst (xs++ys))else none
 |.tup xs,.tup ys=>if small (xs.length+ys.length)then some (.tup (xs++ys))else none
 |_,_=>none
theorem xP:eU X (K8 .Add) (rD X.K aI):=by
 rintro pins s σ H x y u v Q I rx ry ⟨O,a,b,d,hO,ha,hb,hg,q⟩;cases a with
 |int i=>
  cases b with
  |int j=>
   cases hg;exact BF pins s σ H x y u v Q I rx ry ⟨i,j,dD.mp ha,dD.mp hb,q _ H (aQ.refl H) (dD.mpr rfl)⟩
  |_=>cases hg
 |str i=>
  cases b with
  |str j=>
   obtain⟨h1,h2⟩:=a8 hg;subst h2;exact qu pins s σ H x y u v Q I rx ry ⟨i,j,dh.mp ha,dh.mp hb,bU h1,q _ H (aQ.refl H) (dh.mpr rfl)⟩
  |_=>cases hg
 |lst xs=>
  cases b with
  |lst ys=>
   obtain⟨h1,h2⟩:=a8 hg;subst h2;rw[bo]at ha hb;obtain⟨p,vs,ex,g1,g2⟩:=ha;obtain⟨p',vs',ey,g1',g2'⟩:=hb;refine zu pins s σ H x y u v Q I rx ry ⟨p,p',vs,vs',ex,ey,(az H O).seq g1,(az H O).seq g1',?_,λr hr=>?_⟩
   ·rw[<-g2.length,<-g2'.length];exact bU h1
   ·exact q _ _ (bB hr _) (dm hO hr (g2.append g2'))
  |_=>cases hg
 |tup xs=>
  cases b with
  |tup ys=>
   obtain⟨h1,h2⟩:=a8 hg;subst h2;have da:=ha;have db:=hb;rw[bp]at ha hb;obtain⟨p,vs,ex,g1,g2⟩:=ha;obtain⟨p',vs',ey,g1',g2'⟩:=hb;have l1:=g2.length;have l2:=g2'.length;refine vt pins s σ H x y u v Q I rx ry ⟨p,p',vs,vs',ex,ey,bx (az H O) g1,bx (az H O) g1',?_,λz=>?_,λz z'=>?_,λz z' r hr=>?_⟩
   ·rw[<-l1,<-l2];exact bU h1
   ·have e:xs=[]:=List.length_eq_zero_iff.mp (by rw[l1,z];rfl);rw[<-ey];refine q _ H (aQ.refl H) ?_;rw[e,Ij];exact db
   ·have e:ys=[]:=List.length_eq_zero_iff.mp (by rw[l2,z'];rfl);rw[<-ex];refine q _ H (aQ.refl H) ?_;rw[e,Hu];exact da
   ·exact q _ _ (bB hr _) (cN hO hr (g2.append g2'))
  |_=>cases hg
 |_=>cases hg
noncomputable def ak(a b:D):aZ:=match a,b with
 |.tup xs,.int i=>jc xs i
 |.lst xs,.int i=>jc xs i
 |.str x,.int i=>if small x.length then(jc x.cps.toList i).bind λc=>some (.str ⟨#[c]⟩)else none
 |_,_=>none
theorem rV{K:Jv}{H:Hp}{ds:List D}{vs:aB}{i:Int}{d:D}(h:aK K H ds vs)(e:jc ds i=some d):∃v,jc vs i=some v/\bM K H d v:=by
 unfold jc at e ⊢;obtain⟨j,e1,e2⟩:=bind_some e;rw[<-h.length,e1];exact h.get e2
theorem F8:Cy X (rD X.K ak):=by
 rintro value slice pins s σ H x y u v Q I rx ry ⟨O,a,b,d,hO,ha,hb,hg,q⟩ hsub;cases a with
 |tup xs=>
  cases b with
  |int i=>
   rw[bp]at ha;obtain⟨p,vs,ex,g1,g2⟩:=ha;obtain⟨w,e1,e2⟩:=rV g2 hg;refine AD value slice pins s σ H x y u v Q I rx ry ?_ hsub;exact⟨p,vs,i,w,ex,dD.mp hb,bx (az H O) g1,e1,q w H (aQ.refl H) e2⟩
  |_=>cases hg
 |lst xs=>
  cases b with
  |int i=>
   rw[bo]at ha;obtain⟨p,vs,ex,g1,g2⟩:=ha;obtain⟨w,e1,e2⟩:=rV g2 hg;refine yx value slice pins s σ H x y u v Q I rx ry ?_ hsub;exact⟨p,vs,i,w,ex,dD.mp hb,(az H O).seq g1,e1,q w H (aQ.refl H) e2⟩
  |_=>cases hg
 |str z=>
  cases b with
  |int i=>
   have hg':(if small z.length then(jc z.cps.toList i).bind λc=>some (D.str ⟨#[c]⟩)else none)=some d:=hg;cases hs:small z.length with
   |false=>rw[hs]at hg';cases hg'
   |true=>
    rw[hs]at hg';obtain⟨c,e1,e2⟩:=bind_some hg';cases e2;refine AI value slice pins s σ H x y u v Q I rx ry ?_ hsub;exact⟨z,i,c,dh.mp ha,dD.mp hb,bU hs,e1,q _ H (aQ.refl H) (dh.mpr rfl)⟩
  |_=>cases hg
 |_=>cases hg
noncomputable def cutD{α:Type}(xs:List α)(lo hi:bY):List α:=(xs.drop (HT.sIx xs.length 0 lo)).take (HT.sIx xs.length xs.length hi-HT.sIx xs.length 0 lo)
theorem f7{α:Type}(xs:List α)(lo hi:bY):(cutD xs lo hi).length<=xs.length:=by
 unfold cutD;rw[Hx,HH];omega
theorem lr{M:KN}{A:KJ}{E:bj}{s:Ky}{t:Kv}{items:Array Kt}{Q:Bool->fF}(ht:Ki s.heap t items)(h:Q true s):KO M A (Builtin.Tuple.tupleIsExact (.ref t)) Q E s:=by
 unfold Builtin.Tuple.tupleIsExact;refine KZ (LD ht.typeIs ?_);exact K3 h
theorem gK{prog:KA}{w:Kz}{A:KJ}{E:bj}{s:Ky}{t sl:Kv}{items:Array Kt}{vl vu:Kt}{lo hi:bY}{Q:bj}(ht:Ki s.heap t items)(hs:s.heap.IsSliceOf sl vl vu .none)(pl:Ly vl lo)(pu:Ly vu hi)
  (hw:HT.sIx items.size 0 lo=0/\HT.sIx items.size items.size hi=items.size) (h:Q (.ref t) s):KO (model prog w) A (getItem (.ref t) (.ref sl)) Q E s:=by
 obtain⟨os,hos,hcs,hds⟩:=id hs;have hTs:s.TypeIs (.ref sl) "slice":=⟨os,hos,hcs⟩
 unfold getItem
 try with_reducible refine K1 ?_
 first|refine KZ (K3 ?_)|skip
 refine KZ (wpAny_sequenceKey ht.typeIs (by decide) ?_);refine KZ (LA (name:=Str.ofString "__getitem__") ht.typeIs Kg
  (LC Kg ht.typeIs PyProof.Rows.entry_tuple_getitem ?_ (PyProof.Rows.args_tuple_getitem _ _)))
 show KO _ _ (Builtin.Tuple.tupleItemsOf (.ref t) >>= _) _ _ s;refine KZ (PyProof.Rows.tupleItemsOf_ ht ?_);refine KZ (LD hTs ?_);rw[if_pos (by decide)];refine KZ (HT.jh hs pl pu ?_);have hyes:(((HT.sIx items.size 0 lo:Nat):Int)==0&&(1:Int)==1&&(HT.sIx items.size items.size hi-HT.sIx items.size 0 lo)==items.size)=true:=by
  rw[hw.1,hw.2];simp
 show KO _ _ (if(((HT.sIx items.size 0 lo:Nat):Int)==0&&(1:Int)==1&&(HT.sIx items.size items.size hi-HT.sIx items.size 0 lo)==items.size)=true then _ else _) _ _ s;rw[if_pos hyes];refine KZ (lr ht ?_);rw[if_pos rfl]
 first
  |exact KZ (LQ (K3 ⟨_,rfl,K3 h⟩))
  |exact KZ (LQ (KZ (K3 (K3 ⟨_,rfl,K3 h⟩))))
noncomputable def gb(a:D)(lo hi:bY):aZ:=match a with
 |.lst xs=>some (.lst (cutD xs lo hi))
 |.tup xs=>some (.tup (cutD xs lo hi))
 |.str x=>if small x.length then some (.str ⟨(cutD x.cps.toList lo hi).toArray⟩)else none
 |_=>none
theorem Ah(v:bY)(d n:Nat)(hd:d<=n):(match v with|none=>(d:Int)|some i=>if(1:Int)>0 then max 0 (min (if i<0 then i+(n:Int)else i) (n:Int))else max (-1) (min (if i<0 then i+(n:Int)else i) ((n:Int)-1)))=((HT.sIx n d v:Nat):Int):=by
 cases v with
 |none=>rfl
 |some i=>
  show(if(1:Int)>0 then max 0 (min (if i<0 then i+(n:Int)else i) (n:Int))else max (-1) (min (if i<0 then i+(n:Int)else i) ((n:Int)-1)))=(((if i<0 then(i+(n:Int)).toNat else min i.toNat n):Nat):Int)
  rw[if_pos (by decide)];by_cases h:i<0
  ·rw[if_pos h,if_pos h];omega
  ·rw[if_neg h,if_neg h];omega
theorem vV(lo hi:bY)(n:Nat):Builtin.Str.strSliceIndices lo hi 1 n=(List.range (HT.sIx n n hi-HT.sIx n 0 lo)).map λk=>HT.sIx n 0 lo+k:=by
 have e1:=Ah lo 0 n (Ht _);have e2:=Ah hi n n (Hj _);have e:Builtin.Str.strSliceIndices lo hi 1 n=sliceRange ((HT.sIx n 0 lo:Nat):Int) ((HT.sIx n n hi:Nat):Int) 1:=by
  rw[<-e1,<-e2];cases lo<;>cases hi<;>rfl
 rw[e];unfold sliceRange;dsimp only;rw[if_pos (by decide:(1:Int)>0)];have e3:(if((HT.sIx n 0 lo:Nat):Int)<((HT.sIx n n hi:Nat):Int)then(((HT.sIx n n hi:Nat):Int)-((HT.sIx n 0 lo:Nat):Int)+1-1)/1 else 0:Int).toNat=HT.sIx n n hi-HT.sIx n 0 lo:=by
  rw[Int.ediv_one];split<;>omega
 rw[e3];refine List.map_congr_left λk _=>?_;omega
theorem wX{α:Type}(l:List α)(a:Nat):∀n:Nat,((List.range n).map λk=>a+k).filterMap (λi=>l[i]?)=(l.drop a).take n
 |0=>by simp
 |n+1=>by
  rw[List.range_succ,Ik,List.filterMap_append,wX l a n,List.take_add_one,List.getElem?_drop];cases e:l[a+n]?<;>simp[e]
theorem uv(x:Str)(lo hi:bY):Txt.slice x lo hi=⟨(cutD x.cps.toList lo hi).toArray⟩:=by
 have hl:x.cps.toList.length=x.length:=by simp[Str.length]
 have pick:(Builtin.Str.strSliceIndices lo hi 1 x.length).filterMap (x.cps[·]?)=cutD x.cps.toList lo hi:=by
  rw[vV];have q:=wX x.cps.toList (HT.sIx x.length 0 lo) (HT.sIx x.length x.length hi-HT.sIx x.length 0 lo);unfold cutD;rw[hl,<-q];congr 1;funext i;simp
 unfold Txt.slice;split
 ·rename_i h;have h':(Builtin.Str.strSliceIndices lo hi 1 x.length).length=x.length:=by simpa using h
  rw[vV,Hr,Il]at h';have h1:=HT.AR x.length x.length (Hj _) hi;have z1:HT.sIx x.length 0 lo=0\/x.length=0:=by omega
  have e:cutD x.cps.toList lo hi=x.cps.toList:=by
   unfold cutD;rw[hl,h'];rcases z1 with z1|z1
   ·rw[z1,HW,<-hl,List.take_length]
   ·have:x.cps.toList=[]:=List.length_eq_zero_iff.mp (by rw[hl];exact z1)
    rw[this];simp
  rw[e]
 ·rw[pick]
noncomputable def E6(K:Jv):V->bY->bY->Hp->VK->Prop:=λx lo hi H Q=>∃O a d,cB H O/\bM K (hid H O) a x/\gb a lo hi=some d/\∀v H',aQ H H'->bM K (hid H' O) d v->Q v H'
theorem aK.cut{K:Jv}{H:Hp}{ds:List D}{vs:aB}(h:aK K H ds vs)(lo hi:bY):aK K H (cutD ds lo hi) (oG vs lo hi):=by
 unfold cutD oG;rw[h.length];exact(h.drop _).take _
theorem Eu:D4 X (E6 X.K):=by
 rintro pins s σ H x v vl vu lo hi sl Q I rx hs pl pu ⟨O,a,d,hO,ha,hg,q⟩;cases a with
 |lst xs=>
  cases hg;rw[bo]at ha;obtain⟨p,vs,ex,g1,g2⟩:=ha;exact ya pins s σ H x v vl vu lo hi sl Q I rx hs pl pu ⟨p,vs,ex,(az H O).seq g1,λr hr=>q _ _ (bB hr _) (dm hO hr (g2.cut lo hi))⟩
 |tup xs=>
  cases hg;have da:=ha;rw[bp]at ha;obtain⟨p,vs,ex,g1,g2⟩:=ha;by_cases hw:HT.sIx vs.length 0 lo=0/\HT.sIx vs.length vs.length hi=vs.length
  ·subst ex;cases rx;obtain⟨its,r,ht,hz⟩:=I.tuple (bx (az H O) g1);have hlen:its.toArray.size=vs.length:=(by rw[Hl];exact r.length.symm);refine⟨"tuple",_,PyProof.Rows.slot_tuple_getitem.lookup,ht.typeIs,gK ht hs pl pu (by rw[hlen];exact hw) ⟨.ref p,H,I,rfl,q _ H (aQ.refl H) ?_⟩⟩;have e:cutD xs lo hi=xs:=by
    unfold cutD;rw[g2.length,hw.1,hw.2,Im,HW,<-g2.length,List.take_length]
   rw[e];exact da
  ·exact BC pins s σ H x v vl vu lo hi sl Q I rx hs pl pu ⟨p,vs,ex,bx (az H O) g1,hw,λr hr=>q _ _ (bB hr _) (cN hO hr (g2.cut lo hi))⟩
 |str z=>
  obtain⟨h1,h2⟩:=a8 hg;subst h2;rw[dh]at ha;subst ha;obtain⟨t,rfl⟩:=rx;have fin:∀t' tk,EP X pins σ Q (.str (Txt.slice z lo hi) t') {s with toks:=tk}:=λt' tk=>by
   rw[uv];exact⟨.str _,H,I.tok _,⟨_,rfl⟩,q _ H (aQ.refl H) (dh.mpr rfl)⟩
  obtain⟨os,hos,hcs,hds⟩:=id hs;have hz:=bU h1;refine⟨"str",_,F.slot_str_getitem.lookup,typeIs_str _ _ _,?_⟩;cases pl with
  |none=>
   cases pu with
   |none=>exact LR (l:=none) (u:=none) (st:=none) ⟨os,hos,hcs,hds⟩ rfl (LU ⟨G5 (Txt.slice_le z _ _) hz,λt' k=>fin t' k⟩)
   |int j tj=>exact LR (l:=none) (u:=some (j,tj)) (st:=none) ⟨os,hos,hcs,hds⟩ rfl (LU ⟨G5 (Txt.slice_le z _ _) hz,λt' k=>fin t' k⟩)
  |int i ti=>
   cases pu with
   |none=>exact LR (l:=some (i,ti)) (u:=none) (st:=none) ⟨os,hos,hcs,hds⟩ rfl (LU ⟨G5 (Txt.slice_le z _ _) hz,λt' k=>fin t' k⟩)
   |int j tj=>exact LR (l:=some (i,ti)) (u:=some (j,tj)) (st:=none) ⟨os,hos,hcs,hds⟩ rfl (LU ⟨G5 (Txt.slice_le z _ _) hz,λt' k=>fin t' k⟩)
 |_=>cases hg
noncomputable def aP:aw->R (bY):=λ_=>.ok none
noncomputable def qg:D->Option (bY)
 |.int i=>some (some i)
 |_=>none
noncomputable def aV(f:FX):aw->R (bY):=λρ=>(f ρ).bind λd=>rO (qg d)
noncomputable def GI(X:Cx)(F:aw->R bY):TO:=λσ H Q=>∃O ρ,cw X.K O H ρ σ/\dE X σ O H (F ρ) λo=>∀H',aQ H H'->Q o H'
noncomputable def FO(X:Cx)(e:Option Kw)(F:aw->R bY):Prop:=PO X e (GI X F)
noncomputable def aT(f:FX)(l h:aw->R bY):FX:=λρ=>(f ρ).bind λa=>(l ρ).bind λlo=>(h ρ).bind λhi=>rO (gb a lo hi)
end
end TG
namespace TG
open PySem PySem.Spec L2
variable[ax]
noncomputable def yW(K:Jv)(g:List D->aZ):aB->Hp->VK->Prop:=λxs H Q=>∃O ds d,cB H O/\aK K (hid H O) ds xs/\g ds=some d/\∀v H',aQ H H'->bM K (hid H' O) d v->Q v H'
theorem kn{K:Jv}{g:List D->aZ}:sy K (yW K g) g:=λds d xs O H Q hO hg hd q=>⟨O,ds,d,hO,hd,hg,q⟩
section
variable{X:Cx}{x:Str}{p pos:Pos}{e:Kw}{es:aU}{id T:String}{g:List D->aZ}{f:aN}
noncomputable def cT:List D->aZ
 |[.lst xs]=>some (.int xs.length)
 |[.tup xs]=>some (.int xs.length)
 |[.str x]=>if small x.length then some (.int x.length)else none
 |_=>none
theorem uh:cX X (.builtin "len") (yW X.K cT):=by
 rintro pins s σ H xs us Q I r ⟨O,ds,d,hO,hd,hg,q⟩;unfold cT at hg;split at hg
 ·rename_i ys;cases hg;obtain⟨v,ev,h1⟩:=hd.one;rw[bo]at h1;obtain⟨p,vs,ep,g1,g2⟩:=h1;exact iS pins s σ H xs us Q I r ⟨p,vs,by rw[ev,ep],.inl ((az H O).seq g1),q _ H (aQ.refl H) (dD.mpr (by rw[g2.length]))⟩
 ·rename_i ys;cases hg;obtain⟨v,ev,h1⟩:=hd.one;rw[bp]at h1;obtain⟨p,vs,ep,g1,g2⟩:=h1;exact iS pins s σ H xs us Q I r ⟨p,vs,by rw[ev,ep],.inr (bx (az H O) g1),q _ H (aQ.refl H) (dD.mpr (by rw[g2.length]))⟩
 ·rename_i z;obtain⟨h1,h2⟩:=a8 hg;subst h2;obtain⟨v,ev,h1'⟩:=hd.one;exact n8 pins s σ H xs us Q I r ⟨z,by rw[ev,dh.mp h1'],bU h1,q _ H (aQ.refl H) (dD.mpr rfl)⟩
 ·cases hg
noncomputable def bO:List D->aZ
 |[.lst xs]=>some (.tup xs)
 |[.tup xs]=>some (.tup xs)
 |_=>none
theorem oE:cX X (.type "tuple") (yW X.K bO):=by
 rintro pins s σ H xs us Q I r ⟨O,ds,d,hO,hd,hg,q⟩;unfold bO at hg;split at hg
 ·rename_i ys;cases hg;obtain⟨v,ev,h1⟩:=hd.one;rw[bo]at h1;obtain⟨p,vs,ep,g1,g2⟩:=h1;exact gP pins s σ H xs us Q I r ⟨p,vs,by rw[ev,ep],.inl ⟨(az H O).seq g1,λl hl=>q _ _ (bB hl _) (cN hO hl g2)⟩⟩
 ·rename_i ys;cases hg;obtain⟨v,ev,h1⟩:=hd.one;have h0:=h1;rw[bp]at h1;obtain⟨p,vs,ep,g1,g2⟩:=h1;rw[ep]at h0;exact gP pins s σ H xs us Q I r ⟨p,vs,by rw[ev,ep],.inr ⟨bx (az H O) g1,q _ H (aQ.refl H) h0⟩⟩
 ·cases hg
noncomputable def iF:List D->aZ
 |[.lst xs]=>some (.lst xs)
 |[.tup xs]=>some (.lst xs)
 |_=>none
theorem pN:cX X (.type "list") (yW X.K iF):=by
 rintro pins s σ H xs us Q I r ⟨O,ds,d,hO,hd,hg,q⟩;unfold iF at hg;split at hg
 ·rename_i ys;cases hg;obtain⟨v,ev,h1⟩:=hd.one;rw[bo]at h1;obtain⟨p,vs,ep,g1,g2⟩:=h1;exact eS pins s σ H xs us Q I r ⟨p,vs,by rw[ev,ep],.inl ((az H O).seq g1),λl hl=>q _ _ (bB hl _) (dm hO hl g2)⟩
 ·rename_i ys;cases hg;obtain⟨v,ev,h1⟩:=hd.one;rw[bp]at h1;obtain⟨p,vs,ep,g1,g2⟩:=h1;exact eS pins s σ H xs us Q I r ⟨p,vs,by rw[ev,ep],.inr (bx (az H O) g1),λl hl=>q _ _ (bB hl _) (dm hO hl g2)⟩
 ·cases hg
noncomputable def CJ:List D->aZ
 |[.int i,.int j]=>some (.int (if j>i then j else i))
 |_=>none
noncomputable def CP:List D->aZ
 |[.int i,.int j]=>some (.int (if j<i then j else i))
 |_=>none
noncomputable def kt:List D->aZ
 |[.int i]=>some (.int i)
 |[.bl k]=>some (.int (if k then 1 else 0))
 |_=>none
theorem pP:cX X (.type "int") (yW X.K kt):=by
 rintro pins s σ H xs us Q I r ⟨O,ds,d,hO,hd,hg,q⟩;unfold kt at hg;split at hg
 ·rename_i i;cases hg;obtain⟨v,ev,h1⟩:=hd.one;exact lQ pins s σ H xs us Q I r (.inl ⟨i,by rw[ev,dD.mp h1],q _ H (aQ.refl H) (dD.mpr rfl)⟩)
 ·rename_i k;cases hg;obtain⟨v,ev,h1⟩:=hd.one;exact lQ pins s σ H xs us Q I r (.inr ⟨k,by rw[ev,eT.mp h1],q _ H (aQ.refl H) (dD.mpr rfl)⟩)
 ·cases hg
noncomputable def BG:D->String
 |.non=>"NoneType"
 |.bl _=>"bool"
 |.int _=>"int"
 |.str _=>"str"
 |.tup _=>"tuple"
 |.lst _=>"list"
 |.dct _ _=>"dict"
 |_=>""
noncomputable def zt(T:String)(d:D):Bool:=match d with
 |.bl _=>T=="bool"||T=="int"
 |.non=>T=="NoneType"
 |.int _=>T=="int"
 |.str _=>T=="str"
 |.tup _=>T=="tuple"
 |.lst _=>T=="list"
 |.dct _ _=>T=="dict"
 |_=>false
noncomputable def pI(K:Jv)(T:String):Prop:=∀d:D,top d=true->JS K (.type (BG d)) (.type T)=some (zt T d)
noncomputable def EK(K:Jv)(T:String):aB->Hp->VK->Prop:=λxs H Q=>∃O x d,xs=[x,.ty T]/\top d=true/\bM K (hid H O) d x/\Q (.bl (zt T d)) H
theorem vF(ok:pI X.K T):cX X (.builtin "isinstance") (EK X.K T):=by
 rintro pins s σ H xs us Q I r ⟨O,x,d,ex,td,hd,q⟩;subst ex;obtain⟨u,w',rfl,rx,rt⟩:=vals2 r;cases rt;have e:=ok d td;have fin:∀tk,EP X pins σ Q (.bool (zt T d)) {s with toks:=tk}:=λtk=>⟨.bl _,H,I.tok _,rfl,q⟩
 cases cH I td (hd.mono (az H O)) rx with
 |non=>exact JT PySem.W.kitx_none I.kIn True.intro e (λz=>nomatch z) fin
 |bl b=>exact JT PySem.W.kitx_bool I.kIn True.intro e (λz=>nomatch z) fin
 |int i t=>exact JT PySem.W.kitx_int I.kIn True.intro e (λz=>nomatch z) fin
 |str y t=>exact JT PySem.W.kitx_str I.kIn True.intro e (λz=>nomatch z) fin
 |tup h rv t=>
  obtain⟨o,h1,h2,_⟩:=t;exact JT PySem.W.kitx_tuple I.kIn ⟨o,h1,h2⟩ e (λz=>nomatch z) fin
 |lst h rv t=>
  obtain⟨o,h1,h2,_⟩:=t;exact JT PySem.W.kitx_list I.kIn ⟨o,h1,h2⟩ e (λz=>nomatch z) fin
theorem iY:KI "isinstance"=some (.builtin "isinstance"):=by first|rfl|decide +kernel
noncomputable def qj(T:String)(d:D):aZ:=if top d then some (.bl (zt T d))else none
noncomputable def kz(T:String)(f:FX):FX:=f1 (qj T) f
end
section
variable{X:Cx}{a:Kw}{f:FX}{pos:Pos}
noncomputable def isNon:D->Bool
 |.non=>true
 |_=>false
theorem sK{K:Jv}{H:Hp}{d:D}{v:V}(h:bM K H d v):decide (v=.non)=isNon d:=by
 cases d with
 |non=>rw[fm.mp h];rfl
 |bl b=>rw[eT.mp h];rfl
 |int i=>rw[dD.mp h];rfl
 |str x=>rw[dh.mp h];rfl
 |tup xs=>obtain⟨_,_,e,_⟩:=bp.mp h;rw[e];rfl
 |lst xs=>obtain⟨_,_,e,_⟩:=bo.mp h;rw[e];rfl
 |dct _ _=>obtain⟨_,_,e,_⟩:=DL.mp h;rw[e];rfl
 |obj _ _ _=>obtain⟨_,_,e,_⟩:=DZ.mp h;rw[e];rfl
 |exc _ _ _=>obtain⟨_,_,e,_⟩:=DU.mp h;rw[e];rfl
noncomputable def Eh(d:D):aZ:=some (.bl (isNon d))
noncomputable def C4(d:D):aZ:=some (.bl (!isNon d))
noncomputable def oY(f:FX):FX:=f1 Eh f
noncomputable def CM(f:FX):FX:=f1 C4 f
theorem sF:∀σ H Q,tF X (oY f) σ H Q->tF X f σ H λv H'=>Q (.bl (decide (v=.non))) H':=λσ H Q ⟨O,ρ,E,hF⟩=>⟨O,ρ,E,(dE.bind hF).imp λa hF v H1 s1 d1=>by
 obtain⟨d,e,q⟩:=dE.rO hF;cases e;rw[sK d1];exact q _ H1 s1 (eT.mpr rfl)⟩
end
noncomputable def Walk(K:Jv)(Hd:Hp)(J:It)(ds:List D):Prop:=
 ∀(Hn:Hp)(O':ay)(i:Nat),cB Hn O'->aQ Hd (hid Hn O')->(∀d,ds[i]?=some d->J.go i Hn/\∀x H2,J.yld i Hn x H2->aQ Hn H2/\bM K (hid H2 O') d x)/\(i=ds.length->J.stop i Hn)
noncomputable def Ey(X:Cx)(G:aN):TI:=λσ H RR=>∃O ρ,cw X.K O H ρ σ/\dE X σ O H (G ρ) λds=>∀J H1,aQ H H1->Walk X.K (hid H1 O) J ds->RR J H1
noncomputable def FI(X:Cx)(tg iter:Kw)(G:aN):Prop:=PI X tg iter (Ey X G)
noncomputable def kH:D->Option (List D)
 |.lst xs=>some xs
 |.tup xs=>some xs
 |_=>none
noncomputable def bP(f:FX):aN:=λρ=>(f ρ).bind λd=>rO (kH d)
section
variable{X:Cx}{tg:Kw}
theorem tP{K:Jv}{Hd:Hp}{a:Kv}{ds:List D}{vs:aB}(h:gQ K Hd a vs)(g:aK K Hd ds vs):Walk K Hd (FC K a) ds:=λHn O' i hO s=>
  have s':aQ Hd Hn:=s.trans (az Hn O')
  ⟨fun d e=>by
    obtain⟨v,ev,dv⟩:=g.get e;refine⟨⟨vs,v,s'.seq h,ev⟩,λx H2 ⟨e2,y⟩=>?_⟩;have q:=y vs (s'.seq h);rw[ev]at q;cases q;subst e2;exact⟨aQ.refl _,dv.mono s⟩,
   λhl=>⟨vs,s'.seq h,by rw[<-g.length];exact Hs hl.symm⟩⟩
theorem vy{K:Jv}{Hd:Hp}{a:Kv}{ds:List D}{vs:aB}(h:Hd a=some (.tup vs))(g:aK K Hd ds vs):Walk K Hd (Ez K a) ds:=λHn O' i hO s=>
  have s':aQ Hd Hn:=s.trans (az Hn O')
  ⟨fun d e=>by
    obtain⟨v,ev,dv⟩:=g.get e;refine⟨⟨vs,v,bx s' h,ev⟩,λx H2 ⟨e2,y⟩=>?_⟩;have q:=y vs (bx s' h);rw[ev]at q;cases q;subst e2;exact⟨aQ.refl _,dv.mono s⟩,
   λhl=>⟨vs,bx s' h,by rw[<-g.length];exact Hs hl.symm⟩⟩
noncomputable def bG(lo:Int)(n:Nat):List D:=(List.range n).map λ(k:Nat)=>D.int (lo+(k:Int))
theorem k9(lo:Int)(n:Nat):(bG lo n).length=n:=by unfold bG;rw[Hr,Il]
theorem qc{K:Jv}{Hd:Hp}(lo:Int)(n:Nat):Walk K Hd (DJ lo n) (bG lo n):=λHn O' i hO s=>
  ⟨fun d e=>by
    unfold bG at e;rw[HB]at e;cases hi:(List.range n)[i]? with
    |none=>rw[hi]at e;cases e
    |some k=>
      rw[hi]at e;cases e;have hlt:i<n:=by
        have:=(List.getElem?_eq_some_iff.mp hi).1
        rwa [Il]at this
      have ek:k=i:=by
        rw[Io hlt]at hi;exact(Option.some.inj hi).symm
      subst ek;exact⟨hlt,λx H2 ⟨e1,e2⟩=>by subst e1;exact⟨aQ.refl _,dD.mpr e2⟩⟩,
   λhl=>by rw[k9]at hl;exact Hs hl.symm⟩
noncomputable def okR(j:Int):Bool:=decide (-(2^62)<=j/\j<2^62)
noncomputable def dB:List D->Option (List D)
 |[.int j]=>if okR j then some (bG 0 j.toNat)else none
 |_=>none
noncomputable def rM:List D->Option (List D)
 |[.int i,.int j]=>if okR i&&okR j then some (bG i (j-i).toNat)else none
 |_=>none
noncomputable def bh(f:aN):aN:=λρ=>(f ρ).bind λds=>rO (dB ds)
noncomputable def zg(f:aN):aN:=λρ=>(f ρ).bind λds=>rO (rM ds)
end
noncomputable abbrev GF:=D->aw->Option aw
noncomputable def DY(K:Jv)(g:GF):TG:=λv σ H Q=>∃O ρ d ρ',cw K O H ρ σ/\bM K (hid H O) d v/\g d ρ=some ρ'/\∀σ',cw K O H ρ' σ'->(∀(i:Nat) x,ρ'[i]?=some (some x)->(∀d,x≠.val d)->σ'[i]?=σ[i]?/\ρ[i]?=some (some x))->Q σ' H
noncomputable def FG(X:Cx)(tg:Kw)(g:GF):Prop:=PG X tg (DY X.K g)
noncomputable def setV(i:Nat)(d:D)(ρ:aw):aw:=ρ.set i (some (.val d))
theorem aS{α:Type}{l:List α}{i j:Nat}{a b:α}(h:(l.set i a)[j]?=some b):(j=i/\b=a)\/(j≠i/\l[j]?=some b):=by
 by_cases e:j=i
 ·subst e;left;have hj:j<(l.set j a).length:=(List.getElem?_eq_some_iff.mp h).1;rw[HJ]at hj;rw[Hf hj]at h;exact⟨rfl,(Option.some.inj h).symm⟩
 ·right;rw[Hg (Ne.symm e)]at h;exact⟨e,h⟩
theorem cw.setV{K:Jv}{O:ay}{H:Hp}{ρ:aw}{σ:St}(E:cw K O H ρ σ){i:Nat}{d:D}{v:V}(hi:i<σ.length)(hd:bM K (hid H O) d v):cw K O H (setV i d ρ) (σ.set i (some v)):=
  ⟨fun j d' e=>by
    rcases aS e with⟨hj,eq⟩|⟨ne,eq⟩
    ·cases eq;rw[hj];exact⟨v,Hf hi,hd⟩
    · obtain⟨w,e1,e2⟩:=E.val j d' eq
      exact⟨w,by rw[Hg (Ne.symm ne)];exact e1,e2⟩,
   λj xs e=>by
    rcases aS e with⟨_,eq⟩|⟨ne,eq⟩
    ·cases eq
    · obtain⟨a,e1,e2⟩:=E.own j xs eq
      exact⟨a,by rw[Hg (Ne.symm ne)];exact e1,e2⟩,
   λj k xs ys a e1 e2 e3 e4=>by
    rcases aS e1 with⟨_,q1⟩|⟨ne1,q1⟩
    ·cases q1
    · rcases aS e2 with⟨_,q2⟩|⟨ne2,q2⟩
      ·cases q2
      · rw[Hg (Ne.symm ne1)]at e3
        rw[Hg (Ne.symm ne2)]at e4;exact E.one j k xs ys a q1 q2 e3 e4,E.all⟩
section
variable{X:Cx}{pos:Pos}
noncomputable def gN(i:Nat):GF:=λd ρ=>some (setV i d ρ)
noncomputable abbrev xt:=List D->aw->Option aw
noncomputable def EB(K:Jv)(g:xt):zK:=λvs σ H Q=>∃O ρ ds ρ',cw K O H ρ σ/\aK K (hid H O) ds vs/\g ds ρ=some ρ'/\∀σ',cw K O H ρ' σ'->(∀(i:Nat) x,ρ'[i]?=some (some x)->(∀d,x≠.val d)->σ'[i]?=σ[i]?/\ρ[i]?=some (some x))->Q σ' H
noncomputable def GY(X:Cx)(ts:aU)(g:xt):Prop:=Dj X ts (EB X.K g)
noncomputable def Aa:xt:=λds ρ=>match ds with
 |[]=>some ρ
 |_=>none
noncomputable def xg(g:GF)(h:xt):xt:=λds ρ=>match ds with
 |d::r=>(g d ρ).bind λρ1=>h r ρ1
 |_=>none
noncomputable def gT(n:Nat)(g:xt):GF:=λd ρ=>match d with
 |.tup xs=>if xs.length=n then g xs ρ else none
 |_=>none
end
noncomputable def AZ{α:Type}(r:R α):R α:=match r with
 |.ok a=>.ok a
 |.error _=>un
theorem uU{α:Type}{r:R α}{a:α}(h:AZ r=.ok a):r=.ok a:=by
 cases r with
 |ok b=>exact h
 |error z=>cases h
noncomputable def inB(ix:dy)(ρ:aw):aw:=ix.map λo=>match o with
 |some i=>match ρ[i]? with
  |some (some (.val d))=>some (.val d)
  |_=>none
 |none=>none
noncomputable def oh(ρ:aw)(g:GF)(C:bu)(Fe:FX):List D->R (List D)
 |[]=>.ok []
 |d::ds=>(rO (g d ρ)).bind λρ1=>(AZ (C ρ1)).bind λc=>if c then(AZ (Fe ρ1)).bind λv=>(oh ρ g C Fe ds).bind λr=>.ok (v::r)else oh ρ g C Fe ds
theorem ie(ρ:aw)(g:GF)(C:bu)(Fe:FX)(d:D)(ds:List D):oh ρ g C Fe (d::ds)=(rO (g d ρ)).bind λρ1=>(AZ (C ρ1)).bind λc=>if c then(AZ (Fe ρ1)).bind λv=>(oh ρ g C Fe ds).bind λr=>.ok (v::r)else oh ρ g C Fe ds:=rfl
noncomputable def dZ(ix:dy)(G:aN)(g:GF)(C:bu)(Fe:FX):FX:=λρ=>(G ρ).bind λds=>if small ds.length then AZ ((oh (inB ix ρ) g C Fe ds).bind λr=>.ok (.lst r))else un
noncomputable def Ge(X:Cx)(ifs:aU)(F:bu):Prop:=BO X ifs (DK X F)
noncomputable def bw:bu:=λ_=>.ok true
theorem iZ{ix:dy}{ρ:aw}{j:Nat}{x:S}(e:(inB ix ρ)[j]?=some (some x)):∃i d,ix[j]?=some (some i)/\ρ[i]?=some (some (.val d))/\x=.val d:=by
 unfold inB at e;rw[HB]at e;cases q:ix[j]? with
 |none=>rw[q]at e;cases e
 |some o=>
  rw[q]at e;cases o with
  |none=>cases e
  |some i=>
   have e':(match ρ[i]? with|some (some (.val d))=>some (S.val d)|_=>none)=some x:=Option.some.inj e;split at e'
   ·rename_i d hd;cases e';exact⟨i,d,rfl,hd,rfl⟩
   ·cases e'
theorem yj{K:Jv}{O:ay}{H:Hp}{ρ:aw}{σ:St}(ix:dy)(E:cw K O H ρ σ):cw K O H (inB ix ρ) (inBlock ix σ):=by
 refine⟨λj d e=>?_,λj xs e=>?_,λj k xs ys a e=>?_,E.all⟩
 ·obtain⟨i,d',q1,q2,q3⟩:=iZ e;cases q3;obtain⟨v,e1,e2⟩:=E.val i d q2;refine⟨v,?_,e2⟩;unfold inBlock;rw[HB,q1];show some ((σ[i]?).getD none)=some (some v);rw[e1];rfl
 ·obtain⟨_,_,_,_,q3⟩:=iZ e;cases q3
 ·obtain⟨_,_,_,_,q3⟩:=iZ e;cases q3
theorem pc{H:Hp}{O:ay}{p:Kv}{o:HO}(hp:H p=none):aQ (hid H O) (hid (upd H p o) (p::O)):=λb u h=>by
 unfold hid at h ⊢;by_cases hb:b∈O
 ·rw[if_pos hb]at h;cases h
 ·rw[if_neg hb]at h;have ne:=aM h hp;rw[if_neg (by intro z;rcases List.mem_cons.mp z with z|z;exact ne z;exact hb z),av ne];exact h
theorem cw.hideNew{K:Jv}{O:ay}{H:Hp}{ρ:aw}{σ:St}{p:Kv}{o:HO}(m:mK o)(E:cw K O H ρ σ)(hp:H p=none):cw K (p::O) (upd H p o) ρ σ:=by
 have s:aQ (hid H O) (hid (upd H p o) (p::O)):=pc hp;refine⟨λi d e=>let ⟨v,a,b⟩:=E.val i d e;⟨v,a,b.mono s⟩,λi xs e=>?_,E.one,(E.all.same (bB hp o)).cons aA m⟩;obtain⟨a,e1,e2,e3⟩:=E.own i xs e;obtain⟨u,hu⟩:=e3.some;exact⟨a,e1,G9 _ e2,e3.mono (by rw[av (aM hu hp)]) s⟩
theorem cw.rewrite{K:Jv}{O:ay}{H:Hp}{ρ:aw}{σ:St}{p:Kv}{o:HO}(m:mK o)(E:cw K O H ρ σ)(hp:p∈O)(hs:∀(i:Nat) xs,ρ[i]?=some (some (.own xs))->σ[i]?≠some (some (.ref p))):cw K O (upd H p o) ρ σ:=by
 have s:aQ (hid H O) (hid (upd H p o) O):=ka hp;refine⟨λi d e=>let ⟨v,a,b⟩:=E.val i d e;⟨v,a,b.mono s⟩,λi xs e=>?_,E.one,E.all.upd hp m⟩;obtain⟨a,e1,e2,e3⟩:=E.own i xs e;have ne:a≠p:=λz=>hs i xs e (by rw[<-z];exact e1);exact⟨a,e1,e2,e3.mono (by rw[av ne]) s⟩
theorem cw.forget{K:Jv}{O:ay}{H:Hp}{ρ ρ':aw}{σ:St}(E:cw K O H ρ σ)(h:∀(i:Nat) x,ρ'[i]?=some (some x)->ρ[i]?=some (some x)):cw K O H ρ' σ:=
 ⟨λi d e=>E.val i d (h i _ e),λi xs e=>E.own i xs (h i _ e),λi j xs ys a e1 e2=>E.one i j xs ys a (h i _ e1) (h j _ e2),E.all⟩
noncomputable def Fills(ρ:aw)(g:GF):Prop:=∀d ρ1,g d ρ=some ρ1->∀(i:Nat) x,ρ[i]?=some (some x)->ρ1[i]?=some (some x)
theorem lR(ix:dy)(ρ:aw):∀(i:Nat) xs,(inB ix ρ)[i]?≠some (some (.own xs)):=by
 intro j xs e;obtain⟨_,_,_,_,q3⟩:=iZ e;cases q3
theorem CB{α:Type}{o:Option α}{a:α}(h:rO o=.ok a):o=some a:=by
 cases o with
 |none=>cases h
 |some b=>cases h;rfl
end TG
namespace TG
open PySem PySem.Spec L2
variable[ax]
section
variable{X:Cx}{elt tg iter:Kw}{ifs:aU}{scope:KL}{pos:Pos}{N:ap}{ix:dy}{G:aN}{g:GF}{C:bu}{Fe:FX}
structure jE(ix:dy)(g:GF):Prop where
 fill:∀ρ,Fills (inB ix ρ) g
 own:∀ρ d ρ1,g d (inB ix ρ)=some ρ1->∀(i:Nat) xs,ρ1[i]?≠some (some (.own xs))
theorem pB{ρ:aw}{i:Nat}(h:ix[i]?=some none):∀x,(inB ix ρ)[i]?≠some (some x):=λx e=>by
 obtain⟨_,_,q,_⟩:=iZ e;rw[h]at q;cases q
theorem gq{i:Nat}(h:ix[i]?=some none):jE ix (gN i):=
  ⟨fun ρ d ρ1 e j x q=>by
    cases e;by_cases z:j=i
    ·subst z;exact absurd q (pB h x)
    ·unfold setV;rw[Hg (Ne.symm z)];exact q,
   λρ d ρ1 e j xs q=>by
    cases e;rcases aS q with⟨_,z⟩|⟨_,z⟩
    ·cases z
    ·exact lR ix ρ j xs z⟩
noncomputable def x9(ix:dy)(is:List Nat):Bool:=is.all λi=>match ix[i]? with
 |some none=>true
 |_=>false
noncomputable def kC:List Nat->xt
 |[]=>Aa
 |i::is=>xg (gN i) (kC is)
theorem qN:∀(is:List Nat)(ds:List D)(ρ ρ1:aw),kC is ds ρ=some ρ1->∀(k:Nat)(x:S),ρ1[k]?=some (some x)->(k∈is/\∃d,x=.val d)\/ρ[k]?=some (some x)
 |[],ds,ρ,ρ1,h,k,x,e=>by
  cases ds with
  |nil=>cases h;exact .inr e
  |cons _ _=>cases h
 |i::is,ds,ρ,ρ1,h,k,x,e=>by
  cases ds with
  |nil=>cases h
  |cons d ds=>
   rcases qN is ds (setV i d ρ) ρ1 h k x e with⟨a,b⟩|q
   ·exact .inl ⟨G9 _ a,b⟩
   ·rcases aS q with⟨z,w⟩|⟨_,w⟩
    ·exact .inl ⟨by rw[z];exact G8,d,Option.some.inj w⟩
    ·exact .inr w
theorem oK:∀(is:List Nat)(ds:List D)(ρ ρ1:aw),kC is ds ρ=some ρ1->∀(k:Nat)(x:S),k∉is->ρ[k]?=some (some x)->ρ1[k]?=some (some x)
 |[],ds,ρ,ρ1,h,k,x,_,e=>by
  cases ds with
  |nil=>cases h;exact e
  |cons _ _=>cases h
 |i::is,ds,ρ,ρ1,h,k,x,n,e=>by
  cases ds with
  |nil=>cases h
  |cons d ds=>
   refine oK is ds (setV i d ρ) ρ1 h k x (λz=>n (G9 _ z)) ?_;unfold setV;rw[Hg (λz=>n (by rw[z];exact G8))];exact e
theorem eL{is:List Nat}{n:Nat}(h:x9 ix is=true):jE ix (gT n (kC is)):=by
 have hn:∀i∈is,ix[i]?=some none:=λi hi=>by
  have:=List.all_eq_true.mp h i hi
  cases e:ix[i]? with
  |none=>rw[e]at this;cases this
  |some o=>cases o with
   |none=>rfl
   |some _=>rw[e]at this;cases this
 have shape:∀ρ d ρ1,gT n (kC is) d ρ=some ρ1->∃ds,kC is ds ρ=some ρ1:=λρ d ρ1 e=>by
  cases d with
  |tup xs=>
   have e':(if xs.length=n then kC is xs ρ else none)=some ρ1:=e;by_cases hl:xs.length=n
   ·rw[if_pos hl]at e';exact⟨xs,e'⟩
   ·rw[if_neg hl]at e';cases e'
  |_=>cases e
 refine⟨λρ d ρ1 e k x q=>?_,λρ d ρ1 e k xs q=>?_⟩
 ·obtain⟨ds,e⟩:=shape _ d ρ1 e;exact oK is ds _ ρ1 e k x (λz=>pB (hn k z) x q) q
 ·obtain⟨ds,e⟩:=shape _ d ρ1 e;rcases qN is ds _ ρ1 e k _ q with⟨_,d,z⟩|z
  ·cases z
  ·exact lR ix ρ k xs z
structure iA(X:Cx)(scope:KL)(N:ap)(ix:dy):Prop where
 cell:∀y∈scope.names,y.2≠.cell
 kind:scope.kind=.function
 names:∀y∈scope.names,y.2=.local->scope.names.lookup y.1=some .local
 free:∀y∈scope.names,y.2=.free->X.env.scope.names.lookup y.1=some .cell\/X.env.scope.names.lookup y.1=some .free
 ix:nS X.N N scope.names ix=true
noncomputable def gj(XS:kG)(XN:ap)(scope:KL)(N:ap)(ix:dy):Bool:=
 scope.names.all (λy=>decide (y.2≠.cell))&&decide (scope.kind=.function)&&scope.names.all (λy=>decide (y.2≠.local)||decide (scope.names.lookup y.1=some .local)) &&
  scope.names.all (λy=>decide (y.2≠.free)||(decide (XS.lookup y.1=some .cell)||decide (XS.lookup y.1=some .free)))&&nS XN N scope.names ix
theorem iA.of(h:gj X.env.scope.names X.N scope N ix=true):iA X scope N ix:=by
 unfold gj at h;simp only[HI]at h;obtain⟨⟨⟨⟨h1,h2⟩,h3⟩,h4⟩,h5⟩:=h;refine⟨λy hy=>of_decide_eq_true (List.all_eq_true.mp h1 y hy),of_decide_eq_true h2,λy hy e=>?_,λy hy e=>?_,h5⟩
 ·rcases Ig _ _ ▸ List.all_eq_true.mp h3 y hy with q|q
  ·exact absurd e (of_decide_eq_true q)
  ·exact of_decide_eq_true q
 ·rcases Ig _ _ ▸ List.all_eq_true.mp h4 y hy with q|q
  ·exact absurd e (of_decide_eq_true q)
  ·rcases Ig _ _ ▸ q with q|q
   ·exact .inl (of_decide_eq_true q)
   ·exact .inr (of_decide_eq_true q)
noncomputable def Gg(X:Cx)(scope:KL)(N:ap)(tg elt:Kw)(ifs:aU)(g:GF)(C:bu)(Fe:FX):Prop:=
 ∀cl C' fp s H E,FG (bz X scope N cl C' fp s H E) tg g/\Ge (bz X scope N cl C' fp s H E) ifs C/\FE (bz X scope N cl C' fp s H E) elt Fe
noncomputable def A3(K:Jv)(F:bu):TT:=λσ H Q=>∃O ρ b,cw K O H ρ σ/\F ρ=.ok b/\∀H',aQ H H'->Q b H'
noncomputable def FR(K:Jv)(F:FX):TE:=λσ H Q=>∃O ρ d,cw K O H ρ σ/\F ρ=.ok d/\∀v H',aQ H H'->bM K (hid H' O) d v->Q v H'
theorem Gg.k(hb:Gg X scope N tg elt ifs g C Fe):∀cl C' fp s H E,PG (bz X scope N cl C' fp s H E) tg (DY X.K g)/\BO (bz X scope N cl C' fp s H E) ifs (A3 X.K C)/\PE (bz X scope N cl C' fp s H E) elt (FR X.K Fe):=λcl C' fp s H E=>by
 obtain⟨h1,h2,h3⟩:=hb cl C' fp s H E;refine⟨h1,λpins s σ H Q I ⟨O,ρ,b,e1,e2,q⟩=>h2 pins s σ H Q I ⟨O,ρ,e1,by rw[e2];exact q⟩,λpins s σ H Q I ⟨O,ρ,d,e1,e2,q⟩=>h3 pins s σ H Q I ⟨O,ρ,e1,by rw[e2];exact q⟩⟩
noncomputable def FZ(X:Cx)(F:FX):TE:=λσ H Q=>∃O ρ,cw X.K O H ρ σ/\dE X σ O H (F ρ) λd=>∀D H' total acc,d=.lst total->aQ H H'->H D=none->H' D=some (.lst acc)->aK X.K (hid H' (D::O)) total acc->Q (.ref D) H'
theorem Fz{F:FX}:∀σ H Q,tF X F σ H Q->FZ X F σ H Q:=λσ H Q ⟨O,ρ,E,hF⟩=>⟨O,ρ,E,hF.imp λd q D H' total acc e sm hD hD' dn=>by
 subst e;have DO:D∉O:=E.all.not hD;exact q _ H' sm (bo.mpr ⟨D,acc,rfl,gQ.of (by rw[hV DO];exact hD'),dn.mono (fQ λa ha=>G9 _ ha)⟩)⟩
theorem wG(tk:jE ix g):∀σ H Q,FZ X (dZ ix G g C Fe) σ H Q->DM (Ey X G) (DY X.K g) (A3 X.K C) (FR X.K Fe) ix σ H Q:=λσ H Q ⟨O,ρ,E,hF⟩=>by
 refine⟨O,ρ,E,(dE.bind hF).imp λds hF=>?_⟩;have hz:small ds.length=true:=by
  cases e:small ds.length with
  |true=>rfl
  |false=>rw[e]at hF;exact hF.elim
 rw[hz,if_pos rfl]at hF;cases hL:oh (inB ix ρ) g C Fe ds with
 |error z=>rw[hL]at hF;exact hF.elim
 |ok total=>
 rw[hL]at hF;have q:∀D H' total' acc,TG.D.lst total=.lst total'->aQ H H'->H D=none->H' D=some (.lst acc)->aK X.K (hid H' (D::O)) total' acc->Q (.ref D) H':=hF;have e2:=hL;have hfill:=tk.fill;have hown:=tk.own;refine λJ H1 s1 wk D hD=>?_;have E1:cw X.K (D::O) (upd H1 D (.lst [])) (inB ix ρ) (inBlock ix σ):=((yj ix E).same s1).hideNew trivial hD;have DO:D∉O:=(E.all.same s1).not hD;refine⟨λi m σ' H'=>m=ds.length-i/\i<=ds.length/\aQ H1 H'/\cw X.K (D::O) H' (inB ix ρ) σ'/\∃acc dn rest,H' D=some (.lst acc)/\acc.length<=i/\aK X.K (hid H' (D::O)) dn acc/\oh (inB ix ρ) g C Fe (ds.drop i)=.ok rest/\dn++rest=total,
  ⟨ds.length,by rw[Im],Ht _,bB hD _,E1,[],[],total,aA,Hj _,bL.mpr rfl,by rw[HW];exact e2,rfl⟩,?_⟩
 rintro i m σ' H' ⟨rfl,hi,sm,E',acc,dn,rest,hacc,hlen,hdn,hrest,htot⟩;have sH:aQ (hid H1 O) (hid H' (D::O)):=λb o h=>by
  have h2:=sm b o (az H1 O b o h);unfold hid at h ⊢;by_cases hb:b∈O
  ·rw[if_pos hb]at h;cases h
  ·rw[if_neg hb]at h;have ne:b≠D:=aM h hD;rw[if_neg (by intro z;rcases List.mem_cons.mp z with z|z;exact ne z;exact hb z)];exact h2
 by_cases hlt:i<ds.length
 ·right;obtain⟨go,yl⟩:=(wk H' (D::O) i E'.all sH).1 ds[i] (by simp[hlt]);refine⟨go,λx H2 y=>?_⟩;obtain⟨s2,dx'⟩:=yl x H2 y;have E':=E'.same s2;have sm:=sm.trans s2;have hacc:=s2 _ _ hacc;have hdn:=hdn.mono (bq s2);rw[Ip hlt,ie]at hrest;obtain⟨ρ1,g1,hrest⟩:=jP hrest;have g1:=CB g1;obtain⟨c,c1,hrest⟩:=jP hrest;have c1:=uU c1;refine⟨D::O,inB ix ρ,ds[i],ρ1,E',dx',g1,λσ3 E3 _=>?_⟩;refine⟨D::O,ρ1,c,E3,c1,λH4 s4=>?_⟩;have E4:=E3.same s4;have back:∀{H5:Hp},cw X.K (D::O) H5 ρ1 σ3->cw X.K (D::O) H5 (inB ix ρ) σ3:=λz=>z.forget λj x e=>hfill ρ _ _ g1 j x e;cases c with
  |true=>
   refine oN ?_;rw[if_pos rfl]at hrest;obtain⟨v,v1,hrest⟩:=jP hrest;have v1:=uU v1;obtain⟨r,r1,hrest⟩:=jP hrest;cases hrest;refine⟨D::O,ρ1,v,E4,v1,λw H5 s5 dw=>?_⟩;have s45:=s4.trans s5;have ha5:H5 D=some (.lst acc):=s45 _ _ hacc;have hzl:ds.length<KG:=Nat.lt_of_le_of_lt (of_decide_eq_true hz) (by decide);refine⟨acc,ha5,by omega,ds.length-(i+1),by omega,rfl,hlt,?_,?_,acc++[w],dn++[v],r,aA,by rw[HF,HL];omega,?_,r1,by rw[Iq];exact htot⟩
   ·intro b o h;rw[av (aM h hD)];exact s45 _ _ (sm _ _ h)
   ·exact back ((E3.same s45).rewrite trivial G8 λj xs e=>absurd e (hown ρ _ _ g1 j xs))
   ·have s6:aQ (hid H5 (D::O)) (hid (upd H5 D (.lst (acc++[w]))) (D::O)):=ka G8;exact(hdn.mono ((bq s45).trans s6)).snoc (dw.mono s6)
  |false=>
   refine o5 ?_;rw[if_neg Hm]at hrest;exact⟨ds.length-(i+1),by omega,rfl,hlt,sm.trans s4,back E4,acc,dn,rest,s4 _ _ hacc,by omega,hdn.mono (bq s4),hrest,htot⟩
 ·left;have ei:i=ds.length:=by omega
  subst ei;refine⟨(wk H' (D::O) ds.length E'.all sH).2 rfl,?_⟩;rw[List.drop_length]at hrest;cases hrest;rw[Hu]at htot;subst htot;exact q D H' _ acc rfl (s1.trans sm) (s1.free hD) hacc hdn
theorem zJ(tk:jE ix g):∀σ H Q,tF X (dZ ix G g C Fe) σ H Q->DM (Ey X G) (DY X.K g) (A3 X.K C) (FR X.K Fe) ix σ H Q:=λσ H Q h=>wG tk σ H Q (Fz σ H Q h)
end
structure Ks where
 nx:aw->R D
 bk:aw->R D:=λ_=>un
 ct:aw->R D:=λ_=>un
 ex:Ex->aw->R D:=λx _=>.error (some x)
noncomputable abbrev bJ:=Ks->aw->R D
noncomputable def jF{α:Type}(r:R α)(k:Ks)(ρ:aw)(f:α->R D):R D:=match r with
 |.ok a=>f a
 |.error (some x)=>k.ex x ρ
 |.error none=>un
structure Base(Hb:Hp)(Ob:ay)(H:Hp)(O:ay):Prop where
 same:aQ Hb H
 sub:∀a∈Ob,a∈O
 new:∀a∈O,a∈Ob\/Hb a=none
noncomputable def vf(K:Jv)(H:Hp)(O:ay):ay->List D->Prop
 |[],[]=>True
 |b::bs,x::xs=>fK K H O b x/\vf K H O bs xs
 |_,_=>False
noncomputable def rJ(K:Jv)(H:Hp)(O:ay)(a:Kv)(bs:ay)(d:D):Prop:=
 ∃xs,vf K H O bs xs/\((d=.lst xs/\H a=some (.lst (bs.map .ref)))\/(∃kvs:List (List Key×V),d=.dct (kvs.map λp=>.tup (p.1.map mW)) xs/\H a=some (.dT kvs)/\kvs.map (·.2)=bs.map .ref)\/(d=.dct [] xs/\bs=[]/\H a=some (.dK [])))
noncomputable def wA(K:Jv)(Hb:Hp)(Ob O:ay)(H:Hp)(ρ:aw)(σ:St)(i:Nat)(d:D):Prop:=
 ∃a bs,σ[i]?=some (some (.ref a))/\rJ K H O a bs d/\(a::bs).Nodup/\(∀b∈a::bs,b∈O/\Hb b=none/\b∉Ob/\∀(j:Nat) d',ρ[j]?=some (some (.own d'))->σ[j]?≠some (some (.ref b)))/\∀(j:Nat) d',ρ[j]?=some (some (.nest d'))->j=i
theorem vf.mono{K:Jv}{H H':Hp}{O O':ay}(s:aQ (hid H O) (hid H' O')):∀{bs:ay}{xs:List D},vf K H O bs xs->(∀b∈bs,(∃o,H b=some o)->H' b=H b)->vf K H' O' bs xs
 |[],[],_,_=>trivial
 |b::bs,x::xs,h,e=>⟨h.1.mono (e b G8 h.1.some).symm s,vf.mono s h.2 λb' hb=>e b' (G9 _ hb)⟩
 |[],_::_,h,_=>h.elim
 |_::_,[],h,_=>h.elim
theorem vf.some{K:Jv}{H:Hp}{O:ay}:∀{bs:ay}{xs:List D},vf K H O bs xs->∀b∈bs,∃o,H b=some o
 |[],_,_,_,hb=>nomatch hb
 |b::bs,x::xs,h,b',hb=>by
  rcases List.mem_cons.mp hb with z|z
  ·rw[z];exact h.1.some
  ·exact vf.some h.2 b' z
 |_::_,[],h,_,_=>h.elim
theorem rJ.some{K:Jv}{H:Hp}{O:ay}{a:Kv}{bs:ay}{d:D}(h:rJ K H O a bs d):∀b∈a::bs,∃o,H b=some o:=λb hb=>by
 obtain⟨xs,h1,h2⟩:=h;rcases List.mem_cons.mp hb with z|z
 ·rw[z];rcases h2 with⟨_,q⟩|⟨_,_,q,_⟩|⟨_,_,q⟩<;>exact⟨_,q⟩
 ·exact h1.some b z
theorem rJ.mono{K:Jv}{H H':Hp}{O O':ay}{a:Kv}{bs:ay}{d:D}(h:rJ K H O a bs d)(s:aQ (hid H O) (hid H' O'))(e:∀b∈a::bs,(∃o,H b=Option.some o)->H' b=H b):rJ K H' O' a bs d:=by
 have ea:=e a G8 (h.some a G8);obtain⟨xs,h1,h2⟩:=h;refine⟨xs,h1.mono s λb hb=>e b (G9 _ hb),?_⟩;rw[ea];exact h2
theorem wA.to{K:Jv}{Hb Hb':Hp}{Ob O O':ay}{H H':Hp}{ρ ρ':aw}{σ σ':St}{i:Nat}{d:D}(h:wA K Hb Ob O H ρ σ i d)(hσ:σ'[i]?=σ[i]?)(s:aQ (hid H O) (hid H' O'))
  (k:∀b,b∈O->Hb b=none->b∉Ob->(∀(j:Nat) d',ρ[j]?=some (some (.own d'))->σ[j]?≠some (some (.ref b)))->(∃o,H b=some o)->H' b=H b/\b∈O'/\Hb' b=none/\∀(j:Nat) d',ρ'[j]?=some (some (.own d'))->σ'[j]?≠some (some (.ref b)))
  (n:∀(j:Nat) d',ρ'[j]?=some (some (.nest d'))->∃d2,ρ[j]?=some (some (.nest d2))):wA K Hb' Ob O' H' ρ' σ' i d:=by
 obtain⟨a,bs,h1,h2,h3,h4,h5⟩:=h;refine⟨a,bs,hσ.trans h1,h2.mono s λb hb ho=>?_,h3,λb hb=>?_,λj d' q=>?_⟩
 ·obtain⟨q1,q2,q3,q4⟩:=h4 b hb;exact(k b q1 q2 q3 q4 ho).1
 ·obtain⟨q1,q2,q3,q4⟩:=h4 b hb;obtain⟨_,w2,w3,w4⟩:=k b q1 q2 q3 q4 (h2.some b hb);exact⟨w2,w3,q3,w4⟩
 ·obtain⟨d2,q⟩:=n j d' q;exact h5 j d2 q
structure cF(K:Jv)(Hb:Hp)(Ob O:ay)(H:Hp)(ρ:aw)(σ:St):Prop where
 env:cw K O H ρ σ
 base:Base Hb Ob H O
 mine:∀(i:Nat) xs a,ρ[i]?=some (some (.own xs))->σ[i]?=some (some (.ref a))->Hb a=none/\a∉Ob
 nst:∀(i:Nat) d,ρ[i]?=some (some (.nest d))->wA K Hb Ob O H ρ σ i d
theorem Base.same'{Hb:Hp}{Ob:ay}{H H':Hp}{O:ay}(b:Base Hb Ob H O)(s:aQ H H'):Base Hb Ob H' O:=⟨b.same.trans s,b.sub,b.new⟩
theorem cF.same{K:Jv}{Hb:Hp}{Ob O:ay}{H H':Hp}{ρ:aw}{σ:St}(h:cF K Hb Ob O H ρ σ)(s:aQ H H'):cF K Hb Ob O H' ρ σ:=⟨h.env.same s,h.base.same' s,h.mine,λi d q=>(h.nst i d q).to rfl (bq s) (λb q1 q2 q3 q4 ⟨o,ho⟩=>⟨by rw[ho,s _ _ ho],q1,q2,q4⟩) λj d' z=>⟨d',z⟩⟩
theorem cF.after{K:Jv}{Hb:Hp}{Ob O:ay}{H:Hp}{ρ ρ':aw}{σ σ':St}(S:cF K Hb Ob O H ρ σ)(E':cw K O H ρ' σ')(own:∀(i:Nat) x,ρ'[i]?=some (some x)->(∀d,x≠.val d)->σ'[i]?=σ[i]?/\ρ[i]?=some (some x)):cF K Hb Ob O H ρ' σ':=
 ⟨E',S.base,fun i xs a q1 q2=>by
  obtain⟨w1,w2⟩:=own i _ q1 (λ_ z=>nomatch z);rw[w1]at q2;exact S.mine i xs a w2 q2,λi d q=>by
  obtain⟨w1,w2⟩:=own i _ q (λ_ z=>nomatch z);refine(S.nst i d w2).to w1 (λ_ _ z=>z) (λb q1 q2 q3 q4 _=>⟨rfl,q1,q2,λl d' w=>?_⟩) λl d' w=>⟨d',(own l _ w (λ_ z=>nomatch z)).2⟩
  obtain⟨z1,z2⟩:=own l _ w (λ_ z=>nomatch z);rw[z1];exact q4 l d' z2⟩
structure DI(X:Cx)(Hb:Hp)(Ob:ay)(E:Ends)(k:Ks)(r:R D):Prop where
 ne:r≠un
 nx:∀O ρ σ H,cF X.K Hb Ob O H ρ σ->k.nx ρ=r->E.nx σ H
 bk:∀O ρ σ H,cF X.K Hb Ob O H ρ σ->k.bk ρ=r->E.bk σ H
 ct:∀O ρ σ H,cF X.K Hb Ob O H ρ σ->k.ct ρ=r->E.ct σ H
 rt:∀d O v H,r=.ok d->Base Hb Ob H O->bM X.K (hid H O) d v->E.rt v H
 ex:∀O ρ σ H x,cF X.K Hb Ob O H ρ σ->k.ex x ρ=r->AG X σ O H x
noncomputable def Et(X:Cx)(Hb:Hp)(Ob:ay)(F:bJ):TS:=λE σ H=>∃O ρ k r,cF X.K Hb Ob O H ρ σ/\F k ρ=r/\DI X Hb Ob E k r
noncomputable def FS(X:Cx)(st:Kx)(F:bJ):Prop:=∀Hb Ob,PS X st (Et X Hb Ob F)
noncomputable def D6(X:Cx)(st:cD)(F:bJ):Prop:=∀Hb Ob,og X st (Et X Hb Ob F)
theorem dE.on{X:Cx}{Hb:Hp}{Ob O:ay}{H:Hp}{ρ:aw}{σ:St}{E:Ends}{k:Ks}{r:R D}{α:Type}{fr:R α}{G:α->R D}{Q:α->Prop}(h:jF fr k ρ G=r)(hk:DI X Hb Ob E k r)(S:cF X.K Hb Ob O H ρ σ)(q:∀a,G a=r->Q a):dE X σ O H fr Q:=by
 match fr,h with
 |.ok a,h=>exact q a h
 |.error (some x),h=>exact hk.ex O ρ σ H x S h
 |.error none,h=>exact absurd h.symm hk.ne
section
variable{X:Cx}{st:Kx}{rest body:cD}{pos:Pos}
noncomputable def aW:bJ:=λk ρ=>k.nx ρ
noncomputable def au(F1 F2:bJ):bJ:=λk ρ=>F1 {k with nx:=F2 k} ρ
noncomputable def aY(f:FX):bJ:=λk ρ=>jF (f ρ) k ρ .ok
noncomputable def CA:bJ:=λ_ _=>.ok .non
noncomputable def lX(f:FX):bJ:=λk ρ=>jF (f ρ) k ρ λ_=>k.nx ρ
noncomputable def cU(c:bu)(A B:bJ):bJ:=λk ρ=>jF (c ρ) k ρ λb=>if b then A k ρ else B k ρ
noncomputable def aC(i:Nat)(f:FX):bJ:=λk ρ=>jF (f ρ) k ρ λd=>k.nx (setV i d ρ)
theorem cF.setV{K:Jv}{Hb:Hp}{Ob O:ay}{H:Hp}{ρ:aw}{σ:St}(E:cF K Hb Ob O H ρ σ){i:Nat}{d:D}{v:V}(hi:i<σ.length)(hd:bM K (hid H O) d v):cF K Hb Ob O H (setV i d ρ) (σ.set i (some v)):=
  ⟨E.env.setV hi hd,E.base,fun j xs a e1 e2=>by
    rcases aS e1 with⟨_,q⟩|⟨ne,q⟩
    ·cases q
    · rw[Hg (Ne.symm ne)]at e2
      exact E.mine j xs a q e2,
   λj dn e=>by
    rcases aS e with⟨_,q⟩|⟨ne,q⟩
    ·cases q
    · refine(E.nst j dn q).to (Hg (Ne.symm ne)) (λ_ _ z=>z) (λb q1 q2 q3 q4 _=>⟨rfl,q1,q2,λl d' w=>?_⟩) λl d' w=>?_
      · rcases aS w with⟨_,z⟩|⟨nl,z⟩
        ·cases z
        ·rw[Hg (Ne.symm nl)];exact q4 l d' z
      · rcases aS w with⟨_,z⟩|⟨_,z⟩
        ·cases z
        ·exact⟨d',z⟩⟩
theorem mC{f:FX}{i:Nat}(hi:i<X.N.length)(h:PS X st (ww (tF X f) (lO i))):FS X st (aC i f):=λHb Ob pins s σ H E I ⟨O,ρ,k,r,S,hF,hk⟩=>
 h pins s σ H E I ⟨O,ρ,S.env,dE.on hF hk S λd e v H1 s1 d1=>hk.nx O _ _ H1 ((S.same s1).setV (by rw[I.len];exact hi) d1) e⟩
noncomputable def v8(f:FX)(g:GF):bJ:=λk ρ=>jF (f ρ) k ρ λd=>(rO (g d ρ)).bind k.nx
noncomputable def kill(is:List Nat)(ρ:aw):aw:=is.foldl (λρ i=>ρ.set i none) ρ
theorem eG:∀(is:List Nat)(ρ:aw)(i:Nat)(x:S),(kill is ρ)[i]?=some (some x)->ρ[i]?=some (some x)
 |[],ρ,i,x,e=>e
 |j::is,ρ,i,x,e=>by
  rcases aS (eG is (ρ.set j none) i x e)with⟨_,q⟩|⟨_,q⟩
  ·cases q
  ·exact q
theorem cF.kill{K:Jv}{Hb:Hp}{Ob O:ay}{H:Hp}{ρ:aw}{σ:St}(E:cF K Hb Ob O H ρ σ)(is:List Nat):cF K Hb Ob O H (kill is ρ) σ:=
 ⟨E.env.forget (eG is ρ),E.base,λi xs a e1 e2=>E.mine i xs a (eG is ρ i _ e1) e2,λi d q=>(E.nst i d (eG is ρ i _ q)).to rfl (λ_ _ z=>z) (λb q1 q2 q3 q4 _=>⟨rfl,q1,q2,λl d' w=>q4 l d' (eG is ρ l _ w)⟩) λl d' w=>⟨d',eG is ρ l _ w⟩⟩
noncomputable def dR(is:List Nat)(F:bJ):bJ:=λk ρ=>F k (kill is ρ)
end
noncomputable def cW(g:GF)(B:bJ)(k:Ks):List D->aw->R D
 |[],ρ=>k.nx ρ
 |d::ds,ρ=>(rO (g d ρ)).bind λρ1=>B ⟨cW g B k ds,k.nx,cW g B k ds,k.ex⟩ ρ1
noncomputable def ll(G:aN)(g:GF)(B:bJ):bJ:=λk ρ=>jF (G ρ) k ρ λds=>cW g B k ds ρ
noncomputable def lb(H:Hp)(O Ob:ay):Hp:=λb=>if b∈O/\b∉Ob then none else H b
theorem nD{H:Hp}{O Ob:ay}{b:Kv}(h1:b∈O)(h2:b∉Ob):lb H O Ob b=none:=by unfold lb;rw[if_pos ⟨h1,h2⟩]
theorem yA{H:Hp}{O Ob:ay}{b:Kv}{o:HO}(h:lb H O Ob b=some o):H b=some o/\¬(b∈O/\b∉Ob):=by
 unfold lb at h;split at h
 ·cases h
 ·rename_i n;exact⟨h,n⟩
theorem wI{H:Hp}{O Ob:ay}{b:Kv}{o:HO}(h:H b=some o)(n:¬(b∈O/\b∉Ob)):lb H O Ob b=some o:=by unfold lb;rw[if_neg n];exact h
theorem Base.loop{Hb:Hp}{Ob:ay}{H:Hp}{O:ay}(b:Base Hb Ob H O):Base (lb H O Ob) Ob H O:=
 ⟨fun c o h=>(yA h).1,b.sub,fun a ha=>by
  by_cases h:a∈Ob
  ·exact .inl h
  ·exact .inr (nD ha h)⟩
theorem Base.back{Hb:Hp}{Ob:ay}{H H':Hp}{O O':ay}(b:Base Hb Ob H O)(b':Base (lb H O Ob) Ob H' O'):Base Hb Ob H' O':=by
 have up:aQ Hb (lb H O Ob):=λc o h=>wI (b.same c o h) λ⟨z1,z2⟩=>by
  rcases b.new c z1 with z|z
  ·exact z2 z
  ·rw[z]at h;cases h
 exact⟨up.trans b'.same,b'.sub,λa ha=>(b'.new a ha).imp id up.free⟩
theorem cF.loop{K:Jv}{Hb:Hp}{Ob O:ay}{H:Hp}{ρ:aw}{σ:St}(E:cF K Hb Ob O H ρ σ):cF K (lb H O Ob) Ob O H ρ σ:=
 ⟨E.env,E.base.loop,fun i xs a e1 e2=>by
  obtain⟨_,n⟩:=E.mine i xs a e1 e2;obtain⟨a',e3,e4,_⟩:=E.env.own i xs e1;rw[e2]at e3;cases e3;exact⟨nD e4 n,n⟩,λi d q=>(E.nst i d q).to rfl (λ_ _ z=>z) (λb q1 q2 q3 q4 _=>⟨rfl,q1,nD q1 q3,q4⟩) λl d' w=>⟨d',w⟩⟩
theorem cF.back{K:Jv}{Hb:Hp}{Ob O O':ay}{H H':Hp}{ρ':aw}{σ':St}(b:Base Hb Ob H O)(E:cF K (lb H O Ob) Ob O' H' ρ' σ'):cF K Hb Ob O' H' ρ' σ':=
 have up:aQ Hb (lb H O Ob):=λc o h=>wI (b.same c o h) λ⟨z1,z2⟩=>by
  rcases b.new c z1 with z|z
  ·exact z2 z
  ·rw[z]at h;cases h
 ⟨E.env,b.back E.base,fun i xs a e1 e2=>by
  obtain⟨z,n⟩:=E.mine i xs a e1 e2;exact⟨up.free z,n⟩,λi d q=>(E.nst i d q).to rfl (λ_ _ z=>z) (λb q1 q2 q3 q4 _=>⟨rfl,q1,up.free q2,q4⟩) λl d' w=>⟨d',w⟩⟩
theorem ve{Hb:Hp}{Ob O O':ay}{H H':Hp}(b:Base Hb Ob H O)(b':Base (lb H O Ob) Ob H' O'):aQ (hid H O) (hid H' O'):=λc o h=>by
 unfold hid at h ⊢;by_cases hc:c∈O
 ·rw[if_pos hc]at h;cases h
 ·rw[if_neg hc]at h;have h1:lb H O Ob c=some o:=wI h λz=>hc z.1;rw[if_neg]
  ·exact b'.same _ _ h1
  ·intro z;rcases b'.new c z with z|z
   ·exact hc (b.sub c z)
   ·rw[h1]at z;cases z
theorem DI.loop{X:Cx}{Hb:Hp}{Ob O:ay}{H:Hp}{E E':Ends}{k k':Ks}{r:R D}(hk:DI X Hb Ob E k r)(b:Base Hb Ob H O)(hn:∀O' ρ' σ' H',cF X.K (lb H O Ob) Ob O' H' ρ' σ'->k'.nx ρ'=r->E'.nx σ' H')(hc:∀O' ρ' σ' H',cF X.K (lb H O Ob) Ob O' H' ρ' σ'->k'.ct ρ'=r->E'.ct σ' H')
    (eb:k'.bk=k.nx) (ee:k'.ex=k.ex) (Eb:E'.bk=E.nx) (Er:E'.rt=E.rt):DI X (lb H O Ob) Ob E' k' r:=
  ⟨hk.ne,hn,fun O' ρ' σ' H' S e=>by rw [Eb]; exact hk.nx O' ρ' σ' H' (S.back b) (by rw [<- eb]; exact e),hc,fun d O' v H' e b' dv=>by rw [Er]; exact hk.rt d O' v H' e (b.back b') dv,
   λO' ρ' σ' H' x S e=>hk.ex O' ρ' σ' H' x (S.back b) (by rw[<-ee];exact e)⟩
section
variable{X:Cx}{st:Kx}{rest body:cD}{pos:Pos}
end
end TG
namespace TG
open PySem PySem.Spec L2
variable[ax]
theorem cF.setO{K:Jv}{Hb:Hp}{Ob O:ay}{H:Hp}{ρ:aw}{σ:St}(E:cF K Hb Ob O H ρ σ){i:Nat}{d d':D}{a:Kv}{o:HO}(hi:ρ[i]?=some (some (.own d)))(ha:σ[i]?=some (some (.ref a)))(m:mK o)(new:fK K (upd H a o) O a d'):
  cF K Hb Ob O (upd H a o) (ρ.set i (some (.own d'))) σ:=by
 obtain⟨a',ha',haO,hat⟩:=E.env.own i d hi;rw[ha]at ha';cases ha';obtain⟨m1,m2⟩:=E.mine i d a hi ha;have s:aQ (hid H O) (hid (upd H a o) O):=ka haO;have own:∀(j:Nat) ys,(ρ.set i (some (.own d')))[j]?=some (some (.own ys))->∃ys',ρ[j]?=some (some (.own ys')):=λj ys q=>by
  rcases aS q with⟨hj,_⟩|⟨_,q⟩
  ·rw[hj];exact⟨d,hi⟩
  ·exact⟨ys,q⟩
 refine⟨⟨λj d1 e=>?_,λj ys e=>?_,λj l ys zs b q1 q2 q3 q4=>?_,E.env.all.upd haO m⟩,⟨λb u h=>?_,E.base.sub,E.base.new⟩,λj ys b q1 q2=>?_,λj dn q=>?_⟩
 ·rcases aS e with⟨_,q⟩|⟨ne,q⟩
  ·cases q
  ·obtain⟨w,q1,q2⟩:=E.env.val j d1 q;exact⟨w,q1,q2.mono s⟩
 ·rcases aS e with⟨hj,q⟩|⟨ne,q⟩
  ·cases q;rw[hj];exact⟨a,ha,haO,new⟩
  ·obtain⟨b,q1,q2,q3⟩:=E.env.own j ys q;have nb:b≠a:=λz=>ne (E.env.one j i ys d a q hi (by rw[<-z];exact q1) ha);exact⟨b,q1,q2,q3.mono (by rw[av nb]) s⟩
 ·obtain⟨_,q1'⟩:=own j ys q1;obtain⟨_,q2'⟩:=own l zs q2;exact E.env.one j l _ _ b q1' q2' q3 q4
 ·have nb:b≠a:=λz=>by rw[z,m1]at h;cases h
  rw[av nb];exact E.base.same b u h
 ·obtain⟨ys',q⟩:=own j ys q1;exact E.mine j ys' b q q2
 ·have q:ρ[j]?=some (some (.nest dn)):=by
   rcases aS q with⟨_,z⟩|⟨_,z⟩
   ·cases z
   ·exact z
  refine(E.nst j dn q).to rfl s (λb q1 q2 q3 q4 _=>⟨av λz=>q4 i d hi (by rw[z];exact ha),q1,q2,λl d1 w=>?_⟩) λl d1 w=>?_
  ·obtain⟨_,w'⟩:=own l d1 w;exact q4 l _ w'
  ·rcases aS w with⟨_,z⟩|⟨_,z⟩
   ·cases z
   ·exact⟨d1,z⟩
theorem cF.setNew{K:Jv}{Hb:Hp}{Ob O:ay}{H H':Hp}{ρ:aw}{σ:St}(E:cF K Hb Ob O H ρ σ){i:Nat}{d:D}{p:Kv}(hi:i<σ.length)(sm:aQ H H')(hp:H p=none)(m:∃o,H' p=some o/\mK o)(new:fK K H' (p::O) p d):
  cF K Hb Ob (p::O) H' (ρ.set i (some (.own d))) (σ.set i (some (.ref p))):=by
 have hpO:p∉O:=E.env.all.not hp;have s:aQ (hid H O) (hid H' (p::O)):=λb o h=>by
  unfold hid at h ⊢;by_cases hb:b∈O
  ·rw[if_pos hb]at h;cases h
  ·rw[if_neg hb]at h;have ne:=aM h hp;rw[if_neg (by intro z;rcases List.mem_cons.mp z with z|z;exact ne z;exact hb z)];exact sm _ _ h
 have other:∀(j:Nat) xs,ρ[j]?=some (some (.own xs))->σ[j]?≠some (some (.ref p)):=λj xs e z=>by
  obtain⟨a,e1,e2,e3⟩:=E.env.own j xs e;rw[z]at e1;cases e1;obtain⟨o,e3⟩:=e3.some;rw[hp]at e3;cases e3
 refine⟨⟨λj d' e=>?_,λj xs e=>?_,λj k xs ys a e1 e2 e3 e4=>?_,⟨(E.env.all.same sm).1,λa ha=>?_⟩⟩,⟨E.base.same.trans sm,λa ha=>G9 _ (E.base.sub a ha),λa ha=>?_⟩,λj xs a e1 e2=>?_,λj dn e=>?_⟩
 ·rcases aS e with⟨_,q⟩|⟨ne,q⟩
  ·cases q
  ·obtain⟨v,q1,q2⟩:=E.env.val j d' q;exact⟨v,by rw[Hg (Ne.symm ne)];exact q1,q2.mono s⟩
 ·rcases aS e with⟨hj,q⟩|⟨ne,q⟩
  ·cases q;rw[hj];exact⟨p,Hf hi,G8,new⟩
  ·obtain⟨a,q1,q2,q3⟩:=E.env.own j xs q;obtain⟨o,ho⟩:=q3.some;exact⟨a,by rw[Hg (Ne.symm ne)];exact q1,G9 _ q2,q3.mono (rF sm ho) s⟩
 ·rcases aS e1 with⟨hj,q1⟩|⟨nj,q1⟩
  ·rcases aS e2 with⟨hk,q2⟩|⟨nk,q2⟩
   ·exact hj.trans hk.symm
   ·rw[hj,Hf hi]at e3;cases e3;rw[Hg (Ne.symm nk)]at e4;exact absurd e4 (other k ys q2)
  ·rcases aS e2 with⟨hk,q2⟩|⟨nk,q2⟩
   ·rw[hk,Hf hi]at e4;cases e4;rw[Hg (Ne.symm nj)]at e3;exact absurd e3 (other j xs q1)
   ·rw[Hg (Ne.symm nj)]at e3;rw[Hg (Ne.symm nk)]at e4;exact E.env.one j k xs ys a q1 q2 e3 e4
 ·rcases List.mem_cons.mp ha with rfl|ha
  ·exact m
  ·exact(E.env.all.same sm).2 a ha
 ·rcases List.mem_cons.mp ha with rfl|ha
  ·exact .inr (E.base.same.free hp)
  ·exact E.base.new a ha
 ·rcases aS e1 with⟨hj,q1⟩|⟨nj,q1⟩
  ·rw[hj,Hf hi]at e2;cases e2;exact⟨E.base.same.free hp,λz=>hpO (E.base.sub p z)⟩
  ·rw[Hg (Ne.symm nj)]at e2;exact E.mine j xs a q1 e2
 ·rcases aS e with⟨_,q⟩|⟨ne,q⟩
  ·cases q
  ·refine(E.nst j dn q).to (Hg (Ne.symm ne)) s (λb q1 q2 q3 q4 ⟨o,ho⟩=>⟨by rw[ho,sm _ _ ho],G9 _ q1,q2,λl d1 w=>?_⟩) λl d1 w=>?_
   ·rcases aS w with⟨hl,z⟩|⟨nl,z⟩
    ·rw[hl,Hf hi];intro z;cases z;rw[hp]at ho;cases ho
    ·rw[Hg (Ne.symm nl)];exact q4 l d1 z
   ·rcases aS w with⟨_,z⟩|⟨_,z⟩
    ·cases z
    ·exact⟨d1,z⟩
noncomputable def EW(X:Cx)(F:FX):TE:=λσ H Q=>∃O ρ,cw X.K O H ρ σ/\dE X σ O H (F ρ) λd=>∀p H',aQ H H'->H p=none->(∃o,H' p=some o/\mK o)->fK X.K H' (p::O) p d->Q (.ref p) H'
noncomputable def FN(X:Cx)(e:Kw)(F:FX):Prop:=PE X e (EW X F)
section
variable{X:Cx}{pos:Pos}
theorem gg{K:Jv}{H:Hp}{O:ay}{p:Kv}{ds:List D}{vs:aB}(hp:H p=none)(d:aK K (hid H O) ds vs):fK K (upd H p (.lst vs)) (p::O) p (.lst ds):=⟨_,vs,aA,rfl,d.mono (pc hp)⟩
noncomputable def la(i:Nat)(f:FX):bJ:=λk ρ=>jF (f ρ) k ρ λd=>k.nx (ρ.set i (some (.own d)))
theorem mD{st:Kx}{f:FX}{i:Nat}(hi:i<X.N.length)(h:PS X st (ww (EW X f) (lO i))):FS X st (la i f):=λHb Ob pins s σ H E I ⟨O,ρ,k,r,S,hF,hk⟩=>
 h pins s σ H E I ⟨O,ρ,S.env,dE.on hF hk S λd e p H1 s1 hp m o=>hk.nx _ _ _ H1 (S.setNew (by rw[I.len];exact hi) s1 hp m o) e⟩
end
theorem zM{X:Cx}{F:FX}:∀σ H Q,EW X F σ H Q->FZ X F σ H Q:=λσ H Q ⟨O,ρ,E,hF⟩=>⟨O,ρ,E,hF.imp λd q D H' total acc e sm hD hD' dn=>by
 subst e;exact q D H' sm hD ⟨_,hD',trivial⟩ ⟨_,acc,hD',rfl,dn⟩⟩
noncomputable def zF(i:Nat)(u:List D->List D->Option (List D))(f:aN):bJ:=λk ρ=>match ρ[i]? with
 |some (some (.own (.lst xs)))=>jF (f ρ) k ρ λds=>(rO (u xs ds)).bind λys=>k.nx (ρ.set i (some (.own (.lst ys))))
 |_=>un
noncomputable def zY(K:Jv)(r:V->aB->Hp->VK->Prop)(u:List D->List D->Option (List D)):Prop:=
 ∀(H:Hp)(O:ay)(a:Kv)(xs ys as:List D)(ws vs:aB)(Q:VK),cB H O->a∈O->H a=some (.lst ws)->aK K (hid H O) xs ws->aK K (hid H O) as vs->u xs as=some ys->(∀ws' v,aK K (hid H O) ys ws'->Q v (upd H a (.lst ws')))->r (.ref a) vs H Q
theorem jz{K:Jv}{H:Hp}{O:ay}{a:Kv}{ys:List D}{ws:aB}(ha:a∈O)(h:aK K (hid H O) ys ws):fK K (upd H a (.lst ws)) O a (.lst ys):=⟨_,ws,aA,rfl,h.mono (ka ha)⟩
noncomputable def oC(xs:List D)(ds:List D):Option (List D):=match ds with
 |[y]=>if small (xs.length+1)then some (xs++[y])else none
 |_=>none
theorem tG{K:Jv}:zY K qY oC:=λH O a xs ys as ws vs Q hO haO ha dx da hu q=>by
 unfold oC at hu;split at hu
 ·rename_i y;obtain⟨h1,h2⟩:=a8 hu;subst h2;obtain⟨v,rfl,dv⟩:=da.one
  have:=bU h1
  rw[dx.length]at this;exact⟨a,ws,v,rfl,rfl,ha,by omega,q _ _ (dx.snoc dv)⟩
 ·cases hu
noncomputable def GV(xs:List D)(ds:List D):Option (List D):=match ds with
 |[.int i,y]=>if decide (0<=i/\i<=xs.length)&&small (xs.length+1)then some (xs.take i.toNat++y::xs.drop i.toNat)else none
 |_=>none
noncomputable def ic(i:Nat)(fi fv:FX):bJ:=λk ρ=>match ρ[i]? with
 |some (some (.own (.lst xs)))=>jF ((fv ρ).bind λy=>(fi ρ).bind λj=>.ok (y,j)) k ρ λp=>match p.2 with
  |.int j=>match pH xs.length j with
   |some n=>k.nx (ρ.set i (some (.own (.lst (xs.set n p.1)))))
   |none=>un
  |_=>un
 |_=>un
theorem x3{X:Cx}{i:Nat}{x:Str}{idx value:Kw}{fi fv:FX}{npos tpos pos:Pos}(hx:PE X (.Name x npos) (km i))(hi:FE X idx fi)(hv:FE X value fv)
  (hs:swapsWithSole [.Subscript (.Name x npos) idx tpos] value pos.line X.env=pure false:=by rfl) (hw:swappedStores [.Subscript (.Name x npos) idx tpos] value X.env=pure none:=by rfl)
  (h1:(assignEach [.Subscript (.Name x npos) idx tpos] X.env).map (·.2)=[assign (.Subscript (.Name x npos) idx tpos) X.env]:=by rfl)
  (hg:PG X (.Subscript (.Name x npos) idx tpos) (L2.cI (km i) (tF X fi) zX)):
  FS X (.Assign [.Subscript (.Name x npos) idx tpos] value pos) (ic i fi fv):=λHb Ob pins s σ H E I ⟨O,ρ,k,rr,S,hF,hk⟩=>by
 unfold ic at hF;split at hF
 ·rename_i xs hxs;obtain⟨a,ha,haO,hat⟩:=S.env.own i _ hxs;obtain⟨o,vs0,ho,eo,dn⟩:=hat;subst eo;have hP:=dE.on hF hk S (Q:=λp=>(match p.2 with|.int j=>(match pH xs.length j with|some n=>k.nx (ρ.set i (some (.own (.lst (xs.set n p.1)))))|none=>un)|_=>un)=rr) λp e=>e;refine v6 hv hg hs hw h1 pins s σ H E I ⟨O,ρ,S.env,(dE.bind hP).imp λy hP v H1 s1 d1=>?_⟩;have S1:=S.same s1;refine⟨.ref a,ha,O,ρ,S1.env,((dE.bind hP).mono s1).imp λj hP w H2 s2 d2=>?_⟩;have S2:=S1.same s2;cases j with
  |int j=>
   cases hn:pH xs.length j with
   |none=>
    have e:(match pH xs.length j with|some n=>k.nx (ρ.set i (some (.own (.lst (xs.set n y)))))|none=>un)=rr:=hP;rw[hn]at e;exact absurd e.symm hk.ne
   |some n=>
    have e:(match pH xs.length j with|some n=>k.nx (ρ.set i (some (.own (.lst (xs.set n y)))))|none=>un)=rr:=hP;rw[hn]at e;have s12:=s1.trans s2;refine⟨a,vs0,j,n,rfl,dD.mp d2,s12 _ _ ho,by rw[<-dn.length];exact hn,hk.nx O _ σ _ (S2.setO hxs ha trivial (jz haO ?_)) e⟩;exact(dn.mono (bq s12)).set (d1.mono (bq s2)) n
  |_=>exact absurd (show un=rr from hP).symm hk.ne
 ·exact absurd hF.symm hk.ne
noncomputable def frz(i:Nat)(ρ:aw):aw:=match ρ[i]? with
 |some (some (.own d))=>setV i d ρ
 |_=>ρ
theorem cw.frz{K:Jv}{O:ay}{H:Hp}{ρ:aw}{σ:St}(E:cw K O H ρ σ)(i:Nat):∃O',cw K O' H (frz i ρ) σ/\(∀b∈O',b∈O)/\∀b∈O,b∉O'->∃d,ρ[i]?=some (some (.own d))/\σ[i]?=some (some (.ref b)):=by
 unfold TG.frz;split
 ·rename_i d hd;obtain⟨a,ha,haO,hat⟩:=E.own i d hd;have sub:∀b∈O.filter (λb=>decide (b≠a)),b∈O:=λb hb=>(List.mem_filter.mp hb).1;have s:aQ (hid H O) (hid H (O.filter λb=>decide (b≠a))):=fQ sub;have na:a∉O.filter λb=>decide (b≠a):=λz=>absurd rfl (of_decide_eq_true (List.mem_filter.mp z).2);refine⟨O.filter λb=>decide (b≠a),⟨λj d' e=>?_,λj ys e=>?_,λj l ys zs b q1 q2 q3 q4=>?_,⟨E.all.1,λb hb=>E.all.2 b (sub b hb)⟩⟩,sub,λb hb nb=>?_⟩
  ·rcases aS e with⟨hj,q⟩|⟨ne,q⟩
   ·cases q;rw[hj];exact⟨.ref a,ha,hat.den s na⟩
   ·obtain⟨w,q1,q2⟩:=E.val j d' q;exact⟨w,q1,q2.mono s⟩
  ·rcases aS e with⟨_,q⟩|⟨ne,q⟩
   ·cases q
   ·obtain⟨b,q1,q2,q3⟩:=E.own j ys q;have nb:b≠a:=λz=>ne (E.one j i ys d a q hd (by rw[<-z];exact q1) ha);exact⟨b,q1,List.mem_filter.mpr ⟨q2,decide_eq_true nb⟩,q3.mono rfl s⟩
  ·rcases aS q1 with⟨_,q⟩|⟨_,q⟩
   ·cases q
   ·rcases aS q2 with⟨_,q'⟩|⟨_,q'⟩
    ·cases q'
    ·exact E.one j l ys zs b q q' q3 q4
  ·by_cases z:b=a
   ·exact⟨d,hd,by rw[z];exact ha⟩
   ·exact absurd (List.mem_filter.mpr ⟨hb,decide_eq_true z⟩) nb
 ·exact⟨O,E,λ_ z=>z,λb hb nb=>absurd hb nb⟩
theorem cF.frz{K:Jv}{Hb:Hp}{Ob O:ay}{H:Hp}{ρ:aw}{σ:St}(E:cF K Hb Ob O H ρ σ)(i:Nat):∃O',cF K Hb Ob O' H (frz i ρ) σ:=by
 obtain⟨O',E',sub,gone⟩:=E.env.frz i;refine⟨O',E',⟨E.base.same,λa ha=>?_,λa ha=>E.base.new a (sub a ha)⟩,λj xs a q1 q2=>?_,λj dn q1=>?_⟩
 ·by_cases z:a∈O'
  ·exact z
  ·obtain⟨d,e1,e2⟩:=gone a (E.base.sub a ha) z;exact absurd ha (E.mine i d a e1 e2).2
 ·have q:ρ[j]?=some (some (.own xs)):=by
   unfold TG.frz at q1;split at q1
   ·rcases aS q1 with⟨_,q⟩|⟨_,q⟩
    ·cases q
    ·exact q
   ·exact q1
  exact E.mine j xs a q q2
 ·have bk:∀(l:Nat) x,(TG.frz i ρ)[l]?=some (some x)->(∀d,x≠.val d)->ρ[l]?=some (some x):=λl x e nv=>by
   unfold TG.frz at e;split at e
   ·rcases aS e with⟨_,q⟩|⟨_,q⟩
    ·cases q;exact absurd rfl (nv _)
    ·exact q
   ·exact e
  refine(E.nst j dn (bk j _ q1 (λ_ z=>nomatch z))).to rfl (fQ sub) (λb w1 w2 w3 w4 _=>⟨rfl,?_,w2,λl d1 w=>w4 l d1 (bk l _ w (λ_ z=>nomatch z))⟩) λl d1 w=>⟨d1,bk l _ w (λ_ z=>nomatch z)⟩
  by_cases z:b∈O'
  ·exact z
  ·obtain⟨d,e1,e2⟩:=gone b w1 z;exact absurd e2 (w4 i d e1)
noncomputable def oV(i:Nat)(F:bJ):bJ:=λk ρ=>F k (frz i ρ)
mutual
noncomputable def lf:D->Bool
 |.tup xs=>Ee xs
 |.lst _=>false
 |.dct _ _=>false
 |.obj _ _ vs=>Ee vs
 |.exc _ _ _=>false
 |_=>true
noncomputable def Ee:List D->Bool
 |[]=>true
 |x::xs=>lf x&&Ee xs
end
noncomputable def frzs(is:List Nat)(ρ:aw):aw:=is.foldl (λρ i=>frz i ρ) ρ
end TG
namespace TG
open PySem PySem.Spec L2
variable[ax]
noncomputable def uH(K:Jv)(n:Nat)(g:cQ):Sp:=λvs H Q E=>∃O ds,vs.length=n/\cB H O/\aK K (hid H O) ds vs/\match g ds with
 |.ok d=>∀v H',aQ H H'->bM K (hid H' O) d v->Q v H'
 |.error (some x)=>El K H O x E
 |.error none=>False
section
variable{X:Cx}{k:Nat}{f C:Kv}{fd:Ln}{ps:ap}{sp:Sp}{x m:Str}{p pos apos:Pos}{e o:Kw}{es:aU}{ta:TE}{t:TA}
theorem nz{pins:aR}{σ:St}{H:Hp}{s:Ky}{Q:VK}{E:XK}{us:aL}{vs:aB}(F:dJ X.prog X.w X.K X.mg X.base (iD X.prog X.w) k f fd ps sp)(hr:dr k X.A)(hb:Binds X.K fd ps [])(hx:fX (iD X.prog X.w) X σ E)
  (I:Inv X pins σ H s) (r:Vals vs us) (h:sp vs H Q E):KO (model X.prog X.w) X.A (call (.ref f) us) (EP X pins σ Q) X.xe s:=by
 have hl:(us++[]).length=ps.length:=by rw[Hu,<-r.length];exact F.len _ _ _ _ h
 have hb':=hb s us I.kIn hl;rw[Hu]at hb';refine Lq (Lr (F.run X.A X.stack s H ⟨us,[]⟩ us vs Q E hr I.env0 hb' r h) λr s' hq=>?_);cases r with
 |error e=>exact hx pins H s e s' I hq
 |ok fl=>
  cases fl with
  |ret u=>exact I.after hq
  |next=>exact False.elim hq
  |brk=>exact False.elim hq
  |cont=>exact False.elim hq
noncomputable def vh(X:Cx)(sp:Sp)(t:TA):TE:=λσ H Q=>t σ H λvs H1=>∃E,fX (iD X.prog X.w) X σ E/\sp vs H1 Q E
theorem vz(F:dJ X.prog X.w X.K X.mg X.base (iD X.prog X.w) k f fd ps sp)(hr:dr k X.A)(hg:Gl X x)(hm:X.mg x=some (.ref f))(hk:JK X.K (.ref f)=true)(hb:Binds X.K fd ps [])
  (ha:PA X (e::es) t) (hdb:(x==("__debug__":Str))=false:=by decide) (he:KP (e::es) X.env=(false,eval e X.env)::KP es X.env:=by rfl) (hpl:(backTo pos (KP es X.env)).any (·.1)=false:=by rfl):
  PE X (.Call (.Name x p) (e::es) [] pos) (vh X sp t):=by
 intro pins s σ H Q I h;refine Ls (gx I hg hm ?_ hdb);refine JL (h₀:=X.base) I.ok.mod.kin hk (bV (ha pos pins s σ H _ I h) λus s1 ⟨vs,H1,I1,r,E,hx,q⟩=>⟨I1.kIn,?_⟩) he hpl;exact nz F hr hb hx I1 r q
theorem uo{n:Nat}{g:cQ}{f:aN}(hn:∀ds,g ds≠un->ds.length=n):∀σ H Q,tF X (fR g f) σ H Q->vh X (uH X.K n g) (Fc X f) σ H Q:=λσ H Q ⟨O,ρ,E,hF⟩=>
 ⟨O,ρ,E,(dE.bind hF).imp fun ds hF vs H1 s1 d1=>by
  cases hg:g ds with
  |ok d=>
   rw[hg]at hF;refine⟨E0,rH,O,ds,by rw[<-d1.length];exact hn ds (by rw[hg];intro z;cases z),E.all.same s1,d1,?_⟩;rw[hg];exact λv H2 s2 d2=>hF v H2 (s1.trans s2) d2
  |error z=>
   rw[hg]at hF;cases z with
   |none=>exact hF.elim
   |some x=>
    refine⟨rY X O H1 x,qR (AG.mono hF s1),O,ds,by rw[<-d1.length];exact hn ds (by rw[hg];intro z;cases z),E.all.same s1,d1,?_⟩;rw[hg];exact ph⟩
end
noncomputable def Callee(P:KA)(w:Kz)(K:Jv)(mg:bC)(base:KC)(k:Nat)(x:Str)(ps:ap)(g:cQ):Prop:=
 ∃f fd,dJ P w K mg base (iD P w) k f fd ps (uH K ps.length g)/\Binds K fd ps []/\JK K (.ref f)=true/\mg x=some (.ref f)
noncomputable def Ar(n:Nat)(g:cQ):Prop:=∀ds,g ds≠un->ds.length=n
noncomputable def K0:Ks:={nx:=λ_=>.ok .non}
noncomputable def env0(n:Nat)(ds:List D):aw:=ds.map (λd=>some (.val d))++List.replicate (n-ds.length) none
noncomputable def aF(B:bJ)(np n:Nat):cQ:=λds=>if ds.length=np then B K0 (env0 n ds)else un
theorem kq{B:bJ}{np n:Nat}:Ar np (aF B np n):=λds h=>by
 unfold aF at h;split at h
 ·assumption
 ·exact absurd rfl h
theorem f9{n:Nat}{ds:List D}(i:Nat)(x:S)(e:(env0 n ds)[i]?=some (some x)):∃d,ds[i]?=some d/\x=.val d:=by
 unfold env0 at e;by_cases hi:i<ds.length
 ·rw[HA (by rw[Hr];exact hi),HB,Ia hi]at e;have e':some (S.val ds[i])=some x:=Option.some.inj e;exact⟨ds[i],by rw[Ia hi],(Option.some.inj e').symm⟩
 ·rw[Hy (by rw[Hr];omega),Hr,Hz]at e;split at e
  ·cases e
  ·cases e
theorem qa{K:Jv}{O:ay}{H:Hp}{N:ap}{ds:List D}{vs:aB}(hO:cB H O)(h:aK K (hid H O) ds vs):cw K O H (env0 N.length ds) (L2.start N vs):=by
 refine⟨λi d e=>?_,λi xs e=>?_,λi j xs ys a e=>?_,hO⟩
 ·obtain⟨d',e1,e2⟩:=f9 i _ e;cases e2;obtain⟨v,e3,e4⟩:=h.get e1;refine⟨v,?_,e4⟩;unfold L2.start;have hi:i<vs.length:=(List.getElem?_eq_some_iff.mp e3).1;rw[HA (by rw[Hr];exact hi),HB,e3];rfl
 ·obtain⟨d',_,e2⟩:=f9 i _ e;cases e2
 ·obtain⟨d',_,e2⟩:=f9 i _ e;cases e2
section
variable{P:KA}{w:Kz}{K:Jv}{mg:bC}{base:KC}
structure BodyOk(P:KA)(w:Kz)(K:Jv)(mg:bC)(base:KC)(k:Nat)(N:ap)(qual:Str)(st:Kx)(f:Kv)(B:bJ):Prop where
 h:∀(cdv:Kt)(A:KJ)(outer:List Env)(s:Ky)(H:Hp)(E:XK),dr k (A.deeper (Kh qual (aD st) s.heap.objs.size f cdv))->K5 (model P w) (A.deeper (Kh qual (aD st) s.heap.objs.size f cdv)) (Kh qual (aD st) s.heap.objs.size f cdv) (fG (iD P w) P w K mg base N qual (aD st) f cdv A outer s H E).xe->
  D6 (fG (iD P w) P w K mg base N qual (aD st) f cdv A outer s H E) (cA st) B
theorem E7{x qual:Str}{st:Kx}{f:Kv}{fd:Ln}{N ps:ap}{k:Nat}{sp:Sp}{CX:pV}(F:pq K x qual st f fd)(S:cu N ps (aD st))(len:∀vs H Q E,sp vs H Q E->vs.length=ps.length)
  (hbody:∀ (cdv:Kt) (A:KJ) (outer:List Env) (s:Ky) (H:Hp) (vs:aB) (Q:VK) (E:XK),dr k (A.deeper (Kh qual (aD st) s.heap.objs.size f cdv))->sp vs H Q E ->
   ∃t,og (fG CX P w K mg base N qual (aD st) f cdv A outer s H E) (cA st) t/\t {nx:=λ_ H'=>Q .non H',rt:=Q} (L2.start N vs) H):dJ P w K mg base CX (k+1) f fd ps sp:=by
 obtain⟨oc,od,kV,doc,pm,an,cdv,ct,osl,rfl,lk,hcd⟩:=F.ex;exact Af lk hcd S len λA outer s H vs Q E hr hsp=>hbody cdv A outer s H vs Q E hr hsp
theorem dJ.any{CX:pV}{k:Nat}{f:Kv}{fd:Ln}{ps:ap}{sp:Sp}(F:dJ P w K mg base CC k f fd ps sp):dJ P w K mg base CX k f fd ps sp:=
 ⟨F.len,fun A outer s H args us vs Q E hr he hb hv hs=>Lr (F.run A outer s H args us vs Q E hr he hb hv hs) fun r s' h=>by
  cases r with
  |error e=>exact False.elim h
  |ok fl=>cases fl<;>exact h⟩
theorem nh{x qual:Str}{st:Kx}{f:Kv}{fd:Ln}{N ps:ap}{k:Nat}{B:bJ}(F:pq K x qual st f fd)(SC:cu N ps (aD st))(hb:BodyOk P w K mg base k N qual st f B):
  dJ P w K mg base (iD P w) (k+1) f fd ps (uH K ps.length (aF B ps.length N.length)):=by
 refine E7 F SC (λvs H Q E h=>?_) λcdv A outer s H vs Q E hr h=>?_
 ·obtain⟨O,ds,h1,_⟩:=h;exact h1
 ·obtain⟨O,ds,h1,h2,h3,h4⟩:=h;have hl:ds.length=ps.length:=h3.length.trans h1;have e4:aF B ps.length N.length ds=B K0 (env0 N.length ds):=by unfold aF;rw[if_pos hl]
  rw[e4]at h4;refine⟨_,hb.h cdv A outer s H E hr PassesOwn.leaving H O,O,env0 N.length ds,K0,_,⟨qa h2 h3,⟨aQ.refl H,λ_ z=>z,λa z=>.inl z⟩,λi xs a e=>?_,λi d e=>by obtain⟨d',_,e2⟩:=f9 i _ e;cases e2⟩,rfl,?_⟩
  ·obtain⟨d',_,e2⟩:=f9 i _ e;cases e2
  ·generalize B K0 (env0 N.length ds)=r at h4;refine⟨λz=>by rw[z]at h4;exact h4,λO' ρ' σ' H' S e=>?_,λO' ρ' σ' H' S e=>?_,λO' ρ' σ' H' S e=>?_,λd O' v H' e b dv=>?_,λO' ρ' σ' H' x S e=>?_⟩
   ·have e:(.ok .non:R D)=r:=e;subst e;exact h4 .non H' S.base.same (fm.mpr rfl)
   ·have e:(un:R D)=r:=e;subst e;exact h4.elim
   ·have e:(un:R D)=r:=e;subst e;exact h4.elim
   ·subst e;exact h4 v H' b.same (dv.mono (fQ b.sub))
   ·have e:(.error (some x):R D)=r:=e;subst e;exact AW h4 S.base.same S.base.sub
theorem tx{x qual:Str}{st:Kx}{f:Kv}{fd:Ln}{N ps:ap}{k:Nat}{B:bJ}(F:pq K x qual st f fd)(b:Binds K fd ps [])(m:mg x=some (.ref f))(SC:cu N ps (aD st))(hb:BodyOk P w K mg base k N qual st f B):
  Callee P w K mg base (k+1) x ps (aF B ps.length N.length):=⟨f,fd,nh F SC hb,b,F.kp,m⟩
theorem oo{x qual:Str}{st:Kx}{f:Kv}{fd:Ln}{ps:ap}(k:Nat)(F:pq K x qual st f fd)(b:Binds K fd ps [])(m:mg x=some (.ref f)):Callee P w K mg base k x ps (λ_=>un):=by
 have no:∀vs H Q E,¬uH K ps.length (λ_=>un) vs H Q E:=λvs H Q E ⟨O,ds,_,_,_,e⟩=>e;exact⟨f,fd,⟨λvs H Q E h=>absurd h (no vs H Q E),λA outer s H args us vs Q E _ _ _ _ h=>absurd h (no vs H Q E)⟩,b,F.kp,m⟩
end
theorem jT{K:Jv}{T:String}(h1:JS K (.type "NoneType") (.type T)=some (T=="NoneType"))(h2:JS K (.type "bool") (.type T)=some (T=="bool"||T=="int"))(h3:JS K (.type "int") (.type T)=some (T=="int"))(h4:JS K (.type "str") (.type T)=some (T=="str"))
  (h5:JS K (.type "tuple") (.type T)=some (T=="tuple")) (h6:JS K (.type "list") (.type T)=some (T=="list")):pI K T:=λd hd=>by
 cases d with
 |dct _ _=>cases hd
 |obj _ _ _=>cases hd
 |exc _ _ _=>cases hd
 |non=>exact h1
 |bl _=>exact h2
 |int _=>exact h3
 |str _=>exact h4
 |tup _=>exact h5
 |lst _=>exact h6
theorem vi{K:Jv}:pI K "int":=jT rfl rfl rfl rfl rfl rfl
theorem ur{K:Jv}:pI K "bool":=jT rfl rfl rfl rfl rfl rfl
theorem vw{K:Jv}:pI K "str":=jT rfl rfl rfl rfl rfl rfl
theorem qo{K:Jv}:pI K "tuple":=jT rfl rfl rfl rfl rfl rfl
end TG
namespace TG
open PySem PySem.Spec L2
variable[ax]
section
variable{X:Cx}{a b c:Kw}{fa fb fc:FX}{pos:Pos}
theorem B7{r:V->Hp->VK->Prop}{g:D->aZ}(s:xV X.K r g):∀σ H Q,tF X (f1 g fa) σ H Q->Gf r (tF X fa) σ H Q:=λσ H Q ⟨O,ρ,E,hF⟩=>⟨O,ρ,E,(dE.bind hF).imp λa hF x H1 s1 d1=>by
 obtain⟨d,e,q⟩:=dE.rO hF;exact s a d x O H1 Q (E.all.same s1) e d1 λv H2 s2 d2=>q v H2 (s1.trans s2) d2⟩
noncomputable def eN(g g':D->D->aZ)(fa fb fc:FX):FX:=λρ=>(fa ρ).bind λx=>(fb ρ).bind λy=>(rO (g x y)).bind λz=>qI z ((fc ρ).bind λw=>rO (g' y w))
theorem lS{r r':R2}{g g':D->D->aZ}(s:ca X.K r g)(s':ca X.K r' g'):∀σ H Q,tF X (eN g g' fa fb fc) σ H Q->qC r r' (tF X fa) (tF X fb) (tF X fc) σ H Q:=λσ H Q ⟨O,ρ,E,hF⟩=>
 ⟨O,ρ,E,(dE.bind hF).imp fun x hF v1 H1 s1 d1=>⟨O,ρ,E.same s1,((dE.bind hF).mono s1).imp fun y hF v2 H2 s2 d2=>by
  obtain⟨z,e3,hF⟩:=dE.rO (dE.bind hF);refine s x y z v1 v2 O H2 _ (E.all.same (s1.trans s2)) e3 (d1.mono (bq s2)) d2 λv3 H3 s3 d3=>?_;cases z with
  |bl k=>
   refine⟨k,eT.mp d3,?_⟩;cases k with
   |false=>exact o5 (hF _ H3 ((s1.trans s2).trans s3) (eT.mpr rfl))
   |true=>
    refine oN ⟨O,ρ,E.same ((s1.trans s2).trans s3),((dE.bind (show dE X σ O H ((fc ρ).bind λw=>rO (g' y w)) _ from hF)).mono ((s1.trans s2).trans s3)).imp λw hF v4 H4 s4 d4=>?_⟩;obtain⟨d,e5,q⟩:=dE.rO hF;exact s' y w d v2 v4 O H4 Q (E.all.same (((s1.trans s2).trans s3).trans s4)) e5 (d2.mono (bq (s3.trans s4))) d4 λv5 H5 s5 d5=>q v5 H5 ((((s1.trans s2).trans s3).trans s4).trans s5) d5
  |_=>exact hF.elim⟩⟩
noncomputable def AU:D->aZ
 |.int i=>some (.int (-i))
 |_=>none
noncomputable def tN(f:FX):FX:=f1 AU f
noncomputable def GH:List D->aZ
 |[.int i]=>if decide (i.natAbs.log2<1920)then some (.str (toString i))else none
 |_=>none
noncomputable def vZ:D->aZ
 |.str x=>if small x.length then some (.str (Txt.upper x))else none
 |_=>none
noncomputable def BX(f:FX):FX:=f1 vZ f
noncomputable def BE:D->aZ
 |.lst xs=>some (.lst xs.reverse)
 |.tup xs=>some (.tup xs.reverse)
 |_=>none
noncomputable def ED(f:FX):FX:=f1 BE f
noncomputable def allB:List D->Option Bool
 |[]=>some true
 |.bl b::r=>(allB r).bind λc=>some (b&&c)
 |_=>none
noncomputable def ly:List D->aZ
 |[.lst xs]=>(allB xs).bind λb=>some (.bl b)
 |_=>none
theorem oR:∀{xs:List D}{b:Bool},allB xs=some b->∃bs:List Bool,xs=bs.map .bl/\b=bs.all id
 |[],b,h=>by cases h;exact⟨[],rfl,rfl⟩
 |.bl x::r,b,h=>by
  obtain⟨c,e1,e2⟩:=bind_some (show((allB r).bind λc=>some (x&&c))=some b from h);cases e2;obtain⟨bs,e3,e4⟩:=oR e1;exact⟨x::bs,by rw[Hq,e3],by rw[HZ,e4];rfl⟩
 |.non::_,_,h=>by cases h
 |.int _::_,_,h=>by cases h
 |.str _::_,_,h=>by cases h
 |.tup _::_,_,h=>by cases h
 |.lst _::_,_,h=>by cases h
 |.dct _ _::_,_,h=>by cases h
 |.obj _ _ _::_,_,h=>by cases h
 |.exc _ _ _::_,_,h=>by cases h
theorem gX{K:Jv}{H:Hp}:∀{bs:List Bool}{vs:aB}{us:aL},aK K H (bs.map .bl) vs->Vals vs us->us=bs.map Value.bool
 |[],vs,us,h,r=>by
  rw[HM,bL]at h;subst h;cases r;rfl
 |b::bs,vs,us,h,r=>by
  rw[Hq,aX]at h;obtain⟨v,r',e,h1,h2⟩:=h;subst e;cases r with
  |cons q1 q2=>
   rw[eT]at h1;subst h1;cases q1;rw[Hq,gX h2 q2]
theorem range_all(bs:List Bool):((List.range bs.length).all λi=>(bs[i]?).getD true)=bs.all id:=by
 induction bs with
 |nil=>rfl
 |cons b bs ih=>
  rw[Ho,H0,HZ,List.all_map,HZ,<-ih];rfl
theorem tT(hc:X.calm=true):cX X (.builtin "all") (yW X.K ly):=by
 rintro pins s σ H xs us Q I r ⟨O,ds,d,hO,hd,hg,q⟩;unfold ly at hg;split at hg
 ·rename_i ys;obtain⟨bv,e1,e2⟩:=bind_some hg;cases e2;obtain⟨bs,eb,ev⟩:=oR e1;subst eb ev;obtain⟨v,evv,h1⟩:=hd.one;subst evv;obtain⟨p,vs,ep,g1,g2⟩:=bo.mp h1;subst ep;obtain⟨u,eu,ru⟩:=vals1 r;subst eu;cases ru;obtain⟨its,rv,pl,hz⟩:=I.list ((az H O).seq g1);have ei:=gX g2 rv;have hl:=pl.isList;have hlt:p<s.heap.objs.size:=by obtain⟨_,e,_⟩:=hl;exact J3 e
  refine call_all_walk (K4 hl ?_);refine⟨s.heap.objs.size,[s.heap.objs.size,p],[s.heap.objs.size],its.toArray.size,_,_,λi=>(bs[i]?).getD true,rfl,Walks.list (A:=X.A.in1) (I.ok.hd hc) _ p (G4 hlt) its.toArray,
   ⟨⟨_,J7 _ rfl,rfl,rfl⟩,hl.push _⟩,λi v s' Q' E' hP hQ=>?_,λh' tk hk=>?_⟩
  ·have e:bs[i]?.map Value.bool=some v:=by
    rw[<-HB,<-ei]
    simpa using hP
   cases eb:bs[i]? with
   |none=>rw[eb]at e;cases e
   |some b=>
    rw[eb]at e;cases e;simp only[eb,Ir]at hQ;exact KW hQ
  ·have e:((List.range its.toArray.size).all λi=>(bs[i]?).getD true)=bs.all id:=by
    have:its.toArray.size=bs.length:=(by rw[Hl,ei,Hr]);rw[this];exact range_all bs
   rw[e];have k:∀b x,s.heap.get? b=some x->h'.get? b=some x:=λb x e=>hk b x (λhm=>by rw[List.mem_singleton.mp hm]at e;exact G3 _ (J3 e)) (J6 _ e);exact⟨.bl _,H,I.kept k,rfl,q _ H (aQ.refl H) (eT.mpr rfl)⟩
 ·cases hg
end
end TG
namespace ZI
open PySem PySem.Spec PyProof.Rows
section
variable{prog:KA}{w:Kz}{A:KJ}{E:Kt->Ky->Prop}{s:Ky}
theorem qD{it t:Kv}{i:Nat}{its:Array Kt}{x:Kt}{Q:Kt->Ky->Prop}(hit:s.heap.IsTupleIter it t i)(ht:s.heap.IsTuple t its)(hx:its[i]?=some x)
  (hQ:∀g,g.IsTupleIter it t (i+1)->J5 it s.heap g->Q x {s with heap:=g}):KO (model prog w) A (Builtin.SmallTypes.nextOf (.ref it)) Q E s:=by
 obtain⟨ob,h1,h2,h3⟩:=id hit;obtain⟨ol,g1,_,n,g2⟩:=ht;unfold Builtin.SmallTypes.nextOf;refine KZ (LA (name:=Str.ofString "__next__") hit.typeIs F.slot_tuple_iterator_next (LC F.slot_tuple_iterator_next hit.typeIs F.entry_tuple_iterator_next ?_ (F.args_tuple_iterator_next_1 _)));show KO _ _ (field (.ref it) 0 >>= _) _ _ s;refine KZ (Lz h1 h3 (x:=.ref t) rfl ?_);show KO _ _ (if(Value.ref t==Value.none)=true then _ else _) _ _ s;rw[if_neg (show¬((Value.ref t==Value.none)=true)from λz=>Hm z)];show KO _ _ (field (.ref it) 1 >>= _) _ _ s;refine KZ (Lz h1 h3 (x:=.int i 0) rfl ?_);show KO _ _ (seqItems? (.ref t) >>= _) _ _ s;refine KZ (LV g1 g2 ?_);simp only[HG,hx];refine KZ (wpAny_setField h1 h3 (by simp) (K3 ⟨x,rfl,K3 (hQ _ ⟨_,J9 _ h1 (Obj.isFreed_of_fields (Obj.data_mapFields h3 _)),(Obj.cls_mapFields ..).trans h2,by rw[Obj.data_mapFields h3];simp[rawInt]⟩ (Heap.SameBut.update ..))⟩))
theorem sL{it t:Kv}{i:Nat}{its:Array Kt}{Q:Kt->Ky->Prop}(hh:A.handled=none)(hit:s.heap.IsTupleIter it t i)(ht:s.heap.IsTuple t its)(hx:its[i]?=none)
  (hE:∀g e,Heap.ExtBut it s.heap g->(∃o,g.get? e=some o/\o.cls=.type "StopIteration")->E (.ref e) {s with heap:=g}):KO (model prog w) A (Builtin.SmallTypes.nextOf (.ref it)) Q E s:=by
 obtain⟨ob,h1,h2,h3⟩:=id hit;obtain⟨ol,g1,_,n,g2⟩:=ht;unfold Builtin.SmallTypes.nextOf;refine KZ (LA (name:=Str.ofString "__next__") hit.typeIs F.slot_tuple_iterator_next (LC F.slot_tuple_iterator_next hit.typeIs F.entry_tuple_iterator_next ?_ (F.args_tuple_iterator_next_1 _)));show KO _ _ (field (.ref it) 0 >>= _) _ _ s;refine KZ (Lz h1 h3 (x:=.ref t) rfl ?_);show KO _ _ (if(Value.ref t==Value.none)=true then _ else _) _ _ s;rw[if_neg (show¬((Value.ref t==Value.none)=true)from λz=>Hm z)];show KO _ _ (field (.ref it) 1 >>= _) _ _ s;refine KZ (Lz h1 h3 (x:=.int i 0) rfl ?_);show KO _ _ (seqItems? (.ref t) >>= _) _ _ s;refine KZ (LV g1 g2 ?_);simp only[HG,hx];refine KZ (LQ (KZ (wpAny_setField h1 h3 (by simp) ?_)));show KO _ _ (newExc (.type "StopIteration") [] >>= _) _ _ _;refine KZ ?_;simp only[newExc,newTuple];refine KZ (LJ ?_ (by size_fits));refine KZ (m:=firstArgMember _ _) (wpAny_of_eq (a:=Value.none) (by first|rfl|(simp only[firstArgMember];rfl)) ?_);refine LJ ?_ (by size_fits);simp only[raiseNew];refine KZ (wpAny_handled ?_)
 first|rw[show A.in1.handled=none from hh]|rw[hh]
 refine KZ (K3 (wpAny_throw ?_));exact hE _ _ (((Heap.SameBut.update ..).extBut.push _).push _) ⟨_,J7 _ rfl,rfl⟩
end
theorem BU{prog:KA}{w:Kz}{A:KJ}(hh:A.handled=none)(it t:Kv)(hne:t≠it)(its:Array Kt):Draws prog w A it [it,t] its.size (λi v=>its[i]?=some v) (λi h=>h.IsTupleIter it t i/\h.IsTuple t its)where
 live:=λi h ⟨⟨o,e,_⟩,_⟩=>⟨o,e⟩
 frame:=λi h h' ⟨x,y⟩ k=>⟨x.at λo e=>k it (by simp) o e,let ⟨o,e,r⟩:=y;⟨o,k t (by simp) o e,r⟩⟩
 item:=λi s Q E hi ⟨x,y⟩ hQ=>qD x y (Array.getElem?_eq_getElem hi) λg hg hs=>hQ _ g s.toks (Array.getElem?_eq_getElem hi) ⟨hg,let ⟨o,e,r⟩:=y;⟨o,(hs.2 t hne).trans e,r⟩⟩ hs
 done:=λs Q E ⟨x,y⟩ hE=>sL hh x y (by simp) hE
structure Apart(z TI TO i1 i2:Kv)(fp1 fp2:List Kv):Prop where
 a1:TI≠z
 a2:TO≠z
 a3:TI≠TO
 b1:z∉fp1
 b2:TO∉fp1
 b3:i2∉fp1
 c1:z∉fp2
 c2:TO∉fp2
 c3:i1∉fp2
 d1:TI≠i1
 d2:TI≠i2
 e1:i1∈fp1
 e2:i2∈fp2
section
variable{prog:KA}{w:Kz}{A:KJ}{E:Kt->Ky->Prop}{s:Ky}{z TI TO i1 i2:Kv}{fp1 fp2:List Kv}{n1 n2 i:Nat}{P1 P2:Nat->Kt->Prop}{S1 S2:Nat->KC->Prop}{a b:Kt}
theorem next_item{Q:Kt->Ky->Prop}(Ap:Apart z TI TO i1 i2 fp1 fp2)(D1:Draws prog w A i1 fp1 n1 P1 S1)(D2:Draws prog w A i2 fp2 n2 P2 S2)(hz:LW s.heap z TI TO .none)(hTI:LX s.heap TI (.ref i1) (.ref i2))(hTO:LX s.heap TO a b)(st1:S1 i s.heap)(st2:S2 i s.heap)(l1:i<n1)(l2:i<n2)
  (hQ:∀ x y g tk,P1 i x->P2 i y->LW g z TI TO (rawInt s.heap.objs.size)->LX g TO x y->S1 (i+1) g->S2 (i+1) g->LX g s.heap.objs.size x y->g.objs.size=s.heap.objs.size+1 ->
   (∀c o,c≠z->c≠TO->c≠i1->c≠i2->s.heap.get? c=some o->g.get? c=some o)->Q (.ref s.heap.objs.size) {s with heap:=g,toks:=tk}):
  KO (model prog w) A (Builtin.«zip.__next__» ⟨[.ref z],[]⟩) (λfin s'=>∃v,fin=.done (.ret v)/\Q v s') E s:=by
 have n1z:i1≠z:=λe=>Ap.b1 (e ▸ Ap.e1);have n2z:i2≠z:=λe=>Ap.c1 (e ▸ Ap.e2);have n1T:i1≠TO:=λe=>Ap.b2 (e ▸ Ap.e1);have n2T:i2≠TO:=λe=>Ap.c2 (e ▸ Ap.e2);show KO _ _ (field (.ref z) 2 >>= _) _ _ _;refine KZ (Lz hz rfl (x:=.bool false) rfl ?_);show KO _ _ (field (.ref z) 3 >>= _) _ _ _;refine KZ (Lz hz rfl (x:=.ref TI) rfl ?_);refine KZ (LV hTI rfl ?_);show KO _ _ (Builtin.SmallTypes.ownedTupleIsFree (.ref z) >>= _) _ _ _;refine KZ ?_;unfold Builtin.SmallTypes.ownedTupleIsFree;refine KZ (Lz hz rfl (x:=.none) rfl (K3 ?_));simp only[if_true];refine KZ (LQ ?_);refine KZ (Lz hz rfl (x:=.ref TO) rfl ?_);refine KZ (LY hz (by simp) λg1 hz1 k1=>?_);have hz1:LW g1 z TI TO .ellipsis:=hz1;refine KZ ?_;simp only[List.zipIdx_cons,List.zipIdx_nil,HP,List.forIn_nil];refine KZ (KZ (LZ ?_));show KO _ _ (Builtin.SmallTypes.nextOf (.ref i1) >>= _) _ _ _;have q1:S1 i g1:=D1.frame _ _ _ st1 λb hb o e=>k1.extBut _ _ (λz'=>Ap.b1 (z' ▸ hb)) e;refine KZ (D1.item i {s with heap:=g1} _ _ l1 q1 λx g2 tk2 p1 q2 k2=>K3 ?_);have t2:LX g2 TO a b:=k2.extBut _ _ n1T.symm (k1.extBut _ _ Ap.a2 hTO);refine KZ (LV t2 rfl ?_);refine KZ (L6 t2 λg3 t3 k3=>?_);have t3:LX g3 TO x b:=t3;refine KZ (wpAny_letGo (K3 ?_));refine KZ (KZ (LZ ?_));show KO _ _ (Builtin.SmallTypes.nextOf (.ref i2) >>= _) _ _ _;have q3:S2 i g3:=D2.frame _ _ _ st2 λb hb o e=>k3.extBut _ _ (λz'=>Ap.c2 (z' ▸ hb)) (k2.extBut _ _ (λz'=>Ap.c3 (z' ▸ hb)) (k1.extBut _ _ (λz'=>Ap.c1 (z' ▸ hb)) e));refine KZ (D2.item i {s with heap:=g3,toks:=tk2} _ _ l2 q3 λy g4 tk4 p2 q4 k4=>K3 ?_);have t4:LX g4 TO x b:=k4.extBut _ _ n2T.symm t3;refine KZ (LV t4 rfl ?_);refine KZ (L6 t4 λg5 t5 k5=>?_);have t5:LX g5 TO x y:=t5;refine KZ (wpAny_letGo (K3 (K3 ?_)));refine KZ (LV t5 rfl ?_);refine KZ (wpAny_newTuple ?_);have hsz:g5.objs.size=s.heap.objs.size:=by rw[k5.1,k4.1,k3.1,k2.1,k1.1]
 have hz5:LW g5 z TI TO .ellipsis:=k5.extBut _ _ Ap.a2.symm (k4.extBut _ _ n2z.symm (k3.extBut _ _ Ap.a2.symm (k2.extBut _ _ n1z.symm hz1)));have k15:∀c o,c≠z->c≠TO->c≠i1->c≠i2->s.heap.get? c=some o->g5.get? c=some o:=λc o c1 c2 c3 c4 e=>k5.extBut _ _ c2 (k4.extBut _ _ c4 (k3.extBut _ _ c2 (k2.extBut _ _ c3 (k1.extBut _ _ c1 e))));have r1:S1 (i+1) g5:=D1.frame _ _ _ q2 λb hb o e=>k5.extBut _ _ (λz'=>Ap.b2 (z' ▸ hb)) (k4.extBut _ _ (λz'=>Ap.b3 (z' ▸ hb)) (k3.extBut _ _ (λz'=>Ap.b2 (z' ▸ hb)) e));have r2:S2 (i+1) g5:=D2.frame _ _ _ q4 λb hb o e=>k5.extBut _ _ (λz'=>Ap.c2 (z' ▸ hb)) e;have lz:z<g5.objs.size:=J3 hz5;show KO _ _ (Builtin.SmallTypes.ownedTupleHandOut (.ref z) (.ref g5.objs.size) >>= _) _ _ _;refine KZ ?_;unfold Builtin.SmallTypes.ownedTupleHandOut;have hz6:LW (g5.push {cls:=.type "tuple",data:=.seq #[x,y]}) z TI TO .ellipsis:=J6 _ hz5;refine KZ (LY hz6 (by simp) λg7 hz7 k7=>?_);have hz7:LW g7 z TI TO (rawInt g5.objs.size):=hz7;refine LY hz7 (by simp) λg8 hz8 k8=>?_;have hz8:LW g8 z TI TO (rawInt g5.objs.size):=hz8;have up:∀c o,c≠z->g5.get? c=some o->g8.get? c=some o:=λc o c1 e=>k8.extBut _ _ c1 (k7.extBut _ _ c1 (J6 _ e));have t8:LX g8 g5.objs.size x y:=k8.extBut _ _ (Hh lz) (k7.extBut _ _ (Hh lz) (J7 _ rfl));have s8:g8.objs.size=g5.objs.size+1:=by rw[k8.1,k7.1,J8]
 rw[hsz]at hz8 t8 s8;refine K3 ⟨_,rfl,?_⟩;show Q (.ref g5.objs.size) _;rw[hsz];exact hQ x y g8 tk4 p1 p2 hz8 (up _ _ Ap.a2 t5) (D1.frame _ _ _ r1 λb hb o e=>up b o (λz'=>Ap.b1 (z' ▸ hb)) e) (D2.frame _ _ _ r2 λb hb o e=>up b o (λz'=>Ap.c1 (z' ▸ hb)) e) t8 s8 λc o c1 c2 c3 c4 e=>up c o c1 (k15 c o c1 c2 c3 c4 e)
theorem next_end{Q:Fin->Ky->Prop}(Ap:Apart z TI TO i1 i2 fp1 fp2)(D1:Draws prog w A i1 fp1 n1 P1 S1)(D2:Draws prog w A i2 fp2 n2 P2 S2)(hz:LW s.heap z TI TO .none)(hTI:LX s.heap TI (.ref i1) (.ref i2))(hTO:LX s.heap TO a b)(st1:S1 i s.heap)(st2:S2 i s.heap)(hend:i=n1\/(i<n1/\i=n2))
  (hE:∀g e tk,(∀c o,c≠z->c≠TO->c≠i1->c≠i2->s.heap.get? c=some o->g.get? c=some o)->(∃o,g.get? e=some o/\o.cls=.type "StopIteration")->E (.ref e) {s with heap:=g,toks:=tk}):
  KO (model prog w) A (Builtin.«zip.__next__» ⟨[.ref z],[]⟩) Q E s:=by
 have n1z:i1≠z:=λe=>Ap.b1 (e ▸ Ap.e1);have n2z:i2≠z:=λe=>Ap.c1 (e ▸ Ap.e2);have n1T:i1≠TO:=λe=>Ap.b2 (e ▸ Ap.e1);show KO _ _ (field (.ref z) 2 >>= _) _ _ _;refine KZ (Lz hz rfl (x:=.bool false) rfl ?_);show KO _ _ (field (.ref z) 3 >>= _) _ _ _;refine KZ (Lz hz rfl (x:=.ref TI) rfl ?_);refine KZ (LV hTI rfl ?_);show KO _ _ (Builtin.SmallTypes.ownedTupleIsFree (.ref z) >>= _) _ _ _;refine KZ ?_;unfold Builtin.SmallTypes.ownedTupleIsFree;refine KZ (Lz hz rfl (x:=.none) rfl (K3 ?_));simp only[if_true];refine KZ (LQ ?_);refine KZ (Lz hz rfl (x:=.ref TO) rfl ?_);refine KZ (LY hz (by simp) λg1 hz1 k1=>?_);have hz1:LW g1 z TI TO .ellipsis:=hz1;refine KZ ?_;simp only[List.zipIdx_cons,List.zipIdx_nil,HP,List.forIn_nil];refine KZ (KZ (LZ ?_));show KO _ _ (Builtin.SmallTypes.nextOf (.ref i1) >>= _) _ _ _;have q1:S1 i g1:=D1.frame _ _ _ st1 λb hb o e=>k1.extBut _ _ (λz'=>Ap.b1 (z' ▸ hb)) e;rcases hend with hend|⟨l1,hend⟩
 ·subst hend;refine KZ (D1.done {s with heap:=g1} _ _ q1 λg2 e k2 he=>?_);obtain⟨oe,hoe,hce⟩:=he;have hz2:LW g2 z TI TO .ellipsis:=k2 _ _ n1z.symm hz1;have hez:e≠z:=λx=>by rw[x,hz2]at hoe;cases hoe;simp at hce
  exact LY hz2 (by simp) λg3 _ k3=>hE g3 e s.toks (λc o c1 _ c3 _ x=>k3.extBut _ _ c1 (k2 _ _ c3 (k1.extBut _ _ c1 x))) ⟨oe,k3.extBut _ _ hez hoe,hce⟩
 ·refine KZ (D1.item i {s with heap:=g1} _ _ l1 q1 λx g2 tk2 p1 q2 k2=>K3 ?_);have t2:LX g2 TO a b:=k2.extBut _ _ n1T.symm (k1.extBut _ _ Ap.a2 hTO);refine KZ (LV t2 rfl ?_);refine KZ (L6 t2 λg3 t3 k3=>?_);refine KZ (wpAny_letGo (K3 ?_));refine KZ (KZ (LZ ?_));show KO _ _ (Builtin.SmallTypes.nextOf (.ref i2) >>= _) _ _ _;have q3:S2 i g3:=D2.frame _ _ _ st2 λb hb o e=>k3.extBut _ _ (λz'=>Ap.c2 (z' ▸ hb)) (k2.extBut _ _ (λz'=>Ap.c3 (z' ▸ hb)) (k1.extBut _ _ (λz'=>Ap.c1 (z' ▸ hb)) e));subst hend;refine KZ (D2.done {s with heap:=g3,toks:=tk2} _ _ q3 λg4 e k4 he=>?_);obtain⟨oe,hoe,hce⟩:=he;have hz4:LW g4 z TI TO .ellipsis:=k4 _ _ n2z.symm (k3.extBut _ _ Ap.a2.symm (k2.extBut _ _ n1z.symm hz1));have hez:e≠z:=λx=>by rw[x,hz4]at hoe;cases hoe;simp at hce
  exact LY hz4 (by simp) λg5 _ k5=>hE g5 e tk2 (λc o c1 c2 c3 c4 x=>k5.extBut _ _ c1 (k4 _ _ c4 (k3.extBut _ _ c2 (k2.extBut _ _ c3 (k1.extBut _ _ c1 x))))) ⟨oe,k5.extBut _ _ hez hoe,hce⟩
end
noncomputable def SQ(b:Bool)(h:KC)(l:Kv)(xs:Array Kt):Prop:=if b then h.IsList l xs else h.IsTuple l xs
noncomputable def SI(b:Bool)(h:KC)(i l:Kv)(k:Nat):Prop:=if b then h.IsListIter i l k else h.IsTupleIter i l k
noncomputable def D8(b:Bool):String:=if b then"list_iterator"else"tuple_iterator"
theorem SQ.keep{b:Bool}{h h':KC}{l:Kv}{xs:Array Kt}(x:SQ b h l xs)(k:∀o,h.get? l=some o->h'.get? l=some o):SQ b h' l xs:=by
 cases b with
 |true=>exact Heap.IsList.at x k
 |false=>obtain⟨o,e,r⟩:=(show h.IsTuple l xs from x);exact(show h'.IsTuple l xs from⟨o,k o e,r⟩)
theorem SI.keep{b:Bool}{h h':KC}{i l:Kv}{n:Nat}(x:SI b h i l n)(k:∀o,h.get? i=some o->h'.get? i=some o):SI b h' i l n:=by
 cases b with
 |true=>exact Heap.IsListIter.at x k
 |false=>exact Heap.IsTupleIter.at x k
theorem SQ.lt{b:Bool}{h:KC}{l:Kv}{xs:Array Kt}(x:SQ b h l xs):l<h.objs.size:=by
 cases b with
 |true=>obtain⟨o,e,_⟩:=(show h.IsList l xs from x);exact J3 e
 |false=>obtain⟨o,e,_⟩:=(show h.IsTuple l xs from x);exact J3 e
theorem SI.get{b:Bool}{h:KC}{i l:Kv}{n:Nat}(x:SI b h i l n):∃o,h.get? i=some o/\∀v,o.data≠.cell v:=by
 cases b with
 |true=>obtain⟨o,e,_,d⟩:=(show h.IsListIter i l n from x);exact⟨o,e,λv z=>by rw[d]at z;cases z⟩
 |false=>obtain⟨o,e,_,d⟩:=(show h.IsTupleIter i l n from x);exact⟨o,e,λv z=>by rw[d]at z;cases z⟩
theorem SI.new{b:Bool}{h:KC}{l:Kv}:SI b (h.push {cls:=.type (D8 b),data:=.fields #[.ref l,.int 0 0]}) h.objs.size l 0:=by
 cases b with
 |true=>exact⟨_,J7 _ rfl,rfl,rfl⟩
 |false=>exact⟨_,J7 _ rfl,rfl,rfl⟩
theorem ky{b:Bool}{prog:KA}{w:Kz}{A:KJ}{E:Kt->Ky->Prop}{s:Ky}{l:Kv}{xs:Array Kt}{Q:Kt->Ky->Prop}(h:SQ b s.heap l xs)
  (hQ:Q (.ref s.heap.objs.size) {s with heap:=s.heap.push {cls:=.type (D8 b),data:=.fields #[.ref l,.int 0 0]}}):KO (model prog w) A (pyIter (.ref l)) Q E s:=by
 cases b with
 |true=>exact K4 h hQ
 |false=>exact wpAny_pyIter_tuple h hQ
theorem gB{prog:KA}{w:Kz}{A:KJ}(b:Bool)(hh:A.handled=none)(it l:Kv)(hne:l≠it)(its:Array Kt):Draws prog w A it [it,l] its.size (λi v=>its[i]?=some v) (λi h=>SI b h it l i/\SQ b h l its):=by
 cases b with
 |true=>exact Draws.list hh it l hne its
 |false=>exact BU hh it l hne its
noncomputable abbrev uG(b1:Bool)(h:KC)(l1:Kv):KC:=h.push {cls:=.type (D8 b1),data:=.fields #[.ref l1,.int 0 0]}
noncomputable abbrev Cu(b1 b2:Bool)(h:KC)(l1 l2:Kv):KC:=(uG b1 h l1).push {cls:=.type (D8 b2),data:=.fields #[.ref l2,.int 0 0]}
noncomputable abbrev D7(b1 b2:Bool)(h:KC)(l1 l2:Kv):KC:=(Cu b1 b2 h l1 l2).push {cls:=.type "tuple",data:=.seq #[.ref h.objs.size,.ref (uG b1 h l1).objs.size]}
noncomputable abbrev D5(b1 b2:Bool)(h:KC)(l1 l2:Kv):KC:=(D7 b1 b2 h l1 l2).push {cls:=.type "tuple",data:=.seq #[.none,.none]}
noncomputable abbrev zW(b1 b2:Bool)(h:KC)(l1 l2:Kv):KC:=(D5 b1 b2 h l1 l2).push {cls:=.type "zip",data:=.fields #[.none,.bool false,.bool false,.ref (Cu b1 b2 h l1 l2).objs.size,.ref (D7 b1 b2 h l1 l2).objs.size]}
theorem vD(b1 b2:Bool)(l1 l2:Kv)(xs ys:Array Kt):Meets (Builtin.«zip.__new__» ⟨[.type "zip",.ref l1,.ref l2],[]⟩) (λ_ R s=>SQ b1 s.heap l1 xs/\SQ b2 s.heap l2 ys/\R (.ok (.ret (.ref (D5 b1 b2 s.heap l1 l2).objs.size))) {s with heap:=zW b1 b2 s.heap l1 l2}):=
 .of_wp λprog w A R s h=>by
  obtain⟨hp,g,d,tk,os⟩:=s;obtain⟨q1,q2,h⟩:=h;have hsub:=sub_zip;have e1:SQ b1 (Shared.heap ⟨hp,g,d,tk,os⟩) l1 xs:=q1;have e2:SQ b2 (Shared.heap ⟨uG b1 hp l1,g,d,tk,os⟩) l2 ys:=q2.keep λo e=>J6 _ e
  wp_walk using ky e1,ky e2
  exact⟨_,rfl,h⟩
theorem wm{prog:KA}{w:Kz}{A:KJ}{E:Kt->Ky->Prop}{s:Ky}{b1 b2:Bool}{l1 l2:Kv}{xs ys:Array Kt}{Q:Kt->Ky->Prop}(h1:SQ b1 s.heap l1 xs)(h2:SQ b2 s.heap l2 ys)
  (h:∀ g,LW g (s.heap.objs.size+4) (s.heap.objs.size+2) (s.heap.objs.size+3) .none->LX g (s.heap.objs.size+2) (.ref s.heap.objs.size) (.ref (s.heap.objs.size+1))->LX g (s.heap.objs.size+3) .none .none->SI b1 g s.heap.objs.size l1 0->SI b2 g (s.heap.objs.size+1) l2 0 ->
   (∀c o,s.heap.get? c=some o->g.get? c=some o)->Q (.ref (s.heap.objs.size+4)) {s with heap:=g}):KO (model prog w) A (call (.type "zip") [.ref l1,.ref l2]) Q E s:=by
 refine callType_new F.called_zip (by decide) (F.typeCall_zip_2 _ _) (F.newCall_zip_2 _ _) (λobj=>F.args_object_init_3 obj _ _) F.entry_zip_new (vD b1 b2 l1 l2 xs ys) ⟨h1,h2,?_⟩;have z1:(uG b1 s.heap l1).objs.size=s.heap.objs.size+1:=J8 ..
 have z2:(Cu b1 b2 s.heap l1 l2).objs.size=s.heap.objs.size+2:=by rw[J8,z1]
 have z3:(D7 b1 b2 s.heap l1 l2).objs.size=s.heap.objs.size+3:=by rw[J8,z2]
 have z4:(D5 b1 b2 s.heap l1 l2).objs.size=s.heap.objs.size+4:=by rw[J8,z3]
 have u1:∀c o,(uG b1 s.heap l1).get? c=some o->(zW b1 b2 s.heap l1 l2).get? c=some o:=λc o e=>J6 _ (J6 _ (J6 _ (J6 _ e)));have u2:∀c o,(Cu b1 b2 s.heap l1 l2).get? c=some o->(zW b1 b2 s.heap l1 l2).get? c=some o:=λc o e=>J6 _ (J6 _ (J6 _ e));have g5:(zW b1 b2 s.heap l1 l2).get? (D5 b1 b2 s.heap l1 l2).objs.size=some _:=J7 _ rfl;have g4:(zW b1 b2 s.heap l1 l2).get? (D7 b1 b2 s.heap l1 l2).objs.size=some _:=J6 _ (J7 _ rfl);have g3:(zW b1 b2 s.heap l1 l2).get? (Cu b1 b2 s.heap l1 l2).objs.size=some _:=J6 _ (J6 _ (J7 _ rfl));have g2:SI b2 (zW b1 b2 s.heap l1 l2) (uG b1 s.heap l1).objs.size l2 0:=SI.keep (SI.new (h:=uG b1 s.heap l1)) λo e=>u2 _ o e;have g1:SI b1 (zW b1 b2 s.heap l1 l2) s.heap.objs.size l1 0:=SI.keep SI.new λo e=>u1 _ o e;show _/\_;rw[z2,z3,z4]at g5;rw[z1,z2]at g3;rw[z3]at g4;rw[z1]at g2;rw[z4];exact⟨⟨_,g5,rfl⟩,h _ g5 g3 g4 g1 g2 λc o e=>u1 c o (J6 _ e)⟩
theorem uj(b : Bool)(l : Kv)(xs : Array Kt): Meets (Builtin.«enumerate.__new__» ⟨[.type "enumerate", .ref l], []⟩) (fun _ R s => SQ b s.heap l xs /\
      R (.ok (.ret (.ref (uG b s.heap l).objs.size))) {s with heap:=(uG b s.heap l).push {cls:=.type "enumerate",data:=.fields #[.none,.bool false,.ref s.heap.objs.size,rawInt 0,.none,.none]}}):=
  .of_wp λprog w A R s h=>by
    obtain⟨hp,g,d,tk,os⟩:=s;obtain⟨q1,h⟩:=h;have hsub:=sub_enumerate;have e1:SQ b (Shared.heap ⟨hp,g,d,tk,os⟩) l xs:=q1
    wp_walk using ky e1
    refine wpAny_stack_any λst=>K3 ?_;split
    · rename_i c _ _ _ _ _
      cases(c==Value.type "enumerate")<;>(wp_walk using ky e1;exact⟨_,rfl,h⟩)
    · wp_walk using ky e1
      exact⟨_,rfl,h⟩
end ZI
namespace TG
open PySem PySem.Spec L2 ZI
variable[ax]
section
variable{X:Cx}{pins:aR}{σ:St}{H:Hp}{s:Ky}{h':KC}
theorem Inv.turnedL{ch:ay}{p:Kv}{o:HO}{t':Nat}(I:Inv X pins σ H s)(hf:∀b∈ch,kW X pins H b)(k:∀b u,b∉ch->s.heap.get? b=some u->h'.get? b=some u)(hp:s.heap.objs.size<=p)(new:ce X.prog X.w (upd H p o) h' p o):
  Inv X pins σ (upd H p o) {s with heap:=h',toks:=t'}:=by
 have hn:=I.hok.fresh hp;have nch:∀b u,H b=some u->b∉ch:=λb u e z=>by rw[(hf b z).1]at e;cases e
 refine I.step (g':=s.gens) (d':=s.drawn) (ch:=ch) (λb hb=>?_) (λb o _ _ hc e _=>k b o hc e) (λb o _ _ hc e _=>⟨o.slots,k b o hc e⟩) (λb u _ q n=>by rw[av (G4 (G2 (J3 q) hp))];exact n)
  (λb o hc e=>⟨o,k b o hc e⟩) (λb xs q=>by rw[av (aM q hn)];exact q) (λb u xs q=>by rw[av (aM q hn)];exact q) (λb ps q=>⟨#[],by rw[av (aM q hn),q];simp⟩) (λm hm=>?_) (λb u e=>?_) I.bare
 ·obtain⟨_,f1,_,f3,f4,f5⟩:=hf b hb;exact⟨f3,f1,f4,f5⟩
 ·obtain⟨o,es,ep,ho,r⟩:=hm;exact⟨o,es,ep,k _ o (λz=>(hf _ z).2.1 rfl) ho,r⟩
 ·by_cases hb:b=p
  ·subst hb;rw[aA]at e;cases e;exact new
  ·rw[av hb]at e;refine(I.hok b u e).stay (λc v hc q=>k c v ?_ q) (λc q=>by rw[av (aM q hn)];exact q) λc xs q=>by rw[av (aM q hn)];exact q
   rcases hc with z|z
   ·rw[z];exact nch b u e
   ·exact nch c _ z
theorem Inv.turned0{ch:ay}{t':Nat}(I:Inv X pins σ H s)(hf:∀b∈ch,kW X pins H b)(k:∀b u,b∉ch->s.heap.get? b=some u->h'.get? b=some u):Inv X pins σ H {s with heap:=h',toks:=t'}:=by
 have nch:∀b u,H b=some u->b∉ch:=λb u e z=>by rw[(hf b z).1]at e;cases e
 refine I.step (g':=s.gens) (d':=s.drawn) (ch:=ch) (λb hb=>?_) (λb o _ _ hc e _=>k b o hc e) (λb o _ _ hc e _=>⟨o.slots,k b o hc e⟩) (λ_ _ _ _ n=>n)
  (λb o hc e=>⟨o,k b o hc e⟩) (λ_ _ e=>e) (λ_ _ _ e=>e) (λb ps e=>⟨#[],by rw[e];simp⟩) (λm hm=>?_) (λb u e=>?_) I.bare
 ·obtain⟨_,f1,_,f3,f4,f5⟩:=hf b hb;exact⟨f3,f1,f4,f5⟩
 ·obtain⟨o,es,ep,ho,r⟩:=hm;exact⟨o,es,ep,k _ o (λz=>(hf _ z).2.1 rfl) ho,r⟩
 ·refine(I.hok b u e).stay (λc v hc q=>k c v ?_ q) (λ_ q=>q) λ_ _ q=>q;rcases hc with z|z
  ·rw[z];exact nch b u e
  ·exact nch c _ z
end
noncomputable def SX(K:Jv)(b:Bool)(H:Hp)(a:Kv)(xs:aB):Prop:=if b then gQ K H a xs else jn K H a xs
theorem SX.same{K:Jv}{b:Bool}{H H':Hp}{a:Kv}{xs:aB}(e:aQ H H')(h:SX K b H a xs):SX K b H' a xs:=by
 cases b with
 |true=>exact e.seq (show gQ K H a xs from h)
 |false=>exact uz e (show jn K H a xs from h)
section
variable{X:Cx}{pins:aR}{σ:St}{H:Hp}{s:Ky}
theorem Inv.sx(I:Inv X pins σ H s){b:Bool}{a:Kv}{xs:aB}(h:SX X.K b H a xs):∃its:aL,Vals xs its/\SQ b s.heap a its.toArray/\xs.length<=KG:=by
 cases b with
 |true=>obtain⟨its,r,p,z⟩:=I.list (show gQ X.K H a xs from h);exact⟨its,r,p.isList,z⟩
 |false=>obtain⟨its,r,p,z⟩:=I.tuple (show jn X.K H a xs from h);exact⟨its,r,p,z⟩
theorem Inv.sx_inj(I:Inv X pins σ H s){b:Bool}{a:Kv}{xs ys:aB}(h:SX X.K b H a xs)(h':SX X.K b H a ys):xs=ys:=by
 cases b with
 |true=>exact I.list_inj h h'
 |false=>exact I.tuple_inj h h'
end
noncomputable def Gd(K:Jv)(b1 b2:Bool)(a1 a2:Kv):It:=
  ⟨fun i H=>∃ xs ys,SX K b1 H a1 xs/\SX K b2 H a2 ys/\i < xs.length/\i < ys.length,
   λi H v H'=>∃p x y,v=.ref p/\H p=none/\H'=upd H p (.tup [x,y])/\(∀xs,SX K b1 H a1 xs->xs[i]?=some x)/\∀ys,SX K b2 H a2 ys->ys[i]?=some y,
   λi H=>∃xs ys,SX K b1 H a1 xs/\SX K b2 H a2 ys/\(i=xs.length\/(i<xs.length/\i=ys.length))⟩
theorem wq{P:KA}{w:Kz}{K:Jv}{es:aU}{k:Nat}{pos:Pos}{b1 b2:Bool}{a1 a2 z TI TO i1 i2:Kv}(Ap:Apart z TI TO i1 i2 [i1,a1] [i2,a2])(n1:a1≠i1)(n2:a2≠i2)(n3:z≠i1)(n4:z≠i2):Turn P w K (.Tuple es k pos) (Gd K b1 b2 a1 a2) [z,TI,TO,i1,i2] z
  (λi h=>LW h z TI TO .none/\LX h TI (.ref i1) (.ref i2)/\(∃a b,LX h TO a b)/\SI b1 h i1 a1 i/\SI b2 h i2 a2 i)where
 mem:=by simp
 obj:=λi h ⟨hz,hI,⟨a,b,hO⟩,s1,s2⟩ c hc=>by
  simp only[Iu,Iw,or_false]at hc;rcases hc with rfl|rfl|rfl|rfl|rfl
  ·exact⟨_,hz,λv q=>by cases q⟩
  ·exact⟨_,hI,λv q=>by cases q⟩
  ·exact⟨_,hO,λv q=>by cases q⟩
  ·exact s1.get
  ·exact s2.get
 keep:=λi h h' ⟨hz,hI,⟨a,b,hO⟩,s1,s2⟩ kp=>⟨kp z (by simp) _ hz,kp TI (by simp) _ hI,⟨a,b,kp TO (by simp) _ hO⟩,s1.keep λo e=>kp i1 (by simp) o e,s2.keep λo e=>kp i2 (by simp) o e⟩
 item:=by
  rintro X hP hw hK hc i pins s σ H E I hf ⟨hz,hI,⟨a,b,hO⟩,s1,s2⟩ hg;subst hP hw hK;obtain⟨xs,ys,g1,g2,l1,l2⟩:=hg;obtain⟨its1,r1,q1,z1⟩:=Inv.sx I g1;obtain⟨its2,r2,q2,z2⟩:=Inv.sx I g2;have hh:X.A.in1.handled=none:=I.ok.hd hc;have hT:s.TypeIs (.ref z) "zip":=⟨_,hz,rfl⟩
  unfold pyNext;refine KZ (L7 (LA (name:=Str.ofString "__next__") hT F.slot_zip_next (LC F.slot_zip_next hT F.entry_zip_next
   (next_item Ap (gB (A:=X.A.in1) b1 hh i1 a1 n1 its1.toArray) (gB (A:=X.A.in1) b2 hh i2 a2 n2 its2.toArray) hz hI hO ⟨s1,q1⟩ ⟨s2,q2⟩ (by rw[Hl,<-r1.length];exact l1) (by rw[Hl,<-r2.length];exact l2) λu v g tk p1 p2 hz' hO' t1 t2 hp sz kp=>?_) (F.args_zip_next_1 _))))
  have e1:its1[i]?=some u:=by simpa using p1
  have e2:its2[i]?=some v:=by simpa using p2
  have hx:∃x,xs[i]?=some x/\RelV x u:=by
   obtain⟨u',hu,ru⟩:=r1.get (i:=i) (x:=xs[i]) (by simp[l1]);rw[e1]at hu;cases hu;exact⟨xs[i],by simp[l1],ru⟩
  have hy:∃y,ys[i]?=some y/\RelV y v:=by
   obtain⟨u',hu,ru⟩:=r2.get (i:=i) (x:=ys[i]) (by simp[l2]);rw[e2]at hu;cases hu;exact⟨ys[i],by simp[l2],ru⟩
  obtain⟨x,ex,rx⟩:=hx;obtain⟨y,ey,ry⟩:=hy;refine K3 ⟨_,rfl,?_⟩;refine wpAny_letOwnedTupleGo_zip hz' λg' hz2 sb=>?_;have hpz:s.heap.objs.size≠z:=Hh (J3 hz);have hp':LX g' s.heap.objs.size u v:=sb.extBut _ _ hpz hp;have I':Inv X pins σ (upd H s.heap.objs.size (.tup [x,y])) {s with heap:=g',toks:=tk}:=Inv.turnedL (ch:=[z,TI,TO,i1,i2]) I hf (λc o hc e=>by
   simp only[Iu,Iw,or_false,not_or]at hc;exact sb.extBut _ _ hc.1 (kp c o hc.1 hc.2.2.1 hc.2.2.2.1 hc.2.2.2.2 e)) (Hj _) ⟨by show 2<=KG;decide,[u,v],.cons rx (.cons ry .nil),_,hp',rfl,_,rfl⟩
  have fr:H s.heap.objs.size=none:=I.fresh;have ne:∀c∈[z,TI,TO,i1,i2],c≠s.heap.objs.size:=λc hc e=>by
   simp only[Iu,Iw,or_false]at hc;rcases hc with rfl|rfl|rfl|rfl|rfl
   ·exact hpz e.symm
   ·exact absurd (J3 hI) (by rw[e];exact G3 _)
   ·exact absurd (J3 hO) (by rw[e];exact G3 _)
   ·obtain⟨o,q,_⟩:=s1.get;exact absurd (J3 q) (by rw[e];exact G3 _)
   ·obtain⟨o,q,_⟩:=s2.get;exact absurd (J3 q) (by rw[e];exact G3 _)
  refine⟨.ref s.heap.objs.size,_,I',rfl,⟨_,x,y,rfl,fr,rfl,λxs' h=>by rw[Inv.sx_inj I h g1];exact ex,λys' h=>by rw[Inv.sx_inj I h g2];exact ey⟩,⟨hz2,?_,⟨u,v,sb.extBut _ _ Ap.a2 hO'⟩,?_,?_⟩,λc hc=>by rw[av (ne c hc)];exact(hf c hc).1⟩
  ·exact sb.extBut _ _ Ap.a1 (kp TI _ Ap.a1 Ap.a3 Ap.d1 Ap.d2 hI)
  ·exact t1.1.keep λo e=>sb.extBut _ _ n3.symm e
  ·exact t2.1.keep λo e=>sb.extBut _ _ n4.symm e
 done:=by
  rintro X hP hw hK hc i pins s σ H E I hf ⟨hz,hI,⟨a,b,hO⟩,s1,s2⟩ hg;subst hP hw hK;obtain⟨xs,ys,g1,g2,hl⟩:=hg;obtain⟨its1,r1,q1,z1⟩:=Inv.sx I g1;obtain⟨its2,r2,q2,z2⟩:=Inv.sx I g2;have hh:X.A.in1.handled=none:=I.ok.hd hc;have hT:s.TypeIs (.ref z) "zip":=⟨_,hz,rfl⟩
  unfold pyNext;refine KZ (L7 (LA (name:=Str.ofString "__next__") hT F.slot_zip_next (LC F.slot_zip_next hT F.entry_zip_next
   (next_end (i:=i) Ap (gB (A:=X.A.in1) b1 hh i1 a1 n1 its1.toArray) (gB (A:=X.A.in1) b2 hh i2 a2 n2 its2.toArray) hz hI hO ⟨s1,q1⟩ ⟨s2,q2⟩ (by rw[Hl,Hl,<-r1.length,<-r2.length];exact hl) λg e tk kp he=>?_) (F.args_zip_next_1 _))))
  obtain⟨o,ho,hce⟩:=he;refine KZ (wpAny_isInstance (T:="StopIteration") (b:=true) ⟨o,ho,hce⟩ isSubtype_stop ?_);refine K3 ⟨rfl,Inv.turned0 (ch:=[z,TI,TO,i1,i2]) I hf λc o hc e=>?_⟩;simp only[Iu,Iw,or_false,not_or]at hc;exact kp c o hc.1 hc.2.2.1 hc.2.2.2.1 hc.2.2.2.2 e
 self:=λ_ _ _ _ _ ⟨hz,_⟩ h=>wpAny_pyIter_zip hz h
noncomputable def yV:D->Option (Bool×List D)
 |.lst xs=>some (true,xs)
 |.tup xs=>some (false,xs)
 |_=>none
theorem kI{K:Jv}{H:Hp}{d:D}{b:Bool}{xs:List D}{v:V}(e:yV d=some (b,xs))(h:bM K H d v):∃a vs,v=.ref a/\SX K b H a vs/\aK K H xs vs:=by
 cases d with
 |lst ys=>cases e;exact bo.mp h
 |tup ys=>cases e;obtain⟨a,vs,e1,e2,e3⟩:=bp.mp h;exact⟨a,vs,e1,jn.of e2,e3⟩
 |_=>cases e
noncomputable def iP:List D->List D->List D
 |x::xs,y::ys=>.tup [x,y]::iP xs ys
 |_,_=>[]
theorem gd:∀xs ys:List D,(iP xs ys).length=min xs.length ys.length
 |[],_=>by simp[iP]
 |_::_,[]=>by simp[iP]
 |x::xs,y::ys=>by
  rw[iP,Ho,gd xs ys,Ho,Ho];omega
theorem kr:∀{xs ys:List D}{i:Nat}{d:D},(iP xs ys)[i]?=some d->∃x y,xs[i]?=some x/\ys[i]?=some y/\d=.tup [x,y]
 |[],_,i,d,h=>by simp[iP]at h
 |_::_,[],i,d,h=>by simp[iP]at h
 |x::xs,y::ys,0,d,h=>by
  rw[iP,Iy]at h;cases h;exact⟨x,y,rfl,rfl,rfl⟩
 |x::xs,y::ys,i+1,d,h=>by
  rw[iP,Iz]at h;obtain⟨a,b,h1,h2,h3⟩:=kr h;exact⟨a,b,by rw[Iz];exact h1,by rw[Iz];exact h2,h3⟩
theorem vn{K:Jv}{Hd:Hp}{b1 b2:Bool}{a1 a2:Kv}{ds es:List D}{vs ws:aB}(h1:SX K b1 Hd a1 vs)(g1:aK K Hd ds vs)(h2:SX K b2 Hd a2 ws)(g2:aK K Hd es ws):Walk K Hd (Gd K b1 b2 a1 a2) (iP ds es):=λHn O' i hO sm=>
  have s':aQ Hd Hn:=sm.trans (az Hn O')
  ⟨fun d e=>by
    obtain⟨x,y,e1,e2,rfl⟩:=kr e;have l1:i<ds.length:=(List.getElem?_eq_some_iff.mp e1).1;have l2:i<es.length:=(List.getElem?_eq_some_iff.mp e2).1;obtain⟨v,ev,dv⟩:=g1.get e1;obtain⟨w,ew,dw⟩:=g2.get e2;refine⟨⟨vs,ws,h1.same s',h2.same s',by rw[<-g1.length];exact l1,by rw[<-g2.length];exact l2⟩,λu H2 ⟨p,x',y',eu,hp,eH,q1,q2⟩=>?_⟩;have z1:=q1 vs (h1.same s');rw[ev]at z1;cases z1;have z2:=q2 ws (h2.same s');rw[ew]at z2;cases z2;subst eH eu;exact⟨bB hp _,cN hO hp (aX.mpr ⟨v,_,rfl,dv.mono sm,aX.mpr ⟨w,_,rfl,dw.mono sm,bL.mpr rfl⟩⟩)⟩,
   λhl=>by
    rw[gd]at hl;refine⟨vs,ws,h1.same s',h2.same s',?_⟩;rw[<-g1.length,<-g2.length]
    omega⟩
noncomputable def uB:List D->Option (List D)
 |[a,b]=>(yV a).bind λx=>(yV b).bind λy=>some (iP x.2 y.2)
 |_=>none
noncomputable def uZ(f:aN):aN:=λρ=>(f ρ).bind λds=>rO (uB ds)
section
variable{X:Cx}
theorem Bv{a b c:Kv}(h1:a≠b)(h2:a≠c):a∉[b,c]:=λh=>by
 rcases List.mem_cons.mp h with z|z
 ·exact h1 z
 ·exact h2 (List.mem_singleton.mp z)
theorem tV{n a1 a2:Kv}(h1:a1<n)(h2:a2<n):Apart (n+4) (n+2) (n+3) n (n+1) [n,a1] [n+1,a2]:=by
 have lt:∀{a b:Nat},a<b->(b:Kv)≠(a:Kv):=λh=>Hh h;have lt':∀{a b:Nat},a<b->(a:Kv)≠(b:Kv):=λh=>G4 h;have g:∀k:Nat,a1<n+k:=λk=>G2 h1 (IB _ _);have g':∀k:Nat,a2<n+k:=λk=>G2 h2 (IB _ _);have p:∀{j k:Nat},j<k->n+j<n+k:=λh=>IC h n;have p0:∀{k:Nat},0<k->n<n+k:=λh=>IE h;exact⟨lt' (p (by decide)),lt' (p (by decide)),lt' (p (by decide)),Bv (lt (p0 (by decide))) (lt (g 4)),Bv (lt (p0 (by decide))) (lt (g 3)),Bv (lt (p0 (by decide))) (lt (g 1)),
  Bv (lt (p (by decide))) (lt (g' 4)),Bv (lt (p (by decide))) (lt (g' 3)),Bv (lt' (p0 (by decide))) (lt h2),lt (p0 (by decide)),lt (p (by decide)),G8,G8⟩
theorem Ak{pins:aR}{s:Ky}{σ:St}{H:Hp}{O:ay}{es:aU}{k:Nat}{tpos:Pos}{ds r:List D}{vs:aB}{us:aL}{RR:It->Hp->Prop}(I:Inv X pins σ H s)(hc:uB ds=some r)(d1:aK X.K (hid H O) ds vs)(rv:Vals vs us)(q:∀J,Walk X.K (hid H O) J r->RR J H):
  KO (model X.prog X.w) X.A (call (.type "zip") us) (λv s1=>KO (model X.prog X.w) X.A (pyIter v) (PIE X pins σ (.Tuple es k tpos) RR) X.xe s1) X.xe s:=by
 unfold uB at hc;split at hc
 ·rename_i a b;obtain⟨⟨b1,xs⟩,e1,hc⟩:=bind_some hc;obtain⟨⟨b2,ys⟩,e2,hc⟩:=bind_some hc;cases hc;obtain⟨va,vb,rfl,da,db⟩:=d1.two;obtain⟨u1,u2,rfl,r1,r2⟩:=vals2 rv;obtain⟨a1,ws1,rfl,x1,y1⟩:=kI e1 da;obtain⟨a2,ws2,rfl,x2,y2⟩:=kI e2 db;cases r1;cases r2;obtain⟨its1,rr1,q1,_⟩:=Inv.sx I (x1.same (az H O));obtain⟨its2,rr2,q2,_⟩:=Inv.sx I (x2.same (az H O));refine wm q1 q2 λg hz hI hO s1 s2 kp=>wpAny_pyIter_zip hz ?_;have Ap:=tV q1.lt q2.lt;refine⟨_,_,_,_,H,rfl,I.kept (t':=s.toks) kp,wq (b1:=b1) (b2:=b2) Ap (G4 q1.lt) (G4 (G2 q2.lt (IB _ 1))) (Hh (IE (by decide))) (Hh (IC (by decide) _)),⟨hz,hI,⟨_,_,hO⟩,s1,s2⟩,λb hb=>?_,q _ (vn x1 y1 x2 y2)⟩;have le:s.heap.objs.size<=b:=by
   simp only[Iu,Iw,or_false]at hb;rcases hb with rfl|rfl|rfl|rfl|rfl
   ·exact IB _ _
   ·exact IB _ _
   ·exact IB _ _
   ·exact Hj _
   ·exact IB _ _
  exact I.fpOk le (I.hok.fresh le)
 ·cases hc
end
noncomputable def Gi(K:Jv)(b:Bool)(a:Kv):It:=
  ⟨fun i H=>∃ xs,SX K b H a xs/\i < xs.length,
   λi H v H'=>∃p x,v=.ref p/\H p=none/\H'=upd H p (.tup [.int i,x])/\∀xs,SX K b H a xs->xs[i]?=some x,
   λi H=>∃xs,SX K b H a xs/\i=xs.length⟩
theorem sR{P:KA}{w:Kz}{K:Jv}{es:aU}{k:Nat}{pos:Pos}{b:Bool}{a e it:Kv}(n1:a≠it)(n2:e≠it)(n3:e≠a):Turn P w K (.Tuple es k pos) (Gi K b a) [e,it] e (λi h=>(∃old,IsEnum h e it i old)/\SI b h it a i)where
 mem:=by simp
 obj:=λi h ⟨⟨old,he⟩,s1⟩ c hc=>by
  simp only[Iu,Iw,or_false]at hc;rcases hc with rfl|rfl
  ·exact⟨_,he,λv q=>by cases q⟩
  ·exact s1.get
 keep:=λi h h' ⟨⟨old,he⟩,s1⟩ kp=>⟨⟨old,kp e (by simp) _ he⟩,s1.keep λo q=>kp it (by simp) o q⟩
 item:=by
  rintro X hP hw hK hc i pins s σ H E I hf ⟨⟨old,he⟩,s1⟩ hg;subst hP hw hK;obtain⟨xs,g1,l1⟩:=hg;obtain⟨its,r1,q1,z1⟩:=Inv.sx I g1;have hh:X.A.in1.handled=none:=I.ok.hd hc;refine wpAny_pyNext_enum_itemD (gB (A:=X.A.in1) b hh it a n1 its.toArray) he ⟨s1,q1⟩ (by rw[Hl,<-r1.length];exact l1) n2 (Bv n2 n3) λu g tk p1 ho t1 hp sz kp=>?_;have e1:its[i]?=some u:=by simpa using p1
  obtain⟨u',hu,ru⟩:=r1.get (i:=i) (x:=xs[i]) (by simp[l1]);rw[e1]at hu;cases hu;refine⟨_,rfl,wpAny_letOwnedTupleGo_enum ho λg' he' sb=>?_⟩;have hpe:s.heap.objs.size≠e:=Hh (J3 he);have hp':=sb.extBut _ _ hpe hp;have I':Inv X pins σ (upd H s.heap.objs.size (.tup [.int i,xs[i]])) {s with heap:=g',toks:=tk+1}:=Inv.turnedL (ch:=[e,it]) I hf (λc o hc q=>by
   simp only[Iu,Iw,or_false,not_or]at hc;exact sb.extBut _ _ hc.1 (kp c o hc.1 hc.2 q)) (Hj _) ⟨by show 2<=KG;decide,[.int i tk,u],.cons ⟨_,rfl⟩ (.cons ru .nil),_,hp',rfl,_,rfl⟩
  have ne:∀c∈[e,it],c≠s.heap.objs.size:=λc hc q=>by
   simp only[Iu,Iw,or_false]at hc;rcases hc with rfl|rfl
   ·exact hpe q.symm
   ·obtain⟨o,q',_⟩:=s1.get;exact absurd (J3 q') (by rw[q];exact G3 _)
  refine⟨.ref s.heap.objs.size,_,I',rfl,⟨_,xs[i],rfl,I.fresh,rfl,λxs' h=>by rw[Inv.sx_inj I h g1];simp[l1]⟩,⟨⟨u,?_⟩,t1.1.keep λo q=>sb.extBut _ _ n2.symm q⟩,λc hc=>by rw[av (ne c hc)];exact(hf c hc).1⟩;have ei:((i+1:Nat):Int)=(i:Int)+1:=by omega
  rw[ei];exact he'
 done:=by
  rintro X hP hw hK hc i pins s σ H E I hf ⟨⟨old,he⟩,s1⟩ hg;subst hP hw hK;obtain⟨xs,g1,l1⟩:=hg;obtain⟨its,r1,q1,z1⟩:=Inv.sx I g1;have hh:X.A.in1.handled=none:=I.ok.hd hc;have el:i=its.toArray.size:=by rw[Hl,<-r1.length];exact l1
  refine wpAny_pyNext_enum_endD (gB (A:=X.A.in1) b hh it a n1 its.toArray) he ⟨by rw[<-el];exact s1,q1⟩ λg kp=>⟨rfl,Inv.turned0 (ch:=[e,it]) I hf λc o hc q=>?_⟩
  simp only[Iu,Iw,or_false,not_or]at hc;exact kp c o hc.2 q
 self:=λ_ _ _ _ _ ⟨⟨old,he⟩,_⟩ h=>wpAny_pyIter_enum he h
noncomputable def dz(i:Nat):List D->List D
 |[]=>[]
 |x::xs=>.tup [.int i,x]::dz (i+1) xs
theorem dC:∀(i:Nat)(xs:List D),(dz i xs).length=xs.length
 |_,[]=>rfl
 |i,x::xs=>by rw[dz,Ho,dC (i+1) xs,Ho]
theorem lT:∀{xs:List D}{k i:Nat}{d:D},(dz k xs)[i]?=some d->∃x,xs[i]?=some x/\d=.tup [.int ((k+i:Nat):Int),x]
 |[],k,i,d,h=>by simp[dz]at h
 |x::xs,k,0,d,h=>by
  rw[dz,Iy]at h;cases h;exact⟨x,rfl,rfl⟩
 |x::xs,k,i+1,d,h=>by
  rw[dz,Iz]at h;obtain⟨y,h1,h2⟩:=lT h;refine⟨y,by rw[Iz];exact h1,?_⟩;rw[h2];congr 4;omega
theorem uf{K:Jv}{Hd:Hp}{b:Bool}{a:Kv}{ds:List D}{vs:aB}(h1:SX K b Hd a vs)(g1:aK K Hd ds vs):Walk K Hd (Gi K b a) (dz 0 ds):=λHn O' i hO sm=>
  have s':aQ Hd Hn:=sm.trans (az Hn O')
  ⟨fun d e=>by
    obtain⟨x,e1,rfl⟩:=lT e;have l1:i<ds.length:=(List.getElem?_eq_some_iff.mp e1).1;obtain⟨v,ev,dv⟩:=g1.get e1;refine⟨⟨vs,h1.same s',by rw[<-g1.length];exact l1⟩,λu H2 ⟨p,x',eu,hp,eH,q1⟩=>?_⟩;have z1:=q1 vs (h1.same s');rw[ev]at z1;cases z1;subst eH eu;rw[IG];exact⟨bB hp _,cN hO hp (aX.mpr ⟨.int i,_,rfl,dD.mpr rfl,aX.mpr ⟨v,_,rfl,dv.mono sm,bL.mpr rfl⟩⟩)⟩,
   λhl=>by
    rw[dC]at hl;exact⟨vs,h1.same s',by rw[<-g1.length];exact hl⟩⟩
noncomputable def lJ:List D->Option (List D)
 |[a]=>(yV a).bind λx=>some (dz 0 x.2)
 |_=>none
noncomputable def de(f:aN):aN:=λρ=>(f ρ).bind λds=>rO (lJ ds)
section
variable{X:Cx}
theorem uE{prog:KA}{w:Kz}{A:KJ}{E:bj}{s:Ky}{b:Bool}{l:Kv}{xs:Array Kt}{Q:bj}(h1:SQ b s.heap l xs)
  (h:∀g,IsEnum g (s.heap.objs.size+1) s.heap.objs.size 0 .none->SI b g s.heap.objs.size l 0->(∀c o,s.heap.get? c=some o->g.get? c=some o)->Q (.ref (s.heap.objs.size+1)) {s with heap:=g}):KO (model prog w) A (call (.type "enumerate") [.ref l]) Q E s:=by
 refine callType_new F.called_enumerate (by decide) (F.typeCall_enumerate_1 _) (F.newCall_enumerate_1 _) (λobj=>F.args_object_init_2 obj _) F.entry_enumerate_new (uj b l xs) ⟨h1,?_⟩;have z1:(uG b s.heap l).objs.size=s.heap.objs.size+1:=J8 ..
 have g2:=J7 (uG b s.heap l) (o:={cls:=.type "enumerate",data:=.fields #[.none,.bool false,.ref s.heap.objs.size,rawInt 0,.none,.none]}) rfl;have g1:SI b ((uG b s.heap l).push {cls:=.type "enumerate",data:=.fields #[.none,.bool false,.ref s.heap.objs.size,rawInt 0,.none,.none]}) s.heap.objs.size l 0:=SI.keep SI.new λo e=>J6 _ e;show _/\_;rw[z1]at g2 ⊢;exact⟨⟨_,g2,rfl⟩,h _ g2 g1 λc o e=>J6 _ (J6 _ e)⟩
theorem yr{pins:aR}{s:Ky}{σ:St}{H:Hp}{O:ay}{es:aU}{k:Nat}{tpos:Pos}{ds r:List D}{vs:aB}{us:aL}{RR:It->Hp->Prop}(I:Inv X pins σ H s)(hc:lJ ds=some r)(d1:aK X.K (hid H O) ds vs)(rv:Vals vs us)(q:∀J,Walk X.K (hid H O) J r->RR J H):
  KO (model X.prog X.w) X.A (call (.type "enumerate") us) (λv s1=>KO (model X.prog X.w) X.A (pyIter v) (PIE X pins σ (.Tuple es k tpos) RR) X.xe s1) X.xe s:=by
 unfold lJ at hc;split at hc
 ·rename_i a;obtain⟨⟨b1,xs⟩,e1,hc⟩:=bind_some hc;cases hc;obtain⟨va,rfl,da⟩:=d1.one;obtain⟨u1,rfl,r1⟩:=vals1 rv;obtain⟨a1,ws1,rfl,x1,y1⟩:=kI e1 da;cases r1;obtain⟨its1,rr1,q1,_⟩:=Inv.sx I (x1.same (az H O));refine uE q1 λg he s1 kp=>wpAny_pyIter_enum he ?_;refine⟨_,_,_,_,H,rfl,I.kept (t':=s.toks) kp,sR (b:=b1) (G4 q1.lt) (Hh (IE (by decide))) (Hh (G2 q1.lt (IB _ 1))),⟨⟨_,he⟩,s1⟩,λb hb=>?_,q _ (uf x1 y1)⟩;have le:s.heap.objs.size<=b:=by
   simp only[Iu,Iw,or_false]at hb;rcases hb with rfl|rfl
   ·exact IB _ _
   ·exact Hj _
  exact I.fpOk le (I.hok.fresh le)
 ·cases hc
end
end TG
namespace TG
open PySem PySem.Spec L2
variable[ax]
theorem cM{K:Jv}{c:Str}{C C':Kv}(h:clsAt K c C)(h':clsAt K c C'):C=C':=by
 unfold clsAt at h h';rw[h]at h';cases h';rfl
theorem hW{K:Jv}{H:Hp}{f:Str}:∀{fs:ap}{ds:List D}{vs:aB}{d:D},aK K H ds vs->(fs.zip ds).lookup f=some d->∃v,(fs.zip vs).lookup f=some v/\bM K H d v
 |[],_,_,_,_,e=>by simp at e
 |_::_,[],_,_,_,e=>by simp at e
 |g::fs,x::ds,vs,d,h,e=>by
  rw[aX]at h;obtain⟨v,r,rfl,h1,h2⟩:=h;rw[IH,HN]at e ⊢;cases hg:f==g with
  |true=>rw[hg]at e;cases e;exact⟨v,rfl,h1⟩
  |false=>rw[hg]at e;exact hW h2 e
theorem lE{f:Str}:∀{fs:ap}{vs:aB},fs.contains f=false->(fs.zip vs).lookup f=none
 |[],_,_=>by simp
 |_::_,[],_=>by simp
 |g::fs,x::vs,h=>by
  rw[II,IJ]at h;rw[IH,HN,h.1];exact lE h.2
noncomputable def dP(f:Str)(cs:ap)(d:D):aZ:=match d with
 |.obj c fs vs=>if cs.contains c then(fs.zip vs).lookup f else none
 |_=>none
noncomputable def jb(K:Jv)(f:Str)(cs:ap):Prop:=∀c∈cs,∀C,clsAt K c C->pF K C/\cp K C f
section
variable{X:Cx}{a o e:Kw}{es:aU}{fa fo:FX}{fas:aN}{f m x:Str}{cs:ap}{pos apos p:Pos}{k k':Nat}{ps:ap}
noncomputable def MethAt(P:KA)(w:Kz)(K:Jv)(mg:bC)(base:KC)(k:Nat)(c m:Str)(ps:ap)(g:cQ):Prop:=
 ∃C f fd,clsAt K c C/\pF K C/\Meth K C m f/\dJ P w K mg base (iD P w) k f fd ps (uH K ps.length g)/\Binds K fd ps []
noncomputable def fA(m:Str)(tbl:List (Str×(cQ)))(fo:FX)(fas:aN):FX:=λρ=>(fo ρ).bind λo=>match o with
 |.obj c fs vs=>match tbl.lookup c with
  |some g=>if fs.contains m then un else(fas ρ).bind λas=>g (o::as)
  |none=>un
 |_=>un
noncomputable def kU(P:KA)(w:Kz)(K:Jv)(mg:bC)(base:KC)(k:Nat)(m:Str)(ps:ap)(tbl:List (Str×(cQ))):Prop:=
 ∀c g,tbl.lookup c=some g->MethAt P w K mg base k c m ps g/\Ar ps.length g
theorem xQ{P:KA}{w:Kz}{K:Jv}{mg:bC}{base:KC}:kU P w K mg base k m ps []:=λ_ _ h=>nomatch h
theorem xc{P:KA}{w:Kz}{K:Jv}{mg:bC}{base:KC}{c:Str}{g:cQ}{tbl:List (Str×(cQ))}(h:MethAt P w K mg base k c m ps g)(hn:Ar ps.length g)(t:kU P w K mg base k m ps tbl):kU P w K mg base k m ps ((c,g)::tbl):=λc' g' e=>by
 rw[HN]at e;cases hc:c'==c with
 |true=>
  rw[hc]at e;cases e
  have:c'=c:=by simpa using hc
  subst this;exact⟨h,hn⟩
 |false=>rw[hc]at e;exact t c' g' e
theorem MethAt.mono{P:KA}{w:Kz}{K:Jv}{mg:bC}{base:KC}{c:Str}{g:cQ}(h:MethAt P w K mg base k c m ps g)(hk:k<=k'):MethAt P w K mg base k' c m ps g:=by
 obtain⟨C,f,fd,h1,h2,h3,h4,h5⟩:=h;exact⟨C,f,fd,h1,h2,h3,h4.mono hk,h5⟩
theorem pf{tbl:List (Str×(cQ))}{args:aU}{pl:Sem Bool}(tb:kU X.prog X.w X.K X.mg X.base k m ps tbl)(hr:dr k X.A)(ho:FE X o fo)
  (hc:∀ (pins:aR) (s1:Ky) (σ:St) (H1:Hp) (O:ay) (ρ:aw) (a f:Kv) (od:D) (Q:VK) (g:cQ) (fd:Ln) (w0:V),JK X.K (.ref f)=true->dJ X.prog X.w X.K X.mg X.base (iD X.prog X.w) k f fd ps (uH X.K ps.length g)->Binds X.K fd ps []->Ar ps.length g->Inv X pins σ H1 s1->cw X.K O H1 ρ σ->bM X.K (hid H1 O) od (.ref a) ->
   (dE X σ O H1 ((fas ρ).bind λas=>g (od::as)) λd=>∀v H',aQ H1 H'->bM X.K (hid H' O) d v->Q v H')->
   KO (model X.prog X.w) X.A (Lh pos (.ref f) [.ref a] (backTo pos (KP args X.env)) (backToKw pos (Li [] X.env))) (EP X pins σ Q) X.xe s1)
  (ht:eval (.Call (.Attribute o m apos) args [] pos) X.env=(do
   let ov<-eval o X.env
   standAt apos.atName
   let (f,first)<-holding [ov] (getMethod ov m pl)
   Lh pos f first (backTo pos (KP args X.env)) (backToKw pos (Li [] X.env)))):
  FE X (.Call (.Attribute o m apos) args [] pos) (fA m tbl fo fas):=by
 rintro pins s σ H Q I ⟨O,ρ,E,hF⟩;refine oQ ho I ?_ ht;refine⟨O,ρ,E,(dE.bind hF).imp λd hF v H1 s1 d1=>?_⟩;cases d with
 |obj c fs vs=>
  have hF':dE X σ O H (match tbl.lookup c with|some g=>if fs.contains m then un else(fas ρ).bind λas=>g (.obj c fs vs::as)|none=>un) _:=hF;cases hg:tbl.lookup c with
  |none=>rw[hg]at hF';exact hF'.elim
  |some g=>
   rw[hg]at hF';have hF2:dE X σ O H (if fs.contains m then un else(fas ρ).bind λas=>g (.obj c fs vs::as)) _:=hF';cases hm:fs.contains m with
   |true=>rw[hm]at hF2;exact hF2.elim
   |false=>
    rw[hm]at hF2;have hF3:dE X σ O H ((fas ρ).bind λas=>g (.obj c fs vs::as)) _:=hF2;have d0:=d1;obtain⟨a,ws,ev,g1,g2,C,dx,g3,g4⟩:=DZ.mp d1;obtain⟨⟨C',f,fd,m1,m2,m3,m4,m5⟩,ar⟩:=tb c g hg;have eC:=cM g3 m1;subst eC;subst ev;refine⟨a,C,dx,_,f,rfl,az H1 O _ _ g4,m2,m3,lE hm,λs2 I2=>?_⟩;exact hc pins s2 σ H1 O ρ a f _ Q g fd (.ref a) m3.kp m4 m5 ar I2 (E.same s1) d0 ((hF3.mono s1).imp λd q v H2 s2 d2=>q v H2 (s1.trans s2) d2)
 |_=>exact hF.elim
theorem kS{σ:St}{O:ay}{H:Hp}{g:cQ}{ds:List D}{vs:aB}{Q:VK}{n:Nat}(ar:Ar n g)(hO:cB H O)(d1:aK X.K (hid H O) ds vs)(h:dE X σ O H (g ds) λd=>∀v H',aQ H H'->bM X.K (hid H' O) d v->Q v H'):∃E,fX (iD X.prog X.w) X σ E/\uH X.K n g vs H Q E:=by
 cases hg:g ds with
 |ok d=>
  rw[hg]at h;refine⟨E0,rH,O,ds,by rw[<-d1.length];exact ar ds (by rw[hg];intro z;cases z),hO,d1,?_⟩;rw[hg];exact h
 |error z=>
  rw[hg]at h;cases z with
  |none=>exact h.elim
  |some x=>
   refine⟨rY X O H x,qR h,O,ds,by rw[<-d1.length];exact ar ds (by rw[hg];intro z;cases z),hO,d1,?_⟩;rw[hg];exact ph
theorem sI{P:KA}{w:Kz}{K:Jv}{mg:bC}{base:KC}{c y qual:Str}{C f:Kv}{fd:Ln}{st:Kx}{N:ap}{B:bJ}(h1:clsAt K c C)(h2:pF K C)(h3:Meth K C m f)(F:pq K y qual st f fd)(b:Binds K fd ps [])(SC:cu N ps (aD st))(hb:BodyOk P w K mg base k N qual st f B):
  MethAt P w K mg base (k+1) c m ps (aF B ps.length N.length):=⟨C,f,fd,h1,h2,h3,nh F SC hb,b⟩
noncomputable def GA(C:Kv)(fs:ap):Sp:=λvs H Q _=>∃x dx as,vs=.ref x::as/\as.length=fs.length/\H x=some (.ins C dx [])/\Q .non (upd H x (.ins C dx (fs.zip as)))
noncomputable def mJ(P:KA)(w:Kz)(K:Jv)(mg:bC)(base:KC)(k:Nat)(c:Str)(ps fs:ap):Prop:=
 ∃C f fd,clsAt K c C/\Mk K C f/\dJ P w K mg base (iD P w) k f fd ps (GA C fs)/\Binds K fd ps []/\mg c=some (.ref C)
noncomputable def fNew(c:Str)(fs:ap)(fas:aN):FX:=λρ=>(fas ρ).bind λas=>if as.length=fs.length then .ok (.obj c fs as)else un
theorem pD{K:Jv}{H1:Hp}{O:ay}{c:Str}{fs:ap}{as:List D}{vs:aB}{C x dx:Kv}(hc:clsAt K c C)(hl:as.length=fs.length)(d1:aK K (hid H1 O) as vs)(hO:cB H1 O)(hx:H1 x=none)(hd:H1 dx=none)(ne:dx≠x):
  aQ H1 (upd (upd (upd H1 dx (.own x)) x (.ins C dx [])) x (.ins C dx (fs.zip vs)))/\bM K (hid (upd (upd (upd H1 dx (.own x)) x (.ins C dx [])) x (.ins C dx (fs.zip vs))) O) (.obj c fs as) (.ref x):=by
 have sm:aQ H1 (upd (upd (upd H1 dx (.own x)) x (.ins C dx [])) x (.ins C dx (fs.zip vs))):=λb o h=>by
  have n1:=aM h hx;have n2:=aM h hd;rw[av n1,av n1,av n2];exact h
 exact⟨sm,DZ.mpr ⟨x,vs,rfl,d1.mono (bq sm),by rw[<-d1.length,hl],C,dx,hc,by rw[hV (hO.not hx),aA]⟩⟩
theorem zS{X:Cx}:qG (iD X.prog X.w) X E0:=λ_ _ _ _ _ _ _ h=>by
 obtain⟨_,_,_,_,_,_,_,_,_,_,_,_,_,_,z⟩:=h;exact z.elim
theorem ku(f:Str)(v:V):∀{fs:List (Str×V)},(fs.map (·.1)).contains f=false->fH f v fs=fs++[(f,v)]
 |[],_=>rfl
 |(g,w)::fs,h=>by
  rw[Hq,II,IJ]at h;have ne:¬g=f:=λz=>by
   have:=h.1
   rw[z]at this;simp at this
  have:=ku f v (fs:=fs) h.2
  unfold fH;simp only[ne,if_false,this,HR]
noncomputable def rZ(X:Cx)(cs:ap)(body:cD)(fs:ap)(i:Nat):Prop:=
 ∃t,og X body t/\∀(D:Ends)(σ:St)(H:Hp)(x dx C:Kv)(done:List (Str×V))(as:aB),σ[0]?=some (some (.ref x))->(∀j v,as[j]?=some v->σ[i+j]?=some (some v))->as.length=fs.length->pF X.K C->(∀f∈fs,cp X.K C f)->done.length+fs.length<1000->(done.map (·.1)++fs).Nodup->H x=some (.ins C dx done)->
  D.nx σ (upd H x (.ins C dx (done++fs.zip as)))->t D σ H
theorem tZ{st:Kx}{f:Str}{i:Nat}{o v:Kw}{p1 p2:Pos}(hst:st=.Assign [.Attribute o f p1] v p2)(ho:PE X o (km 0))(hv:PE X v (km i))(hs:swapsWith v (some (.Attribute o f p1)) p2.line X.env=pure false):rZ X cs [st] [f] i:=by
 subst hst;refine⟨_,nR (wd ho hv hs),λD σ H x dx C done as h0 ha hl cl na hz nd hx q=>?_⟩;obtain⟨a,rfl⟩:∃a,as=[a]:=by
  match as,hl with
  |[a],_=>exact⟨a,rfl⟩
 refine⟨a,ha 0 a rfl,.ref x,h0,x,C,dx,done,rfl,hx,cl,na f (List.mem_singleton.mpr rfl),by simp at hz;omega,?_⟩;rw[ku f a (by
  have:=nd
  rw[IK]at this;have h3:=this.2.2;cases hc:(done.map (·.1)).contains f with
  |false=>rfl
  |true=>exact absurd rfl (h3 f (List.contains_iff_mem.mp hc) f (List.mem_singleton.mpr rfl)))]
 exact q
theorem gZ{st:Kx}{rest:cD}{f:Str}{fs:ap}{i:Nat}{o v:Kw}{p1 p2:Pos}(hst:st=.Assign [.Attribute o f p1] v p2)(ho:PE X o (km 0))(hv:PE X v (km i))(hs:swapsWith v (some (.Attribute o f p1)) p2.line X.env=pure false)(hr:rZ X cs rest fs (i+1)):rZ X cs (st::rest) (f::fs) i:=by
 subst hst;obtain⟨t,ht,hq⟩:=hr;refine⟨_,o4 (wd ho hv hs) ht,λD σ H x dx C done as h0 ha hl cl na hz nd hx q=>?_⟩;obtain⟨a,as,rfl⟩:∃a r,as=a::r:=by
  match as,hl with
  |a::r,_=>exact⟨a,r,rfl⟩
 have hno:(done.map (·.1)).contains f=false:=by
  have:=nd
  rw[IK]at this;have h3:=this.2.2;cases hc:(done.map (·.1)).contains f with
  |false=>rfl
  |true=>exact absurd rfl (h3 f (List.contains_iff_mem.mp hc) f G8)
 refine⟨a,ha 0 a rfl,.ref x,h0,x,C,dx,done,rfl,hx,cl,na f G8,by simp at hz;omega,?_⟩;rw[ku f a hno];refine hq D σ _ x dx C (done++[(f,a)]) as h0 (λj v e=>?_) (by simpa using hl) cl (λg hg=>na g (G9 _ hg)) (by simp at hz ⊢;omega) (by simpa [Iq]using nd) (by rw[aA]) ?_
 ·have:=ha (j+1) v (by simpa using e)
  rw[show i+1+j=i+(j+1)by omega];exact this
 ·rw[rT,Iq];exact q
theorem uq{P:KA}{w:Kz}{K:Jv}{mg:bC}{base:KC}{c qual:Str}{C f:Kv}{fd:Ln}{st:Kx}{fs:ap}(h1:clsAt K c C)(hM:Mk K C f)(cl:pF K C)(na:∀g∈fs,cp K C g)(F:pq K "__init__" qual st f fd)(b:Binds K fd ps [])(hmg:mg c=some (.ref C))(SC:cu ps ps (aD st))(hps:ps.length=fs.length+1)(hnd:fs.Nodup)(hlen:fs.length<1000)
  (hb:∀(cdv:Kt)(A:KJ)(outer:List Env)(s:Ky)(H:Hp)(E:XK),rZ (fG CC P w K mg base ps qual (aD st) f cdv A outer s H E).nox [] (cA st) fs 1):mJ P w K mg base (k+1) c ps fs:=by
 refine⟨C,f,fd,h1,hM,?_,b,hmg⟩;refine dJ.any (F.ok SC (λvs H Q E h=>?_) λcdv A outer s H vs Q E hr h=>?_)
 ·obtain⟨x,dx,as,rfl,hl,_⟩:=h;rw[Ho,hl,hps]
 ·obtain⟨t,ht,hq⟩:=hb cdv A outer s H E;obtain⟨x,dx,as,rfl,hl,hx,q⟩:=h;have hst:L2.start ps (.ref x::as)=(.ref x::as).map some:=by
   unfold L2.start;rw[Ho,hl,hps,IL,IM,Hu]
  refine⟨t,ht,hq _ _ H x dx C [] as (by rw[hst];rfl) (λj v e=>?_) hl cl na (by simpa using hlen) (by simpa using hnd) hx q⟩;rw[hst,IP,Hq,Iz,HB,e];rfl
end
end TG
namespace TG
open PySem PySem.Spec L2
variable[ax]
section
variable{X:Cx}
noncomputable def iK:List D->Option (ap)
 |[]=>some []
 |.str x::r=>(iK r).bind λys=>some (x::ys)
 |_=>none
theorem lM:∀{ds:List D}{ys:ap},iK ds=some ys->ds=ys.map .str
 |[],ys,h=>by cases h;rfl
 |d::ds,ys,h=>by
  cases d with
  |str x=>
   have h':(iK ds).bind (λys=>some (x::ys))=some ys:=h;cases e:iK ds with
   |none=>rw[e]at h';cases h'
   |some zs=>
    rw[e]at h';cases h';rw[lM e];rfl
  |_=>cases h
theorem mB{K:Jv}{H:Hp}:∀{ys:ap}{vs:aB},aK K H (ys.map .str) vs->vs=ys.map .str
 |[],vs,h=>bL.mp h
 |y::ys,vs,h=>by
  obtain⟨v,r,rfl,h1,h2⟩:=aX.mp h;rw[dh.mp h1,mB h2];rfl
theorem qM:∀{ys:ap}{its:aL},Vals (ys.map .str) its->PyProof.Rows.StrsAre its ys
 |[],_,.nil=>.nil
 |y::ys,_,.cons h t=>by
  obtain⟨t',rfl⟩:=h;exact .cons y t' (qM t)
noncomputable def rJoin(K:Jv):V->aB->Hp->VK->Prop:=λx xs H Q=>∃z l ys,x=.str z/\xs=[.ref l]/\gQ K H l (ys.map V.str)/\(ys.map (λy=>y.length)).sum+ys.length*z.length<=100000/\Q (.str (Txt.join z ys)) H
theorem yh:Fs X "str.join" (rJoin X.K):=by
 rintro pins s σ H x xs v us Q I rx rs ⟨z,l,ys,ex,exs,hl,hz,q⟩;subst ex exs;obtain⟨t,rfl⟩:=rx;obtain⟨u,rfl⟩:∃u,us=[u]:=by
  cases rs with
  |cons _ t=>cases t;exact⟨_,rfl⟩
 have ru:RelV (.ref l) u:=by cases rs with|cons h _=>exact h
 cases ru;obtain⟨its,r,ht,_⟩:=I.list hl;exact PyProof.Rows.join_list ht.isList (qM r) ‹0› λt' k=>⟨.str _,H,I.tok _,⟨_,rfl⟩,q⟩
noncomputable def D9:D->Option Str
 |.str z=>some z
 |_=>none
theorem xF{K:Jv}{H:Hp}{d:D}{z:Str}{v:V}(e:D9 d=some z)(h:bM K H d v):v=.str z:=by
 cases d with
 |str y=>cases e;exact dh.mp h
 |_=>cases e
noncomputable def kO(z:Str)(as:List D):aZ:=match as with
 |[.lst xs]=>(iK xs).bind λys=>if small ((ys.map (λy=>y.length)).sum+ys.length*z.length)then some (.str (Txt.join z ys))else none
 |_=>none
noncomputable def fV(f:FX)(g:aN):FX:=λρ=>(f ρ).bind λa=>(rO (D9 a)).bind λz=>(g ρ).bind λds=>rO (kO z ds)
theorem nZ{K:Jv}{H:Hp}{O:ay}{z:Str}{ds:List D}{d:D}{vs:aB}{Q:VK}(hg:kO z ds=some d)(hd:aK K (hid H O) ds vs)(q:∀v,bM K (hid H O) d v->Q v H):rJoin K (.str z) vs H Q:=by
 unfold kO at hg;split at hg
 ·rename_i xs;cases e:iK xs with
  |none=>rw[e]at hg;cases hg
  |some ys=>
   rw[e]at hg;obtain⟨h1,h2⟩:=a8 hg;subst h2;obtain⟨v,ev,h1'⟩:=hd.one;obtain⟨l,ws,el,hl,hw⟩:=bo.mp h1';rw[lM e]at hw;rw[mB hw]at hl;exact⟨z,l,ys,rfl,by rw[ev,el],(az H O).seq hl,of_decide_eq_true h1,q _ (dh.mpr rfl)⟩
 ·cases hg
noncomputable def EC(a b:D):aZ:=match a,b with
 |.bl c,.bl d=>some (.bl (c==d))
 |_,_=>none
noncomputable def yX(a b:D):aZ:=match a,b with
 |.bl c,.bl d=>some (.bl (!(c==d)))
 |_,_=>none
end
section
variable{X:Cx}{C:Kv}{pins:aR}{σ:St}{H:Hp}{s:Ky}{Q:VK}
noncomputable def anyB:List D->Option Bool
 |[]=>some false
 |.bl b::r=>(anyB r).bind λc=>some (b||c)
 |_=>none
noncomputable def sN:List D->aZ
 |[.lst xs]=>(anyB xs).bind λb=>some (.bl b)
 |_=>none
theorem ou:∀{xs:List D}{b:Bool},anyB xs=some b->∃bs:List Bool,xs=bs.map .bl/\b=bs.any id
 |[],b,h=>by cases h;exact⟨[],rfl,rfl⟩
 |d::r,b,h=>by
  cases d with
  |bl x=>
   obtain⟨c,e1,e2⟩:=bind_some (show((anyB r).bind λc=>some (x||c))=some b from h);cases e2;obtain⟨bs,e3,e4⟩:=ou e1;exact⟨x::bs,by rw[Hq,e3],by rw[Ii,e4];rfl⟩
  |_=>cases h
theorem range_any(bs:List Bool):((List.range bs.length).any λi=>(bs[i]?).getD false)=bs.any id:=by
 induction bs with
 |nil=>rfl
 |cons b bs ih=>
  rw[Ho,H0,Ii,IQ,Ii,<-ih];rfl
theorem sJ(hc:X.calm=true):cX X (.builtin "any") (yW X.K sN):=by
 rintro pins s σ H xs us Q I r ⟨O,ds,d,hO,hd,hg,q⟩;unfold sN at hg;split at hg
 ·rename_i ys;obtain⟨bv,e1,e2⟩:=bind_some hg;cases e2;obtain⟨bs,eb,ev⟩:=ou e1;subst eb ev;obtain⟨v,evv,h1⟩:=hd.one;subst evv;obtain⟨p,vs,ep,g1,g2⟩:=bo.mp h1;subst ep;obtain⟨u,eu,ru⟩:=vals1 r;subst eu;cases ru;obtain⟨its,rv,pl,hz⟩:=I.list ((az H O).seq g1);have ei:=gX g2 rv;have hl:=pl.isList;have hlt:p<s.heap.objs.size:=by obtain⟨_,e,_⟩:=hl;exact J3 e
  refine call_any_walk (K4 hl ?_);refine⟨s.heap.objs.size,[s.heap.objs.size,p],[s.heap.objs.size],its.toArray.size,_,_,λi=>(bs[i]?).getD false,rfl,Walks.list (A:=X.A.in1) (I.ok.hd hc) _ p (G4 hlt) its.toArray,
   ⟨⟨_,J7 _ rfl,rfl,rfl⟩,hl.push _⟩,λi v s' Q' E' hP hQ=>?_,λh' tk hk=>?_⟩
  ·have e:bs[i]?.map Value.bool=some v:=by
    rw[<-HB,<-ei]
    simpa using hP
   cases eb:bs[i]? with
   |none=>rw[eb]at e;cases e
   |some b=>
    rw[eb]at e;cases e;simp only[eb,Ir]at hQ;exact KW hQ
  ·have e:((List.range its.toArray.size).any λi=>(bs[i]?).getD false)=bs.any id:=by
    have:its.toArray.size=bs.length:=(by rw[Hl,ei,Hr]);rw[this];exact range_any bs
   rw[e];have k:∀b x,s.heap.get? b=some x->h'.get? b=some x:=λb x e=>hk b x (λhm=>by rw[List.mem_singleton.mp hm]at e;exact G3 _ (J3 e)) (J6 _ e);exact⟨.bl _,H,I.kept k,rfl,q _ H (aQ.refl H) (eT.mpr rfl)⟩
 ·cases hg
end
end TG
namespace TG
open PySem PySem.Spec PyProof.Rows L2
variable[ax]
noncomputable def o8:List D->List D->Option Bool
 |[],[]=>some false
 |[],_::_=>some true
 |_::_,[]=>some false
 |a::as,b::bs=>match a,b with
  |.int i,.int j=>if i=j then o8 as bs else some (decide (i<j))
  |.str x,.str y=>if x=y then o8 as bs else some (decide (x.cps.toList<y.cps.toList))
  |_,_=>none
inductive eA:aL->List D->Prop where
 |nil:eA [] []
 |int (i:Int) (t:Tok) {vs:aL} {ds:List D} (h:eA vs ds):eA (.int i t::vs) (.int i::ds)
 |str (x:Str) (t:Tok) {vs:aL} {ds:List D} (h:eA vs ds):eA (.str x t::vs) (.str x::ds)
theorem eA.length:∀{vs:aL}{ds:List D},eA vs ds->vs.length=ds.length
 |_,_,.nil=>rfl
 |_,_,.int _ _ h=>by rw[Ho,Ho,h.length]
 |_,_,.str _ _ h=>by rw[Ho,Ho,h.length]
theorem Cv(A:KJ)(s:Ky)(a:Int)(t:Tok)(c:Int)(u:Tok):∃e,SeqAt.EqAt A s (.int a t) (.int c u) e/\(e=true↔a=c):=
 ⟨(a==c),SeqAt.EqAt.int_int a t c u,by simp⟩
theorem Dv(A:KJ)(s:Ky)(a:Str)(t:Tok)(c:Str)(u:Tok):∃e,SeqAt.EqAt A s (.str a t) (.str c u) e/\(e=true↔a=c):=
 ⟨(a==c),SeqAt.EqAt.str_str a t c u,by simp⟩
theorem Dg(A:KJ)(s:Ky)(a:Str)(t:Tok)(c:Str)(u:Tok)(prog:KA)(w:Kz)(E:bj)(Q:bj)(h:Q (.bool (decide (a.cps.toList<c.cps.toList))) s):
  KO (model prog w) A (richCompare .Lt (.str a t) (.str c u)) Q E s:=
 (PySem.P.lt_str h:KO (model prog w) A (KS .Lt (.str a t) (.str c u)) Q E s)
section
open PySem.SeqAt
open PySem.AutoSeq1 (wpAny_loadPart')
open PySem.MeetsSeq PySem.MeetsSeq2 PySem.MeetsSeq3
set_option maxHeartbeats 1000000 in
theorem lm(l b:Kv)(items items2:Array Kt)(n n2:Nat)(dd dd2:Option Kv)(sl sl2:Array (Option Kt))(ns ms:List D)(r:Bool)(hi:eA items.toList ns)(hj:eA items2.toList ms)(hr:o8 ns ms=some r):
  Meets (Builtin.«tuple.__lt__» ⟨[.ref l,.ref b],[]⟩)
   (fun _ R s=>s.heap.get? l=some { cls:=.type "tuple",dict:=dd,data:=.seq items n,slots:=sl }/\s.heap.get? b=some { cls:=.type "tuple",dict:=dd2,data:=.seq items2 n2,slots:=sl2 } /\
    R (.ok (.ret (.bool r))) s):=
 .of_wp λprog w A R s h=>by
  obtain⟨hp,g,d,tk,os⟩:=s;obtain⟨hl,hb,h⟩:=h;have f2:=AutoSeq1.sub_tuple_tuple;have z1:items.size=ns.length:=by rw[<-hi.length];simp
  have z2:items2.size=ms.length:=by rw[<-hj.length];simp
  wp_walk using wpAny_loadPart' hl,wpAny_loadPart' hb,wpAny_forIn_list _ (λrest b s'=>b.1=none/\s'=⟨hp,g,d,tk,os⟩/\∃(vs ws:aL)(ns' ms':List D),rest=vs.zip ws/\
   eA vs ns'/\eA ws ms'/\ns'.length+items2.size=ms'.length+items.size/\o8 ns' ms'=some r/\R (.ok (.ret (.bool r))) ⟨hp,g,d,tk,os⟩) _
  case turn=>
   rintro⟨y,x⟩ rest b s' ⟨hb',rfl,vs,ws,ns',ms',hz,hvi,hwi,hlen,hL,hR⟩;cases hvi with
   |nil=>rw[List.zip_nil_left]at hz;cases hz
   |int a t hvi'=>
    cases hwi with
    |nil=>rw[IR]at hz;cases hz
    |str c u hwi'=>cases hL
    |int c u hwi'=>
     rw[IH]at hz;injection hz with hyx hrest;injection hyx with hy hx;subst hy hx;have hL':(if a=c then o8 _ _ else some (decide (a<c)))=some r:=hL;simp only[Ho]at hlen;obtain⟨e,he,hiff⟩:=Cv A.in1 ⟨hp,g,d,tk,os⟩ a t c u;refine KZ (he prog w _ _ ?_);cases e with
     |true=>
      rw[if_pos (hiff.mp rfl)]at hL'
      wp_walk
      exact⟨rfl,rfl,_,_,_,_,hrest,hvi',hwi',by omega,hL',hR⟩
     |false=>
      rw[if_neg (λq=>absurd (hiff.mpr q) Hm)]at hL';cases hL';have hri:=HT.CH A.in1 ⟨hp,g,d,tk,os⟩ a t c u prog w
      wp_walk using hri
      exact⟨_,rfl,by simpa using hR⟩
   |str a t hvi'=>
    cases hwi with
    |nil=>rw[IR]at hz;cases hz
    |int c u hwi'=>cases hL
    |str c u hwi'=>
     rw[IH]at hz;injection hz with hyx hrest;injection hyx with hy hx;subst hy hx;have hL':(if a=c then o8 _ _ else some (decide (a.cps.toList<c.cps.toList)))=some r:=hL;simp only[Ho]at hlen;obtain⟨e,he,hiff⟩:=Dv A.in1 ⟨hp,g,d,tk,os⟩ a t c u;refine KZ (he prog w _ _ ?_);cases e with
     |true=>
      rw[if_pos (hiff.mp rfl)]at hL'
      wp_walk
      exact⟨rfl,rfl,_,_,_,_,hrest,hvi',hwi',by omega,hL',hR⟩
     |false=>
      rw[if_neg (λq=>absurd (hiff.mpr q) Hm)]at hL';cases hL';have hri:=Dg A.in1 ⟨hp,g,d,tk,os⟩ a t c u prog w
      wp_walk using hri
      exact⟨_,rfl,by simpa using hR⟩
  case fin=>
   rintro⟨b1,b2⟩ s' ⟨hb',rfl,vs,ws,ns',ms',hz,hvi,hwi,hlen,hL,hR⟩;simp only at hb';subst hb';have hv:r=decide (items.size<items2.size):=by
    have l1:=hvi.length;have l2:=hwi.length;cases ns' with
    |nil=>
     cases ms' with
     |nil=>
      simp only[IT]at hlen;cases hL;exact(decide_eq_false ‹0›).symm
     |cons c u=>
      simp only[IT,Ho]at hlen;cases hL;exact(decide_eq_true ‹0›).symm
    |cons a t=>
     cases ms' with
     |nil=>
      simp only[IT,Ho]at hlen;cases hL;exact(decide_eq_false ‹0›).symm
     |cons c u=>
      have:=congrArg List.length hz
      simp only[IT,List.length_zip,l1,l2,Ho]at this;omega
   rw[hv]at hR
   wp_walk
   exact⟨_,rfl,by simpa [Builtin.Tuple.tupleCompareSizes]using hR⟩
  case h=>
   exact⟨rfl,rfl,items.toList,items2.toList,ns,ms,rfl,hi,hj,by omega,hr,h⟩
end
section
variable{X:Cx}
theorem sV{α:Type}{c:Bool}{o:Option α}{a:α}(h:(if c then o else none)=some a):c=true/\o=some a:=by
 cases c with
 |true=>exact⟨rfl,h⟩
 |false=>cases h
theorem qb{prog:KA}{w:Kz}{A:KJ}{E:bj}{s:Ky}{l b:Kv}{items items2:Array Kt}{ns ms:List D}{r:Bool}{Q:bj}(hl:IsTup s.heap l items)(hb:IsTup s.heap b items2)(hi:eA items.toList ns)(hj:eA items2.toList ms)(hr:o8 ns ms=some r)
  (hu:A.units<Lj) (h:Q (.bool r) s):KO (model prog w) A (KS .Lt (.ref l) (.ref b)) Q E s:=by
 obtain⟨⟨cls,dd,data,sl⟩,ho,hc,n,hd⟩:=id hl;obtain⟨⟨cls2,dd2,data2,sl2⟩,ho2,hc2,n2,hd2⟩:=id hb;simp only at hc hd hc2 hd2;subst hc hd hc2 hd2;exact richCompare_meets_room (op:=.Lt) ⟨_,ho,rfl⟩ ⟨_,ho2,rfl⟩ PySem.F.slot_tuple_lt PySem.F.entry_tuple_lt (PySem.F.args_tuple_lt_2 _ _) (lm l b items items2 n n2 dd dd2 sl sl2 ns ms r hi hj hr)
  ⟨ho,ho2,show Value.bool r≠Value.notImplemented/\Q (.bool r) s from⟨(λx=>nomatch x),h⟩⟩ hu
noncomputable def oP:List D->Bool
 |[]=>true
 |.int _::r=>oP r
 |.str _::r=>oP r
 |_=>false
theorem iH{K:Jv}{H:Hp}:∀{ds:List D}{vs:aB}{us:aL},oP ds=true->aK K H ds vs->Vals vs us->eA us ds
 |[],vs,us,_,h,r=>by
  rw[bL]at h;subst h;cases r;exact .nil
 |d::ds,vs,us,hf,h,r=>by
  obtain⟨v,r',e,h1,h2⟩:=aX.mp h;subst e;cases r with
  |cons q1 q2=>
   cases d with
   |int i=>
    rw[dD]at h1;subst h1;obtain⟨t,rfl⟩:=q1;exact .int i t (iH hf h2 q2)
   |str x=>
    rw[dh]at h1;subst h1;obtain⟨t,rfl⟩:=q1;exact .str x t (iH hf h2 q2)
   |_=>cases hf
noncomputable def eW(a b:D):aZ:=match a,b with
 |.int i,.int j=>some (.bl (decide (i<j)))
 |.str x,.str y=>some (.bl (decide (x.cps.toList<y.cps.toList)))
 |.tup xs,.tup ys=>if oP xs&&oP ys then(o8 xs ys).bind λr=>some (.bl r)else none
 |_,_=>none
theorem vK(hu:X.A.units+64<Lj):eU X (KS .Lt) (rD X.K eW):=by
 rintro pins s σ H x y u v Q I rx ry ⟨O,a,b,d,hO,ha,hb,hg,q⟩;cases a with
 |int i=>
  cases b with
  |int j=>
   cases hg;exact C9 pins s σ H x y u v Q I rx ry ⟨i,j,dD.mp ha,dD.mp hb,q _ H (aQ.refl H) (eT.mpr rfl)⟩
  |_=>cases hg
 |str i=>
  cases b with
  |str j=>
   cases hg;exact sX pins s σ H x y u v Q I rx ry ⟨i,j,dh.mp ha,dh.mp hb,q _ H (aQ.refl H) (eT.mpr rfl)⟩
  |_=>cases hg
 |tup xs=>
  cases b with
  |tup ys=>
   obtain⟨h1,h2⟩:=sV hg;obtain⟨r,e1,e2⟩:=bind_some h2;cases e2;rw[HI]at h1;obtain⟨p,vs,ex,g1,g2⟩:=bp.mp ha;obtain⟨p',vs',ey,g1',g2'⟩:=bp.mp hb;subst ex ey;cases rx;cases ry;obtain⟨its,r1,t1,_⟩:=I.tuple (bx (az H O) g1);obtain⟨its2,r2,t2,_⟩:=I.tuple (bx (az H O) g1');exact qb t1 t2 (iH h1.1 g2 r1) (iH h1.2 g2' r2) e1 ‹0› (wQ I (q _ H (aQ.refl H) (eT.mpr rfl)) rfl)
  |_=>cases hg
 |_=>cases hg
end
end TG
namespace TG
open PySem PySem.Spec L2
variable[ax]
end TG
namespace TG
open PySem PySem.Spec PyProof.Rows PySem.W L2
variable[ax]
theorem wN{x y:Str}(h:x.cps.toList=y.cps.toList):x=y:=by
 cases x;cases y;congr 1;exact Array.toList_inj.mp h
end TG
namespace TG
open PySem PySem.Spec L2
variable[ax]
section
variable{X:Cx}{tg:Kw}
end
end TG
namespace TG
open PySem PySem.Spec L2
variable[ax]
end TG
namespace TG
open PySem PySem.Spec L2
variable[ax]
end TG
namespace TG
open PySem PySem.Spec L2
variable[ax]
end TG
namespace TG
open PySem PySem.Spec L2
variable[ax]
end TG
namespace TG
open PySem PySem.Spec PySem.W PySem.Calls PyProof.Rows Builtin Builtin.ObjectAttr Builtin.Getset_descriptor
variable[ax]
section
variable{prog:KA}{w:Kz}{A:KJ}{E:Kt->Ky->Prop}{s:Ky}{K:Frag}{x D:Kv}{ox:Obj}{R:Ld->Ky->Prop}
theorem vL{M:KN}{h:KC}(X:K.In h)(q1:findIn K (.ref D) "__class__"=some (some (.builtin "object.__class__")))(q2:specialIn K (.builtin "object.__class__") "__get__"=some (some (.builtin "getset_descriptor.__get__")))(q3:takesIn K (.builtin "object.__class__")=some true):
  L8 M h (find (.ref x) (.ref D) "__class__") (.bind (.builtin "getset_descriptor.__get__") (.builtin "object.__class__")):=by
 have y1:=L9 (M:=M) X q1;have y2:L8 M h (getOf (some (.builtin "object.__class__"))) (some (.builtin "getset_descriptor.__get__")):=looks_specialIn X q2;have y3:=looks_takesIn (M:=M) X q3;refine y1.andThen (y2.andThen ?_);refine Looks.andThen (a:=some (.builtin "getset_descriptor.__get__",.builtin "object.__class__")) (y3.andThen .now) ?_;exact Looks.tag .now
theorem yE{tp:Kt}(y0:L8 (model prog w) s.heap (typeOf (.ref x)) (.ref D))(y1:L8 (model prog w) s.heap (isSubtype (.ref D) (.type "object")) true)(h:R (.ok (.ret (.ref D))) s):
  Le (model prog w) A (.call (.builtin "getset_descriptor.__get__") ⟨[.builtin "object.__class__",.ref x,tp],[]⟩) R s:=by
 obtain⟨h₁,g₁,d₁,t₁,o₁⟩:=s;refine Mb KF.slot_gs.plain KF.entry_gs
  (KF.slot_gs.check _ _ _ _ _ _ _ _ KF.type_class (KF.args_gs _ _ _) ?_)
 unfold Builtin.«getset_descriptor.__get__»;unfold descrGet;rw[dga_obj];refine KZ (K3 ?_);unfold descrGetter descrCheckInstance;unfold descrNameAndClass isInstance;simp only[KF.owner_class]
 repeat lk
 refine⟨Code.quiet_builtin _ (by decide +kernel),
  codeAny_builtin KF.entry_class ?_⟩
 unfold Builtin.«object.__class__»;unfold shownTypeOf
 repeat lk
 exact h
structure gM(K:Frag)(D:Kv):Prop where
 ga:findIn K (.ref D) "__getattribute__"=some (some (.builtin "BaseException.__getattribute__"))
 gn:findIn K (.ref D) "__getattr__"=some none
 fc:findIn K (.ref D) "__class__"=some (some (.builtin "object.__class__"))
 sg:specialIn K (.builtin "object.__class__") "__get__"=some (some (.builtin "getset_descriptor.__get__"))
 tk:takesIn K (.builtin "object.__class__")=some true
 ob:mroIn K D (.type "object")=some true
 be:mroIn K D (.type "BaseException")=some true
theorem sS{Q:Option Kt->Ky->Prop}(Z:gM K D)(X:K.In s.heap)(y0:∀M,L8 M s.heap (typeOf (.ref x)) (.ref D))(h:Q (some (.ref D)) {s with toks:=s.toks+1}):KO (model prog w) A (getAttr? (.ref x) "__class__") Q E s:=by
 obtain⟨hh,g,d,t,os⟩:=s;have L0:=y0 (model prog w);have L1:=L9 (M:=model prog w) X Z.ga;have L2:=L9 (M:=model prog w) X Z.gn;have L3:=Md (M:=model prog w) X Z.be;have L4:=vL (M:=model prog w) (x:=x) X Z.fc Z.sg Z.tk;have L5:=Md (M:=model prog w) X Z.ob;unfold getAttr? getAttrBy? getAttrBy;refine KZ (wpAny_mkText (KZ
  (L7 (K1 (KZ (L0.at (KZ (L1.at ?_))))))))
 show KO _ _ (getAttrByItsOwn _ _ _ _ _ _) _ _ _;unfold getAttrByItsOwn;refine KZ ?_;show KO _ _ (typeLookup (Value.ref D) "__getattr__") _ _ _;refine L2.at ?_;refine KZ (L7 (K1 ?_));show KO _ _ (boundAndCalled _ _ _) _ _ _;unfold boundAndCalled;rw[PySem.F.attrBase_ValueError.ga.bind (.ref x)];refine KZ (K3 ?_);have ha:=F.args_bexc_ga (.ref x) (Value.str (Str.ofString "__class__") t);have hk:builtinKind "BaseException.__getattribute__"=some .slot:=by
  decide +kernel
 have hsplit:splitId "BaseException.__getattribute__"=some ("BaseException","__getattribute__"):=by
  decide +kernel
 refine Lq (Mb PySem.F.attrBase_ValueError.ga.plain F.entry_bexc_ga ?_);have LI:L8 (model prog w) hh (isInstance (.ref x) (.type "BaseException")) true:=L0.andThen L3;have hT:∀A' (Q':Unit->Ky->Prop) E',Q' () ⟨hh,g,d,t+1,os⟩->KO (model prog w) A' (checkBuiltinCall "BaseException.__getattribute__" ⟨[.ref x,Value.str (Str.ofString "__class__") t],[]⟩) Q' E' ⟨hh,g,d,t+1,os⟩:=λA' Q' E' hq=>by
  simp only[checkBuiltinCall,hk,hsplit];refine KZ (LI.at ?_)
  repeat (first|exact hq|wp_step)
 refine hT _ _ _ ?_;show KO _ _ (Builtin.«object.__getattribute__» ⟨[.ref x,Value.str (Str.ofString "__class__") t],[]⟩) _ _ _;unfold Builtin.«object.__getattribute__»;refine KZ (K3 ?_);refine KZ (K3 ?_);refine KZ (L0.at ?_);refine KZ (L4.at ?_);show KO _ _ (Builtin.ObjectAttr.bindTo (.builtin "getset_descriptor.__get__") (.builtin "object.__class__") (.ref x) (.ref D)) _ _ _;unfold Builtin.ObjectAttr.bindTo;dsimp only;refine KZ (K1 (Lq (yE (s:=⟨hh,g,d,t+1,os⟩) L0 L5 ?_)));exact K3 (handed_on rfl (K3 h))
theorem oS(F:gM K D):KitX K (.ref x) (.ref D) (λh=>∃o,h.get? x=some o/\o.cls=.ref D):=by
 have cl:∃c d cd sl,K.lookup D=some ⟨c,d,.cls cd,sl⟩:=by
  have z:=F.fc;unfold findIn at z;dsimp only at z;split at z
  ·rename_i ho;exact⟨_,_,_,_,ho⟩
  ·cases z
 have ty:∀(M:KN)(h:KC),(∃o,h.get? x=some o/\o.cls=.ref D)->L8 M h (typeOf (.ref x)) (.ref D):=λM h ⟨o,e,c⟩=>c ▸ (Looks.ld e).andThen .now;refine⟨λM h _ I=>ty M h I,λM h X _=>?_,λh tp dd its n sl X htp=>?_,λX I k=>sS F X (λM=>ty M _ I) k⟩
 ·obtain⟨c,d,cd,sl,ho⟩:=cl;intro A' Q' E' s' k q;unfold isType loadHead;exact KZ (La (k _ _ (X _ _ ho)) (K3 q))
 ·obtain⟨c,d,cd,sl,ho⟩:=cl;cases hb:(Value.ref D==Value.ref tp)with
  |false=>rfl
  |true=>
   have e:D=tp:=Value.ref.inj (beq_iff_eq.mp hb);subst e;cases(X _ _ ho).symm.trans htp
end
end TG
namespace TG
open PySem PySem.Spec PySem.W PySem.Calls PyProof.Rows Builtin Builtin.ObjectAttr Builtin.Getset_descriptor
section
variable{prog:KA}{w:Kz}{A:KJ}{E:Kt->Ky->Prop}{s:Ky}{K:Frag}{x D:Kv}{ox:Obj}{od:Option Obj}{name:Str}{v:Kt}
theorem vk{expr:Bool}{Q:Kt->Ky->Prop}(Z:gM K D)(X:K.In s.heap)(I:InstAt s.heap x ox D od)(hf:findObj K D od name=some (.value v))(hh:handedIn v=true)(h:Q v {s with toks:=s.toks+1}):
  KO (model prog w) A (getAttr (.ref x) name expr) Q E s:=by
 obtain⟨hp,g,d,t,os⟩:=s;have k0:=I.type (M:=model prog w);have k1:=L9 (M:=model prog w) X Z.ga;have k2:=L9 (M:=model prog w) X Z.gn;have k3:=Md (M:=model prog w) X Z.be;have k4:=looks_find (M:=model prog w) X I hf;unfold getAttr getAttrBy;refine KZ (wpAny_mkText (K1 (KZ (k0.at (KZ (k1.at ?_))))));show KO _ _ (getAttrByItsOwn _ _ _ _ _ _) _ _ _;unfold getAttrByItsOwn;refine KZ (k2.at ?_);refine KZ (L7 (K1 ?_));unfold callGetattribute;rw[if_neg (by cases expr<;>decide)];unfold boundAndCalled;rw[PySem.F.attrBase_ValueError.ga.bind (.ref x)];refine KZ (K3 ?_);have ha:=F.args_bexc_ga (.ref x) (Value.str name t);have e1:builtinKind "BaseException.__getattribute__"=some .slot:=by decide +kernel
 have e2:splitId "BaseException.__getattribute__"=some ("BaseException","__getattribute__"):=by decide +kernel
 refine Lq (Mb PySem.F.attrBase_ValueError.ga.plain F.entry_bexc_ga ?_);have k5:L8 (model prog w) hp (isInstance (.ref x) (.type "BaseException")) true:=k0.andThen k3;refine@check_slot (model prog w) _ _ ⟨hp,g,d,t+1,os⟩ "BaseException.__getattribute__" "BaseException" "__getattribute__" (.ref x) [.str name t] [] _ e1 e2 k5 ha ?_;show KO _ _ (Builtin.«object.__getattribute__» ⟨[.ref x,.str name t],[]⟩) _ _ _;unfold Builtin.«object.__getattribute__»;refine KZ (K3 (KZ (K3 (KZ (k0.at (KZ (k4.at ?_)))))));refine K3 ?_;show KO _ _ (handedOut v) _ _ _;rw[handedOut_of hh];exact K3 h
end
noncomputable def p7:List Kt->Bool
 |.ref _::r=>p7 r
 |l=>l==[.type "ValueError",.type "Exception",.type "BaseException",.type "object"]
noncomputable def pT(K:Frag)(D:Kv):Bool:=(clsIn K D).any λcd=>p7 cd.mro
theorem lH(self:Kt):∀{l:List Kt},p7 l=true->refuseLoop self "__setattr__" l=pure ()/\l.contains (.type "object")=true/\l.isEmpty=false
 |[],h=>by cases h
 |c::r,h=>by
  cases c with
  |ref C=>
   obtain⟨h1,h2,_⟩:=lH self (l:=r) h;exact⟨by rw[refuseLoop_ref];exact h1,by rw[II,h2,IU],rfl⟩
  |_=>
   have e:=eq_of_beq (show(_==_)=true from h);rw[e];exact⟨PySem.F.store_ValueError.passes self,by decide +kernel,rfl⟩
section
variable{prog:KA}{w:Kz}{A:KJ}{E:Kt->Ky->Prop}{s:Ky}{K:Frag}{x D:Kv}{ox:Obj}{od:Option Obj}{name:Str}{v:Kt}{tk:Tok}{R:Ld->Ky->Prop}
theorem sj(X:K.In s.heap)(I:InstAt s.heap x ox D od)(hp:pT K D=true)(ha:findIn K (.ref D) name=some none)
  (h:KO (model prog w) A.in1 (storeInOwnDict (.ref x) (.ref D) (.str name tk) name v false) (λfin s'=>match fin with|.done f=>R (.ok f) s'|.again c'=>c'.quiet=true/\Le (model prog w) A c' R s') (λe s'=>R (.error e) s') s):
  Le (model prog w) A (.call (.builtin "object.__setattr__") ⟨[.ref x,.str name tk,v],[]⟩) R s:=by
 have SF:=PySem.F.store_object;obtain⟨cd,hc,ho⟩:=any_some hp;obtain⟨v1,v2,v3⟩:=lH (.ref x) ho;have k1:L8 (model prog w) s.heap (isInstance (.ref x) (.type "object")) true:=I.type.andThen (Md X (by unfold mroIn;rw[hc,Option.bind_some,if_neg (by rw[v3];decide),v2]));have k2:L8 (model prog w) s.heap (mroOf (.ref D)) cd.mro:=(looks_clsIn X hc).andThen .now;refine Mb SF.slot.plain SF.entry (@check_slot (model prog w) _ _ s "object.__setattr__" "object" "__setattr__" (.ref x) [.str name tk,v] [] _ SF.kind SF.split k1 (SF.args (.ref x) (.str name tk) v) ?_);rw[osa_eq,refuse_eq];refine KZ (KZ (I.type.here (KZ (k2.here ?_))));rw[v1];refine K3 (KZ (I.type.here (KZ ((L9 X ha).here (KZ (K3 ?_))))));exact h
end
section
variable{prog:KA}{w:Kz}{A:KJ}{E:Kt->Ky->Prop}{s:Ky}{K:Frag}{x D dx:Kv}{ox:Obj}{od:Option Obj}{name:Str}{v:Kt}{tk:Tok}{R:Ld->Ky->Prop}{mA:Str->Option Kt}{ns:List Str}{Q:Unit->Ky->Prop}
structure z9(K:Frag)(D:Kv):Prop where
 sa:findIn K (.ref D) "__setattr__"=some (some (.builtin "object.__setattr__"))
 ov:pT K D=true
 hd:hasDictIn K D=true
theorem vT(Z:z9 K D)(X:K.In s.heap)(hx:s.heap.get? x=some ox)(hc:ox.cls=.ref D)(hn:notCls ox=true)(hd:ox.dict=some dx)(hns:s.heap.Ns1 dx mA)(ha:findIn K (.ref D) name=some none)(hw:PySem.Within mA ns)(hsz:ns.length<=KG)
  (h:∀h',h'.Ns1 dx (λy=>if y=name then some v else mA y)->J5 dx s.heap h'->Q () {s with heap:=h',toks:=s.toks+2}):KO (model prog w) A (setAttr (.ref x) name v) Q E s:=by
 obtain⟨oD0,ho0,hl0⟩:=L2.mE hns;have I:InstAt s.heap x ox D (some oD0):=⟨hx,hc,hn,by rw[hd];exact ho0⟩
 refine set_plain X I Z.sa (sj (s:={s with toks:=s.toks+1}) X I Z.ov ha ?_);obtain⟨cd,c1,c2⟩:=any_some Z.hd;obtain⟨oc,odi,oda,osl⟩:=ox;dsimp only at hc hd;subst hc hd;refine KZ (K3 (KZ (KZ (La hx (KZ (Looks.here (s:={s with toks:=s.toks+1}) (looks_clsIn X c1) ?_))))));rw[c2];refine K3 (a:=some dx) (KZ (K3 (KZ ?_)));refine wpAny_nsSet1 (s:={s with toks:=s.toks+1}) hns λh' n2 s2=>?_;obtain⟨o3,es3,ep3,q1,q2,q3⟩:=n2.count (PySem.Within.cons name v hw);refine KZ (Lb q1 (by rw[q2];exact Lc (G5 q3 (by rw[Ho];omega))) ?_);exact K3 (h _ n2 s2)
theorem vH{vs:Array Kt}(Z:z9 K D)(X:K.In s.heap)(hx:s.heap.get? x=some ox)(hc:ox.cls=.ref D)(hdat:ox.data=.fields vs)(hd:ox.dict=none)(ha:findIn K (.ref D) name=some none)
  (h:∀h',h'.Ns1 s.heap.objs.size (λy=>if y=name then some v else none)->J5 s.heap.objs.size ((s.heap.push {cls:=.type "dict",data:=.dict #[]}).update x λo=>{o with dict:=some s.heap.objs.size}) h'->Q () {s with heap:=h',toks:=s.toks+2}):KO (model prog w) A (setAttr (.ref x) name v) Q E s:=by
 obtain⟨oc,odi,oda,osl⟩:=ox;dsimp only at hc hd hdat;subst hc hd hdat;have I:InstAt s.heap x ⟨.ref D,none,.fields vs,osl⟩ D none:=⟨hx,rfl,rfl,trivial⟩
 refine set_plain X I Z.sa (sj (s:={s with toks:=s.toks+1}) X I Z.ov ha ?_);obtain⟨cd,c1,c2⟩:=any_some Z.hd;refine KZ (K3 (KZ (KZ (La hx (KZ (Looks.here (s:={s with toks:=s.toks+1}) (looks_clsIn X c1) ?_))))));rw[c2];have hx1:(s.heap.push {cls:=.type "dict",data:=.dict #[]}).get? x=some ⟨.ref D,none,.fields vs,osl⟩:=J6 _ hx;have ne:x≠s.heap.objs.size:=G4 (J3 hx);rw[if_neg (by decide)];dsimp only;rw[if_neg (by simp[typeHasDict])];refine KZ (wpAny_alloc' (KZ (wpAny_update' hx1 (K3 ?_))));have g1:((s.heap.push {cls:=.type "dict",data:=.dict #[]}).update x λo=>{o with dict:=some s.heap.objs.size}).get? s.heap.objs.size=some {cls:=.type "dict",data:=.dict #[]}:=(Kc _ _ _ _ ne.symm).trans (Kd rfl rfl);have g3:((s.heap.push {cls:=.type "dict",data:=.dict #[]}).update x λo=>{o with dict:=some s.heap.objs.size}).Ns s.heap.objs.size (λ_=>none):=⟨_,#[],_,g1,rfl,λe he=>absurd he (by simp),λ_=>rfl⟩
 show KO _ _ (storeInDict s.heap.objs.size (.str name s.toks) name v) _ _ _;unfold storeInDict newKeyGuard;refine KZ (K3 (KZ (wpAny_nsSet1 (Heap.Ns1.of_empty g3) λh' n2 s2=>?_)));obtain⟨o3,es3,ep3,q1,q2,q3⟩:=n2.count (PySem.Within.cons name v PySem.Within.nil);refine KZ (Lb q1 (by rw[q2];exact Lc (G5 q3 (by rw[Ho,IT,K9];omega))) ?_);exact K3 (h h' n2 s2)
end
end TG
namespace TG
open PySem PySem.Spec L2
variable[ax]
open PyProof.Rows (AllBare OwnCls)
section
variable{X:Cx}{pins:aR}{σ:St}{H:Hp}{s:Ky}{h':KC}
theorem qZ(I:Inv X pins σ H s)(hx:X.ex=[])(hst:X.stack=X.env::X.outer)(hf:X.env.frame=some X.env.locals)(hfn:∀x,X.fn x=true)(us:s.heap.UpToSlots h')(k:∀b o,s.heap.get? b=some o->fj X H b->b∉frs X.stack->h'.get? b=some o):
  Inv X [] σ H {s with heap:=h'}:=by
 have un:=wB I hx hst hf us k;have cellF:∀x c,X.env.cells.lookup x=some c->c∉frs X.stack:=λx c e z=>by
  obtain⟨v,o,q,d⟩:=I.cell x c e;rw[hst]at z;have z':c∈X.env.locals::frs X.outer:=by
   have:frs (X.env::X.outer)=X.env.locals::frs X.outer:=(by show List.filterMap _ (_::_)=_;rw[G7,hf];rfl);rw[this]at z;exact z
  rcases List.mem_cons.mp z' with z|z
  ·obtain⟨m,⟨o2,es,ep,e2,d2,_⟩,_⟩:=I.loc;rw[<-z,q]at e2;cases e2;rw[d]at d2;cases d2
  ·obtain⟨_,o2,e2,_⟩:=I.ok.funs.mem z;exact G3 _ (G2 (J3 e2) (I.ok.cab x c (hfn x) e))
 have cellK:∀x c v,X.env.cells.lookup x=some c->s.heap.IsCell c v->h'.IsCell c v:=λx c v e ⟨o,q,d⟩=>⟨o,k c o q (.inr (.inr (.inr ⟨x,e⟩))) (cellF x c e),d⟩
 obtain⟨m,hn,hl⟩:=I.loc;refine⟨I.ok,I.os,I.bare,by rw[hx];exact un,⟨m,us.ns hn,λi x v e1 e2 e3=>?_⟩,λx c e=>?_,I.free,I.freeC,λp hp=>?_,qQ I k,I.len⟩
 ·obtain⟨u,r,q⟩:=hl i x v e1 e2 e3;refine⟨u,r,?_⟩;rcases q with q|⟨q1,c,q2,q3⟩
  ·exact .inl q
  ·exact .inr ⟨q1,c,q2,cellK x c _ q2 q3⟩
 ·obtain⟨v,q⟩:=I.cell x c e;exact⟨v,cellK x c v e q⟩
 ·rw[Hu]at hp;obtain⟨e,n,ne,nf,d⟩:=I.pin p (Ha _ hp);have nfs:p.1∉frs X.stack:=λz=>by
   have:frs X.stack=X.env.locals::frs X.outer:=(by rw[hst];show List.filterMap _ (_::_)=_;rw[G7,hf];rfl);rw[this]at z;rcases List.mem_cons.mp z with z|z
   ·exact ne z
   ·exact nf z
  exact⟨k _ _ e (.inr (.inr (.inl ⟨p.2,hp⟩))) nfs,n,ne,nf,d⟩
theorem ui{e C:Kv}{oe:Obj}(I:Inv X pins σ H s)(hx:X.ex=[])(hn:H e=none)(he:s.heap.get? e=some oe)(hc:oe.cls=.ref C)(hno:JR oe=true)(h0:X.s₀.heap.get? e=none)(hL:e≠X.env.locals)(hcl:∀x,X.env.cells.lookup x≠some e)(hp:∀p∈X.pn++pins,p.1≠e):
  Inv X pins σ (upd H e (.ext (jq C e oe.dict))) s:=by
 have ne:∀b u,H b=some u->b≠e:=λb u q z=>by rw[z,hn]at q;cases q
 have U:=I.base;refine⟨I.ok,I.os,I.bare,⟨U.keep,U.slot,λb o q n nx=>?_,U.there,λb xs q=>?_,λb o u q=>?_,λb ps q=>?_⟩,I.loc,I.cell,?_,λx c q=>?_,λp q=>?_,λa o q=>?_,I.len⟩
 ·rw[av λz=>by rw[z,h0]at q;cases q];exact U.free b o q n nx
 ·have:=U.tups b xs q;rw[av (ne _ _ this)];exact this
 ·have:=U.frzs b o u q;rw[av (ne _ _ this)];exact this
 ·obtain⟨more,z⟩:=U.tbls b ps q;exact⟨more,by rw[av (ne _ _ z)];exact z⟩
 ·rw[av hL.symm];exact I.free
 ·rw[av λz=>hcl x (by rw[<-z];exact q)];exact I.freeC x c q
 ·obtain⟨a1,a2,a3⟩:=I.pin p q;exact⟨a1,by rw[av (hp p q)];exact a2,a3⟩
 ·by_cases z:a=e
  ·subst z;rw[aA]at q;cases q;exact⟨⟨oe,he,hc,rfl,hno⟩,⟨oe,he⟩,λ_ _ h1 h2 ⟨o,q1,q2⟩ _ k=>⟨o,k _ o (.inl rfl) q1,q2⟩⟩
  ·rw[av z]at q;exact(I.hok a o q).stay (λb u _ q=>q) (λb q=>by rw[av (ne _ _ q)];exact q) λb xs q=>by rw[av (ne _ _ q)];exact q
end
abbrev BL:aL:=[.type "ValueError",.type "Exception",.type "BaseException",.type "object"]
theorem zq{K:Jv}{h:KC}{C:Kv}{bmB:aL}{newId:String}(X:K.In h)(q:JU K C bmB newId=true)(x:Str):OwnCls x C bmB newId (λ_=>some (.ref C)) h:=by
 constructor
 ·rfl
 ·unfold JU at q;split at q
  ·rename_i od data slots look;split at q
   ·rename_i C0 tl s0 s1 s2 s3 nid s5 e1 e2;simp only[HI,beq_iff_eq,IV]at q;obtain⟨⟨⟨⟨⟨y1,y2⟩,y3⟩,y4⟩,y5⟩,y6⟩:=q;subst y1 y2;obtain⟨d1,d2,d3,d4,d5,d6,d7,d8,d9,d10,d11⟩:=data;dsimp only at e1 y3 y5 y6;subst e1 y3;have hs:slots=#[s0,s1,s2,s3,some (.builtin nid),s5]:=by
     cases slots with
     |mk l=>rw[show l=_ from e2]
    subst hs;exact⟨tl,d4,d1,d5,d2,d6,d7,d8,d9,d10,od,s0,s1,s2,s3,s5,_,X _ _ look,.of_isNs (JV X y5),PySem.W.nsMap_none_of_in X y5 y6,JW X y4⟩
   ·cases q
  ·cases q
noncomputable def ExcAt(K:Jv)(mg:bC)(x:Str):Prop:=∃C,clsAt K x C/\mg x=some (.ref C)/\JU K C BL "ValueError.__new__"=true
noncomputable def fY(c:Str)(f:aN):bJ:=λk ρ=>jF (f ρ) k ρ λds=>if small ds.length then k.ex ⟨c,[],[]⟩ ρ else un
theorem fe{base B h h':KC}(k:∀b o,h.get? b=some o->h'.get? b=some o):∀{l:List Env},(∀b∈frs l,B.get? b=none)->h.FunFrames base l->h'.FunFrames B l
 |[],_,_=>trivial
 |env::l,hb,⟨h1,⟨L,o,h2,_,h3,h4⟩,h5⟩=>by
  have mem:L∈frs (env::l):=by show L∈List.filterMap _ (_::_);rw[G7,h2];exact G8
  refine⟨h1,⟨L,o,h2,hb L mem,k _ _ h3,h4⟩,fe k (λb z=>hb b ?_) h5⟩;show b∈List.filterMap _ (_::_);rw[G7,h2];exact G9 _ z
section
variable{X:Cx}{pos:Pos}
theorem xo{pins:aR}{σ:St}{H:Hp}{s:Ky}{h':KC}{e C:Kv}{us:aL}(I:Inv X pins σ H s)(m:Ke s.heap h' e (.ref C) us):om X H {s with heap:=h'} e C none:=by
 have hd:∀b o,(gL s.heap (λb=>if b∈frs X.stack then some (.tup [])else none)).get? b=some o->s.heap.get? b=some o/\b∉frs X.stack:=λb o q=>by
  obtain⟨q1,q2⟩:=hX q;refine⟨q1,λz=>?_⟩;rw[if_pos z]at q2;cases q2
 obtain⟨t,m1,m2,m3⟩:=m.there;refine⟨λoe q=>by rw[m1]at q;cases q;rfl,gL s.heap (λb=>if b∈frs X.stack then some (.tup [])else none),.ref t,λb o q=>m.keeps b o (hd b o q).1,?_,fe m.keeps (λb hb=>?_) I.stack,.inr ⟨_,_,m1,rfl,rfl,rfl,rfl⟩,λb o q kb nf=>?_⟩
 ·cases q:(gL s.heap (λb=>if b∈frs X.stack then some (.tup [])else none)).get? e with
  |none=>rfl
  |some o=>have:=(hd e o q).1;rw[m.new]at this;cases this
 ·cases q:(gL s.heap (λb=>if b∈frs X.stack then some (.tup [])else none)).get? b with
  |none=>rfl
  |some o=>exact absurd hb (hd b o q).2
 ·obtain⟨o1,e1⟩:∃o1,s.heap.get? b=some o1:=by
   rcases kb with⟨⟨o0,z⟩,nx⟩|z|⟨o0,z⟩|⟨y,z⟩
   ·exact I.base.there b o0 z nx
   ·cases q0:H b with
    |none=>exact absurd q0 z
    |some ob=>exact pU (I.hok b ob q0)
   ·exact⟨_,(I.pin _ (Ha _ z)).1⟩
   ·obtain⟨v,o0,z0,_⟩:=I.cell y b z;exact⟨o0,z0⟩
  have:=m.keeps b o1 e1
  rw[show h'.get? b=some o from q]at this;cases this;exact kE e1 (if_neg nf)
end
end TG
namespace TG
open PySem PySem.Spec L2
variable[ax]
noncomputable abbrev oj(X:Cx)(E:bj)(pn:aR):Cx:={X with xe:=E,pn:=pn}
noncomputable abbrev kQ(X:Cx)(A:KJ)(pn:aR):Cx:={X with A:=A,xe:=λ_ _=>False,calm:=false,pn:=pn}
section
variable{X:Cx}{pins:aR}{σ:St}{H:Hp}{s:Ky}{E:bj}{A:KJ}
theorem zx(I:L2.Inv X pins σ H s)(E:bj):L2.Inv (oj X E (X.pn++pins)) [] σ H s:=
 ⟨⟨I.ok.mod,I.ok.kind,I.ok.glob,I.ok.blt,I.ok.above,I.ok.inj,I.ok.has,I.ok.cab,I.ok.hd,I.ok.frames,I.ok.stk,I.ok.exf,I.ok.bs,I.ok.bsz,I.ok.noex,I.ok.exfs,I.ok.funs,I.ok.frf⟩,
  I.os,I.bare,I.base,I.loc,I.cell,I.free,I.freeC,λp hp=>I.pin p (by simpa using hp),I.hok,I.len⟩
theorem fJ{E':bj}{A':KJ}{c':Bool}(ok:X.Ok)(I:L2.Inv {X with A:=A',xe:=E',calm:=c',pn:=X.pn++pins} [] σ H s):L2.Inv X pins σ H s:=
 ⟨ok,I.os,I.bare,I.base,I.loc,I.cell,I.free,I.freeC,λp hp=>I.pin p (by simpa using hp),I.hok,I.len⟩
theorem oU{pn:aR}{ps:aR}(I:L2.Inv (oj X E pn) ps σ H s)(hA:A.frames=X.A.frames):L2.Inv (kQ X A pn) ps σ H s:=
 ⟨⟨I.ok.mod,I.ok.kind,I.ok.glob,I.ok.blt,I.ok.above,I.ok.inj,I.ok.has,I.ok.cab,(fun z=>nomatch z),by rw [show (kQ X A pn).A=A from rfl,hA]; exact I.ok.frames,I.ok.stk,I.ok.exf,I.ok.bs,I.ok.bsz,I.ok.noex,I.ok.exfs,I.ok.funs,I.ok.frf⟩,
  I.os,I.bare,I.base,I.loc,I.cell,I.free,I.freeC,I.pin,I.hok,I.len⟩
theorem wW{i:Nat}{n:Str}{v:Option Kt}{m:bC}{h9:KC}{t:Nat}(I:L2.Inv X pins σ H s)(hN:X.N.Nodup)(hi:X.N[i]?=some n)(hn:s.heap.Ns X.env.locals m)
  (hl:∀(i:Nat)(x:Str)(v:V),X.N[i]?=some x->σ[i]?=some (some v)->Bp X.env.scope x->∃u,RelV v u/\Look X.env s.heap m x u)
  (ns:h9.Ns X.env.locals (λx=>if x=n then v else m x)) (sb:J5 X.env.locals s.heap h9):L2.Inv X pins (σ.set i none) H {s with heap:=h9,toks:=t}:=by
 have old:∀b o,X.s₀.heap.get? b=some o->b≠X.env.locals:=λb o q z=>by
  have h1:=J3 q;rw[z]at h1;exact G3 _ (G2 h1 I.ok.above)
 have go:∀b o,b≠X.env.locals->s.heap.get? b=some o->h9.get? b=some o:=λb o ne q=>(sb.2 b ne).trans q;have cne:∀c w,s.heap.IsCell c w->c≠X.env.locals:=λc w ⟨o,q,d⟩ z=>by
  obtain⟨o2,es,ep,e2,d2,_⟩:=hn;rw[z,e2]at q;cases q;rw[d2]at d;cases d
 have U:=I.base;refine⟨I.ok,I.os,I.bare,⟨λb o q n nb nx=>go b o (old b o q) (U.keep b o q n nb nx),λb o q n nb nx=>?_,U.free,λb o q nx=>?_,U.tups,U.frzs,U.tbls⟩,⟨_,ns,λj y v' e1 e2 e3=>?_⟩,λx c q=>?_,I.free,I.freeC,λp hp=>?_,λa o q=>?_,by rw[HJ];exact I.len⟩
 ·obtain⟨sl,z⟩:=U.slot b o q n nb nx;exact⟨sl,go b _ (old b o q) z⟩
 ·obtain⟨o1,z⟩:=U.there b o q nx;exact⟨o1,go b _ (old b o q) z⟩
 ·by_cases hj:j=i
  ·subst hj;have hlt:j<σ.length:=(by rw[I.len];exact(List.getElem?_eq_some_iff.mp hi).1);rw[Hf hlt]at e2;cases e2
  ·rw[Hg (Ne.symm hj)]at e2;have hy:y≠n:=λz=>by
    subst z;obtain⟨l1,g1⟩:=List.getElem?_eq_some_iff.mp e1;obtain⟨l2,g2⟩:=List.getElem?_eq_some_iff.mp hi;exact hj (Hc hN |>.mp (g1.trans g2.symm))
   obtain⟨u,r,q⟩:=hl j y v' e1 e2 e3;refine⟨u,r,?_⟩;rcases q with⟨q1,q2⟩|⟨q1,c,q2,q3⟩
   ·exact .inl ⟨q1,by show(if y=n then v else m y)=some u;rw[if_neg hy];exact q2⟩
   ·obtain⟨o,z1,z2⟩:=id q3;exact .inr ⟨q1,c,q2,o,go c o (cne c _ q3) z1,z2⟩
 ·obtain⟨w,z⟩:=I.cell x c q;obtain⟨o,z1,z2⟩:=id z;exact⟨w,o,go c o (cne c _ z) z1,z2⟩
 ·obtain⟨e,n',ne,r⟩:=I.pin p hp;exact⟨go _ _ ne e,n',ne,r⟩
 ·refine(I.hok a o q).stay (λb u hb z=>go b u (λw=>?_) z) (λ_ q=>q) λ_ _ q=>q;have hz:=I.free;rw[<-w]at hz;rcases hb with e|e
  ·rw[e,q]at hz;cases hz
  ·rw[e]at hz;cases hz
theorem tE{e C:Kv}{dx:Option Kv}(fl:om X H s e C dx):∃oe vs,s.heap.get? e=some oe/\oe.cls=.ref C/\oe.data=.fields vs:=by
 obtain⟨_,B,a0,_,_,_,b4,_⟩:=fl;rcases b4 with⟨oe,vs,T,oT,ts,h1,h2,h3,_⟩|⟨oe,vs,h1,h2,h3,_⟩
 ·exact⟨oe,vs,h1,h2.1,h3⟩
 ·exact⟨oe,vs,h1,h2,h3⟩
theorem wc{M:KN}{e C:Kv}{dx:Option Kv}{Q:Unit->fF}(hfr:A.frames=some X.stack)(hst:X.stack=X.env::X.outer)(hf:X.env.frame=some X.env.locals)(fl:om X H s e C dx)
  (hQ:∀B a0 h',Heap.HeldW B X.stack e (.ref C) a0 X.env.locals h'->s.heap.UpToSlots h'->(∀b o,s.heap.get? b=some o->fj X H b->b∉frs X.stack->B.get? b=some o)->DS s.heap h'->Q () {s with heap:=h'}):
  KO M A (noteFrame (.ref e) X.env) Q E s:=by
 obtain⟨_,B,a0,b1,b2,b3,b4,b5⟩:=fl;rw[hst]at hfr b3;refine DP.go (sE _ _) (P:=λh'=>Heap.HeldW B X.stack e (.ref C) a0 X.env.locals h'/\s.heap.UpToSlots h') ?_ λh' z ds=>hQ B a0 h' z.1 z.2 b5 ds;rcases b4 with b4|⟨oe,vs,c1,c2,c3,c4,c5⟩
 ·exact wpAny_looks_onW hfr hf ⟨b1,b2,b3,b4⟩ λh' hd us=>⟨h',rfl,by rw[hst];exact hd,us⟩
 ·unfold noteFrame;simp only[hf];refine KZ (Lz c1 c3 c4 ?_);rw[if_neg (by decide)];refine wpAny_entryW hfr b3 hf c1 b1 b2 c3 (Array.getElem?_eq_some_iff.mp c4).1 c5 λh' hN=>?_;obtain⟨k1,k2,k3,k4⟩:=hN;exact⟨h',rfl,⟨k1,b2,by rw[hst];exact k2,c2 ▸ k3⟩,k4⟩
end
theorem cF.unset{K:Jv}{Hb:Hp}{Ob O:ay}{H:Hp}{ρ:aw}{σ:St}(T:cF K Hb Ob O H ρ σ)(i:Nat):cF K Hb Ob O H (ρ.set i none) (σ.set i none):=by
 have key:∀(j:Nat)(x:S),(ρ.set i none)[j]?=some (some x)->j≠i/\ρ[j]?=some (some x):=λj x e=>by
  rcases aS e with⟨_,q⟩|⟨ne,q⟩
  ·cases q
  ·exact⟨ne,q⟩
 refine⟨⟨λj d e=>?_,λj d e=>?_,λj l xs ys a e1 e2 e3 e4=>?_,T.env.all⟩,T.base,λj xs a e1 e2=>?_,λj dn e=>?_⟩
 ·obtain⟨ne,q⟩:=key j _ e;obtain⟨v,q1,q2⟩:=T.env.val j d q;exact⟨v,by rw[Hg ne.symm];exact q1,q2⟩
 ·obtain⟨ne,q⟩:=key j _ e;obtain⟨a,q1,q2⟩:=T.env.own j d q;exact⟨a,by rw[Hg ne.symm];exact q1,q2⟩
 ·obtain⟨n1,q1⟩:=key j _ e1;obtain⟨n2,q2⟩:=key l _ e2;rw[Hg n1.symm]at e3;rw[Hg n2.symm]at e4;exact T.env.one j l xs ys a q1 q2 e3 e4
 ·obtain⟨ne,q⟩:=key j _ e1;rw[Hg ne.symm]at e2;exact T.mine j xs a q e2
 ·obtain⟨ne,q⟩:=key j _ e;refine(T.nst j dn q).to (Hg ne.symm) (λ_ _ z=>z) (λb q1 q2 q3 q4 _=>⟨rfl,q1,q2,λl d1 w=>?_⟩) λl d1 w=>⟨d1,(key l _ w).2⟩
  obtain⟨nl,z⟩:=key l _ w;rw[Hg nl.symm];exact q4 l d1 z
noncomputable def oy(K:Jv)(mg:bC)(g:Str)(cs:ap):Prop:=∃G,mg g=some (.ref G)/\∀c∈cs,∀C,clsAt K c C->JX K (.ref C) (.ref G)=some true
noncomputable def Ci(i:Nat)(k:Ks):Ks:=⟨λρ=>k.nx (ρ.set i none),λρ=>k.bk (ρ.set i none),λρ=>k.ct (ρ.set i none),λ_ _=>un⟩
noncomputable def u6(cs:ap)(i:Nat)(F Fh:bJ):bJ:=λk ρ=>F {k with ex:=λx ρ1=>if cs.contains x.c=true then Fh (Ci i k) (setV i (.exc x.c x.fs x.vs) ρ1)else un} ρ
section
variable{X:Cx}{pos:Pos}
theorem EZ{body suite:cD}{b₀:Kx}{g n:Str}{gp hpos:Pos}{F Fh:bJ}{cs:ap}{i:Nat}(hx:X.ex=[])(hst:X.stack=X.env::X.outer)(hf:X.env.frame=some X.env.locals)(hfn:∀x,X.fn x=true)
  (hT:oy X.K X.mg g cs) (hg:Gl X g) (hN:X.N.Nodup) (hi:X.N[i]?=some n) (hl:X.env.scope.names.lookup n=some .local)
  (hb:∀E pn,K5 (model X.prog X.w) X.A X.env E->D6 (oj X E pn) body F) (hs:∀A pn,A.depth=X.A.depth->A.units=X.A.units->D6 (kQ X A pn) (b₀::suite) Fh) (hdb:(g==("__debug__":Str))=false:=by decide):
  FS X (.Try body [.ExceptHandler (some (.Name g gp)) (some n) (b₀::suite) hpos] [] [] pos) (u6 cs i F Fh):=λHb Ob pins s σ H E I ⟨O,ρ,k,r,S,hF,hk⟩=>by
 obtain⟨G,hG,hcs⟩:=hT;refine wpAny_Try_except ?_;have land:∀O1 ρ1 σ1 H1 x,cF X.K Hb Ob O1 H1 ρ1 σ1->(if cs.contains x.c=true then Fh (Ci i k) (setV i (.exc x.c x.fs x.vs) ρ1)else un)=r->
   AG (oj X (λe s₁=>KO (model X.prog X.w) X.A (noteFrame e X.env) (λ_ s₂=>KO (model X.prog X.w) X.A (setFlight e none) (λ_ s₃=>KO (model X.prog X.w) X.A (handleBy e X.env [.ExceptHandler (some (.Name g gp)) (some n) (b₀::suite) hpos]) (SP X pins E) X.xe s₃) X.xe s₂) X.xe s₁) (X.pn++pins)) σ1 O1 H1 x:=by
  rintro O1 ρ1 σ1 H1 x S1 ex pins' s1 u H2 I1 sm ⟨e,C,dx,rfl,hd,fl⟩;have cond:cs.contains x.c=true:=by
   cases z:cs.contains x.c with
   |true=>rfl
   |false=>rw[z]at ex;exact absurd ex.symm hk.ne
  rw[if_pos cond]at ex;obtain⟨oe1,vs1,he1,hc1,hd1⟩:=tE fl;have nfr:e∉frs X.stack:=λz=>by
   obtain⟨_,o,q,nf⟩:=I1.stack.mem z;rw[he1]at q;cases q;exact nf _ hd1
  refine wc (X:=oj X _ (X.pn++pins)) I1.ok.frames hst hf fl λB a0 h4 held us4 kb ds4=>?_;have nk:¬fj (oj X _ (X.pn++pins)) H2 e:=λz=>by
   have:=kb e oe1 he1 z nfr
   rw[held.2.1]at this;cases this
  refine DP.go (jx _ _) (P:=λh'=>Kb B X.stack e (.ref C) a0 h'/\h4.UpToSlots h') (wpAny_landsW held λh' x y=>⟨h',rfl,x,y⟩) λh5 z5 ds5=>?_;obtain⟨fl5,us5⟩:=z5;have I5:=qZ I1 hx hst hf hfn (us4.trans us5) λb o q kb' nf=>fl5.1 b o (kb b o q kb' nf);obtain⟨oe5,he5,hc5⟩:=fl5.there;have I5h:=oU (A:=X.A.mark (some (.ref e))) I5 rfl;refine wpAny_handleBy_cons (codeAny_handlers_test (gx (X:=kQ X (X.A.mark (some (.ref e))) (X.pn++pins)) I5h hg hG ?_ hdb)) (by intro z;cases z);refine(PySem.W.exm_one I5.kIn (show PySem.W.Looks _ h5 (typeOf (.ref e)) (.ref C)from hc5 ▸ (PySem.W.Looks.ld he5).andThen .now) (hcs x.c (by simpa using cond) C hd.1)).at ?_;refine codeAny_handlers_suite_as ?_;refine DP.go (jx _ _) (P:=λh'=>Kb B X.stack e (.ref C) a0 h'/\h5.UpToSlots h') (PyProof.Rows.lands_againW fl5 λh' x y=>⟨h',rfl,x,y⟩) λh6 z6 ds6=>?_;obtain⟨fl6,us6⟩:=z6;have I6:=qZ I1 hx hst hf hfn ((us4.trans us5).trans us6) λb o q kb' nf=>fl6.1 b o (kb b o q kb' nf);obtain⟨oe6,ws6,he6,hc6,hd6,_⟩:=fl6.first;have hdx:oe6.dict=dx:=(((ds4.trans ds5).trans ds6).dict he1 he6).trans (fl.1 _ he1);have hn:H2 e=none:=by
   cases q:H2 e with
   |none=>rfl
   |some ob=>exact absurd (.inr (.inl (by rw[q];intro z;cases z))) nk
  have I6a:=ui (C:=C) I6 hx hn he6 hc6 (by unfold JR;rw[hd6]) (by
    cases q:X.s₀.heap.get? e with
    |none=>rfl
    |some o=>exact absurd (.inl ⟨⟨o,q⟩,by rw[show(oj X _ (X.pn++pins)).ex=X.ex from rfl,hx];simp⟩) nk) (λz=>by
    apply nfr;rw[hst,z];show X.env.locals∈List.filterMap _ (_::_);rw[G7,hf];exact G8)
   (λy q=>nk (.inr (.inr (.inr ⟨y,q⟩)))) (λp hp q=>by
    rw[Hu]at hp;exact nk (.inr (.inr (.inl ⟨p.2,by rw[<-q];exact hp⟩))))
  have I6h:=oU (A:=X.A.mark (some (.ref e))) I6a rfl;have same26:aQ H2 (upd H2 e (.ext (jq C e oe6.dict))):=λb o q=>by rw[av λz=>by rw[z,hn]at q;cases q];exact q
  have eO:e∉O1:=(S1.env.all.same sm).not hn;refine kL (X:=kQ X (X.A.mark (some (.ref e))) (X.pn++pins)) I6h hN hi (.inl hl) (show RelV (.ref e) (.ref e)from rfl) (λs7 I7=>?_) (.inl (hfn n));have S7:=(S1.same (sm.trans same26)).setV (i:=i) (d:=.exc x.c x.fs x.vs) (v:=.ref e) (by rw[I1.len];exact(List.getElem?_eq_some_iff.mp hi).1)
   (by
    obtain⟨c1,ws,w1,w2,w3⟩:=hd;have sh:aQ (hid H2 O1) (hid (upd H2 e (.ext (jq C e oe6.dict))) O1):=bq same26;exact DU.mpr ⟨e,ws,rfl,w1.mono sh,w2,C,oe6.dict,c1,by rw[hV eO];exact aA,w3.imp id λ⟨d,q1,q2⟩=>⟨d,hdx.trans q1,sh _ _ q2⟩⟩)
  refine KQ (hs (X.A.mark (some (.ref e))) (X.pn++pins) rfl rfl Hb Ob [] s7 _ _ {nx:=λσ' H'=>E.nx (σ'.set i none) H',rt:=E.rt,bk:=λσ' H'=>E.bk (σ'.set i none) H',ct:=λσ' H'=>E.ct (σ'.set i none) H'} I7
   ⟨O1,_,Ci i k,r,S7,ex,hk.ne,λO' ρ' σ' H' S' q=>hk.nx O' _ _ H' (S'.unset i) q,λO' ρ' σ' H' S' q=>hk.bk O' _ _ H' (S'.unset i) q,λO' ρ' σ' H' S' q=>hk.ct O' _ _ H' (S'.unset i) q,hk.rt,λO' ρ' σ' H' y S' q=>absurd q.symm hk.ne⟩) (λf s8 h8=>?_) λ_ _ z=>z.elim
  have fin:∀σ' H',L2.Inv (kQ X (X.A.mark (some (.ref e))) (X.pn++pins)) [] σ' H' s8->∀Q:fF,(∀s9,L2.Inv X pins (σ'.set i none) H' s9->Q s9)->
    KO (model X.prog X.w) X.A (do bindName X.env n .none;unbindBehindTheSuite X.env n hpos) (λ_ s₃=>Q s₃) X.xe s8:=λσ' H' I8 Q q=>by
   obtain⟨m,hm,hlk⟩:=I8.loc;exact wpAny_nameGoes_keeps hl hm (by rw[I8.ok.kind];rfl) λh9 v ns9 sb9=>q _ (fJ I.ok (wW I8 hN hi hm hlk ns9 sb9))
  cases f with
  |next=>obtain⟨σ',H',I8,q⟩:=h8;exact fin σ' H' I8 _ λs9 I9=>⟨_,H',I9,q⟩
  |brk=>obtain⟨σ',H',I8,q⟩:=h8;exact fin σ' H' I8 _ λs9 I9=>⟨_,H',I9,q⟩
  |cont=>obtain⟨σ',H',I8,q⟩:=h8;exact fin σ' H' I8 _ λs9 I9=>⟨_,H',I9,q⟩
  |ret u=>obtain⟨v,σ',H',I8,rv,q⟩:=h8;exact fin σ' H' I8 _ λs9 I9=>⟨v,_,H',I9,rv,q⟩
 refine KQ (hb _ (X.pn++pins) PassesOwn.looking Hb Ob [] s σ H E (zx I _) ⟨O,ρ,_,r,S,hF,hk.ne,hk.nx,hk.bk,hk.ct,hk.rt,land⟩) (λf s1 h1=>?_) λ_ _ z=>z;cases f with
 |next=>obtain⟨σ',H',I1,q⟩:=h1;exact sd pins s1 σ' H' E (fJ I.ok I1) q
 |brk=>obtain⟨σ',H',I1,q⟩:=h1;exact⟨σ',H',fJ I.ok I1,q⟩
 |cont=>obtain⟨σ',H',I1,q⟩:=h1;exact⟨σ',H',fJ I.ok I1,q⟩
 |ret u=>obtain⟨v,σ',H',I1,rv,q⟩:=h1;exact⟨v,σ',H',fJ I.ok I1,rv,q⟩
end
end TG
namespace TG
open PySem PySem.Spec L2
variable[ax]
noncomputable def oH(K:Jv)(T:Kt)(tbl:gO):Prop:=∀c b,tbl.lookup c=some b->∀D,clsAt K c D->gM K D/\JS K (.ref D) T=some b
noncomputable def dA(tbl:gO)(d:D):aZ:=match d with
 |.exc c _ _=>(tbl.lookup c).map .bl
 |_=>none
noncomputable def bX(K:Jv)(mg:bC)(x:Str)(tbl:gO):Prop:=∃C,mg x=some (.ref C)/\oH K (.ref C) tbl
theorem bS{K:Jv}{T:Kt}:oH K T []:=λ_ _ h=>by cases h
theorem ai{K:Jv}{T:Kt}{c:Str}{D:Kv}{b:Bool}{tbl:gO}(ac:clsAt K c D)(F:gM K D)(k:JS K (.ref D) T=some b)(r:oH K T tbl):oH K T ((c,b)::tbl):=λc' b' h D' hD=>by
 rw[HN]at h;split at h
 ·rename_i e;have e:=beq_iff_eq.mp e;subst e;cases h;cases cM hD ac;exact⟨F,k⟩
 ·exact r c' b' h D' hD
theorem oZ{K:Jv}{C:Kv}{v:Kt}(h:JY K C v=some true):(PySem.W.clsIn K C).isSome=true:=by
 unfold JY at h;cases e:PySem.W.clsIn K C with
 |none=>rw[e]at h;cases h
 |some c=>rfl
theorem aq{K:Jv}{C D:Kv}{b:Bool}(hs:JZ K (.ref D) (.ref C)=some b)(ho:JY K C (.type "object")=some true)(ht:JH K (.ref C)=some (.type "type"))(hn:b=true\/D≠C):JS K (.ref D) (.ref C)=some b:=by
 unfold JS;by_cases e:D=C
 ·rcases hn with hn|hn
  ·rw[if_pos (by rw[e];simp),hn]
  ·exact absurd e hn
 ·rw[if_neg (by simpa using e)];unfold J0;dsimp only;rw[if_pos (by rw[oZ ho,ht];rfl)];exact hs
theorem kK{K:Jv}{D:Kv}{b:Bool}(hs:JZ K (.ref D) (.type "ValueError")=some b):JS K (.ref D) (.type "ValueError")=some b:=by
 unfold JS;rw[if_neg (by simp)];unfold J0;dsimp only;rw[if_pos (by decide +kernel)];exact hs
theorem iq{K:Jv}{C G:Kv}(hb:JZ K (.ref G) (.type "BaseException")=some true)(hs:JZ K (.ref C) (.ref G)=some true)(ho:JY K G (.type "object")=some true)(ht:JH K (.ref G)=some (.type "type")):JX K (.ref C) (.ref G)=some true:=by
 unfold JX;rw[if_pos (by rw[hb];rfl)];unfold J0;dsimp only;rw[if_pos (by rw[oZ ho,ht];rfl)];exact hs
theorem uM{K:Jv}{mg:bC}{g:Str}{G:Kv}{cs:ap}(hm:mg g=some (.ref G))(h:∀c∈cs,∃C,clsAt K c C/\JX K (.ref C) (.ref G)=some true):oy K mg g cs:=⟨G,hm,λc hc C hC=>by
 obtain⟨C',h1,h2⟩:=h c hc;cases cM hC h1;exact h2⟩
section
variable{X:Cx}{p pos:Pos}{e:Kw}
noncomputable def zN(K:Jv)(tv:V)(T:Kt):aB->Hp->VK->Prop:=λxs H Q=>∃a D dx b,xs=[.ref a,tv]/\H a=some (.ext (jq D a dx))/\gM K D/\JS K (.ref D) T=some b/\Q (.bl b) H
theorem mn{tv:V}{T:Kt}(hT:∀u,RelV tv u->u=T):cX X (.builtin "isinstance") (zN X.K tv T):=by
 rintro pins s σ H xs us Q I r ⟨a,D,dx,b,ex,ha,F,hk,q⟩;subst ex;obtain⟨u,w',rfl,rx,rt⟩:=vals2 r;cases rx;cases hT _ rt;obtain⟨⟨o,e1,e2,_⟩,_⟩:=(show ce X.prog X.w H s.heap a (.ext (jq D a dx))from I.hok a _ ha)
 exact JT (oS F) I.kIn ⟨o,e1,e2⟩ hk (λz=>nomatch z) λtk=>⟨.bl _,H,I.tok _,rfl,q⟩
theorem pQ{tbl:gO}{a d:D}(h:dA tbl a=some d):∃c fs vs b,a=.exc c fs vs/\tbl.lookup c=some b/\d=.bl b:=by
 unfold dA at h;split at h
 ·rename_i c fs vs;cases e:tbl.lookup c with
  |none=>rw[e]at h;cases h
  |some b=>rw[e]at h;cases h;exact⟨c,fs,vs,b,rfl,e,rfl⟩
 ·cases h
theorem z7{tbl:gO}{tv:V}{T:Kt}{f:FX}(h:oH X.K T tbl):∀σ H Q,tF X (f1 (dA tbl) f) σ H Q->Ec (zN X.K tv T) (wv (tF X f) (wv (tC tv) CG)) σ H Q:=λσ H Q ⟨O,ρ,E,hF⟩=>⟨O,ρ,E,(dE.bind hF).imp λa hF v H1 s1 d1=>by
  obtain⟨d,e,q⟩:=dE.rO hF;obtain⟨c,fs,vs,b,rfl,e2,rfl⟩:=pQ e;obtain⟨a,ws,rfl,_,_,D,dx,hcl,ha,_⟩:=DU.mp d1;obtain⟨F,hk⟩:=h c b e2 D hcl;exact⟨a,D,dx,b,rfl,az _ _ _ _ ha,F,hk,q _ H1 s1 (eT.mpr rfl)⟩⟩
end
end TG
namespace TG
open PySem PySem.Spec L2
variable[ax]
end TG
namespace TG
open PySem PySem.Spec L2
open PySem PySem.Spec PyProof.Rows PySem.W L2
variable[ax]
end TG
namespace TG
open PySem PySem.Spec PyProof.Rows PySem.W L2
variable[ax]
end TG
namespace TG
open PySem PySem.Spec PyProof.Rows PySem.W L2
variable[ax]
end TG
namespace TG
open PySem PySem.Spec PyProof.Rows PySem.W L2
end TG
namespace TG
open PySem PySem.Spec PySem.Calls L2
open PySem.SeqAt (EqAt list_indexAt)
variable[ax]
noncomputable def ux(c:Str):List (gO)->Option Bool
 |[]=>some false
 |t::r=>match t.lookup c with
  |some true=>some true
  |some false=>ux c r
  |none=>none
noncomputable def rW(tbls:List gO)(d:D):aZ:=match d with
 |.exc c _ _=>(ux c tbls).map .bl
 |_=>none
inductive vj(X:Cx):aU->List (gO)->Prop where
 |nil:vj X [] []
 |cons {x:Str} {p:Pos} {tbl:gO} {es:aU} {tbls:List gO} (h:bX X.K X.mg x tbl) (hg:Gl X x) (hd:(x==("__debug__":Str))=false) (r:vj X es tbls):vj X (.Name x p::es) (tbl::tbls)
theorem xO{X:Cx}{es:aU}{tbls:List gO}(h:vj X es tbls):∃cs:ay,cs.length=es.length/\PA X es (λ_ H Q=>Q (cs.map V.ref) H)/\∀c b,ux c tbls=some b->∀D,clsAt X.K c D->J1 X.K (.ref D) (cs.map Value.ref)=some b:=by
 induction h with
 |nil=>
  refine⟨[],rfl,λpos pins s σ H Q I h=>jk pos pins s σ H Q I h,λc b h D _=>?_⟩;cases h;rfl
 |cons h hg hd r ih=>
  obtain⟨C,hC,hk⟩:=h;obtain⟨cs,hl,hp,ha⟩:=ih;refine⟨C::cs,by rw[Ho,Ho,hl],λpos pins s σ H Q I q=>dg (n5 (v:=.ref C) hg hC rfl hd) hp (bg rfl) pos pins s σ H Q I q,λc b h D hD=>?_⟩;unfold ux at h;show J1 X.K (.ref D) (.ref C::cs.map Value.ref)=some b;unfold J1;split at h
  ·rename_i e;cases h;rw[(hk c true e D hD).2]
  ·rename_i e;rw[(hk c false e D hD).2];exact ha c b h D hD
  ·cases h
section
variable{X:Cx}{p pos:Pos}{e:Kw}
noncomputable def CO(K:Jv)(cs:ay):aB->Hp->VK->Prop:=λxs H Q=>∃a t D dx b,xs=[.ref a,.ref t]/\H a=some (.ext (jq D a dx))/\H t=some (.tup (cs.map V.ref))/\gM K D/\J1 K (.ref D) (cs.map Value.ref)=some b/\Q (.bl b) H
theorem lV:∀{cs:ay}{us:aL},Vals (cs.map V.ref) us->us=cs.map Value.ref
 |[],_,.nil=>rfl
 |c::cs,_,.cons h t=>by
  cases h;rw[lV t];rfl
theorem um{cs:ay}:cX X (.builtin "isinstance") (CO X.K cs):=by
 rintro pins s σ H xs us Q I r ⟨a,t,D,dx,b,ex,ha,ht,F,hk,q⟩;subst ex;obtain⟨u,w',rfl,rx,rt⟩:=vals2 r;cases rx;cases rt;obtain⟨⟨o,e1,e2,_⟩,_⟩:=(show ce X.prog X.w H s.heap a (.ext (jq D a dx))from I.hok a _ ha)
 obtain⟨its,ri,⟨ot,h1,h2,n,h3⟩,_⟩:=I.tuple (jn.of ht);have ei:=lV ri;subst ei;obtain⟨oc,od,odt,osl⟩:=ot;cases h2;cases h3;exact PySem.W.kia_tup (oS F) I.kIn ⟨o,e1,e2⟩ h1 hk (λz=>nomatch z) λtk=>⟨.bl _,H,I.tok _,rfl,q⟩
theorem BK{pins:aR}{σ:L2.St}{H:Hp}{s:Ky}(I:Inv X pins σ H s){xd:D}{x:V}{u:Kt}{A:KJ}(px:pl xd=true)(hd:cn 8 xd=true)(hx:bM X.K H xd x)(ru:RelV x u)(hA:A.units+8<Lj){ys:List D}{vs:aB}{its:aL}(py:eB ys=true)(hy:aK X.K H ys vs)(rv:Vals vs its):
  ∃e:Kt->Bool,(∀y,y∈its.toArray->EqAt A s y u (e y))/\∀(j:Nat)(d:D)(w:Kt),ys[j]?=some d->its[j]?=some w->e w=pyEq d xd:=by
 classical
 let e:Kt->Bool:=λy=>decide (∃d w,pl d=true/\bM X.K H d w/\RelV w y/\pyEq d xd=true)
 have he:∀d w y,pl d=true->bM X.K H d w->RelV w y->e y=pyEq d xd:=λd w y h0 h1 h2=>by
  cases hq:pyEq d xd with
  |true=>exact decide_eq_true ⟨d,w,h0,h1,h2,hq⟩
  |false=>
   refine decide_eq_false ?_;rintro⟨d',w',g0,g1,g2,g3⟩;have ew:=RelV.inj h2 g2;subst ew;rw[Inv.den_inj I h0 g0 h1 g1,g3]at hq;cases hq
 refine⟨e,λy hy'=>?_,λj d w e1 e2=>?_⟩
 ·have hm:y∈its:=by simpa using hy'
  obtain⟨j,hj,rfl⟩:=Ih hm;obtain⟨w,e1,r1⟩:=gJ rv (j:=j) (by simpa using hj);obtain⟨d,f1,g1⟩:=gA hy e1;have r1':RelV w its[j]:=by simpa using r1
  have pd:=dQ py _ (HE f1);rw[he d w _ pd g1 r1'];exact qd I 8 d xd w x _ u A pd px (.inr hd) g1 hx r1' ru hA
 ·obtain⟨v,f1,f2⟩:=hy.get e1;obtain⟨w',f3,f4⟩:=rv.get f1;rw[e2]at f3;cases f3;exact he d v w (dQ py _ (HE e1)) f2 f4
noncomputable def jH(x:D):List D->Option Nat
 |[]=>none
 |y::ys=>if pyEq y x then some 0 else(jH x ys).map (·+1)
theorem mw{x:D}:∀{ys:List D}{j:Nat},jH x ys=some j->∃h:j<ys.length,pyEq ys[j] x=true/\∀m (hm:m<ys.length),m<j->pyEq ys[m] x=false
 |[],_,h=>by cases h
 |y::ys,j,h=>by
  unfold jH at h;split at h
  ·rename_i e;cases h;exact⟨by simp,e,λm _ hm=>absurd hm (Nat.not_lt_zero _)⟩
  ·rename_i e;cases q:jH x ys with
   |none=>rw[q]at h;cases h
   |some i=>
    rw[q]at h;cases h;obtain⟨h1,h2,h3⟩:=mw q;refine⟨by simpa using h1,by simpa using h2,λm hm hlt=>?_⟩;cases m with
    |zero=>simpa using e
    |succ m=>
     have hlt:m+1<i+1:=hlt
     simpa using h3 m (by simpa using hm) ‹0›
noncomputable def jp(a b:D):aZ:=match a with
 |.lst ys=>if(pl b&&eB ys)&&cn 8 b then(jH b ys).map (λ(j:Nat)=>D.int (j:Int))else none
 |_=>none
noncomputable def jy(f:FX)(g:aN):FX:=λρ=>(f ρ).bind λa=>match a with
 |.lst ys=>(g ρ).bind λds=>match ds with
  |[b]=>rO (jp (.lst ys) b)
  |_=>un
 |_=>un
noncomputable def Bh(K:Jv):V->aB->Hp->VK->Prop:=λx xs H Q=>∃Hd a ys vs b v d,aQ Hd H/\x=.ref a/\xs=[v]/\gQ K Hd a vs/\aK K H ys vs/\bM K H b v/\jp (.lst ys) b=some d/\∀w,bM K H d w->Q w H
theorem v0(hu:X.A.units+64<Lj):Fs X "list.index" (Bh X.K):=by
 rintro pins s σ H x xs v us Q I rx rs ⟨Hd,a,ys,vs,b,y,d,sm,ex,exs,hl,dl,db,hg,q⟩;subst ex exs;cases rx;obtain⟨u,rfl,ru⟩:=vals1 rs;obtain⟨its,r,⟨o,n,ho,hc,hd',hdd⟩,hz⟩:=I.list (sm.seq hl);have hg':(if(pl b&&eB ys)&&cn 8 b then(jH b ys).map (λ(j:Nat)=>D.int (j:Int))else none)=some d:=hg;obtain⟨h1,h2⟩:((pl b&&eB ys)&&cn 8 b)=true/\(jH b ys).map (λ(j:Nat)=>D.int (j:Int))=some d:=by
  split at hg'
  ·rename_i z;exact⟨z,hg'⟩
  ·cases hg'
 rw[HI,HI]at h1;obtain⟨j,ej,ed⟩:=Option.map_eq_some_iff.mp h2;subst ed;obtain⟨hj,hit,hno⟩:=mw ej;obtain⟨e,he,hv⟩:=BK (A:=X.A.in1) I h1.1.1 h1.2 db ru (by rw[in1_units];omega) h1.1.2 dl r;have l1:=dl.length;have l2:=r.length;have hj':j<its.length:=by omega
 obtain⟨oc,od,odt,osl⟩:=o;cases hc;cases hd';cases hdd;refine call_meets Kq ⟨_,ho,rfl⟩ PySem.F.entry_list_index (PySem.F.args_list_index_2 _ _)
  (list_indexAt a its.toArray n none osl u e j (by simpa using hj') (by rw[PySem.sizeLine_eq]at hz;omega) ?_ ?_) ⟨ho,he,?_⟩
 ·have:=hv j ys[j] its[j] (by simp[hj]) (by simp[hj'])
  rw[hit]at this
  simpa using this
 ·intro m hm hlt;have hm':m<its.length:=by simpa using hm
  have:=hv m (ys[m]'‹0›) its[m] (by simp[show m<ys.length by omega]) (by simp[hm'])
  rw[hno m ‹0› hlt]at this
  simpa using this
 ·exact⟨.int j,H,I.tok _,⟨_,rfl⟩,q _ (dD.mpr rfl)⟩
end
end TG
namespace TG
open PySem PySem.Spec L2
variable[ax]
end TG
namespace TG
open PySem PySem.Spec PySem.Calls L2
open PySem.SeqAt (EqAt list_countAt)
variable[ax]
end TG
namespace TG
open PySem PySem.Spec L2
variable[ax]
end TG
namespace TG
open PySem PySem.Spec PySem.Calls L2
variable[ax]
end TG
namespace TG
open PySem PySem.Spec L2
variable[ax]
end TG
namespace TG
open PySem PySem.Spec L2
variable[ax]
end TG
namespace TG
open PySem PySem.Spec L2
variable[ax]
end TG
namespace TG
open PySem PySem.Spec PySem.Calls L2
variable[ax]
end TG
namespace TG
open PySem PySem.Spec L2
variable[ax]
end TG
namespace TG
open PySem PySem.Spec L2
variable[ax]
end TG
namespace TG
open PySem PySem.Spec L2
variable[ax]
end TG
namespace TG
open PySem PySem.Spec L2
variable[ax]
end TG
namespace TG
open PySem PySem.Spec PySem.Calls L2
variable[ax]
end TG
namespace L2
open PySem PySem.Spec PyProof.Rows
end L2
namespace TG
open PySem PySem.Spec L2
variable[ax]
end TG
namespace TG
open PySem PySem.Spec L2
variable[ax]
end TG
namespace TG
open PySem PySem.Spec L2
section
variable{prog:KA}{w:Kz}{A:KJ}{E:bj}{h:KC}{g:Array GenState}{d:Drawn}{t:Nat}{os:OsState}
variable{nm q:Str}{C N:Kv}{bs bm bmB:aL}{hdct:Bool}{sn:ap}{sub:aL}{ab:Bool}{col:Option Bool}{dd:Option Kv}{k0 k1 k2 k3 k5:Option Kt}{B Bn newId nid initId inN:String}{bmN:aL}{mN:bC}{us:aL}{fI:Kv}{oI:Obj}
theorem oF{Q:PySem.Fin->fF}(Fn:Mf Bn newId inN bmN)(hb:bmB.contains (.type Bn)=true)(F:Mf B nid initId bmB)(T:OwnTail h bmB bm)
  (hC:h.get? C=some (excClassObj nm q C N bs bm hdct sn sub ab col dd k0 k1 k2 k3 k5 newId)) (hn:h.Ns N mN) (hi:mN "__init__"=some (.ref fI)) (hf:h.get? fI=some oI) (hc:oI.cls=.type "function")
  (hq:∀h' e,Ke h h' e (.ref C) us->KO (model prog w) A (call (.ref fI) (.ref e::us)) (λr s'=>r=.none/\Q (.done (.ret (.ref e))) s') E ⟨h',g,d,t,os⟩) (hl:us.length<=KG):
  KO (model prog w) A (Builtin.«type.__call__» ⟨.ref C::us,[]⟩) Q E ⟨h,g,d,t,os⟩:=by
 repeat (first|with_reducible refine Mg hC ?_|with_reducible refine wpAny_madeBy_exc hC ?_|wp_step)
 refine codeAny_call_builtin_code (Code.quiet_builtin _ Fn.quiet) (wpAny_check_new_subU Fn hb T hC (codeAny_exc_new_subU Fn hb F T hC ?_ hl));show KO _ _ _ _ _ _;obtain⟨o1,e1⟩:∃o:Obj,o={cls:=.type "tuple",data:=.seq us.toArray}:=⟨_,rfl⟩
 obtain⟨o2,e2⟩:∃o:Obj,o={cls:=.ref C,data:=.fields #[.ref h.objs.size,.none,.none,.none,.bool false,.none]}:=⟨_,rfl⟩
 rw[<-e1,<-e2];have up:∀b o,h.get? b=some o->((h.push o1).push o2).get? b=some o:=λb o z=>J6 _ (J6 _ z);have hC1:=up _ _ hC;have hf1:=up _ _ hf;have hn1:((h.push o1).push o2).Ns N mN:=let ⟨o,es,ep,z,r⟩:=hn;⟨o,es,ep,up _ _ z,r⟩
 have hg:((h.push o1).push o2).get? (h.objs.size+1)=some o2:=Kd (by simp only[J8]) (by rw[e2];rfl);have hg1:((h.push o1).push o2).get? h.objs.size=some o1:=J6 _ (Kd rfl (by rw[e1];rfl));have cc:(Value.ref C::bm).contains (.ref C)=true:=by simp
 have T1:=T.keeps (h':=(h.push o1).push o2) up;subst e2;unfold isInstance
 repeat (first|with_reducible refine Mg hg ?_|(with_reducible refine wpAny_isSubtype_exc hC1 ?_;rw[cc])|wp_step)
 show KO _ _ (typeLookup (.ref C) _) _ _ _;refine wpAny_typeLookup_tail hC1 hn1 T1 F.mroIs F.init.lookup ?_;rw[hi];refine K1 (KZ ?_);unfold bindSpecial;refine KZ (LD (T:="function") ⟨_,hf1,hc⟩ ?_);rw[if_pos (by decide)];subst e1;refine K3 (KZ (KQ (hq _ (h.objs.size+1) ⟨up,J4 (Hv _),h.objs.size,hg,J4 (Hj _),hg1⟩) (λr s' hr=>?_) λ_ _ x=>x));obtain⟨rfl,hQ⟩:=hr
 wp_walk
 exact hQ
theorem kX{Q:bj}(Fn:Mf Bn newId inN bmN)(hb:bmB.contains (.type Bn)=true)(F:Mf B nid initId bmB)(T:OwnTail h bmB bm)
  (hC:h.get? C=some (excClassObj nm q C N bs bm hdct sn sub ab col dd k0 k1 k2 k3 k5 newId)) (hn:h.Ns N mN) (hi:mN "__init__"=some (.ref fI)) (hf:h.get? fI=some oI) (hc:oI.cls=.type "function")
  (hq:∀h' e,Ke h h' e (.ref C) us->KO (model prog w) (A.under (.builtin "type.__call__" ⟨.ref C::us,[]⟩)) (call (.ref fI) (.ref e::us)) (λr s'=>r=.none/\Q (.ref e) s') E ⟨h',g,d,t,os⟩) (hl:us.length<=KG):
  KO (model prog w) A (call (.ref C) us) Q E ⟨h,g,d,t,os⟩:=by
 have f1:=tc_lookup;have f2:=tc_bind (.ref C);have hT:(⟨h,g,d,t,os⟩:Ky).TypeIs (.ref C) "type":=⟨_,hC,rfl⟩
 refine Lq (codeAny_of_tree ?_);show KO _ _ (callAny (.ref C) _) _ _ _
 repeat (any_goals (first|assumption|with_reducible refine Mg hC ?_|wp_step))
 exact⟨rfl,codeAny_call_builtin_at (Code.quiet_builtin _ (by decide +kernel)) entry_typeCall (wpAny_check_type_call_sub hC (oF Fn hb F T hC hn hi hf hc (λh' e hm=>hq h' e hm) hl))⟩
end
variable[ax]
noncomputable abbrev Ed(a0:Kv):Data:=.fields #[.ref a0,.none,.none,.none,.bool false,.none]
noncomputable def lj(C e a0:Kv):(Kv->Prop)->KC->Prop:=λ_ h=>∃o,h.get? e=some o/\o.cls=.ref C/\o.data=Ed a0/\o.dict=none
noncomputable def dX(C e a0 d:Kv)(fs:List (Str×V)):(Kv->Prop)->KC->Prop:=λS h=>∃o mA,h.get? e=some o/\o.cls=.ref C/\o.data=Ed a0/\o.dict=some d/\S d/\d≠e/\h.Ns1 d mA/\∀f,pz (fs.lookup f) (mA f)
theorem B3{h h':KC}{d:Kv}{mA:bC}(n:h.Ns1 d mA)(k:∀o,h.get? d=some o->h'.get? d=some o):h'.Ns1 d mA:=n.at k
theorem yS{P:KA}{w:Kz}{H:Hp}{h:KC}{C e a0:Kv}(x:lj C e a0 (λb=>H b=some (.own e)) h):ce P w H h e (.ext (lj C e a0)):=by
 refine⟨x,let ⟨o,q,_⟩:=x;⟨o,q⟩,λS1 S2 h1 h2 z s12 k=>?_⟩;obtain⟨o,q1,q2⟩:=z;exact⟨o,k _ _ (.inl rfl) q1,q2⟩
theorem rQ{P:KA}{w:Kz}{H:Hp}{h:KC}{C e a0 d:Kv}{fs:List (Str×V)}(x:dX C e a0 d fs (λb=>H b=some (.own e)) h):ce P w H h e (.ext (dX C e a0 d fs)):=by
 refine⟨x,let ⟨o,_,q,_⟩:=x;⟨o,q⟩,λS1 S2 h1 h2 z s12 k=>?_⟩;obtain⟨o,mA,q1,q2,q3,q4,q5,q6,q7,q8⟩:=z;exact⟨o,mA,k _ _ (.inl rfl) q1,q2,q3,q4,s12 _ q5,q6,B3 q7 λo e=>k _ _ (.inr q5) e,q8⟩
section
variable{X:Cx}{pins:aR}{σ:St}{H:Hp}{s:Ky}{A:KJ}{E:bj}{C e a0:Kv}{fs:List (Str×V)}{f:Str}{y:V}{u:Kt}{Q:Unit->fF}
theorem oB{fs:List (Str×V)}{f:Str}(y:V)(h:(fs.map (·.1)).contains f=false)(g:Str):(fs++[(f,y)]).lookup g=if g=f then some y else fs.lookup g:=by
 induction fs with
 |nil=>
  show List.lookup g [(f,y)]=_;rw[HN];by_cases z:g=f
  ·rw[if_pos z,z,beq_self_eq_true]
  ·rw[if_neg z,beq_eq_false_iff_ne.mpr z]
 |cons p r ih=>
  rw[Hq,II,IJ]at h;rw[HR,HN,HN,ih h.2];have ne:f≠p.1:=by simpa using h.1
  cases q:(g==p.1)with
  |false=>rfl
  |true=>
   have:=beq_iff_eq.mp q
   have nf:¬g=f:=λz=>ne (z.symm.trans this);show some p.2=if g=f then some y else some p.2
   rw[if_neg nf]
theorem lookup_mem{fs:List (Str×V)}{g:Str}{v:V}(h:fs.lookup g=some v):g∈fs.map (·.1):=by
 induction fs with
 |nil=>cases h
 |cons p r ih=>
  rw[HN]at h;cases q:(g==p.1)with
  |true=>rw[Hq,beq_iff_eq.mp q];exact G8
  |false=>rw[q]at h;exact G9 _ (ih h)
theorem nW(I:Inv X pins σ H s)(e1:H e=some (.ext (lj C e a0)))(Z:z9 X.K C)(n:cp X.K C f)(ry:RelV y u)
  (h0:∀d s',H d=none->d≠e->Inv X pins σ (upd (upd H d (.own e)) e (.ext (dX C e a0 d [(f,y)]))) s'->Q () s'):KO (model X.prog X.w) A (setAttr (.ref e) f u) Q E s:=by
 obtain⟨⟨o,q1,q2,q3,q6⟩,_,_⟩:=(show ce X.prog X.w H s.heap e (.ext (lj C e a0))from I.hok e _ e1)
 refine vH Z I.kIn q1 q2 q3 q6 n λh' n2 s2=>h0 s.heap.objs.size _ (I.hok.fresh (Hj _)) (Ne.symm (G4 (J3 q1))) ?_;have ne:e≠s.heap.objs.size:=G4 (J3 q1);have I1:=I.laid (a:=s.heap.objs.size) (o:=.own e) (h':=s.heap.push {cls:=.type "dict",data:=.dict #[]}) (t':=s.toks) (λb o z=>J6 _ z) (Hj _) ⟨_,J7 s.heap rfl⟩;have g1:(s.heap.push {cls:=.type "dict",data:=.dict #[]}).get? e=some o:=J6 _ q1;have g2:((s.heap.push {cls:=.type "dict",data:=.dict #[]}).update e λo=>{o with dict:=some s.heap.objs.size}).get? e=some {o with dict:=some s.heap.objs.size}:=J9 (λo=>{o with dict:=some s.heap.objs.size}) g1 (Obj.isFreed_of_fields (o:={o with dict:=some s.heap.objs.size}) q3);have I2:=I1.write (x:=e) (e:=e) (o:=.ext (jq C e (some s.heap.objs.size))) (t':=s.toks) (h':=(s.heap.push {cls:=.type "dict",data:=.dict #[]}).update e λo=>{o with dict:=some s.heap.objs.size}) (by rw[av ne,e1];trivial) (.inl rfl) (λb u nb z=>(Kc _ _ _ _ nb).trans z) ⟨_,g2⟩
  ⟨⟨_,g2,q2,rfl,by unfold JR;rw[q3]⟩,⟨_,g2⟩,λ_ _ h1 h2 ⟨o,z1,z2⟩ _ k=>⟨o,k _ o (.inl rfl) z1,z2⟩⟩
 have g3:h'.get? e=some {o with dict:=some s.heap.objs.size}:=(s2.2 e ne).trans g2;have I3:=I2.write (x:=e) (e:=s.heap.objs.size) (o:=.ext (dX C e a0 s.heap.objs.size [(f,y)])) (t':=s.toks+2) (h':=h') (by rw[aA];trivial) (.inr (by rw[av ne.symm,aA])) (λb u nb z=>(s2.2 b nb).trans z) (let ⟨o,_,_,z,_⟩:=n2;⟨o,z⟩)
  (rQ ⟨_,_,g3,q2,q3,rfl,by dsimp only;rw[av ne.symm,av ne.symm,aA],ne.symm,n2,λg=>?_⟩)
 ·rw[rT]at I3;exact I3
 ·rw[HN];by_cases z:g=f
  ·rw[if_pos z,z];simpa [pz]using ry
  ·rw[if_neg z,beq_eq_false_iff_ne.mpr z];trivial
theorem mL{d:Kv}(I:Inv X pins σ H s)(e1:H e=some (.ext (dX C e a0 d fs)))(Z:z9 X.K C)(n:cp X.K C f)(hl:fs.length<1000)(hc:(fs.map (·.1)).contains f=false)(ry:RelV y u)
  (h1:∀s',Inv X pins σ (upd H e (.ext (dX C e a0 d (fs++[(f,y)])))) s'->Q () s'):KO (model X.prog X.w) A (setAttr (.ref e) f u) Q E s:=by
 obtain⟨⟨o,mA,q1,q2,q3,p1,p2,p3,p4,p5⟩,_,_⟩:=(show ce X.prog X.w H s.heap e (.ext (dX C e a0 d fs))from I.hok e _ e1)
 have wi:PySem.Within mA (fs.map (·.1)):=λg hg=>by
  cases z:fs.lookup g with
  |none=>have:=p5 g;rw[z]at this;exact absurd (pz.none_of this) hg
  |some v=>exact lookup_mem z
 refine vT Z I.kIn q1 q2 (by unfold JR;rw[q3]) p1 p4 n wi (by rw[Hr,K9];omega) λh' n2 s2=>h1 _ ?_;refine I.write (x:=e) (e:=d) (t':=s.toks+2) (by rw[e1];trivial) (.inr p2) (λb u nb z=>(s2.2 b nb).trans z) (let ⟨o,_,_,z,_⟩:=n2;⟨o,z⟩) (rQ ⟨o,_,(s2.2 e p3.symm).trans q1,q2,q3,p1,by dsimp only;rw[av p3];exact p2,p3,n2,λg=>?_⟩);rw[oB y hc];by_cases z:g=f
 ·rw[if_pos z,if_pos z];exact ry
 ·rw[if_neg z,if_neg z];exact p5 g
end
noncomputable def DB(K:Jv)(ta tv:TE)(f:Str):TS:=λD σ H=>tv σ H λy H1=>ta σ H1 λx H2=>∃e C a0,x=.ref e/\z9 K C/\cp K C f/\
  ((H2 e=some (.ext (lj C e a0))/\∀ d,H2 d=none->d≠e->D.nx σ (upd (upd H2 d (.own e)) e (.ext (dX C e a0 d [(f,y)])))) \/
   ∃d fs,H2 e=some (.ext (dX C e a0 d fs))/\fs.length<1000/\(fs.map (·.1)).contains f=false/\D.nx σ (upd H2 e (.ext (dX C e a0 d (fs++[(f,y)])))))
section
variable{X:Cx}
theorem zj{o value:Kw}{f:Str}{pos pos':Pos}{ta tv:TE}(ha:PE X o ta)(hv:PE X value tv)(hs:swapsWith value (some (.Attribute o f pos')) pos.line X.env=pure false):PS X (.Assign [.Attribute o f pos'] value pos) (DB X.K ta tv f):=by
 intro pins s σ H D I h;refine Lg (bV (hv pins s σ H _ I h) λu s1 h1=>?_) hs;obtain⟨y,H1,I1,ry,q⟩:=h1;refine bV (ha pins s1 σ H1 _ I1 q) λov s2 h2=>?_;obtain⟨x,H2,I2,rx,e,C,a0,ex,Z,n,q⟩:=h2;subst ex;obtain rfl:ov=Value.ref e:=rx;rcases q with⟨ea,q⟩|⟨d,fs,ea,l,nc,q⟩
 ·exact nW I2 ea Z n ry λd s3 hd ne I3=>⟨σ,_,I3,q d hd ne⟩
 ·exact mL I2 ea Z n l nc ry λs3 I3=>⟨σ,_,I3,q⟩
noncomputable def zI(X:Cx)(body:cD)(fs:ap)(i:Nat):Prop:=
 ∃t,og X body t/\∀(D:Ends)(σ:St)(H:Hp)(e C a0:Kv)(as:aB),σ[0]?=some (some (.ref e))->(∀j v,as[j]?=some v->σ[i+j]?=some (some v))->as.length=fs.length->z9 X.K C->(∀f∈fs,cp X.K C f)->
  (fs.length<1000->fs.Nodup->H e=some (.ext (lj C e a0))->(∀d,H d=none->d≠e->D.nx σ (upd (upd H d (.own e)) e (.ext (dX C e a0 d (fs.zip as)))))->t D σ H)/\
  ∀d done,done.length+fs.length<1000->(done.map (·.1)++fs).Nodup->H e=some (.ext (dX C e a0 d done))->D.nx σ (upd H e (.ext (dX C e a0 d (done++fs.zip as))))->t D σ H
theorem Cj{done:List (Str×V)}{f:Str}{fs:ap}(nd:(done.map (·.1)++f::fs).Nodup):(done.map (·.1)).contains f=false:=by
 rw[IK]at nd;cases hc:(done.map (·.1)).contains f with
 |false=>rfl
 |true=>exact absurd rfl (nd.2.2 f (List.contains_iff_mem.mp hc) f G8)
theorem tU{st:Kx}{f:Str}{i:Nat}{o v:Kw}{p1 p2:Pos}(hst:st=.Assign [.Attribute o f p1] v p2)(ho:PE X o (km 0))(hv:PE X v (km i))(hs:swapsWith v (some (.Attribute o f p1)) p2.line X.env=pure false):zI X [st] [f] i:=by
 subst hst;refine⟨_,nR (zj ho hv hs),λD σ H e C a0 as h0 ha hl Z na=>?_⟩;obtain⟨a,rfl⟩:=List.length_eq_one_iff.mp hl;exact⟨λ_ _ hx q=>⟨a,ha 0 a rfl,.ref e,h0,e,C,a0,rfl,Z,na f G8,.inl ⟨hx,q⟩⟩,λd done hz nd hx q=>⟨a,ha 0 a rfl,.ref e,h0,e,C,a0,rfl,Z,na f G8,.inr ⟨d,done,hx,by simp at hz;omega,Cj nd,q⟩⟩⟩
end
noncomputable def F9(C:Kv)(fs:ap):Sp:=λvs H Q _=>∃e a0 as,vs=.ref e::as/\as.length=fs.length/\H e=some (.ext (lj C e a0))/\∀d,H d=none->d≠e->Q .non (upd (upd H d (.own e)) e (.ext (dX C e a0 d (fs.zip as))))
structure DG(K:Jv)(C f:Kv):Prop where
 cls:∃nm q N bs bm hdct sn sub ab col dd k0 k1 k2 k3 k5,∀h,K.In h->h.get? C=some (excClassObj nm q C N bs bm hdct sn sub ab col dd k0 k1 k2 k3 k5 "ValueError.__new__")/\(∃mN,h.Ns N mN/\mN "__init__"=some (.ref f))/\OwnTail h BL bm
 fn:JH K (.ref f)=some (.type "function")
 st:z9 K C
 kp:JK K (.ref C)=true
noncomputable def qy(K:Jv)(C:Kv)(f:Kv):Bool:=match K.lookup C with
 |some ⟨.type "type",_,.cls k,slots⟩=>(match k.mro,slots.toList with
  |.ref c0::tl,[_,_,_,_,some (.builtin j),_]=>c0==C&&(j=="ValueError.__new__"&&(!k.hasDel&&(PySem.W.tailIn K BL tl&&(PySem.W.nsOkIn K k.ns&&JQ K k.ns "__init__"==some (some (.ref f))))))
  |_,_=>false)
 |_=>false
theorem Cz{K:Jv}{h:KC}{N:Kv}{m:bC}{n:Str}{v:Kt}(X:K.In h)(G:h.Ns N m)(e:JQ K N n=some (some v)):m n=some v:=by
 obtain⟨o,es,ep,g1,g2,_,g3⟩:=G;unfold JQ at e;split at e
 ·rename_i look;have z:=X _ _ look;rw[g1]at z;cases z;cases g2;rw[<-g3];unfold nsFind findBy;rw[<-Array.find?_toList];split at e
  ·rename_i y;rw[y];cases e;rfl
  ·split at e<;>cases e
 ·cases e
theorem AA{K:Jv}{C f:Kv}(q:qy K C f=true)(fn:JH K (.ref f)=some (.type "function"))(st:z9 K C)(kp:JK K (.ref C)=true):DG K C f:=by
 refine⟨?_,fn,st,kp⟩;unfold qy at q;split at q
 ·rename_i od data slots look;split at q
  ·rename_i C0 tl s0 s1 s2 s3 nid s5 e1 e2;simp only[HI,beq_iff_eq,IV]at q;obtain⟨y1,y2,y3,y4,y5,y6⟩:=q;subst y1 y2;obtain⟨d1,d2,d3,d4,d5,d6,d7,d8,d9,d10,d11⟩:=data;dsimp only at e1 y3 y5 y6;subst e1 y3;have hs:slots=#[s0,s1,s2,s3,some (.builtin "ValueError.__new__"),s5]:=by
    cases slots with
    |mk l=>rw[show l=_ from e2]
   subst hs;exact⟨d1,d5,d4,d2,tl,d6,d7,d8,d9,d10,od,s0,s1,s2,s3,s5,λh X=>⟨X _ _ look,⟨_,.of_isNs (JV X y5),Cz X (.of_isNs (JV X y5)) y6⟩,JW X y4⟩⟩
  ·cases q
 ·cases q
noncomputable def kc(P:KA)(w:Kz)(K:Jv)(mg:bC)(base:KC)(k:Nat)(c:Str)(ps fs:ap):Prop:=
 ∃C f fd,clsAt K c C/\DG K C f/\dJ P w K mg base (iD P w) k f fd ps (F9 C fs)/\Binds K fd ps []/\mg c=some (.ref C)
theorem pL{P:KA}{w:Kz}{K:Jv}{mg:bC}{base:KC}{k:Nat}{ps:ap}{c qual:Str}{C f:Kv}{fd:Ln}{st:Kx}{fs:ap}(h1:clsAt K c C)(hM:DG K C f)(na:∀g∈fs,cp K C g)(F:pq K "__init__" qual st f fd)(b:Binds K fd ps [])(hmg:mg c=some (.ref C))(SC:cu ps ps (aD st))(hps:ps.length=fs.length+1)(hnd:fs.Nodup)(hlen:fs.length<1000)
  (hb:∀(cdv:Kt)(A:KJ)(outer:List Env)(s:Ky)(H:Hp)(E:XK),zI (fG CC P w K mg base ps qual (aD st) f cdv A outer s H E).nox (cA st) fs 1):kc P w K mg base (k+1) c ps fs:=by
 refine⟨C,f,fd,h1,hM,?_,b,hmg⟩;refine dJ.any (F.ok SC (λvs H Q E h=>?_) λcdv A outer s H vs Q E hr h=>?_)
 ·obtain⟨e,a0,as,rfl,hl,_⟩:=h;rw[Ho,hl,hps]
 ·obtain⟨t,ht,hq⟩:=hb cdv A outer s H E;obtain⟨e,a0,as,rfl,hl,hx,q⟩:=h;have hst:L2.start ps (.ref e::as)=(.ref e::as).map some:=by
   unfold L2.start;rw[Ho,hl,hps,IL,IM,Hu]
  refine⟨t,ht,(hq _ _ H e C a0 as (by rw[hst];rfl) (λj v z=>?_) hl hM.st na).1 hlen hnd hx q⟩;rw[hst,IP,Hq,Iz,HB,z];rfl
theorem qz{M:KN}{A:KJ}{E:bj}{env:Env}{nm q:Str}{C N:Kv}{bs bm:aL}{hdct:Bool}{sn:ap}{sub:aL}{ab:Bool}{col:Option Bool}{dd:Option Kv}{k0 k1 k2 k3 k5:Option Kt}{newId:String}{s:Ky}{x:Sem Kt}{Q:Flow->fF}(hb:bm.contains (.type "BaseException")=true)(hh:A.handled=none)
  (h:KO M A x (λv s₁=>∃e t dx sl,v=.ref e/\s₁.heap.get? C=some (excClassObj nm q C N bs bm hdct sn sub ab col dd k0 k1 k2 k3 k5 newId)/\s₁.heap.get? e=some ⟨.ref C,dx,Ed t,sl⟩/\E (.ref e) s₁) E s):KO M A (raiseStmt env (some x) none) Q E s:=by
 have hc:(Value.ref C::bm).contains (.type "BaseException")=true:=by rw[II,hb,IU]
 unfold raiseStmt;refine KZ (KQ h (λv s₁ h₁=>?_) λ_ _ x=>x);obtain⟨e,t,dx,sl,rfl,hC,he,hE⟩:=h₁;obtain⟨hp,g,d,tk,os⟩:=s₁
 repeat (first|with_reducible refine Mg he ?_|with_reducible refine Mg hC ?_|(with_reducible refine wpAny_isSubtype_exc hC ?_;rw[hc])|wp_step)
 exact wpAny_raiseNew_none hh hE
section
variable{X:Cx}{pins:aR}{σ:St}{H:Hp}{s:Ky}
theorem adopt{e:Kv}{ob:HO}(I:Inv X pins σ H s)(hn:H e=none)(h0:X.s₀.heap.get? e=none)(hL:e≠X.env.locals)(hcl:∀x,X.env.cells.lookup x≠some e)(hp:∀p∈X.pn++pins,p.1≠e)(new:ce X.prog X.w (upd H e ob) s.heap e ob):Inv X pins σ (upd H e ob) s:=by
 have ne:∀b u,H b=some u->b≠e:=λb u q z=>by rw[z,hn]at q;cases q
 have U:=I.base;refine⟨I.ok,I.os,I.bare,⟨U.keep,U.slot,λb o q n nx=>?_,U.there,λb xs q=>?_,λb o u q=>?_,λb ps q=>?_⟩,I.loc,I.cell,?_,λx c q=>?_,λp q=>?_,λa o q=>?_,I.len⟩
 ·rw[av λz=>by rw[z,h0]at q;cases q];exact U.free b o q n nx
 ·have:=U.tups b xs q;rw[av (ne _ _ this)];exact this
 ·have:=U.frzs b o u q;rw[av (ne _ _ this)];exact this
 ·obtain⟨more,z⟩:=U.tbls b ps q;exact⟨more,by rw[av (ne _ _ z)];exact z⟩
 ·rw[av hL.symm];exact I.free
 ·rw[av λz=>hcl x (by rw[<-z];exact q)];exact I.freeC x c q
 ·obtain⟨a1,a2,a3⟩:=I.pin p q;exact⟨a1,by rw[av (hp p q)];exact a2,a3⟩
 ·by_cases z:a=e
  ·subst z;rw[aA]at q;cases q;exact new
  ·rw[av z]at q;exact(I.hok a o q).stay (λb u _ q=>q) (λb q=>by rw[av (ne _ _ q)];exact q) λb xs q=>by rw[av (ne _ _ q)];exact q
theorem lY{e:Kv}(I:Inv X pins σ H s)(hx:X.ex=[])(n:s.heap.get? e=none):H e=none/\X.s₀.heap.get? e=none/\e≠X.env.locals/\(∀x,X.env.cells.lookup x≠some e)/\∀p∈X.pn++pins,p.1≠e:=by
 refine⟨?_,?_,λz=>?_,λx q=>?_,λp hp z=>?_⟩
 ·cases q:H e with
  |none=>rfl
  |some ob=>obtain⟨o,z⟩:=pU (I.hok e ob q);rw[n]at z;cases z
 ·cases q:X.s₀.heap.get? e with
  |none=>rfl
  |some o=>obtain⟨o',z⟩:=I.base.there e o q (by rw[hx];simp);rw[n]at z;cases z
 ·obtain⟨m,⟨o,es,ep,e2,_⟩,_⟩:=I.loc;rw[<-z,n]at e2;cases e2
 ·obtain⟨v,o,z,_⟩:=I.cell x e q;rw[n]at z;cases z
 ·have:=(I.pin p hp).1
  rw[z,n]at this;cases this
theorem yq{s3:Ky}{C e a0 d:Kv}{fs:List (Str×V)}(I:Inv X pins σ H s)(hx:X.ex=[])(n:s.heap.get? e=none)(hd:H d=none)(I3:Inv X pins σ (upd (upd H d (.own e)) e (.ext (dX C e a0 d fs))) s3):
  Inv X pins σ (upd H d (.xd fs)) s3/\om X (upd H d (.xd fs)) s3 e C (some d)/\∃sl,s3.heap.get? e=some ⟨.ref C,some d,Ed a0,sl⟩:=by
 obtain⟨hn,h0,hL,hcl,hp⟩:=lY I hx n;obtain⟨⟨o,mA,q1,q2,q3,q4,q5,q6,q7,q8⟩,_,_⟩:=(show ce X.prog X.w _ s3.heap e (.ext (dX C e a0 d fs))from I3.hok e _ aA)
 have He:upd H d (.xd fs) e=none:=by rw[av q6.symm];exact hn
 have d3:upd (upd H d (.own e)) e (.ext (dX C e a0 d fs)) d=some (.own e):=by rw[av q6,aA]
 have away:∀b,b≠e->b≠d->upd H d (.xd fs) b=upd (upd H d (.own e)) e (.ext (dX C e a0 d fs)) b:=λb n1 n2=>by rw[av n2,av n1,av n2]
 have none3:∀b,upd (upd H d (.own e)) e (.ext (dX C e a0 d fs)) b=none->b≠e/\b≠d:=λb z=>⟨λw=>(by rw[w,aA]at z;cases z),λw=>(by rw[w,d3]at z;cases z)⟩
 have some3:∀b u,upd (upd H d (.own e)) e (.ext (dX C e a0 d fs)) b=some u->(∀φ,u≠.ext φ)->(∀y,u≠.own y)->upd H d (.xd fs) b=some u:=λb u z n1 n2=>by
  rw[away b (λw=>by rw[w,aA]at z;cases z;exact n1 _ rfl) λw=>by rw[w,d3]at z;cases z;exact n2 _ rfl];exact z
 have U:=I3.base;have I4:Inv X pins σ (upd H d (.xd fs)) s3:=by
  refine⟨I3.ok,I3.os,I3.bare,⟨U.keep,U.slot,λb o q n nx=>?_,U.there,λb xs q=>?_,λb o u q=>?_,λb ps q=>?_⟩,I3.loc,I3.cell,?_,λx c q=>?_,λp q=>?_,λa o q=>?_,I3.len⟩
  ·have z:=U.free b o q n nx;obtain⟨n1,n2⟩:=none3 b z;rw[away b n1 n2];exact z
  ·exact some3 _ _ (U.tups b xs q) (λ_ z=>nomatch z) λ_ z=>nomatch z
  ·exact some3 _ _ (U.frzs b o u q) (λ_ z=>nomatch z) λ_ z=>nomatch z
  ·obtain⟨more,z⟩:=U.tbls b ps q;exact⟨more,some3 _ _ z (λ_ z=>nomatch z) λ_ z=>nomatch z⟩
  ·obtain⟨n1,n2⟩:=none3 _ I3.free;rw[away _ n1 n2];exact I3.free
  ·obtain⟨n1,n2⟩:=none3 _ (I3.freeC x c q);rw[away _ n1 n2];exact I3.freeC x c q
  ·obtain⟨a1,a2,a3⟩:=I3.pin p q;obtain⟨n1,n2⟩:=none3 _ a2;exact⟨a1,by rw[away _ n1 n2];exact a2,a3⟩
  ·by_cases z:a=d
   ·subst z;rw[aA]at q;cases q;exact⟨mA,q7,q8⟩
   ·have ae:a≠e:=λw=>by rw[w,He]at q;cases q
    rw[away a ae z]at q;refine(I3.hok a o q).stay (λb u _ q=>q) (λb w=>?_) λb xs w=>some3 _ _ w (λ_ z=>nomatch z) λ_ z=>nomatch z;rw[away b (λy=>by rw[y,aA]at w;cases w) λy=>by rw[y,d3]at w;cases w;exact ae rfl];exact w
 obtain⟨oc,odi,oda,osl⟩:=o;dsimp only at q2 q3 q4;subst q2 q3 q4;have nk:¬fj X (upd H d (.xd fs)) e:=λz=>by
  rcases z with⟨⟨o,z⟩,_⟩|z|⟨o,z⟩|⟨x,z⟩
  ·rw[h0]at z;cases z
  ·exact z He
  ·exact hp _ (Ha _ z) rfl
  ·exact hcl x z
 refine⟨I4,⟨λoe z=>by rw[q1]at z;cases z;rfl,gL s3.heap (λb=>if b∈frs X.stack\/b=e then some (.tup [])else none),.ref a0,λb o z=>(hX z).1,?_,fe (λ_ _ z=>z) (λb hb=>?_) I4.stack,.inr ⟨_,_,q1,rfl,rfl,rfl,rfl⟩,λb o z kb nf=>kE z (if_neg ?_)⟩,osl,q1⟩
 ·cases z:(gL s3.heap (λb=>if b∈frs X.stack\/b=e then some (.tup [])else none)).get? e with
  |none=>rfl
  |some o=>have:=(hX z).2;rw[if_pos (.inr rfl)]at this;cases this
 ·cases z:(gL s3.heap (λb=>if b∈frs X.stack\/b=e then some (.tup [])else none)).get? b with
  |none=>rfl
  |some o=>have:=(hX z).2;rw[if_pos (.inl hb)]at this;cases this
 ·rintro(w|w)
  ·exact nf w
  ·exact nk (w ▸ kb)
end
noncomputable def i9(c:Str)(fs:ap)(f:aN):bJ:=λk ρ=>jF (f ρ) k ρ λds=>if small ds.length&&ds.length==fs.length then k.ex ⟨c,fs,ds⟩ ρ else un
end TG
namespace TG
open PySem PySem.Spec L2
variable[ax]
noncomputable def tJ(K:Jv)(f:Str)(cs:ap):Prop:=∀c∈cs,∀C,clsAt K c C->gM K C/\cp K C f/\Jy K C=true
theorem vP{K:Jv}{f:Str}:tJ K f []:=λ_ h=>nomatch h
theorem sP{K:Jv}{f c:Str}{C:Kv}{cs:ap}(ac:clsAt K c C)(F:gM K C)(n:cp K C f)(hd:Jy K C=true)(r:tJ K f cs):tJ K f (c::cs):=λc' h C' hC=>by
 rcases List.mem_cons.mp h with z|z
 ·subst z;cases cM hC ac;exact⟨F,n,hd⟩
 ·exact r c' z C' hC
noncomputable def lG(f:Str)(cs:ap)(d:D):aZ:=match d with
 |.exc c fs vs=>if cs.contains c then(fs.zip vs).lookup f else none
 |_=>none
section
variable{X:Cx}{pos:Pos}{a:Kw}{fa:FX}{f:Str}{cs:ap}
noncomputable def Dn(K:Jv)(ta:TE)(f:Str):TE:=λσ H Q=>ta σ H λx H1=>∃e C d fs v,x=.ref e/\H1 e=some (.ext (jq C e (some d)))/\H1 d=some (.xd fs)/\gM K C/\cp K C f/\Jy K C=true/\fs.lookup f=some v/\Q v H1
theorem xJ{e:Kw}{ta:TE}(he:PE X e ta)(hb:Lf e f X.env (eval e X.env)=eval e X.env):PE X (.Attribute e f pos) (Dn X.K ta f):=by
 intro pins s σ H Q I h;refine rK hb (bV (he pins s σ H _ I h) λu s1 h1=>?_);obtain⟨x,H1,I1,rx,e,C,d,fs,v,ex,ea,ed,F,n,hd,l,q⟩:=h1;subst ex;obtain rfl:u=Value.ref e:=rx;obtain⟨⟨o,q1,q2,q3,q4⟩,_,_⟩:=(show ce X.prog X.w H1 s1.heap e (.ext (jq C e (some d)))from I1.hok e _ ea)
 obtain⟨mA,n1,n2⟩:=(show ce X.prog X.w H1 s1.heap d (.xd fs)from I1.hok d _ ed)
 obtain⟨od,ho,hl⟩:=mE n1;obtain⟨u,hu,ru⟩:=pz.some_of (v:=v) (o:=mA f) (by rw[<-l];exact n2 f);refine vk F I1.kIn (od:=some od) ⟨q1,q2,q4,by rw[q3];exact ho⟩ (JC hd n rfl (by rw[hl,hu])) (mh ru) ⟨v,H1,I1.tok _,ru,q⟩
end
end TG
namespace TX
open PySem PySem.Spec L2 TG
variable[ax]
structure XE(X:Cx)(e:Kw)(F:FX):Prop where h:FE X e F
structure XT(X:Cx)(e:Kw)(F:bu):Prop where h:FT X e F
structure XW(X:Cx)(e:Kw)(F:bu):Prop where h:FW X e F
structure XA(X:Cx)(e:aU)(F:aN):Prop where h:FA X e F
structure XS(X:Cx)(e:Kx)(F:bJ):Prop where h:FS X e F
structure mR(X:Cx)(e:cD)(F:bJ):Prop where h:D6 X e F
structure XI(X:Cx)(t e:Kw)(F:aN):Prop where h:FI X t e F
structure XG(X:Cx)(e:Kw)(F:GF):Prop where h:FG X e F
structure BZ(X:Cx)(e:aU)(F:xt):Prop where h:GY X e F
structure XO(X:Cx)(e:Option Kw)(F:aw->R bY):Prop where h:FO X e F
structure XN(X:Cx)(e:Kw)(F:FX):Prop where h:FN X e F
structure Dt(X:Cx)(e:aU)(F:bu):Prop where h:Ge X e F
structure XV(X:Cx)(e:Kw)(i:Nat):Prop where h:PE X e (km i)
structure XB(X:Cx)(scope:KL)(N:ap)(tg elt:Kw)(ifs:aU)(g:GF)(C:bu)(Fe:FX)(cl:jr)(C':Kv)(fp:ay)(s:Ky)(H:Hp)(E:bj):Prop where
 a:XG (bz X scope N cl C' fp s H E) tg g
 b:Dt (bz X scope N cl C' fp s H E) ifs C
 c:XE (bz X scope N cl C' fp s H E) elt Fe
structure li(X:Cx)(scope:KL)(N:ap)(tg elt:Kw)(ifs:aU)(g:GF)(C:bu)(Fe:FX):Prop where
 q:∀cl C' fp s H E,XB X scope N tg elt ifs g C Fe cl C' fp s H E
theorem li.h{X:Cx}{scope:KL}{N:ap}{tg elt:Kw}{ifs:aU}{g:GF}{C:bu}{Fe:FX}(x:li X scope N tg elt ifs g C Fe):Gg X scope N tg elt ifs g C Fe:=λcl C' fp s H E=>⟨(x.q cl C' fp s H E).a.h,(x.q cl C' fp s H E).b.h,(x.q cl C' fp s H E).c.h⟩
theorem xv{X:Cx}(i:Nat){x:Str}{pos:Pos}(hN:X.N[i]?=some x:=by rfl)(hv:Bp X.env.scope x:=by first|exact Or.inl rfl|exact Or.inr (Or.inl rfl)|exact Or.inr (Or.inr rfl))(hd:(x==("__debug__":Str))=false:=by decide)
  (hcd:(x==("__classdict__":Str))=false:=by decide):XV X (.Name x pos) i:=⟨pv i hN hv hd hcd⟩
theorem Gh{X:Cx}{e:Kw}{f:bu}(h:XW X e f):XT X e f:=⟨FW.ft h.h⟩
theorem wJ{X:Cx}{i:Nat}{x:Str}{idx value:Kw}{fi fv:FX}{npos tpos pos:Pos}(hx:XV X (.Name x npos) i)(hi:XE X idx fi)(hv:XE X value fv)
  (hs:swapsWithSole [.Subscript (.Name x npos) idx tpos] value pos.line X.env=pure false:=by rfl) (hw:swappedStores [.Subscript (.Name x npos) idx tpos] value X.env=pure none:=by rfl)
  (h1:(assignEach [.Subscript (.Name x npos) idx tpos] X.env).map (·.2)=[assign (.Subscript (.Name x npos) idx tpos) X.env]:=by rfl)
  (ha:∀ v,assign (.Subscript (.Name x npos) idx tpos) X.env v=(do
   let ov<-holding [v] (eval (.Name x npos) X.env)
   let iv<-holding [v,ov] (eval idx X.env)
   standAt tpos
   holding [v,ov,iv] (setItem ov iv v)
   release [v,ov,iv] []):=by intro _;rfl):XS X (.Assign [.Subscript (.Name x npos) idx tpos] value pos) (ic i fi fv):=⟨x3 hx.h hi.h hv.h hs hw h1 (An hx.h hi.h set_list ha)⟩
section
variable[ax]{X:Cx}
theorem xS{i:Nat}{x:Str}{pos:Pos}(h:XV X (.Name x pos) i):XE X (.Name x pos) (af i):=⟨PE.weak h.h λσ H Q ⟨O,ρ,E,hF⟩=>by
  obtain⟨d,e,q⟩:=tO hF;obtain⟨v,e,dv⟩:=E.val i d e;exact⟨v,e,q v H (aQ.refl H) dv⟩⟩
theorem yZ{i j pos}:XE X (.Constant (.int i) j pos) (fC (.int i)):=⟨fS Bs λ_ _=>dD.mpr rfl⟩
theorem B8{b j pos}:XE X (.Constant (.bool b) j pos) (fC (.bl b)):=⟨fS Cr λ_ _=>eT.mpr rfl⟩
theorem xW{j pos}:XE X (.Constant .none j pos) (fC .non):=⟨fS Bg λ_ _=>fm.mpr rfl⟩
theorem xC{x j pos}:XE X (.Constant (.str x) j pos) (fC (.str x)):=⟨fS Aw λ_ _=>dh.mpr rfl⟩
theorem qT:XA X [] ah:=⟨TG.Eg ⟩
theorem kx{e:Kw}{es:aU}{f:FX}{g:aN}(he:XE X e f)(hs:XA X es g)(hns:noStar e=true:=by rfl):XA X (e::es) (aa f g):=⟨TG.DX he.h hs.h hns⟩
theorem zh{es:aU}{g:aN}{k pos}(h:XA X es g):XE X (.Tuple es k pos) (a9 g):=⟨PE.weak (vU h.h) λσ H Q ⟨O,ρ,E,hF⟩=>⟨O,ρ,E,(dE.bind hF).imp λxs hF vs H1 s1 d1=>by
  obtain⟨d,e,q⟩:=dE.rO hF;obtain⟨hz,e⟩:=a8 e;subst e;refine⟨by rw[<-d1.length];exact bU hz,λp hp=>?_⟩;exact q _ _ (s1.trans (bB hp _)) (cN (E.all.same s1) hp d1)⟩⟩
theorem yG{es:aU}{g:aN}{pos}(h:XA X es g):XE X (.List es pos) (eI g):=⟨PE.weak (wa h.h) λσ H Q ⟨O,ρ,E,hF⟩=>⟨O,ρ,E,(dE.bind hF).imp λxs hF vs H1 s1 d1=>by
  obtain⟨d,e,q⟩:=dE.rO hF;obtain⟨hz,e⟩:=a8 e;subst e;refine⟨by rw[<-d1.length];exact bU hz,λp hp=>?_⟩;exact q _ _ (s1.trans (bB hp _)) (dm (E.all.same s1) hp d1)⟩⟩
theorem gv{a b:Kw}{op:Operator}{r:R2}{g:D->D->aZ}{fa fb:FX}{pos:Pos}(ho:eU X (K8 op) r)(s:ca X.K r g)(ha:XE X a fa)(hb:XE X b fb):XE X (.BinOp a op b pos) (f2 g fa fb):=⟨PE.weak (Dz ho ha.h hb.h) (nF s)⟩
theorem dU{a b:Kw}{op:KR}{r:R2}{g:D->D->aZ}{fa fb:FX}{pos:Pos}(ho:eU X (KS op) r)(s:ca X.K r g)(ha:XE X a fa)(hb:XE X b fb)(hm:KU op b=false):XE X (.Compare a [op] [b] pos) (f2 g fa fb):=⟨PE.weak (yL ho ha.h hb.h hm) (nF s)⟩
theorem dW{a b:Kw}{op:KR}{r:R2}{g:D->D->aZ}{fa fb:FX}{pos:Pos}(ho:eU X (KS op) r)(s:ca X.K r g)(ha:XE X a fa)(hb:XE X b fb)(hm:KU op b=false):XT X (.Compare a [op] [b] pos) (fB (f2 g fa fb)):=⟨PT.weak (yn ho ha.h hb.h hm) (kR (nF s))⟩
end
section
variable[ax]{X:Cx}{a b c:Kw}{rest:aU}{pos:Pos}{f g:bu}
theorem y9(h:XT X a f):XT X (.UnaryOp .Not a pos) (kj f):=⟨PT.weak (Aq h.h) λσ H Q ⟨O,ρ,E,hF⟩=>⟨O,ρ,E,(dE.bind hF).imp λb q H1 s1=>q H1 s1⟩⟩
theorem wC(h:XT X a f):XW X (.BoolOp .And [a] pos) f:=⟨yO h.h⟩
theorem zo(h:XT X a f):XW X (.BoolOp .Or [a] pos) f:=⟨Bw h.h⟩
theorem yo(ha:XT X a f)(hb:XW X (.BoolOp .And (b::rest) pos) g):XW X (.BoolOp .And (a::b::rest) pos) (oM f g):=⟨PW.weak (Au ha.h hb.h) λσ H Q ⟨O,ρ,E,hF⟩=>⟨O,ρ,E,(dE.bind hF).imp λc hF H1 s1=>by
 cases c with
 |true=>exact oN ⟨O,ρ,E.same s1,(hF.mono s1).imp λb q H2 s2=>q H2 (s1.trans s2)⟩
 |false=>exact o5 (hF H1 s1)⟩⟩
theorem AF(ha:XT X a f)(hb:XW X (.BoolOp .Or (b::rest) pos) g):XW X (.BoolOp .Or (a::b::rest) pos) (uF f g):=⟨PW.weak (CZ ha.h hb.h) λσ H Q ⟨O,ρ,E,hF⟩=>⟨O,ρ,E,(dE.bind hF).imp λc hF H1 s1=>by
 cases c with
 |false=>exact o5 ⟨O,ρ,E.same s1,(hF.mono s1).imp λb q H2 s2=>q H2 (s1.trans s2)⟩
 |true=>exact oN (hF H1 s1)⟩⟩
end
section
variable[ax]{X:Cx}{a b c:Kw}{rest:aU}{pos:Pos}{f g:bu}{fa fb:FX}
theorem zA{op}(h:XE X a fa):XE X (.BoolOp op [a] pos) fa:=⟨BH h.h⟩
theorem yD(ha:XE X a fa)(hb:XE X (.BoolOp .And (b::rest) pos) fb):XE X (.BoolOp .And (a::b::rest) pos) (iO fa fb):=⟨PE.weak (B6 ha.h hb.h) λσ H Q ⟨O,ρ,E,hF⟩=>⟨O,ρ,E,(dE.bind hF).imp λd hF x H1 s1 d1=>by
 cases d with
 |bl c=>
  refine⟨c,eT.mp d1,?_⟩;cases c with
  |true=>exact oN ⟨O,ρ,E.same s1,(hF.mono s1).imp λd q v H2 s2 d2=>q v H2 (s1.trans s2) d2⟩
  |false=>exact o5 (hF _ H1 s1 (eT.mpr rfl))
 |_=>exact hF.elim⟩⟩
theorem B9(ha:XE X a fa)(hb:XE X (.BoolOp .Or (b::rest) pos) fb):XE X (.BoolOp .Or (a::b::rest) pos) (qH fa fb):=⟨PE.weak (C6 ha.h hb.h) λσ H Q ⟨O,ρ,E,hF⟩=>⟨O,ρ,E,(dE.bind hF).imp λd hF x H1 s1 d1=>by
 cases d with
 |bl c=>
  refine⟨c,eT.mp d1,?_⟩;cases c with
  |false=>exact o5 ⟨O,ρ,E.same s1,(hF.mono s1).imp λd q v H2 s2 d2=>q v H2 (s1.trans s2) d2⟩
  |true=>exact oN (hF _ H1 s1 (eT.mpr rfl))
 |_=>exact hF.elim⟩⟩
theorem xL(ha:XE X a fa):XE X (.UnaryOp .Not a pos) (pA fa):=⟨PE.weak (Bm ha.h) λσ H Q ⟨O,ρ,E,hF⟩=>⟨O,ρ,E,(dE.bind hF).imp λd hF x H1 s1 d1=>by
 obtain⟨d',e,q⟩:=dE.rO hF;cases d with
 |bl c=>
  cases e;exact⟨c,eT.mp d1,q _ H1 s1 (eT.mpr rfl)⟩
 |_=>cases e⟩⟩
theorem Bt(hc:XT X c f)(ha:XE X a fa)(hb:XE X b fb):XE X (.IfExp c a b pos) (Ea f fa fb):=⟨PE.weak (vJ hc.h ha.h hb.h) λσ H Q ⟨O,ρ,E,hF⟩=>⟨O,ρ,E,(dE.bind hF).imp λd hF H1 s1=>by
 cases d with
 |true=>exact oN ⟨O,ρ,E.same s1,(hF.mono s1).imp λd q v H2 s2 d2=>q v H2 (s1.trans s2) d2⟩
 |false=>exact o5 ⟨O,ρ,E.same s1,(hF.mono s1).imp λd q v H2 s2 d2=>q v H2 (s1.trans s2) d2⟩⟩⟩
end
section
variable[ax]{X:Cx}
theorem A6{a b:Kw}{fa fb:FX}{pos:Pos}(ha:XE X a fa)(hb:XE X b fb)(hs:nI b):XE X (.Subscript a b pos) (f2 ak fa fb):=⟨PE.weak (CQ F8 ha.h hb.h hs) (nF bQ)⟩
theorem u5:XO X none aP:=⟨λpins s σ H Q I ⟨O,ρ,E,q⟩=>yR pins s σ H Q I (q H (aQ.refl H))⟩
theorem vW{e:Kw}{f:FX}(h:XE X e f):XO X (some e) (aV f):=⟨λpins s σ H Q I ⟨O,ρ,E,hF⟩=>
 xB h.h pins s σ H Q I ⟨O,ρ,E,(dE.bind hF).imp λd hF v H1 s1 d1=>by
  obtain⟨o,e,q⟩:=dE.rO hF;cases d with
  |int i=>
   cases e;exact⟨i,dD.mp d1,q H1 s1⟩
  |_=>cases e⟩⟩
theorem ub{e:Kw}{f:FX}{l h:aw->R bY}{lo hi:Option Kw}{p2 pos:Pos}(he:XE X e f)(hl:XO X lo l)(hh:XO X hi h):XE X (.Subscript e (.Slice lo hi none p2) pos) (aT f l h):=⟨PE.weak (vG Eu he.h hl.h hh.h) λσ H Q ⟨O,ρ,E,hF⟩=>⟨O,ρ,E,(dE.bind hF).imp λa hF x H1 s1 d1=>⟨O,ρ,E.same s1,((dE.bind hF).mono s1).imp λlo' hF H2 s2=>⟨O,ρ,E.same (s1.trans s2),((dE.bind hF).mono (s1.trans s2)).imp λhi' hF H3 s3=>by
  obtain⟨d,e,q⟩:=dE.rO hF;exact⟨O,a,d,E.all.same ((s1.trans s2).trans s3),d1.mono (bq (s2.trans s3)),e,λv H4 s4 d4=>q v H4 (((s1.trans s2).trans s3).trans s4) d4⟩⟩⟩⟩⟩
end
section
variable[ax]{X:Cx}{x:Str}{p pos:Pos}{e:Kw}{es:aU}{id T:String}{g:List D->aZ}{f:aN}
theorem jt(hc:cX X (.builtin id) (yW X.K g))(hg:Gl X x)(hm:X.mg x=none)(hv:KI x=some (.builtin id))(ha:XA X (e::es) f)(hn:x≠"__name__":=by decide)(hdb:(x==("__debug__":Str))=false:=by decide)(hns:(e::es).all noStar=true:=by rfl):XE X (.Call (.Name x p) (e::es) [] pos) (fL g f):=⟨PE.weak (fU hc hg hm hv ha.h hn hdb (bg (HI _ _ ▸ hns).1) (bZ (HI _ _ ▸ hns).2)) (wO kn)⟩
theorem gY(hc:cX X (.type T) (yW X.K g))(hg:Gl X x)(hm:X.mg x=none)(hv:KI x=some (.type T))(ha:XA X (e::es) f)(hn:x≠"__name__":=by decide)(hdb:(x==("__debug__":Str))=false:=by decide)(hns:(e::es).all noStar=true:=by rfl):XE X (.Call (.Name x p) (e::es) [] pos) (fL g f):=⟨PE.weak (lA hc hg hm hv ha.h hn hdb (bg (HI _ _ ▸ hns).1) (bZ (HI _ _ ▸ hns).2)) (wO kn)⟩
theorem j9{f:FX}{xT:Str}{p2:Pos}(ok:pI X.K T)(hg:Gl X "isinstance")(hm:X.mg "isinstance"=none)(hgT:Gl X xT)(hmT:X.mg xT=none)(hvT:KI xT=some (.type T))(he:XE X e f)(hn2:xT≠"__name__":=by decide)(hd2:(xT==("__debug__":Str))=false:=by decide)(hns:noStar e=true:=by rfl):XE X (.Call (.Name "isinstance" p) [e,.Name xT p2] [] pos) (kz T f):=⟨PE.weak (fU (vF ok) hg hm iY (dg he.h (dg (sq (v:=.ty T) hgT hmT hvT rfl hn2 hd2) jk (bg rfl)) (bg hns)) (by decide) (by decide) (bg hns) (bZ rfl)) λσ H Q ⟨O,ρ,E,hF⟩=>⟨O,ρ,E,(dE.bind hF).imp λa hF v H1 s1 d1=>by
  obtain⟨d,e,q⟩:=dE.rO hF;obtain⟨h1,h2⟩:=a8 e;subst h2;exact⟨O,v,a,rfl,h1,d1,q _ H1 s1 (eT.mpr rfl)⟩⟩⟩
end
section
variable[ax]{X:Cx}{a:Kw}{f:FX}{pos:Pos}
theorem xx{j pos'}(h:XE X a f):XE X (.Compare a [.Is] [.Constant .none j pos'] pos) (oY f):=⟨PE.weak (BV (wr h.h)) λσ H Q q=>sF σ H Q q⟩
theorem zG{j pos'}(h:XE X a f):XT X (.Compare a [.Is] [.Constant .none j pos'] pos) (fB (oY f)):=⟨PT.weak (Cb (wr h.h)) λσ H Q q=>kR (t:=λσ H Q=>tF X f σ H λv H'=>Q (.bl (decide (v=.non))) H') sF σ H Q q⟩
theorem sW(h:XE X a f)(he:∀whole,isTrue a X.env whole=(do let v<-whole;standAt a.pos;holding [v] (truthy v)):=by intro _;rfl):XT X a (cC f):=⟨PT.weak (xn h.h he) λσ H Q ⟨O,ρ,E,hF⟩=>⟨O,ρ,E,(dE.bind hF).imp λd hF x H1 s1 d1=>by
 obtain⟨r,hF,q⟩:=dE.rO hF;refine⟨r,?_,q H1 s1⟩;cases d with
 |non=>cases hF;rw[fm.mp d1];rfl
 |bl b=>cases hF;rw[eT.mp d1];rfl
 |int i=>cases hF;rw[dD.mp d1];rfl
 |str y=>
  obtain⟨hz,e⟩:=a8 hF;subst e;rw[dh.mp d1];refine⟨bU hz,?_⟩;show(y.length !=0)=((y.length:Int) !=0)
  cases y.length<;>rfl
 |tup xs=>
  cases hF;obtain⟨p,vs,e,g1,g2⟩:=bp.mp d1;rw[e];refine .inr (.inl ⟨vs,bx (az H1 O) g1,?_⟩);have l:=g2.length;cases xs<;>cases vs<;>first|rfl|(simp at l)
 |lst xs=>
  cases hF;obtain⟨p,vs,e,g1,g2⟩:=bo.mp d1;rw[e];refine .inl ⟨vs,(az H1 O).seq g1,?_⟩;have l:=g2.length;cases xs<;>cases vs<;>first|rfl|(simp at l)
 |_=>cases hF⟩⟩
end
section
variable[ax]{X:Cx}{tg:Kw}
theorem yg{e:Kw}{f:FX}(h:XE X e f):XI X tg e (bP f):=by
 refine⟨?_⟩;rintro pins s σ H R I ⟨O,ρ,E,hG⟩;have hG':=dE.bind hG;cases hf:f ρ with
 |error z=>exact rh h.h pins s σ H R I ⟨O,ρ,E,by rw[hf]at hG' ⊢;cases z with|none=>exact hG'.elim|some x=>exact hG'⟩
 |ok d=>
  rw[hf]at hG';obtain⟨ds,e1,q⟩:=dE.rO (α:=List D) (o:=kH d) hG';cases d with
  |lst xs=>
   cases e1;refine rh h.h pins s σ H R I ⟨O,ρ,E,?_⟩;rw[hf];refine λv H1 s1 d1=>?_;obtain⟨p,vs,ev,g1,g2⟩:=bo.mp d1;exact⟨p,ev,⟨vs,(az H1 O).seq g1⟩,q _ H1 s1 (tP g1 g2)⟩
  |tup xs=>
   cases e1;refine AK h.h pins s σ H R I ⟨O,ρ,E,?_⟩;rw[hf];refine λv H1 s1 d1=>?_;obtain⟨p,vs,ev,g1,g2⟩:=bp.mp d1;exact⟨p,ev,⟨vs,bx (az H1 O) g1⟩,q _ H1 s1 (vy g1 g2)⟩
  |_=>cases e1
theorem qm{a:Kw}{f:aN}{p pos:Pos}(hg:Gl X "range")(hm:X.mg "range"=none)(ha:XA X [a] f)(hs:KP [a] X.env=[(false,eval a X.env)]:=by rfl):XI X tg (.Call (.Name "range" p) [a] [] pos) (bh f):=by
 refine⟨?_⟩;rintro pins s σ H R I ⟨O,ρ,E,hG⟩;refine uy hg hm ha.h hs pins s σ H R I ⟨O,ρ,E,(dE.bind hG).imp λes hG' vs H1 s1 d1=>?_⟩;clear hG;obtain⟨ds,hG,q⟩:=dE.rO hG';clear hG';unfold dB at hG;split at hG
 ·rename_i j;obtain⟨h1,h2⟩:=a8 hG;subst h2;obtain⟨j1,j2⟩:=of_decide_eq_true h1;obtain⟨v,ev,dv⟩:=d1.one;exact⟨j,by rw[ev,dD.mp dv],j1,j2,q _ H1 s1 (qc 0 _)⟩
 ·cases hG
end
section
variable[ax]{X:Cx}{pos:Pos}
theorem w6{i:Nat}{x:Str}(hN:X.N.Nodup)(hi:X.N[i]?=some x)(hx:Loc X.env.scope x)(hf:X.fn x=true\/X.env.scope.names.lookup x=some .local:=by first|exact .inl rfl|exact .inr rfl|assumption):XG X (.Name x pos) (gN i):=by
 refine⟨?_⟩;rintro pins s σ H v u Q I r ⟨O,ρ,d,ρ',E,hd,hg,q⟩;cases hg;have hiσ:i<σ.length:=by rw[I.len];exact(List.getElem?_eq_some_iff.mp hi).1
 refine yC hN hi hx hf pins s σ H v u Q I r (q _ (E.setV hiσ hd) λj x e nv=>?_);rcases aS e with⟨_,eq⟩|⟨ne,eq⟩
 ·cases eq;exact absurd rfl (nv _)
 ·exact⟨Hg (Ne.symm ne),eq⟩
theorem wY:BZ X [] Aa:=by
 refine⟨?_⟩;rintro pins s σ H vs us Q I r ⟨O,ρ,ds,ρ',E,hd,hg,q⟩;cases ds with
 |nil=>
  cases hg;rw[bL]at hd;exact zl pins s σ H vs us Q I r ⟨hd,q _ E λi x e _=>⟨rfl,e⟩⟩
 |cons _ _=>cases hg
theorem uw{e:Kw}{es:aU}{g:GF}{h:xt}(h1:XG X e g)(h2:BZ X es h)(hs:(assignEach (e::es) X.env).map (·.2)=assign e X.env::(assignEach es X.env).map (·.2):=by rfl):BZ X (e::es) (xg g h):=by
 refine⟨?_⟩;rintro pins s σ H vs us Q I r ⟨O,ρ,ds,ρ',E,hd,hg,q⟩;cases ds with
 |nil=>cases hg
 |cons d ds=>
  obtain⟨ρ1,e1,e2⟩:=bind_some hg;rw[aX]at hd;obtain⟨v,vr,ev,d1,d2⟩:=hd;exact uV h1.h h2.h hs pins s σ H vs us Q I r ⟨v,vr,ev,O,ρ,d,ρ1,E,d1,e1,λσ1 E1 k1=>⟨O,ρ1,ds,ρ',E1,d2,e2,λσ2 E2 k2=>q σ2 E2 λi x e nv=>by
   obtain⟨a1,a2⟩:=k2 i x e nv;obtain⟨b1,b2⟩:=k1 i x a2 nv;exact⟨a1.trans b1,b2⟩⟩⟩
theorem zB{es:aU}{k:Nat}{g:xt}{n:Nat}(hc:X.calm=true)(h:BZ X es g)(hn:(assignEach es X.env).length=n:=by rfl)(hst:(assignEach es X.env).findIdx? (·.1)=none:=by rfl):XG X (.Tuple es k pos) (gT n g):=by
 refine⟨?_⟩;rintro pins s σ H v u Q I r ⟨O,ρ,d,ρ',E,hd,hg,q⟩;cases d with
 |tup xs=>
  obtain⟨p,vs,ev,g1,g2⟩:=bp.mp hd;have hg':(if xs.length=n then g xs ρ else none)=some ρ':=hg;by_cases hl:xs.length=n
  ·rw[if_pos hl]at hg';exact Bj hc h.h hn hst pins s σ H v u Q I r ⟨p,vs,ev,bx (az H O) g1,by rw[<-g2.length];exact hl,O,ρ,xs,ρ',E,g2,hg',q⟩
  ·rw[if_neg hl]at hg';cases hg'
 |_=>cases hg
end
section
variable[ax]
theorem v9{X:Cx}:Dt X [] bw:=⟨λpins s σ H Q I ⟨O,ρ,E,q⟩=>xG pins s σ H Q I (q H (aQ.refl H))⟩
theorem vI{X:Cx}{c:Kw}{F:bu}(h:XT X c F):Dt X [c] F:=⟨yN h.h⟩
end
section
variable[ax]{X:Cx}{elt tg iter:Kw}{ifs:aU}{scope:KL}{pos:Pos}{N:ap}{ix:dy}{G:aN}{g:GF}{C:bu}{Fe:FX}
theorem Aj(hc:X.calm=true)(ok:iA X scope N ix)(tk:jE ix g)(hi:XI X tg iter G)(hb:li X scope N tg elt ifs g C Fe)(hs:∀x,K6 iter X.env x=pure x:=by intro _;rfl):XE X (.ListComp elt [⟨tg,iter,ifs,0⟩] scope pos) (dZ ix G g C Fe):=⟨PE.weak (Ae hc ok.cell ok.kind ok.names ok.free ok.ix hi.h hb.h.k hs) (zJ tk)⟩
end
section
variable[ax]{X:Cx}{st:Kx}{rest body:cD}{pos:Pos}
theorem wt:mR X [] aW:=⟨λHb Ob=>og.weak sd λE σ H ⟨O,ρ,k,r,S,hF,hk⟩=>hk.nx O ρ σ H S hF⟩
theorem tI{F1 F2:bJ}(h1:XS X st F1)(h2:mR X rest F2):mR X (st::rest) (au F1 F2):=⟨λHb Ob=>og.weak (o4 (h1.h Hb Ob) (h2.h Hb Ob)) λE σ H ⟨O,ρ,k,r,S,hF,hk⟩=>
 ⟨O,ρ,{k with nx:=F2 k},r,S,hF,hk.ne,λO' ρ' σ' H' S' e=>⟨O',ρ',k,r,S',e,hk⟩,hk.bk,hk.ct,hk.rt,hk.ex⟩⟩
theorem xh{F1:bJ}(h1:XS X st F1):mR X [st] F1:=⟨λHb Ob=>nR (h1.h Hb Ob)⟩
theorem za{e:Kw}{f:FX}(h:XE X e f):XS X (.Return (some e) pos) (aY f):=⟨λHb Ob=>PS.weak (AH h.h) λE σ H ⟨O,ρ,k,r,S,hF,hk⟩=>
 ⟨O,ρ,S.env,dE.on hF hk S λd e v H' s' d'=>hk.rt d O v H' e.symm (S.base.same' s') d'⟩⟩
theorem wj:XS X (.Pass pos) aW:=⟨λHb Ob=>PS.weak yd λE σ H ⟨O,ρ,k,r,S,hF,hk⟩=>hk.nx O ρ σ H S hF⟩
theorem yP{x j pos'}:XS X (.Expr (.Constant (.str x) j pos) pos') aW:=⟨λHb Ob=>PS.weak Bl λE σ H ⟨O,ρ,k,r,S,hF,hk⟩=>hk.nx O ρ σ H S hF⟩
theorem uP{e:Kw}{f:FX}(h:XE X e f)(hs:swapsWith e none pos.line X.env=pure false:=by rfl):XS X (.Expr e pos) (lX f):=⟨λHb Ob=>PS.weak (rC h.h hs) λE σ H ⟨O,ρ,k,r,S,hF,hk⟩=>
 ⟨O,ρ,S.env,dE.on hF hk S λd e v H' s' d'=>hk.nx O ρ σ H' (S.same s') e⟩⟩
theorem AY{c:Kw}{a b:cD}{tc:bu}{A B:bJ}(hc:XT X c tc)(ha:mR X a A)(hb:mR X b B):XS X (.If c a b pos) (cU tc A B):=⟨λHb Ob=>PS.weak (Cq hc.h (ha.h Hb Ob) (hb.h Hb Ob)) λE σ H ⟨O,ρ,k,r,S,hF,hk⟩=>
 ⟨O,ρ,S.env,dE.on hF hk S fun z e H1 s1=>by
  cases z with
  |true=>exact oN ⟨O,ρ,k,r,S.same s1,e,hk⟩
  |false=>exact o5 ⟨O,ρ,k,r,S.same s1,e,hk⟩⟩⟩
theorem zE{i:Nat}{x:Str}{e:Kw}{f:FX}{pos':Pos}(hN:X.N.Nodup)(hi:X.N[i]?=some x)(hx:Loc X.env.scope x)(he:XE X e f)(hs:swapsWith e (some (.Name x pos')) pos.line X.env=pure false:=by rfl)(hf:X.fn x=true\/X.env.scope.names.lookup x=some .local:=by first|exact .inl rfl|exact .inr rfl|assumption):XS X (.Assign [.Name x pos'] e pos) (aC i f):=⟨mC (List.getElem?_eq_some_iff.mp hi).1 (vN hN hi hx he.h hs hf)⟩
theorem BI{elt tg iter:Kw}{ifs:aU}{scope:KL}{N:ap}{ix:dy}{G:aN}{g:GF}{C:bu}{Fe:FX}{i:Nat}{y:Str}{lpos py spos:Pos}(hN:X.N.Nodup)(hi':X.N[i]?=some y)(hx:Loc X.env.scope y)(hc:X.calm=true)(ok:iA X scope N ix)(tk:jE ix g)(hi:XI X tg iter G)(hb:li X scope N tg elt ifs g C Fe)(hsw:swapsWith (.ListComp elt [⟨tg,iter,ifs,0⟩] scope lpos) (some (.Name y py)) spos.line X.env=pure true:=by rfl)(hs:∀x,K6 iter X.env x=pure x:=by intro _;rfl)(hf:X.fn y=true\/X.env.scope.names.lookup y=some .local:=by first|exact .inl rfl|exact .inr rfl|assumption):XS X (.Assign [.Name y py] (.ListComp elt [⟨tg,iter,ifs,0⟩] scope lpos) spos) (aC i (dZ ix G g C Fe)):=⟨mC (List.getElem?_eq_some_iff.mp hi').1 (PS.weak (zV hN hi' hx hc ok.cell ok.kind ok.names ok.free ok.ix hi.h hb.h.k hsw hs hf) λE σ H q=>zJ tk σ H _ q)⟩
theorem yJ{tg e:Kw}{f:FX}{g:GF}(he:XE X e f)(hg:XG X tg g)(hs:swapsWithSole [tg] e pos.line X.env=pure false:=by rfl)(hw:swappedStores [tg] e X.env=pure none:=by rfl)(h1:(assignEach [tg] X.env).map (·.2)=[assign tg X.env]:=by rfl):XS X (.Assign [tg] e pos) (v8 f g):=⟨λHb Ob=>PS.weak (v6 he.h hg.h hs hw h1) λE σ H ⟨O,ρ,k,r,S,hF,hk⟩=>
 ⟨O,ρ,S.env,dE.on hF hk S fun d e v H1 s1 d1=>by
  cases hg.h:g d ρ with
  |none=>rw[hg.h]at e;exact absurd e.symm hk.ne
  |some ρ1=>
   rw[hg.h]at e;refine⟨O,ρ,d,ρ1,(S.same s1).env,d1,hg.h,λσ' E' own=>hk.nx O ρ1 σ' H1 ((S.same s1).after E' own) e⟩⟩⟩
theorem ut{st:cD}{F:bJ}(is:List Nat)(h:mR X st F):mR X st (dR is F):=⟨λHb Ob=>og.weak (h.h Hb Ob) λE σ H ⟨O,ρ,k,r,S,hF,hk⟩=>⟨O,TG.kill is ρ,k,r,S.kill is,hF,hk⟩⟩
theorem xY{tg iter:Kw}{G:aN}{g:GF}{B:bJ}(hp:K5 (model X.prog X.w) X.A X.env X.xe)(hc:X.calm=true)(hi:XI X tg iter G)(hg:XG X tg g)(hb:mR X body B)(hs:∀x,K6 iter X.env x=pure x:=by intro _;rfl):XS X (.For tg iter body [] pos) (ll G g B):=⟨λHb Ob pins s σ H E I ⟨O,ρ,k,r,S,hF,hk⟩=>by
 have hall:og X body (λE σ H=>∃Hb',Et X Hb' Ob B E σ H):=λpins s σ H E I ⟨Hb',q⟩=>hb.h Hb' Ob pins s σ H E I q;refine Ao hp hc hi.h hg.h hall hs pins s σ H E I ⟨O,ρ,S.env,dE.on hF hk S λds hF J H1 s1 wk=>?_⟩;have E1:=S.same s1;refine⟨λi m σ H=>m=ds.length-i/\i<=ds.length/\∃O' ρ',cF X.K (lb H1 O Ob) Ob O' H ρ' σ/\cW g B k (ds.drop i) ρ'=r,
  ⟨ds.length,by rw[Im],Ht _,O,ρ,E1.loop,by rw[HW];exact hF⟩,?_⟩
 rintro i m σ' H' ⟨rfl,hi',O',ρ',E',hr⟩;have sD:=ve E1.base E'.base;by_cases hlt:i<ds.length
 ·right;obtain⟨go,yl⟩:=(wk H' O' i E'.env.all sD).1 ds[i] (by simp[hlt]);refine⟨go,λσ2 H2=>ds.length-(i+1)=ds.length-(i+1)/\i+1<=ds.length/\∃O' ρ',cF X.K (lb H1 O Ob) Ob O' H2 ρ' σ2/\cW g B k (ds.drop (i+1)) ρ'=r,λσ2 H2 z=>⟨ds.length-(i+1),by omega,z⟩,λx H2 y=>?_⟩;obtain⟨s2,dx⟩:=yl x H2 y;have E':=E'.same s2;rw[Ip hlt]at hr;cases hg':g ds[i] ρ' with
  |none=>
   have hr':(rO (g ds[i] ρ')).bind (λρ1=>B ⟨cW g B k (ds.drop (i+1)),k.nx,cW g B k (ds.drop (i+1)),k.ex⟩ ρ1)=r:=hr;rw[hg']at hr';exact absurd hr'.symm hk.ne
  |some ρ1=>
   have hr':(rO (g ds[i] ρ')).bind (λρ1=>B ⟨cW g B k (ds.drop (i+1)),k.nx,cW g B k (ds.drop (i+1)),k.ex⟩ ρ1)=r:=hr;rw[hg']at hr';refine⟨O',ρ',ds[i],ρ1,E'.env,dx,hg',λσ3 E3 own=>?_⟩;have E3':cF X.K (lb H1 O Ob) Ob O' H2 ρ1 σ3:=E'.after E3 own;exact⟨lb H1 O Ob,O',ρ1,⟨cW g B k (ds.drop (i+1)),k.nx,cW g B k (ds.drop (i+1)),k.ex⟩,r,E3',hr',hk.loop E1.base (λO4 ρ4 σ4 H4 E4 z=>⟨rfl,hlt,O4,ρ4,E4,z⟩) (λO4 ρ4 σ4 H4 E4 z=>⟨rfl,hlt,O4,ρ4,E4,z⟩) rfl rfl rfl rfl⟩
 ·left;have ei:i=ds.length:=by omega
  subst ei;refine⟨(wk H' O' ds.length E'.env.all sD).2 rfl,?_⟩;rw[List.drop_length]at hr;exact hk.nx O' ρ' σ' H' (E'.back E1.base) hr⟩
end
section
variable[ax]{X:Cx}{pos:Pos}
theorem yB{es:aU}{g:aN}(h:XA X es g):XN X (.List es pos) (eI g):=⟨PE.weak (wa h.h) λσ H Q ⟨O,ρ,E,hF⟩=>⟨O,ρ,E,(dE.bind hF).imp λxs hF vs H1 s1 d1=>by
  obtain⟨d,e,q⟩:=dE.rO hF;obtain⟨hz,e⟩:=a8 e;subst e;refine⟨by rw[<-d1.length];exact bU hz,λp hp=>?_⟩;exact q p _ (s1.trans (bB hp _)) (s1.free hp) ⟨_,aA,trivial⟩ (gg hp d1)⟩⟩
theorem uY{x:Str}{p:Pos}{e:Kw}{f:aN}(hg:Gl X x)(hm:X.mg x=none)(hv:KI x=some (.type "list"))(ha:XA X [e] f)(hn:x≠"__name__":=by decide)(hdb:(x==("__debug__":Str))=false:=by decide)(hns:noStar e=true:=by rfl):XN X (.Call (.Name x p) [e] [] pos) (fL iF f):=⟨PE.weak (lA eS hg hm hv ha.h hn hdb (bg hns) (bZ rfl)) λσ H Q ⟨O,ρ,E,hF⟩=>⟨O,ρ,E,(dE.bind hF).imp λds hF vs H1 s1 d1=>by
  obtain⟨d,hg,q⟩:=dE.rO hF;unfold iF at hg;split at hg
  ·rename_i ys;cases hg;obtain⟨v,ev,h1⟩:=d1.one;rw[bo]at h1;obtain⟨p,ws,ep,g1,g2⟩:=h1;exact⟨p,ws,by rw[ev,ep],.inl ((az H1 O).seq g1),λl hl=>q l _ (s1.trans (bB hl _)) (s1.free hl) ⟨_,aA,trivial⟩ (gg hl g2)⟩
  ·rename_i ys;cases hg;obtain⟨v,ev,h1⟩:=d1.one;rw[bp]at h1;obtain⟨p,ws,ep,g1,g2⟩:=h1;exact⟨p,ws,by rw[ev,ep],.inr (bx (az H1 O) g1),λl hl=>q l _ (s1.trans (bB hl _)) (s1.free hl) ⟨_,aA,trivial⟩ (gg hl g2)⟩
  ·cases hg⟩⟩
theorem xX{i:Nat}{x:Str}{e:Kw}{f:FX}{pos':Pos}(hN:X.N.Nodup)(hi:X.N[i]?=some x)(hx:Loc X.env.scope x)(he:XN X e f)(hs:swapsWith e (some (.Name x pos')) pos.line X.env=pure false:=by rfl)(hf:X.fn x=true\/X.env.scope.names.lookup x=some .local:=by first|exact .inl rfl|exact .inr rfl|assumption):XS X (.Assign [.Name x pos'] e pos) (la i f):=⟨mD (List.getElem?_eq_some_iff.mp hi).1 (vN hN hi hx he.h hs hf)⟩
end
section
variable[ax]
theorem uC{X:Cx}{elt tg iter:Kw}{ifs:aU}{scope:KL}{N:ap}{ix:dy}{G:aN}{g:GF}{C:bu}{Fe:FX}{i:Nat}{y:Str}{lpos py spos:Pos}(hN:X.N.Nodup)(hi':X.N[i]?=some y)(hx:Loc X.env.scope y)(hc:X.calm=true)(ok:iA X scope N ix)(tk:jE ix g)(hi:XI X tg iter G)(hb:li X scope N tg elt ifs g C Fe)(hsw:swapsWith (.ListComp elt [⟨tg,iter,ifs,0⟩] scope lpos) (some (.Name y py)) spos.line X.env=pure true:=by rfl)(hs:∀x,K6 iter X.env x=pure x:=by intro _;rfl)(hf:X.fn y=true\/X.env.scope.names.lookup y=some .local:=by first|exact .inl rfl|exact .inr rfl|assumption):XS X (.Assign [.Name y py] (.ListComp elt [⟨tg,iter,ifs,0⟩] scope lpos) spos) (la i (dZ ix G g C Fe)):=⟨mD (List.getElem?_eq_some_iff.mp hi').1 (PS.weak (zV hN hi' hx hc ok.cell ok.kind ok.names ok.free ok.ix hi.h hb.h.k hsw hs hf) λE σ H q=>wG tk σ H _ (zM σ H _ q))⟩
theorem Bc{X:Cx}{elt tg iter:Kw}{ifs:aU}{scope:KL}{pos:Pos}{N:ap}{ix:dy}{G:aN}{g:GF}{C:bu}{Fe:FX}(hc:X.calm=true)(ok:iA X scope N ix)(tk:jE ix g)(hi:XI X tg iter G)(hb:li X scope N tg elt ifs g C Fe)(hs:∀x,K6 iter X.env x=pure x:=by intro _;rfl):XN X (.ListComp elt [⟨tg,iter,ifs,0⟩] scope pos) (dZ ix G g C Fe):=⟨PE.weak (Ae hc ok.cell ok.kind ok.names ok.free ok.ix hi.h hb.h.k hs) λσ H Q q=>wG tk σ H _ (zM σ H _ q)⟩
theorem Am{X : Cx}{i : Nat}{x m : Str}{id : String}{r : V -> aB -> Hp -> VK -> Prop}{u : List D -> List D -> Option (List D)}{e : Kw}{es : aU}{f : aN}{npos apos cpos pos : Pos}(slot : Slot "list" m id)(hty : typeOf (.builtin id) = pure (.type "method_descriptor"))(hm : Gb X id r)(ok : zY X.K r u)(hx : XV X (.Name x npos) i)(he : XA X (e :: es) f)(hbase : Lf (.Name x npos) m X.env (eval (.Name x npos) X.env) = eval (.Name x npos) X.env := by rfl)(hfew : ((backTo cpos (KP (e :: es) X.env)).all (fun x => !x.1) && (backToKw cpos (Li [] X.env)).all (fun x => x.1.isSome)
      && decide ((e::es:aU).length+([]:List LK).length+(if([]:List LK).isEmpty then 0 else 1)<30))=true:=by rfl)(hline:(apos.endLine==cpos.line)=true:=by rfl)(hs:KP (e::es) X.env=(false,eval e X.env)::KP es X.env:=by rfl)(hplain:(backTo cpos (KP es X.env)).any (·.1)=false:=by rfl)(hsw:swapsWith (.Call (.Attribute (.Name x npos) m apos) (e::es) [] cpos) none pos.line X.env=pure false:=by rfl):XS X (.Expr (.Call (.Attribute (.Name x npos) m apos) (e::es) [] cpos) pos) (zF i u f):=⟨λHb Ob pins s σ H E I ⟨O,ρ,k,rr,S,hF,hk⟩=>by
  unfold zF at hF;split at hF
  · rename_i xs hxs
    obtain⟨a,ha,haO,hat⟩:=S.env.own i _ hxs;obtain⟨o,vs0,ho,eo,dn⟩:=hat;subst eo;refine rC (wy F.plainAttrs_list slot hty hm hx.h he.h hbase hfew hline hs hplain) hsw pins s σ H E I ⟨.ref a,ha,.inl ⟨rfl,vs0,gQ.of ho⟩,O,ρ,S.env,dE.on hF hk S λds hr vs H1 s1 d1=>?_⟩;have S1:=S.same s1;cases hu1:u xs ds with
    |none=>rw[hu1]at hr;exact absurd hr.symm hk.ne
    |some ys=>
      rw[hu1]at hr;exact ok H1 O a xs ys ds vs0 vs _ S1.env.all haO (s1 _ _ ho) (dn.mono (bq s1)) d1 hu1 λws' v new=>hk.nx O _ σ _ (S1.setO hxs ha trivial (jz haO new)) hr
  ·exact absurd hF.symm hk.ne⟩
theorem wL{X:Cx}{st:cD}{F:bJ}(i:Nat)(h:mR X st F):mR X st (oV i F):=⟨λHb Ob=>og.weak (h.h Hb Ob) λE σ H ⟨O,ρ,k,r,S,hF,hk⟩=>by
 obtain⟨O',S'⟩:=S.frz i;exact⟨O',TG.frz i ρ,k,r,S',hF,hk⟩⟩
theorem pO{X:Cx}{k k':Nat}{ps:ap}{g:cQ}{h:aN}{x:Str}{p pos:Pos}{e:Kw}{es:aU}(C:Callee X.prog X.w X.K X.mg X.base k x ps g)(hn:Ar ps.length g)(hr:dr k' X.A)(hk:k<=k')(ha:XA X (e::es) h)(hg:Gl X x:=by rfl)(hdb:(x==("__debug__":Str))=false:=by decide)(hns:(e::es).all noStar=true:=by rfl):XE X (.Call (.Name x p) (e::es) [] pos) (fR g h):=by
 refine⟨?_⟩;obtain⟨f,fd,F,b,kp,m⟩:=C;exact PE.weak (vz F (hr.mono hk) hg m kp b ha.h hdb (bg (HI _ _ ▸ hns).1) (bZ (HI _ _ ▸ hns).2)) (uo hn)
end
section
variable[ax]{X:Cx}{a b c:Kw}{fa fb fc:FX}{pos:Pos}
theorem uk{op op':KR}{r r':R2}{g g':D->D->aZ}(ho:eU X (KS op) r)(s:ca X.K r g)(ho':eU X (KS op') r')(s':ca X.K r' g')(ha:XE X a fa)(hb:XE X b fb)(hc:XE X c fc)(hm:lastMarks [op,op'] [b,c]=false:=by with_unfolding_all rfl):XE X (.Compare a [op,op'] [b,c] pos) (eN g g' fa fb fc):=⟨PE.weak (wo ho ho' ha.h hb.h hc.h hm) (lS s s')⟩
theorem sM{op op':KR}{r r':R2}{g g':D->D->aZ}(ho:eU X (KS op) r)(s:ca X.K r g)(ho':eU X (KS op') r')(s':ca X.K r' g')(ha:XE X a fa)(hb:XE X b fb)(hc:XE X c fc)(hm:lastMarks [op,op'] [b,c]=false:=by with_unfolding_all rfl):XT X (.Compare a [op,op'] [b,c] pos) (fB (eN g g' fa fb fc)):=⟨PT.weak (wf ho ho' ha.h hb.h hc.h hm) (kR (lS s s'))⟩
theorem xZ(ha:XE X a fa):XE X (.UnaryOp .USub a pos) (tN fa):=⟨PE.weak (Dc BJ ha.h) (B7 λx d v O H Q _ e dv q=>by
 cases x with
 |int i=>cases e;exact⟨i,dD.mp dv,q _ H (aQ.refl H) (dD.mpr rfl)⟩
 |_=>cases e)⟩
theorem v7{x:Str}{i:Int}(hg:Gl X x)(hm:∃t,X.mg x=some (.int i t))(hd:(x==("__debug__":Str))=false:=by decide):XE X (.Name x pos) (fC (.int i)):=by
 refine⟨?_⟩;obtain⟨t,m⟩:=hm;exact fS (n5 (v:=.int i) hg m ⟨t,rfl⟩ hd) λ_ _=>dD.mpr rfl
end
section
variable[ax]{X:Cx}
theorem yt{a b:Kw}{es:aU}{k:Nat}{tpos:Pos}{f:aN}{p pos:Pos}(hg:Gl X "zip")(hm:X.mg "zip"=none)(ha:XA X [a,b] f)(hs:KP [a,b] X.env=(false,eval a X.env)::KP [b] X.env:=by rfl)(hpl:(backTo pos (KP [b] X.env)).any (·.1)=false:=by rfl):XI X (.Tuple es k tpos) (.Call (.Name "zip" p) [a,b] [] pos) (uZ f):=by
 refine⟨?_⟩;rintro pins s σ H RR I ⟨O,ρ,E,hG⟩;have hA:=ha.h pos pins s σ H (λvs H1=>∃ds r,uB ds=some r/\aK X.K (hid H1 O) ds vs/\∀J,Walk X.K (hid H1 O) J r->RR J H1) I ⟨O,ρ,E,(dE.bind hG).imp λds hG vs H1 s1 d1=>by
  obtain⟨r,e,q⟩:=dE.rO hG;exact⟨ds,r,e,d1,λJ wk=>q J H1 s1 wk⟩⟩
 refine Kj (jd I hg hm PyProof.Rows.boot_zip (Kf (bV hA λus s1 ⟨vs,H1,I1,r1,ds,r,er,d1,q⟩=>?_) hs hpl));exact Ak I1 er d1 r1 q
theorem lx{a:Kw}{es:aU}{k:Nat}{tpos:Pos}{f:aN}{p pos:Pos}(hg:Gl X "enumerate")(hm:X.mg "enumerate"=none)(ha:XA X [a] f)(hs:KP [a] X.env=(false,eval a X.env)::KP [] X.env:=by rfl)(hpl:(backTo pos (KP [] X.env)).any (·.1)=false:=by rfl):XI X (.Tuple es k tpos) (.Call (.Name "enumerate" p) [a] [] pos) (de f):=by
 refine⟨?_⟩;rintro pins s σ H RR I ⟨O,ρ,E,hG⟩;have hA:=ha.h pos pins s σ H (λvs H1=>∃ds r,lJ ds=some r/\aK X.K (hid H1 O) ds vs/\∀J,Walk X.K (hid H1 O) J r->RR J H1) I ⟨O,ρ,E,(dE.bind hG).imp λds hG vs H1 s1 d1=>by
  obtain⟨r,e,q⟩:=dE.rO hG;exact⟨ds,r,e,d1,λJ wk=>q J H1 s1 wk⟩⟩
 refine Kj (jd I hg hm PyProof.Rows.boot_enumerate (Kf (bV hA λus s1 ⟨vs,H1,I1,r1,ds,r,er,d1,q⟩=>?_) hs hpl));exact yr I1 er d1 r1 q
end
section
variable[ax]{X:Cx}{a o e:Kw}{es:aU}{fa fo:FX}{fas:aN}{f m x:Str}{cs:ap}{pos apos p:Pos}{k k':Nat}{ps:ap}
theorem yz(ok:jb X.K f cs)(h:XE X a fa)(hb:Lf a f X.env (eval a X.env)=eval a X.env:=by rfl):XE X (.Attribute a f pos) (f1 (dP f cs) fa):=⟨PE.weak (A5 h.h hb) λσ H Q ⟨O,ρ,E,hF⟩=>⟨O,ρ,E,(dE.bind hF).imp λd hF v H1 s1 d1=>by
  obtain⟨r,e,q⟩:=dE.rO hF;cases d with
  |obj c fs vs=>
   have e':(if cs.contains c then(fs.zip vs).lookup f else none)=some r:=e;cases hc:cs.contains c with
   |false=>rw[hc]at e';cases e'
   |true=>
    rw[hc]at e';obtain⟨a,ws,ev,g1,g2,C,dx,g3,g4⟩:=DZ.mp d1;obtain⟨w,l1,l2⟩:=hW g1 e';obtain⟨cl,na⟩:=ok c (List.contains_iff_mem.mp hc) C g3;exact⟨a,C,dx,_,w,ev,az H1 O _ _ g4,cl,na,l1,q w H1 s1 l2⟩
  |_=>cases e⟩⟩
theorem wz{tbl : List (Str × (cQ))}{pl : Sem Bool}(tb : kU X.prog X.w X.K X.mg X.base k m ps tbl)(hr : dr k' X.A)(hk : k <= k')(ho : XE X o fo)(ha : XA X (e :: es) fas)(hns : (e :: es).all noStar = true := by rfl)(ht : eval (.Call (.Attribute o m apos) (e :: es) [] pos) X.env = (do
      let ov<-eval o X.env
      standAt apos.atName
      let (f,first)<-holding [ov] (getMethod ov m pl)
      Lh pos f first (backTo pos (KP (e::es) X.env)) (backToKw pos (Li [] X.env))):=by rfl):XE X (.Call (.Attribute o m apos) (e::es) [] pos) (fA m tbl fo fas):=⟨pf tb (hr.mono hk) ho.h (λpins s1 σ H1 O ρ a f od Q g fd _ kp F b ar I1 E1 dO hP=>by
    refine JL (first:=[.ref a]) (h₀:=X.base) I1.ok.mod.kin kp (bV (ha.h pos pins s1 σ H1 _ I1 ⟨O,ρ,E1,(dE.bind hP).imp λas hP vs H2 s2 d2=>kS (vs:=.ref a::vs) ar (E1.all.same s2) (aX.mpr ⟨_,_,rfl,dO.mono (bq s2),d2⟩) ((hP.mono s2).imp λd q v H3 s3 d3=>q v H3 (s2.trans s3) d3)⟩) λus s2 ⟨vs,H2,I2,r,Ex,hx,q2⟩=>⟨I2.kIn,?_⟩) (bg (HI _ _ ▸ hns).1) (bZ (HI _ _ ▸ hns).2);exact nz (us:=.ref a::us) (vs:=.ref a::vs) F (hr.mono hk) b hx I2 (.cons rfl r) q2) ht⟩
theorem tu{tbl : List (Str × (cQ))}{pl : Sem Bool}(tb : kU X.prog X.w X.K X.mg X.base k m ps tbl)(hr : dr k' X.A)(hk : k <= k')(ho : XE X o fo)(ht : eval (.Call (.Attribute o m apos) [] [] pos) X.env = (do
      let ov<-eval o X.env
      standAt apos.atName
      let (f,first)<-holding [ov] (getMethod ov m pl)
      Lh pos f first (backTo pos (KP [] X.env)) (backToKw pos (Li [] X.env))):=by rfl):XE X (.Call (.Attribute o m apos) [] [] pos) (fA m tbl fo ah):=⟨pf tb (hr.mono hk) ho.h (λpins s1 σ H1 O ρ a f od Q g fd _ kp F b ar I1 E1 dO hP=>by
    have hP':dE X σ O H1 (g [od]) λd=>∀v H',aQ H1 H'->bM X.K (hid H' O) d v->Q v H':=hP;obtain⟨Ex,hx,q2⟩:=kS (vs:=[.ref a]) ar E1.all (aX.mpr ⟨_,_,rfl,dO,bL.mpr rfl⟩) hP';exact PySem.W.callWith_K0 (first:=[.ref a]) I1.kIn kp (nz (us:=[.ref a]) (vs:=[.ref a]) F (hr.mono hk) b hx I1 (.cons rfl .nil) q2)) ht⟩
theorem yp{c:Str}{fs:ap}(IA:mJ X.prog X.w X.K X.mg X.base k c ps fs)(hr:dr k' X.A)(hk:k+1<=k')(hg:Gl X c)(ha:XA X (e::es) fas)(hdb:(c==("__debug__":Str))=false:=by decide)(hns:(e::es).all noStar=true:=by rfl):XE X (.Call (.Name c p) (e::es) [] pos) (fNew c fs fas):=by
 refine⟨?_⟩;obtain⟨C,f,fd,h1,h2,h3,h4,h5⟩:=IA;refine PE.weak (xN (dvs:=[]) (E:=E0) h2 h3 (hr.mono hk) hg h5 h4 .nil zS ha.h hdb (bg (HI _ _ ▸ hns).1) (bZ (HI _ _ ▸ hns).2)) λσ H Q ⟨O,ρ,E,hF⟩=>⟨O,ρ,E,(dE.bind hF).imp λas hF vs H1 s1 d1 x dx hx hd ne=>?_⟩
 by_cases hl:as.length=fs.length
 ·rw[if_pos hl]at hF;rw[Hu];refine⟨x,dx,vs,rfl,by rw[<-d1.length,hl],by rw[aA],rfl,?_⟩;obtain⟨sm,dn⟩:=pD h1 hl d1 (E.all.same s1) hx hd ne;exact hF _ _ (s1.trans sm) dn
 ·rw[if_neg hl]at hF;exact hF.elim
end
section
variable[ax]{X:Cx}
theorem wF{a e : Kw}{es : aU}{fa : FX}{fs : aN}{apos cpos : Pos}(ha : XE X a fa)(hs : XA X (e :: es) fs)(hbase : Lf a "join" X.env (eval a X.env) = eval a X.env := by rfl)(hfew : ((backTo cpos (KP (e :: es) X.env)).all (fun x => !x.1) && (backToKw cpos (Li [] X.env)).all (fun x => x.1.isSome)
      && decide ((e::es).length+([]:List LK).length+(if([]:List LK).isEmpty then 0 else 1)<30))=true:=by rfl)(hline:(apos.endLine==cpos.line)=true:=by rfl)(hst:KP (e::es) X.env=(false,eval e X.env)::KP es X.env:=by rfl)(hplain:(backTo cpos (KP es X.env)).any (·.1)=false:=by rfl):XE X (.Call (.Attribute a "join" apos) (e::es) [] cpos) (fV fa fs):=⟨PE.weak (wy F.plainAttrs_str F.slot_str_join F.type_str_join yh ha.h hs.h hbase hfew hline hst hplain) λσ H Q ⟨O,ρ,E,hF⟩=>⟨O,ρ,E,(dE.bind hF).imp λx hF v H1 s1 d1=>by
    obtain⟨z,ez,hF⟩:=dE.rO (dE.bind hF);rw[xF ez d1];exact⟨rfl,O,ρ,E.same s1,((dE.bind hF).mono s1).imp λds hF vs H2 s2 d2=>by
      obtain⟨d,e,q⟩:=dE.rO hF;exact nZ e d2 λw dw=>q w H2 (s1.trans s2) dw⟩⟩⟩
end
section
variable[ax]{X:Cx}{pos:Pos}
theorem sU{x:Str}{e:Kw}{es:aU}{f:aN}{np cpos:Pos}(hc:X.calm=true)(hx:ExcAt X.K X.mg x)(hg:Gl X x)(ha:XA X (e::es) f)(hdb:(x==("__debug__":Str))=false:=by decide)(hns:(e::es).all noStar=true:=by rfl):XS X (.Raise (some (.Call (.Name x np) (e::es) [] cpos)) none pos) (fY x f):=⟨λHb Ob pins s σ H E I ⟨O,ρ,k,r,S,hF,hk⟩=>by
 obtain⟨C,cl,hm,hi⟩:=hx;obtain⟨tl,N,nm,q,bs,hdct,sn,sub,ab,col,dd,k0,k1,k2,k3,k5,mN,hC,hN,hni,T⟩:=(zq I.mod.kin hi x).obj;have st:KP (e::es) X.env=_:=bg (HI _ _ ▸ hns).1;have plain:(backTo cpos (KP (e::es) X.env)).any (·.1)=false:=bZ hns;refine wpAny_Raise_call_subT (k5:=k5) (k3:=k3) (k2:=k2) (k1:=k1) (k0:=k0) (dd:=dd) (col:=col) (ab:=ab) (sub:=sub) (sn:=sn) (hdct:=hdct) (bs:=bs) (N:=N) (q:=q) (nm:=nm) Kr (mN:=mN) (T.hasType PySem.F.excBase_ValueError.hasBase) (I.ok.hd hc) plain hni (gx I hg hm ⟨rfl,?_⟩ hdb);have A1:=ha.h cpos pins s σ H (λvs H1=>vs.length<=KG/\aQ H H1/\k.ex ⟨x,[],[]⟩ ρ=r) I ⟨O,ρ,S.env,dE.on hF hk S λds e vs H' s' d'=>by
  have z:small ds.length=true:=by
   cases z:small ds.length with
   |true=>rfl
   |false=>rw[z]at e;exact absurd e.symm hk.ne
  rw[z]at e;exact⟨by rw[<-d'.length];exact bU z,s',e⟩⟩
 rw[st]at A1 ⊢;refine Calls.evalArgs_plain (bV A1 λus s2 ⟨vs,H1,I1,rv,q1,q2,q3⟩=>⟨rfl,by rw[<-rv.length];exact q1,I1.bk _ _ hC,hN.keeps I1.bk,T.keeps I1.bk,λh' a m=>?_⟩);exact hk.ex O ρ σ H1 _ (S.same q2) q3 pins _ _ H1 (I1.kept (t':=s2.toks) m.keeps) (aQ.refl H1) ⟨a,C,none,rfl,⟨cl,[],bL.mpr rfl,rfl,.inl rfl⟩,xo I1 m⟩⟩
end
section
variable[ax]{X:Cx}{p pos:Pos}{e:Kw}
theorem wD{f:FX}{x:Str}{p2:Pos}{tbl:gO}(h:bX X.K X.mg x tbl)(hg:Gl X "isinstance")(hm:X.mg "isinstance"=none)(hgx:Gl X x)(he:XE X e f)(hd2:(x==("__debug__":Str))=false:=by decide)(hns:noStar e=true:=by rfl):XE X (.Call (.Name "isinstance" p) [e,.Name x p2] [] pos) (f1 (dA tbl) f):=by
 refine⟨?_⟩;obtain⟨C,hC,h⟩:=h;exact PE.weak (fU (mn (tv:=.ref C) (T:=.ref C) λu r=>r) hg hm iY (dg he.h (dg (n5 (v:=.ref C) hgx hC rfl hd2) jk (bg rfl)) (bg hns)) (by decide) (by decide) (bg hns) (bZ rfl)) (z7 h)
theorem tY{f:FX}{x:Str}{T:String}{p2:Pos}{tbl:gO}(h:oH X.K (.type T) tbl)(hg:Gl X "isinstance")(hm:X.mg "isinstance"=none)(hgx:Gl X x)(hmx:X.mg x=none)(hv:KI x=some (.type T))(he:XE X e f)(hn2:x≠"__name__":=by decide)(hd2:(x==("__debug__":Str))=false:=by decide)(hns:noStar e=true:=by rfl):XE X (.Call (.Name "isinstance" p) [e,.Name x p2] [] pos) (f1 (dA tbl) f):=⟨PE.weak (fU (mn (tv:=.ty T) (T:=.type T) λu r=>r) hg hm iY (dg he.h (dg (sq (v:=.ty T) hgx hmx hv rfl hn2 hd2) jk (bg rfl)) (bg hns)) (by decide) (by decide) (bg hns) (bZ rfl)) (z7 h)⟩
theorem vq{f:FX}{k:_}{p2:Pos}{es:aU}{tbl:gO}{tbls:List gO}(hl:vj X es (tbl::tbls))(hs:es.length<=1000)(hg:Gl X "isinstance")(hm:X.mg "isinstance"=none)(he:XE X e f)(hns:noStar e=true:=by rfl):XE X (.Call (.Name "isinstance" p) [e,.Tuple es k p2] [] pos) (f1 (rW (tbl::tbls)) f):=by
 refine⟨?_⟩;obtain⟨cs,hlen,hp,ha⟩:=xO hl;refine PE.weak (fU (um (cs:=cs)) hg hm iY (dg he.h (dg (vU hp) jk (bg rfl)) (bg hns)) (by decide) (by decide) (bg hns) (bZ rfl)) λσ H Q ⟨O,ρ,E,hF⟩=>⟨O,ρ,E,(dE.bind hF).imp λa hF v H1 s1 d1=>?_⟩
 obtain⟨d,e,q⟩:=dE.rO hF;unfold rW at e;split at e
 ·rename_i c fs0 vs0;cases e2:ux c (tbl::tbls)with
  |none=>rw[e2]at e;cases e
  |some b=>
   rw[e2]at e;cases e;obtain⟨a,ws,rfl,_,_,D,dx,hcl,hx,_⟩:=DU.mp d1;have F:gM X.K D:=by
    cases hl with
    |cons h _ _ _=>
     obtain⟨C,_,hk⟩:=h;unfold ux at e2;split at e2
     ·rename_i z;exact(hk c _ z D hcl).1
     ·rename_i z;exact(hk c _ z D hcl).1
     ·cases e2
   have hx':H1 a=some (.ext (jq D a dx)):=az _ _ _ _ hx;refine⟨by rw[Hr,hlen];exact bU (cx ‹0›),λt ht=>⟨a,t,D,dx,b,rfl,?_,aA,F,ha c b e2 D hcl,q _ _ (s1.trans (bB ht _)) (eT.mpr rfl)⟩⟩;rw[av (aM hx' ht)];exact hx'
 ·cases e
theorem tD{a e : Kw}{fa : FX}{fs : aN}{apos cpos : Pos}(hu : X.A.units + 64 < Lj)(ha : XE X a fa)(hs : XA X [e] fs)(hbase : Lf a "index" X.env (eval a X.env) = eval a X.env := by rfl)(hfew : ((backTo cpos (KP [e] X.env)).all (fun x => !x.1) && (backToKw cpos (Li [] X.env)).all (fun x => x.1.isSome)
      && decide (([e]:aU).length+([]:List LK).length+(if([]:List LK).isEmpty then 0 else 1)<30))=true:=by rfl)(hline:(apos.endLine==cpos.line)=true:=by rfl)(hst:KP [e] X.env=(false,eval e X.env)::KP [] X.env:=by rfl)(hplain:(backTo cpos (KP [] X.env)).any (·.1)=false:=by rfl):XE X (.Call (.Attribute a "index" apos) [e] [] cpos) (jy fa fs):=⟨PE.weak (wy PySem.F.plainAttrs_list Kq PySem.F.type_list_index (v0 hu) ha.h hs.h hbase hfew hline hst hplain) λσ H Q ⟨O,ρ,E,hF⟩=>⟨O,ρ,E,(dE.bind hF).imp λx hF v H1 s1 d1=>by
    cases x with
    |lst ys=>
      obtain⟨p,vs,rfl,g1,g2⟩:=bo.mp d1;have g1':=(az H1 O).seq g1;refine⟨.inl ⟨rfl,vs,g1'⟩,O,ρ,E.same s1,((dE.bind hF).mono s1).imp λds hF ws H2 s2 d2=>?_⟩
      match ds,hF,d2 with
      |[b],hF,d2=>
        obtain⟨w,rfl,db⟩:=d2.one;obtain⟨d,e,q⟩:=dE.rO hF;refine⟨H1,p,ys,vs,b,w,d,s2,rfl,rfl,g1',(g2.mono (az H1 O)).mono s2,db.mono (az H2 O),e,λw' dw=>q w' H2 (s1.trans s2) ?_⟩;have hg':(if(pl b&&eB ys)&&cn 8 b then(jH b ys).map (λ(j:Nat)=>D.int (j:Int))else none)=some d:=e;split at hg'
        · obtain⟨j,_,ed⟩:=Option.map_eq_some_iff.mp hg'
          subst ed;exact dD.mpr (dD.mp dw)
        ·cases hg'
      |[],hF,_=>exact hF.elim
      |_::_::_,hF,_=>exact hF.elim
    |_=>exact hF.elim⟩⟩
end
section
variable[ax]
theorem qF{X:Cx}{pos:Pos}{x:Str}{e:Kw}{es:aU}{f:aN}{np cpos:Pos}{k k':Nat}{ps fs:ap}(hc:X.calm=true)(hx:X.ex=[])(RA:kc X.prog X.w X.K X.mg X.base k x ps fs)(hr:dr k' X.A)(hk':k+1<=k')(hg:Gl X x)(ha:XA X (e::es) f)(hdb:(x==("__debug__":Str))=false:=by decide)(hns:(e::es).all noStar=true:=by rfl):XS X (.Raise (some (.Call (.Name x np) (e::es) [] cpos)) none pos) (i9 x fs f):=⟨λHb Ob pins s σ H D I h=>by
 obtain⟨O,ρ,k1,r,S,hF,hk⟩:=h;obtain⟨C,fI,fd,cl,EI,F,hb,hm⟩:=RA;obtain⟨nm,q,N,bs,bm,hdct,sn,sub,ab,col,dd,l0,l1,l2,l3,l5,hcls⟩:=EI.cls;have st:KP (e::es) X.env=_:=bg (HI _ _ ▸ hns).1;rw[arm_exec_Raise];have hT:=(hcls _ I.kIn).2.2;refine KZ (K2 (qz (C:=C) (nm:=nm) (q:=q) (N:=N) (bs:=bs) (bm:=bm) (hdct:=hdct) (sn:=sn) (sub:=sub) (ab:=ab) (col:=col) (dd:=dd) (k0:=l0) (k1:=l1) (k2:=l2) (k3:=l3) (k5:=l5) (newId:="ValueError.__new__") (hT.hasType PySem.F.excBase_ValueError.hasBase) (I.ok.hd hc) ?_));refine KZ (KQ ?_ (λv s' z=>KZ (K2 (K3 z))) λ_ _ z=>z);refine Ls (gx I hg hm ?_ hdb);have A1:=ha.h cpos pins s σ H (λvs H1=>∃ds,vs.length=fs.length/\vs.length<=KG/\aQ H H1/\aK X.K (hid H1 O) ds vs/\k1.ex ⟨x,fs,ds⟩ ρ=r) I ⟨O,ρ,S.env,dE.on hF hk S λds e vs H' s' d'=>by
  cases z:(small ds.length&&ds.length==fs.length)with
  |false=>rw[z]at e;exact absurd e.symm hk.ne
  |true=>
   rw[z]at e;rw[HI,beq_iff_eq]at z;exact⟨ds,by rw[<-d'.length];exact z.2,by rw[<-d'.length];exact bU z.1,s',d',e⟩⟩
 refine JL (h₀:=X.base) I.ok.mod.kin EI.kp (bV A1 λus s1 h1=>?_) st (bZ (HI _ _ ▸ hns).2);obtain⟨vs,H1,I1,rv,ds,hl,hz,sm,dn,hex⟩:=h1;refine⟨I1.kIn,?_⟩;obtain⟨hC,⟨mN,hN,hi⟩,T⟩:=hcls _ I1.kIn;obtain⟨oI,hoI,hcI⟩:∃o,s1.heap.get? fI=some o/\o.cls=.type "function":=by
  have z:(X.K.lookup fI).map (·.cls)=some (.type "function"):=EI.fn;cases y:X.K.lookup fI with
  |none=>rw[y]at z;cases z
  |some o=>rw[y]at z;exact⟨o,I1.kIn _ _ y,Option.some.inj z⟩
 refine kX (h:=s1.heap) (g:=s1.gens) (d:=s1.drawn) (t:=s1.toks) (os:=s1.os) Kr (by decide +kernel) Kr T hC hN hi hoI hcI (λh' ee m=>?_) (show us.length<=KG by rw[<-rv.length];exact hz);obtain⟨t,m1,m2,m3⟩:=m.there;have nf:=lY I1 hx m.new;have I2:=adopt (ob:=.ext (lj C ee t)) (I1.kept (t':=s1.toks) m.keeps) nf.1 nf.2.1 nf.2.2.1 nf.2.2.2.1 nf.2.2.2.2 (yS ⟨_,m1,rfl,rfl,rfl⟩);have r2:Vals (V.ref ee::vs) (Value.ref ee::us):=.cons rfl rv;have dne:∀d,upd H1 ee (.ext (lj C ee t)) d=none->d≠ee:=λd z w=>by rw[w,aA]at z;cases z
 have spec:F9 C fs (V.ref ee::vs) (upd H1 ee (.ext (lj C ee t))) (λv H3=>v=.non/\∃d,H1 d=none/\d≠ee/\H3=upd (upd H1 d (.own ee)) ee (.ext (dX C ee t d (fs.zip vs)))) E0:=⟨ee,t,vs,rfl,hl,aA,λd hd ne=>⟨rfl,d,by rw[av ne]at hd;exact hd,ne,by
  funext b;by_cases z:b=ee
  ·rw[z,aA,aA]
  ·rw[av z,av z];by_cases y:b=d
   ·rw[y,aA,aA]
   ·rw[av y,av z,av y]⟩⟩
 have hlen:(Value.ref ee::us++[]).length=ps.length:=by
  have:=r2.length
  rw[F.len _ _ _ _ spec]at this;rw[Hu];exact this.symm
 have hb':=hb {s1 with heap:=h'} (Value.ref ee::us) I2.kIn hlen;rw[Hu]at hb';refine Lq (Lr (F.run _ X.stack _ _ ⟨Value.ref ee::us,[]⟩ (Value.ref ee::us) _ _ E0 ((hr.mono hk').make C us []) (I2.env0.make C us []) hb' r2 spec) λr s' hq'=>?_);cases r with
 |error e=>exact zS pins σ _ _ e s' I2 hq'
 |ok fl=>
  cases fl with
  |ret u=>
   obtain⟨v,H',I3,rv',⟨ev,d,hd,ne,eH⟩⟩:=I2.after hq';subst ev eH;refine⟨rv',?_⟩;obtain⟨I4,fl,sl,he⟩:=yq I1 hx m.new hd I3;have s14:aQ H1 (upd H1 d (.xd (fs.zip vs))):=λb o z=>by rw[av (aM z hd)];exact z
   have dO:d∉O:=(S.env.all.same sm).not hd;exact⟨ee,t,some d,sl,rfl,(hcls _ I4.kIn).1,he,hk.ex O ρ σ _ _ (S.same (sm.trans s14)) hex pins s' _ _ I4 (aQ.refl _) ⟨ee,C,some d,rfl,⟨cl,vs,dn.mono (bq s14),hl.symm,.inr ⟨d,rfl,by rw[hV dO];exact aA⟩⟩,fl⟩⟩
  |next=>exact False.elim hq'
  |brk=>exact False.elim hq'
  |cont=>exact False.elim hq'⟩
end
section
variable[ax]{X:Cx}{pos:Pos}{a:Kw}{fa:FX}{f:Str}{cs:ap}
theorem xm(ok:tJ X.K f cs)(h:XE X a fa)(hb:Lf a f X.env (eval a X.env)=eval a X.env:=by rfl):XE X (.Attribute a f pos) (f1 (lG f cs) fa):=⟨PE.weak (xJ h.h hb) λσ H Q q=>by
  obtain⟨O,ρ,E,hF⟩:=q;refine⟨O,ρ,E,(dE.bind hF).imp λdd hF v H1 s1 d1=>?_⟩;obtain⟨d,e,q⟩:=dE.rO hF;unfold lG at e;split at e
  ·rename_i c fs vs;obtain⟨hc,e⟩:cs.contains c=true/\(fs.zip vs).lookup f=some d:=by
    cases z:cs.contains c with
    |true=>rw[z]at e;exact⟨rfl,e⟩
    |false=>rw[z]at e;cases e
   obtain⟨ea,ws,rfl,d2,d3,C,dx,cl,he,hx⟩:=DU.mp d1;obtain⟨F,n,hd⟩:=ok c (List.contains_iff_mem.mp hc) C cl;obtain⟨w,l,dw⟩:=hW d2 e;rcases hx with hx|⟨dd,rfl,hxd⟩
   ·subst hx;cases e
   ·exact⟨ea,C,dd,fs.zip ws,w,rfl,az _ _ _ _ he,az _ _ _ _ hxd,F,n,hd,l,q w H1 s1 dw⟩
  ·cases e⟩
end
theorem yu{X:Cx}{pos:Pos}{body suite:cD}{b₀:Kx}{g n:Str}{gp hpos:Pos}{F Fh:bJ}{cs:ap}{i:Nat}(hx:X.ex=[])(hst:X.stack=X.env::X.outer)(hf:X.env.frame=some X.env.locals)(hfn:∀x,X.fn x=true)
  (hT:oy X.K X.mg g cs) (hg:Gl X g) (hN:X.N.Nodup) (hi:X.N[i]?=some n) (hl:X.env.scope.names.lookup n=some .local)
  (hb:∀E pn,K5 (model X.prog X.w) X.A X.env E->mR (oj X E pn) body F) (hs:∀A pn,A.depth=X.A.depth->A.units=X.A.units->mR (kQ X A pn) (b₀::suite) Fh) (hdb:(g==("__debug__":Str))=false:=by decide):
  XS X (.Try body [.ExceptHandler (some (.Name g gp)) (some n) (b₀::suite) hpos] [] [] pos) (u6 cs i F Fh):=⟨TG.EZ hx hst hf hfn hT hg hN hi hl (λE pn hp=>(hb E pn hp).h) (λA pn h1 h2=>(hs A pn h1 h2).h) hdb⟩
noncomputable abbrev Lk(K:Jv)(f:Kv)(nm qual:Str)(st:Kx)(oc:Kt)(od:Option Kv)(kV dc pm:Kt)(an:Option Kv)(cd ct:Kt)(sl:Array (Option Kt)):Prop:=K.lookup f=some ⟨oc,od,.func (JN nm qual (eX st) (cA st) (aD st) .none kV dc pm an cd ct),sl⟩
structure sf(P:KA)(w:Kz)(K:Jv)(mg:bC)(base:KC)(k:Nat)(N:ap)(qual:Str)(st:Kx)(f:Kv)(B:bJ):Prop where
 h:∀(cdv:Kt)(A:KJ)(outer:List Env)(s:Ky)(H:Hp)(E:XK),dr k (A.deeper (Kh qual (aD st) s.heap.objs.size f cdv))->K5 (model P w) (A.deeper (Kh qual (aD st) s.heap.objs.size f cdv)) (Kh qual (aD st) s.heap.objs.size f cdv) (fG (iD P w) P w K mg base N qual (aD st) f cdv A outer s H E).xe->
  mR (fG (iD P w) P w K mg base N qual (aD st) f cdv A outer s H E) (cA st) B
theorem sf.ok{P:KA}{w:Kz}{K:Jv}{mg:bC}{base:KC}{k:Nat}{N:ap}{qual:Str}{st:Kx}{f:Kv}{B:bJ}(h:sf P w K mg base k N qual st f B):BodyOk P w K mg base k N qual st f B:=⟨λcdv A outer s H E hr hp=>(h.h cdv A outer s H E hr hp).h⟩
section
variable{X:Cx}{x:Str}{pos:Pos}
theorem xw(i:Nat)(hN:X.N[i]?=some x:=by rfl)(hv:Bp X.env.scope x:=by first|exact Or.inl rfl|exact Or.inr (Or.inl rfl)|exact Or.inr (Or.inr rfl))(hd:(x==("__debug__":Str))=false:=by decide)(hcd:(x==("__classdict__":Str))=false:=by decide):XE X (.Name x pos) (af i):=xS (xv i hN hv hd hcd)
theorem xi{a b:Kw}{fa fb:FX}(ha:XE X a fa)(hb:XE X b fb)(hs:nI b:=by exact λ_ _=>rfl):XE X (.Subscript a b pos) (f2 ak fa fb):=A6 ha hb hs
theorem xa1{e:Kw}{f:FX}(he:XE X e f)(h:noStar e=true:=by rfl):XA X [e] (aa f ah):=kx he qT h
theorem xa2{e e':Kw}{f f':FX}(he:XE X e f)(he':XE X e' f')(h:noStar e=true:=by rfl)(h':noStar e'=true:=by rfl):XA X [e,e'] (aa f (aa f' ah)):=kx he (xa1 he' h') h
theorem xs(i:Nat){e:Kw}{f:FX}{pos':Pos}(hN:X.N.Nodup)(he:XE X e f)(hi:X.N[i]?=some x:=by rfl)(hx:Loc X.env.scope x:=by first|exact Or.inl rfl|exact Or.inr rfl)(hs:swapsWith e (some (.Name x pos')) pos.line X.env=pure false:=by rfl)(hf:X.fn x=true\/X.env.scope.names.lookup x=some .local:=by first|exact .inl rfl|exact .inr rfl|assumption):XS X (.Assign [.Name x pos'] e pos) (aC i f):=zE hN hi hx he hs hf
end
noncomputable def Fw:ap->Bool
 |[]=>true
 |x::r=>!(r.contains x)&&Fw r
theorem lP{l:ap}(h:Fw l=true):l.Nodup:=by
 induction l with
 |nil=>exact List.nodup_nil
 |cons x r ih=>
  simp only[Fw,HI,IV]at h;exact List.nodup_cons.mpr ⟨λm=>by rw[List.contains_iff_mem.mpr m]at h;exact absurd h.1 (by decide),ih h.2⟩
noncomputable def zU:Kw->ap
 |.Name x _=>[x]
 |.Tuple es _ _=>es.filterMap λe=>match e with
  |.Name x _=>some x
  |_=>none
 |_=>[]
noncomputable def wH(N:ap):dy->ap->ap
 |[],_=>[]
 |some j::r,t=>N.getD j ""::wH N r t
 |none::r,x::t=>x::wH N r t
 |none::r,[]=>""::wH N r []
section
variable{X:Cx}{elt tg iter:Kw}{ifs:aU}{scope:KL}{ix:dy}{G:aN}{g:GF}{C:bu}{Fe:FX}{i:Nat}{y:Str}{lpos py pos:Pos}
theorem xl(hc:X.calm=true)(tk:jE ix g)(hi:XI X tg iter G)(hb:li X scope (wH X.N ix (zU tg)) tg elt ifs g C Fe)(ok:gj X.env.scope.names X.N scope (wH X.N ix (zU tg)) ix=true:=by rfl)(hs:∀x,K6 iter X.env x=pure x:=by intro _;rfl):XE X (.ListComp elt [⟨tg,iter,ifs,0⟩] scope pos) (dZ ix G g C Fe):=Aj hc (.of ok) tk hi hb hs
theorem Gu(hc:X.calm=true)(tk:jE ix g)(hi:XI X tg iter G)(hb:li X scope (wH X.N ix (zU tg)) tg elt ifs g C Fe)(ok:gj X.env.scope.names X.N scope (wH X.N ix (zU tg)) ix=true:=by rfl)(hs:∀x,K6 iter X.env x=pure x:=by intro _;rfl):XN X (.ListComp elt [⟨tg,iter,ifs,0⟩] scope pos) (dZ ix G g C Fe):=Bc hc (.of ok) tk hi hb hs
theorem Gy(hN:X.N.Nodup)(hc:X.calm=true)(tk:jE ix g)(hi:XI X tg iter G)(hb:li X scope (wH X.N ix (zU tg)) tg elt ifs g C Fe)(hi':X.N[i]?=some y:=by rfl)(hx:Loc X.env.scope y:=by first|exact Or.inl rfl|exact Or.inr rfl)(ok:gj X.env.scope.names X.N scope (wH X.N ix (zU tg)) ix=true:=by rfl)(hsw:swapsWith (.ListComp elt [⟨tg,iter,ifs,0⟩] scope lpos) (some (.Name y py)) pos.line X.env=pure true:=by rfl)(hs:∀x,K6 iter X.env x=pure x:=by intro _;rfl)(hf:X.fn y=true\/X.env.scope.names.lookup y=some .local:=by first|exact .inl rfl|exact .inr rfl|assumption):XS X (.Assign [.Name y py] (.ListComp elt [⟨tg,iter,ifs,0⟩] scope lpos) pos) (aC i (dZ ix G g C Fe)):=BI hN hi' hx hc (.of ok) tk hi hb hsw hs hf
theorem GP(hN:X.N.Nodup)(hc:X.calm=true)(tk:jE ix g)(hi:XI X tg iter G)(hb:li X scope (wH X.N ix (zU tg)) tg elt ifs g C Fe)(hi':X.N[i]?=some y:=by rfl)(hx:Loc X.env.scope y:=by first|exact Or.inl rfl|exact Or.inr rfl)(ok:gj X.env.scope.names X.N scope (wH X.N ix (zU tg)) ix=true:=by rfl)(hsw:swapsWith (.ListComp elt [⟨tg,iter,ifs,0⟩] scope lpos) (some (.Name y py)) pos.line X.env=pure true:=by rfl)(hs:∀x,K6 iter X.env x=pure x:=by intro _;rfl)(hf:X.fn y=true\/X.env.scope.names.lookup y=some .local:=by first|exact .inl rfl|exact .inr rfl|assumption):XS X (.Assign [.Name y py] (.ListComp elt [⟨tg,iter,ifs,0⟩] scope lpos) pos) (la i (dZ ix G g C Fe)):=uC hN hi' hx hc (.of ok) tk hi hb hsw hs hf
end
structure U where
 P:KA
 w:Kz
 K:Jv
 mg:bC
 base:KC
 cL:Kv
 T:Kv
noncomputable abbrev Ca(u:U)(k:Nat)(x:Str)(ps:ap)(g:cQ):Prop:=Callee u.P u.w u.K u.mg u.base k x ps g
noncomputable abbrev Ma(u:U)(k:Nat)(c m:Str)(ps:ap)(g:cQ):Prop:=MethAt u.P u.w u.K u.mg u.base k c m ps g
noncomputable abbrev Ta(u:U)(k:Nat)(m:Str)(ps:ap)(t:List (Str×(cQ))):Prop:=kU u.P u.w u.K u.mg u.base k m ps t
noncomputable def Df(u:U)(x:Str)(st:Kx):Prop:=∃f fd,pq u.K x x st f fd/\u.mg x=some (.ref f)
noncomputable def Dm(u:U)(c m qual:Str)(st:Kx):Prop:=∃C f fd,clsAt u.K c C/\pF u.K C/\Meth u.K C m f/\pq u.K m qual st f fd
noncomputable def Bd(x qual:Str)(st:Kx)(ps:ap):Prop:=∀us:aL,us.length=ps.length->∀(kV doc pm:Kt)(an:Option Kv)(cdv ct:Kt),bindArgs (JN x qual (eX st) (cA st) (aD st) .none kV doc pm an cdv ct) ⟨us,[]⟩=pure (ps.zip us)
theorem pq.bd{K:Jv}{x qual:Str}{st:Kx}{f:Kv}{fd:Ln}{ps:ap}(F:pq K x qual st f fd)(h:Bd x qual st ps):Binds K fd ps []:=F.binds λkV doc pm an cdv ct us e=>h us e kV doc pm an cdv ct
section
variable{u:U}{x c m qual:Str}{st:Kx}{ps:ap}{k:Nat}{B:bJ}
theorem DH(M:ap)(d:Df u x st)(b:Bd x x st ps)(sc:cu (ps++M) ps (aD st))(h:(ps++M).Nodup->∀f,sf u.P u.w u.K u.mg u.base k (ps++M) x st f B):Ca u (k+1) x ps (aF B ps.length (ps++M).length):=by
 obtain⟨f,fd,F,e⟩:=d;exact tx F (pq.bd F b) e sc (h sc.nd f).ok
theorem EL(d:Df u x st)(b:Bd x x st ps):Ca u k x ps λ_=>un:=by
 obtain⟨f,fd,F,e⟩:=d;exact oo k F (pq.bd F b) e
theorem GR(M:ap)(d:Dm u c m qual st)(b:Bd m qual st ps)(sc:cu (ps++M) ps (aD st))(h:(ps++M).Nodup->∀f,sf u.P u.w u.K u.mg u.base k (ps++M) qual st f B):Ma u (k+1) c m ps (aF B ps.length (ps++M).length):=by
 obtain⟨C,f,fd,h1,h2,h3,F⟩:=d;exact sI h1 h2 h3 F (pq.bd F b) sc (h sc.nd f).ok
theorem Gn(M:ap){f:Kv}{fd:Ln}(F:pq u.K x x st f fd)(sc:cu (ps++M) ps (aD st))(h:(ps++M).Nodup->sf u.P u.w u.K u.mg u.base k (ps++M) x st f B):dJ u.P u.w u.K u.mg u.base (iD u.P u.w) (k+1) f fd ps (uH u.K ps.length (aF B ps.length (ps++M).length)):=nh F sc (h sc.nd).ok
end
noncomputable def KD(K:Jv)(x:Str)(st:Kx):Prop:=∃f oc od kV dc pm an cd ct sl,JQ K KH x=some (some (.ref f))/\Lk K f x x st oc od kV dc pm an cd ct sl/\JO K cd x=true/\JK K (.ref f)=true
theorem KD.mk{K:Jv}{x:Str}{st:Kx}{f:Kv}{oc:Kt}{od:Option Kv}{kV dc pm:Kt}{an:Option Kv}{cd ct:Kt}{sl:Array (Option Kt)}(a:JQ K KH x=some (some (.ref f)))(l:Lk K f x x st oc od kV dc pm an cd ct sl)(c:JO K cd x=true)(k:JK K (.ref f)=true):KD K x st:=⟨f,oc,od,kV,dc,pm,an,cd,ct,sl,a,l,c,k⟩
noncomputable def KDs(K:Jv):List (Str×Kx)->Prop
 |[]=>True
 |p::r=>KD K p.1 p.2/\KDs K r
theorem KDs.mk{K:Jv}{x:Str}{st:Kx}{r:List (Str×Kx)}(h:KD K x st)(t:KDs K r):KDs K ((x,st)::r):=⟨h,t⟩
noncomputable def FL(u:U)(Z:Prop):List (Str×Kx)->Prop
 |[]=>Z
 |p::r=>FL u Z r/\Df u p.1 p.2
noncomputable def KZs(K:Jv):ap->Prop
 |[]=>True
 |x::r=>JQ K KH x=some none/\KZs K r
theorem KZs.mk{K:Jv}{x:Str}{r:ap}(h:JQ K KH x=some none)(t:KZs K r):KZs K (x::r):=⟨h,t⟩
noncomputable def Zs(u:U):ap->Prop
 |[]=>True
 |x::r=>Zs u r/\u.mg x=none
section
variable{u:U}{h:KC}
theorem FL.of{Z:Prop}(X:u.K.In h)(G:h.Ns KH u.mg)(z:Z):∀{l:List (Str×Kx)},KDs u.K l->FL u Z l
 |[],_=>z
 |_::_,h=>by
  obtain⟨⟨_,_,_,_,_,_,_,_,_,_,a,l,c,k⟩,r⟩:=h;exact⟨FL.of X G z r,_,_,fT l c k,J2 X G a⟩
theorem Zs.of(X:u.K.In h)(G:h.Ns KH u.mg):∀{l:ap},KZs u.K l->Zs u l
 |[],_=>trivial
 |_::_,⟨a,r⟩=>⟨Zs.of X G r,PySem.W.mg_none_of X G a⟩
end
theorem yF{us:aL}{n:Nat}(h:us.length=n+1):∃a r,us=a::r/\r.length=n:=by
 cases us with
 |nil=>cases h
 |cons a r=>exact⟨a,r,rfl,Nat.succ.inj h⟩
theorem DA{us:aL}(h:us.length=1):∃a,us=[a]:=List.length_eq_one_iff.mp h
theorem Bz{us:aL}(h:us.length=2):∃a b,us=[a,b]:=by
 obtain⟨a,r,rfl,k⟩:=yF h;obtain⟨b,rfl⟩:=DA k;exact⟨a,b,rfl⟩
theorem C2{us:aL}(h:us.length=3):∃a b c,us=[a,b,c]:=by
 obtain⟨a,r,rfl,k⟩:=yF h;obtain⟨b,c,rfl⟩:=Bz k;exact⟨a,b,c,rfl⟩
theorem Dk{us:aL}(h:us.length=4):∃a b c d,us=[a,b,c,d]:=by
 obtain⟨a,r,rfl,k⟩:=yF h;obtain⟨b,c,d,rfl⟩:=C2 k;exact⟨a,b,c,d,rfl⟩
theorem C3{us:aL}(h:us.length=5):∃a b c d e,us=[a,b,c,d,e]:=by
 obtain⟨a,r,rfl,k⟩:=yF h;obtain⟨b,c,d,e,rfl⟩:=Dk k;exact⟨a,b,c,d,e,rfl⟩
end TX
namespace TG
open L2
instance(priority:=low) noTabs:ax:=⟨λ_=>True,λ_ _=>trivial,λ_ _ _=>trivial⟩
open PySem PySem.Spec L2
theorem nr{α:Sort _}{a b:α}(h:a=b):a=b:=h
theorem cK{α β:Type}(a:α)(f:α->R β):Except.bind (Except.ok a:R α) f=f a:=nr rfl
theorem qO{α β:Type}(x:Option Ex)(f:α->R β):Except.bind (Except.error x:R α) f=.error x:=nr rfl
theorem o9{α:Type}(a:α)(k:Ks)(ρ:aw)(f:α->R D):jF (.ok a) k ρ f=f a:=nr rfl
theorem sB{α:Type}(x:Ex)(k:Ks)(ρ:aw)(f:α->R D):jF (.error (some x)) k ρ f=k.ex x ρ:=nr rfl
theorem gR{α:Type}(a:α):AZ (.ok a:R α)=.ok a:=nr rfl
theorem df{α:Type}(a:α):rO (some a)=.ok a:=nr rfl
theorem ge_0(d:D)(ρ:aw):kY (some (.val d)::ρ) 0=.ok d:=rfl
theorem zv(x:Option S)(ρ:aw)(i:Nat):kY (x::ρ) (i+1)=kY ρ i:=rfl
theorem mI(i:Nat)(ρ:aw):af i ρ=kY ρ i:=rfl
theorem zr(d:D)(ρ:aw):fC d ρ=.ok d:=rfl
theorem nV(ρ:aw):ah ρ=.ok []:=rfl
theorem j4(f:FX)(g:aN)(ρ:aw):aa f g ρ=(f ρ).bind λx=>(g ρ).bind λxs=>.ok (x::xs):=rfl
theorem n9(g:aN)(ρ:aw):a9 g ρ=(g ρ).bind λxs=>rO (lW xs):=rfl
theorem nA(g:aN)(ρ:aw):eI g ρ=(g ρ).bind λxs=>rO (kM xs):=rfl
theorem yI(g:D->aZ)(f:FX)(ρ:aw):f1 g f ρ=(f ρ).bind λa=>rO (g a):=rfl
theorem zn(g:D->D->aZ)(f h:FX)(ρ:aw):f2 g f h ρ=(f ρ).bind λa=>(h ρ).bind λb=>rO (g a b):=rfl
theorem zi(f:FX)(ρ:aw):fB f ρ=(f ρ).bind λd=>rO (Ej d):=rfl
theorem xD(g:List D->aZ)(f:aN)(ρ:aw):fL g f ρ=(f ρ).bind λds=>rO (g ds):=rfl
theorem yk(g:cQ)(f:aN)(ρ:aw):fR g f ρ=(f ρ).bind g:=nr rfl
theorem nT(f:bu)(ρ:aw):kj f ρ=(f ρ).bind λb=>.ok (!b):=rfl
theorem nK(f g:bu)(ρ:aw):oM f g ρ=(f ρ).bind λb=>if b then g ρ else .ok false:=rfl
theorem rP(f g:bu)(ρ:aw):uF f g ρ=(f ρ).bind λb=>if b then .ok true else g ρ:=rfl
theorem iB(f:FX)(ρ:aw):cC f ρ=(f ρ).bind λd=>rO (truth d):=rfl
theorem j3(f g:FX)(ρ:aw):iO f g ρ=(f ρ).bind λd=>qI d (g ρ):=rfl
theorem mU(f g:FX)(ρ:aw):qH f g ρ=(f ρ).bind λd=>Cw d (g ρ):=rfl
theorem jN(f:FX)(ρ:aw):pA f ρ=(f ρ).bind λa=>rO (BM a):=rfl
theorem rj(t:bu)(f g:FX)(ρ:aw):Ea t f g ρ=(t ρ).bind λc=>if c then f ρ else g ρ:=rfl
theorem mM(T:String)(f:FX)(ρ:aw):kz T f ρ=(f ρ).bind λa=>rO (qj T a):=rfl
theorem mZ(f:FX)(ρ:aw):oY f ρ=(f ρ).bind λa=>.ok (.bl (isNon a)):=rfl
theorem jX(f:FX)(ρ:aw):CM f ρ=(f ρ).bind λa=>.ok (.bl (!isNon a)):=rfl
theorem mH(f:FX)(ρ:aw):tN f ρ=(f ρ).bind λa=>rO (AU a):=rfl
theorem ig(f:FX)(ρ:aw):BX f ρ=(f ρ).bind λa=>rO (vZ a):=rfl
theorem mO(f:FX)(ρ:aw):ED f ρ=(f ρ).bind λa=>rO (BE a):=rfl
theorem iU(g g':D->D->aZ)(fa fb fc:FX)(ρ:aw):eN g g' fa fb fc ρ=(fa ρ).bind λx=>(fb ρ).bind λy=>(rO (g x y)).bind λz=>qI z ((fc ρ).bind λw=>rO (g' y w)):=rfl
theorem iw(f:FX)(ρ:aw):bP f ρ=(f ρ).bind λd=>rO (kH d):=rfl
theorem gm(f:aN)(ρ:aw):bh f ρ=(f ρ).bind λds=>rO (dB ds):=rfl
theorem gG(f:aN)(ρ:aw):zg f ρ=(f ρ).bind λds=>rO (rM ds):=rfl
theorem ng(f:aN)(ρ:aw):uZ f ρ=(f ρ).bind λds=>rO (uB ds):=rfl
theorem jK(f:aN)(ρ:aw):de f ρ=(f ρ).bind λds=>rO (lJ ds):=rfl
theorem nq(f:FX)(g:aN)(ρ:aw):fV f g ρ=(f ρ).bind λa=>(rO (D9 a)).bind λz=>(g ρ).bind λds=>rO (kO z ds):=rfl
theorem nU(z:Str):D9 (.str z)=some z:=rfl
theorem gu(ρ:aw):aP ρ=.ok none:=rfl
theorem jO(f:FX)(ρ:aw):aV f ρ=(f ρ).bind λd=>rO (qg d):=rfl
theorem ii(f:FX)(l h:aw->R bY)(ρ:aw):aT f l h ρ=(f ρ).bind λa=>(l ρ).bind λlo=>(h ρ).bind λhi=>rO (gb a lo hi):=rfl
theorem j5(ρ:aw):bw ρ=.ok true:=rfl
theorem jI(k:Ks)(ρ:aw):aW k ρ=k.nx ρ:=nr rfl
theorem dj(A B:bJ)(k:Ks)(ρ:aw):au A B k ρ=A {k with nx:=B k} ρ:=nr rfl
theorem jU(f:FX)(k:Ks)(ρ:aw):aY f k ρ=jF (f ρ) k ρ .ok:=nr rfl
theorem iV(k:Ks)(ρ:aw):CA k ρ=.ok .non:=nr rfl
theorem nE(c:bu)(A B:bJ)(k:Ks)(ρ:aw):cU c A B k ρ=jF (c ρ) k ρ λb=>if b then A k ρ else B k ρ:=nr rfl
theorem iG(i:Nat)(f:FX)(k:Ks)(ρ:aw):aC i f k ρ=jF (f ρ) k ρ λd=>k.nx (setV i d ρ):=nr rfl
theorem iJ(is:List Nat)(F:bJ)(k:Ks)(ρ:aw):dR is F k ρ=F k (kill is ρ):=nr rfl
theorem dS(G:aN)(g:GF)(B:bJ)(k:Ks)(ρ:aw):ll G g B k ρ=jF (G ρ) k ρ λds=>cW g B k ds ρ:=nr rfl
theorem yY(d:D)(x:Option S)(ρ:aw):setV 0 d (x::ρ)=some (.val d)::ρ:=rfl
theorem yK(i:Nat)(d:D)(x:Option S)(ρ:aw):setV (i+1) d (x::ρ)=x::setV i d ρ:=rfl
theorem nN(ρ:aw):kill [] ρ=ρ:=rfl
theorem jY(i:Nat)(is:List Nat)(ρ:aw):kill (i::is) ρ=kill is (ρ.set i none):=rfl
theorem eQ(B:bJ)(n:Nat)(a:D):aF B 1 n [a]=B K0 (env0 n [a]):=nr rfl
theorem bF(B:bJ)(n:Nat)(a b:D):aF B 2 n [a,b]=B K0 (env0 n [a,b]):=nr rfl
theorem kB(B:bJ)(n:Nat)(a b c:D):aF B 3 n [a,b,c]=B K0 (env0 n [a,b,c]):=nr rfl
theorem qv(B:bJ)(n:Nat)(a b c d:D):aF B 4 n [a,b,c,d]=B K0 (env0 n [a,b,c,d]):=nr rfl
theorem Ba(B:bJ)(n:Nat)(a b c d e:D):aF B 5 n [a,b,c,d,e]=B K0 (env0 n [a,b,c,d,e]):=nr rfl
theorem nY(ρ:aw):inB [] ρ=[]:=rfl
theorem jQ(ix:dy)(ρ:aw):inB (none::ix) ρ=none::inB ix ρ:=rfl
noncomputable def pick(ρ:aw)(i:Nat):Option S:=match ρ[i]? with
 |some (some (.val d))=>some (.val d)
 |_=>none
theorem jW(i:Nat)(ix:dy)(ρ:aw):inB (some i::ix) ρ=pick ρ i::inB ix ρ:=rfl
theorem x6(d:D)(ρ:aw):pick (some (.val d)::ρ) 0=some (.val d):=rfl
theorem zC(x:Option S)(ρ:aw)(i:Nat):pick (x::ρ) (i+1)=pick ρ i:=rfl
theorem jZ(i:Nat)(f:FX)(k:Ks)(ρ:aw):la i f k ρ=jF (f ρ) k ρ λd=>k.nx (ρ.set i (some (.own d))):=nr rfl
theorem jM(i:Nat)(F:bJ)(k:Ks)(ρ:aw):oV i F k ρ=F k (frz i ρ):=nr rfl
theorem xM(d:D)(ρ:aw):frz 0 (some (.own d)::ρ)=some (.val d)::ρ:=rfl
theorem sA(d:D)(ρ:aw):frz 0 (some (.val d)::ρ)=some (.val d)::ρ:=rfl
theorem xR(i:Nat)(x:Option S)(ρ:aw):frz (i+1) (x::ρ)=x::frz i ρ:=by
 unfold frz;rw[Iz];split<;>rename_i h
 ·rw[h];rfl
 ·rfl
theorem vE(i:Nat)(u:List D->List D->Option (List D))(f:aN)(k:Ks)(ρ:aw){xs:List D}(h:ρ[i]?=some (some (.own (.lst xs)))):zF i u f k ρ=jF (f ρ) k ρ λds=>(rO (u xs ds)).bind λys=>k.nx (ρ.set i (some (.own (.lst ys)))):=by
 unfold zF;rw[h]
theorem wK{xs:List D}{y:D}(h:xs.length<100000):oC xs [y]=some (xs++[y]):=by
 show(if small (xs.length+1)then some (xs++[y])else none)=_;rw[cx ‹0›];rfl
theorem nX(i j:Int):aI (.int i) (.int j)=some (.int (i+j)):=nr rfl
theorem mG(i j:Int):TG.cI (.int i) (.int j)=some (.int (i-j)):=nr rfl
theorem rk(i j:Int):Gq (.int i) (.int j)=some (.bl (decide (i<j))):=nr rfl
theorem mV(i j:Int):eW (.int i) (.int j)=some (.bl (decide (i<j))):=nr rfl
theorem nG(x y:Str):eW (.str x) (.str y)=some (.bl (decide (x.cps.toList<y.cps.toList))):=nr rfl
theorem mP(c d:Bool):EC (.bl c) (.bl d)=some (.bl (c==d)):=nr rfl
theorem gw(c d:Bool):yX (.bl c) (.bl d)=some (.bl (!(c==d))):=nr rfl
theorem sC(i j:Int):ug (.int i) (.int j)=some (.bl (decide (i<=j))):=nr rfl
theorem si(i j:Int):xu (.int i) (.int j)=some (.bl (decide (j<i))):=nr rfl
theorem qK(i j:Int):Bu (.int i) (.int j)=some (.bl (decide (j<=i))):=nr rfl
theorem nJ(i:Int):AU (.int i)=some (.int (-i)):=nr rfl
theorem aJ{i j:Int}(h:0<j):aE (.int i) (.int j)=some (.int (i%j)):=by
 show(if decide (0<j)then some (D.int (i%j))else none)=_;rw[decide_eq_true h];rfl
theorem bn{i j:Int}(h:0<j)(h':j<10^200):bc (.int i) (.int j)=some (.int (i/j)):=by
 show(if decide (0<j/\j<10^200)then some (D.int (i/j))else none)=_;rw[decide_eq_true ⟨h,h'⟩];rfl
theorem gI{i j:Int}(h:-(2^64)<i)(h':i<2^64):fN (.int i) (.int j)=some (.int (i*j)):=by
 show(if decide ((-(2^64)<i/\i<2^64)\/(-(2^64)<j/\j<2^64))then some (D.int (i*j))else none)=_;rw[decide_eq_true (.inl ⟨h,h'⟩)];rfl
theorem iL{i j:Int}(h:-(2^64)<j)(h':j<2^64):fN (.int i) (.int j)=some (.int (i*j)):=by
 show(if decide ((-(2^64)<i/\i<2^64)\/(-(2^64)<j/\j<2^64))then some (D.int (i*j))else none)=_;rw[decide_eq_true (.inr ⟨h,h'⟩)];rfl
theorem jf(i:Int)(n:Nat)(h:n<=1000000)(h':i.natAbs<2^64):dG (.int i) (.int n)=some (.int (i^n)):=by
 show(if decide (0<=(n:Int)/\(n:Int)<=1000000/\i.natAbs<2^64)then some (D.int (i^(n:Int).toNat))else none)=_;rw[decide_eq_true ⟨by omega,by omega,h'⟩];rfl
theorem wM:dG (.int 10) (.int 59)=some (.int (10^59)):=jf 10 59 (by decide) (by decide)
noncomputable def nB:Int:=10^59
noncomputable def vO:Int:=10^60
theorem wU:1000000<nB/\nB*10=vO:=by decide +kernel
theorem zR:1000000<vO/\vO<10^199/\vO<10^69:=by decide +kernel
theorem Be:dG (.int 10) (.int 59)=some (.int nB):=wM
theorem hZ(i j:Int):et (.int i) (.int j)=some (.bl (i==j)):=by unfold et pyEq;rfl
theorem h7(i j:Str):et (.str i) (.str j)=some (.bl (i==j)):=by unfold et pyEq;rfl
theorem iz(i j:Bool):et (.bl i) (.bl j)=some (.bl (i==j)):=by unfold et pyEq;rfl
theorem iu(i j:Int):j0 (.int i) (.int j)=some (.bl (!(i==j))):=by unfold j0 pyEq;rfl
theorem ip(i j:Str):j0 (.str i) (.str j)=some (.bl (!(i==j))):=by unfold j0 pyEq;rfl
theorem ib(i j:Bool):j0 (.bl i) (.bl j)=some (.bl (!(i==j))):=by unfold j0 pyEq;rfl
theorem lw{α:Type}(xs:List α)(n:Nat):jc xs (n:Int)=xs[n]?:=by
 unfold jc pH;rw[if_pos ‹0›];by_cases h:n<xs.length
 ·rw[if_pos ‹0›];rfl
 ·rw[if_neg ‹0›,IW ‹0›];rfl
theorem ua{α:Type}(a:α)(xs:List α):jc (a::xs) 0=some a:=lw (a::xs) 0
theorem tQ{α:Type}(a:α)(xs:List α)(n:Nat):jc (a::xs) ((n+1:Nat):Int)=jc xs (n:Int):=by
 rw[lw,lw,Iz]
theorem Ai(xs:List D)(i:Int):ak (.tup xs) (.int i)=jc xs i:=nr rfl
theorem zk(xs:List D)(i:Int):ak (.lst xs) (.int i)=jc xs i:=nr rfl
theorem qV(a:D)(xs:List D):ak (.tup (a::xs)) (.int 0)=some a:=ua a xs
theorem rm(a b:D)(xs:List D):ak (.tup (a::b::xs)) (.int 1)=some b:=(tQ a _ 0).trans (ua b xs)
theorem rG(a b c:D)(xs:List D):ak (.tup (a::b::c::xs)) (.int 2)=some c:=(tQ a _ 1).trans ((tQ b _ 0).trans (ua c xs))
theorem qL(a:D)(xs:List D):ak (.lst (a::xs)) (.int 0)=some a:=ua a xs
theorem se(a b:D)(xs:List D):ak (.lst (a::b::xs)) (.int 1)=some b:=(tQ a _ 0).trans (ua b xs)
theorem rg(a b c:D)(xs:List D):ak (.lst (a::b::c::xs)) (.int 2)=some c:=(tQ a _ 1).trans ((tQ b _ 0).trans (ua c xs))
theorem ir(xs:List D):cT [.lst xs]=some (.int xs.length):=nr rfl
theorem iM(xs:List D):cT [.tup xs]=some (.int xs.length):=nr rfl
theorem eM(xs:List D):bO [.lst xs]=some (.tup xs):=nr rfl
theorem fg(xs:List D):bO [.tup xs]=some (.tup xs):=nr rfl
theorem ny(b:Bool):Ej (.bl b)=some b:=nr rfl
theorem gk(i:Int):qg (.int i)=some (some i):=nr rfl
theorem fu(b:Bool):truth (.bl b)=some b:=nr rfl
theorem eZ(xs:List D):truth (.tup xs)=some (!xs.isEmpty):=nr rfl
theorem fq(xs:List D):truth (.lst xs)=some (!xs.isEmpty):=nr rfl
theorem n6(i j:Int):CJ [.int i,.int j]=some (.int (if j>i then j else i)):=nr rfl
theorem nO(i j:Int):CP [.int i,.int j]=some (.int (if j<i then j else i)):=nr rfl
theorem eK(xs:List D):kH (.lst xs)=some xs:=nr rfl
theorem eP(xs:List D):kH (.tup xs)=some xs:=nr rfl
theorem iE(k:R D):qI (.bl true) k=k:=nr rfl
theorem iy(k:R D):qI (.bl false) k=.ok (.bl false):=nr rfl
theorem jL(k:R D):Cw (.bl true) k=.ok (.bl true):=nr rfl
theorem jS(k:R D):Cw (.bl false) k=k:=nr rfl
theorem iQ(a b:Bool):qI (.bl a) (.ok (.bl b))=.ok (.bl (a&&b)):=by cases a<;>rfl
theorem j6(a b:Bool):Cw (.bl a) (.ok (.bl b))=.ok (.bl (a||b)):=by cases a<;>rfl
theorem nM(b:Bool):BM (.bl b)=some (.bl (!b)):=nr rfl
theorem mS(xs:List D):BE (.lst xs)=some (.lst xs.reverse):=nr rfl
theorem eE(n:Nat)(h:n<2^62):dB [.int n]=some (bG 0 n):=by
 show(if okR (n:Int)then some (bG 0 ((n:Int).toNat))else none)=_
 have:okR (n:Int)=true:=decide_eq_true ⟨by omega,by omega⟩
 rw[this];rfl
theorem ia{α:Type}(f:α->D)(h:∀a,pl (f a)=true):∀xs:List α,eB (xs.map f)=true
 |[]=>rfl
 |x::xs=>by
  show(pl (f x)&&eB (xs.map f))=true;rw[h,ia f h xs];rfl
theorem y8(f:Str->D)(hf:f=D.str)(w:Str)(ws:ap):inD (.str w) (ws.map f)=ws.any λy=>y==w:=by
 subst hf;unfold inD;rw[IQ];congr 1
theorem qJ(w:Str)(ws:ap):xr (.str w) (.tup (ws.map .str))=some (.bl (ws.contains w)):=by
 show(if(pl (.str w)&&eB (ws.map .str))&&cn 8 (.str w)then some (D.bl (inD (.str w) (ws.map .str)))else none)=_;rw[y8 _ rfl,ia _ λ_=>rfl];show some (D.bl _)=_;congr 2
 induction ws with
 |nil=>rfl
 |cons x xs ih=>rw[Ii,II,ih,Bool.beq_comm]
theorem ja(xs ys:List D)(h:xs.length+ys.length<=100000):aI (.lst xs) (.lst ys)=some (.lst (xs++ys)):=by
 show(if small (xs.length+ys.length)then some (D.lst (xs++ys))else none)=_;rw[cx h];rfl
theorem cg(xs ys:List D)(h:xs.length+ys.length<=100000):aI (.tup xs) (.tup ys)=some (.tup (xs++ys)):=by
 show(if small (xs.length+ys.length)then some (D.tup (xs++ys))else none)=_;rw[cx h];rfl
theorem jV(xs:List D)(lo hi:bY):gb (.lst xs) lo hi=some (.lst (cutD xs lo hi)):=nr rfl
theorem jR(xs:List D)(lo hi:bY):gb (.tup xs) lo hi=some (.tup (cutD xs lo hi)):=nr rfl
theorem cv{ix:dy}{G:aN}{g:GF}{C:bu}{Fe:FX}{ρ:aw}{ds r:List D}(h1:G ρ=.ok ds)(h2:ds.length<=100000)(h3:oh (inB ix ρ) g C Fe ds=.ok r):dZ ix G g C Fe ρ=.ok (.lst r):=by
 unfold dZ;rw[h1,cK,cx h2,h3];rfl
theorem kN{α:Type}{ρ:aw}{g:GF}{C:bu}{Fe:FX}(mk:α->D)(p:α->Bool)(v:α->D):∀xs:List α,(∀a∈xs,∃ρ1,g (mk a) ρ=some ρ1/\C ρ1=.ok (p a)/\Fe ρ1=.ok (v a))->
  oh ρ g C Fe (xs.map mk)=.ok ((xs.filter p).map v)
 |[],_=>rfl
 |a::xs,h=>by
  obtain⟨ρ1,h1,h2,h3⟩:=h a G8;rw[Hq,ie,h1,df,cK,h2,gR,cK,h3,gR,cK,kN mk p v xs λb hb=>h b (G9 _ hb)];cases e:p a with
  |true=>rw[if_pos rfl,List.filter_cons_of_pos e];rfl
  |false=>rw[if_neg Hm,List.filter_cons_of_neg (by simp[e])]
theorem eY{α:Type}{ρ:aw}{g:GF}{C:bu}{Fe:FX}(mk:α->D)(v:α->D)(xs:List α)(h:∀a∈xs,∃ρ1,g (mk a) ρ=some ρ1/\C ρ1=.ok true/\Fe ρ1=.ok (v a)):oh ρ g C Fe (xs.map mk)=.ok (xs.map v):=by
 rw[kN mk (λ_=>true) v xs h,List.filter_eq_self.mpr λ_ _=>rfl]
theorem iR{ρ:aw}{g:GF}{C:bu}{Fe:FX}(P:D->Prop):∀ds:List D,(∀d∈ds,∃ρ1 v,g d ρ=some ρ1/\C ρ1=.ok true/\Fe ρ1=.ok v/\P v)->∃vs:List D,vs.length=ds.length/\(∀v∈vs,P v)/\oh ρ g C Fe ds=.ok vs
 |[],_=>⟨[],rfl,(λ_ h=>nomatch h),rfl⟩
 |d::ds,h=>by
  obtain⟨ρ1,w,h1,h2,h3,h4⟩:=h d G8;obtain⟨ws,e1,e2,e3⟩:=iR P ds λd' hd=>h d' (G9 _ hd);refine⟨w::ws,by rw[Ho,Ho,e1],λw' hw=>?_,?_⟩
  ·rcases List.mem_cons.mp hw with z|z
   ·rw[z];exact h4
   ·exact e2 w' z
  ·rw[ie,h1,df,cK,h2,gR,cK,h3,gR,cK,e3];rfl
theorem rX{g:GF}{B:bJ}{k:Ks}(Iv:Nat->aw->Prop):∀(ds:List D)(i:Nat)(ρ:aw),(∀j d ρ (k':Ks),i<=j->ds[j-i]?=some d->Iv j ρ->∃ρ1 ρ2,g d ρ=some ρ1/\Iv (j+1) ρ2/\B k' ρ1=k'.nx ρ2)->Iv i ρ->∃ρ',Iv (i+ds.length) ρ'/\cW g B k ds ρ=k.nx ρ'
 |[],i,ρ,_,h=>⟨ρ,h,rfl⟩
 |d::ds,i,ρ,st,h=>by
  obtain⟨ρ1,ρ2,e1,h2,e2⟩:=st i d ρ ⟨cW g B k ds,k.nx,cW g B k ds,k.ex⟩ (Hj _) (by rw[IL];rfl) h;obtain⟨ρ',h3,e3⟩:=rX (g:=g) (B:=B) (k:=k) Iv ds (i+1) ρ2 (λj d' ρ k' hj hd=>st j d' ρ k' ‹0› (by rw[show j-i=(j-(i+1))+1 by omega,Iz];exact hd)) h2;refine⟨ρ',?_,?_⟩
  ·rw[Ho]
   have:i+(ds.length+1)=i+1+ds.length:=(by omega);rw[this];exact h3
  ·show((rO (g d ρ)).bind λρ1=>B ⟨cW g B k ds,k.nx,cW g B k ds,k.ex⟩ ρ1)=_;rw[e1,df,cK,e2];exact e3
theorem jJ{g:GF}{B:bJ}{k:Ks}{ds:List D}{ρ:aw}{Q:R D->Prop}(Iv:Nat->aw->Prop)(st:∀i d ρ (k':Ks),ds[i]?=some d->Iv i ρ->∃ρ1 ρ2,g d ρ=some ρ1/\Iv (i+1) ρ2/\B k' ρ1=k'.nx ρ2)(h:Iv 0 ρ)(q:∀ρ',Iv ds.length ρ'->Q (k.nx ρ')):Q (cW g B k ds ρ):=by
 obtain⟨ρ',h1,e⟩:=rX (k:=k) Iv ds 0 ρ (λj d ρ k' _ hd=>st j d ρ k' hd) h;rw[e];rw[IG]at h1;exact q ρ' h1
theorem cy{α:Type}{xs:List α}{i:Nat}{a:α}(h:xs[i]?=some a):i<xs.length:=by
 rcases IX i xs.length with z|z
 ·exact z
 ·rw[IW z]at h;cases h
theorem yH{α β:Type}(f:α->β)(xs:List α)(i:Int):jc (xs.map f) i=(jc xs i).map f:=by
 unfold jc;rw[Hr];cases pH xs.length i with
 |none=>rfl
 |some j=>simp
theorem ow{α:Type}{xs:List α}{k:Nat}(h:k<xs.length):jc xs (k:Int)=some xs[k]:=by
 unfold jc pH;rw[if_pos ‹0›,if_pos ‹0›];simp[h]
theorem sk{α:Type}{xs:List α}{i:Int}(h0:0<=i)(h:i<xs.length):jc xs i=some (xs[i.toNat]'‹0›):=by
 have e:i=((i.toNat:Nat):Int):=by omega
 conv=>lhs;rw[e]
 exact ow ‹0›
noncomputable def z8:bJ:=au (cU (fB (f2 eW (af 1) (fL cT (aa (af 0) ah)))) (aY (f2 ak (af 0) (af 1))) aW) (aY (fC (.int 0)))
theorem ym(ns:List Int)(k:Nat):aF z8 2 2 [.lst (ns.map .int),.int k]=.ok (.int (ns.getD k 0)):=by
 show(if decide ((k:Int)<((ns.map D.int).length:Int))then jF (rO (jc (ns.map D.int) (k:Int))) _ _ .ok else .ok (.int 0))=_;rw[Hr];by_cases h:k<ns.length
 ·rw[if_pos (by simpa using h),yH,ow h,Option.map_some,IY,Ia h];rfl
 ·rw[if_neg (by simpa using h),IY,IW ‹0›];rfl
theorem vx(ns:List Int)(i:Int)(h:0<=i):∃c:Int,aF z8 2 2 [.lst (ns.map .int),.int i]=.ok (.int c):=by
 have e:i=((i.toNat:Nat):Int):=by omega
 exact⟨ns.getD i.toNat 0,by rw[e];exact ym ns i.toNat⟩
theorem mi(x:Str)(h:x.length<=1000)(lo hi:bY):∃y:Str,y.length<=x.length/\gb (.str x) lo hi=some (.str y):=by
 refine⟨⟨(cutD x.cps.toList lo hi).toArray⟩,?_,?_⟩
 ·show(cutD x.cps.toList lo hi).toArray.size<=x.cps.size;rw[Hl]
  have:=f7 x.cps.toList lo hi
  rw[Array.length_toList]at this;exact this
 ·show(if small x.length then some (D.str ⟨(cutD x.cps.toList lo hi).toArray⟩)else none)=_;rw[cx ‹0›];rfl
theorem gH(x y:Str):(x++y).length=x.length+y.length:=by
 show(x.cps++y.cps).size=_;rw[Array.size_append];rfl
theorem iW(x y:Str)(h:x.length<=1000)(h':y.length<=1000):aI (.str x) (.str y)=some (.str (x++y)):=by
 show(if small (x.length+y.length)then some (D.str (x++y))else none)=_;rw[cx ‹0›];rfl
theorem rS(x:Str)(h:x.length<=1000)(i:Int)(h0:0<=i)(h1:i<x.length):∃y:Str,y.length=1/\ak (.str x) (.int i)=some (.str y):=by
 have hl:x.cps.toList.length=x.length:=by simp[Str.length]
 have hi:i<x.cps.toList.length:=by omega
 refine⟨⟨#[x.cps.toList[i.toNat]'‹0›]⟩,rfl,?_⟩;show(if small x.length then(jc x.cps.toList i).bind λc=>some (D.str ⟨#[c]⟩)else none)=_;rw[cx ‹0›,if_pos rfl,sk h0 hi];rfl
theorem hJ{lo:Int}{n:Nat}{d:D}(h:d∈bG lo n):∃k:Nat,k<n/\d=.int (lo+k):=by
 unfold bG at h;obtain⟨k,h1,h2⟩:=List.mem_map.mp h;exact⟨k,List.mem_range.mp h1,h2.symm⟩
theorem gz(lo:Int)(n:Nat):bG lo n=(List.range n).map λ(k:Nat)=>D.int (lo+(k:Int)):=nr rfl
theorem bE(lo:Int)(n:Nat):(bG lo n).length=n:=by unfold bG;rw[Hr,Il]
theorem uN{α:Type}{xs:List α}{lo hi:bY}{a:α}(h:a∈cutD xs lo hi):a∈xs:=IZ (List.mem_of_mem_take h)
theorem rL{α β:Type}(f:α->β)(xs:List α)(lo hi:bY):cutD (xs.map f) lo hi=(cutD xs lo hi).map f:=by
 unfold cutD;rw[Hr,<-I0,<-Ja]
theorem mj(g:Array Nat):∀(ps:ap)(a:Array Nat),(ps.foldl (λacc p=>acc++g++p.cps) a).size=a.size+ps.length*g.size+(ps.map (λy=>y.length)).sum
 |[],a=>by simp
 |p::ps,a=>by
  rw[List.foldl_cons,mj g ps,Array.size_append,Array.size_append,Ho,Hq,Jb,Nat.succ_mul];show _=a.size+(ps.length*g.size+g.size)+(p.cps.size+_);omega
theorem vg(ys:ap):(Txt.join "" ys).length=(ys.map (λy=>y.length)).sum:=by
 have e0:(("":Str)).cps.size=0:=by decide +kernel
 cases ys with
 |nil=>show(List.foldl _ _ _:Array Nat).size=_;simp[Str.empty]
 |cons y ys=>
  show(List.foldl (λacc p=>acc++(("":Str)).cps++p.cps) y.cps ys).size=_;rw[mj,e0];simp[Str.length]
theorem kg:∀ys:ap,iK (ys.map .str)=some ys
 |[]=>rfl
 |y::ys=>by
  show(iK (ys.map .str)).bind (λzs=>some (y::zs))=_;rw[kg ys];rfl
theorem rE(ys:ap)(h:(ys.map (λy=>y.length)).sum<=1000):∃x:Str,x.length=(ys.map (λy=>y.length)).sum/\kO "" [.lst (ys.map .str)]=some (.str x):=by
 refine⟨Txt.join "" ys,vg ys,?_⟩;have e0:(("":Str)).length=0:=by decide +kernel
 have e:kO "" [.lst (ys.map .str)]=(iK (ys.map .str)).bind λys=>if small ((ys.map (λy=>y.length)).sum+ys.length*(("":Str)).length)then some (.str (Txt.join "" ys))else none:=rfl
 rw[e,kg];show(if small _ then _ else _)=_;rw[e0,cx ‹0›];rfl
theorem mF(n:Nat):∀vs:List D,(∀v∈vs,∃w:Str,v=.str w/\w.length<=n)->∃ws:ap,vs=ws.map .str/\∀w∈ws,w.length<=n
 |[],_=>⟨[],rfl,λ_ h=>nomatch h⟩
 |v::vs,h=>by
  obtain⟨w,rfl,hw⟩:=h v G8;obtain⟨ws,rfl,h2⟩:=mF n vs λv' hv=>h v' (G9 _ hv);refine⟨w::ws,rfl,λw' hw'=>?_⟩;rcases List.mem_cons.mp hw' with z|z
  ·rw[z];exact hw
  ·exact h2 w' z
theorem vB(n:Nat):∀ws:ap,(∀w∈ws,w.length<=n)->(ws.map (λy=>y.length)).sum<=ws.length*n
 |[],_=>by simp
 |w::ws,h=>by
  have:=vB n ws λw' h'=>h w' (G9 _ h')
  have h1:=h w G8;rw[Hq,Jb,Ho,Nat.succ_mul];omega
theorem ji{α:Type}(xs:List α)(m:Nat):cutD xs none (some (m:Int))=xs.take m:=by
 unfold cutD;rw[HT.C8,HT.DN,HW,Im];rcases Nat.le_total m xs.length with h|h
 ·rw[Nat.min_eq_left h]
 ·rw[Nat.min_eq_right h,Jc h,Jc (Hj _)]
theorem fP{α:Type}(xs:List α)(m:Nat):cutD xs (some (m:Int)) none=xs.drop m:=by
 unfold cutD;rw[HT.C8,HT.DN];rcases Nat.le_total m xs.length with h|h
 ·rw[Nat.min_eq_left h];exact Jc (by rw[HH];exact Hj _)
 ·rw[Nat.min_eq_right h,IL,HS,List.drop_eq_nil_of_le h]
local macro_rules
 |`(tactic| simp! only[$xs,*])=>`(tactic| simp only[cK,qO,o9,sB,gR,df,ge_0,zv,mI,zr,nV,j4,n9,nA,yI,zn,zi,xD,yk,nT,nK,rP,iB,j3,mU,jN,rj,mM,mZ,jX,mH,ig,mO,iU,iw,gm,gG,ng,jK,gu,jO,ii,j5,jI,dj,jU,iV,nE,iG,iJ,dS,jZ,jM,xM,sA,xR,yY,yK,nN,jY,nY,jQ,jW,x6,zC,Jd,Je,Hq,HM,HR,Ij,K0,env0,List.replicate,IM,Hu,IG,Nat.reduceAdd,Nat.reduceSub,Ho,IT,nX,mG,rk,mV,nG,mP,gw,nU,sC,si,qK,nJ,hZ,h7,iz,iu,ip,ib,qV,rm,rG,qL,se,rg,ir,iM,eM,fg,ny,gk,fu,eZ,fq,n6,nO,eK,eP,iE,iy,jL,jS,iQ,j6,nM,mS,jV,jR,gN,if_true,if_false,Jf,Jg,HQ,$xs,*])
theorem xU(a b c:D):lW [a,b,c]=some (.tup [a,b,c]):=nr rfl
theorem oa(a b:D):lW [a,b]=some (.tup [a,b]):=nr rfl
theorem Cd(a:D):lW [a]=some (.tup [a]):=nr rfl
theorem Cm:lW []=some (.tup []):=nr rfl
theorem Dy:kM []=some (.lst []):=nr rfl
theorem qt:((("word":Str))==(("number":Str)))=false:=by decide +kernel
theorem ke:((("rows":Str))==(("number":Str)))=false:=by decide +kernel
theorem j7:((("rows":Str))==(("word":Str)))=false:=by decide +kernel
noncomputable def vS:bJ:=aY (fL bO (aa (dZ [none] (bP (f2 aI (f2 ak (af 0) (fC (.int 0))) (f2 ak (af 0) (fC (.int 1))))) (gN 0) bw (f2 ak (af 0) (fC (.int 1)))) ah))
theorem kinds_ok(kf rf:List D)(ps:cP)(hl:kf.length+rf.length<=100)(e:kf++rf=ps.map (λp=>.tup [.str p.1,p.2])):aF vS 1 1 [.tup [.tup kf,.tup rf]]=.ok (.tup (ps.map (·.2))):=by
 have hl':ps.length<=100:=by have:=congrArg List.length e;rw[HF,Hr]at this;omega
 have f0:dZ [none] (bP (f2 aI (f2 ak (af 0) (fC (.int 0))) (f2 ak (af 0) (fC (.int 1))))) (gN 0) bw (f2 ak (af 0) (fC (.int 1))) [some (.val (.tup [.tup kf,.tup rf]))]=.ok (.lst (ps.map (·.2))):=by
  refine cv (ds:=ps.map (λp=>.tup [.str p.1,p.2])) ?_ (by rw[Hr];omega) ?_
  ·simp! only[];rw[cg _ _ ‹0›,e];simp! only[]
  ·refine eY _ _ ps λp _=>⟨_,rfl,rfl,?_⟩
   simp! only[]
 rw[eQ];unfold vS;simp! only[f0]
inductive F2{α β:Type}(R:α->β->Prop):List α->List β->Prop where
 |nil:F2 R [] []
 |cons {a:α} {b:β} {as:List α} {bs:List β} (h:R a b) (t:F2 R as bs):F2 R (a::as) (b::bs)
theorem F2.length{α β:Type}{R:α->β->Prop}:∀{as:List α}{bs:List β},F2 R as bs->as.length=bs.length
 |_,_,.nil=>rfl
 |_,_,.cons _ t=>by rw[Ho,Ho,t.length]
theorem F2.imp{α β:Type}{R S:α->β->Prop}(f:∀a b,R a b->S a b):∀{as:List α}{bs:List β},F2 R as bs->F2 S as bs
 |_,_,.nil=>.nil
 |_,_,.cons h t=>.cons (f _ _ h) (t.imp f)
theorem F2.take{α β:Type}{R:α->β->Prop}:∀(m:Nat){as:List α}{bs:List β},F2 R as bs->F2 R (as.take m) (bs.take m)
 |0,_,_,_=>by rw[HS,HS];exact .nil
 |m+1,_,_,.nil=>by rw[HU,HU];exact .nil
 |m+1,_,_,.cons h t=>by rw[HV,HV];exact .cons h (t.take m)
theorem F2.drop{α β:Type}{R:α->β->Prop}:∀(m:Nat){as:List α}{bs:List β},F2 R as bs->F2 R (as.drop m) (bs.drop m)
 |0,_,_,h=>by rw[HW,HW];exact h
 |m+1,_,_,.nil=>by rw[HX,HX];exact .nil
 |m+1,_,_,.cons h t=>by rw[HY,HY];exact t.drop m
theorem F2.get{α β:Type}{R:α->β->Prop}:∀{as:List α}{bs:List β}{i:Nat}{a:α}{b:β},F2 R as bs->as[i]?=some a->bs[i]?=some b->R a b
 |_,_,0,_,_,.cons h _,e1,e2=>by cases e1;cases e2;exact h
 |_,_,i+1,_,_,.cons _ t,e1,e2=>by rw[Iz]at e1 e2;exact t.get e1 e2
theorem F2.append{α β:Type}{R:α->β->Prop}:∀{as cs:List α}{bs ds:List β},F2 R as bs->F2 R cs ds->F2 R (as++cs) (bs++ds)
 |_,_,_,_,.nil,h=>h
 |_,_,_,_,.cons h t,h'=>.cons h (t.append h')
theorem F2.mem{α β:Type}{R:α->β->Prop}{b:β}:∀{as:List α}{bs:List β},F2 R as bs->b∈bs->∃a∈as,R a b
 |_,_,.nil,h=>nomatch h
 |_,_,.cons h t,hb=>by
  rcases List.mem_cons.mp hb with rfl|z
  ·exact⟨_,G8,h⟩
  ·obtain⟨a,h1,h2⟩:=t.mem z;exact⟨a,G9 _ h1,h2⟩
theorem pW{ρ:aw}{g:GF}{C:bu}{Fe:FX}:∀(ds:List D)(P:Nat->D->Prop),(∀i d,ds[i]?=some d->∃ρ1 v,g d ρ=some ρ1/\C ρ1=.ok true/\Fe ρ1=.ok v/\P i v)->∃vs:List D,vs.length=ds.length/\(∀i v,vs[i]?=some v->P i v)/\oh ρ g C Fe ds=.ok vs
 |[],_,_=>⟨[],rfl,(λ_ _ h=>nomatch h),rfl⟩
 |d::ds,P,h=>by
  obtain⟨ρ1,w,h1,h2,h3,h4⟩:=h 0 d rfl;obtain⟨ws,e1,e2,e3⟩:=pW (ρ:=ρ) (g:=g) (C:=C) (Fe:=Fe) ds (λi v=>P (i+1) v) λi d' hd=>h (i+1) d' (by rw[Iz];exact hd);refine⟨w::ws,by rw[Ho,Ho,e1],λi v hv=>?_,?_⟩
  ·cases i with
   |zero=>cases hv;exact h4
   |succ i=>rw[Iz]at hv;exact e2 i v hv
  ·rw[ie,h1,df,cK,h2,gR,cK,h3,gR,cK,e3];rfl
end TG
namespace TD
open PySem PySem.Spec L2 TG TX
noncomputable def aO:bJ:=au (aC 2 (f2 aE (f2 aI (f2 aI (f2 aI (f2 fN (f2 aE (af 0) (fC (.int 2147483647))) (fC (.int 48271))) (f2 fN (f2 fN (fC (.int 7919)) (af 1)) (af 1))) (f2 fN (fC (.int 101)) (af 1))) (fC (.int 11))) (fC (.int 2147483629)))) (au (aC 2 (f2 aE (f2 aI (f2 fN (af 2) (fC (.int 69621))) (f2 fN (fC (.int 7)) (af 1))) (fC (.int 2147483587)))) (aY (f2 aI (af 2) (f2 fN (fC (.int 2147483587)) (f2 aE (f2 bc (af 0) (f2 aI (af 1) (fC (.int 2)))) (f2 dG (fC (.int 10)) (fC (.int 61))))))))
noncomputable def bT:bJ:=au (aC 1 (fC (.str "abcdefghijklmnopqrstuvwxyz"))) (au (aC 2 (f2 aI (fC (.int 1)) (f2 aE (f2 bc (af 0) (fC (.int 4))) (fC (.int 3))))) (au (cU (fB (f2 et (f2 aE (af 0) (fC (.int 4))) (fC (.int 1)))) (aC 2 (f2 aI (fC (.int 1)) (f2 aE (f2 bc (af 0) (fC (.int 4))) (fC (.int 12))))) aW) (au (aC 3 (fV (fC (.str "")) (aa (dZ [none,some 1,some 0] (bh (aa (fC (.int 8)) ah)) (gN 0) bw (f2 ak (af 1) (f2 aE (fR (aF aO 2 3) (aa (af 2) (aa (f2 aI (fC (.int 20)) (af 0)) ah))) (fC (.int 26))))) ah))) (au (cU (oM (fB (f2 et (f2 aE (f2 bc (af 0) (fC (.int 48))) (fC (.int 4))) (fC (.int 1)))) (fB (f2 eW (af 2) (fC (.int 10))))) (aY (fL bO (aa (dZ [none,some 3] (bh (aa (af 2) ah)) (gN 0) bw (aT (af 1) aP (aV (af 0)))) ah))) aW) (au (aC 4 (f2 aE (f2 bc (af 0) (fC (.int 192))) (fC (.int 8)))) (au (aC 5 (f2 aE (f2 bc (af 0) (fC (.int 1536))) (f2 cI (fC (.int 27)) (af 2)))) (au (aC 6 (f2 aI (f2 aI (af 4) (fC (.int 1))) (f2 aE (f2 bc (af 0) (fC (.int 7))) (f2 cI (fC (.int 8)) (af 4))))) (aY (fL bO (aa (dZ [none,some 3,some 4,some 1,some 5,some 6] (bh (aa (af 2) ah)) (gN 0) bw (f2 aI (f2 aI (aT (af 1) aP (aV (af 2))) (f2 ak (af 3) (f2 aI (af 4) (af 0)))) (aT (af 1) (aV (f2 aI (af 2) (fC (.int 1)))) (aV (af 5))))) ah))))))))))
noncomputable def bH:bJ:=au (aC 2 (fC (.str "abcdefghijklmnopqrstuvwxyz"))) (au (aC 3 (dZ [none,some 2,some 0] (bh (aa (fC (.int 8)) ah)) (gN 0) bw (f2 ak (af 1) (f2 aE (fR (aF aO 2 3) (aa (af 2) (aa (af 0) ah))) (fC (.int 26)))))) (au (cU (oM (fB (f2 et (f2 aE (f2 bc (af 0) (fC (.int 5))) (fC (.int 4))) (fC (.int 1)))) (fB (f2 eW (af 1) (fC (.int 9))))) (aY (dZ [none,some 3] (bh (aa (af 1) ah)) (gN 0) bw (fV (fC (.str "")) (aa (aT (af 1) aP (aV (f2 aI (af 0) (fC (.int 1))))) ah)))) aW) (au (aC 4 (f2 aI (fC (.int 1)) (f2 aE (af 0) (fC (.int 8))))) (au (aC 5 (f2 aE (f2 bc (af 0) (fC (.int 8))) (af 4))) (au (aC 6 (f2 ak (eI (aa (fC (.int 1)) (aa (fC (.int 5)) (aa (fC (.int 7)) (aa (fC (.int 11)) (aa (fC (.int 17)) (aa (fC (.int 25)) ah))))))) (f2 aE (fR (aF aO 2 3) (aa (af 0) (aa (fC (.int 9)) ah))) (fC (.int 6))))) (au (la 7 (eI ah)) (au (ll (bh (aa (af 1) ah)) (gN 8) (au (aC 9 (f2 ak (af 2) (f2 aE (f2 aI (f2 bc (af 0) (fC (.int 64))) (f2 fN (af 8) (af 6))) (fC (.int 26))))) (au (zF 7 oC (aa (f2 aI (f2 aI (fV (fC (.str "")) (aa (aT (af 3) aP (aV (af 5))) ah)) (af 9)) (fV (fC (.str "")) (aa (aT (af 3) (aV (f2 aI (af 5) (fC (.int 1)))) (aV (af 4))) ah))) ah)) (dR [8,9] aW)))) (oV 7 (aY (af 7))))))))))
noncomputable def cS:bJ:=au (aC 1 (fR (aF bH 2 10) (aa (af 0) (aa (fC (.int 2)) ah)))) (au (aC 2 (f2 cI (f2 aE (f2 bc (af 0) (fC (.int 9))) (fC (.int 5))) (fC (.int 2)))) (au (aC 3 (a9 (aa (a9 (aa (f2 ak (af 1) (fC (.int 0))) (aa (a9 (aa (fC (.str "number")) (aa (af 2) (aa (f2 aI (af 2) (f2 aE (f2 bc (af 0) (fC (.int 45))) (fC (.int 4)))) ah)))) ah))) ah))) (au (cU (fB (f2 et (f2 aE (af 0) (fC (.int 2))) (fC (.int 1)))) (aY (a9 (aa (af 3) (aa (a9 ah) ah)))) aW) (aY (a9 (aa (af 3) (aa (a9 (aa (a9 (aa (f2 ak (af 1) (fC (.int 1))) (aa (a9 (aa (fC (.str "word")) (aa (fR (aF bT 1 7) (aa (f2 bc (af 0) (fC (.int 2))) ah)) ah))) ah))) ah)) ah)))))))
noncomputable def bi:bJ:=au (aC 2 (f2 bc (af 0) (fC (.int 6)))) (au (cU (fB (f2 eW (f2 aE (af 0) (fC (.int 6))) (fC (.int 2)))) (au (aC 3 (f2 cI (f2 aE (af 2) (fC (.int 25))) (fC (.int 12)))) (aY (a9 (aa (fC (.str "number")) (aa (af 3) (aa (f2 aI (af 3) (f2 aE (f2 bc (af 2) (fC (.int 25))) (fC (.int 10)))) ah)))))) aW) (au (cU (fB (f2 et (f2 aE (af 0) (fC (.int 6))) (fC (.int 2)))) (au (aC 3 (f2 cI (f2 aE (af 2) (f2 fN (fC (.int 2)) (f2 dG (fC (.int 10)) (fC (.int 59))))) (f2 dG (fC (.int 10)) (fC (.int 59))))) (aY (a9 (aa (fC (.str "number")) (aa (af 3) (aa (f2 aI (af 3) (f2 aE (f2 bc (af 2) (fC (.int 3))) (f2 dG (fC (.int 10)) (fC (.int 59))))) ah)))))) aW) (au (cU (oM (fB (f2 et (f2 aE (af 0) (fC (.int 6))) (fC (.int 5)))) (cC (af 1))) (aY (a9 (aa (fC (.str "rows")) (aa (fR (aF cS 1 4) (aa (af 2) ah)) (aa (f2 et (f2 aE (af 2) (fC (.int 2))) (fC (.int 1))) ah))))) aW) (aY (a9 (aa (fC (.str "word")) (aa (fR (aF bT 1 7) (aa (af 2) ah)) ah)))))))
noncomputable def aj:bJ:=au (cU (fB (f2 eW (af 1) (fL cT (aa (af 0) ah)))) (aY (f2 ak (af 0) (af 1))) aW) (aY (fC (.int 0)))
noncomputable def dN:bJ:=aY (fL bO (aa (dZ [none] (bP (f2 aI (f2 ak (af 0) (fC (.int 0))) (f2 ak (af 0) (fC (.int 1))))) (gN 0) bw (f2 ak (af 0) (fC (.int 0)))) ah))
noncomputable def bW:bJ:=aY (f2 aI (f2 aI (aT (af 0) aP (aV (af 1))) (af 2)) (aT (af 0) (aV (f2 aI (af 1) (fC (.int 1)))) aP))
noncomputable def eF:bJ:=aY (f2 eW (af 1) (fL cT (aa (f2 ak (af 0) (fC (.int 0))) ah)))
noncomputable def ck:bJ:=au (cU (cC (fR (aF eF 2 2) (aa (af 0) (aa (af 1) ah)))) (aY (a9 (aa (fR (aF bW 3 3) (aa (f2 ak (af 0) (fC (.int 0))) (aa (af 1) (aa (af 2) ah)))) (aa (f2 ak (af 0) (fC (.int 1))) ah)))) aW) (aY (a9 (aa (f2 ak (af 0) (fC (.int 0))) (aa (fR (aF bW 3 3) (aa (f2 ak (af 0) (fC (.int 1))) (aa (f2 cI (af 1) (fL cT (aa (f2 ak (af 0) (fC (.int 0))) ah))) (aa (af 2) ah)))) ah))))
noncomputable def dL:bJ:=aY (fL bO (aa (dZ [none] (bP (f2 aI (f2 ak (af 0) (fC (.int 0))) (f2 ak (af 0) (fC (.int 1))))) (gN 0) bw (f2 ak (af 0) (fC (.int 1)))) ah))
noncomputable def iN(bN:cQ):bJ:=au (cU (fB (f2 et (f2 ak (af 0) (fC (.int 0))) (fC (.str "number")))) (aY (f2 ak (af 0) (fC (.int 1)))) aW) (au (cU (fB (f2 et (f2 ak (af 0) (fC (.int 0))) (fC (.str "word")))) (aY (f2 ak (f2 ak (af 0) (fC (.int 1))) (fC (.int 0)))) aW) (au (cU (kj (cC (f2 ak (af 0) (fC (.int 2))))) (aY (a9 ah)) aW) (aY (a9 (aa (fL bO (aa (dZ [none] (bP (fR (aF dL 1 1) (aa (f2 ak (af 0) (fC (.int 1))) ah))) (gN 0) bw (fR bN (aa (af 0) ah))) ah)) ah)))))
noncomputable def bN:Nat->cQ
 |0=>λ_=>un
 |n+1=>aF (iN (bN n)) 1 1
theorem dF(n:Nat):bN (n+1)=aF (iN (bN n)) 1 1:=by rw[bN]
theorem kd:∀n:Nat,Ar 1 (bN n)
 |0=>λ_ h=>absurd (by rw[bN]) h
 |n+1=>by rw[dF];exact kq
noncomputable def dq:bJ:=aY (f2 ak (fR (bN 12) (aa (a9 (aa (fC (.str "rows")) (aa (af 0) (aa (fC (.bl true)) ah)))) ah)) (fC (.int 0)))
noncomputable def dH:bJ:=aY (f2 ak (f2 ak (f2 aI (f2 ak (af 0) (fC (.int 0))) (f2 ak (af 0) (fC (.int 1)))) (af 1)) (fC (.int 1)))
noncomputable def bD:bJ:=au (aC 3 (f2 aI (f2 ak (af 0) (fC (.int 0))) (f2 ak (af 0) (fC (.int 1))))) (aY (fL sN (aa (dZ [none,none,some 1,some 2] (de (aa (af 3) ah)) (gT 2 (kC [0,1])) bw (iO (f2 et (f2 ak (af 1) (fC (.int 0))) (af 2)) (f2 dY (af 0) (af 3)))) ah)))
end TD
namespace TD
open PySem PySem.Spec L2 TG
local macro_rules
 |`(tactic| simp! only[$xs,*])=>`(tactic| simp only[cK,qO,o9,sB,gR,df,ge_0,zv,mI,zr,nV,j4,n9,nA,yI,zn,zi,xD,yk,nT,nK,rP,iB,j3,mU,jN,rj,mM,mZ,jX,mH,ig,mO,iU,iw,gm,gG,ng,jK,gu,jO,ii,j5,jI,dj,jU,iV,nE,iG,iJ,dS,jZ,jM,xM,sA,xR,yY,yK,nN,jY,nY,jQ,jW,x6,zC,Jd,Je,Hq,HM,HR,Ij,K0,env0,List.replicate,IM,Hu,IG,Nat.reduceAdd,Nat.reduceSub,Ho,IT,nX,mG,rk,mV,nG,mP,gw,nU,sC,si,qK,nJ,hZ,h7,iz,iu,ip,ib,qV,rm,rG,qL,se,rg,ir,iM,eM,fg,ny,gk,fu,eZ,fq,n6,nO,eK,eP,iE,iy,jL,jS,iQ,j6,nM,mS,jV,jR,gN,if_true,if_false,Jf,Jg,HQ,$xs,*])
theorem DC(ns:List Int)(i:Int)(h:0<=i):∃c:Int,aF aj 2 2 [.lst (ns.map .int),.int i]=.ok (.int c):=vx ns i h
noncomputable def DV:Int:=10^61
theorem Bq:dG (.int 10) (.int 61)=some (.int DV):=jf 10 61 (by decide) (by decide)
theorem C1:1000000<DV:=by decide +kernel
theorem gr(c j:Int)(h0:0<=j)(h1:j<=1000):∃r:Int,0<=r/\aF aO 2 3 [.int c,.int j]=.ok (.int r):=by
 have p:=C1;have m1:=λi=>iL (i:=i) (j:=48271) (by decide) (by decide);have m2:=λi=>gI (i:=7919) (j:=i) (by decide) (by decide);have m3:=λi=>iL (i:=i) (j:=j) ‹0› ‹0›;have m4:=λi=>gI (i:=101) (j:=i) (by decide) (by decide);have m5:=λi=>iL (i:=i) (j:=69621) (by decide) (by decide);have m6:=λi=>gI (i:=7) (j:=i) (by decide) (by decide);have m7:=λi=>gI (i:=2147483587) (j:=i) (by decide) (by decide);have g1:=λi=>aJ (i:=i) (show(0:Int)<2147483647 by decide);have g2:=λi=>aJ (i:=i) (show(0:Int)<2147483629 by decide);have g3:=λi=>aJ (i:=i) (show(0:Int)<2147483587 by decide);have g4:=λi=>aJ (i:=i) (show(0:Int)<DV by omega);have d1:=λi=>bn (i:=i) (j:=j+2) ‹0› (by
  have:(10:Int)^200>1000000:=by decide +kernel
  omega)
 rw[bF];unfold aO;simp! only[m1,m2,m3,m4,m5,m6,m7,g1,g2,g3,g4,d1,Bq];refine⟨_,?_,rfl⟩;have q1:=Jh (((c%2147483647*48271+7919*j*j+101*j+11)%2147483629)*69621+7*j) (show(2147483587:Int)≠0 by decide);have q2:=Jh (c/(j+2)) (show DV≠0 by omega);omega
theorem ra:∀bs:List Bool,allB (bs.map .bl)=some (bs.all id)
 |[]=>rfl
 |b::bs=>by
  show(allB (bs.map .bl)).bind (λc=>some (b&&c))=_;rw[ra bs];rfl
theorem xI(bs:List Bool):ly [.lst (bs.map .bl)]=some (.bl (bs.all id)):=by
 have e:ly [.lst (bs.map .bl)]=(allB (bs.map .bl)).bind λb=>some (D.bl b):=rfl;rw[e,ra];rfl
theorem pp(x:Str)(h:x.length<=1000)(i:Int)(h0:0<=i)(h1:i<x.length):ak (.str x) (.int i)=some (.str ⟨#[x.cps.toList.getD i.toNat 0]⟩):=by
 have hl:x.cps.toList.length=x.length:=by simp[Str.length]
 have hi:i<x.cps.toList.length:=by omega
 show(if small x.length then(jc x.cps.toList i).bind λc=>some (D.str ⟨#[c]⟩)else none)=_;have e:x.cps.toList.getD i.toNat 0=x.cps.toList[i.toNat]'‹0›:=by
  rw[IY,Ia ‹0›];rfl
 rw[cx ‹0›,if_pos rfl,sk h0 hi,e];rfl
theorem sr{a b x y:Str}(h:a++x++b=a++y++b):x=y:=by
 have h1:(a.cps++x.cps)++b.cps=(a.cps++y.cps)++b.cps:=congrArg Str.cps h;have h2:=congrArg Array.toList h1;rw[Array.toList_append,Array.toList_append,Array.toList_append,Array.toList_append]at h2;have h3:=List.append_cancel_left (List.append_cancel_right h2);exact wN h3
theorem rA(n:Nat):∀vs:List D,(∀v∈vs,∃w:Str,v=.str w/\w.length=n)->∃ws:ap,vs=ws.map .str/\(ws.map λy=>y.length).sum=n*ws.length
 |[],_=>⟨[],rfl,rfl⟩
 |v::vs,h=>by
  obtain⟨w,rfl,hw⟩:=h v G8;obtain⟨ws,rfl,h2⟩:=rA n vs λv' hv=>h v' (G9 _ hv);refine⟨w::ws,rfl,?_⟩;rw[Hq,Jb,h2,hw,Ho,Nat.mul_succ,IP]
theorem xk(c:Int):∃ws:ap,ws≠[]/\ws.length<=12/\(∀w∈ws,w.length<=20)/\ws.Nodup/\aF bT 1 7 [.int c]=.ok (.tup (ws.map .str)):=by
 have LL:(("abcdefghijklmnopqrstuvwxyz":Str)).length=26:=by decide +kernel
 have LN:(("abcdefghijklmnopqrstuvwxyz":Str)).cps.toList.Nodup:=by decide +kernel
 generalize hL:("abcdefghijklmnopqrstuvwxyz":Str)=L at LL LN;have r8:dB [.int 8]=some (bG 0 8):=eE 8 (by decide);have g3:=λi=>aJ (i:=i) (show(0:Int)<3 by decide);have g4:=λi=>aJ (i:=i) (show(0:Int)<4 by decide);have g8:=λi=>aJ (i:=i) (show(0:Int)<8 by decide);have g12:=λi=>aJ (i:=i) (show(0:Int)<12 by decide);have g26:=λi=>aJ (i:=i) (show(0:Int)<26 by decide);have d4:=λi=>bn (i:=i) (show(0:Int)<4 by decide) (show(4:Int)<10^200 by decide);have d7:=λi=>bn (i:=i) (show(0:Int)<7 by decide) (show(7:Int)<10^200 by decide);have d48:=λi=>bn (i:=i) (show(0:Int)<48 by decide) (show(48:Int)<10^200 by decide);have d192:=λi=>bn (i:=i) (show(0:Int)<192 by decide) (show(192:Int)<10^200 by decide);have d1536:=λi=>bn (i:=i) (show(0:Int)<1536 by decide) (show(1536:Int)<10^200 by decide);have full:∀r:Int,∃x:Str,x.length=8/\fV (fC (.str "")) (aa (dZ [none,some 1,some 0] (bh (aa (fC (.int 8)) ah)) (gN 0) bw (f2 ak (af 1) (f2 aE (fR (aF aO 2 3) (aa (af 2) (aa (f2 aI (fC (.int 20)) (af 0)) ah))) (fC (.int 26))))) ah) [some (.val (.int c)),some (.val (.str L)),some (.val (.int r)),none,none,none,none]=.ok (.str x):=by
  intro r;obtain⟨vs,v1,v2,v3⟩:∃vs:List D,vs.length=(bG 0 8).length/\(∀v∈vs,∃w:Str,v=.str w/\w.length=1)/\oh (inB [none,some 1,some 0] [some (.val (.int c)),some (.val (.str L)),some (.val (.int r)),none,none,none,none]) (gN 0) bw (f2 ak (af 1) (f2 aE (fR (aF aO 2 3) (aa (af 2) (aa (f2 aI (fC (.int 20)) (af 0)) ah))) (fC (.int 26)))) (bG 0 8)=.ok vs:=by
   refine iR (λv=>∃w:Str,v=.str w/\w.length=1) _ λd hd=>?_;obtain⟨k,hk,rfl⟩:=hJ hd;obtain⟨q,hq,eq⟩:=gr c (20+(0+(k:Int))) ‹0› ‹0›;obtain⟨y,hy,e1⟩:=rS L ‹0› (q%26) ‹0› ‹0›;refine⟨_,_,rfl,rfl,?_,y,rfl,hy⟩;simp! only[eq,g26,e1]
  obtain⟨ws,rfl,s1⟩:=rA 1 vs v2;rw[Hr,bE]at v1;obtain⟨x,hx,ex⟩:=rE ws ‹0›;refine⟨x,by omega,?_⟩;have f0:=cv (ix:=[none,some 1,some 0]) (G:=bh (aa (fC (.int 8)) ah)) (ρ:=[some (.val (.int c)),some (.val (.str L)),some (.val (.int r)),none,none,none,none]) (by simp! only[r8]) (by rw[bE];decide) v3;simp! only[nq,f0,ex]
 obtain⟨r,r1,r2,er⟩:∃r:Nat,1<=r/\r<=12/\(if c%4=1 then 1+c/4%12 else 1+c/4%3)=(r:Int):=by
  by_cases h:c%4=1
  ·exact⟨(1+c/4%12).toNat,by omega,by omega,by rw[if_pos h];omega⟩
  ·exact⟨(1+c/4%3).toNat,by omega,by omega,by rw[if_neg h];omega⟩
 obtain⟨x,hx,ex⟩:=full r;have er1:=eE r ‹0›;obtain⟨T,hT⟩:∃T:bJ,T=(au (cU (oM (fB (f2 et (f2 aE (f2 bc (af 0) (fC (.int 48))) (fC (.int 4))) (fC (.int 1)))) (fB (f2 eW (af 2) (fC (.int 10))))) (aY (fL bO (aa (dZ [none,some 3] (bh (aa (af 2) ah)) (gN 0) bw (aT (af 1) aP (aV (af 0)))) ah))) aW) (au (aC 4 (f2 aE (f2 bc (af 0) (fC (.int 192))) (fC (.int 8)))) (au (aC 5 (f2 aE (f2 bc (af 0) (fC (.int 1536))) (f2 cI (fC (.int 27)) (af 2)))) (au (aC 6 (f2 aI (f2 aI (af 4) (fC (.int 1))) (f2 aE (f2 bc (af 0) (fC (.int 7))) (f2 cI (fC (.int 8)) (af 4))))) (aY (fL bO (aa (dZ [none,some 3,some 4,some 1,some 5,some 6] (bh (aa (af 2) ah)) (gN 0) bw (f2 aI (f2 aI (aT (af 1) aP (aV (af 2))) (f2 ak (af 3) (f2 aI (af 4) (af 0)))) (aT (af 1) (aV (f2 aI (af 2) (fC (.int 1)))) (aV (af 5))))) ah))))))):=⟨_,rfl⟩
 have rest:∃ws:ap,ws≠[]/\ws.length<=12/\(∀w∈ws,w.length<=20)/\ws.Nodup/\T K0 [some (.val (.int c)),some (.val (.str L)),some (.val (.int r)),some (.val (.str x)),none,none,none]=.ok (.tup (ws.map .str)):=by
  rw[hT];by_cases hb:(c/48%4==1&&decide ((r:Int)<10))=true
  ·obtain⟨y,hy⟩:∃y:Nat->Str,y=λk=>(⟨(x.cps.toList.take k).toArray⟩:Str):=⟨_,rfl⟩
   have yl:∀k,(y k).length=min k 8:=λk=>by
    rw[hy];show(x.cps.toList.take k).toArray.size=_
    have:x.cps.size=8:=hx
    rw[Hl,Hx,Array.length_toList,this]
   have v3:oh (inB [none,some 3] [some (.val (.int c)),some (.val (.str L)),some (.val (.int r)),some (.val (.str x)),none,none,none]) (gN 0) bw (aT (af 1) aP (aV (af 0))) (bG 0 r)=.ok ((List.range r).map λk=>.str (y k)):=by
    rw[gz];refine eY (λk:Nat=>D.int (0+(k:Int))) (λk=>.str (y k)) (List.range r) λk hk=>⟨_,rfl,rfl,?_⟩
    have e1:gb (.str x) none (some (0+(k:Int)))=some (.str (y k)):=by
     have z:gb (.str x) none (some (0+(k:Int)))=if small x.length then some (.str ⟨(cutD x.cps.toList none (some (0+(k:Int)))).toArray⟩)else none:=rfl
     rw[z,cx ‹0›,Int.zero_add,ji,hy];rfl
    simp! only[e1]
   have hr:decide ((r:Int)<10)=true:=(by rw[HI]at hb;exact hb.2);have hr:=of_decide_eq_true hr;have f0:=cv (ix:=[none,some 3]) (G:=bh (aa (af 2) ah)) (ρ:=[some (.val (.int c)),some (.val (.str L)),some (.val (.int r)),some (.val (.str x)),none,none,none]) (by simp! only[er1]) (by rw[bE];omega) v3;have em:((List.range r).map y).map D.str=(List.range r).map λk=>.str (y k):=(by rw[Ji];rfl);refine⟨(List.range r).map y,λh=>?_,by rw[Hr,Il];omega,λw hw'=>?_,?_,?_⟩
   ·have:=congrArg List.length h
    rw[Hr,Il]at this;simp at this;omega
   ·obtain⟨k,_,rfl⟩:=List.mem_map.mp hw';rw[yl];omega
   ·refine List.pairwise_map.mpr (List.nodup_range.imp_of_mem λ{i j} hi hj hne e=>hne ?_)
    have:=congrArg Str.length e
    rw[yl,yl]at this
    have:=List.mem_range.mp hi
    have:=List.mem_range.mp hj
    omega
   rw[em];rw[HI]at hb;simp! only[d48,g4,hb.1,hb.2,f0]
  ·have hb':(c/48%4==1&&decide ((r:Int)<10))=false:=(by simpa using hb);generalize ha:c/192%8=a;have ha1:0<=a/\a<=7:=(by omega);have m1:=λi=>aJ (i:=i) (show(0:Int)<27-r by omega);have m2:=λi=>aJ (i:=i) (show(0:Int)<8-a by omega);have b1:=Jh (c/1536) (show 27-(r:Int)≠0 by omega);have b2:=Jj (c/1536) (show 0<27-(r:Int)by omega);generalize hfi:c/1536%(27-(r:Int))=fi at b1 b2;generalize he:a+1+c/7%(8-a)=en;obtain⟨y1,hy1,e1⟩:=mi x ‹0› none (some a);obtain⟨y3,hy3,e3⟩:=mi x ‹0› (some (a+1)) (some en);obtain⟨sg,hsg⟩:∃sg:Nat->Str,sg=λ(j:Nat)=>(⟨#[L.cps.toList.getD (fi+(0+(j:Int))).toNat 0]⟩:Str):=⟨_,rfl⟩
   have sg_len:∀j,(sg j).length=1:=λj=>by rw[hsg];rfl
   have sg_ne:∀i j:Nat,i<r->j<r->sg i=sg j->i=j:=λi j hi hj e=>by
    rw[hsg]at e;have hl:L.cps.toList.length=26:=(by rw[Array.length_toList];exact LL);have e1:L.cps.toList.getD (fi+(0+(i:Int))).toNat 0=L.cps.toList.getD (fi+(0+(j:Int))).toNat 0:=by
     have:=congrArg (λz:Str=>z.cps.toList) e
     simpa using this
    have ha:(fi+(0+(i:Int))).toNat<L.cps.toList.length:=(by omega);have hb:(fi+(0+(j:Int))).toNat<L.cps.toList.length:=(by omega);rw[IY,IY,Ia ha,Ia hb,Ir,Ir]at e1;have pw:=List.pairwise_iff_getElem.mp LN;rcases Nat.lt_trichotomy i j with q|q|q
    ·exact absurd e1 (pw _ _ ha hb ‹0›)
    ·exact q
    ·exact absurd e1.symm (pw _ _ hb ha ‹0›)
   have v3:oh (inB [none,some 3,some 4,some 1,some 5,some 6] [some (.val (.int c)),some (.val (.str L)),some (.val (.int r)),some (.val (.str x)),some (.val (.int a)),some (.val (.int fi)),some (.val (.int en))]) (gN 0) bw (f2 aI (f2 aI (aT (af 1) aP (aV (af 2))) (f2 ak (af 3) (f2 aI (af 4) (af 0)))) (aT (af 1) (aV (f2 aI (af 2) (fC (.int 1)))) (aV (af 5)))) (bG 0 r)=.ok ((List.range r).map λk=>.str (y1++sg k++y3)):=by
    rw[gz];refine eY (λk:Nat=>D.int (0+(k:Int))) (λk=>.str (y1++sg k++y3)) (List.range r) λk hk=>⟨_,rfl,rfl,?_⟩
    have hk:=List.mem_range.mp hk;have e2:ak (.str L) (.int (fi+(0+(k:Int))))=some (.str (sg k)):=(by rw[hsg];exact pp L ‹0› _ ‹0› ‹0›);have sl:=sg_len k;have a1:=iW y1 (sg k) ‹0› ‹0›;have a2:=iW (y1++sg k) y3 (by rw[gH];omega) ‹0›;simp! only[e1,e2,e3,a1,a2]
   have f0:=cv (ix:=[none,some 3,some 4,some 1,some 5,some 6]) (G:=bh (aa (af 2) ah)) (ρ:=[some (.val (.int c)),some (.val (.str L)),some (.val (.int r)),some (.val (.str x)),some (.val (.int a)),some (.val (.int fi)),some (.val (.int en))]) (by simp! only[er1]) (by rw[bE];omega) v3;have em:((List.range r).map λk=>y1++sg k++y3).map D.str=(List.range r).map λk=>.str (y1++sg k++y3):=(by rw[Ji];rfl);refine⟨(List.range r).map λk=>y1++sg k++y3,λh=>?_,by rw[Hr,Il];omega,λw hw'=>?_,?_,?_⟩
   ·have:=congrArg List.length h
    rw[Hr,Il]at this;simp at this;omega
   ·obtain⟨k,_,rfl⟩:=List.mem_map.mp hw';rw[gH,gH,sg_len];omega
   ·refine List.pairwise_map.mpr (List.nodup_range.imp_of_mem λ{i j} hi hj hne e=>hne ?_);exact sg_ne i j (List.mem_range.mp hi) (List.mem_range.mp hj) (sr e)
   rw[em];cases hx1:(c/48%4==1)with
   |false=>simp! only[d48,g4,hx1,d192,g8,ha,d1536,m1,hfi,m2,d7,he,f0]
   |true=>
    rw[hx1,Bool.true_and]at hb';simp! only[d48,g4,hx1,hb',d192,g8,ha,d1536,m1,hfi,m2,d7,he,f0]
 obtain⟨ws,w1,w2,wl,wn,w3⟩:=rest;refine⟨ws,w1,w2,wl,wn,?_⟩;rw[eQ];unfold bT;rw[<-hT];simp only[K0]at w3;by_cases h4:c%4=1
 ·rw[if_pos h4]at er;simp! only[hL,d4,g3,g4,g12,h4,BEq.rfl,er,ex,w3]
 ·rw[if_neg h4]at er;have h4':(c%4==1)=false:=by simp[h4]
  simp! only[hL,d4,g3,g4,g12,h4',er,ex,w3]
theorem sO(c:Int):∃ws:ap,ws≠[]/\ws.length<=12/\(∀w∈ws,w.length<=20)/\aF bT 1 7 [.int c]=.ok (.tup (ws.map .str)):=
 let ⟨ws,w1,w2,wl,_,w3⟩:=xk c;⟨ws,w1,w2,wl,w3⟩
theorem oA(c:Int):∃ws:ap,ws≠[]/\ws.length<=12/\aF bT 1 7 [.int c]=.ok (.tup (ws.map .str)):=
 let ⟨ws,w1,w2,_,w3⟩:=sO c;⟨ws,w1,w2,w3⟩
theorem uL(c:Int)(n:Nat)(hn:n<=20):∃ws:ap,ws.length=n/\(∀w∈ws,w.length<=20)/\(9<=n->ws.Nodup)/\aF bH 2 10 [.int c,.int n]=.ok (.lst (ws.map .str)):=by
 have LL:(("abcdefghijklmnopqrstuvwxyz":Str)).length=26:=by decide +kernel
 have LN:(("abcdefghijklmnopqrstuvwxyz":Str)).cps.toList.Nodup:=by decide +kernel
 generalize hL:("abcdefghijklmnopqrstuvwxyz":Str)=L at LL LN;have r8:dB [.int 8]=some (bG 0 8):=eE 8 (by decide);have rn:=eE n ‹0›;have g4:=λi=>aJ (i:=i) (show(0:Int)<4 by decide);have g6:=λi=>aJ (i:=i) (show(0:Int)<6 by decide);have g8:=λi=>aJ (i:=i) (show(0:Int)<8 by decide);have g26:=λi=>aJ (i:=i) (show(0:Int)<26 by decide);have d5:=λi=>bn (i:=i) (show(0:Int)<5 by decide) (show(5:Int)<10^200 by decide);have d8:=λi=>bn (i:=i) (show(0:Int)<8 by decide) (show(8:Int)<10^200 by decide);have d64:=λi=>bn (i:=i) (show(0:Int)<64 by decide) (show(64:Int)<10^200 by decide);obtain⟨vs,v1,v2,v3⟩:∃vs:List D,vs.length=(bG 0 8).length/\(∀v∈vs,∃w:Str,v=.str w/\w.length<=1)/\oh (inB [none,some 2,some 0] [some (.val (.int c)),some (.val (.int n)),some (.val (.str L)),none,none,none,none,none,none,none]) (gN 0) bw (f2 ak (af 1) (f2 aE (fR (aF aO 2 3) (aa (af 2) (aa (af 0) ah))) (fC (.int 26)))) (bG 0 8)=.ok vs:=by
  refine iR (λv=>∃w:Str,v=.str w/\w.length<=1) _ λd hd=>?_;obtain⟨k,hk,rfl⟩:=hJ hd;obtain⟨q,hq,eq⟩:=gr c (0+(k:Int)) ‹0› ‹0›;obtain⟨y,hy,e1⟩:=rS L ‹0› (q%26) ‹0› ‹0›;refine⟨_,_,rfl,rfl,?_,y,rfl,by omega⟩;simp! only[eq,g26,e1]
 obtain⟨bs,rfl,hb⟩:=mF 1 vs v2;rw[Hr,bE]at v1;have f0:=cv (ix:=[none,some 2,some 0]) (G:=bh (aa (fC (.int 8)) ah)) (ρ:=[some (.val (.int c)),some (.val (.int n)),some (.val (.str L)),none,none,none,none,none,none,none]) (by simp! only[r8]) (by rw[bE];decide) v3;have part:∀lo hi:bY,∃x:Str,x.length<=8/\kO "" [.lst (cutD (bs.map D.str) lo hi)]=some (.str x):=λlo hi=>by
  have l:=f7 bs lo hi;have s1:=vB 1 (cutD bs lo hi) λw hw=>hb w (uN hw);obtain⟨x,hx,ex⟩:=rE (cutD bs lo hi) ‹0›;exact⟨x,by omega,by rw[rL];exact ex⟩
 rw[bF];unfold bH;by_cases hc:(c/5%4==1&&decide ((n:Int)<9))=true
 ·obtain⟨us,u1,u2,u3⟩:∃vs:List D,vs.length=(bG 0 n).length/\(∀v∈vs,∃w:Str,v=.str w/\w.length<=20)/\oh (inB [none,some 3] [some (.val (.int c)),some (.val (.int n)),some (.val (.str L)),some (.val (.lst (bs.map .str))),none,none,none,none,none,none]) (gN 0) bw (fV (fC (.str "")) (aa (aT (af 1) aP (aV (f2 aI (af 0) (fC (.int 1))))) ah)) (bG 0 n)=.ok vs:=by
   refine iR (λv=>∃w:Str,v=.str w/\w.length<=20) _ λd hd=>?_;obtain⟨k,hk,rfl⟩:=hJ hd;obtain⟨x,hx,ex⟩:=part none (some (0+(k:Int)+1));refine⟨_,_,rfl,rfl,?_,x,rfl,by omega⟩;simp! only[nq,ex]
  obtain⟨ws,rfl,hw⟩:=mF 20 us u2;rw[Hr,bE]at u1;have f1:=cv (ix:=[none,some 3]) (G:=bh (aa (af 1) ah)) (ρ:=[some (.val (.int c)),some (.val (.int n)),some (.val (.str L)),some (.val (.lst (bs.map .str))),none,none,none,none,none,none]) (by simp! only[rn]) (by rw[bE];omega) u3;rw[HI]at hc;refine⟨ws,u1,hw,(λh9=>by have:=of_decide_eq_true hc.2;omega),?_⟩;simp! only[hL,f0,d5,g4,hc.1,hc.2,f1]
 ·have hc':(c/5%4==1&&decide ((n:Int)<9))=false:=by simpa using hc
  have lg:0<1+c%8:=by omega
  have gl:=λi=>aJ (i:=i) lg;obtain⟨q,hq,eq⟩:=gr c 9 (by decide) (by decide);obtain⟨st,hst,est⟩:∃st:Int,(st=1\/st=5\/st=7\/st=11\/st=17\/st=25)/\ak (.lst [.int 1,.int 5,.int 7,.int 11,.int 17,.int 25]) (.int (q%6))=some (.int st):=by
   rcases(show q%6=0\/q%6=1\/q%6=2\/q%6=3\/q%6=4\/q%6=5 by omega)with z|z|z|z|z|z<;>rw[z]
   ·exact⟨1,by simp,rfl⟩
   ·exact⟨5,by simp,rfl⟩
   ·exact⟨7,by simp,rfl⟩
   ·exact⟨11,by simp,rfl⟩
   ·exact⟨17,by simp,rfl⟩
   ·exact⟨25,by simp,rfl⟩
  have l6:∀a b c d e f:D,kM [a,b,c,d,e,f]=some (.lst [a,b,c,d,e,f]):=λ_ _ _ _ _ _=>rfl;have ms:=λi=>iL (i:=i) (j:=st) ‹0› ‹0›;generalize hat:c/8%(1+c%8)=at';obtain⟨y1,hy1,e1⟩:=part none (some at');obtain⟨y3,hy3,e3⟩:=part (some (at'+1)) (some (1+c%8));obtain⟨T,hT⟩:∃T:bJ,T=(au (ll (bh (aa (af 1) ah)) (gN 8) (au (aC 9 (f2 ak (af 2) (f2 aE (f2 aI (f2 bc (af 0) (fC (.int 64))) (f2 fN (af 8) (af 6))) (fC (.int 26))))) (au (zF 7 oC (aa (f2 aI (f2 aI (fV (fC (.str "")) (aa (aT (af 3) aP (aV (af 5))) ah)) (af 9)) (fV (fC (.str "")) (aa (aT (af 3) (aV (f2 aI (af 5) (fC (.int 1)))) (aV (af 4))) ah))) ah)) (dR [8,9] aW)))) (oV 7 (aY (af 7)))):=⟨_,rfl⟩
  obtain⟨sgn,hsgn⟩:∃sgn:Nat->Str,sgn=λ(j:Nat)=>(⟨#[L.cps.toList.getD ((c/64+(0+(j:Int))*st)%26).toNat 0]⟩:Str):=⟨_,rfl⟩
  have sgn_len:∀j,(sgn j).length=1:=λj=>by rw[hsgn];rfl
  have sgn_ne:∀i j:Nat,i<j->j<20->sgn i≠sgn j:=λi j hij hj e=>by
   rw[hsgn]at e;have hl:L.cps.toList.length=26:=(by rw[Array.length_toList];exact LL);have e1:L.cps.toList.getD ((c/64+(0+(i:Int))*st)%26).toNat 0=L.cps.toList.getD ((c/64+(0+(j:Int))*st)%26).toNat 0:=by
    have:=congrArg (λz:Str=>z.cps.toList) e
    simpa using this
   have ha:((c/64+(0+(i:Int))*st)%26).toNat<L.cps.toList.length:=(by omega);have hb:((c/64+(0+(j:Int))*st)%26).toNat<L.cps.toList.length:=(by omega);rw[IY,IY,Ia ha,Ia hb,Ir,Ir]at e1;have ne:((c/64+(0+(i:Int))*st)%26).toNat≠((c/64+(0+(j:Int))*st)%26).toNat:=by
    rcases hst with rfl|rfl|rfl|rfl|rfl|rfl<;>omega
   have pw:=List.pairwise_iff_getElem.mp LN;rcases Jk ne with q|q
   ·exact pw _ _ ha hb q e1
   ·exact pw _ _ hb ha q e1.symm
  have key:∃ws:ap,ws.length=n/\(∀w∈ws,w.length<=20)/\ws.Nodup/\(T K0 [some (.val (.int c)),some (.val (.int n)),some (.val (.str L)),some (.val (.lst (bs.map .str))),some (.val (.int (1+c%8))),some (.val (.int at')),some (.val (.int st)),some (.own (.lst [])),none,none])=.ok (.lst (ws.map .str)):=by
   rw[hT,dj,dS];simp! only[rn];refine jJ (Q:=λr=>∃ws:ap,ws.length=n/\(∀w∈ws,w.length<=20)/\ws.Nodup/\r=.ok (.lst (ws.map .str))) (λi ρ=>∃us:ap,us.length=i/\(∀w∈us,w.length<=20)/\(∀(j:Nat)(w:Str),us[j]?=some w->w=y1++sgn j++y3)/\ρ=[some (.val (.int c)),some (.val (.int n)),some (.val (.str L)),some (.val (.lst (bs.map .str))),some (.val (.int (1+c%8))),some (.val (.int at')),some (.val (.int st)),some (.own (.lst (us.map .str))),none,none]) ?_ ?_ ?_
   ·rintro i d ρ k' hd ⟨us,u1,u2,u3,rfl⟩;have hi:=cy hd;rw[bE]at hi;have hdi:d=.int (0+(i:Int)):=by
     rw[gz,HB,Io hi]at hd;cases hd;rfl
    subst hdi;have e2:ak (.str L) (.int ((c/64+(0+(i:Int))*st)%26))=some (.str (sgn i)):=(by rw[hsgn];exact pp L ‹0› _ ‹0› ‹0›);have hy2:=sgn_len i;generalize hsg:sgn i=y2 at e2 hy2;have a1:=iW y1 y2 ‹0› ‹0›;have a2:=iW (y1++y2) y3 (by rw[gH];omega) ‹0›;refine⟨_,_,rfl,⟨us++[y1++y2++y3],by simp;omega,?_,?_,rfl⟩,?_⟩
    ·intro w hw;rcases List.mem_append.mp hw with z|z
     ·exact u2 w z
     ·rw[List.mem_singleton.mp z,gH,gH];omega
    ·intro j w hw;rcases IX j us.length with z|z
     ·rw[HA z]at hw;exact u3 j w hw
     ·have ej:j=i:=by
       have:=cy hw
       simp at this;omega
      rw[Hy z,ej,u1,IL]at hw;cases hw;rw[ej,hsg]
    ·simp only[dj,iG];simp! only[d64,ms,g26,e2];rw[vE _ _ _ _ _ (xs:=us.map .str) rfl];simp! only[nq,e1,e3,a1,a2,wK (xs:=us.map D.str) (y:=.str (y1++y2++y3)) (by rw[Hr];omega),Ik]
   ·exact⟨[],rfl,(λ_ h=>nomatch h),(λ_ _ h=>nomatch h),rfl⟩
   ·rintro ρ' ⟨us,u1,u2,u3,rfl⟩;rw[bE]at u1;refine⟨us,u1,u2,?_,by simp! only[]⟩;refine List.pairwise_iff_getElem.mpr λi j hi hj hij e=>?_;have ei:=u3 i _ (Ia hi);have ej:=u3 j _ (Ia hj);rw[e,ej]at ei;exact sgn_ne i j hij ‹0› (sr ei.symm)
  obtain⟨ws,w1,w2,wn,w3⟩:=key;refine⟨ws,w1,w2,(λ_=>wn),?_⟩;rw[<-hT];simp only[K0]at w3;cases hx1:(c/5%4==1)with
  |false=>simp! only[hL,f0,d5,g4,hx1,g8,d8,gl,hat,l6,eq,g6,est,Dy,w3]
  |true=>
   rw[hx1,Bool.true_and]at hc';simp! only[hL,f0,d5,g4,hx1,hc',g8,d8,gl,hat,l6,eq,g6,est,Dy,w3]
noncomputable def oi(d:D):Prop:=(∃lo hi:Int,lo<=hi/\-vO<lo/\hi<vO/\d=.tup [.str "number",.int lo,.int hi])\/∃ws:ap,ws≠[]/\ws.length<=12/\d=.tup [.str "word",.tup (ws.map .str)]
noncomputable def pG:Nat->D->Prop
 |0,d=>oi d
 |n+1,d=>oi d\/∃(kf rf:List D)(b:Bool),d=.tup [.str "rows",.tup [.tup kf,.tup rf],.bl b]/\1<=kf.length/\kf.length+rf.length<=20/\(∀f∈kf,∃nm k,f=.tup [.str nm,k]/\oi k)/\∀f∈rf,∃nm k,f=.tup [.str nm,k]/\pG n k
noncomputable def GW(n:Nat)(d:D):Prop:=∃kf rf:List D,d=.tup [.tup kf,.tup rf]/\1<=kf.length/\kf.length+rf.length<=20/\(∀f∈kf,∃nm k,f=.tup [.str nm,k]/\oi k)/\∀f∈rf,∃nm k,f=.tup [.str nm,k]/\pG n k
theorem oi.kin{n:Nat}{d:D}(h:oi d):pG n d:=by
 cases n with
 |zero=>exact h
 |succ n=>exact .inl h
theorem wx(c:Int):∃f,GW 0 f/\aF cS 1 4 [.int c]=.ok f:=by
 have p2:=zR;obtain⟨ns,n1,n2,_,en⟩:=uL c 2 (by decide);obtain⟨a,b,rfl⟩:∃a b,ns=[a,b]:=by
  match ns,n1 with
  |[a,b],_=>exact⟨a,b,rfl⟩
 have en':aF bH 2 10 [.int c,.int 2]=.ok (.lst [.str a,.str b]):=en;obtain⟨ws,w1,w2,ew⟩:=oA (c/2);have g2:=λi=>aJ (i:=i) (show(0:Int)<2 by decide);have g4:=λi=>aJ (i:=i) (show(0:Int)<4 by decide);have g5:=λi=>aJ (i:=i) (show(0:Int)<5 by decide);have d2:=λi=>bn (i:=i) (show(0:Int)<2 by decide) (show(2:Int)<10^200 by decide);have d9:=λi=>bn (i:=i) (show(0:Int)<9 by decide) (show(9:Int)<10^200 by decide);have d45:=λi=>bn (i:=i) (show(0:Int)<45 by decide) (show(45:Int)<10^200 by decide);have hk:∀f∈[D.tup [.str a,.tup [.str "number",.int (c/9%5-2),.int (c/9%5-2+c/45%4)]]],∃nm k,f=.tup [.str nm,k]/\oi k:=λf hf=>by
  rw[List.mem_singleton.mp hf];exact⟨_,_,rfl,.inl ⟨_,_,by omega,by omega,by omega,rfl⟩⟩
 rw[eQ];unfold cS;by_cases h:c%2=1
 ·refine⟨_,⟨_,[],rfl,by simp,by simp,hk,λ_ h=>nomatch h⟩,?_⟩;simp! only[en',d9,g5,d45,g4,g2,h,BEq.rfl,Cm,Cd,oa,xU]
 ·have h':(c%2==1)=false:=by simp[h]
  refine⟨_,⟨_,[.tup [.str b,.tup [.str "word",.tup (ws.map .str)]]],rfl,by simp,by simp,hk,λf hf=>?_⟩,?_⟩
  ·rw[List.mem_singleton.mp hf];exact⟨_,_,rfl,.inr ⟨ws,w1,w2,rfl⟩⟩
  ·simp! only[en',d9,g5,d45,g4,g2,d2,h',ew,Cm,Cd,oa,xU]
theorem x8(c:Int)(b:Bool):∃k,(b=false->oi k)/\pG 1 k/\aF bi 2 4 [.int c,.bl b]=.ok k:=by
 have p1:=wU;have p2:=zR;have g2:=λi=>aJ (i:=i) (show(0:Int)<2 by decide);have g6:=λi=>aJ (i:=i) (show(0:Int)<6 by decide);have g10:=λi=>aJ (i:=i) (show(0:Int)<10 by decide);have g25:=λi=>aJ (i:=i) (show(0:Int)<25 by decide);have g59:=λi=>aJ (i:=i) (show(0:Int)<nB by omega);have g259:=λi=>aJ (i:=i) (show(0:Int)<2*nB by omega);have m2:fN (.int 2) (.int nB)=some (.int (2*nB)):=gI (by decide) (by decide);have d3:=λi=>bn (i:=i) (show(0:Int)<3 by decide) (show(3:Int)<10^200 by decide);have d6:=λi=>bn (i:=i) (show(0:Int)<6 by decide) (show(6:Int)<10^200 by decide);have d25:=λi=>bn (i:=i) (show(0:Int)<25 by decide) (show(25:Int)<10^200 by decide);have flat:∀k,oi k->aF bi 2 4 [.int c,.bl b]=.ok k->∃k,(b=false->oi k)/\pG 1 k/\aF bi 2 4 [.int c,.bl b]=.ok k:=λk h e=>⟨k,λ_=>h,h.kin,e⟩
 by_cases h1:c%6<2
 ·refine flat _ (.inl ⟨c/6%25-12,c/6%25-12+c/6/25%10,by omega,by omega,by omega,rfl⟩) ?_;rw[bF];unfold bi;simp! only[d6,g6,decide_eq_true h1,g25,d25,g10,xU]
 ·by_cases h2:c%6=2
  ·have b1:=Jh (c/6) (show 2*nB≠0 by omega);have b2:=Jj (c/6) (show 0<2*nB by omega);have b3:=Jh (c/6/3) (show nB≠0 by omega);have b4:=Jj (c/6/3) (show 0<nB by omega);refine flat _ (.inl ⟨c/6%(2*nB)-nB,c/6%(2*nB)-nB+c/6/3%nB,by omega,by omega,by omega,rfl⟩) ?_;rw[bF];unfold bi;simp! only[d6,g6,decide_eq_false h1,(show(c%6==2)=true by simp[h2]),Be,m2,g259,d3,g59,xU]
  ·have h2':(c%6==2)=false:=(by simp[h2]);obtain⟨ws,w1,w2,ew⟩:=oA (c/6);by_cases h5:c%6=5
   ·cases b with
    |true=>
     obtain⟨f,⟨kf,rf,rfl,l1,l2,k1,k2⟩,ef⟩:=wx (c/6);refine⟨_,(λh=>by cases h),.inr ⟨kf,rf,(c/6%2==1),rfl,l1,l2,k1,k2⟩,?_⟩;rw[bF];unfold bi;simp! only[d6,g6,decide_eq_false h1,h2',(show(c%6==5)=true by simp[h5]),ef,g2,xU]
    |false=>
     refine flat _ (.inr ⟨ws,w1,w2,rfl⟩) ?_;rw[bF];unfold bi;simp! only[d6,g6,decide_eq_false h1,h2',(show(c%6==5)=true by simp[h5]),ew,oa]
   ·have h5':(c%6==5)=false:=(by simp[h5]);refine flat _ (.inr ⟨ws,w1,w2,rfl⟩) ?_;rw[bF];unfold bi;simp! only[d6,g6,decide_eq_false h1,h2',h5',ew,oa]
noncomputable def uJ(k v:D):Prop:=(∃lo hi i:Int,k=.tup [.str "number",.int lo,.int hi]/\lo<=i/\i<=hi/\v=.int i)\/∃(ws:ap)(w:Str),k=.tup [.str "word",.tup (ws.map .str)]/\w∈ws/\v=.str w
theorem ju{n:Nat}:∀(fs:List D),(∀f∈fs,∃nm k,f=.tup [.str nm,k]/\pG n k)->∃ps:cP,fs=ps.map (λp=>.tup [.str p.1,p.2])/\∀p∈ps,pG n p.2
 |[],_=>⟨[],rfl,λ_ h=>nomatch h⟩
 |f::fs,h=>by
  obtain⟨nm,k,rfl,q⟩:=h f G8;obtain⟨ps,rfl,q2⟩:=ju (n:=n) fs λx hx=>h x (G9 _ hx);refine⟨(nm,k)::ps,rfl,λp hp=>?_⟩;rcases List.mem_cons.mp hp with rfl|z
  ·exact q
  ·exact q2 p z
theorem uT{n:Nat}{kf rf:List D}(hk:∀f∈kf,∃nm k,f=.tup [.str nm,k]/\oi k)(hr:∀f∈rf,∃nm k,f=.tup [.str nm,k]/\pG n k):
  ∃ps:cP,kf++rf=ps.map (λp=>.tup [.str p.1,p.2])/\ps.length=kf.length+rf.length/\(∀p∈ps,pG n p.2)/\∀k∈(ps.map (·.2)).take kf.length,oi k:=by
 obtain⟨p1,e1,q1⟩:=ju (n:=n) kf λf hf=>by
  obtain⟨nm,k,e,q⟩:=hk f hf;exact⟨nm,k,e,q.kin⟩
 obtain⟨p2,e2,q2⟩:=ju (n:=n) rf hr;have l1:p1.length=kf.length:=by rw[e1,Hr]
 have l2:p2.length=rf.length:=by rw[e2,Hr]
 refine⟨p1++p2,by rw[Ik,<-e1,<-e2],by rw[HF,l1,l2],λp hp=>?_,λk hk'=>?_⟩
 ·rcases List.mem_append.mp hp with z|z
  ·exact q1 p z
  ·exact q2 p z
 ·rw[<-Ja,<-l1,List.take_left'  rfl]at hk';obtain⟨p,hp,rfl⟩:=List.mem_map.mp hk';obtain⟨nm,k,e,q⟩:=hk (.tup [.str p.1,p.2]) (by rw[e1];exact List.mem_map.mpr ⟨p,hp,rfl⟩);cases e;exact q
local macro_rules
 |`(tactic| simp! only[$xs,*])=>`(tactic| simp only[cK,qO,o9,sB,gR,df,ge_0,zv,mI,zr,nV,j4,n9,nA,yI,zn,zi,xD,yk,nT,nK,rP,iB,j3,mU,jN,rj,mM,mZ,jX,mH,ig,mO,iU,iw,gm,gG,ng,jK,gu,jO,ii,j5,jI,dj,jU,iV,nE,iG,iJ,dS,jZ,jM,xM,sA,xR,yY,yK,nN,jY,nY,jQ,jW,x6,zC,Jd,Je,Hq,HM,HR,Ij,K0,env0,List.replicate,IM,Hu,IG,Nat.reduceAdd,Nat.reduceSub,Ho,IT,nX,mG,rk,mV,nG,mP,gw,nU,sC,si,qK,nJ,hZ,h7,iz,iu,ip,ib,qV,rm,rG,qL,se,rg,ir,iM,eM,fg,ny,gk,fu,eZ,fq,n6,nO,eK,eP,iE,iy,jL,jS,iQ,j6,nM,mS,jV,jR,gN,if_true,if_false,Jf,Jg,HQ,$xs,*])
theorem jg{g:GF}{B:bJ}{k:Ks}{Q:R D->Prop}(Iv:Nat->aw->Prop):∀(ds:List D)(o i:Nat)(ρ:aw)(d:D),ds[i]?=some d->(∀j d ρ (k':Ks),j<i->ds[j]?=some d->Iv (o+j) ρ->∃ρ1 ρ2,g d ρ=some ρ1/\Iv (o+j+1) ρ2/\B k' ρ1=k'.nx ρ2)->Iv o ρ->
  (∀ρ (k':Ks),Iv (o+i) ρ->∃ρ1,g d ρ=some ρ1/\Q (B k' ρ1))->Q (cW g B k ds ρ)
 |[],_,_,_,_,h,_,_,_=>nomatch h
 |x::ds,o,0,ρ,d,h,_,hI,q=>by
  cases h;obtain⟨ρ1,e1,q1⟩:=q ρ ⟨cW g B k ds,k.nx,cW g B k ds,k.ex⟩ hI;show Q ((rO (g x ρ)).bind λρ1=>B ⟨cW g B k ds,k.nx,cW g B k ds,k.ex⟩ ρ1);rw[e1,df,cK];exact q1
 |x::ds,o,i+1,ρ,d,h,st,hI,q=>by
  obtain⟨ρ1,ρ2,e1,h2,e2⟩:=st 0 x ρ ⟨cW g B k ds,k.nx,cW g B k ds,k.ex⟩ ‹0› rfl hI;show Q ((rO (g x ρ)).bind λρ1=>B ⟨cW g B k ds,k.nx,cW g B k ds,k.ex⟩ ρ1);rw[e1,df,cK,e2];refine jg Iv ds (o+1) i ρ2 d (by rw[Iz]at h;exact h) (λj d' ρ' k' hj hd hI'=>?_) h2 (λρ' k' hI'=>q ρ' k' (by rw[show o+(i+1)=o+1+i by omega];exact hI'));obtain⟨a,b,c1,c2,c3⟩:=st (j+1) d' ρ' k' ‹0› (by rw[Iz];exact hd) (by rw[show o+(j+1)=o+1+j by omega];exact hI');exact⟨a,b,c1,by rw[show o+1+j+1=o+(j+1)+1 by omega];exact c2,c3⟩
noncomputable abbrev fld(p:Str×D):D:=.tup [.str p.1,p.2]
theorem kA(kf rf:List D)(ps:cP)(hl:ps.length<=100)(e:kf++rf=ps.map fld):aF dN 1 1 [.tup [.tup kf,.tup rf]]=.ok (.tup (ps.map λp=>.str p.1)):=by
 have hl':kf.length+rf.length<=100:=by have:=congrArg List.length e;rw[HF,Hr]at this;omega
 have f0:dZ [none] (bP (f2 aI (f2 ak (af 0) (fC (.int 0))) (f2 ak (af 0) (fC (.int 1))))) (gN 0) bw (f2 ak (af 0) (fC (.int 0))) [some (.val (.tup [.tup kf,.tup rf]))]=.ok (.lst (ps.map λp=>.str p.1)):=by
  refine cv (ds:=ps.map fld) ?_ (by rw[Hr];omega) ?_
  ·simp! only[];rw[cg _ _ ‹0›,e];simp! only[]
  ·refine eY _ _ ps λp _=>⟨_,rfl,rfl,?_⟩
   simp! only[]
 rw[eQ];unfold dN;simp! only[f0]
theorem js(xs:List D):lJ [.tup xs]=some (dz 0 xs):=nr rfl
theorem fO:∀(xs:List D)(k i:Nat),(dz k xs)[i]?=(xs[i]?).map λx=>.tup [.int ((k+i:Nat):Int),x]
 |[],k,i=>by simp[dz]
 |x::xs,k,0=>by simp[dz]
 |x::xs,k,i+1=>by
  rw[dz,Iz,fO xs (k+1) i,Iz];congr 1;funext y;rw[show k+1+i=k+(i+1)by omega]
theorem lU(kf rf:List D)(ps:cP)(hl:ps.length<=100)(e:kf++rf=ps.map fld)(i:Nat)(nm:Str)(k:D)(hi:ps[i]?=some (nm,k)):aF dH 2 2 [.tup [.tup kf,.tup rf],.int i]=.ok k:=by
 have hl':kf.length+rf.length<=100:=by have:=congrArg List.length e;rw[HF,Hr]at this;omega
 have g:ak (.tup (ps.map fld)) (.int (i:Int))=some (.tup [.str nm,k]):=by
  rw[Ai,lw,HB,hi];rfl
 rw[bF];unfold dH;simp! only[cg kf rf ‹0›,e,g]
theorem gU(kf rf:List D)(i:Nat):aF eF 2 2 [.tup [.tup kf,.tup rf],.int i]=.ok (.bl (decide (i<kf.length))):=by
 rw[bF];unfold eF
 have:decide ((i:Int)<(kf.length:Int))=decide (i<kf.length):=by
  by_cases h:i<kf.length
  ·rw[decide_eq_true h,decide_eq_true ‹0›]
  ·rw[decide_eq_false h,decide_eq_false ‹0›]
 simp! only[this]
theorem gD(vs os:List D)(i:Nat)(h:vs.length+os.length<=10000):aF bW 3 3 [.tup vs,.int i,.tup os]=.ok (.tup (vs.take i++os++vs.drop (i+1))):=by
 have l1:(vs.take i).length<=vs.length:=by rw[Hx];omega
 have l2:(vs.drop (i+1)).length<=vs.length:=by rw[HH];omega
 have c:((i:Int)+1)=((i+1:Nat):Int):=by omega
 have a1:=cg (vs.take i) os ‹0›;have a2:=cg (vs.take i++os) (vs.drop (i+1)) (by rw[HF];omega);rw[kB];unfold bW;simp! only[c,ji,fP,a1,a2]
theorem sG(kf rf os:List D)(i:Nat)(h:kf.length+rf.length+os.length<=10000):aF ck 3 3 [.tup [.tup kf,.tup rf],.int i,.tup os]=.ok (if i<kf.length then .tup [.tup (kf.take i++os++kf.drop (i+1)),.tup rf]else .tup [.tup kf,.tup (rf.take (i-kf.length)++os++rf.drop (i-kf.length+1))]):=by
 rw[kB];unfold ck;by_cases hi:i<kf.length
 ·rw[if_pos hi];simp! only[gU,decide_eq_true hi,gD kf os i ‹0›,oa]
 ·rw[if_neg hi];have c:((i:Int)-(kf.length:Int))=((i-kf.length:Nat):Int):=by omega
  simp! only[gU,decide_eq_false hi,c,gD rf os (i-kf.length) ‹0›,oa]
theorem qX:∀bs:List Bool,anyB (bs.map .bl)=some (bs.any id)
 |[]=>rfl
 |b::bs=>by
  show(anyB (bs.map .bl)).bind (λc=>some (b||c))=_;rw[qX bs];rfl
theorem yy(bs:List Bool):sN [.lst (bs.map .bl)]=some (.bl (bs.any id)):=by
 have e:sN [.lst (bs.map .bl)]=(anyB (bs.map .bl)).bind λb=>some (D.bl b):=rfl;rw[e,qX];rfl
theorem sQ(i j:Int):dY (.int i) (.tup [.int j])=some (.bl (!(j==i))):=by
 have e:dY (.int i) (.tup [.int j])=some (.bl (!inD (.int i) [.int j])):=rfl;rw[e];unfold inD;rw[Ii,List.any_nil,Bool.or_false,pyEq]
end TD
namespace Tk23
open PySem PySem.Spec L2 TG TX TD
noncomputable def top(i:Nat):Kx:=PySem.Challenge.pw_twoglass_k23_parts_refused.main.body.getD i (.Pass ⟨0,0,0,0⟩)
noncomputable abbrev fz:Kx:=inClass (top 36) 0
theorem jj:cu ["self","name","by","quotient","rest"] ["self","name","by","quotient","rest"] (aD fz):=⟨rfl,rfl,rfl,by decide +kernel,rfl,by decide +kernel,by decide +kernel⟩
noncomputable abbrev fD:Kx:=inClass (top 12) 0
theorem jo:cu ["self","view"] ["self","view"] (aD fD):=⟨rfl,rfl,rfl,by decide +kernel,rfl,by decide +kernel,by decide +kernel⟩
noncomputable def dk(aH aG:cQ):bJ:=au (cU (fB (f2 et (f2 ak (af 0) (fC (.int 0))) (fC (.str "number")))) (aY (iO (kz "int" (af 1)) (iO (pA (kz "bool" (af 1))) (eN ug ug (f2 ak (af 0) (fC (.int 1))) (af 1) (f2 ak (af 0) (fC (.int 2))))))) aW) (au (cU (fB (f2 et (f2 ak (af 0) (fC (.int 0))) (fC (.str "word")))) (aY (iO (kz "str" (af 1)) (f2 xr (af 1) (f2 ak (af 0) (fC (.int 1)))))) aW) (aY (iO (fR aG (aa (f2 ak (af 0) (fC (.int 1))) (aa (af 1) ah))) (qH (f2 j0 (af 1) (a9 ah)) (pA (f2 ak (af 0) (fC (.int 2))))))))
noncomputable def cV(aH aG:cQ):bJ:=au (aC 2 (dZ [none,none] (bP (f2 aI (f2 ak (af 0) (fC (.int 0))) (f2 ak (af 0) (fC (.int 1))))) (gT 2 (kC [0,1])) bw (af 1))) (au (aC 3 (fL cT (aa (f2 ak (af 0) (fC (.int 0))) ah))) (au (cU (kj (cC (kz "tuple" (af 1)))) (aY (fC (.bl false))) aW) (dR [0] (au (ll (bP (af 1)) (gN 4) (au (cU (uF (kj (cC (kz "tuple" (af 4)))) (fB (f2 j0 (fL cT (aa (af 4) ah)) (fL cT (aa (af 2) ah))))) (aY (fC (.bl false))) aW) (au (cU (kj (cC (fL ly (aa (dZ [none,none] (uZ (aa (af 2) (aa (af 4) ah))) (gT 2 (kC [0,1])) bw (fR aH (aa (af 0) (aa (af 1) ah)))) ah)))) (aY (fC (.bl false))) aW) (dR [4] aW)))) (aY (fL ly (aa (dZ [none,some 1,some 3] (bh (aa (f2 cI (fL cT (aa (af 1) ah)) (fC (.int 1))) ah)) (gN 0) bw (f2 eW (aT (f2 ak (af 1) (af 0)) aP (aV (af 2))) (aT (f2 ak (af 1) (f2 aI (af 0) (fC (.int 1)))) aP (aV (af 2))))) ah)))))))
mutual
noncomputable def aH:Nat->cQ
 |0=>λ_=>un
 |n+1=>aF (dk (aH n) (aG n)) 2 2
noncomputable def aG:Nat->cQ
 |0=>λ_=>un
 |n+1=>aF (cV (aH n) (aG n)) 2 5
end
theorem cz(n:Nat):aH (n+1)=aF (dk (aH n) (aG n)) 2 2:=by rw[aH]
theorem fW:∀n:Nat,Ar 2 (aH n)
 |0=>λ_ h=>absurd (by rw[aH]) h
 |n+1=>by rw[cz];exact kq
theorem cq(n:Nat):aG (n+1)=aF (cV (aH n) (aG n)) 2 5:=by rw[aG]
theorem fE:∀n:Nat,Ar 2 (aG n)
 |0=>λ_ h=>absurd (by rw[aG]) h
 |n+1=>by rw[cq];exact kq
noncomputable def cJ:bJ:=au (aC 5 (fL iF (aa (f2 aI (f2 ak (af 0) (fC (.int 0))) (f2 ak (af 0) (fC (.int 1)))) ah))) (au (aC 6 (f2 ak (f2 ak (af 5) (af 1)) (fC (.int 1)))) (au (aC 7 (a9 (aa (fC (.str "number")) (aa (f2 bc (f2 cI (f2 ak (af 6) (fC (.int 1))) (f2 aE (f2 ak (af 6) (fC (.int 1))) (af 2))) (af 2)) (aa (f2 bc (f2 cI (f2 ak (af 6) (fC (.int 2))) (f2 aE (f2 ak (af 6) (fC (.int 2))) (af 2))) (af 2)) ah))))) (au (aC 5 (f2 aI (f2 aI (aT (af 5) aP (aV (af 1))) (eI (aa (a9 (aa (f2 ak (af 3) (fC (.int 0))) (aa (af 7) ah))) (aa (a9 (aa (f2 ak (af 3) (fC (.int 1))) (aa (a9 (aa (fC (.str "number")) (aa (fC (.int 0)) (aa (f2 cI (af 2) (fC (.int 1))) ah)))) ah))) ah)))) (aT (af 5) (aV (f2 aI (af 1) (fC (.int 1)))) aP))) (au (aC 8 (f2 aI (fL cT (aa (f2 ak (af 0) (fC (.int 0))) ah)) (fL kt (aa (f2 eW (af 1) (fL cT (aa (f2 ak (af 0) (fC (.int 0))) ah))) ah)))) (au (cU (kj (cC (fR (aG 12) (aa (a9 (aa (fL bO (aa (aT (af 5) aP (aV (af 8))) ah)) (aa (fL bO (aa (aT (af 5) (aV (af 8)) aP) ah)) ah))) (aa (af 4) ah))))) (aY (fC (.bl false))) aW) (dR [0,3,5,7,8] (au (ll (bP (af 4)) (gN 9) (au (cU (kj (fB (eN ug ug (f2 ak (af 6) (fC (.int 1))) (f2 aI (f2 fN (f2 ak (af 9) (af 1)) (af 2)) (f2 ak (af 9) (f2 aI (af 1) (fC (.int 1))))) (f2 ak (af 6) (fC (.int 2)))))) (aY (fC (.bl true))) aW) (dR [9] aW))) (aY (fC (.bl false))))))))))
noncomputable def bI:bJ:=au (aC 1 (eI (aa (f1 (dA [("NoField",true),("Twice",false),("NoKind",false),("TooMany",false),("Torn",false)]) (af 0)) (aa (f1 (dA [("NoField",false),("Twice",false),("NoKind",true),("TooMany",false),("Torn",false)]) (af 0)) (aa (f1 (dA [("NoField",false),("Twice",true),("NoKind",false),("TooMany",false),("Torn",false)]) (af 0)) ah))))) (au (aC 1 (f2 aI (af 1) (eI (aa (f1 (dA [("NoField",false),("Twice",false),("NoKind",false),("TooMany",true),("Torn",false)]) (af 0)) (aa (f1 (dA [("NoField",false),("Twice",false),("NoKind",false),("TooMany",false),("Torn",false)]) (af 0)) (aa (f1 (dA [("NoField",false),("Twice",false),("NoKind",false),("TooMany",false),("Torn",false)]) (af 0)) ah)))))) (au (aC 1 (f2 aI (af 1) (eI (aa (f1 (dA [("NoField",false),("Twice",false),("NoKind",false),("TooMany",false),("Torn",false)]) (af 0)) (aa (f1 (dA [("NoField",false),("Twice",false),("NoKind",false),("TooMany",false),("Torn",true)]) (af 0)) ah))))) (au (cU (uF (cC (f1 (rW [[("NoField",false),("Twice",false),("NoKind",false),("TooMany",false),("Torn",false)],[("NoField",false),("Twice",false),("NoKind",false),("TooMany",false),("Torn",false)],[("NoField",false),("Twice",false),("NoKind",false),("TooMany",false),("Torn",false)],[("NoField",false),("Twice",false),("NoKind",false),("TooMany",false),("Torn",false)],[("NoField",false),("Twice",false),("NoKind",false),("TooMany",false),("Torn",false)]]) (af 0))) (kj (cC (f1 (dA [("NoField",true),("Twice",true),("NoKind",true),("TooMany",true),("Torn",true)]) (af 0))))) (aY (tN (fC (.int 1)))) aW) (au (cU (fB (f2 j0 (fL cT (aa (dZ [none] (bP (af 1)) (gN 0) (cC (af 0)) (af 0)) ah)) (fC (.int 1)))) (aY (tN (fC (.int 1)))) aW) (aY (jy (af 1) (aa (fC (.bl true)) ah)))))))
noncomputable def b9:bJ:=au (aC 4 (fL iF (aa (f2 aI (f2 ak (af 0) (fC (.int 0))) (f2 ak (af 0) (fC (.int 1)))) ah))) (au (aC 5 (dZ [none,none] (bP (af 4)) (gT 2 (kC [0,1])) bw (af 0))) (au (cU (fB (f2 dY (af 1) (af 5))) (aY (fC (.int 0))) aW) (au (aC 6 (jy (af 5) (aa (af 1) ah))) (au (aC 7 (f2 ak (f2 ak (af 4) (af 6)) (fC (.int 1)))) (au (cU (uF (fB (f2 j0 (f2 ak (af 7) (fC (.int 0))) (fC (.str "number")))) (uF (fB (f2 eW (af 2) (fC (.int 2)))) (fB (f2 xu (af 2) (f2 dG (fC (.int 10)) (fC (.int 9))))))) (aY (fC (.int 1))) aW) (au (aC 8 (f2 aI (aT (af 5) aP (aV (af 6))) (aT (af 5) (aV (f2 aI (af 6) (fC (.int 1)))) aP))) (au (cU (uF (fB (f2 et (f2 ak (af 3) (fC (.int 0))) (f2 ak (af 3) (fC (.int 1))))) (uF (fB (f2 xr (f2 ak (af 3) (fC (.int 0))) (af 8))) (fB (f2 xr (f2 ak (af 3) (fC (.int 1))) (af 8))))) (aY (fC (.int 2))) aW) (au (cU (fB (f2 et (fL cT (aa (f2 ak (af 0) (fL kt (aa (f2 Bu (af 6) (fL cT (aa (f2 ak (af 0) (fC (.int 0))) ah))) ah))) ah)) (fC (.int 8)))) (aY (fC (.int 3))) aW) (aY (f2 cI (fC (.int 8)) (fL kt (aa (qH (f2 j0 (f2 aE (f2 ak (af 7) (fC (.int 1))) (af 2)) (fC (.int 0))) (f2 j0 (f2 aE (f2 aI (f2 ak (af 7) (fC (.int 2))) (fC (.int 1))) (af 2)) (fC (.int 0)))) ah))))))))))))
noncomputable def bK:bJ:=aY (af 1)
noncomputable def bf:bJ:=au (aC 3 (fR (aF dH 2 2) (aa (af 1) (aa (af 2) ah)))) (au (aC 4 (fR (aF dq 1 1) (aa (af 1) ah))) (au (cU (fB (f2 j0 (f2 aE (f2 ak (af 3) (fC (.int 1))) (f1 (dP "by" ["Part"]) (af 0))) (fC (.int 0)))) (i9 "Torn" ["view"] (aa (a9 (aa (fR (aF bW 3 3) (aa (af 4) (aa (af 2) (aa (a9 (aa (f2 bc (f2 ak (af 3) (fC (.int 1))) (f1 (dP "by" ["Part"]) (af 0))) (aa (fC (.int 0)) ah))) ah)))) ah)) ah)) aW) (cU (fB (f2 j0 (f2 aE (f2 aI (f2 ak (af 3) (fC (.int 2))) (fC (.int 1))) (f1 (dP "by" ["Part"]) (af 0))) (fC (.int 0)))) (i9 "Torn" ["view"] (aa (a9 (aa (fR (aF bW 3 3) (aa (af 4) (aa (af 2) (aa (a9 (aa (f2 bc (f2 ak (af 3) (fC (.int 2))) (f1 (dP "by" ["Part"]) (af 0))) (aa (f2 cI (f1 (dP "by" ["Part"]) (af 0)) (fC (.int 1))) ah))) ah)))) ah)) ah)) aW)))
noncomputable def a7:bJ:=au (cU (fB (f2 et (f1 (dP "quotient" ["Part"]) (af 0)) (f1 (dP "rest" ["Part"]) (af 0)))) (fY "Twice" (aa (fC (.str "quotient and rest have one name")) ah)) aW) (cU (uF (cC (fR (aF bD 3 4) (aa (af 1) (aa (f1 (dP "quotient" ["Part"]) (af 0)) (aa (a9 (aa (af 2) ah)) ah))))) (cC (fR (aF bD 3 4) (aa (af 1) (aa (f1 (dP "rest" ["Part"]) (af 0)) (aa (a9 (aa (af 2) ah)) ah)))))) (fY "Twice" (aa (fC (.str "another field has the name of the quotient or of the rest")) ah)) aW)
noncomputable def cG:bJ:=au (ll (de (aa (fR (aF dN 1 1) (aa (af 0) ah)) ah)) (gT 2 (kC [2,3])) (au (cU (fB (f2 et (af 3) (af 1))) (aY (af 2)) aW) (dR [2,3] aW))) (fY "NoField" (aa (fC (.str "no field has this name")) ah))
noncomputable def ao:bJ:=au (aC 2 (fR (aF cG 2 4) (aa (af 1) (aa (f1 (dP "name" ["Part"]) (af 0)) ah)))) (au (aC 3 (fR (aF dH 2 2) (aa (af 1) (aa (af 2) ah)))) (au (cU (uF (fB (f2 j0 (f2 ak (af 3) (fC (.int 0))) (fC (.str "number")))) (kj (fB (eN ug ug (fC (.int 2)) (f1 (dP "by" ["Part"]) (af 0)) (fC (.int 1000000000)))))) (fY "NoKind" (aa (fC (.str "only a number is parted, and by 2 to 10 ** 9")) ah)) aW) (au (lX (fA "check_names" [("Part",(aF a7 3 3))] (af 0) (aa (af 1) (aa (af 2) ah)))) (au (cU (fB (f2 Bu (fL cT (aa (Ea (cC (fR (aF eF 2 2) (aa (af 1) (aa (af 2) ah)))) (f2 ak (af 1) (fC (.int 0))) (f2 ak (af 1) (fC (.int 1)))) ah)) (fC (.int 8)))) (fY "TooMany" (aa (fC (.str "there is no room for one more field")) ah)) aW) (au (lX (fA "check_ends" [("Part",(aF bf 3 5))] (af 0) (aa (af 1) (aa (af 2) ah)))) (au (aC 4 (a9 (aa (fC (.str "number")) (aa (f2 bc (f2 ak (af 3) (fC (.int 1))) (f1 (dP "by" ["Part"]) (af 0))) (aa (f2 bc (f2 ak (af 3) (fC (.int 2))) (f1 (dP "by" ["Part"]) (af 0))) ah))))) (au (aC 5 (a9 (aa (fC (.str "number")) (aa (fC (.int 0)) (aa (f2 cI (f1 (dP "by" ["Part"]) (af 0)) (fC (.int 1))) ah))))) (aY (fR (aF ck 3 3) (aa (af 1) (aa (af 2) (aa (a9 (aa (a9 (aa (f1 (dP "quotient" ["Part"]) (af 0)) (aa (af 4) ah))) (aa (a9 (aa (f1 (dP "rest" ["Part"]) (af 0)) (aa (af 5) ah))) ah))) ah))))))))))))
noncomputable def bA:bJ:=au (aC 2 (fC .non)) (au (u6 ["NoField","Twice","NoKind","TooMany","Torn"] 3 (lX (fA "view_form" [("Step",(aF bK 2 2)),("Part",(aF ao 2 6))] (af 0) (aa (af 1) ah))) (aC 2 (af 3))) (aY (af 2)))
noncomputable def dI:bJ:=au (cU (fB (f2 et (f2 aE (af 0) (fC (.int 4))) (fC (.int 1)))) (aY (f2 aI (f2 dG (fC (.int 10)) (fC (.int 9))) (f2 aE (f2 bc (af 0) (fC (.int 4))) (fC (.int 3))))) aW) (au (cU (fB (f2 et (f2 aE (af 0) (fC (.int 4))) (fC (.int 2)))) (aY (f2 cI (f2 aE (f2 bc (af 0) (fC (.int 4))) (f2 fN (fC (.int 2)) (f2 dG (fC (.int 10)) (fC (.int 59))))) (f2 dG (fC (.int 10)) (fC (.int 59))))) aW) (aY (f2 ak (eI (aa (fC (.int 2)) (aa (fC (.int 3)) (aa (fC (.int 4)) (aa (fC (.int 6)) (aa (fC (.int 12)) (aa (fC (.int 5)) (aa (fC (.int 8)) (aa (fC (.int 0)) (aa (fC (.int 1)) (aa (tN (fC (.int 1))) ah))))))))))) (f2 aE (f2 bc (af 0) (fC (.int 4))) (fC (.int 10))))))
noncomputable def cO:bJ:=au (aC 2 (fR (aF aj 2 2) (aa (af 0) (aa (fC (.int 1)) ah)))) (au (aC 3 (f2 aI (fC (.int 1)) (f2 aE (af 2) (fC (.int 3))))) (au (aC 4 (f2 aE (f2 bc (af 2) (fC (.int 3))) (fC (.int 4)))) (au (cU (fB (f2 et (f2 aE (f2 bc (af 2) (fC (.int 12))) (fC (.int 5))) (fC (.int 1)))) (au (aC 3 (fC (.int 8))) (aC 4 (f2 aE (f2 bc (af 2) (fC (.int 60))) (fC (.int 9))))) aW) (au (cU (fB (f2 et (f2 aE (f2 bc (af 2) (fC (.int 12))) (fC (.int 5))) (fC (.int 2)))) (au (aC 3 (f2 aI (fC (.int 1)) (f2 aE (f2 bc (af 2) (fC (.int 60))) (fC (.int 8))))) (aC 4 (fC (.int 8)))) aW) (au (aC 5 (f2 aE (fR (aF aj 2 2) (aa (af 0) (aa (fC (.int 3)) ah))) (f2 aI (af 3) (af 4)))) (au (la 6 (eI ah)) (dR [2] (au (ll (bh (aa (f2 aI (af 3) (af 4)) ah)) (gN 7) (au (zF 6 oC (aa (a9 (aa (f2 ak (af 1) (af 7)) (aa (fR (aF bi 2 4) (aa (fR (aF aO 2 3) (aa (fR (aF aj 2 2) (aa (af 0) (aa (fC (.int 2)) ah))) (aa (af 7) ah))) (aa (f2 Bu (af 7) (af 3)) ah))) ah))) ah)) (dR [7] aW))) (au (aC 8 (f2 cI (f2 aE (fR (aF aO 2 3) (aa (fR (aF aj 2 2) (aa (af 0) (aa (fC (.int 4)) ah))) (aa (fC (.int 1)) ah))) (f2 ak (eI (aa (fC (.int 7)) (aa (fC (.int 60)) (aa (f2 dG (fC (.int 10)) (fC (.int 50))) ah)))) (f2 aE (fR (aF aj 2 2) (aa (af 0) (aa (fC (.int 4)) ah))) (fC (.int 3))))) (fC (.int 30)))) (au (aC 9 (f2 aI (af 8) (f2 aE (fR (aF aO 2 3) (aa (fR (aF aj 2 2) (aa (af 0) (aa (fC (.int 4)) ah))) (aa (fC (.int 2)) ah))) (f2 ak (eI (aa (fC (.int 7)) (aa (fC (.int 60)) (aa (f2 dG (fC (.int 10)) (fC (.int 50))) ah)))) (f2 aE (f2 bc (fR (aF aj 2 2) (aa (af 0) (aa (fC (.int 4)) ah))) (fC (.int 3))) (fC (.int 3))))))) (au (cU (fB (f2 xu (f2 aE (f2 bc (fR (aF aj 2 2) (aa (af 0) (aa (fC (.int 4)) ah))) (fC (.int 9))) (fC (.int 3))) (fC (.int 0)))) (au (aC 8 (f2 cI (af 8) (f2 aE (af 8) (fC (.int 12))))) (aC 9 (f2 aI (f2 cI (af 9) (f2 aE (af 9) (fC (.int 12)))) (fC (.int 11))))) aW) (au (cU (fB (f2 xu (f2 aE (f2 bc (fR (aF aj 2 2) (aa (af 0) (aa (fC (.int 3)) ah))) (fC (.int 16))) (fC (.int 5))) (fC (.int 0)))) (ic 6 (af 5) (a9 (aa (f2 ak (af 1) (af 5)) (aa (a9 (aa (fC (.str "number")) (aa (af 8) (aa (af 9) ah)))) ah)))) aW) (oV 6 (aY (a9 (aa (a9 (aa (fL bO (aa (aT (af 6) aP (aV (af 3))) ah)) (aa (fL bO (aa (aT (af 6) (aV (af 3)) aP) ah)) ah))) (aa (af 5) ah)))))))))))))))))
noncomputable def jA:bJ:=au (aC 1 (fR (aF bH 2 10) (aa (fR (aF aj 2 2) (aa (af 0) (aa (fC (.int 0)) ah))) (aa (fC (.int 20)) ah)))) (au (v8 (fR (aF cO 2 10) (aa (af 0) (aa (af 1) ah))) (gT 2 (kC [2,3]))) (au (aC 4 (fR (aF aj 2 2) (aa (af 0) (aa (fC (.int 6)) ah)))) (au (aC 5 (f2 aI (dZ [none,none] (bP (f2 aI (f2 ak (af 2) (fC (.int 0))) (f2 ak (af 2) (fC (.int 1))))) (gT 2 (kC [0,1])) bw (af 0)) (aT (af 1) (aV (fC (.int 18))) (aV (fC (.int 20)))))) (au (aC 6 (a9 (aa (f2 ak (af 1) (fC (.int 18))) (aa (f2 ak (af 1) (fC (.int 19))) ah)))) (au (cU (fB (f2 et (f2 aE (af 4) (fC (.int 3))) (fC (.int 1)))) (aC 6 (a9 (aa (f2 ak (af 5) (f2 aE (f2 bc (af 4) (fC (.int 3))) (fL cT (aa (af 5) ah)))) (aa (f2 ak (af 1) (fC (.int 19))) ah)))) aW) (au (cU (fB (f2 et (f2 aE (af 4) (fC (.int 3))) (fC (.int 2)))) (aC 6 (a9 (aa (f2 ak (af 5) (f2 aE (f2 bc (af 4) (fC (.int 3))) (fL cT (aa (af 5) ah)))) (aa (f2 ak (af 5) (f2 aE (f2 bc (af 4) (fC (.int 54))) (fL cT (aa (af 5) ah)))) ah)))) aW) (au (aC 7 (f2 ak (af 1) (af 3))) (au (cU (fB (f2 et (f2 aE (f2 bc (af 4) (fC (.int 972))) (fC (.int 6))) (fC (.int 1)))) (aC 7 (f2 ak (af 1) (fC (.int 17)))) aW) (au (aC 8 (fR (aF dI 1 1) (aa (fR (aF aj 2 2) (aa (af 0) (aa (fC (.int 5)) ah))) ah))) (au (aC 9 (fR (aF bA 2 4) (aa (fNew "Part" ["name","by","quotient","rest"] (aa (af 7) (aa (af 8) (aa (f2 ak (af 6) (fC (.int 0))) (aa (f2 ak (af 6) (fC (.int 1))) ah))))) (aa (af 2) ah)))) (au (aC 10 (fR (aF b9 4 9) (aa (af 2) (aa (af 7) (aa (af 8) (aa (af 6) ah)))))) (au (cU (fB (f2 et (af 10) (fC (.int 8)))) (aY (oY (af 9))) aW) (au (cU (fB (f2 j0 (fR (aF bI 1 2) (aa (af 9) ah)) (af 10))) (aY (fC (.bl false))) aW) (aY (qH (f2 eW (af 10) (fC (.int 7))) (fR (aF cJ 5 10) (aa (af 2) (aa (af 3) (aa (af 8) (aa (af 6) (aa (f1 (lG "view" ["Torn"]) (af 9)) ah)))))))))))))))))))))
set_option hygiene false
local macro_rules|`(tactic|ktr_call $p $e)=>`(tactic|((with_reducible show $p);refine $e))
local macro_rules|`(tactic|walk_at "A")=>`(tactic|first|ktr_call (mR _ _ (au _ _)) (tI ?_ ?_)|ktr_call (mR _ _ (dR _ _)) (ut _ ?_)|ktr_call (mR _ _ (oV _ _)) (wL _ ?_)|ktr_call (mR _ _ aW) wt|refine xh ?_)
local macro_rules|`(tactic|walk_at "B")=>`(tactic|first|ktr_call (XS _ _ (cU _ _ _)) (AY ?_ ?_ ?_)|ktr_call (XS _ _ (aY _)) (za ?_)|ktr_call (XS _ _ (aC _ (dZ _ _ _ _ _))) (Gy (by first|assumption|exact lP rfl) rfl (by first|exact gq rfl|exact eL rfl) ?_ ?_)|ktr_call (XS _ _ (aC _ _)) (xs _ (by first|assumption|exact lP rfl) ?_)|ktr_call (XS _ _ aW) wj|ktr_call (XS _ _ aW) yP|ktr_call (XS _ _ (lX _)) (uP ?_)|ktr_call (XS _ _ (v8 _ _)) (yJ ?_ ?_)|ktr_call (XS _ _ (ll _ _ _)) (xY hp rfl ?_ ?_ ?_)|ktr_call (XS _ _ (la _ (dZ _ _ _ _ _))) (GP (by first|assumption|exact lP rfl) rfl (by first|exact gq rfl|exact eL rfl) ?_ ?_)|ktr_call (XS _ _ (la _ _)) (xX (by first|assumption|exact lP rfl) rfl (by first|exact Or.inl rfl|exact Or.inr rfl) ?_)|ktr_call (XS _ _ (zF _ oC _)) (Am PySem.F.slot_list_append PySem.F.type_list_append me tG (xv _) ?_)|ktr_call (XS _ _ (ic _ _ _)) (wJ (xv _) ?_ ?_)|ktr_call (XS _ _ (fY _ _)) (sU rfl (by walk_at "a") rfl ?_)|ktr_call (XS _ _ (i9 _ _ _)) (qF rfl rfl (by walk_at "a") hr ‹0› rfl ?_)|ktr_call (XS _ _ (u6 _ _ _ _)) (yu rfl rfl rfl (fun _=>rfl) (by walk_at "a") rfl (by first|assumption|exact lP rfl) rfl rfl (fun E' pn hp=>?_) (fun A' pn hA hU=>?_)))
local macro_rules|`(tactic|walk_at "C")=>`(tactic|first|ktr_call (XT _ _ (fB (f2 et _ _))) (dW (uQ hr.units) bQ ?_ ?_ (du _))|ktr_call (XT _ _ (fB (f2 j0 _ _))) (dW (vd hr.units) bQ ?_ ?_ (du _))|ktr_call (XT _ _ (fB (f2 eW _ _))) (dW (vK hr.units) bQ ?_ ?_ (du _))|ktr_call (XT _ _ (fB (f2 ug _ _))) (dW lZ cj ?_ ?_ (du _))|ktr_call (XT _ _ (fB (f2 xu _ _))) (dW zL cj ?_ ?_ (du _))|ktr_call (XT _ _ (fB (f2 Bu _ _))) (dW Ad cj ?_ ?_ (du _))|ktr_call (XT _ _ (fB (f2 xr _ _))) (dW (uI hr.units) bQ ?_ ?_ rfl)|ktr_call (XT _ _ (fB (f2 dY _ _))) (dW (mx hr.units) bQ ?_ ?_ rfl)|ktr_call (XT _ _ (fB (oY _))) (zG ?_)|ktr_call (XT _ _ (fB (eN ug ug _ _ _))) (sM lZ cj lZ cj ?_ ?_ ?_)|ktr_call (XT _ _ (kj _)) (y9 ?_)|ktr_call (XT _ _ (oM _ _)) (Gh ?_)|ktr_call (XT _ _ (uF _ _)) (Gh ?_)|ktr_call (XT _ _ (cC _)) (sW ?_))
local macro_rules|`(tactic|walk_at "D")=>`(tactic|first|ktr_call (XW _ _ (oM _ _)) (yo ?_ ?_)|ktr_call (XW _ _ (uF _ _)) (AF ?_ ?_)|refine wC ?_|refine zo ?_)
local macro_rules|`(tactic|walk_at "F")=>`(tactic|first|ktr_call (XI _ _ _ (bh _)) (qm rfl (by walk_at "a") ?_)|ktr_call (XI _ _ _ (uZ _)) (yt rfl (by walk_at "a") ?_)|ktr_call (XI _ _ _ (de _)) (lx rfl (by walk_at "a") ?_)|ktr_call (XI _ _ _ (bP _)) (yg ?_))
local macro_rules|`(tactic|walk_at "L")=>`(tactic|first|ktr_call (XN _ _ (eI _)) (yB ?_)|ktr_call (XN _ _ (fL iF _)) (uY rfl (by walk_at "a") Kk ?_)|ktr_call (XN _ _ (dZ _ _ _ _ _)) (Gu rfl (by first|exact gq rfl|exact eL rfl) ?_ ?_))
local macro_rules|`(tactic|walk_at "M")=>`(tactic|first|with_reducible refine zA ?_|ktr_call (XE _ _ (af _)) (xw _)|ktr_call (XE _ _ (fC (.int _))) yZ|ktr_call (XE _ _ (fC (.str _))) xC|ktr_call (XE _ _ (fC (.bl _))) B8|ktr_call (XE _ _ (fC .non)) xW|ktr_call (XE _ _ (fC (.int _))) (v7 rfl (by walk_at "a"))|ktr_call (XE _ _ (f2 ak _ _)) (xi ?_ ?_)|ktr_call (XE _ _ (a9 _)) (zh ?_)|ktr_call (XE _ _ (eI _)) (yG ?_)|ktr_call (XE _ _ (f2 aI _ _)) (gv xP bQ ?_ ?_)|ktr_call (XE _ _ (f2 cI _ _)) (gv Br AX ?_ ?_)|ktr_call (XE _ _ (f2 fN _ _)) (gv Az Al ?_ ?_)|ktr_call (XE _ _ (f2 bc _ _)) (gv vo BQ ?_ ?_)|ktr_call (XE _ _ (f2 aE _ _)) (gv Av A2 ?_ ?_)|ktr_call (XE _ _ (f2 dG _ _)) (gv Ax BP ?_ ?_)|ktr_call (XE _ _ (f2 et _ _)) (dU (uQ hr.units) bQ ?_ ?_ (du _))|ktr_call (XE _ _ (f2 j0 _ _)) (dU (vd hr.units) bQ ?_ ?_ (du _))|ktr_call (XE _ _ (f2 eW _ _)) (dU (vK hr.units) bQ ?_ ?_ (du _))|ktr_call (XE _ _ (f2 ug _ _)) (dU lZ cj ?_ ?_ (du _))|ktr_call (XE _ _ (f2 xu _ _)) (dU zL cj ?_ ?_ (du _))|ktr_call (XE _ _ (f2 Bu _ _)) (dU Ad cj ?_ ?_ (du _))|ktr_call (XE _ _ (f2 xr _ _)) (dU (uI hr.units) bQ ?_ ?_ rfl)|ktr_call (XE _ _ (f2 dY _ _)) (dU (mx hr.units) bQ ?_ ?_ rfl)|ktr_call (XE _ _ (oY _)) (xx ?_)|ktr_call (XE _ _ (eN ug ug _ _ _)) (uk lZ cj lZ cj ?_ ?_ ?_)|ktr_call (XE _ _ (pA _)) (xL ?_)|ktr_call (XE _ _ (tN _)) (xZ ?_)|ktr_call (XE _ _ (iO _ _)) (yD ?_ ?_)|ktr_call (XE _ _ (qH _ _)) (B9 ?_ ?_)|ktr_call (XE _ _ (Ea _ _ _)) (Bt ?_ ?_ ?_)|ktr_call (XE _ _ (aT _ _ _)) (ub ?_ ?_ ?_)|ktr_call (XE _ _ (f1 (lG _ _) _)) (xm (by walk_at "a") ?_)|ktr_call (XE _ _ (f1 (dP _ _) _)) (yz (by walk_at "a") ?_)|ktr_call (XE _ _ (dZ _ _ _ _ _)) (xl rfl (by first|exact gq rfl|exact eL rfl) ?_ ?_)|ktr_call (XE _ _ (fR _ _)) (pO (by walk_at "a") (by first|exact kq|walk_at "a") hr ‹0› ?_)|ktr_call (XE _ _ (fNew _ _ _)) (yp (by walk_at "a") hr ‹0› rfl ?_)|ktr_call (XE _ _ (kz "int" _)) (j9 vi rfl (by walk_at "a") rfl (by walk_at "a") Kl ?_)|ktr_call (XE _ _ (kz "bool" _)) (j9 ur rfl (by walk_at "a") rfl (by walk_at "a") PyProof.Rows.boot_bool ?_)|ktr_call (XE _ _ (kz "str" _)) (j9 vw rfl (by walk_at "a") rfl (by walk_at "a") PyProof.Rows.boot_str ?_)|ktr_call (XE _ _ (kz "tuple" _)) (j9 qo rfl (by walk_at "a") rfl (by walk_at "a") Km ?_)|ktr_call (XE _ _ (f1 (dA _) _)) (wD (by walk_at "a") rfl (by walk_at "a") rfl ?_)|ktr_call (XE _ _ (f1 (dA _) _)) (tY (by walk_at "a") rfl (by walk_at "a") rfl (by walk_at "a") PyProof.Rows.Boot.«ValueError» ?_)|ktr_call (XE _ _ (f1 (rW _) _)) (vq (by walk_at "y") (by decide) rfl (by walk_at "a") ?_)|ktr_call (XE _ _ (fL cT _)) (jt uh rfl (by walk_at "a") PySem.boot_len ?_)|ktr_call (XE _ _ (fL bO _)) (gY oE rfl (by walk_at "a") Km ?_)|ktr_call (XE _ _ (fL iF _)) (gY pN rfl (by walk_at "a") Kk ?_)|ktr_call (XE _ _ (fL kt _)) (gY pP rfl (by walk_at "a") Kl ?_)|ktr_call (XE _ _ (fL ly _)) (jt (tT rfl) rfl (by walk_at "a") PyProof.Rows.boot_all ?_)|ktr_call (XE _ _ (fL sN _)) (jt (sJ rfl) rfl (by walk_at "a") PyProof.Rows.boot_any ?_)|ktr_call (XE _ _ (jy _ _)) (tD hr.units ?_ ?_)|ktr_call (XE _ _ (fV _ _)) (wF ?_ ?_)|ktr_call (XE _ _ (fA _ _ _ (aa _ _))) (wz (by walk_at "a") hr ‹0› ?_ ?_)|ktr_call (XE _ _ (fA _ _ _ ah)) (tu (by walk_at "a") hr ‹0› ?_))
local macro_rules|`(tactic|walk_at "d")=>`(tactic|((first|((with_reducible show mR _ _ _);walk_at "A")|((with_reducible show XS _ _ _);walk_at "B")|((with_reducible show XT _ _ _);walk_at "C")|((with_reducible show XW _ _ _);walk_at "D")|((with_reducible show XA _ _ _);first|ktr_call (XA _ _ (aa _ _)) (kx ?_ ?_)|ktr_call (XA _ _ ah) qT)|((with_reducible show XI _ _ _ _);walk_at "F")|((with_reducible show XG _ _ _);first|ktr_call (XG _ _ (gN _)) (w6 (by first|assumption|exact lP rfl) rfl (by first|exact Or.inl rfl|exact Or.inr rfl))|ktr_call (XG _ _ (gT _ _)) (zB rfl ?_))|((with_reducible show BZ _ _ _);first|ktr_call (BZ _ _ (kC (_ :: _))) (uw ?_ ?_)|ktr_call (BZ _ _ (kC [])) wY)|((with_reducible show XO _ _ _);first|ktr_call (XO _ _ aP) u5|ktr_call (XO _ _ (aV _)) (vW ?_))|((with_reducible show Dt _ _ _);first|ktr_call (Dt _ _ bw) v9|refine vI ?_)|((with_reducible show li _ _ _ _ _ _ _ _ _);first|refine ⟨fun _ _ _ _ _ _=>⟨?_, ?_, ?_⟩⟩)|((with_reducible show XN _ _ _);walk_at "L")|((with_reducible show XE _ _ _);walk_at "M"))<;>walk_at "d"))
local macro_rules|`(tactic|walk_at "y")=>`(tactic|first|exact vj.nil|(refine vj.cons (by walk_at "a") rfl (by decide) ?_;walk_at "y"))
local macro_rules | `(tactic| walk_at "a") => `(tactic| first | assumption | exact q.2 | (replace q := q.1; walk_at "a"))
local macro_rules | `(tactic| walk_at "b") => `(tactic| (intro us hl _ _ _ _ _ _; first | (obtain ⟨a, rfl⟩ := DA hl; rfl) | (obtain ⟨a, b, rfl⟩ := Bz hl; rfl) | (obtain ⟨a, b, c, rfl⟩ := C2 hl; rfl) | (obtain ⟨a, b, c, d, rfl⟩ := Dk hl; rfl) | (obtain ⟨a, b, c, d, e, rfl⟩ := C3 hl; rfl)))
local macro_rules | `(tactic| walk_at "m") => `(tactic| ((· walk_at "a"); (· walk_at "b"); (· exact ⟨rfl, rfl, rfl, by decide +kernel, rfl, by decide +kernel, by decide +kernel⟩); first | refine fun nd f => ⟨fun cdv A outer s H E hr hp => ?_⟩ | intro nd f A outer s H E hr hp))
local macro_rules | `(tactic| ktn_call $m $b:ident) => `(tactic| ((first | (apply DH $m; walk_at "m") | (apply GR $m; walk_at "m")); unfold $b; walk_at "d"))
local macro_rules | `(tactic| walk_at "t") => `(tactic| first | exact xQ | (refine xc (MethAt.mono (by walk_at "a") (by decide)) kq ?_; walk_at "t"))
section
variable{u:U}
noncomputable def Q0(u:U):Prop:=((((((((((((((((((((((((((((((((((FL u (Zs u ["isinstance","int","bool","str","len","tuple","all","zip","range","list","ValueError","any","enumerate"]) [("_law_fits",top 44),("_law_keeps",top 45),("_law_torn",top 51),("_law_class",top 46),("_law_due",top 50),("replaced",top 28),("in_key",top 27),("with_fields",top 29),("kinds_of",top 17),("least",top 18),("least_row",top 24),("kind_at",top 26),("named_elsewhere",top 30),("names_of",top 21),("place_of",top 22),("_law_refused",top 47),("_law_by",top 49),("_law_cell_at",top 38),("_law_draw",top 39),("_law_words",top 41),("_law_names",top 40),("_law_inner",top 42),("_law_kind",top 43),("_law_form",top 48)])/\∃t,u.mg "LEAST_BY"=some (.int 2 t))/\∃t,u.mg "MOST_BY"=some (.int 1000000000 t))/\∃t,u.mg "MOST_FIELDS"=some (.int 8 t))/\jb u.K "by" ["Part"])/\jb u.K "quotient" ["Part"])/\jb u.K "rest" ["Part"])/\jb u.K "name" ["Part"])/\mJ u.P u.w u.K u.mg u.base 1 "Part" ["self","name","by","quotient","rest"] ["name","by","quotient","rest"])/\kc u.P u.w u.K u.mg u.base 1 "Torn" ["self","view"] ["view"])/\tJ u.K "view" ["Torn"])/\ExcAt u.K u.mg "Twice")/\ExcAt u.K u.mg "NoField")/\ExcAt u.K u.mg "NoKind")/\ExcAt u.K u.mg "TooMany")/\oy u.K u.mg "GlassError" ["NoField","Twice","NoKind","TooMany","Torn"])/\bX u.K u.mg "Twice" [("NoField",false),("Twice",true),("NoKind",false),("TooMany",false),("Torn",false)])/\bX u.K u.mg "NoKind" [("NoField",false),("Twice",false),("NoKind",true),("TooMany",false),("Torn",false)])/\bX u.K u.mg "NoField" [("NoField",true),("Twice",false),("NoKind",false),("TooMany",false),("Torn",false)])/\bX u.K u.mg "Nothing" [("NoField",false),("Twice",false),("NoKind",false),("TooMany",false),("Torn",false)])/\bX u.K u.mg "NoKey" [("NoField",false),("Twice",false),("NoKind",false),("TooMany",false),("Torn",false)])/\bX u.K u.mg "TooMany" [("NoField",false),("Twice",false),("NoKind",false),("TooMany",true),("Torn",false)])/\bX u.K u.mg "Torn" [("NoField",false),("Twice",false),("NoKind",false),("TooMany",false),("Torn",true)])/\bX u.K u.mg "Blind" [("NoField",false),("Twice",false),("NoKind",false),("TooMany",false),("Torn",false)])/\bX u.K u.mg "NoForm" [("NoField",false),("Twice",false),("NoKind",false),("TooMany",false),("Torn",false)])/\bX u.K u.mg "NoTable" [("NoField",false),("Twice",false),("NoKind",false),("TooMany",false),("Torn",false)])/\bX u.K u.mg "Stale" [("NoField",false),("Twice",false),("NoKind",false),("TooMany",false),("Torn",false)])/\bX u.K u.mg "NoPane" [("NoField",false),("Twice",false),("NoKind",false),("TooMany",false),("Torn",false)])/\bX u.K u.mg "NoText" [("NoField",false),("Twice",false),("NoKind",false),("TooMany",false),("Torn",false)])/\oH u.K (.type "ValueError") [("NoField",true),("Twice",true),("NoKind",true),("TooMany",true),("Torn",true)])/\Dm u "Step" "view_form" "Step.view_form" (inClass (top 32) 1))/\Dm u "Part" "check_ends" "Part.check_ends" (inClass (top 36) 4))/\Dm u "Part" "check_names" "Part.check_names" (inClass (top 36) 3))/\Dm u "Part" "view_form" "Part.view_form" (inClass (top 36) 2))
theorem eh(q:Q0 u):∀n:Nat,Ca u (0+n) "_law_fits" ["_law_kind_here","_law_value"] (aH n)/\Ca u (0+n) "_law_keeps" ["_law_form_here","_law_table"] (aG n)
 |0=>by
  rw[aH];rw[aG];exact⟨EL (by walk_at "a") (by walk_at "b"),EL (by walk_at "a") (by walk_at "b")⟩
 |n+1=>by
  have ih:=eh q n;have c0:=ih.1;have a0:=fW n;have c1:=ih.2;have a1:=fE n;rw[cz];rw[cq];refine⟨?_,?_⟩
  ·apply DH (k:=0+n) [];walk_at "m";unfold dk;walk_at "d"
  ·apply DH (k:=0+n) ["_law_kinds","_law_many","_law_row"];walk_at "m";unfold cV;walk_at "d"
noncomputable def Q1(u:U):Prop:=(((Q0 u/\Ca u 12 "_law_fits" ["_law_kind_here","_law_value"] (aH 12))/\Ar 2 (aH 12))/\Ca u 12 "_law_keeps" ["_law_form_here","_law_table"] (aG 12))/\Ar 2 (aG 12)
theorem e1(q:Q0 u):Q1 u:=⟨⟨⟨⟨q,(eh q 12).1⟩,fW 12⟩,(eh q 12).2⟩,fE 12⟩
noncomputable def Q2(u:U):Prop:=Q1 u/\Ca u 13 "_law_torn" ["_law_form_here","_law_at","_law_by_here","_law_two","_law_view"] (aF cJ 5 10)
theorem e2(q:Q1 u):Q2 u:=⟨q,(by ktn_call ["_law_fields","_law_kind_here","_law_quotient","_law_many","_law_row"] cJ)⟩
noncomputable def Q3(u:U):Prop:=Q2 u/\Ca u 1 "_law_class" ["_law_error"] (aF bI 1 2)
theorem e3(q:Q2 u):Q3 u:=⟨q,(by ktn_call ["_law_some"] bI)⟩
noncomputable def Q4(u:U):Prop:=Q3 u/\Ca u 1 "_law_due" ["_law_form_here","_law_name","_law_by_here","_law_two"] (aF b9 4 9)
theorem e4(q:Q3 u):Q4 u:=⟨q,(by ktn_call ["_law_fields","_law_there","_law_at","_law_kind_here","_law_others"] b9)⟩
noncomputable def Q5(u:U):Prop:=Q4 u/\Ma u 1 "Step" "view_form" ["self","form"] (aF bK 2 2)
theorem e5(q:Q4 u):Q5 u:=⟨q,(by ktn_call [] bK)⟩
noncomputable def Q6(u:U):Prop:=Q5 u/\Ca u 1 "replaced" ["values","place","others"] (aF bW 3 3)
theorem e6(q:Q5 u):Q6 u:=⟨q,(by ktn_call [] bW)⟩
noncomputable def Q7(u:U):Prop:=Q6 u/\Ca u 1 "in_key" ["form","place"] (aF eF 2 2)
theorem e7(q:Q6 u):Q7 u:=⟨q,(by ktn_call [] eF)⟩
noncomputable def Q8(u:U):Prop:=Q7 u/\Ca u 2 "with_fields" ["form","place","fields"] (aF ck 3 3)
theorem e8(q:Q7 u):Q8 u:=⟨q,(by ktn_call [] ck)⟩
noncomputable def Q9(u:U):Prop:=Q8 u/\Ca u 1 "kinds_of" ["form"] (aF dL 1 1)
theorem e9(q:Q8 u):Q9 u:=⟨q,(by ktn_call [] dL)⟩
theorem lK(q:Q9 u):∀n:Nat,Ca u (1+n) "least" ["kind"] (bN n)
 |0=>by
  rw[bN];exact EL (by walk_at "a") (by walk_at "b")
 |n+1=>by
  have ih:=lK q n;have c0:=ih;have a0:=kd n;rw[dF];apply DH (k:=1+n) [];walk_at "m";unfold iN;walk_at "d"
noncomputable def Ft(u:U):Prop:=(Q9 u/\Ca u 13 "least" ["kind"] (bN 12))/\Ar 1 (bN 12)
theorem e10(q:Q9 u):Ft u:=⟨⟨q,(lK q 12)⟩,kd 12⟩
noncomputable def EJ(u:U):Prop:=Ft u/\Ca u 14 "least_row" ["form"] (aF dq 1 1)
theorem EV(q:Ft u):EJ u:=⟨q,(by ktn_call [] dq)⟩
noncomputable def Fx(u:U):Prop:=EJ u/\Ca u 1 "kind_at" ["form","place"] (aF dH 2 2)
theorem GD(q:EJ u):Fx u:=⟨q,(by ktn_call [] dH)⟩
noncomputable def Ek(u:U):Prop:=Fx u/\Ma u 15 "Part" "check_ends" ["self","form","place"] (aF bf 3 5)
theorem Gp(q:Fx u):Ek u:=⟨q,(by ktn_call ["kind","row"] bf)⟩
noncomputable def FU(u:U):Prop:=Ek u/\Ca u 1 "named_elsewhere" ["form","name","places"] (aF bD 3 4)
theorem Gm(q:Ek u):FU u:=⟨q,(by ktn_call ["fields"] bD)⟩
noncomputable def EY(u:U):Prop:=FU u/\Ma u 2 "Part" "check_names" ["self","form","place"] (aF a7 3 3)
theorem GU(q:FU u):EY u:=⟨q,(by ktn_call [] a7)⟩
noncomputable def Ei(u:U):Prop:=EY u/\Ca u 1 "names_of" ["form"] (aF dN 1 1)
theorem Gs(q:EY u):Ei u:=⟨q,(by ktn_call [] dN)⟩
noncomputable def FK(u:U):Prop:=Ei u/\Ca u 2 "place_of" ["form","name"] (aF cG 2 4)
theorem G1(q:Ei u):FK u:=⟨q,(by ktn_call ["place","other"] cG)⟩
noncomputable def FY(u:U):Prop:=FK u/\Ta u 2 "check_names" ["self","form","place"] [("Part",(aF a7 3 3))]
theorem GZ(q:FK u):FY u:=⟨q,(by walk_at "t")⟩
noncomputable def FD(u:U):Prop:=FY u/\Ta u 15 "check_ends" ["self","form","place"] [("Part",(aF bf 3 5))]
theorem Gv(q:FY u):FD u:=⟨q,(by walk_at "t")⟩
noncomputable def FP(u:U):Prop:=FD u/\Ma u 16 "Part" "view_form" ["self","form"] (aF ao 2 6)
theorem e20(q:FD u):FP u:=⟨q,(by ktn_call ["place","kind","quotients","rests"] ao)⟩
noncomputable def Eo(u:U):Prop:=FP u/\Ta u 16 "view_form" ["self","form"] [("Step",(aF bK 2 2)),("Part",(aF ao 2 6))]
theorem DF(q:FP u):Eo u:=⟨q,(by walk_at "t")⟩
noncomputable def FH(u:U):Prop:=Eo u/\Ca u 17 "_law_refused" ["_law_step","_law_form_here"] (aF bA 2 4)
theorem GL(q:Eo u):FH u:=⟨q,(by ktn_call ["_law_caught","e"] bA)⟩
noncomputable def Fa(u:U):Prop:=FH u/\Ca u 1 "_law_by" ["_law_cell"] (aF dI 1 1)
theorem Gk(q:FH u):Fa u:=⟨q,(by ktn_call [] dI)⟩
noncomputable def Fg(u:U):Prop:=Fa u/\Ca u 1 "_law_cell_at" ["_law_script","_law_k"] (aF aj 2 2)
theorem Gr(q:Fa u):Fg u:=⟨q,(by ktn_call [] aj)⟩
noncomputable def E5(u:U):Prop:=Fg u/\Ca u 1 "_law_draw" ["_law_cell","_law_j"] (aF aO 2 3)
theorem Gj(q:Fg u):E5 u:=⟨q,(by ktn_call ["_law_number"] aO)⟩
noncomputable def EX(u:U):Prop:=E5 u/\Ca u 2 "_law_words" ["_law_cell"] (aF bT 1 7)
theorem G0(q:E5 u):EX u:=⟨q,(by ktn_call ["_law_letters","_law_many","_law_full","_law_at","_law_first","_law_end"] bT)⟩
noncomputable def Fd(u:U):Prop:=EX u/\Ca u 2 "_law_names" ["_law_cell","_law_many"] (aF bH 2 10)
theorem GB(q:EX u):Fd u:=⟨q,(by ktn_call ["_law_letters","_law_base","_law_long","_law_at","_law_step","_law_names_here","_law_k","_law_sign"] bH)⟩
noncomputable def EG(u:U):Prop:=Fd u/\Ca u 3 "_law_inner" ["_law_cell"] (aF cS 1 4)
theorem GJ(q:Fd u):EG u:=⟨q,(by ktn_call ["_law_names_here","_law_low","_law_key"] cS)⟩
noncomputable def Fy(u:U):Prop:=EG u/\Ca u 4 "_law_kind" ["_law_cell","_law_deep"] (aF bi 2 4)
theorem GK(q:EG u):Fy u:=⟨q,(by ktn_call ["_law_some","_law_low"] bi)⟩
noncomputable def Gc(u:U):Prop:=Fy u/\Ca u 5 "_law_form" ["_law_script","_law_names_here"] (aF cO 2 10)
theorem Gw(q:Fy u):Gc u:=⟨q,(by ktn_call ["_law_cell","_law_many","_law_rest","_law_at","_law_fields","_law_k","_law_low","_law_high"] cO)⟩
theorem CT{f:Kv}{fd:Ln}(F:pq u.K "law" "law" (top 52) f fd)(q:Gc u):dJ u.P u.w u.K u.mg u.base (iD u.P u.w) 18 f fd ["_law_script"] (uH u.K 1 (aF jA 1 11)):=by
 refine Gn ["_law_names_here","_law_form_here","_law_at","_law_cell","_law_there","_law_two","_law_name","_law_by_here","_law_caught","_law_due_here"] F ?_ ?_
 ·exact⟨rfl,rfl,rfl,by decide +kernel,rfl,by decide +kernel,by decide +kernel⟩
 refine λnd=>⟨λcdv A outer s H E hr hp=>?_⟩
 unfold jA;walk_at "d"
set_option hygiene true
variable{P:KA}{w:Kz}{K:Jv}{mg:bC}{base:KC}
theorem tM{C f:Kv}{fd:Ln}(h1:clsAt K "Part" C)(hM:Mk K C f)(cl:pF K C)(na:∀g∈(["name","by","quotient","rest"]:ap),cp K C g)(F:pq K "__init__" "Part.__init__" fz f fd)(b:Binds K fd ["self","name","by","quotient","rest"] [])(hmg:mg "Part"=some (.ref C)):mJ P w K mg base 1 "Part" ["self","name","by","quotient","rest"] ["name","by","quotient","rest"]:=
 uq (k:=0) h1 hM cl na F b hmg jj rfl (by decide +kernel) (by decide) λcdv A outer s H E=>(gZ rfl (pv 0) (pv 1) rfl (gZ rfl (pv 0) (pv 2) rfl (gZ rfl (pv 0) (pv 3) rfl (tZ rfl (pv 0) (pv 4) rfl))))
theorem pR{C f:Kv}{fd:Ln}(h1:clsAt K "Torn" C)(hM:DG K C f)(na:∀g∈(["view"]:ap),cp K C g)(F:pq K "__init__" "Torn.__init__" fD f fd)(b:Binds K fd ["self","view"] [])(hmg:mg "Torn"=some (.ref C)):kc P w K mg base 1 "Torn" ["self","view"] ["view"]:=
 pL (k:=0) h1 hM na F b hmg jo rfl (by decide +kernel) (by decide) λcdv A outer s H E=>(tU rfl (pv 0) (pv 1) rfl)
end
theorem all_mk{l:JP}{w:Kz}{K:Jv}{h:KC}{mg:bC}{fa:Kv}(X:K.In h)(G:h.Ns KH mg)(hfa:mg "law"=some (.ref fa)){f1 f2:Kv}
  (ac0:JQ K KH "Part"=some (some (.ref Cl0)))
  (ac1:JQ K KH "Step"=some (some (.ref Cl1)))
  (a0:Jz K (.ref Cl1) "view_form"=some (some (.ref f0)))
  (i0:JD K (.ref f0)=true)
  (l0:Lk K f0 "view_form" "Step.view_form" (inClass (top 32) 1) oc0 od0 kV0 dc0 pm0 an0 cd0 ct0 sl0)
  (c0:JO K cd0 "Step.view_form"=true)
  (k0:JK K (.ref f0)=true)
  (a1:Jz K (.ref Cl0) "check_ends"=some (some (.ref f1)))
  (i1:JD K (.ref f1)=true)
  (l1:Lk K f1 "check_ends" "Part.check_ends" (inClass (top 36) 4) oc1 od1 kV1 dc1 pm1 an1 cd1 ct1 sl1)
  (c1:JO K cd1 "Part.check_ends"=true)
  (k1:JK K (.ref f1)=true)
  (a2:Jz K (.ref Cl0) "check_names"=some (some (.ref f2)))
  (i2:JD K (.ref f2)=true)
  (l2:Lk K f2 "check_names" "Part.check_names" (inClass (top 36) 3) oc2 od2 kV2 dc2 pm2 an2 cd2 ct2 sl2)
  (c2:JO K cd2 "Part.check_names"=true)
  (k2:JK K (.ref f2)=true)
  (a3:Jz K (.ref Cl0) "view_form"=some (some (.ref f3)))
  (i3:JD K (.ref f3)=true)
  (l3:Lk K f3 "view_form" "Part.view_form" (inClass (top 36) 2) oc3 od3 kV3 dc3 pm3 an3 cd3 ct3 sl3)
  (c3:JO K cd3 "Part.view_form"=true)
  (k3:JK K (.ref f3)=true)
  (a4:JQ K KH "law"=some (some (.ref f4)))
  (l4:Lk K f4 "law" "law" (top 52) oc4 od4 kV4 dc4 pm4 an4 cd4 ct4 sl4)
  (c4:JO K cd4 "law"=true)
  (k4:JK K (.ref f4)=true)
  (a5:Jz K (.ref Cl0) "__init__"=some (some (.ref f5)))
  (i5:JD K (.ref f5)=true)
  (l5:Lk K f5 "__init__" "Part.__init__" (inClass (top 36) 0) oc5 od5 kV5 dc5 pm5 an5 cd5 ct5 sl5)
  (c5:JO K cd5 "Part.__init__"=true)
  (k5:JK K (.ref f5)=true)
  (p0:Jx K Cl0 Str.empty=true)
  (q0:Jy K Cl0=true)
  (r0:JE K Cl0=true)
  (s0:Jz K (.ref Cl0) "__setattr__"=some (some (.builtin "object.__setattr__")))
  (n0_0:Jz K (.ref Cl0) "name"=some none)
  (n0_1:Jz K (.ref Cl0) "by"=some none)
  (n0_2:Jz K (.ref Cl0) "quotient"=some none)
  (n0_3:Jz K (.ref Cl0) "rest"=some none)
  (m0:JG K Cl0=true)
  (kp0:JK K (.ref Cl0)=true)
  (p1:Jx K Cl1 Str.empty=true)
  (q1:Jy K Cl1=true)
  (r1:JE K Cl1=true)
  (s1:Jz K (.ref Cl1) "__setattr__"=some (some (.builtin "object.__setattr__")))
  (xa0:JQ K KH "Twice"=some (some (.ref Xl0)))
  (xa1:JQ K KH "NoKind"=some (some (.ref Xl1)))
  (xa2:JQ K KH "NoField"=some (some (.ref Xl2)))
  (xa3:JQ K KH "Nothing"=some (some (.ref Xl3)))
  (xa4:JQ K KH "NoKey"=some (some (.ref Xl4)))
  (xa5:JQ K KH "TooMany"=some (some (.ref Xl5)))
  (xa6:JQ K KH "Torn"=some (some (.ref Xl6)))
  (xa7:JQ K KH "Blind"=some (some (.ref Xl7)))
  (xa8:JQ K KH "NoForm"=some (some (.ref Xl8)))
  (xa9:JQ K KH "NoTable"=some (some (.ref Xl9)))
  (xa10:JQ K KH "Stale"=some (some (.ref Xl10)))
  (xa11:JQ K KH "NoPane"=some (some (.ref Xl11)))
  (xa12:JQ K KH "NoText"=some (some (.ref Xl12)))
  (xa13:JQ K KH "GlassError"=some (some (.ref Xl13)))
  (a6:Jz K (.ref Xl6) "__init__"=some (some (.ref f6)))
  (i6:JD K (.ref f6)=true)
  (l6:Lk K f6 "__init__" "Torn.__init__" (inClass (top 12) 0) oc6 od6 kV6 dc6 pm6 an6 cd6 ct6 sl6)
  (c6:JO K cd6 "Torn.__init__"=true)
  (k6:JK K (.ref f6)=true)
  (xs6:Jz K (.ref Xl6) "__setattr__"=some (some (.builtin "object.__setattr__")))
  (xp6:JK K (.ref Xl6)=true)
  (xi6:qy K Xl6 f6=true)
  (xy6:pT K Xl6=true)
  (xd6:Jy K Xl6=true)
  (xna6_0:Jz K (.ref Xl6) "view"=some none)
  (xe0:JU K Xl0 BL "ValueError.__new__"=true)
  (xe2:JU K Xl2 BL "ValueError.__new__"=true)
  (xe1:JU K Xl1 BL "ValueError.__new__"=true)
  (xe5:JU K Xl5 BL "ValueError.__new__"=true)
  (xsg:PySem.W.specialIn K (.builtin "object.__class__") "__get__"=some (some (.builtin "getset_descriptor.__get__")))
  (xtk:PySem.W.takesIn K (.builtin "object.__class__")=some true)
  (xg2:Jz K (.ref Xl2) "__getattribute__"=some (some (.builtin "BaseException.__getattribute__")))
  (xn2:Jz K (.ref Xl2) "__getattr__"=some none)
  (xf2:Jz K (.ref Xl2) "__class__"=some (some (.builtin "object.__class__")))
  (xb2:JY K Xl2 (.type "BaseException")=some true)
  (xg0:Jz K (.ref Xl0) "__getattribute__"=some (some (.builtin "BaseException.__getattribute__")))
  (xn0:Jz K (.ref Xl0) "__getattr__"=some none)
  (xf0:Jz K (.ref Xl0) "__class__"=some (some (.builtin "object.__class__")))
  (xb0:JY K Xl0 (.type "BaseException")=some true)
  (xg1:Jz K (.ref Xl1) "__getattribute__"=some (some (.builtin "BaseException.__getattribute__")))
  (xn1:Jz K (.ref Xl1) "__getattr__"=some none)
  (xf1:Jz K (.ref Xl1) "__class__"=some (some (.builtin "object.__class__")))
  (xb1:JY K Xl1 (.type "BaseException")=some true)
  (xg5:Jz K (.ref Xl5) "__getattribute__"=some (some (.builtin "BaseException.__getattribute__")))
  (xn5:Jz K (.ref Xl5) "__getattr__"=some none)
  (xf5:Jz K (.ref Xl5) "__class__"=some (some (.builtin "object.__class__")))
  (xb5:JY K Xl5 (.type "BaseException")=some true)
  (xg6:Jz K (.ref Xl6) "__getattribute__"=some (some (.builtin "BaseException.__getattribute__")))
  (xn6:Jz K (.ref Xl6) "__getattr__"=some none)
  (xf6:Jz K (.ref Xl6) "__class__"=some (some (.builtin "object.__class__")))
  (xb6:JY K Xl6 (.type "BaseException")=some true)
  (xo0:JY K Xl0 (.type "object")=some true)
  (xt0:JH K (.ref Xl0)=some (.type "type"))
  (xo1:JY K Xl1 (.type "object")=some true)
  (xt1:JH K (.ref Xl1)=some (.type "type"))
  (xo2:JY K Xl2 (.type "object")=some true)
  (xt2:JH K (.ref Xl2)=some (.type "type"))
  (xo3:JY K Xl3 (.type "object")=some true)
  (xt3:JH K (.ref Xl3)=some (.type "type"))
  (xo4:JY K Xl4 (.type "object")=some true)
  (xt4:JH K (.ref Xl4)=some (.type "type"))
  (xo5:JY K Xl5 (.type "object")=some true)
  (xt5:JH K (.ref Xl5)=some (.type "type"))
  (xo6:JY K Xl6 (.type "object")=some true)
  (xt6:JH K (.ref Xl6)=some (.type "type"))
  (xo7:JY K Xl7 (.type "object")=some true)
  (xt7:JH K (.ref Xl7)=some (.type "type"))
  (xo8:JY K Xl8 (.type "object")=some true)
  (xt8:JH K (.ref Xl8)=some (.type "type"))
  (xo9:JY K Xl9 (.type "object")=some true)
  (xt9:JH K (.ref Xl9)=some (.type "type"))
  (xo10:JY K Xl10 (.type "object")=some true)
  (xt10:JH K (.ref Xl10)=some (.type "type"))
  (xo11:JY K Xl11 (.type "object")=some true)
  (xt11:JH K (.ref Xl11)=some (.type "type"))
  (xo12:JY K Xl12 (.type "object")=some true)
  (xt12:JH K (.ref Xl12)=some (.type "type"))
  (xo13:JY K Xl13 (.type "object")=some true)
  (xt13:JH K (.ref Xl13)=some (.type "type"))
  (xw13:JZ K (.ref Xl13) (.type "BaseException")=some true)
  (xm13_2:JZ K (.ref Xl2) (.ref Xl13)=some true)
  (xm13_0:JZ K (.ref Xl0) (.ref Xl13)=some true)
  (xm13_1:JZ K (.ref Xl1) (.ref Xl13)=some true)
  (xm13_5:JZ K (.ref Xl5) (.ref Xl13)=some true)
  (xm13_6:JZ K (.ref Xl6) (.ref Xl13)=some true)
  (xk0_2:JZ K (.ref Xl2) (.ref Xl0)=some false)
  (vnx0_2:Xl2≠Xl0)
  (xk0_0:JZ K (.ref Xl0) (.ref Xl0)=some true)
  (xk0_1:JZ K (.ref Xl1) (.ref Xl0)=some false)
  (vnx0_1:Xl1≠Xl0)
  (xk0_5:JZ K (.ref Xl5) (.ref Xl0)=some false)
  (vnx0_5:Xl5≠Xl0)
  (xk0_6:JZ K (.ref Xl6) (.ref Xl0)=some false)
  (vnx0_6:Xl6≠Xl0)
  (xk1_2:JZ K (.ref Xl2) (.ref Xl1)=some false)
  (vnx1_2:Xl2≠Xl1)
  (xk1_0:JZ K (.ref Xl0) (.ref Xl1)=some false)
  (vnx1_0:Xl0≠Xl1)
  (xk1_1:JZ K (.ref Xl1) (.ref Xl1)=some true)
  (xk1_5:JZ K (.ref Xl5) (.ref Xl1)=some false)
  (vnx1_5:Xl5≠Xl1)
  (xk1_6:JZ K (.ref Xl6) (.ref Xl1)=some false)
  (vnx1_6:Xl6≠Xl1)
  (xk2_2:JZ K (.ref Xl2) (.ref Xl2)=some true)
  (xk2_0:JZ K (.ref Xl0) (.ref Xl2)=some false)
  (vnx2_0:Xl0≠Xl2)
  (xk2_1:JZ K (.ref Xl1) (.ref Xl2)=some false)
  (vnx2_1:Xl1≠Xl2)
  (xk2_5:JZ K (.ref Xl5) (.ref Xl2)=some false)
  (vnx2_5:Xl5≠Xl2)
  (xk2_6:JZ K (.ref Xl6) (.ref Xl2)=some false)
  (vnx2_6:Xl6≠Xl2)
  (xk3_2:JZ K (.ref Xl2) (.ref Xl3)=some false)
  (vnx3_2:Xl2≠Xl3)
  (xk3_0:JZ K (.ref Xl0) (.ref Xl3)=some false)
  (vnx3_0:Xl0≠Xl3)
  (xk3_1:JZ K (.ref Xl1) (.ref Xl3)=some false)
  (vnx3_1:Xl1≠Xl3)
  (xk3_5:JZ K (.ref Xl5) (.ref Xl3)=some false)
  (vnx3_5:Xl5≠Xl3)
  (xk3_6:JZ K (.ref Xl6) (.ref Xl3)=some false)
  (vnx3_6:Xl6≠Xl3)
  (xk4_2:JZ K (.ref Xl2) (.ref Xl4)=some false)
  (vnx4_2:Xl2≠Xl4)
  (xk4_0:JZ K (.ref Xl0) (.ref Xl4)=some false)
  (vnx4_0:Xl0≠Xl4)
  (xk4_1:JZ K (.ref Xl1) (.ref Xl4)=some false)
  (vnx4_1:Xl1≠Xl4)
  (xk4_5:JZ K (.ref Xl5) (.ref Xl4)=some false)
  (vnx4_5:Xl5≠Xl4)
  (xk4_6:JZ K (.ref Xl6) (.ref Xl4)=some false)
  (vnx4_6:Xl6≠Xl4)
  (xk5_2:JZ K (.ref Xl2) (.ref Xl5)=some false)
  (vnx5_2:Xl2≠Xl5)
  (xk5_0:JZ K (.ref Xl0) (.ref Xl5)=some false)
  (vnx5_0:Xl0≠Xl5)
  (xk5_1:JZ K (.ref Xl1) (.ref Xl5)=some false)
  (vnx5_1:Xl1≠Xl5)
  (xk5_5:JZ K (.ref Xl5) (.ref Xl5)=some true)
  (xk5_6:JZ K (.ref Xl6) (.ref Xl5)=some false)
  (vnx5_6:Xl6≠Xl5)
  (xk6_2:JZ K (.ref Xl2) (.ref Xl6)=some false)
  (vnx6_2:Xl2≠Xl6)
  (xk6_0:JZ K (.ref Xl0) (.ref Xl6)=some false)
  (vnx6_0:Xl0≠Xl6)
  (xk6_1:JZ K (.ref Xl1) (.ref Xl6)=some false)
  (vnx6_1:Xl1≠Xl6)
  (xk6_5:JZ K (.ref Xl5) (.ref Xl6)=some false)
  (vnx6_5:Xl5≠Xl6)
  (xk6_6:JZ K (.ref Xl6) (.ref Xl6)=some true)
  (xk7_2:JZ K (.ref Xl2) (.ref Xl7)=some false)
  (vnx7_2:Xl2≠Xl7)
  (xk7_0:JZ K (.ref Xl0) (.ref Xl7)=some false)
  (vnx7_0:Xl0≠Xl7)
  (xk7_1:JZ K (.ref Xl1) (.ref Xl7)=some false)
  (vnx7_1:Xl1≠Xl7)
  (xk7_5:JZ K (.ref Xl5) (.ref Xl7)=some false)
  (vnx7_5:Xl5≠Xl7)
  (xk7_6:JZ K (.ref Xl6) (.ref Xl7)=some false)
  (vnx7_6:Xl6≠Xl7)
  (xk8_2:JZ K (.ref Xl2) (.ref Xl8)=some false)
  (vnx8_2:Xl2≠Xl8)
  (xk8_0:JZ K (.ref Xl0) (.ref Xl8)=some false)
  (vnx8_0:Xl0≠Xl8)
  (xk8_1:JZ K (.ref Xl1) (.ref Xl8)=some false)
  (vnx8_1:Xl1≠Xl8)
  (xk8_5:JZ K (.ref Xl5) (.ref Xl8)=some false)
  (vnx8_5:Xl5≠Xl8)
  (xk8_6:JZ K (.ref Xl6) (.ref Xl8)=some false)
  (vnx8_6:Xl6≠Xl8)
  (xk9_2:JZ K (.ref Xl2) (.ref Xl9)=some false)
  (vnx9_2:Xl2≠Xl9)
  (xk9_0:JZ K (.ref Xl0) (.ref Xl9)=some false)
  (vnx9_0:Xl0≠Xl9)
  (xk9_1:JZ K (.ref Xl1) (.ref Xl9)=some false)
  (vnx9_1:Xl1≠Xl9)
  (xk9_5:JZ K (.ref Xl5) (.ref Xl9)=some false)
  (vnx9_5:Xl5≠Xl9)
  (xk9_6:JZ K (.ref Xl6) (.ref Xl9)=some false)
  (vnx9_6:Xl6≠Xl9)
  (xk10_2:JZ K (.ref Xl2) (.ref Xl10)=some false)
  (vnx10_2:Xl2≠Xl10)
  (xk10_0:JZ K (.ref Xl0) (.ref Xl10)=some false)
  (vnx10_0:Xl0≠Xl10)
  (xk10_1:JZ K (.ref Xl1) (.ref Xl10)=some false)
  (vnx10_1:Xl1≠Xl10)
  (xk10_5:JZ K (.ref Xl5) (.ref Xl10)=some false)
  (vnx10_5:Xl5≠Xl10)
  (xk10_6:JZ K (.ref Xl6) (.ref Xl10)=some false)
  (vnx10_6:Xl6≠Xl10)
  (xk11_2:JZ K (.ref Xl2) (.ref Xl11)=some false)
  (vnx11_2:Xl2≠Xl11)
  (xk11_0:JZ K (.ref Xl0) (.ref Xl11)=some false)
  (vnx11_0:Xl0≠Xl11)
  (xk11_1:JZ K (.ref Xl1) (.ref Xl11)=some false)
  (vnx11_1:Xl1≠Xl11)
  (xk11_5:JZ K (.ref Xl5) (.ref Xl11)=some false)
  (vnx11_5:Xl5≠Xl11)
  (xk11_6:JZ K (.ref Xl6) (.ref Xl11)=some false)
  (vnx11_6:Xl6≠Xl11)
  (xk12_2:JZ K (.ref Xl2) (.ref Xl12)=some false)
  (vnx12_2:Xl2≠Xl12)
  (xk12_0:JZ K (.ref Xl0) (.ref Xl12)=some false)
  (vnx12_0:Xl0≠Xl12)
  (xk12_1:JZ K (.ref Xl1) (.ref Xl12)=some false)
  (vnx12_1:Xl1≠Xl12)
  (xk12_5:JZ K (.ref Xl5) (.ref Xl12)=some false)
  (vnx12_5:Xl5≠Xl12)
  (xk12_6:JZ K (.ref Xl6) (.ref Xl12)=some false)
  (vnx12_6:Xl6≠Xl12)
  (xv_ValueError_2:JZ K (.ref Xl2) (.type "ValueError")=some true)
  (xv_ValueError_0:JZ K (.ref Xl0) (.type "ValueError")=some true)
  (xv_ValueError_1:JZ K (.ref Xl1) (.type "ValueError")=some true)
  (xv_ValueError_5:JZ K (.ref Xl5) (.type "ValueError")=some true)
  (xv_ValueError_6:JZ K (.ref Xl6) (.type "ValueError")=some true)
  (dd0:KDs K [("_law_fits",top 44),("_law_keeps",top 45),("_law_torn",top 51),("_law_class",top 46),("_law_due",top 50),("replaced",top 28),("in_key",top 27),("with_fields",top 29),("kinds_of",top 17),("least",top 18),("least_row",top 24),("kind_at",top 26),("named_elsewhere",top 30),("names_of",top 21),("place_of",top 22),("_law_refused",top 47),("_law_by",top 49),("_law_cell_at",top 38),("_law_draw",top 39),("_law_words",top 41),("_law_names",top 40),("_law_inner",top 42),("_law_kind",top 43),("_law_form",top 48)])
  (zz:KZs K ["isinstance","int","bool","str","len","tuple","all","zip","range","list","ValueError","any","enumerate"])
  (ke0:JQ K KH "LEAST_BY"=some (some (.int 2 tk0)))
  (ke1:JQ K KH "MOST_BY"=some (some (.int 1000000000 tk1)))
  (ke2:JQ K KH "MOST_FIELDS"=some (some (.int 8 tk2))):
  ∃fd:Ln,(∀(s:Ky)(v:Kt),Lp s fd ⟨[v],[]⟩ [("_law_script",v)])/\∀base:KC,K.In base->base.Ns KH mg->dJ l.prog w K mg base (iD l.prog w) 18 fa fd ["_law_script"] (uH K 1 (aF jA 1 11)):=by
 have e:=hfa.symm.trans (J2 X G a4);cases e;have c_LEAST_BY:∃t,mg "LEAST_BY"=some (.int 2 t):=⟨_,J2 X G ke0⟩
 have c_MOST_BY:∃t,mg "MOST_BY"=some (.int 1000000000 t):=⟨_,J2 X G ke1⟩
 have c_MOST_FIELDS:∃t,mg "MOST_FIELDS"=some (.int 8 t):=⟨_,J2 X G ke2⟩
 have F0:=fT (st:=(inClass (top 32) 1)) l0 c0 k0;have F1:=fT (st:=(inClass (top 36) 4)) l1 c1 k1;have F2:=fT (st:=(inClass (top 36) 3)) l2 c2 k2;have F3:=fT (st:=(inClass (top 36) 2)) l3 c3 k3;have F4:=fT (st:=(top 52)) l4 c4 k4;have F5:=fT (st:=(inClass (top 36) 0)) l5 c5 k5;have b5:=F5.binds (ps:=["self","name","by","quotient","rest"]) λ_ _ _ _ _ _ us hl=>by obtain⟨u0,u1,u2,u3,u4,rfl⟩:=C3 hl;rfl
 have F6:=fT (st:=(inClass (top 12) 0)) l6 c6 k6;have b6:=F6.binds (ps:=["self","view"]) λ_ _ _ _ _ _ us hl=>by obtain⟨u0,u1,rfl⟩:=Bz hl;rfl
 have cl0:pF K Cl0:=⟨p0,q0,r0,s0⟩
 have cl1:pF K Cl1:=⟨p1,q1,r1,s1⟩
 have p6:jb K "by" ["Part"]:=by
  intro c hc C hC;simp only[Iu,Jl,or_false]at hc;rcases hc with rfl
  ·cases cM hC ac0;exact⟨cl0,n0_1⟩
 have jv:jb K "quotient" ["Part"]:=by
  intro c hc C hC;simp only[Iu,Jl,or_false]at hc;rcases hc with rfl
  ·cases cM hC ac0;exact⟨cl0,n0_2⟩
 have mY:jb K "rest" ["Part"]:=by
  intro c hc C hC;simp only[Iu,Jl,or_false]at hc;rcases hc with rfl
  ·cases cM hC ac0;exact⟨cl0,n0_3⟩
 have nQ:jb K "name" ["Part"]:=by
  intro c hc C hC;simp only[Iu,Jl,or_false]at hc;rcases hc with rfl
  ·cases cM hC ac0;exact⟨cl0,n0_0⟩
 refine⟨JN "law" "law" (eX (top 52)) (cA (top 52)) (aD (top 52)) .none kV4 dc4 pm4 an4 cd4 ct4,λs v=>.of_eq rfl,λbase _ _=>?_⟩;have E_Twice:ExcAt K mg "Twice":=⟨_,xa0,J2 X G xa0,xe0⟩
 have E_NoField:ExcAt K mg "NoField":=⟨_,xa2,J2 X G xa2,xe2⟩
 have E_NoKind:ExcAt K mg "NoKind":=⟨_,xa1,J2 X G xa1,xe1⟩
 have E_TooMany:ExcAt K mg "TooMany":=⟨_,xa5,J2 X G xa5,xe5⟩
 have xK2:gM K Xl2:=⟨xg2,xn2,xf2,xsg,xtk,xo2,xb2⟩
 have xK0:gM K Xl0:=⟨xg0,xn0,xf0,xsg,xtk,xo0,xb0⟩
 have xK1:gM K Xl1:=⟨xg1,xn1,xf1,xsg,xtk,xo1,xb1⟩
 have xK5:gM K Xl5:=⟨xg5,xn5,xf5,xsg,xtk,xo5,xb5⟩
 have xK6:gM K Xl6:=⟨xg6,xn6,xf6,xsg,xtk,xo6,xb6⟩
 have RI_Torn:=pR (P:=l.prog) (w:=w) (base:=base) xa6 (AA xi6 (beq_iff_eq.mp i6) ⟨xs6,xy6,xd6⟩ xp6) (by intro g hg;simp only[Iu,Jl,or_false]at hg;rcases hg with rfl<;>first|exact xna6_0) F6 b6 (J2 X G xa6);have fx_view_Torn:tJ K "view" ["Torn"]:=sP xa6 xK6 xna6_0 xd6 (vP);have T_GlassError:oy K mg "GlassError" ["NoField","Twice","NoKind","TooMany","Torn"]:=uM (J2 X G xa13) (by
  intro c hc;simp only[Iu,Jl,or_false]at hc;rcases hc with rfl|rfl|rfl|rfl|rfl
  ·exact⟨_,xa2,iq xw13 xm13_2 xo13 xt13⟩
  ·exact⟨_,xa0,iq xw13 xm13_0 xo13 xt13⟩
  ·exact⟨_,xa1,iq xw13 xm13_1 xo13 xt13⟩
  ·exact⟨_,xa5,iq xw13 xm13_5 xo13 xt13⟩
  ·exact⟨_,xa6,iq xw13 xm13_6 xo13 xt13⟩)
 have zb:bX K mg "Twice" [("NoField",false),("Twice",true),("NoKind",false),("TooMany",false),("Torn",false)]:=⟨_,J2 X G xa0,ai xa2 xK2 (aq xk0_2 xo0 xt0 (.inr vnx0_2)) (ai xa0 xK0 (aq xk0_0 xo0 xt0 (.inl rfl)) (ai xa1 xK1 (aq xk0_1 xo0 xt0 (.inr vnx0_1)) (ai xa5 xK5 (aq xk0_5 xo0 xt0 (.inr vnx0_5)) (ai xa6 xK6 (aq xk0_6 xo0 xt0 (.inr vnx0_6)) bS))))⟩
 have uS:bX K mg "NoKind" [("NoField",false),("Twice",false),("NoKind",true),("TooMany",false),("Torn",false)]:=⟨_,J2 X G xa1,ai xa2 xK2 (aq xk1_2 xo1 xt1 (.inr vnx1_2)) (ai xa0 xK0 (aq xk1_0 xo1 xt1 (.inr vnx1_0)) (ai xa1 xK1 (aq xk1_1 xo1 xt1 (.inl rfl)) (ai xa5 xK5 (aq xk1_5 xo1 xt1 (.inr vnx1_5)) (ai xa6 xK6 (aq xk1_6 xo1 xt1 (.inr vnx1_6)) bS))))⟩
 have tR:bX K mg "NoField" [("NoField",true),("Twice",false),("NoKind",false),("TooMany",false),("Torn",false)]:=⟨_,J2 X G xa2,ai xa2 xK2 (aq xk2_2 xo2 xt2 (.inl rfl)) (ai xa0 xK0 (aq xk2_0 xo2 xt2 (.inr vnx2_0)) (ai xa1 xK1 (aq xk2_1 xo2 xt2 (.inr vnx2_1)) (ai xa5 xK5 (aq xk2_5 xo2 xt2 (.inr vnx2_5)) (ai xa6 xK6 (aq xk2_6 xo2 xt2 (.inr vnx2_6)) bS))))⟩
 have tX:bX K mg "Nothing" [("NoField",false),("Twice",false),("NoKind",false),("TooMany",false),("Torn",false)]:=⟨_,J2 X G xa3,ai xa2 xK2 (aq xk3_2 xo3 xt3 (.inr vnx3_2)) (ai xa0 xK0 (aq xk3_0 xo3 xt3 (.inr vnx3_0)) (ai xa1 xK1 (aq xk3_1 xo3 xt3 (.inr vnx3_1)) (ai xa5 xK5 (aq xk3_5 xo3 xt3 (.inr vnx3_5)) (ai xa6 xK6 (aq xk3_6 xo3 xt3 (.inr vnx3_6)) bS))))⟩
 have xH:bX K mg "NoKey" [("NoField",false),("Twice",false),("NoKind",false),("TooMany",false),("Torn",false)]:=⟨_,J2 X G xa4,ai xa2 xK2 (aq xk4_2 xo4 xt4 (.inr vnx4_2)) (ai xa0 xK0 (aq xk4_0 xo4 xt4 (.inr vnx4_0)) (ai xa1 xK1 (aq xk4_1 xo4 xt4 (.inr vnx4_1)) (ai xa5 xK5 (aq xk4_5 xo4 xt4 (.inr vnx4_5)) (ai xa6 xK6 (aq xk4_6 xo4 xt4 (.inr vnx4_6)) bS))))⟩
 have t6:bX K mg "TooMany" [("NoField",false),("Twice",false),("NoKind",false),("TooMany",true),("Torn",false)]:=⟨_,J2 X G xa5,ai xa2 xK2 (aq xk5_2 xo5 xt5 (.inr vnx5_2)) (ai xa0 xK0 (aq xk5_0 xo5 xt5 (.inr vnx5_0)) (ai xa1 xK1 (aq xk5_1 xo5 xt5 (.inr vnx5_1)) (ai xa5 xK5 (aq xk5_5 xo5 xt5 (.inl rfl)) (ai xa6 xK6 (aq xk5_6 xo5 xt5 (.inr vnx5_6)) bS))))⟩
 have BW:bX K mg "Torn" [("NoField",false),("Twice",false),("NoKind",false),("TooMany",false),("Torn",true)]:=⟨_,J2 X G xa6,ai xa2 xK2 (aq xk6_2 xo6 xt6 (.inr vnx6_2)) (ai xa0 xK0 (aq xk6_0 xo6 xt6 (.inr vnx6_0)) (ai xa1 xK1 (aq xk6_1 xo6 xt6 (.inr vnx6_1)) (ai xa5 xK5 (aq xk6_5 xo6 xt6 (.inr vnx6_5)) (ai xa6 xK6 (aq xk6_6 xo6 xt6 (.inl rfl)) bS))))⟩
 have yU:bX K mg "Blind" [("NoField",false),("Twice",false),("NoKind",false),("TooMany",false),("Torn",false)]:=⟨_,J2 X G xa7,ai xa2 xK2 (aq xk7_2 xo7 xt7 (.inr vnx7_2)) (ai xa0 xK0 (aq xk7_0 xo7 xt7 (.inr vnx7_0)) (ai xa1 xK1 (aq xk7_1 xo7 xt7 (.inr vnx7_1)) (ai xa5 xK5 (aq xk7_5 xo7 xt7 (.inr vnx7_5)) (ai xa6 xK6 (aq xk7_6 xo7 xt7 (.inr vnx7_6)) bS))))⟩
 have vC:bX K mg "NoForm" [("NoField",false),("Twice",false),("NoKind",false),("TooMany",false),("Torn",false)]:=⟨_,J2 X G xa8,ai xa2 xK2 (aq xk8_2 xo8 xt8 (.inr vnx8_2)) (ai xa0 xK0 (aq xk8_0 xo8 xt8 (.inr vnx8_0)) (ai xa1 xK1 (aq xk8_1 xo8 xt8 (.inr vnx8_1)) (ai xa5 xK5 (aq xk8_5 xo8 xt8 (.inr vnx8_5)) (ai xa6 xK6 (aq xk8_6 xo8 xt8 (.inr vnx8_6)) bS))))⟩
 have uc:bX K mg "NoTable" [("NoField",false),("Twice",false),("NoKind",false),("TooMany",false),("Torn",false)]:=⟨_,J2 X G xa9,ai xa2 xK2 (aq xk9_2 xo9 xt9 (.inr vnx9_2)) (ai xa0 xK0 (aq xk9_0 xo9 xt9 (.inr vnx9_0)) (ai xa1 xK1 (aq xk9_1 xo9 xt9 (.inr vnx9_1)) (ai xa5 xK5 (aq xk9_5 xo9 xt9 (.inr vnx9_5)) (ai xa6 xK6 (aq xk9_6 xo9 xt9 (.inr vnx9_6)) bS))))⟩
 have xA:bX K mg "Stale" [("NoField",false),("Twice",false),("NoKind",false),("TooMany",false),("Torn",false)]:=⟨_,J2 X G xa10,ai xa2 xK2 (aq xk10_2 xo10 xt10 (.inr vnx10_2)) (ai xa0 xK0 (aq xk10_0 xo10 xt10 (.inr vnx10_0)) (ai xa1 xK1 (aq xk10_1 xo10 xt10 (.inr vnx10_1)) (ai xa5 xK5 (aq xk10_5 xo10 xt10 (.inr vnx10_5)) (ai xa6 xK6 (aq xk10_6 xo10 xt10 (.inr vnx10_6)) bS))))⟩
 have vv:bX K mg "NoPane" [("NoField",false),("Twice",false),("NoKind",false),("TooMany",false),("Torn",false)]:=⟨_,J2 X G xa11,ai xa2 xK2 (aq xk11_2 xo11 xt11 (.inr vnx11_2)) (ai xa0 xK0 (aq xk11_0 xo11 xt11 (.inr vnx11_0)) (ai xa1 xK1 (aq xk11_1 xo11 xt11 (.inr vnx11_1)) (ai xa5 xK5 (aq xk11_5 xo11 xt11 (.inr vnx11_5)) (ai xa6 xK6 (aq xk11_6 xo11 xt11 (.inr vnx11_6)) bS))))⟩
 have u9:bX K mg "NoText" [("NoField",false),("Twice",false),("NoKind",false),("TooMany",false),("Torn",false)]:=⟨_,J2 X G xa12,ai xa2 xK2 (aq xk12_2 xo12 xt12 (.inr vnx12_2)) (ai xa0 xK0 (aq xk12_0 xo12 xt12 (.inr vnx12_0)) (ai xa1 xK1 (aq xk12_1 xo12 xt12 (.inr vnx12_1)) (ai xa5 xK5 (aq xk12_5 xo12 xt12 (.inr vnx12_5)) (ai xa6 xK6 (aq xk12_6 xo12 xt12 (.inr vnx12_6)) bS))))⟩
 have V_ValueError:oH K (.type "ValueError") [("NoField",true),("Twice",true),("NoKind",true),("TooMany",true),("Torn",true)]:=ai xa2 xK2 (kK xv_ValueError_2) (ai xa0 xK0 (kK xv_ValueError_0) (ai xa1 xK1 (kK xv_ValueError_1) (ai xa5 xK5 (kK xv_ValueError_5) (ai xa6 xK6 (kK xv_ValueError_6) bS))));have B1:=tM (P:=l.prog) (w:=w) (base:=base) ac0 ⟨m0,a5,i5,kp0⟩ cl0 (by intro g hg;simp only[Iu,Jl,or_false]at hg;rcases hg with rfl|rfl|rfl|rfl<;>first|exact n0_0|exact n0_1|exact n0_2|exact n0_3) F5 b5 (J2 X G ac0)
 let u:U:=⟨l.prog,w,K,mg,base,(0:Nat),(0:Nat)⟩
 have q0:Q0 u:=⟨⟨⟨⟨⟨⟨⟨⟨⟨⟨⟨⟨⟨⟨⟨⟨⟨⟨⟨⟨⟨⟨⟨⟨⟨⟨⟨⟨⟨⟨⟨⟨⟨(FL.of X G (Zs.of X G zz) dd0),c_LEAST_BY⟩,c_MOST_BY⟩,c_MOST_FIELDS⟩,p6⟩,jv⟩,mY⟩,nQ⟩,B1⟩,RI_Torn⟩,fx_view_Torn⟩,E_Twice⟩,E_NoField⟩,E_NoKind⟩,E_TooMany⟩,T_GlassError⟩,zb⟩,uS⟩,tR⟩,tX⟩,xH⟩,t6⟩,BW⟩,yU⟩,vC⟩,uc⟩,xA⟩,vv⟩,u9⟩,V_ValueError⟩,⟨_,_,_,ac1,cl1,⟨a0,i0,k0⟩,F0⟩⟩,⟨_,_,_,ac0,cl0,⟨a1,i1,k1⟩,F1⟩⟩,⟨_,_,_,ac0,cl0,⟨a2,i2,k2⟩,F2⟩⟩,⟨_,_,_,ac0,cl0,⟨a3,i3,k3⟩,F3⟩⟩
 exact CT (u:=u) F4 (Gw (GK (GJ (GB (G0 (Gj (Gr (Gk (GL (DF (e20 (Gv (GZ (G1 (Gs (GU (Gm (Gp (GD (EV (e10 (e9 (e8 (e7 (e6 (e5 (e4 (e3 (e2 (e1 q0))))))))))))))))))))))))))))))
theorem walk{l:JP}{q:KA}{loose:ap}{XP:(bC)->KC->Prop}{YP:Kz->KC->Prop}{d:DefRec}{K:Params->Jv}(hn:l.most=some 63)(hdf:d.params.defaults=[])
  (hY:∀(w:Kz)(h:KC),YP w h->(K w.params).In h)
  (F:∀ (w:Kz) (mg:bC) (fa:Kv) (h:KC),(K w.params).In h->h.Ns KH mg->mg d.name=some (.ref fa) ->
   ∃fd:Ln,(∀(s:Ky)(u:Kt),Lp s fd ⟨[u],[]⟩ [("_law_script",u)])/\∀base:KC,(K w.params).In base->base.Ns KH mg->dJ l.prog w (K w.params) mg base (iD l.prog w) 18 fa fd ["_law_script"] (uH (K w.params) 1 (aF jA 1 11)))
  (math:∀ns:List Int,ns.length<=63->aF jA 1 11 [.lst (ns.map .int)]=.ok (.bl true)):PySem.W.WalkO q loose XP YP l.row.toRowW d [] (λf vs=>PySem.call f vs):=
 L2.DE (n:=63) (k:=18) (x:="_law_script") (CX:=λw=>iD l.prog w) (sp:=λw=>uH (K w.params) 1 (aF jA 1 11)) hn (by decide) hdf ⟨rfl,by decide,by decide⟩ hY F
  (λw H a ns hl _ hS=>⟨[],[.lst (ns.map .int)],rfl,⟨trivial,λa h=>nomatch h⟩,by rw[yM];exact aX.mpr ⟨.ref a,[],rfl,bo.mpr ⟨a,_,rfl,hS,lC ns⟩,bL.mpr rfl⟩,by rw[math ns hl];exact λv H' _ d=>eT.mp d⟩) λ_ _ _ _ _ z=>by obtain⟨_,_,_,_,_,_,_,_,_,_,_,_,_,_,z⟩:=z;exact z
end Tk23
namespace Tk23
open PySem PySem.Spec L2 TG TD
local macro_rules|`(‹$x›)=>do if x.raw.isOfKind `num then Lean.Macro.throwUnsupported else `(some (S.val $x))
local macro_rules
 |`(tactic| simp! only[$xs,*])=>`(tactic| simp only[cK,qO,o9,sB,gR,df,ge_0,zv,mI,zr,nV,j4,n9,nA,yI,zn,zi,xD,yk,nT,nK,rP,iB,j3,mU,jN,rj,mM,mZ,jX,mH,ig,mO,iU,iw,gm,gG,ng,jK,gu,jO,ii,j5,jI,dj,jU,iV,nE,iG,iJ,dS,jZ,jM,xM,sA,xR,yY,yK,nN,jY,nY,jQ,jW,x6,zC,Jd,Je,Hq,HM,HR,Ij,K0,env0,List.replicate,IM,Hu,IG,Nat.reduceAdd,Nat.reduceSub,Ho,IT,nX,mG,rk,mV,nG,mP,gw,nU,sC,si,qK,nJ,hZ,h7,iz,iu,ip,ib,qV,rm,rG,qL,se,rg,ir,iM,eM,fg,ny,gk,fu,eZ,fq,n6,nO,eK,eP,iE,iy,jL,jS,iQ,j6,nM,mS,jV,jR,gN,if_true,if_false,Jf,Jg,HQ,$xs,*])
noncomputable abbrev stp(nm:Str)(b:Int)(q r:Str):D:=.obj "Part" ["name","by","quotient","rest"] [.str nm,.int b,.str q,.str r]
section
variable{nm q r:Str}{b:Int}
theorem eV:dP "name" ["Part"] (stp nm b q r)=some (.str nm):=by rfl
theorem ki:dP "by" ["Part"] (stp nm b q r)=some (.int b):=by rfl
theorem AV:dP "quotient" ["Part"] (stp nm b q r)=some (.str q):=by rfl
theorem A4:dP "rest" ["Part"] (stp nm b q r)=some (.str r):=by rfl
theorem Ac(m:Str)(g1 g2:cQ)(fo:FX)(fas:aN)(ρ:aw)(h:fo ρ=.ok (stp nm b q r))(hm:(["name","by","quotient","rest"]:ap).contains m=false):fA m [("Step",g1),("Part",g2)] fo fas ρ=(fas ρ).bind λas=>g2 (stp nm b q r::as):=by
 unfold fA;rw[h,cK];have h1:(("Part":Str)==("Step":Str))=false:=by decide +kernel
 have:List.lookup ("Part":Str) [(("Step":Str),g1),(("Part":Str),g2)]=some g2:=by
  rw[HN,h1,HN,BEq.rfl]
 simp only[this,hm];rfl
theorem Ab(m:Str)(g2:cQ)(fo:FX)(fas:aN)(ρ:aw)(h:fo ρ=.ok (stp nm b q r))(hm:(["name","by","quotient","rest"]:ap).contains m=false):fA m [("Part",g2)] fo fas ρ=(fas ρ).bind λas=>g2 (stp nm b q r::as):=by
 unfold fA;rw[h,cK]
 have:List.lookup ("Part":Str) [(("Part":Str),g2)]=some g2:=by
  rw[HN,BEq.rfl]
 simp only[this,hm];rfl
end
theorem fM(a c:Bool):(if a=true then(.ok true:R Bool)else .ok c)=.ok (a||c):=by cases a<;>rfl
theorem eJ(c:Str)(f:aN)(k:Ks)(ρ:aw):fY c f k ρ=jF (f ρ) k ρ λds=>if small ds.length then k.ex ⟨c,[],[]⟩ ρ else un:=nr rfl
theorem dM(f:FX)(k:Ks)(ρ:aw):lX f k ρ=jF (f ρ) k ρ λ_=>k.nx ρ:=nr rfl
theorem rd(cs:ap)(i:Nat)(F Fh:bJ)(k:Ks)(ρ:aw):u6 cs i F Fh k ρ=F {k with ex:=λx ρ1=>if cs.contains x.c=true then Fh (Ci i k) (setV i (.exc x.c x.fs x.vs) ρ1)else un} ρ:=nr rfl
theorem pS(c:Str)(fs:ap)(f:aN)(k:Ks)(ρ:aw):i9 c fs f k ρ=jF (f ρ) k ρ λds=>if small ds.length&&ds.length==fs.length then k.ex ⟨c,fs,ds⟩ ρ else un:=nr rfl
theorem Do:small (0+1)=true:=by rfl
theorem tH(kf rf:List D)(ps:cP)(hl:ps.length<=100)(e:kf++rf=ps.map fld)(hn:(ps.map (·.1)).Nodup)(i:Nat)(nm:Str)(k:D)(hi:ps[i]?=some (nm,k)):
  aF cG 2 4 [.tup [.tup kf,.tup rf],.str nm]=.ok (.int i):=by
 have en:=kA kf rf ps hl e;rw[bF];unfold cG;rw[dj,dS];simp! only[en,js];have di:(dz 0 (ps.map λp=>D.str p.1))[i]?=some (.tup [.int ((i:Nat):Int),.str nm]):=by
  rw[fO,HB,hi,IG];rfl
 refine jg (Q:=λz=>z=.ok (.int i)) (λ_ ρ=>ρ=[‹.tup [.tup kf,.tup rf]›,‹.str nm›,none,none]) _ 0 i _ _ di ?_ rfl ?_
 ·rintro j d ρ k' hj hd rfl;rw[fO,HB]at hd;have hil:=cy hi;have hjl:j<ps.length:=by omega
  rw[Ia hjl]at hd;cases hd;have ne:(ps[j].1==nm)=false:=by
   have h1:=List.pairwise_iff_getElem.mp hn j i (by rw[Hr];exact hjl) (by rw[Hr];exact hil) hj;rw[Jm,Jm]at h1;have h2:ps[i]=(nm,k):=(by rw[Ia hil]at hi;exact Option.some.inj hi);rw[h2]at h1
   simpa using h1
  refine⟨[‹.tup [.tup kf,.tup rf]›,‹.str nm›,‹.int ((0+j:Nat):Int)›,‹.str ps[j].1›],_,rfl,rfl,?_⟩;simp! only[ne]
 ·rintro ρ k' rfl;refine⟨[‹.tup [.tup kf,.tup rf]›,‹.str nm›,‹.int (i:Int)›,‹.str nm›],rfl,?_⟩;simp! only[BEq.rfl]
theorem qB(kf rf:List D)(ps:cP)(hl:ps.length<=100)(e:kf++rf=ps.map fld)(nm:Str)(hm:nm∉ps.map (·.1)):
  aF cG 2 4 [.tup [.tup kf,.tup rf],.str nm]=.error (some ⟨"NoField",[],[]⟩):=by
 have en:=kA kf rf ps hl e;rw[bF];unfold cG;rw[dj,dS];simp! only[en,js];refine jJ (Q:=λz=>z=.error (some ⟨"NoField",[],[]⟩)) (λ_ ρ=>ρ=[‹.tup [.tup kf,.tup rf]›,‹.str nm›,none,none]) ?_ rfl ?_
 ·rintro j d ρ k' hd rfl;rw[fO,HB]at hd;have hjl:j<ps.length:=by
   rcases IX j ps.length with z|z
   ·exact z
   ·rw[IW z]at hd;cases hd
  rw[Ia hjl]at hd;cases hd;have ne:(ps[j].1==nm)=false:=by
   have:ps[j].1≠nm:=λz=>hm (by rw[<-z];exact Jn (List.getElem_mem hjl))
   simpa using this
  refine⟨[‹.tup [.tup kf,.tup rf]›,‹.str nm›,‹.int ((0+j:Nat):Int)›,‹.str ps[j].1›],_,rfl,rfl,?_⟩;simp! only[ne]
 ·rintro ρ rfl;simp! only[eJ,Do]
noncomputable abbrev num(lo hi:Int):D:=.tup [.str "number",.int lo,.int hi]
structure Fo(kf rf:List D)(ps:cP):Prop where
 k1:1<=kf.length
 k8:kf.length<=8
 r8:rf.length<=8
 e:kf++rf=ps.map fld
 hn:(ps.map (·.1)).Nodup
 fk:∀f∈kf,∃nm k,f=.tup [.str nm,k]/\oi k
 fr:∀f∈rf,∃nm k,f=.tup [.str nm,k]/\pG 1 k
section
variable{kf rf:List D}{ps:cP}
theorem Fo.len(h:Fo kf rf ps):kf.length+rf.length=ps.length:=by
 have:=congrArg List.length h.e
 rwa [HF,Hr]at this
theorem Fo.hl(h:Fo kf rf ps):ps.length<=16:=by have:=h.len;have:=h.k8;have:=h.r8;omega
theorem Fo.kin(h:Fo kf rf ps){p:Str×D}(hp:p∈ps):pG 1 p.2:=by
 have:fld p∈kf++rf:=by rw[h.e];exact Jn hp
 rcases List.mem_append.mp this with z|z
 ·obtain⟨nm,k,e,q⟩:=h.fk _ z;cases e;exact q.kin
 ·obtain⟨nm,k,e,q⟩:=h.fr _ z;cases e;exact q
theorem CU{k:D}(h:pG 1 k):∃s,ak k (.int 0)=some (.str s)/\((s==("number":Str))=true->∃lo hi,lo<=hi/\-vO<lo/\hi<vO/\k=num lo hi):=by
 rcases h with(⟨lo,hi,a1,a2,a3,rfl⟩|⟨ws,_,_,rfl⟩)|⟨kf,rf,b,rfl,_⟩
 ·exact⟨_,rfl,λ_=>⟨lo,hi,a1,a2,a3,rfl⟩⟩
 ·exact⟨_,rfl,λz=>by rw[qt]at z;cases z⟩
 ·exact⟨_,rfl,λz=>by rw[ke]at z;cases z⟩
theorem Dq{ps:cP}(hn:(ps.map (·.1)).Nodup){i t:Nat}{q:Str}{k:D}{p:Str×D}(hi:ps[i]?=some (q,k))(ht:ps[t]?=some p):(((i:Nat):Int)==((0+t:Nat):Int))=(p.1==q):=by
 have il:=cy hi;have tl:=cy ht;have e1:ps[i]=(q,k):=by rw[Ia il]at hi;exact Option.some.inj hi
 have e2:ps[t]=p:=by rw[Ia tl]at ht;exact Option.some.inj ht
 by_cases z:i=t
 ·subst z;rw[e1]at e2;subst e2;simp
 ·have pw:=List.pairwise_iff_getElem.mp hn;have ne:p.1≠q:=λw=>by
   rcases Jk z with y|y
   ·exact pw i t (by rw[Hr];exact il) (by rw[Hr];exact tl) y (by rw[Jm,Jm,e1,e2,w])
   ·exact pw t i (by rw[Hr];exact tl) (by rw[Hr];exact il) y (by rw[Jm,Jm,e1,e2,w])
  have a:((i:Int)==((0+t:Nat):Int))=false:=by simp;omega
  have b:(p.1==q)=false:=by simpa using ne
  rw[a,b]
noncomputable def oth(nm:Str)(x:Str):Bool:=!(x==nm)
theorem pC(h:Fo kf rf ps)(nm q:Str){i:Nat}{k:D}(hi:ps[i]?=some (nm,k)):aF bD 3 4 [.tup [.tup kf,.tup rf],.str q,.tup [.int i]]=.ok (.bl (ps.any λp=>(p.1==q)&&oth nm p.1)):=by
 have hl:=h.hl;have len:=h.len;obtain⟨vs,v1,v2,v3⟩:=pW (ρ:=inB [none,none,some 1,some 2] [‹.tup [.tup kf,.tup rf]›,‹.str q›,‹.tup [.int i]›,‹.tup (ps.map fld)›]) (g:=gT 2 (kC [0,1])) (C:=bw) (Fe:=iO (f2 et (f2 ak (af 1) (fC (.int 0))) (af 2)) (f2 dY (af 0) (af 3))) (dz 0 (ps.map fld)) (λt v=>∃p,ps[t]?=some p/\v=.bl ((p.1==q)&&oth nm p.1)) (λt d hd=>by
  rw[fO,HB]at hd;cases hp:ps[t]? with
  |none=>rw[hp]at hd;cases hd
  |some p=>
   rw[hp]at hd;cases hd;refine⟨[‹.int ((0+t:Nat):Int)›,‹.tup [.str p.1,p.2]›,‹.str q›,‹.tup [.int i]›],_,rfl,rfl,?_,p,rfl,rfl⟩;have e1:=Dq h.hn hi hp;rw[IG]at e1;simp! only[sQ,e1,oth])
 have ev:vs=(ps.map λp=>(p.1==q)&&oth nm p.1).map .bl:=by
  have lv:vs.length=ps.length:=by rw[v1,dC,Hr]
  apply List.ext_getElem
  ·rw[Hr,Hr,lv]
  ·intro t h1 h2;obtain⟨p,hp,e⟩:=v2 t _ (Ia h1);rw[e,Jm,Jm]
   have:ps[t]'‹0›=p:=(by rw[Ia ‹0›]at hp;exact Option.some.inj hp);rw[this]
 have f0:=cv (ix:=[none,none,some 1,some 2]) (G:=de (aa (af 3) ah)) (ρ:=[‹.tup [.tup kf,.tup rf]›,‹.str q›,‹.tup [.int i]›,‹.tup (ps.map fld)›]) (by simp! only[js]) (by rw[dC,Hr];omega) v3;rw[ev]at f0;have an:(ps.map λp=>(p.1==q)&&oth nm p.1).any id=ps.any λp=>(p.1==q)&&oth nm p.1:=by rw[IQ];rfl
 rw[kB];unfold bD;simp! only[cg kf rf ‹0›,h.e,f0,yy,an]
noncomputable def tw(ps:cP)(nm q r:Str):Bool:=(q==r)||((ps.any λp=>(p.1==q)&&oth nm p.1)||ps.any λp=>(p.1==r)&&oth nm p.1)
theorem uD(h:Fo kf rf ps)(nm q r:Str)(b:Int){i:Nat}{k:D}(hi:ps[i]?=some (nm,k)):aF a7 3 3 [stp nm b q r,.tup [.tup kf,.tup rf],.int i]=if tw ps nm q r=true then .error (some ⟨"Twice",[],[]⟩)else .ok .non:=by
 have e1:=pC h nm q hi;have e2:=pC h nm r hi;unfold tw;generalize (ps.any λp=>(p.1==q)&&oth nm p.1)=b1 at *;generalize (ps.any λp=>(p.1==r)&&oth nm p.1)=b2 at *;rw[kB];unfold a7;cases z:(q==r)with
 |true=>simp! only[AV,A4,z,Cd,e1,e2,eJ,Do,Bool.true_or]
 |false=>simp! only[AV,A4,z,Cd,e1,e2,eJ,Do,fM,Bool.false_or]
end
noncomputable def LF:Nat->D->D->Prop
 |0,k,v=>uJ k v
 |n+1,k,v=>uJ k v\/∃(kf rf:List D)(b:Bool)(ps:cP),k=.tup [.str "rows",.tup [.tup kf,.tup rf],.bl b]/\kf++rf=ps.map fld/\ps.length<=20/\((b=false/\v=.tup [])\/(b=true/\∃row,v=.tup [.tup row]/\F2 (LF n) (ps.map (·.2)) row))
theorem LF.of{n:Nat}{k v:D}(h:uJ k v):LF n k v:=by
 cases n with
 |zero=>exact h
 |succ n=>exact .inl h
theorem wu{α:Type}{P:D->D->Prop}(a b:α->D):∀xs:List α,(∀x∈xs,P (a x) (b x))->F2 P (xs.map a) (xs.map b)
 |[],_=>.nil
 |x::xs,h=>.cons (h x G8) (wu a b xs λy hy=>h y (G9 _ hy))
theorem sZ:∀(n g:Nat)(k:D),n+1<=g->pG n k->∃v,bN g [k]=.ok v/\LF n k v:=by
 have flat:∀(n g:Nat)(k:D),1<=g->oi k->∃v,bN g [k]=.ok v/\LF n k v:=λn g k hg h=>by
  obtain⟨z,rfl⟩:∃z',g=z'+1:=⟨g-1,by omega⟩
  rw[dF,eQ];unfold iN;rcases h with⟨lo,hi,a1,_,_,rfl⟩|⟨ws,hw,_,rfl⟩
  ·refine⟨.int lo,?_,.of (.inl ⟨lo,hi,lo,rfl,Jo _,a1,rfl⟩)⟩;simp! only[BEq.rfl]
  ·cases ws with
   |nil=>exact absurd rfl hw
   |cons w ws=>
    refine⟨.str w,?_,.of (.inr ⟨w::ws,w,rfl,G8,rfl⟩)⟩;simp! only[BEq.rfl,qt]
 intro n
 induction n with
 |zero=>exact λg k hg h=>flat 0 g k ‹0› h
 |succ n ih=>
  intro g k hg h;rcases h with h|⟨kf,rf,b,rfl,h1,h2,h3,h4⟩
  ·exact flat _ g k ‹0› h
  ·obtain⟨ps,e,pl1,q2,_⟩:=uT h3 h4;obtain⟨z,rfl⟩:∃z',g=z'+1:=⟨g-1,by omega⟩
   rw[dF,eQ];unfold iN;cases b with
   |false=>
    refine⟨.tup [],?_,.inr ⟨kf,rf,false,ps,rfl,e,by omega,.inl ⟨rfl,rfl⟩⟩⟩;simp! only[BEq.rfl,ke,j7,Cm]
   |true=>
    have ko:aF dL 1 1 [.tup [.tup kf,.tup rf]]=.ok (.tup (ps.map (·.2))):=kinds_ok kf rf ps ‹0› e;obtain⟨w,hw⟩:∃w:Str×D->D,∀p∈ps,bN z [p.2]=.ok (w p)/\LF n p.2 (w p):=by
     classical
     have h:=λp (hp:p∈ps)=>ih z p.2 ‹0› (q2 p hp);exact⟨λp=>if hp:p∈ps then(h p hp).choose else .non,λp hp=>by
      show bN z [p.2]=.ok (if hp:p∈ps then(h p hp).choose else .non)/\LF n p.2 (if hp:p∈ps then(h p hp).choose else .non);rw[dif_pos hp];exact(h p hp).choose_spec⟩
    refine⟨.tup [.tup (ps.map w)],?_,.inr ⟨kf,rf,true,ps,rfl,e,by omega,.inr ⟨rfl,_,rfl,wu _ _ ps λp hp=>(hw p hp).2⟩⟩⟩;have f0:dZ [none] (bP (fR (aF dL 1 1) (aa (f2 ak (af 0) (fC (.int 1))) ah))) (gN 0) bw (fR (bN z) (aa (af 0) ah)) [‹.tup [.str "rows",.tup [.tup kf,.tup rf],.bl true]›]=.ok (.lst (ps.map w)):=by
     refine cv (ds:=ps.map (·.2)) ?_ (by rw[Hr];omega) ?_
     ·simp! only[ko]
     ·refine eY (λp:Str×D=>p.2) _ ps λp hp=>⟨_,rfl,rfl,?_⟩
      simp! only[(hw p hp).1]
    simp! only[BEq.rfl,ke,j7,f0,Cd]
theorem mX{kf rf:List D}{ps:cP}(h:Fo kf rf ps):∃row,aF dq 1 1 [.tup [.tup kf,.tup rf]]=.ok (.tup row)/\F2 (LF 1) (ps.map (·.2)) row:=by
 have k8:=h.k8;have r8:=h.r8;obtain⟨v,ev,lf⟩:=sZ 2 12 (.tup [.str "rows",.tup [.tup kf,.tup rf],.bl true]) (by decide) (.inr ⟨kf,rf,true,rfl,h.k1,by omega,h.fk,h.fr⟩);rcases lf with z|⟨kf',rf',b,ps',e,e2,l2,z⟩
 ·rcases z with⟨lo,hi,i,e,_⟩|⟨ws,w,e,_⟩<;>cases e
 ·cases e;rcases z with⟨z,_⟩|⟨_,row,rfl,f⟩
  ·cases z
  ·have:ps'=ps:=by
    have:=e2.symm.trans h.e
    have inj:∀(a b:cP),a.map fld=b.map fld->a=b:=λa b z=>by
     induction a generalizing b with
     |nil=>cases b with|nil=>rfl|cons _ _=>cases z
     |cons x xs ih=>cases b with
      |nil=>cases z
      |cons y ys=>
       rw[Hq,Hq]at z;injection z with z1 z2;rw[ih ys z2];obtain⟨x1,x2⟩:=x;obtain⟨y1,y2⟩:=y;injection z1 with z1;injection z1 with z1 z3;injection z1 with z1;injection z3 with z3;have z1:x1=y1:=z1;have z3:x2=y2:=z3;rw[z1,z3]
    exact inj _ _ this
   subst this;refine⟨row,?_,f⟩;rw[eQ];unfold dq;simp! only[xU,ev]
theorem BA(xs ys:List D):uB [.lst xs,.tup ys]=some (iP xs ys):=nr rfl
theorem uW(n:Nat):ly [.lst ((List.replicate n true).map .bl)]=some (.bl true):=by
 rw[xI];congr;simp
theorem o7{kf rf:List D}{ps:cP}(hl:ps.length<=100)(G:aN)(ρ:aw)(hG:G ρ=.ok (ps.map fld)):dZ [none,none] G (gT 2 (kC [0,1])) bw (af 1) ρ=.ok (.lst (ps.map (·.2))):=by
 refine cv hG (by rw[Hr];omega) ?_;exact eY fld _ ps λp _=>⟨[‹.str p.1›,‹p.2›],rfl,rfl,rfl⟩
theorem ul(g:Nat){kf rf:List D}{ps:cP}(hl:ps.length<=100)(e:kf++rf=ps.map fld):aG (g+1) [.tup [.tup kf,.tup rf],.tup []]=.ok (.bl true):=by
 have len:kf.length+rf.length=ps.length:=by have:=congrArg List.length e;rwa [HF,Hr]at this
 have ad:=cg kf rf ‹0›;rw[e]at ad;have kl:=o7 (kf:=kf) (rf:=rf) hl (bP (f2 aI (f2 ak (af 0) (fC (.int 0))) (f2 ak (af 0) (fC (.int 1))))) [‹.tup [.tup kf,.tup rf]›,‹.tup []›,none,none,none] (by simp! only[ad]);have t1:qj "tuple" (.tup [])=some (.bl true):=rfl;have r0:dB [.int ((0:Nat)-1:Int)]=some []:=rfl;have f0:∀r:aw,dZ [none,some 1,some 3] (bh (aa (f2 cI (fL cT (aa (af 1) ah)) (fC (.int 1))) ah)) (gN 0) bw (f2 eW (aT (f2 ak (af 1) (af 0)) aP (aV (af 2))) (aT (f2 ak (af 1) (f2 aI (af 0) (fC (.int 1)))) aP (aV (af 2)))) [none,‹.tup []›,‹.lst (ps.map (·.2))›,‹.int kf.length›,none]=.ok (.lst []):=λ_=>cv (ds:=[]) (by simp! only[r0]) (by decide) rfl;have a0:ly [.lst []]=some (.bl true):=rfl;have fn:∀(B:bJ)(k:Ks)(ρ:aw),cW (gN 4) B k [] ρ=k.nx ρ:=λ_ _ _=>rfl;rw[cq,bF];unfold cV;simp! only[kl,t1,fn,f0 [],a0]
theorem mz(g:Nat){kf rf row:List D}{ps:cP}(hl:ps.length<=100)(e:kf++rf=ps.map fld)(hf:F2 (λk v=>aH g [k,v]=.ok (.bl true)) (ps.map (·.2)) row):aG (g+1) [.tup [.tup kf,.tup rf],.tup [.tup row]]=.ok (.bl true):=by
 have len:kf.length+rf.length=ps.length:=by have:=congrArg List.length e;rwa [HF,Hr]at this
 have rl:row.length=ps.length:=by rw[<-hf.length,Hr]
 have ad:=cg kf rf ‹0›;rw[e]at ad;have kl:=o7 (kf:=kf) (rf:=rf) hl (bP (f2 aI (f2 ak (af 0) (fC (.int 0))) (f2 ak (af 0) (fC (.int 1))))) [‹.tup [.tup kf,.tup rf]›,‹.tup [.tup row]›,none,none,none] (by simp! only[ad]);have t1:∀xs,qj "tuple" (.tup xs)=some (.bl true):=λ_=>rfl;have r0:dB [.int ((0+1:Nat)-1:Int)]=some []:=rfl;have f0:∀r:aw,dZ [none,some 1,some 3] (bh (aa (f2 cI (fL cT (aa (af 1) ah)) (fC (.int 1))) ah)) (gN 0) bw (f2 eW (aT (f2 ak (af 1) (af 0)) aP (aV (af 2))) (aT (f2 ak (af 1) (f2 aI (af 0) (fC (.int 1)))) aP (aV (af 2)))) [none,‹.tup [.tup row]›,‹.lst (ps.map (·.2))›,‹.int kf.length›,none]=.ok (.lst []):=λ_=>cv (ds:=[]) (by simp! only[r0]) (by decide) rfl;have a0:ly [.lst []]=some (.bl true):=rfl;obtain⟨vs,v1,v2,v3⟩:=pW (ρ:=inB [none,none] [none,‹.tup [.tup row]›,‹.lst (ps.map (·.2))›,‹.int kf.length›,‹.tup row›]) (g:=gT 2 (kC [0,1])) (C:=bw) (Fe:=fR (aH g) (aa (af 0) (aa (af 1) ah))) (iP (ps.map (·.2)) row) (λ_ v=>v=.bl true) (λt d hd=>by
  obtain⟨x,y,hx,hy,rfl⟩:=kr hd;refine⟨[‹x›,‹y›],_,rfl,rfl,?_,rfl⟩;simp! only[hf.get hx hy])
 have ev:vs=(List.replicate vs.length true).map .bl:=by
  apply List.ext_getElem
  ·simp
  ·intro t h1 h2;rw[v2 t _ (Ia h1)];simp
 have f1:=cv (ix:=[none,none]) (G:=uZ (aa (af 2) (aa (af 4) ah))) (ρ:=[none,‹.tup [.tup row]›,‹.lst (ps.map (·.2))›,‹.int kf.length›,‹.tup row›]) (by simp! only[BA]) (by rw[gd,Hr];omega) v3;rw[ev]at f1;have nn:(((row.length:Int))==(((ps.map (·.2)).length:Nat):Int))=true:=by rw[rl,Hr];simp
 rw[cq,bF];unfold cV;simp! only[kl,t1];refine jJ (Q:=λz=>z=.ok (.bl true)) (λ_ ρ=>ρ=[none,‹.tup [.tup row]›,‹.lst (ps.map (·.2))›,‹.int kf.length›,none]) ?_ rfl ?_
 ·rintro j d ρ k' hd rfl
  have:d=.tup row:=by
   cases j with
   |zero=>cases hd;rfl
   |succ j=>cases hd
  subst this;refine⟨[none,‹.tup [.tup row]›,‹.lst (ps.map (·.2))›,‹.int kf.length›,‹.tup row›],_,rfl,rfl,?_⟩;simp! only[t1,nn,f1,uW]
 ·rintro ρ rfl;simp! only[f0 [],a0]
theorem gE(g:Nat){k v:D}(h:uJ k v):aH (g+1) [k,v]=.ok (.bl true):=by
 rw[cz,bF];unfold dk;rcases h with⟨lo,hi,i,rfl,h1,h2,rfl⟩|⟨ws,w,rfl,hw,rfl⟩
 ·have t1:qj "int" (.int i)=some (.bl true):=rfl;have t2:qj "bool" (.int i)=some (.bl false):=rfl;simp! only[BEq.rfl,t1,t2,decide_eq_true h1,decide_eq_true h2];rfl
 ·have t1:qj "str" (.str w)=some (.bl true):=rfl;have c:ws.contains w=true:=List.contains_iff_mem.mpr hw;simp! only[BEq.rfl,qt,t1,qJ,c];rfl
theorem Dh:∀(n:Nat){k v:D},LF n k v->pl v=true:=by
 have flat:∀{k v:D},uJ k v->pl v=true:=λh=>by
  rcases h with⟨_,_,i,_,_,_,rfl⟩|⟨_,w,_,_,rfl⟩
  ·exact Bb
  ·exact B4
 intro n
 induction n with
 |zero=>exact λh=>flat h
 |succ n ih=>
  intro k v h;rcases h with h|⟨kf,rf,b,ps,rfl,e,l,⟨rfl,rfl⟩|⟨rfl,row,rfl,f⟩⟩
  ·exact flat h
  ·rfl
  ·rw[b7];refine kD λx hx=>?_;rw[List.mem_singleton.mp hx,b7];exact kD λy hy=>by obtain⟨a,_,q⟩:=f.mem hy;exact ih q
theorem Bk{n:Nat}{ks row:List D}(f:F2 (LF n) ks row):eB row=true:=kD λy hy=>by obtain⟨a,_,q⟩:=f.mem hy;exact Dh n q
theorem BR{row:List D}(h:eB row=true):j0 (.tup [.tup row]) (.tup [])=some (.bl true):=by
 have e:j0 (.tup [.tup row]) (.tup [])=if(pl (.tup [.tup row])&&pl (.tup []))&&(cn 8 (.tup [.tup row])||cn 8 (.tup []))then some (.bl (!pyEq (.tup [.tup row]) (.tup [])))else none:=rfl
 have p:pl (.tup [.tup row])=true:=by
  rw[b7];exact kD λx hx=>by rw[List.mem_singleton.mp hx,b7];exact h
 have p2:pl (.tup [])=true:=rfl;have d:cn 8 (.tup [])=true:=rfl;have q:pyEq (.tup [.tup row]) (.tup [])=false:=by
  rw[pyEq,fw]
  ·intro z;cases z
  ·intro _ _ _ _ _ z;cases z
 rw[e,p,p2,d,q,IU];rfl
theorem zm:∀(n g:Nat){k v:D},2*n+1<=g->LF n k v->aH g [k,v]=.ok (.bl true):=by
 intro n
 induction n with
 |zero=>
  intro g k v hg h;obtain⟨z,rfl⟩:∃z',g=z'+1:=⟨g-1,by omega⟩
  exact gE z h
 |succ n ih=>
  intro g k v hg h;obtain⟨z,rfl⟩:∃z',g=z'+1+1:=⟨g-2,by omega⟩
  rcases h with h|⟨kf,rf,b,ps,rfl,e,l,h⟩
  ·exact gE _ h
  ·rw[cz,bF];unfold dk;rcases h with⟨rfl,rfl⟩|⟨rfl,row,rfl,f⟩
   ·have n1:j0 (.tup []) (.tup [])=some (.bl false):=rfl;simp! only[ke,j7,ul z ‹0› e,Cm,n1];rfl
   ·have n1:j0 (.tup [.tup row]) (.tup [])=some (.bl true):=BR (Bk f);simp! only[ke,j7,mz z ‹0› e (f.imp λa b q=>ih z ‹0› q),Cm,n1];rfl
noncomputable def rp(row:List D)(i:Nat)(x y:Int):List D:=row.take i++[.int x,.int y]++row.drop (i+1)
inductive Out(ks:List D)(i:Nat)(lo hi b:Int):R D->Int->Prop where
 |field:Out ks i lo hi b (.error (some ⟨"NoField",[],[]⟩)) 0
 |kind:Out ks i lo hi b (.error (some ⟨"NoKind",[],[]⟩)) 1
 |twice:Out ks i lo hi b (.error (some ⟨"Twice",[],[]⟩)) 2
 |many:Out ks i lo hi b (.error (some ⟨"TooMany",[],[]⟩)) 3
 |torn (row:List D) (x y:Int) (f:F2 (LF 1) ks row) (h:(x=lo/b/\y=0/\lo%b≠0)\/(x=hi/b/\y=b-1/\(hi+1)%b≠0)):Out ks i lo hi b (.error (some ⟨"Torn",["view"],[.tup [.tup (rp row i x y)]]⟩)) 7
 |all (f:D):Out ks i lo hi b (.ok f) 8
section
variable{kf rf:List D}{ps:cP}
theorem Fu:(small 1&&((1:Nat)==1))=true:=by rfl
theorem uK(h:Fo kf rf ps)(nm q r:Str){b:Int}(b1:2<=b)(b2:b<=1000000000){i:Nat}{lo hi:Int}(hi':ps[i]?=some (nm,num lo hi)):∃row,F2 (LF 1) (ps.map (·.2)) row/\aF bf 3 5 [stp nm b q r,.tup [.tup kf,.tup rf],.int i]=if(!(lo%b==0))=true then .error (some ⟨"Torn",["view"],[.tup [.tup (rp row i (lo/b) 0)]]⟩)else if(!((hi+1)%b==0))=true then .error (some ⟨"Torn",["view"],[.tup [.tup (rp row i (hi/b) (b-1))]]⟩)else .ok .non:=by
 have hl:=h.hl;obtain⟨row,er,f⟩:=mX h;refine⟨row,f,?_⟩;have rl:row.length=ps.length:=by rw[<-f.length,Hr]
 have kp:=lU kf rf ps ‹0› h.e i nm _ hi';have g:=λj=>aJ (i:=j) (show(0:Int)<b by omega);have d:=λj=>bn (i:=j) (show(0:Int)<b by omega) (show b<10^200 by
  have:(10:Int)^200>1000000000:=by decide +kernel
  omega)
 have rp1:aF bW 3 3 [.tup row,.int i,.tup [.int (lo/b),.int 0]]=.ok (.tup (rp row i (lo/b) 0)):=gD row _ i (by simp;omega);have rp2:aF bW 3 3 [.tup row,.int i,.tup [.int (hi/b),.int (b-1)]]=.ok (.tup (rp row i (hi/b) (b-1))):=gD row _ i (by simp;omega);rw[kB];unfold bf;simp! only[kp,er,ki,g,d,oa,rp1,rp2,Cd,pS,Fu]
noncomputable def sz(kf rf:List D)(i:Nat):Nat:=if i<kf.length then kf.length else rf.length
theorem vm(h:Fo kf rf ps)(nm q r:Str)(b:Int){i:Nat}{k:D}(hi:ps[i]?=some (nm,k)){s:Str}(hs:ak k (.int 0)=some (.str s))(lo up:Int)(hk:(s==("number":Str))=true->k=num lo up)(d:Int)
  (hd:d=if(!(s==("number":Str))||!(decide (2<=b)&&decide (b<=1000000000)))=true then 1 else if tw ps nm q r=true then 2 else if decide (sz kf rf i=8)=true then 3 else if(!(lo%b==0)||!((up+1)%b==0))=true then 7 else 8):
  Out (ps.map (·.2)) i lo up b (aF ao 2 6 [stp nm b q r,.tup [.tup kf,.tup rf]]) d:=by
 have hl:=h.hl;have len:=h.len;have p1:=tH kf rf ps ‹0› h.e h.hn i nm k hi;have p3:=lU kf rf ps ‹0› h.e i nm k hi;have nv:=uD h nm q r b hi;have m1:=λfas ρ=>Ab (nm:=nm) (b:=b) (q:=q) (r:=r) "check_names" (aF a7 3 3) (af 0) fas (‹stp nm b q r›::ρ) rfl (by decide +kernel);have m2:=λfas ρ=>Ab (nm:=nm) (b:=b) (q:=q) (r:=r) "check_ends" (aF bf 3 5) (af 0) fas (‹stp nm b q r›::ρ) rfl (by decide +kernel);cases b1:(!(s==("number":Str))||!(decide (2<=b)&&decide (b<=1000000000)))with
 |true=>
  rw[b1,if_pos rfl]at hd
  have:aF ao 2 6 [stp nm b q r,.tup [.tup kf,.tup rf]]=.error (some ⟨"NoKind",[],[]⟩):=by
   rw[bF];unfold ao;simp! only[eV,ki,p1,p3,hs,fM,b1,eJ,Do]
  rw[this,hd];exact .kind
 |false=>
  rw[b1,if_neg Hm]at hd;have z:(s==("number":Str))=true/\2<=b/\b<=1000000000:=by
   cases w:(s==("number":Str))with
   |false=>rw[w]at b1;simp at b1
   |true=>
    rw[w]at b1;simp at b1;exact⟨rfl,by omega,by omega⟩
  obtain⟨z1,z2,z3⟩:=z;obtain rfl:=hk z1;obtain⟨row,f,ec⟩:=uK h nm q r z2 z3 hi;cases t:tw ps nm q r with
  |true=>
   rw[t,if_pos rfl]at hd;rw[t,if_pos rfl]at nv
   have:aF ao 2 6 [stp nm b q r,.tup [.tup kf,.tup rf]]=.error (some ⟨"Twice",[],[]⟩):=by
    rw[bF];unfold ao;simp! only[eV,ki,p1,p3,hs,fM,b1,m1,nv,dM]
   rw[this,hd];exact .twice
  |false=>
   rw[t,if_neg Hm]at hd;rw[t,if_neg Hm]at nv;have k8:=h.k8;have r8:=h.r8;have sl:cT [if decide (i<kf.length)=true then .tup kf else .tup rf]=some (.int (sz kf rf i:Int)):=by
    unfold sz;by_cases w:i<kf.length
    ·rw[decide_eq_true w,if_pos rfl,if_pos w];rfl
    ·rw[decide_eq_false w,if_neg Hm,if_neg w];rfl
   have s8:sz kf rf i<=8:=(by unfold sz;split<;>omega);have ik:=gU kf rf i;have ge:decide ((8:Int)<=(sz kf rf i:Int))=decide (sz kf rf i=8):=(by rw[decide_eq_decide];omega);have iff:∀c:Bool,(if c=true then(.ok (.tup kf):R D)else .ok (.tup rf))=.ok (if c=true then .tup kf else .tup rf):=λc=>by cases c<;>rfl
   cases y:decide (sz kf rf i=8)with
   |true=>
    rw[y,if_pos rfl]at hd
    have:aF ao 2 6 [stp nm b q r,.tup [.tup kf,.tup rf]]=.error (some ⟨"TooMany",[],[]⟩):=by
     rw[bF];unfold ao;simp! only[eV,ki,p1,p3,hs,fM,b1,m1,nv,dM,ik,iff,sl,ge,y,eJ,Do]
    rw[this,hd];exact .many
   |false=>
    rw[y,if_neg Hm]at hd;cases v:(!(lo%b==0))with
    |true=>
     rw[v,Bool.true_or,if_pos rfl]at hd;rw[v,if_pos rfl]at ec
     have:aF ao 2 6 [stp nm b q r,.tup [.tup kf,.tup rf]]=.error (some ⟨"Torn",["view"],[.tup [.tup (rp row i (lo/b) 0)]]⟩):=by
      rw[bF];unfold ao;simp! only[eV,ki,p1,p3,hs,fM,b1,m1,m2,nv,dM,ik,iff,sl,ge,y,ec]
     rw[this,hd];exact .torn row _ _ f (.inl ⟨rfl,rfl,λw=>by rw[w]at v;cases v⟩)
    |false=>
     rw[v,Bool.false_or]at hd;rw[v,if_neg Hm]at ec;cases u:(!((up+1)%b==0))with
     |true=>
      rw[u,if_pos rfl]at hd ec
      have:aF ao 2 6 [stp nm b q r,.tup [.tup kf,.tup rf]]=.error (some ⟨"Torn",["view"],[.tup [.tup (rp row i (up/b) (b-1))]]⟩):=by
       rw[bF];unfold ao;simp! only[eV,ki,p1,p3,hs,fM,b1,m1,m2,nv,dM,ik,iff,sl,ge,y,ec]
      rw[this,hd];exact .torn row _ _ f (.inr ⟨rfl,rfl,λw=>by rw[w]at u;cases u⟩)
     |false=>
      rw[u,if_neg Hm]at hd ec;have dv:=λj=>bn (i:=j) (show(0:Int)<b by omega) (show b<10^200 by
       have:(10:Int)^200>1000000000:=by decide +kernel
       omega)
      obtain⟨g,wp⟩:∃g,aF ck 3 3 [.tup [.tup kf,.tup rf],.int i,.tup [.tup [.str q,num (lo/b) (up/b)],.tup [.str r,num 0 (b-1)]]]=.ok g:=⟨_,sG kf rf _ i (by simp;omega)⟩
      have eg:aF ao 2 6 [stp nm b q r,.tup [.tup kf,.tup rf]]=.ok g:=by
       rw[bF];unfold ao;simp! only[eV,ki,AV,A4,p1,p3,hs,fM,b1,m1,m2,nv,dM,ik,iff,sl,ge,y,ec,dv,oa,xU,wp]
      rw[eg,hd];exact .all g
theorem t9(h:Fo kf rf ps)(nm q r:Str)(b:Int)(hm:nm∉ps.map (·.1)):aF ao 2 6 [stp nm b q r,.tup [.tup kf,.tup rf]]=.error (some ⟨"NoField",[],[]⟩):=by
 have hl:=h.hl;have p1:=qB kf rf ps ‹0› h.e nm hm;rw[bF];unfold ao;simp! only[eV,p1]
end
noncomputable def Fq(a:D)(r:R (List D)):R D:=match a with
 |.lst ys=>r.bind λds=>match ds with
  |[b]=>rO (jp (.lst ys) b)
  |_=>un
 |_=>un
theorem i7(f:FX)(g:aN)(ρ:aw):jy f g ρ=(f ρ).bind λa=>Fq a (g ρ):=by
 unfold jy Fq;congr
theorem rz(ys:List D)(b:D):Fq (.lst ys) (.ok [b])=rO (jp (.lst ys) b):=nr rfl
theorem su:∀(xs:ap)(i:Nat)(q:Str),xs.Nodup->xs[i]?=some q->jH (.str q) (xs.map .str)=some i
 |[],i,q,_,h=>by cases h
 |x::xs,0,q,_,h=>by
  cases h;rw[Hq];unfold jH;rw[pyEq,BEq.rfl];rfl
 |x::xs,i+1,q,hn,h=>by
  rw[Iz]at h;rw[List.nodup_cons]at hn;have ne:(x==q)=false:=by
   have:x≠q:=λe=>hn.1 (e ▸ HE h)
   simpa using this
  rw[Hq];unfold jH;rw[pyEq,ne,su xs i q hn.2 h];rfl
theorem vM(xs:ap)(i:Nat)(q:Str)(hn:xs.Nodup)(h:xs[i]?=some q):jp (.lst (xs.map .str)) (.str q)=some (.int (i:Int)):=by
 have e:jp (.lst (xs.map .str)) (.str q)=if(pl (.str q)&&eB (xs.map .str))&&cn 8 (.str q)then(jH (.str q) (xs.map .str)).map (λ(j:Nat)=>D.int (j:Int))else none:=rfl
 have p:eB (xs.map D.str)=true:=ia _ (λ_=>rfl) xs;rw[e,p,su xs i q hn h];rfl
theorem zO(w:Str)(ws:ap):inD (.str w) (ws.map .str)=ws.contains w:=by
 have h:=qJ w ws;have e:xr (.str w) (.tup (ws.map .str))=if(pl (.str w)&&eB (ws.map .str))&&cn 8 (.str w)then some (.bl (inD (.str w) (ws.map .str)))else none:=rfl
 rw[e]at h;split at h
 ·injection h with h;injection h with h
 ·cases h
theorem Bi(w:Str)(ws:ap):xr (.str w) (.lst (ws.map .str))=some (.bl (ws.contains w)):=by
 have e:xr (.str w) (.lst (ws.map .str))=if(pl (.str w)&&eB (ws.map .str))&&cn 8 (.str w)then some (.bl (inD (.str w) (ws.map .str)))else none:=rfl
 have p:eB (ws.map D.str)=true:=ia _ (λ_=>rfl) ws;rw[e,p,zO];rfl
theorem iC(w:Str)(ws:ap):dY (.str w) (.lst (ws.map .str))=some (.bl (!ws.contains w)):=by
 have e:dY (.str w) (.lst (ws.map .str))=if(pl (.str w)&&eB (ws.map .str))&&cn 8 (.str w)then some (.bl (!inD (.str w) (ws.map .str)))else none:=rfl
 have p:eB (ws.map D.str)=true:=ia _ (λ_=>rfl) ws;rw[e,p,zO];rfl
theorem E8(a b:D):kM [a,b]=some (.lst [a,b]):=nr rfl
theorem jm(xs:List D):iF [.tup xs]=some (.lst xs):=nr rfl
section
variable{kf rf:List D}{ps:cP}
theorem kP(h:Fo kf rf ps)(G:aN)(ρ:aw)(hG:G ρ=.ok (ps.map fld)):dZ [none,none] G (gT 2 (kC [0,1])) bw (af 0) ρ=.ok (.lst ((ps.map (·.1)).map .str)):=by
 have hl:=h.hl;refine cv hG (by rw[Hr];omega) ?_;rw[Ji];exact eY fld _ ps λp _=>⟨[‹.str p.1›,‹p.2›],rfl,rfl,rfl⟩
theorem rB{nm q:Str}{i:Nat}{k:D}(hn:(ps.map (·.1)).Nodup)(hi:ps[i]?=some (nm,k)):((ps.map (·.1)).take i++(ps.map (·.1)).drop (i+1)).contains q=ps.any λp=>(p.1==q)&&oth nm p.1:=by
 have il:=cy hi;have e:(ps.map (·.1))=(ps.map (·.1)).take i++nm::(ps.map (·.1)).drop (i+1):=by
  have hl:i<(ps.map (·.1)).length:=by rw[Hr];exact il
  have:(ps.map (·.1))[i]=nm:=by
   rw[Jm];rw[Ia il]at hi;rw[Option.some.inj hi]
  rw[<-this,List.getElem_cons_drop,Jp]
 rw[Bool.eq_iff_iff];simp only[Jq,List.any_eq_true,HI,beq_iff_eq,oth,IV,beq_eq_false_iff_ne];have nd:=hn;rw[e,IK]at nd;obtain⟨_,n2,n3⟩:=nd;rw[List.nodup_cons]at n2;constructor
 ·intro h;have mem:q∈ps.map (·.1):=by
   rw[e];rcases List.mem_append.mp h with z|z
   ·exact Ha _ z
   ·exact Hk _ (G9 _ z)
  obtain⟨p,hp,rfl⟩:=List.mem_map.mp mem;refine⟨p,hp,rfl,λz=>?_⟩;rw[z]at h;rcases List.mem_append.mp h with y|y
  ·exact n3 nm y nm G8 rfl
  ·exact n2.1 y
 ·rintro⟨p,hp,rfl,ne⟩;have mem:p.1∈(ps.map (·.1)).take i++nm::(ps.map (·.1)).drop (i+1):=by rw[<-e];exact Jn hp
  rcases List.mem_append.mp mem with z|z
  ·exact Ha _ z
  ·rcases List.mem_cons.mp z with z|z
   ·exact absurd z ne
   ·exact Hk _ z
theorem AC(b:Bool):kt [.bl b]=some (.int (if b then 1 else 0)):=by cases b<;>rfl
theorem yi(h:Fo kf rf ps)(nm q r:Str)(b:Int){i:Nat}{k:D}(hi:ps[i]?=some (nm,k)){s:Str}(hs:ak k (.int 0)=some (.str s))(lo up:Int)(hk:(s==("number":Str))=true->k=num lo up):
  aF b9 4 9 [.tup [.tup kf,.tup rf],.str nm,.int b,.tup [.str q,.str r]]=.ok (.int (if(!(s==("number":Str))||!(decide (2<=b)&&decide (b<=1000000000)))=true then 1 else if tw ps nm q r=true then 2 else if decide (sz kf rf i=8)=true then 3 else if(!(lo%b==0)||!((up+1)%b==0))=true then 7 else 8)):=by
 have hl:=h.hl;have len:=h.len;have k8:=h.k8;have r8:=h.r8;have ad:=cg kf rf ‹0›;rw[h.e]at ad;have nl:=kP h (bP (af 4)) [‹.tup [.tup kf,.tup rf]›,‹.str nm›,‹.int b›,‹.tup [.str q,.str r]›,‹.lst (ps.map fld)›,none,none,none,none] (by simp! only[]);have gi:(ps.map (·.1))[i]?=some nm:=by rw[HB,hi];rfl
 have i1:=vM _ i nm h.hn gi;have c1:(ps.map (·.1)).contains nm=true:=by rw[Jq];exact HE gi
 have f1:ak (.lst (ps.map fld)) (.int (i:Int))=some (.tup [.str nm,k]):=by rw[zk,lw,HB,hi];rfl
 have p9:dG (.int 10) (.int 9)=some (.int 1000000000):=jf 10 9 (by decide) (by decide);have nb:(decide (b<2)||decide (1000000000<b))=!(decide (2<=b)&&decide (b<=1000000000)):=by
  rw[Bool.not_and,<-decide_not,<-decide_not];congr 1<;>rw[decide_eq_decide]<;>omega
 have cf:cutD ((ps.map (·.1)).map D.str) (some ((i:Int)+1)) none=((ps.map (·.1)).drop (i+1)).map D.str:=by
  rw[show(i:Int)+1=((i+1:Nat):Int)by omega,fP,I0]
 have ct:cutD ((ps.map (·.1)).map D.str) none (some (i:Int))=((ps.map (·.1)).take i).map D.str:=by rw[ji,Ja]
 have al:=ja (((ps.map (·.1)).take i).map .str) (((ps.map (·.1)).drop (i+1)).map .str) (by simp only[Hr,Hx,HH];omega);rw[<-Ik]at al;have o1:=rB (q:=q) h.hn hi;have o2:=rB (q:=r) h.hn hi;have sx:ak (.tup [.tup kf,.tup rf]) (.int (if decide ((kf.length:Int)<=(i:Int))=true then 1 else 0))=some (if decide (i<kf.length)=true then .tup kf else .tup rf):=by
  by_cases w:i<kf.length
  ·rw[decide_eq_false ‹0›,decide_eq_true w];rfl
  ·rw[decide_eq_true ‹0›,decide_eq_false w];rfl
 have sl:cT [if decide (i<kf.length)=true then .tup kf else .tup rf]=some (.int (sz kf rf i:Int)):=by
  unfold sz;by_cases w:i<kf.length
  ·rw[decide_eq_true w,if_pos rfl,if_pos w];rfl
  ·rw[decide_eq_false w,if_neg Hm,if_neg w];rfl
 have s8:((sz kf rf i:Int)==8)=decide (sz kf rf i=8):=by rw[Bool.eq_iff_iff,beq_iff_eq,decide_eq_true_iff];omega
 cases b1:(!(s==("number":Str))||!(decide (2<=b)&&decide (b<=1000000000)))with
 |true=>
  rw[qv];unfold b9;simp! only[ad,jm,nl,iC,c1,i7,rz,i1,f1,hs,p9,fM,nb,b1]
 |false=>
  have z:(s==("number":Str))=true/\2<=b/\b<=1000000000:=by
   cases w:(s==("number":Str))with
   |false=>rw[w]at b1;simp at b1
   |true=>
    rw[w]at b1;simp at b1;exact⟨rfl,by omega,by omega⟩
  obtain⟨z1,z2,z3⟩:=z;obtain rfl:=hk z1;have g:=λj=>aJ (i:=j) (show(0:Int)<b by omega);have tt:((q==r)||(((ps.map (·.1)).take i++(ps.map (·.1)).drop (i+1)).contains q||((ps.map (·.1)).take i++(ps.map (·.1)).drop (i+1)).contains r))=tw ps nm q r:=by rw[o1,o2];rfl
  rw[qv];unfold b9;cases t:tw ps nm q r with
  |true=>simp! only[ad,jm,nl,iC,c1,i7,rz,i1,f1,hs,p9,fM,nb,b1,ct,cf,al,Bi,tt,t]
  |false=>
   cases y:decide (sz kf rf i=8)with
   |true=>simp! only[ad,jm,nl,iC,c1,i7,rz,i1,f1,hs,p9,fM,nb,b1,ct,cf,al,Bi,tt,t,AC,sx,sl,s8,y]
   |false=>
    simp! only[ad,jm,nl,iC,c1,i7,rz,i1,f1,hs,p9,fM,nb,b1,ct,cf,al,Bi,tt,t,AC,sx,sl,s8,y,g];cases(!(lo%b==0)||!((up+1)%b==0))<;>rfl
theorem uO(h:Fo kf rf ps)(nm q r:Str)(b:Int)(hm:nm∉ps.map (·.1)):aF b9 4 9 [.tup [.tup kf,.tup rf],.str nm,.int b,.tup [.str q,.str r]]=.ok (.int 0):=by
 have hl:=h.hl;have len:=h.len;have ad:=cg kf rf ‹0›;rw[h.e]at ad;have nl:=kP h (bP (af 4)) [‹.tup [.tup kf,.tup rf]›,‹.str nm›,‹.int b›,‹.tup [.str q,.str r]›,‹.lst (ps.map fld)›,none,none,none,none] (by simp! only[]);have c:(ps.map (·.1)).contains nm=false:=by rw[<-Bool.not_eq_true,Jq];exact hm
 rw[qv];unfold b9;simp! only[ad,jm,nl,iC,c]
end
theorem rq(x b:Int)(h:0<b):(x-x%b)/b=x/b:=by
 have e:x-x%b=b*(x/b):=by have:=Jr x b;omega
 rw[e,Int.mul_ediv_cancel_left _ ‹0›]
section
variable{kf rf:List D}{ps:cP}
theorem yT(h:Fo kf rf ps)(nm q r:Str){b:Int}(b1:2<=b)(b2:b<=1000000000){i:Nat}{lo hi:Int}(hi':ps[i]?=some (nm,num lo hi))(lh:lo<=hi)(row:List D)(x y:Int)(f:F2 (LF 1) (ps.map (·.2)) row)
  (hxy:(x=lo/b/\y=0/\lo%b≠0)\/(x=hi/b/\y=b-1/\(hi+1)%b≠0)):aF cJ 5 10 [.tup [.tup kf,.tup rf],.int i,.int b,.tup [.str q,.str r],.tup [.tup (rp row i x y)]]=.ok (.bl true):=by
 have hl:=h.hl;have len:=h.len;have il:=cy hi';have rl:row.length=ps.length:=by rw[<-f.length,Hr]
 have ad:=cg kf rf ‹0›;rw[h.e]at ad;have f1:ak (.lst (ps.map fld)) (.int (i:Int))=some (.tup [.str nm,num lo hi]):=by rw[zk,lw,HB,hi'];rfl
 have g:=λj=>aJ (i:=j) (show(0:Int)<b by omega);have d:=λj=>bn (i:=j) (show(0:Int)<b by omega) (show b<10^200 by
  have:(10:Int)^200>1000000000:=by decide +kernel
  omega)
 have s1:=rq lo b ‹0›;have s2:=rq hi b ‹0›;have cf:cutD (ps.map fld) (some ((i:Int)+1)) none=(ps.drop (i+1)).map fld:=by
  rw[show(i:Int)+1=((i+1:Nat):Int)by omega,fP,I0]
 have ct:cutD (ps.map fld) none (some (i:Int))=(ps.take i).map fld:=by rw[ji,Ja]
 obtain⟨qs,hqs⟩:∃qs:cP,qs=ps.take i++[(q,num (lo/b) (hi/b)),(r,num 0 (b-1))]++ps.drop (i+1):=⟨_,rfl⟩
 have ql:qs.length=ps.length+1:=by rw[hqs];simp only[HF,Hx,HH,Ho,IT];omega
 have a1:=ja ((ps.take i).map fld) [.tup [.str q,num (lo/b) (hi/b)],.tup [.str r,num 0 (b-1)]] (by simp only[Hr,Hx,Ho,IT];omega);have a2:=ja ((ps.take i).map fld++[.tup [.str q,num (lo/b) (hi/b)],.tup [.str r,num 0 (b-1)]]) ((ps.drop (i+1)).map fld) (by simp only[HF,Hr,Hx,HH,Ho,IT];omega);have eq':(ps.take i).map fld++[D.tup [.str q,num (lo/b) (hi/b)],.tup [.str r,num 0 (b-1)]]++(ps.drop (i+1)).map fld=qs.map fld:=by rw[hqs,Ik,Ik];rfl
 rw[eq']at a2;have bb:(0:Int)<b:=by omega
 have q1:=Jh lo (show b≠0 by omega);have q2:=Jj lo bb;have q3:=Jh hi (show b≠0 by omega);have q4:=Jj hi bb;have q5:=Jr lo b;have q6:=Jr hi b;have q7:lo/b<=hi/b:=Int.ediv_le_ediv bb lh;have xq:lo/b<=x/\x<=hi/b/\0<=y/\y<=b-1:=by
  rcases hxy with⟨rfl,rfl,_⟩|⟨rfl,rfl,_⟩
  ·exact⟨Jo _,q7,Jo _,by omega⟩
  ·exact⟨q7,Jo _,by omega,Jo _⟩
 have ff:F2 (λk v=>aH 11 [k,v]=.ok (.bl true)) (qs.map (·.2)) (rp row i x y):=by
  have f':=f.imp (S:=λk v=>aH 11 [k,v]=.ok (.bl true)) λk v z=>zm 1 11 (by decide) z;rw[hqs];unfold rp;rw[Ik,Ik,Ja,I0];exact((f'.take i).append (.cons (gE 10 (.inl ⟨_,_,x,rfl,xq.1,xq.2.1,rfl⟩)) (.cons (gE 10 (.inl ⟨_,_,y,rfl,xq.2.2.1,xq.2.2.2,rfl⟩)) .nil))).append (f'.drop (i+1))
 have kp:∀m:Nat,aG 12 [.tup [.tup (cutD (qs.map fld) none (some (m:Int))),.tup (cutD (qs.map fld) (some (m:Int)) none)],.tup [.tup (rp row i x y)]]=.ok (.bl true):=λm=>by
  rw[ji,fP];exact mz 11 ‹0› (Jp m _) ff
 have tl:(row.take i).length=i:=by rw[Hx];omega
 have r1:ak (.tup (rp row i x y)) (.int (i:Int))=some (.int x):=by
  rw[Ai,lw];unfold rp;rw[Iq,Hy ‹0›,tl,IL];rfl
 have r2:ak (.tup (rp row i x y)) (.int ((i:Int)+1))=some (.int y):=by
  rw[show(i:Int)+1=((i+1:Nat):Int)by omega,Ai,lw];unfold rp;rw[Iq,Hy ‹0›,tl,Nat.add_sub_cancel_left];rfl
 have ml:=λj=>iL (i:=j) (j:=b) ‹0› ‹0›;have no:(decide (lo<=x*b+y)&&decide (x*b+y<=hi))=false:=by
  rcases hxy with⟨rfl,rfl,z⟩|⟨rfl,rfl,z⟩
  ·rw[decide_eq_false (p:=lo<=_),Hi];rw[Int.mul_comm];omega
  ·rw[Bool.and_comm,decide_eq_false,Hi];rw[Int.mul_comm];intro w
   have:hi%b≠b-1:=λy=>z (by rw[Int.add_emod,y,Int.emod_eq_of_lt (show 0<=(1:Int)by decide) (show(1:Int)<b by omega),show b-1+1=b by omega,Int.emod_self])
   omega
 have mm:∃m:Nat,((kf.length:Int)+(if decide ((i:Int)<(kf.length:Int))=true then 1 else 0))=(m:Int):=by
  cases decide ((i:Int)<(kf.length:Int))with
  |true=>exact⟨kf.length+1,by rw[if_pos rfl];omega⟩
  |false=>exact⟨kf.length,by rw[if_neg Hm];omega⟩
 obtain⟨m,em⟩:=mm;have t0:∀xs,bO [.lst xs]=some (.tup xs):=λ_=>rfl;rw[Ba];unfold cJ;simp! only[ad,jm,f1,g,d,s1,s2,xU,oa,ct,cf,E8,a1,a2,AC,em,kp m];refine jg (Q:=λz=>z=.ok (.bl true)) (λ_ ρ=>ρ=[none,‹.int i›,‹.int b›,none,‹.tup [.tup (rp row i x y)]›,none,‹num lo hi›,none,none,none]) _ 0 0 _ (.tup (rp row i x y)) rfl (λj d ρ k' hj _ _=>absurd hj ‹0›) rfl ?_;rintro ρ k' rfl;refine⟨[none,‹.int i›,‹.int b›,none,‹.tup [.tup (rp row i x y)]›,none,‹num lo hi›,none,none,‹.tup (rp row i x y)›],rfl,?_⟩;simp! only[r1,r2,ml,no]
end
section
variable{nm q r:Str}{b:Int}{f:D}
theorem refused{c:Str}{fs:ap}{vs:List D}(h:aF ao 2 6 [stp nm b q r,f]=.error (some ⟨c,fs,vs⟩))(hc:(["NoField","Twice","NoKind","TooMany","Torn"]:ap).contains c=true):aF bA 2 4 [stp nm b q r,f]=.ok (.exc c fs vs):=by
 have m1:=λfas ρ=>Ac (nm:=nm) (b:=b) (q:=q) (r:=r) "view_form" (aF bK 2 2) (aF ao 2 6) (af 0) fas (‹stp nm b q r›::ρ) rfl (by decide +kernel);rw[bF];unfold bA;simp! only[rd,dM,m1,h,hc,Ci]
theorem oW{g:D}(h:aF ao 2 6 [stp nm b q r,f]=.ok g):aF bA 2 4 [stp nm b q r,f]=.ok .non:=by
 have m1:=λfas ρ=>Ac (nm:=nm) (b:=b) (q:=q) (r:=r) "view_form" (aF bK 2 2) (aF ao 2 6) (af 0) fas (‹stp nm b q r›::ρ) rfl (by decide +kernel);rw[bF];unfold bA;simp! only[rd,dM,m1,h]
end
theorem qW:aF bI 1 2 [.exc "NoField" [] []]=.ok (.int 0):=by kernel_rfl
theorem xE:aF bI 1 2 [.exc "NoKind" [] []]=.ok (.int 1):=by kernel_rfl
theorem yf:aF bI 1 2 [.exc "Twice" [] []]=.ok (.int 2):=by kernel_rfl
theorem yv:aF bI 1 2 [.exc "TooMany" [] []]=.ok (.int 3):=by kernel_rfl
theorem yw(v:D):aF bI 1 2 [.exc "Torn" ["view"] [v]]=.ok (.int 7):=by kernel_rfl
theorem oJ{P:Nat->D->Prop}{ws:ap}:∀(fs:List D)(o:Nat),(∀(j:Nat)(f:D),fs[j]?=some f->∃k,f=fld (ws.getD (o+j) "",k)/\P (o+j) k)->∃ps:cP,fs=ps.map fld/\∀(j:Nat)(p:Str×D),ps[j]?=some p->p.1=ws.getD (o+j) ""/\P (o+j) p.2
 |[],_,_=>⟨[],rfl,λ_ _ h=>nomatch h⟩
 |f::fs,o,h=>by
  obtain⟨k,e,q⟩:=h 0 f rfl;obtain⟨ps,rfl,q2⟩:=oJ fs (o+1) λj f' hf=>by
   obtain⟨k',e',q'⟩:=h (j+1) f' (by rw[Iz];exact hf);rw[show o+(j+1)=o+1+j by omega]at e' q';exact⟨k',e',q'⟩
  refine⟨(ws.getD o "",k)::ps,by rw[e];rfl,λj p hp=>?_⟩;cases j with
  |zero=>cases hp;exact⟨rfl,q⟩
  |succ j=>
   rw[Iz]at hp;rw[show o+(j+1)=o+1+j by omega];exact q2 j p hp
theorem Dw{i:Nat}{fi fv:FX}{k:Ks}{ρ:aw}{xs:List D}{j:Int}{n:Nat}{v:D}(h:ρ[i]?=some (some (.own (.lst xs))))(hv:fv ρ=.ok v)(hi:fi ρ=.ok (.int j))(hn:pH xs.length j=some n):ic i fi fv k ρ=k.nx (ρ.set i (some (.own (.lst (xs.set n v))))):=by
 unfold ic;rw[h];simp only[hv,hi,o9,cK,hn]
theorem qx{ws:ap}(hw:ws.length=20):∀j:Nat,j<20->ak (.lst (ws.map .str)) (.int (j:Int))=some (.str (ws.getD j "")):=λj hj=>by
 rw[zk,lw,HB,Ia ‹0›,IY,Ia ‹0›];rfl
noncomputable def zT:Int:=10^50
theorem Ag:1000000<zT/\2*zT+1000<vO:=by decide +kernel
theorem vR(c:Int):∃y:Int,0<y/\y<=zT/\ak (.lst [.int 7,.int 60,.int zT]) (.int (c%3))=some (.int y):=by
 have:=Ag
 rcases(show c%3=0\/c%3=1\/c%3=2 by omega)with z|z|z<;>rw[z]
 ·exact⟨7,by decide,by omega,rfl⟩
 ·exact⟨60,by decide,by omega,rfl⟩
 ·exact⟨zT,by omega,by omega,rfl⟩
structure Fi(ws:ap)(m n:Nat)(ps:cP):Prop where
 len:ps.length=n
 at':∀(j:Nat)(p:Str×D),ps[j]?=some p->p.1=ws.getD j ""/\(j<m->oi p.2)/\pG 1 p.2
section
variable{ns:List Int}{ws:ap}{m r:Nat}{ps:cP}
theorem Fi.fo(hw:ws.length=20)(hn:ws.Nodup)(m1:1<=m)(m8:m<=8)(r8:r<=8)(F:Fi ws m (m+r) ps):Fo ((ps.take m).map fld) ((ps.drop m).map fld) ps:=by
 have pl:=F.len;have nm:ps.map (·.1)=ws.take (m+r):=by
  apply List.ext_getElem?;intro j;rw[HB];by_cases hj:j<m+r
  ·rw[HC hj,Ia ‹0›,Ia ‹0›]
   have:=(F.at' j ps[j] (Ia ‹0›)).1
   rw[IY,Ia ‹0›]at this;show some ps[j].1=_;rw[this];rfl
  ·rw[IW ‹0›,IW (by rw[Hx];omega)];rfl
 refine⟨?_,?_,?_,?_,?_,?_,?_⟩
 ·rw[Hr,Hx];omega
 ·rw[Hr,Hx];omega
 ·rw[Hr,HH];omega
 ·rw[<-Ik,Jp]
 ·rw[nm];exact hn.sublist (HD _ _)
 ·intro f hf;obtain⟨p,hp,rfl⟩:=List.mem_map.mp hf;obtain⟨j,hj,ej⟩:=Ih hp;rw[Hx]at hj;rw[List.getElem_take]at ej;exact⟨p.1,p.2,rfl,(F.at' j p (by rw[<-ej];exact Ia _)).2.1 ‹0›⟩
 ·intro f hf;obtain⟨p,hp,rfl⟩:=List.mem_map.mp hf;obtain⟨j,hj,ej⟩:=Ih (IZ hp);exact⟨p.1,p.2,rfl,(F.at' j p (by rw[<-ej];exact Ia _)).2.2⟩
theorem Fi.put(F:Fi ws m (m+r) ps){i:Nat}(hi:i<m+r){k:D}(hk:oi k):Fi ws m (m+r) (ps.set i (ws.getD i "",k)):=by
 have pl:=F.len;refine⟨by rw[HJ];exact pl,λj p hp=>?_⟩;by_cases hj:j=i
 ·subst hj;rw[Hf ‹0›]at hp;cases hp;exact⟨rfl,λ_=>hk,hk.kin⟩
 ·rw[Hg (Ne.symm hj)]at hp;exact F.at' j p hp
noncomputable abbrev E(ns:List Int)(ws:ap)(m r i:Nat)(fs:List D)(a b c:Option S):aw:=[‹.lst (ns.map .int)›,‹.lst (ws.map .str)›,none,‹.int m›,‹.int r›,‹.int i›,some (.own (.lst fs)),a,b,c]
noncomputable def Ce:bJ:=(oV 6 (aY (a9 (aa (a9 (aa (fL bO (aa (aT (af 6) aP (aV (af 3))) ah)) (aa (fL bO (aa (aT (af 6) (aV (af 3)) aP) ah)) ah))) (aa (af 5) ah)))))
theorem CL(ps:cP)(i:Nat)(b c:Option S):Ce K0 (E ns ws m r i (ps.map fld) none b c)=.ok (.tup [.tup [.tup ((ps.take m).map fld),.tup ((ps.drop m).map fld)],.int i]):=by
 unfold Ce;simp! only[E,ji,fP,oa,Ja,I0]
noncomputable def C7:bJ:=(au (cU (fB (f2 xu (f2 aE (f2 bc (fR (aF aj 2 2) (aa (af 0) (aa (fC (.int 3)) ah))) (fC (.int 16))) (fC (.int 5))) (fC (.int 0)))) (ic 6 (af 5) (a9 (aa (f2 ak (af 1) (af 5)) (aa (a9 (aa (fC (.str "number")) (aa (af 8) (aa (af 9) ah)))) ah)))) aW) Ce)
noncomputable def DR:bJ:=(au (aC 8 (f2 cI (f2 aE (fR (aF aO 2 3) (aa (fR (aF aj 2 2) (aa (af 0) (aa (fC (.int 4)) ah))) (aa (fC (.int 1)) ah))) (f2 ak (eI (aa (fC (.int 7)) (aa (fC (.int 60)) (aa (f2 dG (fC (.int 10)) (fC (.int 50))) ah)))) (f2 aE (fR (aF aj 2 2) (aa (af 0) (aa (fC (.int 4)) ah))) (fC (.int 3))))) (fC (.int 30)))) (au (aC 9 (f2 aI (af 8) (f2 aE (fR (aF aO 2 3) (aa (fR (aF aj 2 2) (aa (af 0) (aa (fC (.int 4)) ah))) (aa (fC (.int 2)) ah))) (f2 ak (eI (aa (fC (.int 7)) (aa (fC (.int 60)) (aa (f2 dG (fC (.int 10)) (fC (.int 50))) ah)))) (f2 aE (f2 bc (fR (aF aj 2 2) (aa (af 0) (aa (fC (.int 4)) ah))) (fC (.int 3))) (fC (.int 3))))))) (au (cU (fB (f2 xu (f2 aE (f2 bc (fR (aF aj 2 2) (aa (af 0) (aa (fC (.int 4)) ah))) (fC (.int 9))) (fC (.int 3))) (fC (.int 0)))) (au (aC 8 (f2 cI (af 8) (f2 aE (af 8) (fC (.int 12))))) (aC 9 (f2 aI (f2 cI (af 9) (f2 aE (af 9) (fC (.int 12)))) (fC (.int 11))))) aW) (au (cU (fB (f2 xu (f2 aE (f2 bc (fR (aF aj 2 2) (aa (af 0) (aa (fC (.int 3)) ah))) (fC (.int 16))) (fC (.int 5))) (fC (.int 0)))) (ic 6 (af 5) (a9 (aa (f2 ak (af 1) (af 5)) (aa (a9 (aa (fC (.str "number")) (aa (af 8) (aa (af 9) ah)))) ah)))) aW) (oV 6 (aY (a9 (aa (a9 (aa (fL bO (aa (aT (af 6) aP (aV (af 3))) ah)) (aa (fL bO (aa (aT (af 6) (aV (af 3)) aP) ah)) ah))) (aa (af 5) ah)))))))))
theorem Cg(hw:ws.length=20)(m1:1<=m)(mr:m+r<=16){c3 c4:Int}(e3:aF aj 2 2 [.lst (ns.map .int),.int 3]=.ok (.int c3))(e4:aF aj 2 2 [.lst (ns.map .int),.int 4]=.ok (.int c4))(F:Fi ws m (m+r) ps){i:Nat}(hi:i<m+r):
  ∃qs,Fi ws m (m+r) qs/\DR K0 (E ns ws m r i (ps.map fld) none none none)=.ok (.tup [.tup [.tup ((qs.take m).map fld),.tup ((qs.drop m).map fld)],.int i]):=by
 have p:=Ag;have pl:=F.len;obtain⟨x1,hx1,ex1⟩:=gr c4 1 (by decide) (by decide);obtain⟨x2,hx2,ex2⟩:=gr c4 2 (by decide) (by decide);obtain⟨y1,hy1,hz1,ey1⟩:=vR c4;obtain⟨y2,hy2,hz2,ey2⟩:=vR (c4/3);have g3:=λi=>aJ (i:=i) (show(0:Int)<3 by decide);have g5:=λi=>aJ (i:=i) (show(0:Int)<5 by decide);have g12:=λi=>aJ (i:=i) (show(0:Int)<12 by decide);have d3:=λi=>bn (i:=i) (show(0:Int)<3 by decide) (show(3:Int)<10^200 by decide);have d9:=λi=>bn (i:=i) (show(0:Int)<9 by decide) (show(9:Int)<10^200 by decide);have d16:=λi=>bn (i:=i) (show(0:Int)<16 by decide) (show(16:Int)<10^200 by decide);have gy1:=λi=>aJ (i:=i) hy1;have gy2:=λi=>aJ (i:=i) hy2;have p50:dG (.int 10) (.int 50)=some (.int zT):=jf 10 50 (by decide) (by decide);have l3:kM [.int 7,.int 60,.int zT]=some (.lst [.int 7,.int 60,.int zT]):=rfl;have a1:=Jh x1 (show y1≠0 by omega);have a2:=Jj x1 hy1;have a3:=Jh x2 (show y2≠0 by omega);have a4:=Jj x2 hy2;generalize hlo:x1%y1-30=lo;generalize hup:lo+x2%y2=up;have nw:=qx hw i ‹0›;have ixi:pH (ps.map fld).length (i:Int)=some i:=by
  unfold pH;rw[if_pos ‹0›,Hr,if_pos ‹0›];rfl
 have fin:∀(lo' up':Int),lo'<=up'->-vO<lo'->up'<vO->∃qs,Fi ws m (m+r) qs/\C7 K0 (E ns ws m r i (ps.map fld) none (‹.int lo'›) (‹.int up'›))=.ok (.tup [.tup [.tup ((qs.take m).map fld),.tup ((qs.drop m).map fld)],.int i]):=λlo' up' w1 w2 w3=>by
  have t3:=λps=>CL (ns:=ns) (ws:=ws) (m:=m) (r:=r) ps i (‹.int lo'›) (‹.int up'›);unfold C7;cases z:decide ((0:Int)<c3/16%5)with
  |true=>
   refine⟨_,F.put hi (.inl ⟨lo',up',w1,w2,w3,rfl⟩),?_⟩;have tt:=t3 (ps.set i (ws.getD i "",num lo' up'));rw[List.map_set]at tt;generalize Ce=TT at tt;have pu:=Dw (i:=6) (fi:=af 5) (fv:=a9 (aa (f2 ak (af 1) (af 5)) (aa (a9 (aa (fC (.str "number")) (aa (af 8) (aa (af 9) ah)))) ah))) (k:={K0 with nx:=TT K0}) (ρ:=E ns ws m r i (ps.map fld) none (‹.int lo'›) (‹.int up'›)) (xs:=ps.map fld) (j:=i) (n:=i) (v:=fld (ws.getD i "",num lo' up')) rfl (by simp! only[E,nw,oa,xU]) rfl ixi;simp only[K0,E,Je,Jd]at tt pu;simp! only[E,e3,d16,g5,z,pu,tt]
  |false=>
   refine⟨ps,F,?_⟩;have tt:=t3 ps;generalize Ce=TT at tt;simp only[K0,E]at tt;simp! only[E,e3,d16,g5,z,tt]
 have body:DR=(au (aC 8 (f2 cI (f2 aE (fR (aF aO 2 3) (aa (fR (aF aj 2 2) (aa (af 0) (aa (fC (.int 4)) ah))) (aa (fC (.int 1)) ah))) (f2 ak (eI (aa (fC (.int 7)) (aa (fC (.int 60)) (aa (f2 dG (fC (.int 10)) (fC (.int 50))) ah)))) (f2 aE (fR (aF aj 2 2) (aa (af 0) (aa (fC (.int 4)) ah))) (fC (.int 3))))) (fC (.int 30)))) (au (aC 9 (f2 aI (af 8) (f2 aE (fR (aF aO 2 3) (aa (fR (aF aj 2 2) (aa (af 0) (aa (fC (.int 4)) ah))) (aa (fC (.int 2)) ah))) (f2 ak (eI (aa (fC (.int 7)) (aa (fC (.int 60)) (aa (f2 dG (fC (.int 10)) (fC (.int 50))) ah)))) (f2 aE (f2 bc (fR (aF aj 2 2) (aa (af 0) (aa (fC (.int 4)) ah))) (fC (.int 3))) (fC (.int 3))))))) (au (cU (fB (f2 xu (f2 aE (f2 bc (fR (aF aj 2 2) (aa (af 0) (aa (fC (.int 4)) ah))) (fC (.int 9))) (fC (.int 3))) (fC (.int 0)))) (au (aC 8 (f2 cI (af 8) (f2 aE (af 8) (fC (.int 12))))) (aC 9 (f2 aI (f2 cI (af 9) (f2 aE (af 9) (fC (.int 12)))) (fC (.int 11))))) aW) C7))):=rfl;rw[body];cases z:decide ((0:Int)<c4/9%3)with
 |true=>
  obtain⟨qs,fi,ef⟩:=fin (lo-lo%12) (up-up%12+11) ‹0› ‹0› ‹0›;refine⟨qs,fi,?_⟩;generalize C7=TT at ef ⊢;simp only[K0,E]at ef;simp! only[E,e4,ex1,ex2,p50,l3,g3,d3,d9,g12,ey1,ey2,gy1,gy2,hlo,hup,z,ef]
 |false=>
  obtain⟨qs,fi,ef⟩:=fin lo up ‹0› ‹0› ‹0›;refine⟨qs,fi,?_⟩;generalize C7=TT at ef ⊢;simp only[K0,E]at ef;simp! only[E,e4,ex1,ex2,p50,l3,g3,d3,d9,ey1,ey2,gy1,gy2,hlo,hup,z,ef]
end
theorem yc(ns:List Int)(ws:ap)(hw:ws.length=20)(hn:ws.Nodup):∃(kf rf:List D)(ps:cP)(i:Nat),Fo kf rf ps/\i<ps.length/\ps.length<=16/\(∀(j:Nat)(p:Str×D),ps[j]?=some p->p.1=ws.getD j "")/\aF cO 2 10 [.lst (ns.map .int),.lst (ws.map .str)]=.ok (.tup [.tup [.tup kf,.tup rf],.int i]):=by
 obtain⟨c1,e1⟩:=TD.DC ns 1 (by decide);obtain⟨c2,e2⟩:=TD.DC ns 2 (by decide);obtain⟨c3,e3⟩:=TD.DC ns 3 (by decide);obtain⟨c4,e4⟩:=TD.DC ns 4 (by decide);have g3:=λi=>aJ (i:=i) (show(0:Int)<3 by decide);have g4:=λi=>aJ (i:=i) (show(0:Int)<4 by decide);have g5:=λi=>aJ (i:=i) (show(0:Int)<5 by decide);have g8:=λi=>aJ (i:=i) (show(0:Int)<8 by decide);have g9:=λi=>aJ (i:=i) (show(0:Int)<9 by decide);have d3:=λi=>bn (i:=i) (show(0:Int)<3 by decide) (show(3:Int)<10^200 by decide);have d12:=λi=>bn (i:=i) (show(0:Int)<12 by decide) (show(12:Int)<10^200 by decide);have d60:=λi=>bn (i:=i) (show(0:Int)<60 by decide) (show(60:Int)<10^200 by decide);obtain⟨T,hT⟩:∃T:bJ,T=(au (ll (bh (aa (f2 aI (af 3) (af 4)) ah)) (gN 7) (au (zF 6 oC (aa (a9 (aa (f2 ak (af 1) (af 7)) (aa (fR (aF bi 2 4) (aa (fR (aF aO 2 3) (aa (fR (aF aj 2 2) (aa (af 0) (aa (fC (.int 2)) ah))) (aa (af 7) ah))) (aa (f2 Bu (af 7) (af 3)) ah))) ah))) ah)) (dR [7] aW))) DR):=⟨_,rfl⟩
 have body:cO=au (aC 2 (fR (aF aj 2 2) (aa (af 0) (aa (fC (.int 1)) ah)))) (au (aC 3 (f2 aI (fC (.int 1)) (f2 aE (af 2) (fC (.int 3))))) (au (aC 4 (f2 aE (f2 bc (af 2) (fC (.int 3))) (fC (.int 4)))) (au (cU (fB (f2 et (f2 aE (f2 bc (af 2) (fC (.int 12))) (fC (.int 5))) (fC (.int 1)))) (au (aC 3 (fC (.int 8))) (aC 4 (f2 aE (f2 bc (af 2) (fC (.int 60))) (fC (.int 9))))) aW) (au (cU (fB (f2 et (f2 aE (f2 bc (af 2) (fC (.int 12))) (fC (.int 5))) (fC (.int 2)))) (au (aC 3 (f2 aI (fC (.int 1)) (f2 aE (f2 bc (af 2) (fC (.int 60))) (fC (.int 8))))) (aC 4 (fC (.int 8)))) aW) (au (aC 5 (f2 aE (fR (aF aj 2 2) (aa (af 0) (aa (fC (.int 3)) ah))) (f2 aI (af 3) (af 4)))) (au (la 6 (eI ah)) (dR [2] T))))))):=by rw[hT];rfl
 have key:∀m r i:Nat,1<=m->m<=8->r<=8->i<m+r->∃(kf rf:List D)(ps:cP),Fo kf rf ps/\i<ps.length/\ps.length<=16/\(∀(j:Nat)(p:Str×D),ps[j]?=some p->p.1=ws.getD j "")/\T K0 (E ns ws m r i [] none none none)=.ok (.tup [.tup [.tup kf,.tup rf],.int i]):=by
  intro m r i m1 m8 r8 hi;have rn:dB [.int ((m:Int)+(r:Int))]=some (bG 0 (m+r)):=eE (m+r) ‹0›;have nat:=qx hw;have t2:=λps (F:Fi ws m (m+r) ps)=>Cg hw m1 ‹0› e3 e4 F hi;rw[hT,dj,dS];generalize DR=TT at t2;simp! only[E,rn];refine jJ (Q:=λz=>∃(kf rf:List D)(ps:cP),Fo kf rf ps/\i<ps.length/\ps.length<=16/\(∀(j:Nat)(p:Str×D),ps[j]?=some p->p.1=ws.getD j "")/\z=.ok (.tup [.tup [.tup kf,.tup rf],.int i]))
   (λj ρ=>∃fs:List D,fs.length=j/\(∀(j:Nat)(f:D),fs[j]?=some f->∃k,f=fld (ws.getD (0+j) "",k)/\(0+j<m->oi k)/\pG 1 k)/\ρ=E ns ws m r i fs none none none) ?_ ?_ ?_
  ·rintro j d ρ k' hd ⟨fs,u1,u2,rfl⟩;have hj:=cy hd;rw[bE]at hj;have hdi:d=.int (j:Int):=by
    rw[gz,HB,Io hj]at hd;cases hd;simp
   subst hdi;obtain⟨z,hz,ez⟩:=gr c2 (j:Int) ‹0› ‹0›;obtain⟨k,k1,k2,ek⟩:=x8 z (decide ((m:Int)<=(j:Int)));refine⟨_,_,rfl,⟨fs++[fld (ws.getD j "",k)],by simp;omega,?_,rfl⟩,?_⟩
   ·intro j' f hf;rcases IX j' fs.length with q|q
    ·rw[HA q]at hf;exact u2 j' f hf
    ·rw[Hy q]at hf
     have:j'=j:=by
      have:=cy hf
      simp at this;omega
     subst this;rw[show j'-fs.length=0 by omega]at hf;cases hf;exact⟨k,by rw[IG],λhj'=>k1 (by simp;omega),k2⟩
   ·rw[dj,vE _ _ _ _ _ (xs:=fs) rfl];simp! only[e2,ez,ek,nat j ‹0›,oa,wK (xs:=fs) ‹0›]
  ·exact⟨[],rfl,(λj f h=>by cases h),rfl⟩
  ·rintro ρ' ⟨fs,u1,u2,rfl⟩;rw[bE]at u1;obtain⟨ps,rfl,q⟩:=oJ (P:=λj k=>(j<m->oi k)/\pG 1 k) (ws:=ws) fs 0 u2;rw[Hr]at u1;obtain⟨qs,F,e⟩:=t2 ps ⟨u1,λj p hp=>by have:=q j p hp;rwa [IG]at this⟩;exact⟨_,_,qs,F.fo hw hn m1 m8 r8,by rw[F.len];exact hi,by rw[F.len];omega,λj p hp=>(F.at' j p hp).1,e⟩
 rw[bF,body];have fin:∀m r:Int,1<=m->m<=8->0<=r->r<=8->∃(kf rf:List D)(ps:cP)(i:Nat),c3%(m+r)=(i:Int)/\Fo kf rf ps/\i<ps.length/\ps.length<=16/\(∀(j:Nat)(p:Str×D),ps[j]?=some p->p.1=ws.getD j "")/\T K0 [‹.lst (ns.map .int)›,‹.lst (ws.map .str)›,none,‹.int m›,‹.int r›,‹.int (c3%(m+r))›,some (.own (.lst [])),none,none,none]=.ok (.tup [.tup [.tup kf,.tup rf],.int (c3%(m+r))]):=λm r h1 h2 h3 h4=>by
  obtain⟨m',rfl⟩:=Js (show 0<=m by omega);obtain⟨r',rfl⟩:=Js h3;have q1:=Jh c3 (show(m':Int)+(r':Int)≠0 by omega);have q2:=Jj c3 (show(0:Int)<(m':Int)+(r':Int)by omega);obtain⟨i,hi⟩:=Js q1;obtain⟨kf,rf,ps,a1,a2,a3,a4,a5⟩:=key m' r' i ‹0› ‹0› ‹0› ‹0›;exact⟨kf,rf,ps,i,hi,a1,a2,a3,a4,by rw[hi];exact a5⟩
 clear key hT body;by_cases h1:c1/12%5=1
 ·have x1:(c1/12%5==1)=true:=by simp[h1]
  have x2:(c1/12%5==2)=false:=by simp[h1]
  obtain⟨kf,rf,ps,i,ei,a1,a2,a3,a4,ef⟩:=fin 8 (c1/60%9) (by decide) (by decide) ‹0› ‹0›;have md:=λz=>aJ (i:=z) (show(0:Int)<8+c1/60%9 by omega);refine⟨kf,rf,ps,i,a1,a2,a3,a4,?_⟩;rw[<-ei];simp only[K0]at ef;simp! only[e1,g3,d3,g4,d12,g5,x1,x2,d60,g9,e3,md,Dy,ef]
 ·have x1:(c1/12%5==1)=false:=by simp[h1]
  by_cases h2:c1/12%5=2
  ·have x2:(c1/12%5==2)=true:=(by simp[h2]);obtain⟨kf,rf,ps,i,ei,a1,a2,a3,a4,ef⟩:=fin (1+c1/60%8) 8 ‹0› ‹0› (by decide) (by decide);have md:=λz=>aJ (i:=z) (show(0:Int)<1+c1/60%8+8 by omega);refine⟨kf,rf,ps,i,a1,a2,a3,a4,?_⟩;rw[<-ei];simp only[K0]at ef;simp! only[e1,g3,d3,g4,d12,g5,x1,x2,d60,g8,e3,md,Dy,ef]
  ·have x2:(c1/12%5==2)=false:=(by simp[h2]);obtain⟨kf,rf,ps,i,ei,a1,a2,a3,a4,ef⟩:=fin (1+c1%3) (c1/3%4) ‹0› ‹0› ‹0› ‹0›;have md:=λz=>aJ (i:=z) (show(0:Int)<1+c1%3+c1/3%4 by omega);refine⟨kf,rf,ps,i,a1,a2,a3,a4,?_⟩;rw[<-ei];simp only[K0]at ef;simp! only[e1,g3,d3,g4,d12,g5,x1,x2,e3,md,Dy,ef]
noncomputable def lD:bJ:=(au (aC 9 (fR (aF bA 2 4) (aa (fNew "Part" ["name","by","quotient","rest"] (aa (af 7) (aa (af 8) (aa (f2 ak (af 6) (fC (.int 0))) (aa (f2 ak (af 6) (fC (.int 1))) ah))))) (aa (af 2) ah)))) (au (aC 10 (fR (aF b9 4 9) (aa (af 2) (aa (af 7) (aa (af 8) (aa (af 6) ah)))))) (au (cU (fB (f2 et (af 10) (fC (.int 8)))) (aY (oY (af 9))) aW) (au (cU (fB (f2 j0 (fR (aF bI 1 2) (aa (af 9) ah)) (af 10))) (aY (fC (.bl false))) aW) (aY (qH (f2 eW (af 10) (fC (.int 7))) (fR (aF cJ 5 10) (aa (af 2) (aa (af 3) (aa (af 8) (aa (af 6) (aa (f1 (lG "view" ["Torn"]) (af 9)) ah))))))))))))
theorem tS(v:D):lG "view" ["Torn"] (.exc "Torn" ["view"] [v])=some v:=by kernel_rfl
section
variable{kf rf:List D}{ps:cP}
theorem AJ(fas:aN)(ρ:aw):fNew "Part" ["name","by","quotient","rest"] fas ρ=(fas ρ).bind λas=>if as.length=4 then .ok (.obj "Part" ["name","by","quotient","rest"] as)else un:=rfl
theorem w8(h:Fo kf rf ps)(q r nm:Str)(b:Int){i:Nat}{k:D}(hi:ps[i]?=some (nm,k))(x0 x1 x4 x5:Option S):lD K0 [x0,x1,‹.tup [.tup kf,.tup rf]›,‹.int i›,x4,x5,‹.tup [.str q,.str r]›,‹.str nm›,‹.int b›,none,none]=.ok (.bl true):=by
 obtain⟨s,hs,hk⟩:=CU (h.kin (HE hi));obtain⟨lo,up,hk2,lu⟩:∃lo up:Int,((s==("number":Str))=true->k=num lo up)/\((s==("number":Str))=true->lo<=up):=by
  cases w:(s==("number":Str))with
  |true=>obtain⟨lo,up,a1,_,_,a4⟩:=hk w;exact⟨lo,up,λ_=>a4,λ_=>a1⟩
  |false=>exact⟨0,0,(λz=>nomatch z),(λz=>nomatch z)⟩
 have ed:=yi h nm q r b hi hs lo up hk2;obtain⟨d,hd⟩:∃d:Int,d=(if(!(s==("number":Str))||!(decide (2<=b)&&decide (b<=1000000000)))=true then 1 else if tw ps nm q r=true then 2 else if decide (sz kf rf i=8)=true then 3 else if(!(lo%b==0)||!((up+1)%b==0))=true then 7 else 8):=⟨_,rfl⟩
 have ho:=vm h nm q r b hi hs lo up hk2 d hd;have nk:d=7->(s==("number":Str))=true/\2<=b/\b<=1000000000:=λe=>by
  cases b1:(!(s==("number":Str))||!(decide (2<=b)&&decide (b<=1000000000)))with
  |true=>rw[b1,if_pos rfl]at hd;omega
  |false=>
   cases w:(s==("number":Str))with
   |false=>rw[w]at b1;simp at b1
   |true=>
    rw[w]at b1;simp at b1;exact⟨rfl,by omega,by omega⟩
 rw[<-hd]at ed;clear hd;have n0:isNon .non=true:=rfl;generalize hv:aF ao 2 6 [stp nm b q r,.tup [.tup kf,.tup rf]]=v at ho;unfold lD;cases ho with
 |field=>
  have e1:=refused hv (by decide +kernel);simp! only[ed,AJ,e1,qW,(show((0:Int)==8)=false by decide),BEq.rfl,(show decide ((0:Int)<7)=true by decide)]
 |kind=>
  have e1:=refused hv (by decide +kernel);simp! only[ed,AJ,e1,xE,(show((1:Int)==8)=false by decide),BEq.rfl,(show decide ((1:Int)<7)=true by decide)]
 |twice=>
  have e1:=refused hv (by decide +kernel);simp! only[ed,AJ,e1,yf,(show((2:Int)==8)=false by decide),BEq.rfl,(show decide ((2:Int)<7)=true by decide)]
 |many=>
  have e1:=refused hv (by decide +kernel);simp! only[ed,AJ,e1,yv,(show((3:Int)==8)=false by decide),BEq.rfl,(show decide ((3:Int)<7)=true by decide)]
 |torn row x y f hxy=>
  have e1:=refused hv (by decide +kernel);obtain⟨w1,w2,w3⟩:=nk rfl;obtain rfl:=hk2 w1;have tk:=yT h nm q r w2 w3 hi (lu w1) row x y f hxy;simp! only[ed,AJ,e1,yw,(show((7:Int)==8)=false by decide),BEq.rfl,(show decide ((7:Int)<7)=false by decide),tS,tk]
 |all g=>
  have e1:=oW hv;simp! only[ed,AJ,e1,BEq.rfl,n0]
theorem sY(h:Fo kf rf ps)(q r nm:Str)(b:Int)(i:Nat)(hm:nm∉ps.map (·.1))(x0 x1 x4 x5:Option S):lD K0 [x0,x1,‹.tup [.tup kf,.tup rf]›,‹.int i›,x4,x5,‹.tup [.str q,.str r]›,‹.str nm›,‹.int b›,none,none]=.ok (.bl true):=by
 have e1:=refused (t9 h nm q r b hm) (by decide +kernel);have ed:=uO h nm q r b hm;unfold lD;simp! only[ed,AJ,e1,qW,(show((0:Int)==8)=false by decide),BEq.rfl,(show decide ((0:Int)<7)=true by decide)]
end
noncomputable def nB:Int:=10^59
theorem wU:0<2*nB:=by decide +kernel
theorem CD:dG (.int 10) (.int 59)=some (.int nB):=jf 10 59 (by decide) (by decide)
theorem Dd(c:Int):∃b:Int,aF dI 1 1 [.int c]=.ok (.int b):=by
 have g3:=λi=>aJ (i:=i) (show(0:Int)<3 by decide);have g4:=λi=>aJ (i:=i) (show(0:Int)<4 by decide);have g10:=λi=>aJ (i:=i) (show(0:Int)<10 by decide);have p9:dG (.int 10) (.int 9)=some (.int 1000000000):=jf 10 9 (by decide) (by decide);have gp:=λi=>aJ (i:=i) wU;have d4:=λi=>bn (i:=i) (show(0:Int)<4 by decide) (show(4:Int)<10^200 by decide);have m2:=λj=>gI (i:=2) (j:=j) (by decide) (by decide);have l10:kM [.int 2,.int 3,.int 4,.int 6,.int 12,.int 5,.int 8,.int 0,.int 1,.int (-1)]=some (.lst [.int 2,.int 3,.int 4,.int 6,.int 12,.int 5,.int 8,.int 0,.int 1,.int (-1)]):=rfl;obtain⟨y,ey⟩:∃y:Int,ak (.lst [.int 2,.int 3,.int 4,.int 6,.int 12,.int 5,.int 8,.int 0,.int 1,.int (-1)]) (.int (c/4%10))=some (.int y):=by
  rcases(show c/4%10=0\/c/4%10=1\/c/4%10=2\/c/4%10=3\/c/4%10=4\/c/4%10=5\/c/4%10=6\/c/4%10=7\/c/4%10=8\/c/4%10=9 by omega)with z|z|z|z|z|z|z|z|z|z<;>rw[z]<;>exact⟨_,rfl⟩
 rw[eQ];unfold dI;cases h:(c%4==1)with
 |true=>exact⟨_,by simp! only[g4,h,p9,d4,g3];rfl⟩
 |false=>
  cases h':(c%4==2)with
  |true=>exact⟨_,by simp! only[g4,h,h',d4,CD,m2,gp];rfl⟩
  |false=>exact⟨y,by simp! only[g4,h,h',d4,g10,l10,ey]⟩
theorem gC(f:FX)(g:GF)(k:Ks)(ρ:aw):v8 f g k ρ=jF (f ρ) k ρ λd=>(rO (g d ρ)).bind k.nx:=nr rfl
theorem so(tn:ap)(hp:0<tn.length)(c:Int):∃x:Str,ak (.lst (tn.map .str)) (.int (c%((tn.map D.str).length:Int)))=some (.str x):=by
 rw[Hr];have b1:=Jh c (show(tn.length:Int)≠0 by omega);have b2:=Jj c (show(0:Int)<(tn.length:Int)by omega);obtain⟨u,hu⟩:=Js b1;rw[hu,zk,lw,HB,Ia ‹0›];exact⟨_,rfl⟩
theorem math(ns:List Int)(hl:ns.length<=63):aF jA 1 11 [.lst (ns.map .int)]=.ok (.bl true):=by
 obtain⟨c0,e0⟩:=TD.DC ns 0 (by decide);obtain⟨c5,e5⟩:=TD.DC ns 5 (by decide);obtain⟨c6,e6⟩:=TD.DC ns 6 (by decide);obtain⟨ws,w1,_,wn,ew⟩:=TD.uL c0 20 (by decide);have wn:=wn (by decide);have ew':aF bH 2 10 [.int c0,.int 20]=.ok (.lst (ws.map .str)):=ew;obtain⟨b,eb⟩:=Dd c5;obtain⟨kf,rf,ps,i,F,il,pl16,nmj,ef⟩:=yc ns ws w1 wn;have g3:=λi=>aJ (i:=i) (show(0:Int)<3 by decide);have g6:=λi=>aJ (i:=i) (show(0:Int)<6 by decide);have d3:=λi=>bn (i:=i) (show(0:Int)<3 by decide) (show(3:Int)<10^200 by decide);have d54:=λi=>bn (i:=i) (show(0:Int)<54 by decide) (show(54:Int)<10^200 by decide);have d972:=λi=>bn (i:=i) (show(0:Int)<972 by decide) (show(972:Int)<10^200 by decide);have nat:=qx w1;have n17:ak (.lst (ws.map .str)) (.int 17)=some (.str (ws.getD 17 "")):=nat 17 ‹0›;have n18:ak (.lst (ws.map .str)) (.int 18)=some (.str (ws.getD 18 "")):=nat 18 ‹0›;have n19:ak (.lst (ws.map .str)) (.int 19)=some (.str (ws.getD 19 "")):=nat 19 ‹0›;have ni:=nat i ‹0›;have len:=F.len;have ad:=cg kf rf ‹0›;rw[F.e]at ad;have nl:=kP F (bP (f2 aI (f2 ak (af 2) (fC (.int 0))) (f2 ak (af 2) (fC (.int 1))))) [‹.lst (ns.map .int)›,‹.lst (ws.map .str)›,‹.tup [.tup kf,.tup rf]›,‹.int i›,‹.int c6›,none,none,none,none,none,none] (by simp! only[ad]);obtain⟨tn,htn⟩:∃tn:ap,tn=ps.map (·.1)++cutD ws (some 18) (some 20):=⟨_,rfl⟩
 have al:=ja ((ps.map (·.1)).map .str) ((cutD ws (some 18) (some 20)).map .str) (by
  have:=f7 ws (some 18) (some 20)
  rw[Hr,Hr,Hr];omega)
 rw[<-Ik,<-htn]at al;have tp:0<tn.length:=by rw[htn,HF,Hr];omega
 have gt:=λz=>aJ (i:=z) (show(0:Int)<((tn.map D.str).length:Int)by rw[Hr];omega);obtain⟨t1,et1⟩:=so tn tp (c6/3);obtain⟨t2,et2⟩:=so tn tp (c6/54);have cm:=rL D.str ws (some 18) (some 20);have hit:ps[i]?=some (ws.getD i "",ps[i].2):=by
  rw[Ia il]
  have:=nmj i ps[i] (Ia il)
  rw[<-this]
 have miss:ws.getD 17 ""∉ps.map (·.1):=λz=>by
  obtain⟨p,hp,e⟩:=List.mem_map.mp z;obtain⟨j,hj,ej⟩:=Ih hp
  have:=nmj j p (by rw[Ia hj,ej])
  rw[e]at this;rw[IY,IY,Ia ‹0›,Ia ‹0›]at this
  have:=(Hc wn).mp (show ws[17]=ws[j]from this)
  omega
 have th:=λq r x0 x1 x4 x5=>w8 F q r (ws.getD i "") b hit x0 x1 x4 x5;have tm:=λq r x0 x1 x4 x5=>sY F q r (ws.getD 17 "") b i miss x0 x1 x4 x5;have un:gT 2 (kC [2,3]) (.tup [.tup [.tup kf,.tup rf],.int (i:Int)]) [‹.lst (ns.map .int)›,‹.lst (ws.map .str)›,none,none,none,none,none,none,none,none,none]=some [‹.lst (ns.map .int)›,‹.lst (ws.map .str)›,‹.tup [.tup kf,.tup rf]›,‹.int (i:Int)›,none,none,none,none,none,none,none]:=rfl;have body:jA=au (aC 1 (fR (aF bH 2 10) (aa (fR (aF aj 2 2) (aa (af 0) (aa (fC (.int 0)) ah))) (aa (fC (.int 20)) ah)))) (au (v8 (fR (aF cO 2 10) (aa (af 0) (aa (af 1) ah))) (gT 2 (kC [2,3]))) (au (aC 4 (fR (aF aj 2 2) (aa (af 0) (aa (fC (.int 6)) ah)))) (au (aC 5 (f2 aI (dZ [none,none] (bP (f2 aI (f2 ak (af 2) (fC (.int 0))) (f2 ak (af 2) (fC (.int 1))))) (gT 2 (kC [0,1])) bw (af 0)) (aT (af 1) (aV (fC (.int 18))) (aV (fC (.int 20)))))) (au (aC 6 (a9 (aa (f2 ak (af 1) (fC (.int 18))) (aa (f2 ak (af 1) (fC (.int 19))) ah)))) (au (cU (fB (f2 et (f2 aE (af 4) (fC (.int 3))) (fC (.int 1)))) (aC 6 (a9 (aa (f2 ak (af 5) (f2 aE (f2 bc (af 4) (fC (.int 3))) (fL cT (aa (af 5) ah)))) (aa (f2 ak (af 1) (fC (.int 19))) ah)))) aW) (au (cU (fB (f2 et (f2 aE (af 4) (fC (.int 3))) (fC (.int 2)))) (aC 6 (a9 (aa (f2 ak (af 5) (f2 aE (f2 bc (af 4) (fC (.int 3))) (fL cT (aa (af 5) ah)))) (aa (f2 ak (af 5) (f2 aE (f2 bc (af 4) (fC (.int 54))) (fL cT (aa (af 5) ah)))) ah)))) aW) (au (aC 7 (f2 ak (af 1) (af 3))) (au (cU (fB (f2 et (f2 aE (f2 bc (af 4) (fC (.int 972))) (fC (.int 6))) (fC (.int 1)))) (aC 7 (f2 ak (af 1) (fC (.int 17)))) aW) (au (aC 8 (fR (aF dI 1 1) (aa (fR (aF aj 2 2) (aa (af 0) (aa (fC (.int 5)) ah))) ah))) lD))))))))):=rfl;rw[eQ,body];generalize lD=TB at th tm;generalize ws.getD i ""=wi at ni th;generalize ws.getD 17 ""=w17 at n17 tm;generalize ws.getD 18 ""=w18 at n18;generalize ws.getD 19 ""=w19 at n19;generalize (tn.map D.str)=TN at al gt et1 et2;generalize ((ps.map (·.1)).map D.str)=PN at nl al;generalize ((cutD ws (some 18) (some 20)).map D.str)=CN at cm al;simp only[K0]at th tm;have DF:∀c:Int,(c%3==1)=true->(c%3==2)=false:=λc h=>by
  have:=beq_iff_eq.mp h
  rw[this];rfl
 cases z:(c6/972%6==1)with
 |true=>
  cases y:(c6%3==1)with
  |true=>simp! only[e0,ew',ef,gC,un,e6,nl,cm,al,n17,n18,n19,ni,oa,g3,y,DF c6 y,d3,gt,et1,d972,g6,z,e5,eb,tm]
  |false=>
   cases x:(c6%3==2)with
   |true=>simp! only[e0,ew',ef,gC,un,e6,nl,cm,al,n17,n18,n19,ni,oa,g3,y,x,d3,d54,gt,et1,et2,d972,g6,z,e5,eb,tm]
   |false=>simp! only[e0,ew',ef,gC,un,e6,nl,cm,al,n17,n18,n19,ni,oa,g3,y,x,d972,g6,z,e5,eb,tm]
 |false=>
  cases y:(c6%3==1)with
  |true=>simp! only[e0,ew',ef,gC,un,e6,nl,cm,al,n18,n19,ni,oa,g3,y,DF c6 y,d3,gt,et1,d972,g6,z,e5,eb,th]
  |false=>
   cases x:(c6%3==2)with
   |true=>simp! only[e0,ew',ef,gC,un,e6,nl,cm,al,n18,n19,ni,oa,g3,y,x,d3,d54,gt,et1,et2,d972,g6,z,e5,eb,th]
   |false=>simp! only[e0,ew',ef,gC,un,e6,nl,cm,al,n18,n19,ni,oa,g3,y,x,d972,g6,z,e5,eb,th]
end Tk23
open PySem PySem.W PyProof.Rows
theorem PySem.W.Fast.tw13848653715870807309 : True := trivial
theorem PySem.W.Fast.tw3187452152955123265 : True := trivial
theorem PySem.W.Fast.tw15875324958620455683 : True := trivial
theorem PySem.W.Fast.tw1693305966862051708 : True := trivial
theorem PySem.W.Fast.tw1412495452056215457 : True := trivial
theorem PySem.W.Fast.tw1862988675988190311 : True := trivial
theorem PySem.W.Fast.tw18311267376169712712 : True := trivial
theorem PySem.W.Fast.tw14889218841391803073 : True := trivial
theorem PySem.W.Fast.tw6862989500235512356 : True := trivial
theorem PySem.W.Fast.tw14225060175340616906 : True := trivial
theorem PySem.W.Fast.tw10044480583019167836 : True := trivial
theorem PySem.W.Fast.tw8475582453228526721 : True := trivial
theorem PySem.W.Fast.tw15022098201778963838 : True := trivial
theorem PySem.W.Fast.tw3159670375100898828 : True := trivial
theorem PySem.W.Fast.tw6985415210469181416 : True := trivial
theorem PySem.W.Fast.tw1399773185105534657 : True := trivial
theorem PySem.W.Fast.tw14675153608030938224 : True := trivial
theorem PySem.W.Fast.tw7471373991852576635 : True := trivial
theorem PySem.W.Fast.tw12968578650312229792 : True := trivial
theorem PySem.W.Fast.tw16875326098330255672 : True := trivial
theorem PySem.W.Fast.tw6953363070517098696 : True := trivial
theorem PySem.W.Fast.tw3371184770964894938 : True := trivial
theorem PySem.W.Fast.tw12349175587835651757 : True := trivial
theorem PySem.W.Fast.tw16624986118715282982 : True := trivial
theorem PySem.W.Fast.tw15847776961166648609 : True := trivial
theorem PySem.W.Fast.tw15216006036662943385 : True := trivial
theorem PySem.W.Fast.tw12180477075858256200 : True := trivial
theorem PySem.W.Fast.tw8101792157559925382 : True := trivial
theorem PySem.W.Fast.tw14643952019012820617 : True := trivial
theorem PySem.W.Fast.tw14507172564516031670 : True := trivial
theorem PySem.W.Fast.tw14973897778064533877 : True := trivial
theorem PySem.W.Fast.tw11020597655660705752 : True := trivial
theorem PySem.W.Fast.tw13081449577809855361 : True := trivial
theorem PySem.W.Fast.tw16003844003331492794 : True := trivial
theorem PySem.W.Fast.tw7130572893682266805 : True := trivial
theorem PySem.W.Fast.tw2080997004931453481 : True := trivial
theorem PySem.W.Fast.tw18037210428262727681 : True := trivial
theorem PySem.W.Fast.tw2147573010472676862 : True := trivial
theorem PySem.W.Fast.tw7890301755108166351 : True := trivial
theorem PySem.W.Fast.tw16465213435652239364 : True := trivial
theorem PySem.W.Fast.tw11225767084121122425 : True := trivial
theorem PySem.W.Fast.tw7424163137729634153 : True := trivial
theorem PySem.W.Fast.tw9240693738265460159 : True := trivial
theorem PySem.W.Fast.tw9647864868792550776 : True := trivial
theorem PySem.W.Fast.tw2706592136579561421 : True := trivial
theorem PySem.W.Fast.tw450326326831644177 : True := trivial
theorem PySem.W.Fast.tw17705323663124093890 : True := trivial
theorem PySem.W.Fast.tw2812929270206187521 : True := trivial
theorem PySem.W.Fast.tw12806247728712106108 : True := trivial
theorem PySem.W.Fast.tw12142652254758877664 : True := trivial
theorem PySem.W.Fast.tw13345671048350872820 : True := trivial
theorem PySem.W.Fast.tw9680911626629367765 : True := trivial
theorem PySem.W.Fast.tw1884044731317420561 : True := trivial
theorem PySem.W.Fast.tw15568821276624153878 : True := trivial
theorem PySem.W.Fast.tw3556578756075768489 : True := trivial
theorem PySem.W.Fast.tw17227349414028129166 : True := trivial
theorem PySem.W.Fast.tw13249635110892017141 : True := trivial
theorem PySem.W.Fast.tw13080165774211682434 : True := trivial
theorem PySem.W.Fast.tw8579920203253507387 : True := trivial
theorem PySem.W.Fast.tw4320795297983612051 : True := trivial
theorem PySem.W.Fast.tw11163349278337310783 : True := trivial
theorem PySem.W.Fast.tw14497241051021669936 : True := trivial
theorem PySem.W.Fast.tw14479697988970233537 : True := trivial
theorem PySem.W.Fast.tw2765159661991148471 : True := trivial
theorem PySem.W.Fast.tw7741103421117647574 : True := trivial
theorem PySem.W.Fast.tw14824727133585757490 : True := trivial
theorem PySem.W.Fast.tw11968890350236487059 : True := trivial
theorem PySem.W.Fast.tw10792644272683939867 : True := trivial
theorem PySem.W.Fast.tw5291704852633147621 : True := trivial
theorem PySem.W.Fast.tw15116669700543480176 : True := trivial
theorem PySem.W.Fast.tw9392622333391204781 : True := trivial
theorem PySem.W.Fast.tw17458006141503069062 : True := trivial
theorem PySem.W.Fast.tw12248707284193376640 : True := trivial
theorem PySem.W.Fast.tw2709580696185369459 : True := trivial
theorem PySem.W.Fast.tw259352750184472690 : True := trivial
theorem PySem.W.Fast.tw9293194439073736088 : True := trivial
theorem PySem.W.Fast.tw3089806630457410598 : True := trivial
theorem PySem.W.Fast.tw4991592080549383221 : True := trivial
theorem PySem.W.Fast.tw3884299033159310974 : True := trivial
theorem PySem.W.Fast.tw12034673002668215292 : True := trivial
theorem PySem.W.Fast.tw16326128400602983205 : True := trivial
theorem PySem.W.Fast.tw24474480251327189 : True := trivial
theorem PySem.W.Fast.tw9694089786409294847 : True := trivial
theorem PySem.W.Fast.tw5204041264390218567 : True := trivial
theorem PySem.W.Fast.tw4746810762991656453 : True := trivial
theorem PySem.W.Fast.tw2570504602493367586 : True := trivial
theorem PySem.W.Fast.tw1300359970991465778 : True := trivial
theorem PySem.W.Fast.tw11360610692583735129 : True := trivial
theorem PySem.W.Fast.tw16933488079626992193 : True := trivial
theorem PySem.W.Fast.tw14241082217006083553 : True := trivial
theorem PySem.W.Fast.tw17484666906564899053 : True := trivial
theorem PySem.W.Fast.tw5012321356449089183 : True := trivial
theorem PySem.W.Fast.tw9123723723948262883 : True := trivial
theorem PySem.W.Fast.tw13807445621077245947 : True := trivial
theorem PySem.W.Fast.tw10553884417180919858 : True := trivial
theorem PySem.W.Fast.tw17067505963799665890 : True := trivial
theorem PySem.W.Fast.tw16603936451557680292 : True := trivial
theorem PySem.W.Fast.tw801124873823676277 : True := trivial
theorem PySem.W.Fast.tw1667256855620369508 : True := trivial
theorem PySem.W.Fast.tw2822703882240901812 : True := trivial
theorem PySem.W.Fast.tw8654670401161131869 : True := trivial
theorem PySem.W.Fast.tw17251559227135039742 : True := trivial
theorem PySem.W.Fast.tw18243130795057536803 : True := trivial
theorem PySem.W.Fast.tw15004189683433245416 : True := trivial
theorem PySem.W.Fast.tw117278558137521798 : True := trivial
theorem PySem.W.Fast.tw18411176172197206562 : True := trivial
theorem PySem.W.Fast.tw18418707701909680676 : True := trivial
theorem PySem.W.Fast.tw13766827850378639187 : True := trivial
theorem PySem.W.Fast.tw17943432225368802029 : True := trivial
theorem PySem.W.Fast.tw11255310378170527516 : True := trivial
theorem PySem.W.Fast.tw9836898114685077155 : True := trivial
theorem PySem.W.Fast.tw11975412154853317533 : True := trivial
theorem PySem.W.Fast.tw1736853096937182240 : True := trivial
theorem PySem.W.Fast.tw660173701312437248 : True := trivial
theorem PySem.W.Fast.tw8301076054668399980 : True := trivial
theorem PySem.W.Fast.tw10077165133976890829 : True := trivial
set_option maxRecDepth 100000 in
set_option maxHeartbeats 0 in
theorem PySem.Challenge.cw_twoglass_k23_parts_refused_holds : PySem.Challenge.rw_twoglass_k23_parts_refused.Holds := by
  w_on; o_law; k_head; (case hw => w_witness2)
  k_fill
  refine Tk23.walk (l := PySem.Challenge.rw_twoglass_k23_parts_refused) rfl rfl (fun w h Y => PySem.W.kIn_of Y) ?F Tk23.math
  case F =>
    intro w mg fa h KX G hmg
    refine' Tk23.all_mk KX G hmg ?ac0 ?ac1 ?a0 ?i0 ?l0 ?c0 ?k0 ?a1 ?i1 ?l1 ?c1 ?k1 ?a2 ?i2 ?l2 ?c2 ?k2 ?a3 ?i3 ?l3 ?c3 ?k3 ?a4 ?l4 ?c4 ?k4 ?a5 ?i5 ?l5 ?c5 ?k5 ?p0 ?q0 ?r0 ?s0 ?n0_0 ?n0_1 ?n0_2 ?n0_3 ?m0 ?kp0 ?p1 ?q1 ?r1 ?s1 ?xa0 ?xa1 ?xa2 ?xa3 ?xa4 ?xa5 ?xa6 ?xa7 ?xa8 ?xa9 ?xa10 ?xa11 ?xa12 ?xa13 ?a6 ?i6 ?l6 ?c6 ?k6 ?xs6 ?xp6 ?xi6 ?xy6 ?xd6 ?xna6_0 ?xe0 ?xe2 ?xe1 ?xe5 ?xsg ?xtk ?xg2 ?xn2 ?xf2 ?xb2 ?xg0 ?xn0 ?xf0 ?xb0 ?xg1 ?xn1 ?xf1 ?xb1 ?xg5 ?xn5 ?xf5 ?xb5 ?xg6 ?xn6 ?xf6 ?xb6 ?xo0 ?xt0 ?xo1 ?xt1 ?xo2 ?xt2 ?xo3 ?xt3 ?xo4 ?xt4 ?xo5 ?xt5 ?xo6 ?xt6 ?xo7 ?xt7 ?xo8 ?xt8 ?xo9 ?xt9 ?xo10 ?xt10 ?xo11 ?xt11 ?xo12 ?xt12 ?xo13 ?xt13 ?xw13 ?xm13_2 ?xm13_0 ?xm13_1 ?xm13_5 ?xm13_6 ?xk0_2 ?vnx0_2 ?xk0_0 ?xk0_1 ?vnx0_1 ?xk0_5 ?vnx0_5 ?xk0_6 ?vnx0_6 ?xk1_2 ?vnx1_2 ?xk1_0 ?vnx1_0 ?xk1_1 ?xk1_5 ?vnx1_5 ?xk1_6 ?vnx1_6 ?xk2_2 ?xk2_0 ?vnx2_0 ?xk2_1 ?vnx2_1 ?xk2_5 ?vnx2_5 ?xk2_6 ?vnx2_6 ?xk3_2 ?vnx3_2 ?xk3_0 ?vnx3_0 ?xk3_1 ?vnx3_1 ?xk3_5 ?vnx3_5 ?xk3_6 ?vnx3_6 ?xk4_2 ?vnx4_2 ?xk4_0 ?vnx4_0 ?xk4_1 ?vnx4_1 ?xk4_5 ?vnx4_5 ?xk4_6 ?vnx4_6 ?xk5_2 ?vnx5_2 ?xk5_0 ?vnx5_0 ?xk5_1 ?vnx5_1 ?xk5_5 ?xk5_6 ?vnx5_6 ?xk6_2 ?vnx6_2 ?xk6_0 ?vnx6_0 ?xk6_1 ?vnx6_1 ?xk6_5 ?vnx6_5 ?xk6_6 ?xk7_2 ?vnx7_2 ?xk7_0 ?vnx7_0 ?xk7_1 ?vnx7_1 ?xk7_5 ?vnx7_5 ?xk7_6 ?vnx7_6 ?xk8_2 ?vnx8_2 ?xk8_0 ?vnx8_0 ?xk8_1 ?vnx8_1 ?xk8_5 ?vnx8_5 ?xk8_6 ?vnx8_6 ?xk9_2 ?vnx9_2 ?xk9_0 ?vnx9_0 ?xk9_1 ?vnx9_1 ?xk9_5 ?vnx9_5 ?xk9_6 ?vnx9_6 ?xk10_2 ?vnx10_2 ?xk10_0 ?vnx10_0 ?xk10_1 ?vnx10_1 ?xk10_5 ?vnx10_5 ?xk10_6 ?vnx10_6 ?xk11_2 ?vnx11_2 ?xk11_0 ?vnx11_0 ?xk11_1 ?vnx11_1 ?xk11_5 ?vnx11_5 ?xk11_6 ?vnx11_6 ?xk12_2 ?vnx12_2 ?xk12_0 ?vnx12_0 ?xk12_1 ?vnx12_1 ?xk12_5 ?vnx12_5 ?xk12_6 ?vnx12_6 ?xv_ValueError_2 ?xv_ValueError_0 ?xv_ValueError_1 ?xv_ValueError_5 ?xv_ValueError_6 ?dd0 ?zz ?ke0 ?ke1 ?ke2
    (case ac0 => k_is)
    (case ac1 => k_is)
    (case a0 => k_is)
    (case i0 => k_is)
    (case l0 => delta TX.Lk; k_is)
    (case c0 => k_is)
    (case k0 => k_is)
    (case a1 => k_is)
    (case i1 => k_is)
    (case l1 => delta TX.Lk; k_is)
    (case c1 => k_is)
    (case k1 => k_is)
    (case a2 => k_is)
    (case i2 => k_is)
    (case l2 => delta TX.Lk; k_is)
    (case c2 => k_is)
    (case k2 => k_is)
    (case a3 => k_is)
    (case i3 => k_is)
    (case l3 => delta TX.Lk; k_is)
    (case c3 => k_is)
    (case k3 => k_is)
    (case a4 => k_is)
    (case l4 => delta TX.Lk; k_is)
    (case c4 => k_is)
    (case k4 => k_is)
    (case a5 => k_is)
    (case i5 => k_is)
    (case l5 => delta TX.Lk; k_is)
    (case c5 => k_is)
    (case k5 => k_is)
    (case p0 => k_is)
    (case q0 => k_is)
    (case r0 => k_is)
    (case s0 => k_is)
    (case n0_0 => k_is)
    (case n0_1 => k_is)
    (case n0_2 => k_is)
    (case n0_3 => k_is)
    (case m0 => k_is)
    (case kp0 => k_is)
    (case p1 => k_is)
    (case q1 => k_is)
    (case r1 => k_is)
    (case s1 => k_is)
    (case xa0 => k_is)
    (case xa1 => k_is)
    (case xa2 => k_is)
    (case xa3 => k_is)
    (case xa4 => k_is)
    (case xa5 => k_is)
    (case xa6 => k_is)
    (case xa7 => k_is)
    (case xa8 => k_is)
    (case xa9 => k_is)
    (case xa10 => k_is)
    (case xa11 => k_is)
    (case xa12 => k_is)
    (case xa13 => k_is)
    (case a6 => k_is)
    (case i6 => k_is)
    (case l6 => delta TX.Lk; k_is)
    (case c6 => k_is)
    (case k6 => k_is)
    (case xs6 => k_is)
    (case xp6 => k_is)
    (case xi6 => kernel_rfl)
    (case xy6 => kernel_rfl)
    (case xd6 => k_is)
    (case xna6_0 => k_is)
    (case xe0 => k_exc)
    (case xe2 => k_exc)
    (case xe1 => k_exc)
    (case xe5 => k_exc)
    (case xsg => k_is)
    (case xtk => k_is)
    (case xg2 => k_is)
    (case xn2 => k_is)
    (case xf2 => k_is)
    (case xb2 => k_is)
    (case xg0 => k_is)
    (case xn0 => k_is)
    (case xf0 => k_is)
    (case xb0 => k_is)
    (case xg1 => k_is)
    (case xn1 => k_is)
    (case xf1 => k_is)
    (case xb1 => k_is)
    (case xg5 => k_is)
    (case xn5 => k_is)
    (case xf5 => k_is)
    (case xb5 => k_is)
    (case xg6 => k_is)
    (case xn6 => k_is)
    (case xf6 => k_is)
    (case xb6 => k_is)
    (case xo0 => k_is)
    (case xt0 => k_is)
    (case xo1 => k_is)
    (case xt1 => k_is)
    (case xo2 => k_is)
    (case xt2 => k_is)
    (case xo3 => k_is)
    (case xt3 => k_is)
    (case xo4 => k_is)
    (case xt4 => k_is)
    (case xo5 => k_is)
    (case xt5 => k_is)
    (case xo6 => k_is)
    (case xt6 => k_is)
    (case xo7 => k_is)
    (case xt7 => k_is)
    (case xo8 => k_is)
    (case xt8 => k_is)
    (case xo9 => k_is)
    (case xt9 => k_is)
    (case xo10 => k_is)
    (case xt10 => k_is)
    (case xo11 => k_is)
    (case xt11 => k_is)
    (case xo12 => k_is)
    (case xt12 => k_is)
    (case xo13 => k_is)
    (case xt13 => k_is)
    (case xw13 => k_is)
    (case xm13_2 => k_is)
    (case xm13_0 => k_is)
    (case xm13_1 => k_is)
    (case xm13_5 => k_is)
    (case xm13_6 => k_is)
    (case xk0_2 => k_is)
    (case vnx0_2 => decide)
    (case xk0_0 => k_is)
    (case xk0_1 => k_is)
    (case vnx0_1 => decide)
    (case xk0_5 => k_is)
    (case vnx0_5 => decide)
    (case xk0_6 => k_is)
    (case vnx0_6 => decide)
    (case xk1_2 => k_is)
    (case vnx1_2 => decide)
    (case xk1_0 => k_is)
    (case vnx1_0 => decide)
    (case xk1_1 => k_is)
    (case xk1_5 => k_is)
    (case vnx1_5 => decide)
    (case xk1_6 => k_is)
    (case vnx1_6 => decide)
    (case xk2_2 => k_is)
    (case xk2_0 => k_is)
    (case vnx2_0 => decide)
    (case xk2_1 => k_is)
    (case vnx2_1 => decide)
    (case xk2_5 => k_is)
    (case vnx2_5 => decide)
    (case xk2_6 => k_is)
    (case vnx2_6 => decide)
    (case xk3_2 => k_is)
    (case vnx3_2 => decide)
    (case xk3_0 => k_is)
    (case vnx3_0 => decide)
    (case xk3_1 => k_is)
    (case vnx3_1 => decide)
    (case xk3_5 => k_is)
    (case vnx3_5 => decide)
    (case xk3_6 => k_is)
    (case vnx3_6 => decide)
    (case xk4_2 => k_is)
    (case vnx4_2 => decide)
    (case xk4_0 => k_is)
    (case vnx4_0 => decide)
    (case xk4_1 => k_is)
    (case vnx4_1 => decide)
    (case xk4_5 => k_is)
    (case vnx4_5 => decide)
    (case xk4_6 => k_is)
    (case vnx4_6 => decide)
    (case xk5_2 => k_is)
    (case vnx5_2 => decide)
    (case xk5_0 => k_is)
    (case vnx5_0 => decide)
    (case xk5_1 => k_is)
    (case vnx5_1 => decide)
    (case xk5_5 => k_is)
    (case xk5_6 => k_is)
    (case vnx5_6 => decide)
    (case xk6_2 => k_is)
    (case vnx6_2 => decide)
    (case xk6_0 => k_is)
    (case vnx6_0 => decide)
    (case xk6_1 => k_is)
    (case vnx6_1 => decide)
    (case xk6_5 => k_is)
    (case vnx6_5 => decide)
    (case xk6_6 => k_is)
    (case xk7_2 => k_is)
    (case vnx7_2 => decide)
    (case xk7_0 => k_is)
    (case vnx7_0 => decide)
    (case xk7_1 => k_is)
    (case vnx7_1 => decide)
    (case xk7_5 => k_is)
    (case vnx7_5 => decide)
    (case xk7_6 => k_is)
    (case vnx7_6 => decide)
    (case xk8_2 => k_is)
    (case vnx8_2 => decide)
    (case xk8_0 => k_is)
    (case vnx8_0 => decide)
    (case xk8_1 => k_is)
    (case vnx8_1 => decide)
    (case xk8_5 => k_is)
    (case vnx8_5 => decide)
    (case xk8_6 => k_is)
    (case vnx8_6 => decide)
    (case xk9_2 => k_is)
    (case vnx9_2 => decide)
    (case xk9_0 => k_is)
    (case vnx9_0 => decide)
    (case xk9_1 => k_is)
    (case vnx9_1 => decide)
    (case xk9_5 => k_is)
    (case vnx9_5 => decide)
    (case xk9_6 => k_is)
    (case vnx9_6 => decide)
    (case xk10_2 => k_is)
    (case vnx10_2 => decide)
    (case xk10_0 => k_is)
    (case vnx10_0 => decide)
    (case xk10_1 => k_is)
    (case vnx10_1 => decide)
    (case xk10_5 => k_is)
    (case vnx10_5 => decide)
    (case xk10_6 => k_is)
    (case vnx10_6 => decide)
    (case xk11_2 => k_is)
    (case vnx11_2 => decide)
    (case xk11_0 => k_is)
    (case vnx11_0 => decide)
    (case xk11_1 => k_is)
    (case vnx11_1 => decide)
    (case xk11_5 => k_is)
    (case vnx11_5 => decide)
    (case xk11_6 => k_is)
    (case vnx11_6 => decide)
    (case xk12_2 => k_is)
    (case vnx12_2 => decide)
    (case xk12_0 => k_is)
    (case vnx12_0 => decide)
    (case xk12_1 => k_is)
    (case vnx12_1 => decide)
    (case xk12_5 => k_is)
    (case vnx12_5 => decide)
    (case xk12_6 => k_is)
    (case vnx12_6 => decide)
    (case xv_ValueError_2 => k_is)
    (case xv_ValueError_0 => k_is)
    (case xv_ValueError_1 => k_is)
    (case xv_ValueError_5 => k_is)
    (case xv_ValueError_6 => k_is)
    (case ke0 => k_is)
    (case ke1 => k_is)
    (case ke2 => k_is)
    case dd0 => (repeat (refine' TX.KDs.mk (TX.KD.mk ?a ?l ?c ?k) ?_;(case a|l|c|k => first|delta TX.Lk;k_is|k_is)));trivial
    case zz => (repeat (refine TX.KZs.mk (by k_is) ?_));trivial
