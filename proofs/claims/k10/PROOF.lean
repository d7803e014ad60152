import PyProof.Rows.All
import KE.KDictList
import KE.KDictOf
import KE.KSortTup
import KE.KTreeD
import KE.KTryMore
import KE.KUnpack
import Wide.FinOn
import PySem.Challenge.RW_twoglass_k10_changes_of_two_tables
set_option Elab.async false
set_option linter.all false
set_option maxRecDepth 100000
section
open PySem PySem.W PyProof.Rows
namespace PySem.W.Fast
theorem tw278889846483503399:True:=⟨⟩
theorem tw13315312778382663447:True:=⟨⟩
theorem tw10017093729944912677:True:=⟨⟩
theorem tw12017524793380156236:True:=⟨⟩
theorem tw14947885054244533320:True:=⟨⟩
theorem tw10996876706759177745:True:=⟨⟩
theorem tw8722703497496696600:True:=⟨⟩
theorem tw7898166277857005065:True:=⟨⟩
theorem tw9958607463411660501:True:=⟨⟩
theorem tw12247115231440422954:True:=⟨⟩
theorem tw290912754971332005:True:=⟨⟩
theorem tw3558012959812371551:True:=⟨⟩
theorem tw8460378079673673574:True:=⟨⟩
theorem tw10193959359709879862:True:=⟨⟩
theorem tw18074096911775935640:True:=⟨⟩
theorem tw5887210997383301798:True:=⟨⟩
theorem tw8664521218045020429:True:=⟨⟩
theorem tw1913364321170517536:True:=⟨⟩
theorem tw1790691929460628862:True:=⟨⟩
theorem tw1590805812208137323:True:=⟨⟩
theorem tw15419354299508178650:True:=⟨⟩
theorem tw10840855253208054112:True:=⟨⟩
theorem tw4581355796402731028:True:=⟨⟩
theorem tw9840683850474349816:True:=⟨⟩
theorem tw1939706787953194523:True:=⟨⟩
theorem tw14024805686811324681:True:=⟨⟩
theorem tw14383826975368357392:True:=⟨⟩
theorem tw10569026585091263184:True:=⟨⟩
theorem tw5049304496681369101:True:=⟨⟩
theorem tw5988849493540318561:True:=⟨⟩
theorem tw538429709715081958:True:=⟨⟩
theorem tw13653801402597705546:True:=⟨⟩
theorem tw17856415730093768934:True:=⟨⟩
theorem tw16834584934300799728:True:=⟨⟩
theorem tw9681576831623648022:True:=⟨⟩
theorem tw17245565957393304001:True:=⟨⟩
theorem tw11359727014495173222:True:=⟨⟩
theorem tw9268540309719565368:True:=⟨⟩
theorem tw12319070051585451097:True:=⟨⟩
theorem tw4844197672544065974:True:=⟨⟩
theorem tw17287638367408766301:True:=⟨⟩
theorem tw17055281093138973782:True:=⟨⟩
theorem tw4206230254855835021:True:=⟨⟩
theorem tw17621808213724238474:True:=⟨⟩
theorem tw507006704988119626:True:=⟨⟩
theorem tw10063716962472463131:True:=⟨⟩
theorem tw16722639219254571713:True:=⟨⟩
theorem tw16944946329051687197:True:=⟨⟩
theorem tw628438595242846528:True:=⟨⟩
theorem tw14693301521371876713:True:=⟨⟩
theorem tw2241022624860587825:True:=⟨⟩
end PySem.W.Fast
set_option maxHeartbeats 0 in
open_top hd10 for PySem.Challenge.rw_twoglass_k10_changes_of_two_tables
end
local macro_rules|`(tactic|omega)=>`(tactic|first|lia|omega (config:={}))
open List renaming take_nil→GY,drop_nil→GZ,filterMap_cons→G8,mem_cons_self→G9,mem_cons_of_mem→Ha,mem_append_left→Hc,getElem?_set_self→He,getElem?_set_ne→Hf,mem_append_right→Hj,size_toArray→Hk,append_nil→Hl,of_mem_zip→Hm,length_take→Ho,getElem?_append_right→Hq,getElem?_replicate→Hr,getElem?_append_left→Hs,getElem?_map→Ht,take_sublist→Hu,mem_of_getElem?→Hv,length_append→Hw,length_map→Hx,length_replicate→Hy,length_drop→HA,length_singleton→HD,map_nil→HE,map_cons→HF,find?_cons→HI,any_cons→HJ,length_cons→HK,length_nil→HL,nodup_nil→HQ,lookup_cons→HR,cons_append→HW,take_succ_cons→HX,drop_zero→HY,drop_succ_cons→HZ,getElem?_eq_getElem→Ia,nil_append→Ih,map_congr_left→Ii,map_append→Ij,getElem?_drop→Ik,length_range→Il,getElem?_range→Io,length_set→Ip,drop_eq_getElem_cons→Iq,append_assoc→Iu,drop_length→Iw,zip_nil_right→Iy,zip_cons_cons→Iz,not_lt_nil→IA,nil_lt_cons→IB,cons_lt_cons_iff→IC,filter_cons_of_pos→IE,filter_cons_of_neg→IG,getElem_mem→IH,take_of_length_le→IL,getElem_of_mem→IM,getElem_take→IP,drop_drop→IQ,take_append_drop→IR,drop_of_length_le→IT,mem_of_mem_drop→IU,take_succ_eq_append_getElem→IW,reverse_append→IX,reverse_perm→IZ,mem_of_mem_take→Ja,zipIdx_cons→Jb,foldl_cons→Jc,length_eq_zero_iff→Jd,drop_left→Je,drop_sublist→Jf,getElem?_take→Jg,getElem_drop→Jh,flatten_cons→Ji,ext_getElem?→Jl,nodup_range→Jm,pairwise_map→Jo,getD_eq_getElem?_getD→Jp,map_map→Jq,any_map→Jr,mem_singleton→Js,mem_cons→Jt,not_mem_nil→Ju,getElem?_cons_zero→Jv,getElem?_cons_succ→Jw,eraseIdx_eq_take_drop_succ→Jx,map_take→Jy,map_drop→Jz,filter_sublist→JA,length_filter_le→JC,perm_ext_iff_of_nodup→JM,mem_map→JN,getElem?_eq_none→JO,length_eraseIdx_of_lt→JR,getElem?_toArray→JS,any_eq_true→JT,set_cons_zero→JU,set_cons_succ→JV,replicate_zero→JW,mem_of_find?_eq_some→JY
open Int renaming toNat_natCast→Hz,emod_lt_of_pos→JG,lt_trans→JX
open Nat renaming lt_of_lt_of_le→G0,lt_irrefl→G1,ne_of_lt→G2,le_trans→G3,le_of_lt→G4,ne_of_gt→Hh,le_refl→Hi,le_of_not_lt→HG,le_of_eq→HH,lt_trans→HN,zero_le→HP,lt_succ_of_lt→HU,le_succ→HV,min_self→Ib,sub_zero→Im,lt_of_le_of_lt→Ir,add_sub_cancel_left→IV,zero_add→IY,add_assoc→Jj,eq_zero_or_pos→Jk,succ_pos→JD,le_of_lt_succ→JE,mod_lt→JF,sub_self→JI,not_lt_zero→JK,le_succ_of_le→JP,lt_succ_self→JQ
open Bool renaming false_ne_true→Hg,and_eq_true→HB,false_eq_true→HS,and_true→Ic,and_false→Ie,or_eq_true→Ig,not_false→II,not_true→IJ,not_eq_true'→IK
open Option renaming getD_none→HC,isSome_map→HM,isNone_none→JB
open PySem renaming Value→KG,NameKind→KH,Addr→KI,Expr→KJ,Stmt→KL,Shared→KN,World→KO,Program→KP,Paired→KQ,Heap→KR,sizeLine→KS,mainGlobals→KU,bootBuiltins→KW,Around→KY,Scope→KZ,Model→K1,wpAny→K2,starEach→K3,wpAny_mono→K4,wpAny_execs_nil→K8,PassesOwn→K9,wpAny_passesOwn→La,wpAny_pure→Lb,wpAny_bind→Lc,wpAny_load→Ld,wpAny_pyIter_list→Le,foldedSetIterable→Lf,binaryOp→Lg,compareOp→Lh,behindInMarks→Li,sizeLine_eq→Lj,cLine→Ln,FuncData→Lp,BindsTo→Lq,codeAny→Lr,wpAny_Call_Name_kw→Lv,concat_meets→Lw,noFill_tuple_add→Lx,seq_tuple_add→Ly,IsPart→Lz,wpAny_holding→LA,wpAny_callSpecial?_slot→LC,wpAny_call_entry→LD,wpAny_typeOf→LI,wpAny_newObj_type→LJ,attributeBase→LK,keywordEach→LL,Keyword→LN,codeAny_mono→LO,DictEntry→LQ,tupleKind_room_in1→LR,wpAny_specialOf→LU,wpAny_standAt→LV,wpAny_comprehension_free→LW,wpAny_rule→LX,wpAny_getItem_str_slice→LY,post_val_or_str→LZ,wpAny_attempt→Mf,typeLookup_type→Mi,builtinLookup_eq_fast→Mj,wpAny_isInstance→Mk,codeAny_builtin→Ml,plainId_quiet→Mm,wpAny_notOrdered_dict→Mo,wpAny_pyIter_slot→Mp,wpAny_dictEntries→Mq,wpAny_dictEpoch→Mr,wpAny_typeNameOfWhole_keyiter→Ms,wpAny_typeNameOf_keyiter→Mt,wpAny_fieldsOf→Mu,wpAny_setField→Mv,wpAny_missedRemoval_other→Mw,SetTable→Mx,wpAny_setState_of→My,wpAny_askSetting→Mz,isSubtype_type→MA,wpAny_setEntries_of→MB,wpAny_ite_split→MC
open PySem.W renaming methodObj→JZ,Frag→J1,cellsFrom_some→J3,fnOf→J4,codeIn→J5,OpenLaw→J6,keepIn→J7,nsIn→J8,kitOne→J9,kia_one→Ka,BoolBack→Kb,kas_rev→L0,kas_cmp→L9,kas_item→Ma
open PySem.Heap renaming lt_size→Kc,get?_none_of_le→Kd,SameBut→Ke,get?_push_of_some→Kf,get?_push_size→Kg,get?_update_other→Kh,size_push→Ki,FlyingW→Kj,get?_push_ne→Kk,get?_update_self→Kl
open PyProof.Rows renaming callWith_type1→Km,callWith_builtin1→Kn,slot_tuple_getitem→Ko,envOfC→Kp,IsTup→Kq,boot_dict→Kr,boot_tuple→Kt,Keyed→L1,SortSt→L3,wpS_bind→L4,wpS_mono→L5,wpS_forRange→L6,wpS_pure→L7,SortKind→L8,wpS_get→Mb,wpS_lift→Md,wpS_modify→Mg,listUpdate_at→Mh
open PySem.F renaming slot_tuple_add→Ku,entry_tuple_add→Kv,args_tuple_add_2→Kw,slot_dict_get→Kx,entry_dict_get→Ky,args_dict_get_2→Kz,plain_list_iadd→KA,plain_extend_loop→KC
set_option maxHeartbeats 1000000
local macro_rules | `(‹0›)=>`(by omega)
set_option hygiene false
local macro_rules|`(`o)=>`(by omega)|`(`g)=>`((model prog w))|`(`h)=>`(Inv X pins σ H s)|`(`i)=>`((model X.prog X.w))|`(`j)=>`(((bG prog w).hash k))
set_option hygiene true
namespace L2
open PySem PySem.Spec PyProof.Rows
noncomputable abbrev c7:=List (Option Nat)
noncomputable abbrev cF:=Str->Option KG
noncomputable abbrev kH:=List (Str×KH)
noncomputable abbrev aH:=List (KI×Obj)
noncomputable abbrev jJ:=List (Str×KI)
noncomputable abbrev aY:=List KJ
noncomputable abbrev cD:=List KL
noncomputable abbrev aC:=List KG
noncomputable abbrev bq:=List Bool
noncomputable abbrev ah:=List KI
noncomputable abbrev bP:=Option Int
noncomputable abbrev dF:=Array KG
noncomputable abbrev aP:=List Nat
noncomputable abbrev aA:=KG->KN->Prop
noncomputable abbrev bu:=KN->Prop
noncomputable abbrev aK:=List Str
noncomputable abbrev Key:=Sum Int Str
noncomputable abbrev ay:=List Key
noncomputable def mN:Key->KG->Bool
 |.inl k,v=>Value.isInt k v
 |.inr x,v=>Value.isStrOf x v
noncomputable def F8(w:KO):Key->Int
 |.inl k=>hashInt k
 |.inr x=>hashStr w x
theorem bA:∀{k:Key}{v:KG},mN k v=true->(∃i t,k=Sum.inl i/\v=Value.int i t)\/(∃x t,k=Sum.inr x/\v=Value.str x t)
 |.inl i,v,h=>by
  obtain⟨t,e⟩:=Value.isInt_shape (k:=i) (v:=v) h;exact .inl ⟨i,t,rfl,e⟩
 |.inr x,v,h=>by
  obtain⟨t,e⟩:=Value.isStrOf_shape (x:=x) (v:=v) h;exact .inr ⟨x,t,rfl,e⟩
theorem ur(i:Int)(t:Tok):mN (.inl i) (.int i t)=true:=by simp[mN,Value.isInt]
theorem uP(x:Str)(t:Tok):mN (.inr x) (.str x t)=true:=by simp[mN,Value.isStrOf]
theorem Bm(a b:Int):decide ((Sum.inl a:Key)=Sum.inl b)=(a==b):=by
 by_cases e:a=b
 ·subst e;simp
 ·have h:¬(Sum.inl a:Key)=Sum.inl b:=λq=>e (Sum.inl.inj q);rw[decide_eq_false h];exact(beq_eq_false_iff_ne.mpr e).symm
theorem Cz(a b:Str):decide ((Sum.inr a:Key)=Sum.inr b)=decide (a=b):=by
 by_cases e:a=b
 ·subst e;simp
 ·have h:¬(Sum.inr a:Key)=Sum.inr b:=λq=>e (Sum.inr.inj q);rw[decide_eq_false h,decide_eq_false e]
theorem BQ(a:Int)(b:Str):decide ((Sum.inl a:Key)=Sum.inr b)=false:=decide_eq_false (λq=>nomatch q)
theorem BG(a:Str)(b:Int):decide ((Sum.inr a:Key)=Sum.inl b)=false:=decide_eq_false (λq=>nomatch q)
noncomputable def aJ(prog:KP)(w:KO):PySem.KeyKind prog w Key where
 is:=mN
 hash:=F8 w
 inj:=λv a b ha hb=>by
  rcases bA ha with⟨i,t,rfl,rfl⟩|⟨x,t,rfl,rfl⟩
  ·rcases bA hb with⟨j,u,rfl,e⟩|⟨y,u,rfl,e⟩
   ·injection e with e1 _;rw[e1]
   ·exact nomatch e
  ·rcases bA hb with⟨j,u,rfl,e⟩|⟨y,u,rfl,e⟩
   ·exact nomatch e
   ·injection e with e1 _;rw[e1]
 byValue:=λk v h=>by
  rcases bA h with⟨i,t,rfl,rfl⟩|⟨x,t,rfl,rfl⟩<;>rfl
 pyHash:=λhv h=>by
  rcases bA hv with⟨i,t,rfl,rfl⟩|⟨x,t,rfl,rfl⟩
  ·exact wpAny_pyHash_int h
  ·exact wpAny_pyHash_str h
 eqBool:=λhu hv h=>by
  rcases bA hu with⟨i,t,rfl,rfl⟩|⟨x,t,rfl,rfl⟩
  ·rcases bA hv with⟨j,u,rfl,rfl⟩|⟨y,u,rfl,rfl⟩
   ·rw[Bm]at h;exact wpAny_eqBool_int h
   ·rw[BQ]at h;exact SeqAt.EqAt.int_str i t y u _ _ _ _ h
  ·rcases bA hv with⟨j,u,rfl,rfl⟩|⟨y,u,rfl,rfl⟩
   ·rw[BG]at h;exact SeqAt.EqAt.str_int x t j u _ _ _ _ h
   ·rw[Cz]at h;exact wpAny_eqBool_str h
 «strs»:=λk x t v h=>by
  rcases bA h with⟨i,u,rfl,e⟩|⟨y,u,rfl,e⟩
  ·exact nomatch e
  ·injection e with e1 _;subst e1;cases v<;>rfl
theorem pK(prog:KP)(w:KO)(i:Int)(t:Tok):(aJ prog w).is (.inl i) (.int i t)=true:=ur i t
theorem oZ(prog:KP)(w:KO)(x:Str)(t:Tok):(aJ prog w).is (.inr x) (.str x t)=true:=uP x t
inductive V where
 |non|bl (b:Bool)|int (i:Int)|str (x:Str)|byt (b:Array UInt8)|flt (b:UInt64)|ref (a:KI)|ty (n:String)
 deriving DecidableEq
noncomputable abbrev az:=List V
noncomputable def RelV:V->KG->Prop
 |.non,u=>u=Value.none
 |.bl b,u=>u=Value.bool b
 |.int i,u=>∃t,u=Value.int i t
 |.str x,u=>∃t,u=Value.str x t
 |.byt b,u=>∃t,u=Value.bytes b t
 |.flt b,u=>∃t,u=Value.float b t
 |.ref a,u=>u=Value.ref a
 |.ty n,u=>u=Value.type n
noncomputable abbrev Vals:az->aC->Prop:=KQ RelV
theorem Vals.length{xs:az}{us:aC}(r:Vals xs us):xs.length=us.length:=Paired.length r
theorem Vals.get:∀{xs:az}{us:aC}{i:Nat}{x:V},Vals xs us->xs[i]?=some x->∃u,us[i]?=some u/\RelV x u
 |_,_,_,_,.nil,e=>by simp at e
 |_,_,0,_,.cons r _,e=>by simp at e;subst e;exact⟨_,rfl,r⟩
 |_,_,i+1,x,.cons _ t,e=>by
  obtain⟨u,h1,h2⟩:=Vals.get (i:=i) (x:=x) t (by simpa using e);exact⟨u,by simpa using h1,h2⟩
theorem Vals.append{xs ys:az}{us ws:aC}(h:Vals xs us)(s:Vals ys ws):Vals (xs++ys) (us++ws):=by
 induction h with
 |nil=>exact s
 |cons r _ ih=>exact .cons r ih
theorem Vals.take{xs:az}{us:aC}(n:Nat)(h:Vals xs us):Vals (xs.take n) (us.take n):=by
 induction h generalizing n with
 |nil=>rw[GY,GY];exact .nil
 |cons r _ ih=>
  cases n with
  |zero=>exact .nil
  |succ n=>exact .cons r (ih n)
theorem Vals.drop{xs:az}{us:aC}(n:Nat)(h:Vals xs us):Vals (xs.drop n) (us.drop n):=by
 induction h generalizing n with
 |nil=>rw[GZ,GZ];exact .nil
 |cons r t ih=>
  cases n with
  |zero=>exact .cons r t
  |succ n=>exact ih n
noncomputable def ot:Option V->Option KG->Prop
 |some v,some u=>RelV v u
 |none,none=>True
 |_,_=>False
noncomputable def KV{κ:Type}:List (κ×V)->List (κ×KG)->Prop:=KQ λ(p:κ×V)(q:κ×KG)=>p.1=q.1/\RelV p.2 q.2
noncomputable def kV:Key->V
 |.inl i=>.int i
 |.inr x=>.str x
inductive HO where
  |lst (xs:az)
  |tup (xs:az)
  |dK (kvs:List (Key×V))|dT (kvs:List (List Key×V))
  |set (S:Int->Bool) (n:Nat)
  |ins (C dx:KI) (fs:List (Str×V))
  |own (x:KI)
  |xd (fs:List (Str×V))
  |met (f x:KI)
  |rng (lo hi:Int)
  |frz (o:Obj) (u:HO)
  |tbl (ps:dF)
  |ext (φ:(KI->Prop)->KR->Prop)
noncomputable abbrev Hp:=KI->Option HO
noncomputable def upd(H:Hp)(a:KI)(o:HO):Hp:=λb=>if b=a then some o else H b
theorem ao{H:Hp}{a:KI}{o:HO}:upd H a o a=some o:=by unfold upd;rw[if_pos rfl]
theorem aq{H:Hp}{a b:KI}{o:HO}(h:b≠a):upd H a o b=H b:=by unfold upd;rw[if_neg h]
theorem xg{H:Hp}{a b:KI}{o u:HO}(h:H a=some o)(h':H b=some u)(d:o≠u):a≠b:=by
 intro e;subst e;rw[h]at h';exact d (Option.some.inj h')
theorem aN{H:Hp}{a b:KI}{o:HO}(h:H a=some o)(h':H b=none):a≠b:=by
 intro e;subst e;rw[h]at h';cases h'
section
variable(P:KP)(w:KO)
noncomputable def bC(H:Hp)(h:KR)(a:KI):HO->Prop
 |.lst xs=>xs.length<=KS/\∃(its:aC)(n:Nat),Vals xs its/\h.get? a=some {cls:=.type "list",data:=.seq its.toArray n}
 |.tup xs=>xs.length<=KS/\∃its:aC,Vals xs its/\IsTup h a its.toArray
 |.dK kvs=>kvs.length<=KS/\(a==sysModules)=false/\∃vs,KV kvs vs/\h.DictOf (aJ P w) a vs
 |.dT kvs=>kvs.length<=KS/\(a==sysModules)=false/\∃xs:List (List Key×KI×KG),
   KQ (λ(p:List Key×V)(q:List Key×KI×KG)=>p.1=q.1/\H q.2.1=some (.tup (p.1.map kV))/\RelV p.2 q.2.2) kvs xs/\
   ∃o es ep,h.get? a=some o/\o.ExactDict/\o.data=.dict es ep/\es.toList=xs.map (entryOfKey (tupleKind (aJ P w)))/\(xs.map (·.1)).Nodup
 |.set S n=>h.SetOf (intKind P w) a S n
 |.ins C dx fs=>H dx=some (.own a)/\fs.length<=1000/\dx≠a/\h.get? a=some (PySem.W.instObj C dx)/\
   ∃mA,h.Ns1 dx mA/\(∀f,ot (fs.lookup f) (mA f))/\PySem.Within mA (fs.map (·.1))
 |.own _=>∃o,h.get? a=some o
 |.xd fs=>∃mA,h.Ns1 a mA/\∀f,ot (fs.lookup f) (mA f)
 |.rng lo hi=>∃t u v,h.get? a=some {cls:=.type "range",data:=.fields #[.int lo t,.int hi u,.int 1 v]}
 |.frz o u=>h.get? a=some o/\bC H h a u
 |.tbl ps=>h.get? a=some {cls:=.none,data:=.fields ps}
 |.met f x=>h.get? a=some (JZ (.ref f) (.ref x))
 |.ext φ=>φ (λb=>H b=some (.own a)) h/\(∃o,h.get? a=some o)/\∀(S1 S2:KI->Prop)(h1 h2:KR),φ S1 h1->(∀b,S1 b->S2 b)->(∀b o,(b=a\/S1 b)->h1.get? b=some o->h2.get? b=some o)->φ S2 h2
noncomputable def jV(H:Hp)(h:KR):Prop:=∀a o,H a=some o->bC P w H h a o
end
section
variable{P:KP}{w:KO}{H H':Hp}{h h':KR}{a:KI}{o:HO}
theorem bC.lt(x:bC P w H h a o):a<h.objs.size:=by
 cases o with
 |lst xs=>obtain⟨_,_,_,_,e⟩:=x;exact Kc e
 |tup xs=>obtain⟨_,_,_,p⟩:=x;exact p.lt
 |dK kvs=>obtain⟨_,_,_,_,o,_,_,e,_⟩:=x;exact Kc e
 |dT kvs=>obtain⟨_,_,_,_,o,_,_,e,_⟩:=x;exact Kc e
 |set S n=>obtain⟨o,_,_,_,e,_⟩:=x;exact Kc e
 |ins C dx fs=>obtain⟨_,_,_,e,_⟩:=x;exact Kc e
 |own y=>obtain⟨_,e⟩:=x;exact Kc e
 |xd fs=>obtain⟨_,⟨_,_,_,e,_⟩,_⟩:=x;exact Kc e
 |rng lo hi=>obtain⟨_,_,_,e⟩:=x;exact Kc e
 |frz ob u=>obtain⟨e,_⟩:=x;exact Kc e
 |tbl ps=>exact Kc (show h.get? a=some _ from x)
 |met f y=>exact Kc (show h.get? a=some _ from x)
 |ext φ=>obtain⟨_,⟨_,e⟩,_⟩:=x;exact Kc e
theorem Paired.mapP{α β:Type}{F G:α->β->Prop}{l₁:List α}{l₂:List β}(h:KQ F l₁ l₂)(f:∀a b,F a b->G a b):KQ G l₁ l₂:=by
 induction h with
 |nil=>exact .nil
 |cons r _ ih=>exact .cons (f _ _ r) ih
theorem bC.stay(x:bC P w H h a o)(k:∀b u,(b=a\/H b=some (.own a))->h.get? b=some u->h'.get? b=some u)
  (ho:∀b,H b=some (.own a)->H' b=some (.own a)) (ht:∀b xs,H b=some (.tup xs)->H' b=some (.tup xs)):bC P w H' h' a o:=by
 induction o with
 |lst xs=>obtain⟨z,its,n,r,e⟩:=x;exact⟨z,its,n,r,k _ _ (.inl rfl) e⟩
 |tup xs=>obtain⟨z,its,r,ob,e,c⟩:=x;exact⟨z,its,r,ob,k _ _ (.inl rfl) e,c⟩
 |dK kvs=>obtain⟨z,y,vs,r,ob,es,ep,e,c⟩:=x;exact⟨z,y,vs,r,ob,es,ep,k _ _ (.inl rfl) e,c⟩
 |dT kvs=>
  obtain⟨z,y,xs,r,ob,es,ep,e,c⟩:=x;exact⟨z,y,xs,Paired.mapP r λp q z=>⟨z.1,ht _ _ z.2.1,z.2.2⟩,ob,es,ep,k _ _ (.inl rfl) e,c⟩
 |set S n=>obtain⟨ob,es,ep,t,e,c⟩:=x;exact⟨ob,es,ep,t,k _ _ (.inl rfl) e,c⟩
 |ins C dx fs=>
  obtain⟨d,z,ne,e,mA,⟨od,es,ep,e2,c⟩,r⟩:=x;exact⟨ho _ d,z,ne,k _ _ (.inl rfl) e,mA,⟨od,es,ep,k _ _ (.inr d) e2,c⟩,r⟩
 |own y=>obtain⟨ob,e⟩:=x;exact⟨ob,k _ _ (.inl rfl) e⟩
 |xd fs=>obtain⟨mA,⟨od,es,ep,e,c⟩,r⟩:=x;exact⟨mA,⟨od,es,ep,k _ _ (.inl rfl) e,c⟩,r⟩
 |rng lo hi=>obtain⟨t,u,v,e⟩:=x;exact⟨t,u,v,k _ _ (.inl rfl) e⟩
 |frz ob u ih=>obtain⟨e,q⟩:=x;exact⟨k _ _ (.inl rfl) e,ih q⟩
 |tbl ps=>
  have e:h.get? a=some {cls:=.none,data:=.fields ps}:=x;show h'.get? a=some {cls:=.none,data:=.fields ps};exact k a _ (.inl rfl) e
 |met f y=>
  have e:h.get? a=some (JZ (.ref f) (.ref y)):=x;show h'.get? a=some (JZ (.ref f) (.ref y));exact k a _ (.inl rfl) e
 |ext φ=>obtain⟨p,⟨o,e⟩,st⟩:=x;exact⟨st _ _ _ _ p ho k,⟨o,k _ _ (.inl rfl) e⟩,st⟩
theorem jV.lt(x:jV P w H h)(e:H a=some o):a<h.objs.size:=(x a o e).lt
theorem jV.fresh(x:jV P w H h)(e:h.objs.size<=a):H a=none:=by
 cases q:H a with
 |none=>rfl
 |some u=>exact absurd (G0 (x.lt q) e) (G1 _)
theorem jV.kept(x:jV P w H h)(k:∀b u,h.get? b=some u->h'.get? b=some u):jV P w H h':=λa o e=>
 (x a o e).stay (λb u _ q=>k b u q) (λ_ q=>q) λ_ _ q=>q
theorem jV.laid(x:jV P w H h)(k:∀b u,h.get? b=some u->h'.get? b=some u)(hp:h.objs.size<=a)(new:bC P w (upd H a o) h' a o):jV P w (upd H a o) h':=λb u e=>by
 have hn:=x.fresh hp;by_cases hb:b=a
 ·subst hb;rw[ao]at e;cases e;exact new
 ·rw[aq hb]at e;exact(x b u e).stay (λc v _ q=>k c v q) (λc q=>by rw[aq (aN q hn)];exact q) λc xs q=>by rw[aq (aN q hn)];exact q
end
noncomputable def Rd(H:Hp)(a:KI)(u:HO):Prop:=H a=some u\/∃o,H a=some (.frz o u)
theorem Rd.ok{P:KP}{w:KO}{H:Hp}{h:KR}{a:KI}{u:HO}(r:Rd H a u)(x:jV P w H h):bC P w H h a u:=by
 rcases r with r|⟨o,r⟩
 ·exact x a u r
 ·obtain⟨_,q⟩:=x a _ r;exact q
noncomputable def D8:Option HO->Prop
 |some (.lst _)=>True
 |some (.dK _)=>True
 |some (.dT _)=>True
 |some (.set _ _)=>True
 |some (.ins _ _ _)=>True
 |some (.ext _)=>True
 |_=>False
section
variable{P:KP}{w:KO}{H:Hp}{h h':KR}{x e:KI}{o':HO}
theorem jV.write(ok:jV P w H h)(mu:D8 (H x))(he:e=x\/H e=some (.own x))(k:∀b u,b≠e->h.get? b=some u->h'.get? b=some u)(heo:∃u,h'.get? e=some u)
  (new:bC P w (upd H x o') h' x o'):jV P w (upd H x o') h':=λb u q=>by
 have nown:∀c y,H c=some (.own y)->c≠x:=λc y r z=>by subst z;rw[r]at mu;exact mu
 have ntup:∀c xs,H c=some (.tup xs)->c≠x:=λc xs r z=>by subst z;rw[r]at mu;exact mu
 by_cases hb:b=x
 ·subst hb;rw[ao]at q;cases q;exact new
 ·rw[aq hb]at q;by_cases hbe:b=e
  ·have q':H b=some (.own x):=by
    rcases he with z|z
    ·exact absurd (hbe.trans z) hb
    ·rw[hbe];exact z
   rw[q]at q';cases q';obtain⟨v,hv⟩:=heo;exact⟨v,by rw[hbe];exact hv⟩
  ·refine(ok b u q).stay (λc v hc r=>k c v ?_ r) (λc r=>by rw[aq (nown c b r)];exact r) λc xs r=>by rw[aq (ntup c xs r)];exact r
   rcases hc with rfl|hc
   ·exact hbe
   ·rintro rfl;rcases he with z|z
    ·exact nown c b hc z
    ·rw[hc]at z;cases z;exact hb rfl
end
structure Un(fs ex:ah)(H H':Hp)(h h':KR):Prop where
 keep:∀b o,h.get? b=some o->H b=none->b∉fs->b∉ex->h'.get? b=some o
 slot:∀b o,h.get? b=some o->H b=none->b∈fs->b∉ex->∃sl,h'.get? b=some {o with slots:=sl}
 free:∀b o,h.get? b=some o->H b=none->b∉ex->H' b=none
 there:∀b o,h.get? b=some o->b∉ex->∃o',h'.get? b=some o'
 tups:∀b xs,H b=some (.tup xs)->H' b=some (.tup xs)
 frzs:∀b o u,H b=some (.frz o u)->H' b=some (.frz o u)
 tbls:∀b ps,H b=some (.tbl ps)->∃more,H' b=some (.tbl (ps++more))
section
variable{fs fs' ex ex':ah}{H H1 H2:Hp}{h h1 h2 h':KR}{a x e:KI}{o:HO}
theorem Un.any(u:Un fs ex H H1 h h1){b:KI}{ob:Obj}(q:h.get? b=some ob)(n:H b=none)(hx:b∉ex):∃sl,h1.get? b=some {ob with slots:=sl}:=by
 by_cases hb:b∈fs
 ·exact u.slot b ob q n hb hx
 ·exact⟨ob.slots,u.keep b ob q n hb hx⟩
theorem Un.kept(k:∀b u,h.get? b=some u->h'.get? b=some u):Un fs ex H H h h':=
 ⟨λb ob q _ _ _=>k b ob q,λb ob q _ _ _=>⟨ob.slots,k b ob q⟩,λ_ _ _ n _=>n,λb ob q _=>⟨ob,k b ob q⟩,λ_ _ q=>q,λ_ _ _ q=>q,λ_ ps q=>⟨#[],by rw[q];simp⟩⟩
theorem Un.refl:Un fs ex H H h h:=Un.kept λ_ _ q=>q
theorem Un.laid(k:∀b u,h.get? b=some u->h'.get? b=some u)(hp:h.objs.size<=a)(hn:H a=none):Un fs ex H (upd H a o) h h' where
 keep:=λb u q _ _ _=>k b u q
 slot:=λb u q _ _ _=>⟨u.slots,k b u q⟩
 free:=λb u q n _=>by rw[aq (G2 (G0 (Kc q) hp))];exact n
 there:=λb u q _=>⟨u,k b u q⟩
 tups:=λb xs q=>by rw[aq (aN q hn)];exact q
 frzs:=λb u xs q=>by rw[aq (aN q hn)];exact q
 tbls:=λb ps q=>⟨#[],by rw[aq (aN q hn),q];simp⟩
theorem Un.write(mu:D8 (H x))(he:e=x\/H e=some (.own x))(k:∀b u,b≠e->h.get? b=some u->h'.get? b=some u)(heo:∃u,h'.get? e=some u):Un fs ex H (upd H x o) h h':=by
 have hx:∀b,H b=none->b≠x:=λb n z=>by subst z;rw[n]at mu;exact mu
 have hb:∀b,H b=none->b≠e:=λb n z=>by
  subst z;rcases he with r|r
  ·exact hx b n r
  ·rw[n]at r;cases r
 have hm:∀b u,H b=some u->¬D8 (some u)->b≠x:=λb u q nm z=>by subst z;rw[q]at mu;exact nm mu
 refine⟨λb u q n _ _=>k b u (hb b n) q,λb u q n _ _=>⟨u.slots,k b u (hb b n) q⟩,λb u q n _=>by rw[aq (hx b n)];exact n,λb u q _=>?_,
  λb xs q=>by rw[aq (hm b _ q λz=>z)];exact q,λb u xs q=>by rw[aq (hm b _ q λz=>z)];exact q,λb ps q=>⟨#[],by rw[aq (hm b _ q λz=>z),q];simp⟩⟩
 by_cases hbe:b=e
 ·subst hbe;exact heo
 ·exact⟨u,k b u hbe q⟩
end
noncomputable def ER(h:KR)(H:Hp):ah:=(List.range h.objs.size).filter λa=>(H a).isSome
noncomputable def n8(h:KR)(H:Hp):KR:=PySem.W.hideAll h (ER h H)
theorem tY(h:KR)(H:Hp):(n8 h H).objs.size=h.objs.size:=PySem.W.hideAll_size _ _
theorem wY{h:KR}{H:Hp}{b:KI}{o:Obj}(e:h.get? b=some o)(n:H b=none):(n8 h H).get? b=some o:=
 PySem.W.hideAll_get _ e λhm=>by
  have q:(H b).isSome=true:=(List.mem_filter.mp hm).2;rw[n]at q;simp at q
theorem zj{h:KR}{H:Hp}{b:KI}{o:Obj}(e:(n8 h H).get? b=some o):h.get? b=some o/\H b=none:=by
 have e':h.get? b=some o:=PySem.W.of_hideAll (ER h H) e;refine⟨e',?_⟩;cases q:H b with
 |none=>rfl
 |some x=>
  have hm:b∈ER h H:=List.mem_filter.mpr ⟨List.mem_range.mpr (Kc e'),by simp[q]⟩;have z:(n8 h H).get? b=none:=PySem.W.hideAll_none (ER h H) hm;rw[z]at e;cases e
noncomputable def yY(g h:KR)(L:KI):aH:=(List.range h.objs.size).filterMap λa=>if a=L\/(g.get? a).isSome=true then none else(h.get? a).map λo=>(a,o)
noncomputable def rest(g h:KR)(L d:KI):aH:=(yY g h L).filter λp=>decide (p.1≠d)
structure Mod(K:J1)(mg:cF)(base:KR):Prop where
 kin:K.In base
 glob:base.Ns KU mg
 blt:∃mb,base.Ns builtinsNs mb/\∀x:Str,x≠"__name__"->mb x=KW x
 nolimit:base.NoLimit
structure Cx where
 prog:KP
 w:KO
 K:J1
 mg:cF
 base:KR
 A:KY
 N:aK
 s₀:KN
 H₀:Hp
 env:Env
 outer:List Env
 stack:List Env
 ex:ah
 fn:Str->Bool
 calm:Bool
 pn:aH
 xe:aA
noncomputable def frs(l:List Env):ah:=l.filterMap (·.frame)
noncomputable abbrev Cx.fs(X:Cx):ah:=frs X.outer
noncomputable def Dc(sc:KZ)(x:Str):Prop:=sc.names.lookup x=some .local\/sc.names.lookup x=some .cell\/sc.names.lookup x=some .free
noncomputable def Loc(sc:KZ)(x:Str):Prop:=sc.names.lookup x=some .local\/sc.names.lookup x=some .cell
noncomputable def Look(env:Env)(h:KR)(m:cF)(x:Str)(u:KG):Prop:=
 (env.kindOf x=some .local/\m x=some u)\/((env.kindOf x=some .cell\/env.kindOf x=some .free)/\∃c,env.cells.lookup x=some c/\h.IsCell c (some u))
structure Cx.Ok(X:Cx):Prop where
 mod:Mod X.K X.mg X.base
 kind:X.env.scope.kind=.function
 glob:X.env.globals=KU
 blt:X.env.builtins=builtinsNs
 above:X.s₀.heap.objs.size<=X.env.locals
 inj:∀x y c,X.env.cells.lookup x=some c->X.env.cells.lookup y=some c->x=y
 has:∀x,(X.env.kindOf x=some .cell\/X.env.kindOf x=some .free)->∃c,X.env.cells.lookup x=some c
 cab:∀x c,X.fn x=true->X.env.cells.lookup x=some c->X.s₀.heap.objs.size<=c
 hd:X.calm=true->X.A.handled=none
 frames:X.A.frames=some X.stack
 stk:X.stack=X.outer\/(X.stack=X.env::X.outer/\X.env.frame=some X.env.locals)
 exf:∀b∈X.ex,b≠X.env.locals/\∀x c,X.env.cells.lookup x=some c->c≠b
 bs:∀b o,X.base.get? b=some o->X.s₀.heap.get? b=some o/\X.H₀ b=none
 bsz:X.base.objs.size<=X.s₀.heap.objs.size
 noex:∀b o,X.base.get? b=some o->b∉X.ex
 exfs:∀b∈X.ex,b∉X.fs
 funs:X.s₀.heap.FunFrames X.base X.outer
 frf:∀b∈X.fs,X.H₀ b=none
structure Inv(X:Cx)(pins:aH)(σ:List (Option V))(H:Hp)(s:KN):Prop where
 ok:X.Ok
 os:s.os=X.s₀.os
 bare:AllBare s.gens
 base:Un X.fs X.ex X.H₀ H X.s₀.heap s.heap
 loc:∃m,s.heap.Ns X.env.locals m/\∀(i:Nat)(x:Str)(v:V),X.N[i]?=some x->σ[i]?=some (some v)->Dc X.env.scope x->∃u,RelV v u/\Look X.env s.heap m x u
 cell:∀x c,X.env.cells.lookup x=some c->∃v,s.heap.IsCell c v
 free:H X.env.locals=none
 freeC:∀x c,X.env.cells.lookup x=some c->H c=none
 pin:∀p∈X.pn++pins,s.heap.get? p.1=some p.2/\H p.1=none/\p.1≠X.env.locals/\p.1∉X.fs/\∀v,p.2.data≠.cell v
 hok:jV X.prog X.w H s.heap
 len:σ.length=X.N.length
section
variable{X:Cx}{pins:aH}{σ:List (Option V)}{H H':Hp}{s:KN}{h':KR}
theorem Cx.Ok.nofr(ok:X.Ok){b:KI}{o:Obj}(e:X.base.get? b=some o):b∉X.fs:=λhb=>by
 have:=(ok.funs.mem hb).1
 rw[e]at this;cases this
theorem Inv.bs(I:`h):∀b o,X.base.get? b=some o->s.heap.get? b=some o/\H b=none:=λb o e=>
 ⟨I.base.keep b o (I.ok.bs b o e).1 (I.ok.bs b o e).2 (I.ok.nofr e) (I.ok.noex b o e),I.base.free b o (I.ok.bs b o e).1 (I.ok.bs b o e).2 (I.ok.noex b o e)⟩
theorem Inv.bk(I:`h):∀b o,X.base.get? b=some o->s.heap.get? b=some o:=λb o e=>(I.bs b o e).1
theorem Inv.mod(I:`h):Mod X.K X.mg X.base:=I.ok.mod
theorem Inv.kIn(I:`h):X.K.In s.heap:=I.ok.mod.kin.keeps I.bk
theorem Inv.lt(I:`h):X.env.locals<s.heap.objs.size:=let ⟨_,hn,_⟩:=I.loc;hn.lt
theorem Inv.sz(I:`h):X.s₀.heap.objs.size<=s.heap.objs.size:=G3 I.ok.above (G4 I.lt)
theorem Inv.nofs(I:`h){a:KI}(h:s.heap.objs.size<=a):a∉X.fs:=λhb=>by
 obtain⟨_,o,ho,_⟩:=I.ok.funs.mem hb;exact absurd (G0 (Kc ho) (G3 I.sz h)) (G1 _)
theorem Inv.cne(I:`h):∀x c,X.env.cells.lookup x=some c->c≠X.env.locals:=λx c e z=>by
 obtain⟨v,o,ho,hd⟩:=I.cell x c e;obtain⟨m,⟨o',es,ep,ho',hd',_⟩,_⟩:=I.loc;rw[z,ho']at ho;cases ho;rw[hd']at hd;cases hd
theorem Inv.funs(I:`h):s.heap.FunFrames X.base X.outer:=by
 have all:∀(l:List Env),(∀b∈frs l,b∈X.fs)->X.s₀.heap.FunFrames X.base l->s.heap.FunFrames X.base l:=by
  intro l
  induction l with
  |nil=>intro _ _;trivial
  |cons env r ih=>
   intro hs hl;obtain⟨hk,⟨L,o,hf,hn,ho,hd⟩,hr⟩:=hl;have hL:L∈X.fs:=hs L (by unfold frs;rw[G8,hf];exact G9);obtain⟨sl,e⟩:=I.base.slot L o ho (I.ok.frf L hL) hL λz=>I.ok.exfs L z hL;exact⟨hk,⟨L,_,hf,hn,e,hd⟩,ih (λb hb=>hs b (by unfold frs;rw[G8,hf];exact Ha _ hb)) hr⟩
 exact all X.outer (λ_ hb=>hb) I.ok.funs
theorem Inv.stack(I:`h):s.heap.FunFrames X.base X.stack:=by
 rcases I.ok.stk with e|⟨e,hf⟩
 ·rw[e];exact I.funs
 ·rw[e];obtain⟨m,hn,_⟩:=I.loc;refine .cons (by rw[I.ok.kind];decide) hf hn ?_ I.funs;exact Kd (G3 I.ok.bsz I.ok.above)
theorem Inv.stkSub(I:`h):∀b∈frs X.stack,b∈X.env.locals::X.fs:=λb hb=>by
 rcases I.ok.stk with e|⟨e,hf⟩
 ·rw[e]at hb;exact Ha _ hb
 ·rw[e]at hb;unfold frs at hb;rw[G8,hf]at hb;exact hb
theorem Inv.stkFree(I:`h):∀b∈frs X.stack,H b=none:=λb hb=>by
 rcases List.mem_cons.mp (I.stkSub b hb)with e|hb
 ·rw[e];exact I.free
 ·obtain⟨_,o,ho,_⟩:=I.ok.funs.mem hb;exact I.base.free b o ho (I.ok.frf b hb) λz=>I.ok.exfs b z hb
theorem Inv.step{g':Array GenState}{t':Nat}{d':Drawn}{ch:ah}(I:`h)
  (hch:∀b∈ch,(b∈X.ex\/X.s₀.heap.objs.size<=b)/\b≠X.env.locals/\(∀x c,X.env.cells.lookup x=some c->c≠b)/\∀p∈X.pn++pins,p.1≠b)
  (keep:∀b o,b≠X.env.locals->b∉X.fs->b∉ch->s.heap.get? b=some o->H b=none->h'.get? b=some o)
  (slot:∀b o,b≠X.env.locals->b∈X.fs->b∉ch->s.heap.get? b=some o->H b=none->∃sl,h'.get? b=some {o with slots:=sl}) (free:∀b o,b∉ch->s.heap.get? b=some o->H b=none->H' b=none)
  (there:∀b o,b∉ch->s.heap.get? b=some o->∃o',h'.get? b=some o')
  (tups:∀b xs,H b=some (.tup xs)->H' b=some (.tup xs)) (frzs:∀b o u,H b=some (.frz o u)->H' b=some (.frz o u)) (tbls:∀b ps,H b=some (.tbl ps)->∃more,H' b=some (.tbl (ps++more)))
  (ns:∀m,s.heap.Ns X.env.locals m->h'.Ns X.env.locals m) (hok:jV X.prog X.w H' h') (hg:AllBare g'):
  Inv X pins σ H' {s with heap:=h',gens:=g',drawn:=d',toks:=t'}:=by
 have neL:∀b o,X.s₀.heap.get? b=some o->b≠X.env.locals:=λb o e=>G2 (G0 (Kc e) I.ok.above);have neC:∀b o,X.s₀.heap.get? b=some o->b∉X.ex->b∉ch:=λb o e hx hb=>by
  rcases(hch b hb).1 with z|z
  ·exact hx z
  ·exact absurd (G0 (Kc e) z) (G1 _)
 have cellK:∀x c,X.env.cells.lookup x=some c->∀v,s.heap.IsCell c v->h'.IsCell c v:=λx c e v zq=>zq.elim λo zq=>zq.elim λho hd=>by
  have nch:c∉ch:=λz=>(hch c z).2.2.1 x c e rfl;by_cases hc:c∈X.fs
  ·obtain⟨sl,q⟩:=slot c o (I.cne x c e) hc nch ho (I.freeC x c e);exact⟨_,q,hd⟩
  ·exact⟨o,keep c o (I.cne x c e) hc nch ho (I.freeC x c e),hd⟩
 refine⟨I.ok,I.os,hg,⟨λb o e n hb hx=>?_,λb o e n hb hx=>?_,λb o e n hx=>?_,λb o e hx=>?_,λb xs e=>tups b xs (I.base.tups b xs e),λb o xs e=>frzs b o xs (I.base.frzs b o xs e),λb ps e=>?_⟩,?_,λx c e=>?_,?_,λx c e=>?_,λp hp=>?_,hok,I.len⟩
 ·exact keep b o (neL b o e) hb (neC b o e hx) (I.base.keep b o e n hb hx) (I.base.free b o e n hx)
 ·obtain⟨sl,e1⟩:=I.base.slot b o e n hb hx;obtain⟨sl',e2⟩:=slot b _ (neL b o e) hb (neC b o e hx) e1 (I.base.free b o e n hx);exact⟨sl',e2⟩
 ·obtain⟨o',e1⟩:=I.base.there b o e hx;exact free b o' (neC b o e hx) e1 (I.base.free b o e n hx)
 ·obtain⟨o',e1⟩:=I.base.there b o e hx;exact there b o' (neC b o e hx) e1
 ·obtain⟨m1,e1⟩:=I.base.tbls b ps e;obtain⟨m2,e2⟩:=tbls b _ e1;exact⟨m1++m2,by rw[e2,Array.append_assoc]⟩
 ·obtain⟨m,hn,hl⟩:=I.loc;refine⟨m,ns m hn,λi x v e1 e2 e3=>?_⟩;obtain⟨u,r,l⟩:=hl i x v e1 e2 e3;refine⟨u,r,?_⟩;rcases l with l|⟨k,c,e,z⟩
  ·exact .inl l
  ·exact .inr ⟨k,c,e,cellK x c e _ z⟩
 ·obtain⟨v,z⟩:=I.cell x c e;exact⟨v,cellK x c e v z⟩
 ·obtain⟨m,⟨o,_,_,ho,_⟩,_⟩:=I.loc;exact free _ o (λz=>(hch _ z).2.1 rfl) ho I.free
 ·obtain⟨v,o,ho,hd⟩:=I.cell x c e;exact free c o (λz=>(hch c z).2.2.1 x c e rfl) ho (I.freeC x c e)
 ·obtain⟨e,n,ne,nf,d⟩:=I.pin p hp;have nch:p.1∉ch:=λz=>(hch p.1 z).2.2.2 p hp rfl;exact⟨keep p.1 p.2 ne nf nch e n,free p.1 p.2 nch e n,ne,nf,d⟩
theorem Inv.un{t':Nat}(I:`h)(u:Un X.fs [] H H' s.heap h')(hok:jV X.prog X.w H' h'):Inv X pins σ H' {s with heap:=h',toks:=t'}:=by
 obtain⟨m,⟨o,es,ep,ho,r⟩,_⟩:=id I.loc;obtain⟨sl,hL⟩:=u.any ho I.free (by simp);exact I.step (g':=s.gens) (d':=s.drawn) (ch:=[]) (λ_ z=>nomatch z) (λb o _ hb _ e n=>u.keep b o e n hb (by simp)) (λb o _ hb _ e n=>u.slot b o e n hb (by simp)) (λb o _ e n=>u.free b o e n (by simp)) (λb o _ e=>u.there b o e (by simp)) u.tups u.frzs u.tbls (λm' hm=>by
  obtain⟨o',es',ep',ho',r'⟩:=hm;rw[ho]at ho';cases ho';exact⟨_,es',ep',hL,r'⟩) hok I.bare
theorem Inv.call{g':Array GenState}{t':Nat}{d':Drawn}{ch:ah}(I:`h)(u:Un (frs X.stack) ch H H' s.heap h')(hok:jV X.prog X.w H' h')(hg:AllBare g')
  (hch:∀b∈ch,(b∈X.ex\/X.s₀.heap.objs.size<=b)/\b≠X.env.locals/\(∀x c,X.env.cells.lookup x=some c->c≠b)/\∀p∈X.pn++pins,p.1≠b):
  Inv X pins σ H' {s with heap:=h',gens:=g',drawn:=d',toks:=t'}:=by
 obtain⟨m,⟨o,es,ep,ho,r⟩,_⟩:=id I.loc;obtain⟨sl,hL⟩:=u.any ho I.free λz=>(hch _ z).2.1 rfl;exact I.step (ch:=ch) hch (λb o hL hb hc e n=>u.keep b o e n (λz=>(List.mem_cons.mp (I.stkSub b z)).elim hL hb) hc) (λb o _ _ hc e n=>u.any e n hc) (λb o hc e n=>u.free b o e n hc) (λb o hc e=>u.there b o e hc) u.tups u.frzs u.tbls (λm' hm=>by
  obtain⟨o',es',ep',ho',r'⟩:=hm;rw[ho]at ho';cases ho';exact⟨_,es',ep',hL,r'⟩) hok hg
theorem Inv.turned{t':Nat}{it:KI}(I:`h)(k:∀b o,b≠it->s.heap.get? b=some o->h'.get? b=some o)(hn:H it=none)(hL:it≠X.env.locals)
  (h1:it∈X.ex\/X.s₀.heap.objs.size<=it) (h2:∀x c,X.env.cells.lookup x=some c->c≠it) (h3:∀p∈X.pn++pins,p.1≠it):Inv X pins σ H {s with heap:=h',toks:=t'}:=by
 have nit:∀b u,H b=some u->b≠it:=λb u e z=>by rw[z,hn]at e;cases e
 refine I.step (g':=s.gens) (d':=s.drawn) (ch:=[it]) (λb hb=>?_) (λb o _ _ hc e _=>k b o (λz=>hc (by simp[z])) e) (λb o _ _ hc e _=>⟨o.slots,k b o (λz=>hc (by simp[z])) e⟩) (λ_ _ _ _ n=>n)
  (λb o hc e=>⟨o,k b o (λz=>hc (by simp[z])) e⟩) (λ_ _ e=>e) (λ_ _ _ e=>e) (λb ps e=>⟨#[],by rw[e];simp⟩) (λm hm=>?_) (λb u e=>?_) I.bare
 ·have e:b=it:=by simpa using hb
  subst e;exact⟨h1,hL,h2,h3⟩
 ·obtain⟨o,es,ep,ho,r⟩:=hm;exact⟨o,es,ep,k _ o (Ne.symm hL) ho,r⟩
 ·refine(I.hok b u e).stay (λc v hc q=>k c v ?_ q) (λ_ q=>q) λ_ _ q=>q;rcases hc with z|z
  ·rw[z];exact nit b u e
  ·exact nit c _ z
theorem Inv.tok(I:`h)(t:Nat):Inv X pins σ H {s with toks:=t}:=I.un (h':=s.heap) (t':=t) Un.refl I.hok
theorem Inv.kept{t':Nat}(I:`h)(k:∀b u,s.heap.get? b=some u->h'.get? b=some u):Inv X pins σ H {s with heap:=h',toks:=t'}:=I.un (Un.kept k) (I.hok.kept k)
theorem Inv.laid{a:KI}{o:HO}{t':Nat}(I:`h)(k:∀b u,s.heap.get? b=some u->h'.get? b=some u)(hp:s.heap.objs.size<=a)(new:bC X.prog X.w (upd H a o) h' a o):
  Inv X pins σ (upd H a o) {s with heap:=h',toks:=t'}:=I.un (Un.laid k hp (I.hok.fresh hp)) (I.hok.laid k hp new)
theorem Inv.write{x e:KI}{o:HO}{t':Nat}(I:`h)(mu:D8 (H x))(he:e=x\/H e=some (.own x))(k:∀b u,b≠e->s.heap.get? b=some u->h'.get? b=some u)(heo:∃u,h'.get? e=some u)
  (new:bC X.prog X.w (upd H x o) h' x o):Inv X pins σ (upd H x o) {s with heap:=h',toks:=t'}:=I.un (Un.write mu he k heo) (I.hok.write mu he k heo new)
theorem Inv.pins_of{pins':aH}(I:`h)(h:∀p∈pins',s.heap.get? p.1=some p.2/\H p.1=none/\p.1≠X.env.locals/\p.1∉X.fs/\∀v,p.2.data≠.cell v):Inv X pins' σ H s:=
 ⟨I.ok,I.os,I.bare,I.base,I.loc,I.cell,I.free,I.freeC,λp hp=>(List.mem_append.mp hp).elim (λz=>I.pin p (Hc _ z)) (h p),I.hok,I.len⟩
theorem o3{N:aK}(hN:N.Nodup){i j:Nat}{x:Str}(a:N[i]?=some x)(b:N[j]?=some x):i=j:=by
 obtain⟨h1,e1⟩:=List.getElem?_eq_some_iff.mp a;obtain⟨h2,e2⟩:=List.getElem?_eq_some_iff.mp b;exact(List.getElem_inj hN).mp (e1.trans e2.symm)
theorem nQ{M:K1}{A:KY}{E:aA}{i:Nat}{x:Str}{v:V}{u:KG}{Q:Unit->bu}(I:`h)(hN:X.N.Nodup)(hi:X.N[i]?=some x)(hx:Loc X.env.scope x)(r:RelV v u)
  (h:∀s',Inv X pins (σ.set i (some v)) H s'->(∃a,Ke a s.heap s'.heap/\(a=X.env.locals\/X.env.cells.lookup x=some a))->Q () s') (hf:X.fn x=true\/X.env.scope.names.lookup x=some .local:=by first|exact .inl rfl|exact .inr rfl|assumption):K2 M A (storeName X.env x u) Q E s:=by
 obtain⟨m,hn,hl⟩:=id I.loc;have hcls:(X.env.scope.kind==.class||(X.env.scope.kind==.module&&X.env.locals !=X.env.globals))=false:=by rw[I.ok.kind];rfl
 have hiσ:i<σ.length:=by rw[I.len];exact(List.getElem?_eq_some_iff.mp hi).1
 have cne:=I.cne;have tracked:∀{a:KI}{h':KR},(∃o,s.heap.get? a=some o/\H a=none)->Ke a s.heap h'->jV X.prog X.w H h':=λ{a h'} ha hs b ob e=>by
  obtain⟨_,_,hfree⟩:=ha;refine(I.hok b ob e).stay (λc w' hc q=>(hs.2 c ?_).trans q) (λ_ q=>q) λ_ _ q=>q;rintro rfl;rcases hc with rfl|hc
  ·rw[hfree]at e;cases e
  ·rw[hfree]at hc;cases hc
 rcases hx with hk|hk
 ·refine wpAny_storeName_local hk hn (λh' hn' hs=>?_) hcls;obtain⟨oL,_,_,hoL,_⟩:=id hn;refine h _ ⟨I.ok,I.os,I.bare,⟨λb o e n hb hx=>?_,λb o e n hb hx=>?_,I.base.free,λb o e hx=>?_,I.base.tups,I.base.frzs,I.base.tbls⟩,⟨_,hn',λj y v' e1 e2 e3=>?_⟩,λy c e=>?_,I.free,I.freeC,λp hp=>?_,tracked ⟨oL,hoL,I.free⟩ hs,by simpa using I.len⟩ ⟨_,hs,.inl rfl⟩
  ·exact(hs.2 b (G2 (G0 (Kc e) I.ok.above))).trans (I.base.keep b o e n hb hx)
  ·obtain⟨sl,e1⟩:=I.base.slot b o e n hb hx;exact⟨sl,(hs.2 b (G2 (G0 (Kc e) I.ok.above))).trans e1⟩
  ·obtain⟨o',e1⟩:=I.base.there b o e hx;exact⟨o',(hs.2 b (G2 (G0 (Kc e) I.ok.above))).trans e1⟩
  ·by_cases hj:j=i
   ·subst hj;rw[hi]at e1;cases e1;rw[He hiσ]at e2;cases e2;exact⟨u,r,.inl ⟨hk,by simp⟩⟩
   ·rw[Hf (Ne.symm hj)]at e2;obtain⟨u',r',q⟩:=hl j y v' e1 e2 e3;refine⟨u',r',?_⟩;rcases q with⟨k,e⟩|⟨k,c,e,z⟩
    ·refine .inl ⟨k,?_⟩
     have:y≠x:=λe=>hj (o3 hN e1 (e ▸ hi))
     simp[this,e]
    ·exact .inr ⟨k,c,e,z.sameBut hs (cne y c e)⟩
  ·obtain⟨w',z⟩:=I.cell y c e;exact⟨w',z.sameBut hs (cne y c e)⟩
  ·obtain⟨e,n,ne,nf,d⟩:=I.pin p hp;exact⟨(hs.2 p.1 ne).trans e,n,ne,nf,d⟩
 ·have hfn:X.fn x=true:=by
   rcases hf with z|z
   ·exact z
   ·rw[z]at hk;cases hk
  obtain⟨c,hc⟩:=I.ok.has x (.inl hk);obtain⟨w',z⟩:=I.cell x c hc;refine wpAny_storeName_cell I.ok.kind hk hc z (λh' hc' hs=>?_);obtain⟨oc,hoc,hocd⟩:=id z;refine h {s with heap:=h'} ⟨I.ok,I.os,I.bare,⟨λb o e n hb hx=>?_,λb o e n hb hx=>?_,I.base.free,λb o e hx=>?_,I.base.tups,I.base.frzs,I.base.tbls⟩,⟨m,hn.sameBut hs (Ne.symm (cne x c hc)),λj y v' e1 e2 e3=>?_⟩,λy c' e=>?_,I.free,I.freeC,λp hp=>?_,tracked ⟨oc,hoc,I.freeC x c hc⟩ hs,by simpa using I.len⟩ ⟨c,hs,.inr hc⟩
  ·exact(hs.2 b (G2 (G0 (Kc e) (I.ok.cab x c hfn hc)))).trans (I.base.keep b o e n hb hx)
  ·obtain⟨sl,e1⟩:=I.base.slot b o e n hb hx;exact⟨sl,(hs.2 b (G2 (G0 (Kc e) (I.ok.cab x c hfn hc)))).trans e1⟩
  ·obtain⟨o',e1⟩:=I.base.there b o e hx;exact⟨o',(hs.2 b (G2 (G0 (Kc e) (I.ok.cab x c hfn hc)))).trans e1⟩
  ·by_cases hj:j=i
   ·subst hj;rw[hi]at e1;cases e1;rw[He hiσ]at e2;cases e2;exact⟨u,r,.inr ⟨.inl hk,c,hc,hc'⟩⟩
   ·rw[Hf (Ne.symm hj)]at e2;obtain⟨u',r',q⟩:=hl j y v' e1 e2 e3;refine⟨u',r',?_⟩;rcases q with q|⟨k,c',e,z'⟩
    ·exact .inl q
    ·refine .inr ⟨k,c',e,z'.sameBut hs ?_⟩;rintro rfl;exact hj (o3 hN e1 (I.ok.inj _ _ _ e hc ▸ hi))
  ·by_cases hcc:c'=c
   ·subst hcc;exact⟨_,hc'⟩
   ·obtain⟨w2,z2⟩:=I.cell y c' e;exact⟨w2,z2.sameBut hs hcc⟩
  ·obtain⟨e,n,ne,nf,d⟩:=I.pin p hp;refine⟨(hs.2 p.1 ?_).trans e,n,ne,nf,d⟩;intro q;rw[q,hoc]at e;have q':oc=p.2:=Option.some.inj e;exact d w' (by rw[<-q'];exact hocd)
theorem pQ{M:K1}{A:KY}{E:aA}{i:Nat}{x:Str}{v:V}{u:KG}{Q:Unit->bu}(I:`h)(hN:X.N.Nodup)(hi:X.N[i]?=some x)(hx:Loc X.env.scope x)(r:RelV v u)
  (h:∀s',Inv X pins (σ.set i (some v)) H s'->Q () s') (hf:X.fn x=true\/X.env.scope.names.lookup x=some .local:=by first|exact .inl rfl|exact .inr rfl|assumption):K2 M A (storeName X.env x u) Q E s:=
 nQ I hN hi hx r (λs' I' _=>h s' I') hf
theorem Inv.call'{s':KN}{ch:ah}(I:`h)(ho:s'.os=s.os)(u:Un (frs X.stack) ch H H' s.heap s'.heap)(hok:jV X.prog X.w H' s'.heap)(hg:AllBare s'.gens)
  (hch:∀b∈ch,(b∈X.ex\/X.s₀.heap.objs.size<=b)/\b≠X.env.locals/\(∀x c,X.env.cells.lookup x=some c->c≠b)/\∀p∈X.pn++pins,p.1≠b):Inv X pins σ H' s':=by
 obtain⟨h',g',d',t',o'⟩:=s';have e:o'=s.os:=ho;subst e;exact I.call (g':=g') (t':=t') (d':=d') u hok hg hch
end
noncomputable abbrev XK:=KG->Option KI->Hp->Prop
noncomputable abbrev St:=List (Option V)
noncomputable abbrev VK:=V->Hp->Prop
noncomputable abbrev TE:=St->Hp->VK->Prop
noncomputable abbrev TT:=St->Hp->(Bool->Hp->Prop)->Prop
noncomputable abbrev TA:=St->Hp->(az->Hp->Prop)->Prop
structure Ends where
 nx:St->Hp->Prop
 rt:VK
 bk:St->Hp->Prop:=λ_ _=>False
 ct:St->Hp->Prop:=λ_ _=>False
noncomputable abbrev TS:=Ends->St->Hp->Prop
noncomputable def EP(X:Cx)(pins:aH)(σ:St)(Q:VK)(u:KG)(s':KN):Prop:=∃v H',Inv X pins σ H' s'/\RelV v u/\Q v H'
noncomputable def TP(X:Cx)(pins:aH)(σ:St)(Q:Bool->Hp->Prop)(b:Bool)(s':KN):Prop:=∃H',Inv X pins σ H' s'/\Q b H'
noncomputable def AP(X:Cx)(pins:aH)(σ:St)(Q:az->Hp->Prop)(us:aC)(s':KN):Prop:=∃vs H',Inv X pins σ H' s'/\Vals vs us/\Q vs H'
noncomputable def SP(X:Cx)(pins:aH)(D:Ends)(f:Flow)(s':KN):Prop:=
 match f with
 |.next=>∃σ' H',Inv X pins σ' H' s'/\D.nx σ' H'
 |.brk=>∃σ' H',Inv X pins σ' H' s'/\D.bk σ' H'
 |.cont=>∃σ' H',Inv X pins σ' H' s'/\D.ct σ' H'
 |.ret u=>∃v σ' H',Inv X pins σ' H' s'/\RelV v u/\D.rt v H'
noncomputable def PE(X:Cx)(e:KJ)(t:TE):Prop:=
 ∀(pins:aH)(s:KN)(σ:St)(H:Hp)(Q:VK),Inv X pins σ H s->t σ H Q->K2 `i X.A (eval e X.env) (EP X pins σ Q) X.xe s
noncomputable def PT(X:Cx)(e:KJ)(t:TT):Prop:=
 ∀(pins:aH)(s:KN)(σ:St)(H:Hp)(Q:Bool->Hp->Prop),Inv X pins σ H s->t σ H Q->K2 `i X.A (isTrue e X.env (eval e X.env)) (TP X pins σ Q) X.xe s
noncomputable def PW(X:Cx)(e:KJ)(t:TT):Prop:=
 ∀(whole:Sem KG)(pins:aH)(s:KN)(σ:St)(H:Hp)(Q:Bool->Hp->Prop),Inv X pins σ H s->t σ H Q->K2 `i X.A (isTrue e X.env whole) (TP X pins σ Q) X.xe s
theorem PW.pt{X:Cx}{e:KJ}{t:TT}(h:PW X e t):PT X e t:=h _
noncomputable def PA(X:Cx)(es:aY)(t:TA):Prop:=
 ∀(pos:Pos)(pins:aH)(s:KN)(σ:St)(H:Hp)(Q:az->Hp->Prop),Inv X pins σ H s->t σ H Q->K2 `i X.A (spliced (backTo pos (K3 es X.env))) (AP X pins σ Q) X.xe s
noncomputable def PS(X:Cx)(st:KL)(t:TS):Prop:=
 ∀(pins:aH)(s:KN)(σ:St)(H:Hp)(D:Ends),Inv X pins σ H s->t D σ H->K2 `i X.A (exec st X.env) (SP X pins D) X.xe s
noncomputable def qV(X:Cx)(st:cD)(t:TS):Prop:=
 ∀(pins:aH)(s:KN)(σ:St)(H:Hp)(D:Ends),Inv X pins σ H s->t D σ H->K2 `i X.A (execs st X.env) (SP X pins D) X.xe s
theorem cc{α:Type}{t:Sem α}{Q Q':α->bu}{M:K1}{A:KY}{E:aA}{s:KN}(h:K2 M A t Q E s)(hQ:∀a s,Q a s->Q' a s):K2 M A t Q' E s:=K4 h hQ λ_ _ x=>x
section
variable{X:Cx}
noncomputable def C5(i:Nat):TE:=λσ H Q=>∃v,σ[i]?=some (some v)/\Q v H
noncomputable def tC(v:V):TE:=λ_ H Q=>Q v H
theorem Cq{i:Nat}{x:Str}{pos:Pos}(hN:X.N[i]?=some x)(hv:Dc X.env.scope x)(hd:(x==("__debug__":Str))=false:=by decide)(hcd:(x==("__classdict__":Str))=false:=by decide):PE X (.Name x pos) (C5 i):=by
 intro pins s σ H Q I h;obtain⟨v,e,h⟩:=h;obtain⟨m,hn,hl⟩:=I.loc;obtain⟨u,r,l⟩:=hl i x v hN e hv;have fin:EP X pins σ Q u s:=⟨v,H,I,r,h⟩
 rcases l with⟨hk,hm⟩|⟨hk,c,hc,hcell⟩
 ·exact wpAny_Name (wpAny_loadName_local I.ok.kind hk hn hm fin) hd
 ·rcases hk with hk|hk
  ·exact wpAny_Name (wpAny_loadName_cell I.ok.kind hk hc hcell fin) hd
  ·exact wpAny_Name (wpAny_loadName_free I.ok.kind hk hc hcell fin hcd) hd
theorem A4{i j pos}:PE X (.Constant (.int i) j pos) (tC (.int i)):=λ_ _ _ H _ I h=>wpAny_Constant_int ⟨.int i,H,I.tok _,⟨_,rfl⟩,h⟩
theorem Eo{b j pos}:PE X (.Constant (.bool b) j pos) (tC (.bl b)):=λ_ _ _ H _ I h=>Constant_bool ⟨.bl b,H,I,rfl,h⟩
theorem BU{j pos}:PE X (.Constant .none j pos) (tC .non):=λ_ _ _ H _ I h=>Constant_none ⟨.non,H,I,rfl,h⟩
theorem BF{x j pos}:PE X (.Constant (.str x) j pos) (tC (.str x)):=λ_ _ _ H _ I h=>Calls.Constant_str ⟨.str x,H,I.tok _,⟨_,rfl⟩,h⟩
noncomputable def Gl(X:Cx)(x:Str):Prop:=X.env.kindOf x=some .globalImplicit
theorem zY{E:aA}{pins:aH}{s:KN}{σ:St}{H:Hp}{x:Str}{u:KG}{pos:Pos}{Q:aA}(I:`h)(hg:Gl X x)(hm:X.mg x=some u)(h:Q u s)
  (hd:(x==("__debug__":Str))=false:=by decide):K2 `i X.A (eval (.Name x pos) X.env) Q E s:=
 Calls.Name_function_global I.ok.kind hg (Calls.loadGlobal_global (by rw[I.ok.glob];exact I.mod.glob.keeps I.bk) hm h) hd
theorem jq{E:aA}{pins:aH}{s:KN}{σ:St}{H:Hp}{x:Str}{u:KG}{pos:Pos}{Q:aA}(I:`h)(hg:Gl X x)(hm:X.mg x=none)(hv:KW x=some u)(h:Q u s)
  (hn:x≠"__name__":=by decide) (hd:(x==("__debug__":Str))=false:=by decide):K2 `i X.A (eval (.Name x pos) X.env) Q E s:=by
 obtain⟨mb,h1,h2⟩:=I.mod.blt;exact Calls.Name_function_global I.ok.kind hg (Calls.loadGlobal_builtin (by rw[I.ok.glob];exact I.mod.glob.keeps I.bk) hm (by rw[I.ok.blt];exact h1.keeps I.bk) ((h2 x hn).trans hv) h) hd
theorem Ad{x:Str}{v:V}{u:KG}{pos:Pos}(hg:Gl X x)(hm:X.mg x=none)(hv:KW x=some u)(r:RelV v u)(hn:x≠"__name__":=by decide)(hd:(x==("__debug__":Str))=false:=by decide):PE X (.Name x pos) (tC v):=
 λ_ _ _ H _ I h=>jq I hg hm hv ⟨v,H,I,r,h⟩ hn hd
variable{a b:KJ}{ta tb:TE}{pos:Pos}
variable{tA tB':TT}{rest:aY}
noncomputable def GA(t u:TT):TT:=λσ H Q=>t σ H λc H1=>if c=true then Q true H1 else u σ H1 Q
noncomputable def Ge(t:TT):TT:=λσ H Q=>t σ H λc H1=>Q (!c) H1
theorem Be(ha:PT X a tA):PW X (.BoolOp .Or [a] pos) tA:=by
 intro wh pins s σ H Q I h;refine isTrue_or (cc (ha pins s σ H Q I h) λc s1 e=>?_);cases c with
 |false=>exact isTrue_or_nil e
 |true=>exact e
theorem Eg(ha:PT X a tA)(hb:PW X (.BoolOp .Or (b::rest) pos) tB'):PW X (.BoolOp .Or (a::b::rest) pos) (GA tA tB'):=by
 intro wh pins s σ H Q I h;refine isTrue_or (cc (ha pins s σ H _ I h) λc s1 zq=>zq.elim λH1 zq=>zq.elim λI1 q1=>?_);cases c with
 |true=>exact⟨H1,I1,q1⟩
 |false=>exact hb wh pins s1 σ H1 Q I1 q1
theorem BZ(ha:PT X a tA):PT X (.UnaryOp .Not a pos) (Ge tA):=by
 intro pins s σ H Q I h;exact isTrue_not (ha pins s σ H (λc H1=>Q (!c) H1) I h)
end
noncomputable def jA(K:J1)(H:Hp)(a:KI)(xs:az):Prop:=
 Rd H a (.lst xs) \/
  ∃(o:Obj)(its:dF)(n:Nat),K.lookup a=some o/\o.cls=.type "list"/\o.dict=none/\o.data=.seq its n/\its.size<=KS/\Vals xs its.toList
noncomputable def nV(K:J1)(H:Hp)(a:KI)(xs:az):Prop:=
 Rd H a (.tup xs) \/
  ∃(o:Obj)(its:dF)(n:Nat),K.lookup a=some o/\o.cls=.type "tuple"/\o.data=.seq its n/\its.size<=KS/\Vals xs its.toList
noncomputable def FV:KG->Option V
 |.none=>some .non
 |.bool b=>some (.bl b)
 |.int i _=>some (.int i)
 |.str x _=>some (.str x)
 |.bytes b _=>some (.byt b)
 |.float b _=>some (.flt b)
 |.ref a=>some (.ref a)
 |.type n=>some (.ty n)
 |_=>none
theorem RelV.abs{x:V}{u:KG}(r:RelV x u):FV u=some x:=by
 cases x with
 |non=>cases r;rfl
 |bl _=>cases r;rfl
 |int _=>obtain⟨t,rfl⟩:=r;rfl
 |str _=>obtain⟨t,rfl⟩:=r;rfl
 |byt _=>obtain⟨t,rfl⟩:=r;rfl
 |flt _=>obtain⟨t,rfl⟩:=r;rfl
 |ref _=>cases r;rfl
 |ty _=>cases r;rfl
theorem RelV.inj{x y:V}{u:KG}(r:RelV x u)(q:RelV y u):x=y:=Option.some.inj (r.abs.symm.trans q.abs)
theorem Vals.inj{xs ys:az}{us:aC}(h:Vals xs us)(h':Vals ys us):xs=ys:=by
 induction h generalizing ys with
 |nil=>cases h';rfl
 |cons r _ ih=>
  cases h' with|cons r' t'=>
  rw[RelV.inj r r',ih t']
section
variable{X:Cx}{pins:aH}{σ:St}{H:Hp}{s:KN}{a:KI}{xs ys:az}
theorem jA.of{K:J1}(h:H a=some (.lst xs)):jA K H a xs:=.inl (.inl h)
theorem nV.of{K:J1}(h:H a=some (.tup xs)):nV K H a xs:=.inl (.inl h)
theorem Inv.list(I:`h)(h:jA X.K H a xs):∃its:aC,Vals xs its/\PlainL s.heap a its.toArray/\xs.length<=KS:=by
 rcases h with h|⟨o,its,n,hk,hc,hd,hs,hz,r⟩
 ·obtain⟨z,its,n,r,e⟩:=h.ok I.hok;exact⟨its,r,⟨_,n,e,rfl,rfl,rfl⟩,z⟩
 ·refine⟨its.toList,r,⟨o,n,I.kIn a o hk,hc,hd,by simpa using hs⟩,?_⟩;have e:=r.length;simp only[Array.length_toList]at e;omega
theorem Inv.tuple(I:`h)(h:nV X.K H a xs):∃its:aC,Vals xs its/\IsTup s.heap a its.toArray/\xs.length<=KS:=by
 rcases h with h|⟨o,its,n,hk,hc,hs,hz,r⟩
 ·obtain⟨z,its,r,p⟩:=h.ok I.hok;exact⟨its,r,p,z⟩
 ·refine⟨its.toList,r,⟨o,I.kIn a o hk,hc,n,by simpa using hs⟩,?_⟩;have e:=r.length;simp only[Array.length_toList]at e;omega
theorem Inv.list_inj(I:`h)(h:jA X.K H a xs)(h':jA X.K H a ys):xs=ys:=by
 obtain⟨its,r,⟨o,n,e,_,_,d⟩,_⟩:=I.list h;obtain⟨its',r',⟨o',n',e',_,_,d'⟩,_⟩:=I.list h';rw[e]at e';cases e';rw[d]at d';injection d' with d1 _
 have:its=its':=by simpa using congrArg Array.toList d1
 subst this;exact r.inj r'
theorem Inv.tuple_inj(I:`h)(h:nV X.K H a xs)(h':nV X.K H a ys):xs=ys:=by
 obtain⟨its,r,⟨o,e,_,n,d⟩,_⟩:=I.tuple h;obtain⟨its',r',⟨o',e',_,n',d'⟩,_⟩:=I.tuple h';rw[e]at e';cases e';rw[d]at d';injection d' with d1 _
 have:its=its':=by simpa using congrArg Array.toList d1
 subst this;exact r.inj r'
end
section
variable{X:Cx}{st:KL}{rest:cD}{t u:TS}{e:KJ}{te:TE}{pos:Pos}
noncomputable def wR:TS:=λD σ H=>D.nx σ H
noncomputable def E8(t u:TS):TS:=λD σ H=>t {D with nx:=u D} σ H
theorem An:qV X [] wR:=λ_ _ σ H _ I h=>K8 ⟨σ,H,I,h⟩
theorem xW(h1:PS X st t)(h2:qV X rest u):qV X (st::rest) (E8 t u):=by
 intro pins s σ H D I h;refine wpAny_execs_cons (cc (h1 pins s σ H {D with nx:=u D} I h) λf s1 q=>?_);cases f with
 |next=>
  obtain⟨σ',H',I',q⟩:=q;exact h2 pins s1 σ' H' D I' q
 |ret v=>exact q
 |brk=>exact q
 |cont=>exact q
theorem zF(h1:PS X st t):qV X [st] t:=by
 intro pins s σ H D I h;refine wpAny_execs_cons (cc (h1 pins s σ H D I h) λf s1 q=>?_);cases f with
 |next=>exact K8 q
 |ret v=>exact q
 |brk=>exact q
 |cont=>exact q
theorem yx:PS X (.Pass pos) wR:=λ_ _ σ H _ I h=>wpAny_Pass ⟨σ,H,I,h⟩
theorem Inv.quiet{pins:aH}{σ:St}{H:Hp}{s:KN}(I:`h):interactive X.env=false:=by simp[interactive,I.ok.kind]
theorem Ci{x j pos pos'}:PS X (.Expr (.Constant (.str x) j pos) pos') wR:=λ_ s σ H _ I h=>wpAny_Expr (Calls.Constant_str (show SP X _ _ .next {s with toks:=s.toks+1}from⟨σ,H,I.tok _,h⟩)) I.quiet
noncomputable def DH(te:TE):TS:=λD σ H=>te σ H λ_ H1=>D.nx σ H1
theorem sN(he:PE X e te)(hs:swapsWith e none pos.line X.env=pure false:=by rfl):PS X (.Expr e pos) (DH te):=by
 intro pins s σ H D I h;exact wpAny_Expr_any (cc (he pins s σ H _ I h) λv s1 zq=>zq.elim λx zq=>zq.elim λH1 zq=>zq.elim λI1 zq=>zq.elim λr1 q1=>⟨σ,H1,I1,q1⟩) I.quiet hs
noncomputable def FC(te:TE):TS:=λD σ H=>te σ H D.rt
theorem CJ(he:PE X e te):PS X (.Return (some e) pos) (FC te):=by
 intro pins s σ H D I h;exact wpAny_Return_some (cc (he pins s σ H _ I h) λv s1 zq=>zq.elim λx zq=>zq.elim λH1 zq=>zq.elim λI1 zq=>zq.elim λr1 q1=>⟨x,σ,H1,I1,r1,q1⟩)
noncomputable def Gg(c:TT)(t u:TS):TS:=λD σ H=>c σ H λb H1=>if b=true then t D σ H1 else u D σ H1
theorem Dg{c:KJ}{a b:cD}{tc:TT}(hc:PT X c tc)(ha:qV X a t)(hb:qV X b u):PS X (.If c a b pos) (Gg tc t u):=by
 intro pins s σ H D I h;refine wpAny_If (cc (hc pins s σ H _ I h) λd s1 zq=>zq.elim λH1 zq=>zq.elim λI1 q1=>?_);cases d with
 |true=>exact ha pins s1 σ H1 D I1 q1
 |false=>exact hb pins s1 σ H1 D I1 q1
end
noncomputable abbrev TG:=V->St->Hp->(St->Hp->Prop)->Prop
noncomputable abbrev De:=List V->St->Hp->(St->Hp->Prop)->Prop
noncomputable def PG(X:Cx)(target:KJ)(t:TG):Prop:=
 ∀(pins:aH)(s:KN)(σ:St)(H:Hp)(v:V)(u:KG)(Q:St->Hp->Prop),Inv X pins σ H s->RelV v u->t v σ H Q->
  K2 `i X.A (assign target X.env u) (λ_ s'=>∃σ' H',Inv X pins σ' H' s'/\Q σ' H') X.xe s
noncomputable def EC(X:Cx)(ts:aY)(t:De):Prop:=
 ∀(pins:aH)(s:KN)(σ:St)(H:Hp)(vs:az)(us:aC)(Q:St->Hp->Prop),Inv X pins σ H s->Vals vs us->t vs σ H Q->
  K2 `i X.A (assignInOrder ((assignEach ts X.env).map (·.2)) us) (λ_ s'=>∃σ' H',Inv X pins σ' H' s'/\Q σ' H') X.xe s
section
variable{X:Cx}{pos:Pos}
noncomputable def m5(i:Nat):TG:=λv σ H Q=>Q (σ.set i (some v)) H
theorem Ah{i:Nat}{x:Str}(hN:X.N.Nodup)(hi:X.N[i]?=some x)(hx:Loc X.env.scope x)(hf:X.fn x=true\/X.env.scope.names.lookup x=some .local:=by first|exact .inl rfl|exact .inr rfl|assumption):PG X (.Name x pos) (m5 i):=by
 intro pins s σ H v u Q I r h;exact wpAny_assign_Name (pQ I hN hi hx r (λs' I'=>⟨_,H,I',h⟩) hf)
noncomputable def Fh:De:=λvs σ H Q=>vs=[]/\Q σ H
noncomputable def Ej(t:TG)(u:De):De:=λvs σ H Q=>∃v r,vs=v::r/\t v σ H λσ' H'=>u r σ' H' Q
theorem yP:EC X [] Fh:=by
 intro pins s σ H vs us Q I r h;obtain⟨e,h⟩:=h;subst e;cases r;exact assignInOrder_nil ⟨σ,H,I,h⟩
theorem wJ{e:KJ}{es:aY}{t:TG}{u:De}(h1:PG X e t)(h2:EC X es u)
  (hs:(assignEach (e::es) X.env).map (·.2)=assign e X.env::(assignEach es X.env).map (·.2):=by rfl):EC X (e::es) (Ej t u):=by
 intro pins s σ H vs us Q I r h;obtain⟨v,vr,e1,h⟩:=h;subst e1;cases r with
 |cons r rr=>
  rw[hs];refine assignInOrder_cons (cc (h1 pins s σ H _ _ _ I r h) λ_ s1 zq=>zq.elim λσ1 zq=>zq.elim λH1 zq=>zq.elim λI1 q1=>?_);exact h2 pins s1 σ1 H1 _ _ Q I1 rr q1
noncomputable def yf(te:TE)(g:TG):TS:=λD σ H=>te σ H λx H1=>g x σ H1 D.nx
theorem AX{tg e:KJ}{te:TE}{g:TG}(he:PE X e te)(hg:PG X tg g)(hs:swapsWithSole [tg] e pos.line X.env=pure false:=by rfl)(hw:swappedStores [tg] e X.env=pure none:=by rfl)
  (h1:(assignEach [tg] X.env).map (·.2)=[assign tg X.env]:=by rfl):PS X (.Assign [tg] e pos) (yf te g):=by
 intro pins s σ H D I h;refine wpAny_Assign_stores (cc (he pins s σ H _ I h) λv s1 zq=>zq.elim λx zq=>zq.elim λH1 zq=>zq.elim λI1 zq=>zq.elim λr1 q1=>?_) hs hw;rw[h1];exact cc (hg pins s1 σ H1 x v _ I1 r1 q1) λ_ s2 q=>q
theorem vJ{i:Nat}{x:Str}{e:KJ}{te:TE}{pos':Pos}(hN:X.N.Nodup)(hi:X.N[i]?=some x)(hx:Loc X.env.scope x)(he:PE X e te)(hs:swapsWith e (some (.Name x pos')) pos.line X.env=pure false:=by rfl)(hf:X.fn x=true\/X.env.scope.names.lookup x=some .local:=by first|exact .inl rfl|exact .inr rfl|assumption):
  PS X (.Assign [.Name x pos'] e pos) (yf te (m5 i)):=by
 intro pins s σ H D I h;refine wpAny_Assign_Name (cc (he pins s σ H _ I h) λv s1 zq=>zq.elim λy zq=>zq.elim λH1 zq=>zq.elim λI1 zq=>zq.elim λr1 q1=>?_) hs;exact pQ I1 hN hi hx r1 (λs2 I2=>⟨_,H1,I2,q1⟩) hf
end
section
variable{X:Cx}{pos:Pos}
noncomputable def Bl(c:TT)(tb:TS):TS:=λD σ H=>∃W:Nat->St->Hp->Prop,(∃m,W m σ H)/\∀m σ H,W m σ H->
 c σ H λb H1=>if b=true then∃N:St->Hp->Prop,(∀σ' H',N σ' H'->∃m',m'<m/\W m' σ' H')/\tb {D with nx:=N,ct:=N,bk:=D.nx} σ H1 else D.nx σ H1
theorem yh{c:KJ}{body:cD}{tc:TT}{tb:TS}(hp:K9 `i X.A X.env X.xe)(hc:PT X c tc)(hb:qV X body tb):PS X (.While c body [] pos) (Bl tc tb):=by
 intro pins s σ H D I h;obtain⟨W,⟨m0,w0⟩,turn⟩:=h;refine wpAny_While (codeAny_whileLoop (λn s'=>∃σ' H',Inv X pins σ' H' s'/\W n σ' H') ?_ m0 ⟨σ,H,I,w0⟩);rintro n s1 ⟨σ1,H1,I1,w1⟩;refine La hp (cc (hc pins s1 σ1 H1 _ I1 (turn n σ1 H1 w1)) λb s2 zq=>zq.elim λH2 zq=>zq.elim λI2 q2=>?_);cases b with
 |true=>
  obtain⟨N,hN,q2⟩:=q2;rw[if_pos rfl];refine La hp (cc (hb pins s2 σ1 H2 _ I2 q2) λf s3 q3=>?_);cases f with
  |next=>
   obtain⟨σ3,H3,I3,n3⟩:=q3;obtain⟨m',hm,w3⟩:=hN σ3 H3 n3;exact⟨m',hm,σ3,H3,I3,w3⟩
  |cont=>
   obtain⟨σ3,H3,I3,n3⟩:=q3;obtain⟨m',hm,w3⟩:=hN σ3 H3 n3;exact⟨m',hm,σ3,H3,I3,w3⟩
  |brk=>exact q3
  |ret v=>exact q3
 |false=>
  rw[if_neg Hg];exact K8 ⟨σ1,H2,I2,q2⟩
end
structure It where
 go:Nat->Hp->Prop
 yld:Nat->Hp->V->Hp->Prop
 stop:Nat->Hp->Prop
noncomputable def nX(X:Cx)(pins:aH)(H:Hp)(b:KI):Prop:=
 H b=none/\b≠X.env.locals/\b∉X.fs/\(b∈X.ex\/X.s₀.heap.objs.size<=b)/\(∀x c,X.env.cells.lookup x=some c->c≠b)/\∀p∈X.pn++pins,p.1≠b
theorem Inv.fpOk{X:Cx}{pins:aH}{σ:St}{H H':Hp}{s:KN}{b:KI}(I:`h)(hb:s.heap.objs.size<=b)(hn:H' b=none):nX X pins H' b:=by
 refine⟨hn,Hh (G0 I.lt hb),I.nofs hb,.inr (G3 I.sz hb),λx c e z=>?_,λp hp z=>?_⟩
 ·obtain⟨v,q⟩:=I.cell x c e;exact absurd (G0 q.lt (by rw[z];exact hb)) (G1 _)
 ·exact absurd (G0 (Kc (I.pin p hp).1) (by rw[z];exact hb)) (G1 _)
structure Turn(P:KP)(w:KO)(K:J1)(tg:KJ)(J:It)(fp:ah)(it:KI)(tn:Nat->KR->Prop):Prop where
 mem:it∈fp
 obj:∀i h,tn i h->∀b∈fp,∃o,h.get? b=some o/\∀v,o.data≠.cell v
 keep:∀i h h',tn i h->(∀b∈fp,∀o,h.get? b=some o->h'.get? b=some o)->tn i h'
 item:∀(X:Cx),X.prog=P->X.w=w->X.K=K->X.calm=true->∀(i:Nat)(pins:aH)(s:KN)(σ:St)(H:Hp)(E:aA),Inv X pins σ H s->(∀b∈fp,nX X pins H b)->tn i s.heap->J.go i H->
  K2 (model P w) X.A (pyNext (.ref it)) (λr s1=>∃u,r=some u/\
   K2 (model P w) X.A (letOwnedTupleGo tg (.ref it) u) (λ_ s2=>∃x H',Inv X pins σ H' s2/\RelV x u/\J.yld i H x H'/\tn (i+1) s2.heap/\∀b∈fp,H' b=none) E s1) E s
 done:∀(X:Cx),X.prog=P->X.w=w->X.K=K->X.calm=true->∀(i:Nat)(pins:aH)(s:KN)(σ:St)(H:Hp)(E:aA),Inv X pins σ H s->(∀b∈fp,nX X pins H b)->tn i s.heap->J.stop i H->
  K2 (model P w) X.A (pyNext (.ref it)) (λr s1=>r=none/\Inv X pins σ H s1) E s
 self:∀(A:KY)(i:Nat)(s:KN)(Q:aA)(E:aA),tn i s.heap->Q (.ref it) s->K2 (model P w) A (pyIter (.ref it)) Q E s
noncomputable abbrev TI:=St->Hp->(It->Hp->Prop)->Prop
noncomputable def PIE(X:Cx)(pins:aH)(σ:St)(tg:KJ)(R:It->Hp->Prop)(itv:KG)(s2:KN):Prop:=
 ∃(it:KI)(fp:ah)(tn:Nat->KR->Prop)(J:It)(H':Hp),itv=.ref it/\Inv X pins σ H' s2/\Turn X.prog X.w X.K tg J fp it tn/\tn 0 s2.heap/\(∀b∈fp,nX X pins H' b)/\R J H'
noncomputable def PI(X:Cx)(tg iter:KJ)(wi:TI):Prop:=
 ∀(pins:aH)(s:KN)(σ:St)(H:Hp)(R:It->Hp->Prop),Inv X pins σ H s->wi σ H R->
  K2 `i X.A (eval iter X.env) (λv s1=>K2 `i X.A (pyIter v) (PIE X pins σ tg R) X.xe s1) X.xe s
theorem rY{M:K1}{A:KY}{E:aA}{s:KN}{tg:KJ}{it:KI}{u:KG}{o:Obj}{n:String}{vs:dF}{Q:Unit->bu}(ho:s.heap.get? it=some o)(hc:o.cls=.type n)(hd:o.data=.fields vs)
    (hn:["enumerate","zip","dict_itemiterator","dict_reverseitemiterator","odict_iterator","itertools.zip_longest","itertools.pairwise"].contains n=false) (hQ:Q () s):K2 M A (letOwnedTupleGo tg (.ref it) u) Q E s:=by
  unfold letOwnedTupleGo;cases tg<;>first
    |exact Lb hQ
    | (cases u <;> first
        |exact Lb hQ
        | (refine Lc (Ld ho ?_)
           rw[hc,hd];show K2 M A (if(["enumerate","zip","dict_itemiterator","dict_reverseitemiterator","odict_iterator","itertools.zip_longest","itertools.pairwise"].contains n&&vs[0]?==some (rawInt _))=true then _ else _) Q E s;rw[if_neg (by intro h;rw[hn,Bool.false_and]at h;cases h)];exact Lb hQ))
noncomputable def Fu(K:J1)(a:KI):It:=
 ⟨λi H=>∃xs x,jA K H a xs/\xs[i]?=some x,λi H x H'=>H'=H/\∀xs,jA K H a xs->xs[i]?=some x,λi H=>∃xs,jA K H a xs/\xs.length<=i⟩
noncomputable def Fv(K:J1)(a:KI):It:=
 ⟨λi H=>∃xs x,nV K H a xs/\xs[i]?=some x,λi H x H'=>H'=H/\∀xs,nV K H a xs->xs[i]?=some x,λi H=>∃xs,nV K H a xs/\xs.length<=i⟩
noncomputable def Eu(lo:Int)(n:Nat):It:=⟨λi _=>i<n,λi H x H'=>H'=H/\x=.int (lo+i),λi _=>n<=i⟩
theorem uj{P:KP}{w:KO}{K:J1}{tg:KJ}(a it:KI):Turn P w K tg (Fu K a) [it] it (λi h=>h.IsListIter it a i)where
 mem:=by simp
 obj:=λi h st b hb=>by
  have e:b=it:=by simpa using hb
  subst e;obtain⟨o,e,c,d⟩:=st;exact⟨o,e,λv z=>by rw[d]at z;cases z⟩
 keep:=λi h h' st k=>st.at λo e=>k it (by simp) o e
 item:=by
  intro X hP hw hK hc i pins s σ H E I hf st hg;subst hP hw hK;obtain⟨xs,x,hq,hx⟩:=hg;obtain⟨its,rv,p,hz⟩:=I.list hq;obtain⟨u,hu,ru⟩:=rv.get hx;obtain⟨f0,f1,f2,f3,f4,f5⟩:=hf it (by simp);refine wpAny_pyNext_list_item st p.isList (x:=u) (by simpa using hu) λh' st' sb=>?_;have I1:Inv X pins σ H {s with heap:=h'}:=I.turned (t':=s.toks) (λb o hb e=>(sb.2 b hb).trans e) f0 f1 f3 f4 f5;obtain⟨o,e,c,d⟩:=id st';exact⟨u,rfl,rY (s:={s with heap:=h'}) e c d (by decide) ⟨x,H,I1,ru,⟨rfl,λys hy=>by rw[I.list_inj hy hq];exact hx⟩,st',λb hb=>(hf b hb).1⟩⟩
 done:=by
  intro X hP hw hK hc i pins s σ H E I hf st hg;subst hP hw hK;obtain⟨xs,hq,hx⟩:=hg;obtain⟨its,rv,p,hz⟩:=I.list hq;obtain⟨f0,f1,f2,f3,f4,f5⟩:=hf it (by simp);have hl:=rv.length;exact wpAny_pyNext_list_end (I.ok.hd hc) st p.isList (by simp;omega) λh' eb=>⟨rfl,I.turned (t':=s.toks) (λb o hb e=>eb b o hb e) f0 f1 f3 f4 f5⟩
 self:=λ_ _ _ _ _ st h=>wpAny_pyIter_listiter st h
theorem qR{P:KP}{w:KO}{K:J1}{tg:KJ}(a it:KI):Turn P w K tg (Fv K a) [it] it (λi h=>h.IsTupleIter it a i)where
 mem:=by simp
 obj:=λi h st b hb=>by
  have e:b=it:=by simpa using hb
  subst e;obtain⟨o,e,c,d⟩:=st;exact⟨o,e,λv z=>by rw[d]at z;cases z⟩
 keep:=λi h h' st k=>st.at λo e=>k it (by simp) o e
 item:=by
  intro X hP hw hK hc i pins s σ H E I hf st hg;subst hP hw hK;obtain⟨xs,x,hq,hx⟩:=hg;obtain⟨its,rv,p,hz⟩:=I.tuple hq;obtain⟨u,hu,ru⟩:=rv.get hx;obtain⟨f0,f1,f2,f3,f4,f5⟩:=hf it (by simp);refine wpAny_pyNext_tuple_item st (show s.heap.IsTuple a its.toArray from p) (x:=u) (by simpa using hu) λh' st' sb=>?_;have I1:Inv X pins σ H {s with heap:=h'}:=I.turned (t':=s.toks) (λb o hb e=>(sb.2 b hb).trans e) f0 f1 f3 f4 f5;obtain⟨o,e,c,d⟩:=id st';exact⟨u,rfl,rY (s:={s with heap:=h'}) e c d (by decide) ⟨x,H,I1,ru,⟨rfl,λys hy=>by rw[I.tuple_inj hy hq];exact hx⟩,st',λb hb=>(hf b hb).1⟩⟩
 done:=by
  intro X hP hw hK hc i pins s σ H E I hf st hg;subst hP hw hK;obtain⟨xs,hq,hx⟩:=hg;obtain⟨its,rv,p,hz⟩:=I.tuple hq;obtain⟨f0,f1,f2,f3,f4,f5⟩:=hf it (by simp);have hl:=rv.length;exact wpAny_pyNext_tuple_end (I.ok.hd hc) st (show s.heap.IsTuple a its.toArray from p) (by simp;omega) λh' eb=>⟨rfl,I.turned (t':=s.toks) (λb o hb e=>eb b o hb e) f0 f1 f3 f4 f5⟩
 self:=λ_ _ _ _ _ st h=>wpAny_pyIter_tupleiter st h
theorem rL{P:KP}{w:KO}{K:J1}{tg:KJ}(it:KI)(lo:Int)(n:Nat):Turn P w K tg (Eu lo n) [it] it (λi h=>IsRangeIter h it (lo+(i:Nat)*1) ((n:Int)-(i:Nat)) 1)where
 mem:=by simp
 obj:=λi h st b hb=>by
  have e:b=it:=by simpa using hb
  subst e;exact⟨_,st,λv z=>by
   have z':Data.fields _=Data.cell v:=z;cases z'⟩
 keep:=λi h h' st k=>k it (by simp) _ st
 item:=by
  intro X hP hw hK hc i pins s σ H E I hf st hg;subst hP hw hK;obtain⟨f0,f1,f2,f3,f4,f5⟩:=hf it (by simp);have W:=Walks.range (prog:=X.prog) (w:=X.w) (I.ok.hd hc) it lo 1 n;refine W.item i s _ _ hg st λv h' tk hv st' kk=>?_;obtain⟨t,rfl⟩:=hv;have I1:Inv X pins σ H {s with heap:=h',toks:=tk}:=I.turned (λb o hb e=>kk b o (by simpa using hb) e) f0 f1 f3 f4 f5;refine⟨_,rfl,rY (s:={s with heap:=h',toks:=tk}) (n:="range_iterator") st' rfl rfl (by decide) ⟨.int (lo+i),H,I1,⟨t,?_⟩,⟨rfl,rfl⟩,st',λb hb=>(hf b hb).1⟩⟩;rw[Int.mul_one]
 done:=by
  intro X hP hw hK hc i pins s σ H E I hf st hg;subst hP hw hK;obtain⟨f0,f1,f2,f3,f4,f5⟩:=hf it (by simp);exact wpAny_pyNext_range_end (I.ok.hd hc) st (by have:n<=i:=hg;omega) λh' eb=>⟨rfl,I.turned (t':=s.toks) (λb o hb e=>eb b o hb e) f0 f1 f3 f4 f5⟩
 self:=λ_ _ _ _ _ st h=>wpAny_pyIter_rangeiter st h
section
variable{X:Cx}{tg:KJ}
noncomputable def DE(K:J1)(tl:TE):TI:=λσ H R=>tl σ H λx H1=>∃a,x=.ref a/\(∃xs,jA K H1 a xs)/\R (Fu K a) H1
noncomputable def FQ(K:J1)(tl:TE):TI:=λσ H R=>tl σ H λx H1=>∃a,x=.ref a/\(∃xs,nV K H1 a xs)/\R (Fv K a) H1
theorem tO{l:KJ}{tl:TE}(hl:PE X l tl):PI X tg l (DE X.K tl):=by
 intro pins s σ H R I h;refine cc (hl pins s σ H _ I h) λv s1 zq=>zq.elim λx zq=>zq.elim λH1 zq=>zq.elim λI1 zq=>zq.elim λr1 q1=>?_;obtain⟨a,e,⟨xs,hq⟩,q⟩:=q1;subst e;cases r1;obtain⟨its,rv,p,hz⟩:=I1.list hq;refine Le p.isList ?_;refine⟨s1.heap.objs.size,[s1.heap.objs.size],_,_,H1,rfl,I1.kept (t':=s1.toks) λb o e=>Kf _ e,uj a _,⟨_,Kg _ rfl,rfl,rfl⟩,λb hb=>?_,q⟩;have e:b=s1.heap.objs.size:=by simpa using hb
 subst e;exact I1.fpOk (Hi _) (I1.hok.fresh (Hi _))
theorem Cj{l:KJ}{tl:TE}(hl:PE X l tl):PI X tg l (FQ X.K tl):=by
 intro pins s σ H R I h;refine cc (hl pins s σ H _ I h) λv s1 zq=>zq.elim λx zq=>zq.elim λH1 zq=>zq.elim λI1 zq=>zq.elim λr1 q1=>?_;obtain⟨a,e,⟨xs,hq⟩,q⟩:=q1;subst e;cases r1;obtain⟨its,rv,p,hz⟩:=I1.tuple hq;refine wpAny_pyIter_tuple (show s1.heap.IsTuple a its.toArray from p) ?_;refine⟨s1.heap.objs.size,[s1.heap.objs.size],_,_,H1,rfl,I1.kept (t':=s1.toks) λb o e=>Kf _ e,qR a _,⟨_,Kg _ rfl,rfl,rfl⟩,λb hb=>?_,q⟩;have e:b=s1.heap.objs.size:=by simpa using hb
 subst e;exact I1.fpOk (Hi _) (I1.hok.fresh (Hi _))
theorem v6{pins:aH}{σ:St}{H:Hp}{s:KN}{R:It->Hp->Prop}{E:aA}{lo hi:Int}{t u v:Tok}{tk:Nat}(I:`h)(h1:-(2^62)<=lo)(h2:lo<2^62)(h3:-(2^62)<=hi)(h4:hi<2^62)
  (q:R (Eu lo (hi-lo).toNat) H):K2 `i X.A (pyIter (.ref s.heap.objs.size)) (PIE X pins σ tg R) E {s with heap:=s.heap.push {cls:=.type "range",data:=.fields #[.int lo t,.int hi u,.int 1 v]},toks:=tk}:=by
 refine wpAny_pyIter_range (IsRange.new ..) (small_one h1 h2 h3 h4) ?_;have I1:Inv X pins σ H {s with heap:=s.heap.push {cls:=.type "range",data:=.fields #[.int lo t,.int hi u,.int 1 v]},toks:=tk}:=I.kept λb o e=>Kf _ e;refine⟨(s.heap.push {cls:=.type "range",data:=.fields #[.int lo t,.int hi u,.int 1 v]}).objs.size,[(s.heap.push {cls:=.type "range",data:=.fields #[.int lo t,.int hi u,.int 1 v]}).objs.size],_,_,H,rfl,
  I1.kept (t':=tk) λb o e=>Kf _ e,rL _ lo (hi-lo).toNat,?_,λb hb=>?_,q⟩
 ·have e1:lo+((0:Nat):Int)*1=lo:=by simp
  have e2:(((hi-lo).toNat:Nat):Int)-((0:Nat):Int)=Builtin.Range.rangeSize lo hi 1:=by rw[rangeSize_one];split<;>omega
  show IsRangeIter _ _ (lo+((0:Nat):Int)*1) ((((hi-lo).toNat:Nat):Int)-((0:Nat):Int)) 1;rw[e1,e2];exact Kg _ rfl
 ·have e:b=(s.heap.push {cls:=.type "range",data:=.fields #[.int lo t,.int hi u,.int 1 v]}).objs.size:=by simpa using hb
  subst e;exact I1.fpOk (Hi _) (I1.hok.fresh (Hi _))
noncomputable def Dq(ta:TA):TI:=λσ H R=>ta σ H λvs H1=>∃j:Int,vs=[.int j]/\-(2^62)<=j/\j<2^62/\R (Eu 0 j.toNat) H1
theorem ue{a:KJ}{ta:TA}{p pos:Pos}(hg:Gl X "range")(hm:X.mg "range"=none)(ha:PA X [a] ta)(hs:K3 [a] X.env=[(false,eval a X.env)]:=by rfl):PI X tg (.Call (.Name "range" p) [a] [] pos) (Dq ta):=by
 intro pins s σ H R I h;refine Call_ (jq I hg hm boot_range (Km (cc (ha pos pins s σ H _ I h) λus s1 zq=>zq.elim λvs zq=>zq.elim λH1 zq=>zq.elim λI1 zq=>zq.elim λr1 q1=>?_) hs rfl));obtain⟨j,e,q1,q2,q⟩:=q1;subst e;cases r1 with
 |cons r rr=>
  cases rr;obtain⟨t,rfl⟩:=r;exact call_range_1 (v6 I1 `o `o q1 q2 (by simpa using q))
noncomputable def Ga(wi:TI)(g:TG)(tb:TS):TS:=λD σ H=>wi σ H λJ H1=>∃W:Nat->Nat->St->Hp->Prop,(∃m,W 0 m σ H1)/\∀i m σ H,W i m σ H->
 (J.stop i H/\D.nx σ H)\/(J.go i H/\∃N:St->Hp->Prop,(∀σ' H',N σ' H'->∃m',m'<m/\W (i+1) m' σ' H')/\∀x H',J.yld i H x H'->g x σ H' λσ2 H2=>tb {D with nx:=N,ct:=N,bk:=D.nx} σ2 H2)
noncomputable def li(fp:ah)(h:KR):aH:=fp.filterMap λb=>(h.get? b).map λo=>(b,o)
theorem fI{fp:ah}{h:KR}{b:KI}{o:Obj}(hb:b∈fp)(e:h.get? b=some o):(b,o)∈li fp h:=List.mem_filterMap.mpr ⟨b,hb,by rw[e];rfl⟩
theorem uK{fp:ah}{h:KR}{p:KI×Obj}(hp:p∈li fp h):p.1∈fp/\h.get? p.1=some p.2:=by
 obtain⟨b,hb,e⟩:=List.mem_filterMap.mp hp;cases q:h.get? b with
 |none=>rw[q]at e;cases e
 |some o=>
  rw[q]at e;have e':(b,o)=p:=Option.some.inj e;subst e';exact⟨hb,q⟩
theorem Inv.pinned{pins:aH}{σ:St}{H:Hp}{s:KN}{fp:ah}(I:`h)(hf:∀b∈fp,nX X pins H b)(ho:∀b∈fp,∃o,s.heap.get? b=some o/\∀v,o.data≠.cell v):Inv X (pins++li fp s.heap) σ H s:=
 I.pins_of λp hp=>(List.mem_append.mp hp).elim (λz=>I.pin p (Hj _ z)) λz=>by
  obtain⟨hb,e⟩:=uK z;obtain⟨f0,f1,f2,_⟩:=hf p.1 hb;obtain⟨o,e',d⟩:=ho p.1 hb;rw[e]at e';cases e';exact⟨e,f0,f1,f2,d⟩
theorem Inv.unpinned{pins pl:aH}{σ:St}{H:Hp}{s:KN}(I:Inv X (pins++pl) σ H s):Inv X pins σ H s:=I.pins_of λp hp=>I.pin p (Hj _ (Hc _ hp))
theorem A5{iter:KJ}{body:cD}{wi:TI}{g:TG}{tb:TS}{pos:Pos}(hp:K9 `i X.A X.env X.xe)(hc:X.calm=true)(hi:PI X tg iter wi)(hg:PG X tg g)(hb:qV X body tb)
  (hs:∀x,Lf iter X.env x=pure x:=by intro _;rfl):PS X (.For tg iter body [] pos) (Ga wi g tb):=by
 intro pins s σ H D I h;refine wpAny_For (cc (hi pins s σ H _ I h) λv s1 h1=>cc h1 λitv s2 h2=>?_) hs;obtain⟨it,fp,tn,J,H2,e,I2,T,st2,f2,W,⟨m0,w0⟩,turn⟩:=h2;subst e;have stat:∀{H':Hp},(∀b∈fp,H' b=none)->∀b∈fp,nX X pins H' b:=λhn b hb=>⟨hn b hb,(f2 b hb).2⟩
 refine codeAny_forLoop_any (λn s'=>∃i σ' H',Inv X pins σ' H' s'/\tn i s'.heap/\(∀b∈fp,H' b=none)/\W i n σ' H') ?_ m0 ⟨0,σ,H2,I2,st2,λb hb=>(f2 b hb).1,w0⟩;rintro n s3 ⟨i,σ3,H3,I3,st3,fr3,w3⟩;rcases turn i n σ3 H3 w3 with⟨stop,qn⟩|⟨go,N,hN,step⟩
 ·refine La hp (cc (T.done X rfl rfl rfl hc i pins s3 σ3 H3 X.xe I3 (stat fr3) st3 stop) λr s4 zq=>zq.elim λhr I4=>?_);subst hr;exact K8 ⟨σ3,H3,I4,qn⟩
 ·refine La hp (cc (T.item X rfl rfl rfl hc i pins s3 σ3 H3 X.xe I3 (stat fr3) st3 go) λr s4 zq=>zq.elim λu zq=>zq.elim λhr h4=>?_);subst hr;refine La hp (cc h4 λ_ s5 zq=>zq.elim λx zq=>zq.elim λH5 zq=>zq.elim λI5 zq=>zq.elim λr5 zq=>zq.elim λy5 zq=>zq.elim λst5 fr5=>?_);have I5':=I5.pinned (stat fr5) (T.obj _ _ st5);refine La hp (cc (hg _ s5 σ3 H5 x u _ I5' r5 (step x H5 y5)) λ_ s6 zq=>zq.elim λσ6 zq=>zq.elim λH6 zq=>zq.elim λI6 q6=>?_);refine La hp (cc (hb _ s6 σ6 H6 _ I6 q6) λf s7 q7=>?_);have again:∀{σ7:St}{H7:Hp},Inv X (pins++li fp s5.heap) σ7 H7 s7->N σ7 H7->∃m,m<n/\∃i σ' H',Inv X pins σ' H' s7/\tn i s7.heap/\(∀b∈fp,H' b=none)/\W i m σ' H':=λ{σ7 H7} I7 n7=>by
   obtain⟨m',hm,w7⟩:=hN σ7 H7 n7;refine⟨m',hm,i+1,σ7,H7,I7.unpinned,T.keep _ _ _ st5 λb hb o e=>(I7.pin (b,o) (Hj _ (Hj _ (fI hb e)))).1,λb hb=>?_,w7⟩;obtain⟨o,e,d⟩:=T.obj _ _ st5 b hb;exact(I7.pin (b,o) (Hj _ (Hj _ (fI hb e)))).2.1
  cases f with
  |next=>obtain⟨σ7,H7,I7,n7⟩:=q7;exact again I7 n7
  |cont=>obtain⟨σ7,H7,I7,n7⟩:=q7;exact again I7 n7
  |brk=>obtain⟨σ7,H7,I7,q7⟩:=q7;exact⟨σ7,H7,I7.unpinned,q7⟩
  |ret v=>obtain⟨x7,σ7,H7,I7,r7,q7⟩:=q7;exact⟨x7,σ7,H7,I7.unpinned,r7,q7⟩
end
noncomputable abbrev R2:=V->V->Hp->VK->Prop
noncomputable def jc(X:Cx)(f:KG->KG->Sem KG)(r:R2):Prop:=
 ∀(pins:aH)(s:KN)(σ:St)(H:Hp)(x y:V)(v u:KG)(Q:VK),Inv X pins σ H s->RelV x v->RelV y u->r x y H Q->
  K2 `i X.A (f v u) (EP X pins σ Q) X.xe s
noncomputable def FL(X:Cx)(f:KG->Sem KG)(r:V->Hp->VK->Prop):Prop:=
 ∀(pins:aH)(s:KN)(σ:St)(H:Hp)(x:V)(v:KG)(Q:VK),Inv X pins σ H s->RelV x v->r x H Q->
  K2 `i X.A (f v) (EP X pins σ Q) X.xe s
noncomputable def dL(X:Cx)(f:KG)(r:az->Hp->VK->Prop):Prop:=
 ∀(pins:aH)(s:KN)(σ:St)(H:Hp)(xs:az)(us:aC)(Q:VK),Inv X pins σ H s->Vals xs us->r xs H Q->
  K2 `i X.A (call f us) (EP X pins σ Q) X.xe s
noncomputable def F4(X:Cx)(r:V->Hp->(Bool->Hp->Prop)->Prop):Prop:=
 ∀(pins:aH)(s:KN)(σ:St)(H:Hp)(x:V)(v:KG)(Q:Bool->Hp->Prop),Inv X pins σ H s->RelV x v->r x H Q->
  K2 `i X.A (truthy v) (TP X pins σ Q) X.xe s
noncomputable def Ed(r:R2)(ta tb:TE):TE:=λσ H Q=>ta σ H λx H1=>tb σ H1 λy H2=>r x y H2 Q
noncomputable def Gr(r:V->Hp->VK->Prop)(ta:TE):TE:=λσ H Q=>ta σ H λx H1=>r x H1 Q
noncomputable def rI(C:Int->Int->Prop)(g:Int->Int->V):R2:=λx y H Q=>∃i j,x=.int i/\y=.int j/\C i j/\Q (g i j) H
noncomputable def yD(g:Int->Int->V):R2:=λx y H Q=>∃i j,x=.int i/\y=.int j/\Q (g i j) H
noncomputable def rU(g:Int->V):V->Hp->VK->Prop:=λx H Q=>∃i,x=.int i/\Q (g i) H
section
variable{X:Cx}{a b c:KJ}{ta tb tc:TE}{pos:Pos}
theorem CF(ha:PE X a ta)(hb:PE X b tb){pins:aH}{s:KN}{σ:St}{H:Hp}{R:V->V->Hp->Prop}(I:`h)
  (h:ta σ H λx H1=>tb σ H1 λy H2=>R x y H2) {Q:aA} {f:KG->KG->Sem KG}
  (hf:∀v u s2 x y H2,Inv X pins σ H2 s2->RelV x v->RelV y u->R x y H2->K2 `i X.A (f v u) Q X.xe s2):
  K2 `i X.A (eval a X.env) (λv s₁=>K2 `i X.A (eval b X.env) (λu s₂=>K2 `i X.A (f v u) Q X.xe s₂) X.xe s₁) X.xe s:=by
 refine cc (ha pins s σ H _ I h) λv s1 zq=>zq.elim λx zq=>zq.elim λH1 zq=>zq.elim λI1 zq=>zq.elim λr1 q1=>?_;refine cc (hb pins s1 σ H1 _ I1 q1) λu s2 zq=>zq.elim λy zq=>zq.elim λH2 zq=>zq.elim λI2 zq=>zq.elim λr2 q2=>?_;exact hf v u s2 x y H2 I2 r1 r2 q2
theorem Et{op:Operator}{r:R2}(ho:jc X (Lg op) r)(ha:PE X a ta)(hb:PE X b tb):PE X (.BinOp a op b pos) (Ed r ta tb):=by
 intro pins s σ H Q I h;exact wpAny_BinOp (CF ha hb I h λv u s2 x y H2 I2 rx ry q=>ho pins s2 σ H2 x y v u Q I2 rx ry q)
theorem Em{op:UnaryOp}{r:V->Hp->VK->Prop}(ho:FL X (unaryOp op) r)(ha:PE X a ta):PE X (.UnaryOp op a pos) (Gr r ta):=by
 intro pins s σ H Q I h;exact UnaryOp_ (cc (ha pins s σ H _ I h) λv s1 zq=>zq.elim λx zq=>zq.elim λH1 zq=>zq.elim λI1 zq=>zq.elim λr1 q1=>ho pins s1 σ H1 x v Q I1 r1 q1)
theorem EF{f:KG->KG->Sem KG}{C:Int->Int->Prop}{g:Int->Int->Int}
  (rule:∀(i j:Int)(t u:Tok)(s:KN)(Q:aA)(E:aA),C i j->Q (.int (g i j) s.toks) {s with toks:=s.toks+1}->K2 `i X.A (f (.int i t) (.int j u)) Q E s):
  jc X f (rI C λi j=>.int (g i j)):=by
 intro pins s σ H x y v u Q I rx ry h;obtain⟨i,j,rfl,rfl,hc,q⟩:=h;obtain⟨t,rfl⟩:=rx;obtain⟨t',rfl⟩:=ry;exact rule i j t t' s _ _ hc ⟨.int (g i j),H,I.tok _,⟨_,rfl⟩,q⟩
theorem DT{f:KG->KG->Sem KG}{g:Int->Int->Int}
  (rule:∀(i j:Int)(t u:Tok)(s:KN)(Q:aA)(E:aA),Q (.int (g i j) s.toks) {s with toks:=s.toks+1}->K2 `i X.A (f (.int i t) (.int j u)) Q E s):
  jc X f (yD λi j=>.int (g i j)):=by
 intro pins s σ H x y v u Q I rx ry h;obtain⟨i,j,rfl,rfl,q⟩:=h;obtain⟨t,rfl⟩:=rx;obtain⟨t',rfl⟩:=ry;exact rule i j t t' s _ _ ⟨.int (g i j),H,I.tok _,⟨_,rfl⟩,q⟩
theorem D5{f:KG->KG->Sem KG}{g:Int->Int->Bool}
  (rule:∀(i j:Int)(t u:Tok)(s:KN)(Q:aA)(E:aA),Q (.bool (g i j)) s->K2 `i X.A (f (.int i t) (.int j u)) Q E s):
  jc X f (yD λi j=>.bl (g i j)):=by
 intro pins s σ H x y v u Q I rx ry h;obtain⟨i,j,rfl,rfl,q⟩:=h;obtain⟨t,rfl⟩:=rx;obtain⟨t',rfl⟩:=ry;exact rule i j t t' s _ _ ⟨.bl (g i j),H,I,rfl,q⟩
noncomputable def DK(i j:Int):Prop:=0<=j/\j<=1000000/\i.natAbs<2^64
noncomputable def Bz(i j:Int):Prop:=(-(2^64)<i/\i<2^64)\/(-(2^64)<j/\j<2^64)
theorem Bz.ok{i j:Int}(h:Bz i j):IntMulOk i j:=by
 rcases h with⟨h1,h2⟩|⟨h1,h2⟩
 ·exact .of_left (intBits_le_64 h1 h2)
 ·exact .of_right (intBits_le_64 h1 h2)
theorem BD:jc X (Lg .Add) (yD λi j=>.int (i+j)):=DT λ_ _ _ _ _ _ _ q=>add_int q
theorem Bu:jc X (Lg .Sub) (yD λi j=>.int (i-j)):=DT λ_ _ _ _ _ _ _ q=>sub_int q
theorem BO:jc X (Lg .Mult) (rI Bz λi j=>.int (i*j)):=EF λ_ _ _ _ _ _ _ hc q=>mul_int q hc.ok
theorem BM:jc X (Lg .Mod) (rI (λ_ j=>0<j) λi j=>.int (i%j)):=EF λi j _ _ _ _ _ hc q=>by
 have h1:(0:Int)<j:=hc;exact mod_int' `o (by rw[Int.fmod_eq_emod_of_nonneg i `o];exact q)
theorem B3:jc X (Lg .Pow) (rI DK λi j=>.int (i^j.toNat)):=EF λ_ _ _ _ _ _ _ hc q=>pow_int_small hc.1 hc.2.1 hc.2.2 q
theorem GH{f:KG->Sem KG}{g:Int->Int}
  (rule:∀(i:Int)(t:Tok)(s:KN)(Q:aA)(E:aA),Q (.int (g i) s.toks) {s with toks:=s.toks+1}->K2 `i X.A (f (.int i t)) Q E s):
  FL X f (rU λi=>.int (g i)):=by
 intro pins s σ H x v Q I rx h;obtain⟨i,rfl,q⟩:=h;obtain⟨t,rfl⟩:=rx;exact rule i t s _ _ ⟨.int (g i),H,I.tok _,⟨_,rfl⟩,q⟩
theorem Cy:FL X (unaryOp .USub) (rU λi=>.int (-i)):=GH λ_ _ _ _ _ q=>neg_int q
end
section
variable{X:Cx}{a b c:KJ}{ta tb tc:TE}{pos:Pos}
theorem vL{pins:aH}{σ:St}{H:Hp}{s:KN}{Q:VK}{k k':Bool}(I:`h)(q:Q (.bl k) H)(e:k=k'):EP X pins σ Q (.bool k') s:=by
 subst e;exact⟨.bl k,H,I,rfl,q⟩
theorem DG:jc X (Lh .Lt) (yD λi j=>.bl (decide (i<j))):=D5 λ_ _ _ _ _ _ _ q=>lt_int q
theorem AD:jc X (Lh .Gt) (yD λi j=>.bl (decide (j<i))):=D5 λ_ _ _ _ _ _ _ q=>gt_int q
theorem uY:jc X (Lh .Lt) (λx y H Q=>∃i j,x=.str i/\y=.str j/\Q (.bl (decide (i.cps.toList<j.cps.toList))) H):=by
 intro pins s σ H x y v u Q I rx ry h;obtain⟨i,j,rfl,rfl,q⟩:=h;obtain⟨t,rfl⟩:=rx;obtain⟨t',rfl⟩:=ry;exact lt_str (vL I q rfl)
theorem gz(b:KJ){op:CmpOp}(h:op≠.In:=by decide)(h2:op≠.NotIn:=by decide):Li op b=false:=by
 have e1:(op==CmpOp.In)=false:=by cases op<;>first|rfl|exact absurd rfl h
 have e2:(op==CmpOp.NotIn)=false:=by cases op<;>first|rfl|exact absurd rfl h2
 cases b<;>simp[Li,e1,e2]
theorem yB{op:CmpOp}{r:R2}(ho:jc X (Lh op) r)(ha:PE X a ta)(hb:PE X b tb)(hm:Li op b=false):PE X (.Compare a [op] [b] pos) (Ed r ta tb):=by
 intro pins s σ H Q I h;exact wpAny_Compare1 (CF ha hb I h λv u s2 x y H2 I2 rx ry q=>ho pins s2 σ H2 x y v u Q I2 rx ry q) hm
noncomputable def AV(t:TE):TT:=λσ H Q=>t σ H λx H'=>∃k,x=.bl k/\Q k H'
theorem yu{op:CmpOp}{r:R2}(ho:jc X (Lh op) r)(ha:PE X a ta)(hb:PE X b tb)(hm:Li op b=false):PT X (.Compare a [op] [b] pos) (AV (Ed r ta tb)):=by
 intro pins s σ H Q I h;refine wpAny_isTrue_Compare1 (cc (ha pins s σ H _ I h) λv s1 zq=>zq.elim λx zq=>zq.elim λH1 zq=>zq.elim λI1 zq=>zq.elim λr1 q1=>cc (hb pins s1 σ H1 _ I1 q1) λu s2 zq=>zq.elim λy zq=>zq.elim λH2 zq=>zq.elim λI2 zq=>zq.elim λr2 q2=>
  cc (ho pins s2 σ H2 x y v u _ I2 r1 r2 q2) λc s3 zq=>zq.elim λz zq=>zq.elim λH3 zq=>zq.elim λI3 zq=>zq.elim λr3 zq=>zq.elim λk zq=>zq.elim λe q3=>?_) hm
 subst e;cases r3;exact wpAny_truthy_bool ⟨H3,I3,q3⟩
noncomputable def DM(K:J1)(x:V)(H:Hp)(k:Bool):Prop:=
 match x with
 |.non=>k=false
 |.bl b=>k=b
 |.int i=>k=(i !=0)
 |.str y=>y.length<=KS/\k=((y.length:Int) !=0)
 |.byt y=>y.size<=KS/\k=((y.size:Int) !=0)
 |.ref p=>(∃xs,jA K H p xs/\k=!xs.isEmpty)\/(∃xs,nV K H p xs/\k=!xs.isEmpty)\/∃kvs,H p=some (.dK kvs)/\k=!kvs.isEmpty
 |_=>False
theorem rG{κ:Type}{kvs:List (κ×V)}{vs:List (κ×KG)}(r:KV kvs vs):(!vs.isEmpty)=!kvs.isEmpty:=by
 cases r<;>rfl
theorem lm{xs:az}{its:aC}(r:Vals xs its):(!its.toArray.isEmpty)=!xs.isEmpty:=by
 cases r<;>simp
theorem ji:(KS:Nat)<2^63:=by rw[Lj];decide
theorem Bw:F4 X (λx H Q=>∃k,DM X.K x H k/\Q k H):=by
 intro pins s σ H x v Q I rx h;obtain⟨k,e,q⟩:=h;have hl:=ji;have hs:KS=16777216:=Lj;cases x with
 |non=>
  cases rx;have e':k=false:=e;subst e';exact truthy_none ⟨H,I,q⟩
 |bl b=>
  cases rx;have e':k=b:=e;subst e';exact wpAny_truthy_bool ⟨H,I,q⟩
 |int i=>
  obtain⟨t,rfl⟩:=rx;have e':k=(i !=0):=e;subst e';exact PySem.P.truthy_int ⟨H,I,q⟩
 |str y=>
  obtain⟨t,rfl⟩:=rx;obtain⟨hy,e'⟩:y.length<=KS/\k=((y.length:Int) !=0):=e;subst e';exact PySem.P.truthy_str `o ⟨H,I.tok _,q⟩
 |byt y=>
  obtain⟨t,rfl⟩:=rx;obtain⟨hy,e'⟩:y.size<=KS/\k=((y.size:Int) !=0):=e;subst e';exact PySem.W.truthy_bytes `o ⟨H,I.tok _,q⟩
 |ref p=>
  cases rx;have e':(∃xs,jA X.K H p xs/\k=!xs.isEmpty)\/(∃xs,nV X.K H p xs/\k=!xs.isEmpty)\/∃kvs,H p=some (.dK kvs)/\k=!kvs.isEmpty:=e;rcases e' with⟨xs,hx,e'⟩|⟨xs,hx,e'⟩|⟨kvs,hx,e'⟩
  ·subst e';obtain⟨its,r,pl,hz⟩:=I.list hx;have hlen:=r.length;exact wpAny_truthy_list pl.isList (by simp only[Hk];omega) ⟨H,I.tok _,by rw[lm r];exact q⟩
  ·subst e';obtain⟨its,r,pl,hz⟩:=I.tuple hx;have hlen:=r.length;exact truthy_tuple pl (by simp only[Hk];omega) ⟨H,I.tok _,by rw[lm r];exact q⟩
  ·subst e';obtain⟨hz,hS,vs,r,m⟩:kvs.length<=KS/\(p==sysModules)=false/\∃vs,KV kvs vs/\s.heap.DictOf (aJ X.prog X.w) p vs:=I.hok p _ hx;have hlen:kvs.length=vs.length:=Paired.length r;exact wpAny_truthy_dict hS m `o ⟨H,I.tok _,by rw[rG r];exact q⟩
 |_=>exact(show False from e).elim
theorem xY(ha:PE X a ta)(he:∀whole,isTrue a X.env whole=(do let v<-whole;standAt a.pos;holding [v] (truthy v))):
  PT X a (λσ H Q=>ta σ H λx H'=>∃k,DM X.K x H' k/\Q k H'):=by
 intro pins s σ H Q I h;exact isTrue_plain (cc (ha pins s σ H _ I h) λv s1 zq=>zq.elim λx zq=>zq.elim λH1 zq=>zq.elim λI1 zq=>zq.elim λr1 q1=>Bw pins s1 σ H1 x v Q I1 r1 q1) (he _)
theorem rE:jc X (Lg .Add) (λx y H Q=>∃i j,x=.str i/\y=.str j/\i.length+j.length<=KS/\Q (.str (i++j)) H):=by
 intro pins s σ H x y v u Q I rx ry h;obtain⟨i,j,rfl,rfl,hz,q⟩:=h;obtain⟨t,rfl⟩:=rx;obtain⟨t',rfl⟩:=ry;exact add_str (λt' tk=>⟨.str (i++j),H,I.tok _,⟨_,rfl⟩,q⟩) hz
theorem vals1{x:V}{us:aC}(r:Vals [x] us):∃u,us=[u]/\RelV x u:=by
 cases r with
 |cons r1 r2=>cases r2;exact⟨_,rfl,r1⟩
theorem vals2{x y:V}{us:aC}(r:Vals [x,y] us):∃u w',us=[u,w']/\RelV x u/\RelV y w':=by
 cases r with
 |cons r1 r2=>
  cases r2 with
  |cons r3 r4=>cases r4;exact⟨_,_,rfl,r1,r3⟩
end
section
variable{prog:KP}{w:KO}{A:KY}{E:aA}{s:KN}{K:J1}{x dx C f:KI}{mA:cF}{name:Str}{v:KG}
end
theorem ot.some_of{v:V}{o:Option KG}(r:ot (some v) o):∃u,o=some u/\RelV v u:=by
 cases o with
 |none=>exact(show False from r).elim
 |some u=>exact⟨u,rfl,r⟩
section
variable{X:Cx}{pins:aH}{σ:St}{H:Hp}{s:KN}{a C dx:KI}{fs:List (Str×V)}{f:Str}{v:V}{A:KY}{E:aA}
end
structure ik(k:Nat)(A:KY):Prop where
 hd:A.handled=none
 dp:A.depth+3*k+5<recursionLimit
 un:A.units+16*k+200<Ln
theorem ik.mono{j k:Nat}{A:KY}(r:ik k A)(h:j<=k):ik j A:=⟨r.hd,by have:=r.dp;omega,by have:=r.un;omega⟩
theorem ik.deeper{k:Nat}{A:KY}(r:ik (k+1) A)(env:Env):ik k (A.deeper env):=
 ⟨r.hd,by have:=r.dp;show A.depth+1+3*k+5<_;omega,by have:=r.un;show A.units+3+16*k+200<_;omega⟩
theorem ik.depth{k:Nat}{A:KY}(r:ik k A):A.depth<recursionLimit:=by have:=r.dp;omega
theorem ik.units{k:Nat}{A:KY}(r:ik k A):A.units+64<Ln:=by have:=r.un;omega
noncomputable def Fo:TA:=λ_ H Q=>Q [] H
noncomputable def DC(ta:TE)(tr:TA):TA:=λσ H Q=>ta σ H λx H1=>tr σ H1 λxs H2=>Q (x::xs) H2
section
variable{X:Cx}{e:KJ}{es:aY}{te:TE}{t:TA}{pos:Pos}
theorem rJ:PA X [] Fo:=λ_ _ _ _ H Q I h=>Calls.spliced_nil ⟨[],H,I,.nil,h⟩
theorem kx(ha:PE X e te)(hr:PA X es t)(hs:K3 (e::es) X.env=(false,eval e X.env)::K3 es X.env:=by rfl):PA X (e::es) (DC te t):=by
 intro pos pins s σ H Q I h;rw[hs];show K2 _ _ (spliced ((false,eval e X.env)::backTo pos (K3 es X.env))) _ _ s;refine Calls.spliced_cons (cc (ha pins s σ H _ I h) λu s1 zq=>zq.elim λx zq=>zq.elim λH1 zq=>zq.elim λI1 zq=>zq.elim λr1 q1=>?_);exact cc (hr pos pins s1 σ H1 _ I1 q1) λus s2 zq=>zq.elim λxs zq=>zq.elim λH2 zq=>zq.elim λI2 zq=>zq.elim λr2 q2=>⟨x::xs,H2,I2,.cons r1 r2,q2⟩
noncomputable def Gd(t:TA):TE:=λσ H Q=>t σ H λxs H1=>xs.length<=KS/\∀p,H1 p=none->Q (.ref p) (upd H1 p (.tup xs))
noncomputable def F3(t:TA):TE:=λσ H Q=>t σ H λxs H1=>xs.length<=KS/\∀p,H1 p=none->Q (.ref p) (upd H1 p (.lst xs))
theorem A0{x1}(h:PA X es t):PE X (.Tuple es x1 pos) (Gd t):=by
 intro pins s σ H Q I hq;refine wpAny_Tuple_spliced (cc (h pos pins s σ H _ I hq) λus s1 zq=>zq.elim λxs zq=>zq.elim λH1 zq=>zq.elim λI1 zq=>zq.elim λr zq=>zq.elim λz q=>⟨by rw[<-r.length];exact z,?_⟩);have hf:H1 s1.heap.objs.size=none:=I1.hok.fresh (Hi _);refine⟨.ref s1.heap.objs.size,upd H1 s1.heap.objs.size (.tup xs),I1.laid (t':=s1.toks) (λb u e=>Kf _ e) (Hi _) ?_,rfl,q _ hf⟩;exact⟨z,us,r,⟨_,Kg _ rfl,rfl,_,rfl⟩⟩
theorem v9(h:PA X es t):PE X (.List es pos) (F3 t):=by
 intro pins s σ H Q I hq;refine wpAny_List_spliced (cc (h pos pins s σ H _ I hq) λus s1 zq=>zq.elim λxs zq=>zq.elim λH1 zq=>zq.elim λI1 zq=>zq.elim λr zq=>zq.elim λz q=>⟨by rw[<-r.length];exact z,?_⟩);have hf:H1 s1.heap.objs.size=none:=I1.hok.fresh (Hi _);refine⟨.ref s1.heap.objs.size,upd H1 s1.heap.objs.size (.lst xs),I1.laid (t':=s1.toks) (λb u e=>Kf _ e) (Hi _) ?_,rfl,q _ hf⟩;exact⟨z,us,0,r,Kg _ rfl⟩
end
noncomputable abbrev Sp:=List V->Hp->VK->XK->Prop
noncomputable abbrev v0:=List Env->Hp->KN->XK->aA
structure zr(P:KP)(w:KO)(K:J1)(mg:cF)(base:KR)(A:KY)(outer:List Env)(s:KN)(H:Hp):Prop where
 frames:A.frames=some outer
 mod:Mod K mg base
 bs:∀b o,base.get? b=some o->s.heap.get? b=some o/\H b=none
 bsz:base.objs.size<=s.heap.objs.size
 funs:s.heap.FunFrames base outer
 frf:∀b∈frs outer,H b=none
 hok:jV P w H s.heap
 bare:AllBare s.gens
noncomputable def CE(outer:List Env)(P:KP)(w:KO)(H:Hp)(s:KN)(Q:VK)(u:KG)(s':KN):Prop:=
 ∃v H',s'.os=s.os/\AllBare s'.gens/\Un (frs outer) [] H H' s.heap s'.heap/\jV P w H' s'.heap/\RelV v u/\Q v H'
noncomputable def CR(CX:v0)(outer:List Env)(P:KP)(w:KO)(H:Hp)(s:KN)(Q:VK)(E:XK)(r:Result)(s':KN):Prop:=
 match r with
 |.ok (.ret u)=>CE outer P w H s Q u s'
 |.ok _=>False
 |.error e=>CX outer H s E e s'
structure j9(P:KP)(w:KO)(K:J1)(mg:cF)(base:KR)(CX:v0)(k:Nat)(f:KI)(fd:Lp)(ps:aK)(sp:Sp):Prop where
 len:∀vs H Q E,sp vs H Q E->vs.length=ps.length
 run:∀(A:KY)(outer:List Env)(s:KN)(H:Hp)(args:Args)(us:aC)(vs:az)(Q:VK)(E:XK),ik k A->zr P w K mg base A outer s H->Lq s fd args (ps.zip us)->Vals vs us->sp vs H Q E->
  Lr (model P w) A (.call (.ref f) args) (CR CX outer P w H s Q E) s
section
variable{X:Cx}{pins:aH}{σ:St}{H:Hp}{s s':KN}
theorem Inv.env0(I:`h):zr X.prog X.w X.K X.mg X.base X.A X.stack s H:=
 ⟨I.ok.frames,I.ok.mod,I.bs,G3 I.ok.bsz I.sz,I.stack,I.stkFree,I.hok,I.bare⟩
theorem Inv.after{Q:VK}{u:KG}(I:`h)(h:CE X.stack X.prog X.w H s Q u s'):EP X pins σ Q u s':=by
 obtain⟨v,H',os,bare,un,hok,r,q⟩:=h;obtain⟨hh,g,d,t,os'⟩:=s';obtain rfl:os'=s.os:=os;exact⟨v,H',I.call (h':=hh) (g':=g) (d':=d) (t':=t) (ch:=[]) un hok bare (λb z=>absurd z (by simp)),r,q⟩
end
noncomputable def Binds(K:J1)(fd:Lp)(ps:aK)(ds:aC):Prop:=
 ∀(s:KN)(us:aC),K.In s.heap->(us++ds).length=ps.length->Lq s fd ⟨us,[]⟩ (ps.zip (us++ds))
theorem Binds.all{K:J1}{fd:Lp}{ps:aK}(h:∀us:aC,us.length=ps.length->bindArgs fd ⟨us,[]⟩=pure (ps.zip us)):Binds K fd ps []:=λs us _ hl=>by
 rw[Hl]at hl ⊢;exact .of_eq (h us hl)
section
variable{X:Cx}{CX:v0}{k:Nat}{f C:KI}{fd:Lp}{ps:aK}{sp:Sp}{dvs:az}{ds:aC}{E:XK}{x m:Str}{p pos apos:Pos}{e o:KJ}{es:aY}{ta:TE}{t:TA}
end
structure fm(N P:aK)(sc:KZ):Prop where
 kind:sc.kind=.function
 co:sc.isCoroutine=false
 gen:sc.isGenerator=false
 nd:N.Nodup
 pre:N.take P.length=P
 par:∀x∈P,sc.names.lookup x=some .local\/sc.names.lookup x=some .cell
 nofree:∀y∈sc.names,y.2≠.free
theorem mP{kindOf:Str->Option KH}{x:Str}:∀{binds:List (Str×KG)}{m:cF},(∀v,(x,v)∉binds)->bindL kindOf binds m x=m x
 |[],_,_=>rfl
 |(n,v)::r,m,h=>by
  unfold bindL;rw[mP λw hw=>h w (Ha _ hw)];split
  ·have:x≠n:=(by rintro rfl;exact h v G9);simp[this]
  ·rfl
theorem mV{kindOf:Str->Option KH}{x:Str}:∀{binds:List (Str×KG)}{m:cF},(∀v,(x,v)∉binds)->bindC kindOf binds m x=m x
 |[],_,_=>rfl
 |(n,v)::r,m,h=>by
  unfold bindC;rw[mV λw hw=>h w (Ha _ hw)];split
  ·rfl
  ·have:x≠n:=(by rintro rfl;exact h v G9);simp[this]
theorem m9{kindOf:Str->Option KH}{x:Str}{v:KG}:∀{P:aK}{vs:aC}{i:Nat}{m:cF},P.Nodup->P[i]?=some x->vs[i]?=some v->kindOf x=some .local->
  bindL kindOf (P.zip vs) m x=some v
 |[],_,_,_,_,h,_,_=>by simp at h
 |_::_,[],_,_,_,_,h,_=>by simp at h
 |p::P,w::vs,0,m,nd,h1,h2,hk=>by
  simp at h1 h2;subst h1;subst h2;show bindL kindOf ((p,w)::P.zip vs) m p=_;unfold bindL;rw[mP λv hv=>(List.nodup_cons.mp nd).1 (Hm hv).1,if_pos hk];simp
 |p::P,w::vs,i+1,m,nd,h1,h2,hk=>by
  show bindL kindOf ((p,w)::P.zip vs) m x=_;unfold bindL;exact m9 (i:=i) (List.nodup_cons.mp nd).2 (by simpa using h1) (by simpa using h2) hk
theorem nO{kindOf:Str->Option KH}{x:Str}{v:KG}:∀{P:aK}{vs:aC}{i:Nat}{m:cF},P.Nodup->P[i]?=some x->vs[i]?=some v->kindOf x≠some .local->
  bindC kindOf (P.zip vs) m x=some v
 |[],_,_,_,_,h,_,_=>by simp at h
 |_::_,[],_,_,_,_,h,_=>by simp at h
 |p::P,w::vs,0,m,nd,h1,h2,hk=>by
  simp at h1 h2;subst h1;subst h2;show bindC kindOf ((p,w)::P.zip vs) m p=_;unfold bindC;rw[mV λv hv=>(List.nodup_cons.mp nd).1 (Hm hv).1,if_neg hk];simp
 |p::P,w::vs,i+1,m,nd,h1,h2,hk=>by
  show bindC kindOf ((p,w)::P.zip vs) m x=_;unfold bindC;exact nO (i:=i) (List.nodup_cons.mp nd).2 (by simpa using h1) (by simpa using h2) hk
noncomputable def start(N:aK)(vs:az):St:=vs.map some++List.replicate (N.length-vs.length) none
noncomputable def iy(CX:v0)(P:KP)(w:KO)(K:J1)(mg:cF)(base:KR)(N:aK)(qual:Str)(scope:KZ)(f:KI)(cd:KG)(A:KY)(outer:List Env)(s:KN)(H:Hp)(E:XK):Cx where
 prog:=P
 w:=w
 K:=K
 mg:=mg
 base:=base
 A:=A.deeper (envOfC qual scope s.heap.objs.size f cd)
 N:=N
 s₀:=s
 H₀:=H
 env:=envOfC qual scope s.heap.objs.size f cd
 outer:=outer
 stack:=envOfC qual scope s.heap.objs.size f cd::outer
 ex:=[]
 calm:=true
 fn:=λ_=>true
 pn:=[]
 xe:=λe s'=>K2 (model P w) (A.deeper (envOfC qual scope s.heap.objs.size f cd)) (leaving (envOfC qual scope s.heap.objs.size f cd) e) (λ_ s''=>CX outer H s E e s'') (λe' s''=>CX outer H s E e' s'') s'
theorem pT{sc:KZ}{n:Nat}{x:Str}(h:sc.names.lookup x=some .cell):∃c,(cellsFrom n sc.names []).lookup x=some c:=by
 have q:=J3 sc.names n [] (.inl h);exact Option.isSome_iff_exists.mp q
theorem uN{CX:v0}{P:KP}{w:KO}{K:J1}{mg:cF}{base:KR}{N ps:aK}{qual:Str}{scope:KZ}{f:KI}{cd:KG}{A:KY}{outer:List Env}{s s1:KN}{H:Hp}{E:XK}{us:aC}{vs:az}
  (S:fm N ps scope) (hd:A.handled=none) (e0:zr P w K mg base A outer s H) (hl:vs.length=ps.length) (r:Vals vs us)
  (x:InCallC s s.heap.objs.size (bindL (envOfC qual scope s.heap.objs.size f cd).kindOf (ps.zip us) λ_=>none) (cellsFrom (s.heap.objs.size+1) scope.names []) (bindC (envOfC qual scope s.heap.objs.size f cd).kindOf (ps.zip us) λ_=>none) s1):
  Inv (iy CX P w K mg base N qual scope f cd A outer s H E) [] (start N vs) H s1:=by
 have hpl:ps.length<=N.length:=by have:=congrArg List.length S.pre;rw[Ho]at this;omega
 obtain⟨h1,tk,rfl,hk⟩:=x.done;have noA:∀b:KI,b∉(iy CX P w K mg base N qual scope f cd A outer s H E).ex:=λb z=>absurd (show b∈([]:ah)from z) (by simp);refine⟨⟨e0.mod,S.kind,rfl,rfl,Hi _,λy z c h1 h2=>?_,λy hy=>?_,λy c _ h=>?_,λ_=>hd,Around.frames_deeper e0.frames,.inr ⟨rfl,rfl⟩,λb z=>absurd z (noA b),e0.bs,e0.bsz,λb _ _=>noA b,λb z=>absurd z (noA b),e0.funs,e0.frf⟩,
  rfl,e0.bare,Un.kept hk,⟨_,x.toInCall.ns,λi y v h1 h2 h3=>?_⟩,λy c h=>⟨_,x.cell y c h⟩,e0.hok.fresh (Hi _),λy c h=>?_,λp hp=>absurd (show p∈([]:aH)from hp) (by simp),e0.hok.kept hk,?_⟩
 ·exact name_of_addr x.apart (PySem.mem_of_lookup h1) (PySem.mem_of_lookup h2)
 ·have hy:scope.names.lookup y=some .cell\/scope.names.lookup y=some .free:=hy;rcases hy with hy|hy
  ·exact pT hy
  ·exact absurd rfl (S.nofree _ (PySem.mem_of_lookup hy))
 ·exact G4 (x.above y c (PySem.mem_of_lookup h))
 ·have hi:i<vs.length:=by
   unfold start at h2;by_cases hi:i<vs.length
   ·exact hi
   ·rw[Hq (by simpa using hi)]at h2;rw[Hr]at h2;split at h2<;>cases h2
  have ha:vs[i]?=some v:=by
   unfold start at h2;rw[Hs (by simpa using hi),Ht]at h2;cases e:vs[i]? with
   |none=>rw[e]at h2;cases h2
   |some a=>rw[e]at h2;cases h2;rfl
  obtain⟨u,hu,rv⟩:=r.get ha;have hp:ps[i]?=some y:=by
   rw[<-S.pre,List.getElem?_take_of_lt `o];exact h1
  have ndP:ps.Nodup:=by rw[<-S.pre];exact S.nd.sublist (Hu _ _)
  refine⟨u,rv,?_⟩;rcases S.par y (Hv hp)with k|k
  ·exact .inl ⟨k,m9 ndP hp hu k⟩
  ·obtain⟨c,e⟩:=pT (n:=s.heap.objs.size+1) k;refine .inr ⟨.inl k,c,e,?_⟩;have q:=x.cell y c e;rw[nO ndP hp hu (by show scope.names.lookup y≠_;rw[k];decide)]at q;exact q
 ·exact e0.hok.fresh (G4 (x.above y c (PySem.mem_of_lookup h)))
 ·unfold start;show _=N.length;rw[Hw,Hx,Hy];omega
theorem Do{CX:v0}{P:KP}{w:KO}{K:J1}{mg:cF}{base:KR}{k:Nat}{f:KI}{name qual:Str}{params:Arguments}{body:cD}{scope:KZ}{dV kV doc pm cdv ct oc:KG}{an od:Option KI}
  {osl:Array (Option KG)} {N ps:aK} {sp:Sp} (lk:K.lookup f=some ⟨oc,od,.func (J4 name qual params body scope dV kV doc pm an cdv ct),osl⟩) (hcd:J5 K cdv qual=true) (S:fm N ps scope)
  (len:∀vs H Q E,sp vs H Q E->vs.length=ps.length)
  (hbody:∀ (A:KY) (outer:List Env) (s:KN) (H:Hp) (vs:az) (Q:VK) (E:XK),ik k (A.deeper (envOfC qual scope s.heap.objs.size f cdv))->sp vs H Q E ->
   ∃t,qV (iy CX P w K mg base N qual scope f cdv A outer s H E) body t/\t {nx:=λ_ H'=>Q .non H',rt:=Q} (start N vs) H):
  j9 P w K mg base CX (k+1) f (J4 name qual params body scope dV kV doc pm an cdv ct) ps sp:=by
 refine⟨len,λA outer s H args us vs Q E hr e0 hb r hsp=>?_⟩;have hl:=len _ _ _ _ hsp;have KX:K.In s.heap:=e0.mod.kin.keeps λb o e=>(e0.bs b o e).1;have lim:s.heap.NoLimit:=e0.mod.nolimit.keeps λb o e=>(e0.bs b o e).1;have hkind:∀y∈ps.zip us,scope.names.lookup y.1=some .local\/(scope.names.lookup y.1=some .cell/\((cellsFrom (s.heap.objs.size+1) scope.names []).lookup y.1).isSome=true):=λ⟨n,v⟩ hy=>by
  rcases S.par n (Hm hy).1 with q|q
  ·exact .inl q
  ·exact .inr ⟨q,J3 _ _ _ (.inl q)⟩
 refine codeAny_call_function hr.depth (KX _ _ lk) rfl S.co S.gen rfl (PySem.W.codeRec_of KX hcd) (hb _ _ _ _ ?_);refine wpAny_newFunctionEnv_cells S.kind hkind λenv he s1 x=>?_;subst he;refine⟨lim.keeps x.toInCall.keep,codeAny_func ?_⟩;obtain⟨t,ht,hq⟩:=hbody A outer s H vs Q E (hr.deeper _) hsp;have I:Inv (iy CX P w K mg base N qual scope f cdv A outer s H E) [] (start N vs) H s1:=uN S hr.hd e0 hl r x;refine K4 (ht [] s1 (start N vs) H _ I hq) (λfl s' hs=>?_) λe s' hs=>hs;have fin:∀{σ':St}{H':Hp}{v:V}{u:KG},Inv (iy CX P w K mg base N qual scope f cdv A outer s H E) [] σ' H' s'->RelV v u->Q v H'->CE outer P w H s Q u s':=
  λ{σ' H' v u} J rv q=>⟨v,H',J.os,J.bare,J.base,J.hok,rv,q⟩
 cases fl with
 |ret u=>
  obtain⟨v,σ',H',J,rv,q⟩:=hs;exact fin J rv q
 |next=>
  obtain⟨σ',H',J,q⟩:=hs;exact fin (v:=V.non) (u:=Value.none) J rfl q
 |brk=>
  obtain⟨_,_,_,q⟩:=hs;exact False.elim q
 |cont=>
  obtain⟨_,_,_,q⟩:=hs;exact False.elim q
section
variable{X:Cx}{x:Str}{p pos:Pos}{e:KJ}{es:aY}{t:TA}{id T:String}{r:az->Hp->VK->Prop}
noncomputable def Fg(r:az->Hp->VK->Prop)(t:TA):TE:=λσ H Q=>t σ H λvs H1=>r vs H1 Q
theorem pY(hc:dL X (.builtin id) r)(hg:Gl X x)(hm:X.mg x=none)(hv:KW x=some (.builtin id))(ha:PA X (e::es) t)(hn:x≠"__name__":=by decide)(hdb:(x==("__debug__":Str))=false:=by decide)
  (he:K3 (e::es) X.env=(false,eval e X.env)::K3 es X.env:=by rfl) (hpl:(backTo pos (K3 es X.env)).any (·.1)=false:=by rfl):PE X (.Call (.Name x p) (e::es) [] pos) (Fg r t):=by
 intro pins s σ H Q I h;refine Lv (jq I hg hm hv ?_ hn hdb);exact Kn (cc (ha pos pins s σ H _ I h) λus s1 zq=>zq.elim λvs zq=>zq.elim λH1 zq=>zq.elim λI1 zq=>zq.elim λr1 q1=>hc pins s1 σ H1 vs us Q I1 r1 q1) he hpl
theorem mj(hc:dL X (.type T) r)(hg:Gl X x)(hm:X.mg x=none)(hv:KW x=some (.type T))(ha:PA X (e::es) t)(hn:x≠"__name__":=by decide)(hdb:(x==("__debug__":Str))=false:=by decide)
  (he:K3 (e::es) X.env=(false,eval e X.env)::K3 es X.env:=by rfl) (hpl:(backTo pos (K3 es X.env)).any (·.1)=false:=by rfl):PE X (.Call (.Name x p) (e::es) [] pos) (Fg r t):=by
 intro pins s σ H Q I h;refine Lv (jq I hg hm hv ?_ hn hdb);exact Km (cc (ha pos pins s σ H _ I h) λus s1 zq=>zq.elim λvs zq=>zq.elim λH1 zq=>zq.elim λI1 zq=>zq.elim λr1 q1=>hc pins s1 σ H1 vs us Q I1 r1 q1) he hpl
end
end L2
namespace HT
open PySem PyProof.Rows
theorem Dw(A:KY)(s:KN)(a:Int)(t:Tok)(c:Int)(u:Tok)(prog:KP)(w:KO)(E:KG->KN->Prop)(Q:KG->KN->Prop)(h:Q (.bool (decide (a<c))) s):
  K2 `g A (richCompare .Lt (.int a t) (.int c u)) Q E s:=
 (PyProof.Rows.lt_int h:K2 `g A (Lh .Lt (.int a t) (.int c u)) Q E s)
section
open PySem.SeqAt
open PySem.AutoSeq1 (wpAny_loadPart')
open PySem.MeetsSeq PySem.MeetsSeq2 PySem.MeetsSeq3
end
section
variable{prog:KP}{w:KO}{A:KY}{E:KG->KN->Prop}{s:KN}
theorem EL{t b:KI}{vs ws:List KG}{Q:KG->KN->Prop}(ht:IsTup s.heap t vs.toArray)(hb:IsTup s.heap b ws.toArray)(hv:vs≠[])
  (h1:ws=[]->Q (.ref t) s) (h2:ws≠[]->Q (.ref s.heap.objs.size) {s with heap:=s.heap.push {cls:=.type "tuple",data:=.seq (vs++ws).toArray}})
  (hsz:vs.length+ws.length<=KS):K2 `g A (Lg .Add (.ref t) (.ref b)) Q E s:=by
 obtain⟨⟨cls,dd,data,sl⟩,ho,hc,n,hd⟩:=id ht;obtain⟨⟨cls2,dd2,data2,sl2⟩,ho2,hc2,n2,hd2⟩:=id hb;simp only at hc hd hc2 hd2;subst hc hd hc2 hd2;have e:vs.toArray++ws.toArray=(vs++ws).toArray:=by simp
 by_cases hw:ws=[]
 ·exact Lw ⟨_,ho,rfl⟩ ⟨_,ho2,rfl⟩ Lx Ly Ku Kv (Kw _ _)
   (tuple_addW1 t b vs.toArray ws.toArray n n2 dd dd2 sl sl2 (by simpa using hv) (by simp[hw])) ⟨ho,ho2,h1 hw⟩
 ·refine Lw ⟨_,ho,rfl⟩ ⟨_,ho2,rfl⟩ Lx Ly Ku Kv (Kw _ _)
   (tuple_addW2 t b vs.toArray ws.toArray n n2 dd dd2 sl sl2 (by simpa using hv) (by simpa using hw) (by rw[Hk,Hk];exact hsz)) ⟨ho,ho2,?_⟩
  rw[e];exact h2 hw
noncomputable def sIx(n d:Nat):Option Int->Nat
 |none=>d
 |some v=>if v<0 then(v+(n:Int)).toNat else min v.toNat n
theorem Dn(n d:Nat):sIx n d none=d:=rfl
theorem Ez(n d k:Nat):sIx n d (some (k:Int))=min k n:=by
 show(if(k:Int)<0 then((k:Int)+(n:Int)).toNat else min (k:Int).toNat n)=min k n;rw[if_neg `o,Hz]
theorem B6(n d:Nat)(hd:d<=n)(o:Option Int):sIx n d o<=n:=by
 cases o with
 |none=>exact hd
 |some v=>
  show(if v<0 then(v+(n:Int)).toNat else min v.toNat n)<=n;by_cases hv:v<0
  ·rw[if_pos hv];omega
  ·rw[if_neg hv];exact Nat.min_le_right _ _
theorem sV(v:Int)(n d:Nat):(if v<0 then max (v+(n:Int)) 0 else min v (n:Int))=((sIx n d (some v):Nat):Int):=by
 show(if v<0 then max (v+(n:Int)) 0 else min v (n:Int))=(((if v<0 then(v+(n:Int)).toNat else min v.toNat n):Nat):Int)
 by_cases hv:v<0
 ·simp only[if_pos hv];omega
 ·simp only[if_neg hv];omega
theorem rC(lo hi:Option Int)(n:Nat):Builtin.Slice.sliceAdjust lo hi 1 (n:Int)=(((sIx n 0 lo:Nat):Int),((sIx n n hi:Nat):Int)):=by
 have h1:¬((1:Int)<0):=by omega
 unfold Builtin.Slice.sliceAdjust;simp only[h1,if_false];refine Prod.ext ?_ ?_
 ·cases lo with
  |none=>rfl
  |some v=>exact sV v n 0
 ·cases hi with
  |none=>rfl
  |some v=>exact sV v n n
theorem qU(i j:Nat):Builtin.Slice.slicePlaces (i:Int) (j:Int) 1=j-i:=by
 unfold Builtin.Slice.slicePlaces;have h1:(1:Int)>0:=by omega
 simp only[h1,if_true,Int.ediv_one];split<;>omega
theorem lA{v:KG}{o:Option Int}{Q:Option Int->KN->Prop}(p:Lz v o)(h:Q o s):K2 `g A (Builtin.Slice.slicePartIndex v) Q E s:=by
 cases p with
 |none=>exact slicePart_none h
 |int i t=>exact slicePart_int h
theorem jt{sl:KI}{vl vu:KG}{lo hi:Option Int}{n:Nat}{Q:Int×Int×Nat->KN->Prop}(hs:s.heap.IsSliceOf sl vl vu .none)(pl:Lz vl lo)(pu:Lz vu hi)
  (h:Q (((sIx n 0 lo:Nat):Int),1,sIx n n hi-sIx n 0 lo) s):K2 `g A (Builtin.Slice.sliceApplied (.ref sl) (pure (n:Int))) Q E s:=by
 obtain⟨os,hos,hcs,hds⟩:=id hs;unfold Builtin.Slice.sliceApplied Builtin.Slice.sliceFields;refine Lc (Lc (wpAny_field hos hds (x:=vl) rfl (Lc (wpAny_field hos hds (x:=vu) rfl (Lc (wpAny_field hos hds (x:=.none) rfl (Lb ?_)))))));refine Lc (slicePart_none ?_);show K2 _ _ (if((1:Int)==0)=true then _ else _) _ _ s;rw[if_neg (by decide)];refine Lc (lA pl (Lc (lA pu (Lc (Lb ?_)))));show K2 _ _ (match Builtin.Slice.sliceAdjust lo hi 1 (n:Int)with|(lo,hi)=>pure (lo,(1:Int),Builtin.Slice.slicePlaces lo hi 1)) _ _ s;rw[rC lo hi n];show K2 _ _ (pure (((sIx n 0 lo:Nat):Int),(1:Int),Builtin.Slice.slicePlaces ((sIx n 0 lo:Nat):Int) ((sIx n n hi:Nat):Int) 1)) _ _ s;rw[qU];exact Lb h
theorem v5(xs:Array KG)(i k:Nat):((List.range k).filterMap λ(m:Nat)=>xs[((i:Int)+(m:Int)*1).toNat]?).toArray=((xs.toList.drop i).take k).toArray:=by
 have e:(λ(m:Nat)=>xs[((i:Int)+(m:Int)*1).toNat]?)=λm=>xs[i+m]?:=by
  funext m
  have:((i:Int)+(m:Int)*1).toNat=i+m:=by omega
  rw[this]
 rw[e]
 have:=pick_run xs i k
 rw[List.filterMap_map]at this;have e2:((λx=>xs[x]?)∘λx=>i+x)=λm=>xs[i+m]?:=rfl;rw[e2]at this;rw[this]
theorem tx{t sl:KI}{items:Array KG}{vl vu:KG}{lo hi:Option Int}{Q:KG->KN->Prop}(ht:IsTup s.heap t items)(hs:s.heap.IsSliceOf sl vl vu .none)(pl:Lz vl lo)(pu:Lz vu hi)
  (hw:¬(sIx items.size 0 lo=0/\sIx items.size items.size hi=items.size))
  (h:Q (.ref s.heap.objs.size) {s with heap:=s.heap.push {cls:=.type "tuple",data:=.seq ((items.toList.drop (sIx items.size 0 lo)).take (sIx items.size items.size hi-sIx items.size 0 lo)).toArray}})
  (hsz:items.size<=KS):K2 `g A (getItem (.ref t) (.ref sl)) Q E s:=by
 have htake:sizeOk (.seq ((items.toList.drop (sIx items.size 0 lo)).take (sIx items.size items.size hi-sIx items.size 0 lo)).toArray):=by
  show((items.toList.drop (sIx items.size 0 lo)).take (sIx items.size items.size hi-sIx items.size 0 lo)).toArray.size<=KS;rw[Hk,Ho,HA,Array.length_toList];omega
 have hj:sIx items.size items.size hi<=items.size:=B6 _ _ (Hi _) hi;obtain⟨os,hos,hcs,hds⟩:=id hs;have hTs:s.TypeIs (.ref sl) "slice":=⟨os,hos,hcs⟩
 unfold getItem
 try with_reducible refine LA ?_
 first|refine Lc (Lb ?_)|skip
 refine Lc (wpAny_sequenceKey ht.typeIs (by decide) ?_);refine Lc (LC (name:=Str.ofString "__getitem__") ht.typeIs Ko
  (LD Ko ht.typeIs entry_tuple_getitem ?_ (args_tuple_getitem _ _)))
 show K2 _ _ (Builtin.Tuple.tupleItemsOf (.ref t) >>= _) _ _ s;refine Lc (tupleItemsOf_ ht ?_);refine Lc (LI hTs ?_);rw[if_pos (by decide)];refine Lc (jt hs pl pu ?_);have hno:¬((((sIx items.size 0 lo:Nat):Int)==0&&(1:Int)==1&&(sIx items.size items.size hi-sIx items.size 0 lo)==items.size)=true):=by
  intro q;rw[HB,HB]at q;have q1:((sIx items.size 0 lo:Nat):Int)=0:=eq_of_beq q.1.1;have q2:sIx items.size items.size hi-sIx items.size 0 lo=items.size:=eq_of_beq q.2;exact hw ⟨by omega,by omega⟩
 show K2 _ _ (if(((sIx items.size 0 lo:Nat):Int)==0&&(1:Int)==1&&(sIx items.size items.size hi-sIx items.size 0 lo)==items.size)=true then _ else _) _ _ s;rw[if_neg hno,v5]
 first
  |exact Lc (m:=Builtin.Tuple.tupleExact _) (LJ (Lb ⟨_,rfl,Lb h⟩) htake)
  |exact Lc (m:=Builtin.Tuple.tupleExact _) (LJ (Lc (Lb (Lb ⟨_,rfl,Lb h⟩))) htake)
  |exact Lc (Lc (m:=Builtin.Tuple.tupleExact _) (LJ (Lb (Lb ⟨_,rfl,Lb h⟩)) htake))
  |exact Lc (Lc (m:=Builtin.Tuple.tupleExact _) (LJ (Lb ⟨_,rfl,Lb h⟩) htake))
end
end HT
namespace L2
open PySem PySem.Spec PyProof.Rows
noncomputable abbrev TO:=St->Hp->(bP->Hp->Prop)->Prop
noncomputable def PO(X:Cx)(e:Option KJ)(t:TO):Prop:=
 ∀(pins:aH)(s:KN)(σ:St)(H:Hp)(Q:bP->Hp->Prop),Inv X pins σ H s->t σ H Q->
  K2 `i X.A (evalPart e X.env) (λu s'=>∃o H',Inv X pins σ H' s'/\Lz u o/\Q o H') X.xe s
noncomputable def y0:TO:=λ_ H Q=>Q none H
noncomputable def Dm(t:TE):TO:=λσ H Q=>t σ H λx H1=>∃i,x=.int i/\Q (some i) H1
section
variable{X:Cx}{e:KJ}{te:TE}{lo hi:Option KJ}{tl th:TO}{pos p2:Pos}
theorem yn:PO X none y0:=by
 intro pins s σ H Q I h;rw[evalPart_none];exact Lb ⟨none,H,I,.none,h⟩
theorem zA(h:PE X e te):PO X (some e) (Dm te):=by
 intro pins s σ H Q I hw;rw[evalPart_some];refine cc (h pins s σ H _ I hw) λu s1 zq=>zq.elim λx zq=>zq.elim λH1 zq=>zq.elim λI1 zq=>zq.elim λr1 q1=>?_;obtain⟨i,rfl,q⟩:=q1;obtain⟨t,rfl⟩:=r1;exact⟨some i,H1,I1,.int i t,q⟩
noncomputable def Ey(X:Cx)(r:V->bP->bP->Hp->VK->Prop):Prop:=
 ∀(pins:aH)(s:KN)(σ:St)(H:Hp)(x:V)(v vl vu:KG)(lo hi:bP)(sl:KI)(Q:VK),Inv X pins σ H s->RelV x v->s.heap.IsSliceOf sl vl vu .none->Lz vl lo->Lz vu hi->r x lo hi H Q->
  ∃T id,typeLookup (.type T) "__getitem__"=pure (some (.builtin id))/\s.TypeIs v T/\K2 `i X.A (getItem v (.ref sl)) (EP X pins σ Q) X.xe s
noncomputable def Gy(r:V->bP->bP->Hp->VK->Prop)(te:TE)(tl th:TO):TE:=λσ H Q=>te σ H λx H1=>tl σ H1 λl H2=>th σ H2 λu H3=>r x l u H3 Q
theorem xZ{r:V->bP->bP->Hp->VK->Prop}(hr:Ey X r)(he:PE X e te)(hl:PO X lo tl)(hu:PO X hi th):PE X (.Subscript e (.Slice lo hi none p2) pos) (Gy r te tl th):=by
 intro pins s σ H Q I h;refine Subscript_ (cc (he pins s σ H _ I h) λv s1 zq=>zq.elim λx zq=>zq.elim λH1 zq=>zq.elim λI1 zq=>zq.elim λr1 q1=>?_);refine wpAny_Slice (cc (hl pins s1 σ H1 _ I1 q1) λvl s2 zq=>zq.elim λl zq=>zq.elim λH2 zq=>zq.elim λI2 zq=>zq.elim λpl q2=>cc (hu pins s2 σ H2 _ I2 q2) λvu s3 zq=>zq.elim λu zq=>zq.elim λH3 zq=>zq.elim λI3 zq=>zq.elim λpu q3=>?_);rw[evalPart_none];refine Lb ?_;have I4:Inv X pins σ H3 {s3 with heap:=s3.heap.push {cls:=.type "slice",data:=.fields #[vl,vu,.none]}}:=I3.kept (t':=s3.toks) λb ob q=>Kf _ q;obtain⟨T,id,hT,ht,hg⟩:=hr pins {s3 with heap:=s3.heap.push {cls:=.type "slice",data:=.fields #[vl,vu,.none]}} σ H3 x v vl vu l u s3.heap.objs.size Q I4 r1 (Heap.IsSliceOf.new ..) pl pu q3;show K2 `i X.A (subscriptTail e (.Slice lo hi none p2) v (.ref s3.heap.objs.size)) (EP X pins σ Q) X.xe {s3 with heap:=s3.heap.push {cls:=.type "slice",data:=.fields #[vl,vu,.none]}};exact tail_any (ops:=[.ref s3.heap.objs.size,v]) ht hT hg (by with_unfolding_all rfl)
noncomputable def pp(xs:az)(lo hi:bP):az:=(xs.drop (HT.sIx xs.length 0 lo)).take (HT.sIx xs.length xs.length hi-HT.sIx xs.length 0 lo)
theorem jU(xs:az)(lo hi:bP):(pp xs lo hi).length<=xs.length:=by
 unfold pp;rw[Ho,HA];omega
noncomputable def E9(K:J1):V->bP->bP->Hp->VK->Prop:=λx lo hi H Q=>∃a xs,x=.ref a/\nV K H a xs/\
 ¬(HT.sIx xs.length 0 lo=0/\HT.sIx xs.length xs.length hi=xs.length)/\∀p,H p=none->Q (.ref p) (upd H p (.tup (pp xs lo hi)))
theorem A3:Ey X (E9 X.K):=by
 intro pins s σ H x v vl vu lo hi sl Q I rx hs pl pu h;obtain⟨a,xs,rfl,hx,hw,q⟩:=h;cases rx;obtain⟨its,r,ht,hz⟩:=I.tuple hx;have hlen:its.toArray.size=xs.length:=by rw[Hk];exact r.length.symm
 refine⟨"tuple",_,PyProof.Rows.slot_tuple_getitem.lookup,ht.typeIs,?_⟩;refine HT.tx ht hs pl pu (by rw[hlen];exact hw) ?_ (by rw[hlen];exact hz);rw[hlen];refine⟨.ref s.heap.objs.size,_,I.laid (t':=s.toks) (o:=.tup (pp xs lo hi)) (λb ob q=>Kf _ q) (Hi _) ?_,rfl,q _ (I.hok.fresh (Hi _))⟩;exact⟨G3 (jU xs lo hi) hz,_,(r.drop (HT.sIx xs.length 0 lo)).take (HT.sIx xs.length xs.length hi-HT.sIx xs.length 0 lo),IsTup.new _ _⟩
noncomputable def Ec(K:J1):R2:=λx y H Q=>∃a b xs ys,x=.ref a/\y=.ref b/\nV K H a xs/\nV K H b ys/\xs≠[]/\xs.length+ys.length<=KS/\
 (ys=[]->Q (.ref a) H)/\(ys≠[]->∀p,H p=none->Q (.ref p) (upd H p (.tup (xs++ys))))
theorem Vals.nil_iff{xs:az}{us:aC}(r:Vals xs us):us=[]↔xs=[]:=by
 cases r with
 |nil=>simp
 |cons _ _=>simp
theorem yL:jc X (Lg .Add) (Ec X.K):=by
 intro pins s σ H x y v u Q I rx ry h;obtain⟨a,b,xs,ys,rfl,rfl,ha,hb,hx,hz,q1,q2⟩:=h;cases rx;cases ry;obtain⟨its,r1,p1,_⟩:=I.tuple ha;obtain⟨its2,r2,p2,_⟩:=I.tuple hb;refine HT.EL p1 p2 (λz=>hx (r1.nil_iff.mp z)) (λz=>⟨.ref a,H,I,rfl,q1 (r2.nil_iff.mp z)⟩) (λz=>?_) (by rw[<-r1.length,<-r2.length];exact hz);refine⟨.ref s.heap.objs.size,_,I.laid (t':=s.toks) (o:=.tup (xs++ys)) (λb ob q=>Kf _ q) (Hi _) ?_,rfl,q2 (λw=>z (r2.nil_iff.mpr w)) _ (I.hok.fresh (Hi _))⟩;exact⟨by rw[Hw];exact hz,_,r1.append r2,IsTup.new _ _⟩
end
noncomputable def za(n:Nat)(i:Int):Option Nat:=if 0<=i then(if i<n then some i.toNat else none)else if -(n:Int)<=i then some (i+n).toNat else none
noncomputable def iC{α:Type}(xs:List α)(i:Int):Option α:=(za xs.length i).bind λj=>xs[j]?
theorem z5{n:Nat}{i:Int}{j:Nat}(h:za n i=some j):seqIndex? i n=some j/\j<n/\-(n:Int)<=i/\i<n:=by
 unfold za at h;by_cases h0:0<=i
 ·rw[if_pos h0]at h;by_cases h1:i<n
  ·rw[if_pos h1]at h;have e:i.toNat=j:=Option.some.inj h;exact⟨by rw[seqIndex_of h0 h1,e],by omega,by omega,h1⟩
  ·rw[if_neg h1]at h;cases h
 ·rw[if_neg h0]at h;by_cases h1:-(n:Int)<=i
  ·rw[if_pos h1]at h;have e:(i+n).toNat=j:=Option.some.inj h;exact⟨by rw[seqIndex_neg `o h1,e],by omega,h1,by omega⟩
  ·rw[if_neg h1]at h;cases h
theorem ox{α:Type}{xs:List α}{i:Int}{v:α}(h:iC xs i=some v):∃j,seqIndex? i xs.length=some j/\xs[j]?=some v/\j<xs.length/\-(xs.length:Int)<=i/\i<xs.length:=by
 unfold iC at h;cases e:za xs.length i with
 |none=>rw[e]at h;cases h
 |some j=>
  rw[e]at h;obtain⟨h1,h2,h3,h4⟩:=z5 e;exact⟨j,h1,h,h2,h3,h4⟩
theorem rX{α:Type}{xs:List α}{j:Nat}{v:α}(h:xs[j]?=some v):iC xs (j:Int)=some v:=by
 have hj:j<xs.length:=(List.getElem?_eq_some_iff.mp h).1;have e:za xs.length (j:Int)=some j:=by
  unfold za;rw[if_pos `o,if_pos `o];simp
 unfold iC;rw[e];exact h
noncomputable def iS(b:KJ):Prop:=∀o i,subscripted b false o i=operate [o,i] (getItem o i)
noncomputable def DZ(X:Cx)(r:R2):Prop:=
 ∀(value slice:KJ)(pins:aH)(s:KN)(σ:St)(H:Hp)(x y:V)(v u:KG)(Q:VK),Inv X pins σ H s->RelV x v->RelV y u->r x y H Q->
  subscripted slice false v u=operate [v,u] (getItem v u)->K2 `i X.A (subscriptTail value slice v u) (EP X pins σ Q) X.xe s
noncomputable def GL(X:Cx)(id:String)(r:V->az->Hp->VK->Prop):Prop:=
 ∀(pins:aH)(s:KN)(σ:St)(H:Hp)(x:V)(xs:az)(v:KG)(us:aC)(Q:VK),Inv X pins σ H s->RelV x v->Vals xs us->r x xs H Q->
  K2 `i X.A (call (.builtin id) (v::us)) (EP X pins σ Q) X.xe s
section
variable{X:Cx}{a b:KJ}{ta tb:TE}{pos:Pos}
theorem vS{r:R2}(hr:DZ X r)(ha:PE X a ta)(hb:PE X b tb)(hs:iS b):PE X (.Subscript a b pos) (Ed r ta tb):=by
 intro pins s σ H Q I h;exact Subscript_ (CF ha hb I h λv u s2 x y H2 I2 rx ry q=>hr a b pins s2 σ H2 x y v u Q I2 rx ry q (hs _ _))
noncomputable def FY(K:J1):R2:=λx y H Q=>∃p xs i v,x=.ref p/\y=.int i/\jA K H p xs/\iC xs i=some v/\Q v H
noncomputable def EX(K:J1):R2:=λx y H Q=>∃p xs i v,x=.ref p/\y=.int i/\nV K H p xs/\iC xs i=some v/\Q v H
noncomputable def Fi:R2:=λx y H Q=>∃z i c,x=.str z/\y=.int i/\z.length<=KS/\iC z.cps.toList i=some c/\Q (.str ⟨#[c]⟩) H
theorem oh:DZ X (FY X.K):=by
 intro value slice pins s σ H x y v u Q I rx ry h hs;obtain⟨p,xs,i,z,rfl,rfl,hq,he,q⟩:=h;cases rx;obtain⟨t,rfl⟩:=ry;obtain⟨its,r,pl,hz⟩:=I.list hq;obtain⟨j,h1,h2,h3,h4,h5⟩:=ox he;obtain⟨w,ew,rw'⟩:=r.get h2;have hl:=r.length;have hn:=ji;have fin:EP X pins σ Q w s:=⟨z,H,I,rw',q⟩
 by_cases h0:0<=i
 ·have hj:i.toNat=j:=by
   rw[seqIndex_of h0 h5]at h1;exact Option.some.inj h1
  exact item_listR pl.isList h0 `o (by rw[hj];simpa using ew) fin hs
 ·have hj:(i+(its.toArray.size:Int)).toNat=j:=by
   rw[seqIndex_neg `o h4]at h1;rw[Hk,<-hl];exact Option.some.inj h1
  exact subscriptTail_builtinR (x:=w) pl.isList.typeIs slot_list_getitem.lookup
   (wpAny_getItem_list_neg (Q:=λr s'=>r=w/\EP X pins σ Q r s') pl.isList `o (by rw[Hk]<;>omega) `o (by rw[hj];simpa using ew) ⟨rfl,fin⟩) hs
theorem A9:DZ X (EX X.K):=by
 intro value slice pins s σ H x y v u Q I rx ry h hs;obtain⟨p,xs,i,z,rfl,rfl,hq,he,q⟩:=h;cases rx;obtain⟨t,rfl⟩:=ry;obtain⟨its,r,pl,hz⟩:=I.tuple hq;obtain⟨j,h1,h2,h3,h4,h5⟩:=ox he;obtain⟨w,ew,rw'⟩:=r.get h2;have hl:=r.length;have hn:=ji;have fin:EP X pins σ Q w s:=⟨z,H,I,rw',q⟩
 exact subscriptTail_builtinR (x:=w) pl.typeIs slot_tuple_getitem.lookup
  (getItem_tuple (j:=j) (Q:=λr s'=>r=w/\EP X pins σ Q r s') pl `o `o (by rw[Hk,<-hl];exact h1) (by simpa using ew) ⟨rfl,fin⟩) hs
theorem Ck:DZ X Fi:=by
 intro value slice pins s σ H x y v u Q I rx ry h hs;obtain⟨z,i,c,rfl,rfl,hz,he,q⟩:=h;obtain⟨t,rfl⟩:=rx;obtain⟨t',rfl⟩:=ry;obtain⟨j,h1,h2,h3,h4,h5⟩:=ox he;have hl:z.cps.toList.length=z.length:=by simp[Str.length]
 rw[hl]at h1 h4 h5;have hn:=ji;exact tail_any (typeIs_str s z t) slot_str_getitem.lookup (getItem_str (c:=c) (by
  have e1:decide (i < -(2^63:Int))=false:=decide_eq_false `o;have e2:decide (i>=2^63)=false:=decide_eq_false `o;rw[e1,e2,Bool.or_false]) (by rw[h1];simpa using h2) ⟨.str ⟨#[c]⟩,H,I.tok _,⟨_,rfl⟩,q⟩) hs
theorem nZ(lo hi:bP)(n:Nat):(sliceBounds lo hi none n).1=((HT.sIx n 0 lo:Nat):Int)/\(sliceBounds lo hi none n).2.1=((HT.sIx n n hi:Nat):Int)/\(sliceBounds lo hi none n).2.2=1:=by
 refine⟨?_,?_,rfl⟩
 ·cases lo with
  |none=>simp[sliceBounds,HT.sIx]
  |some i=>
   simp only[sliceBounds,HT.sIx,HC,show(1:Int)>0 by decide,if_true];by_cases h:i<0
   ·simp only[h,if_true]<;>omega
   ·simp only[h,if_false]<;>omega
 ·cases hi with
  |none=>simp[sliceBounds,HT.sIx]
  |some i=>
   simp only[sliceBounds,HT.sIx,HC,show(1:Int)>0 by decide,if_true];by_cases h:i<0
   ·simp only[h,if_true]<;>omega
   ·simp only[h,if_false]<;>omega
theorem lZ(its:aC)(lo hi:bP):slicePick its.toArray lo hi none=((its.drop (HT.sIx its.length 0 lo)).take (HT.sIx its.length its.length hi-HT.sIx its.length 0 lo)).toArray:=by
 obtain⟨h1,h2,h3⟩:=nZ lo hi its.toArray.size;unfold slicePick;rw[h1,h2,h3];simp only[sliceRange_one,pick_run,Hk]<;>rfl
noncomputable def Fq(K:J1):V->bP->bP->Hp->VK->Prop:=λx lo hi H Q=>∃a xs,x=.ref a/\jA K H a xs/\∀p,H p=none->Q (.ref p) (upd H p (.lst (pp xs lo hi)))
theorem Aj:Ey X (Fq X.K):=by
 intro pins s σ H x v vl vu lo hi sl Q I rx hs pl pu h;obtain⟨a,xs,rfl,hx,q⟩:=h;cases rx;obtain⟨its,r,ht,hz⟩:=I.list hx;have hlen:=r.length;refine⟨"list",_,slot_list_getitem.lookup,ht.isList.typeIs,?_⟩;refine wpAny_getItem_list_slice ht.isList hs pl pu .none (by simp) ?_ (by rw[Hk]<;>omega);rw[lZ,<-hlen];refine⟨.ref s.heap.objs.size,_,I.laid (t':=s.toks) (o:=.lst (pp xs lo hi)) (λb ob q=>Kf _ q) (Hi _) ?_,rfl,q _ (I.hok.fresh (Hi _))⟩;exact⟨G3 (jU xs lo hi) hz,_,0,(r.drop (HT.sIx xs.length 0 lo)).take (HT.sIx xs.length xs.length hi-HT.sIx xs.length 0 lo),Kg _ rfl⟩
noncomputable def xh:V->Bool
 |.non=>true
 |.bl _=>true
 |.int _=>true
 |.str _=>true
 |_=>false
noncomputable def Fp:V->V->Bool
 |.non,.non=>true
 |.bl a,.bl b=>a==b
 |.bl a,.int b=>(if a then 1 else 0)==b
 |.int a,.bl b=>a==(if b then 1 else 0)
 |.int a,.int b=>a==b
 |.str a,.str b=>a==b
 |_,_=>false
theorem CL{A:KY}{s:KN}{y x:V}{u v:KG}(ry:RelV y u)(rx:RelV x v)(fy:xh y=true)(fx:xh x=true):SeqAt.EqAt A s u v (Fp y x):=by
 cases y with
 |non=>
  cases ry;cases x with
  |non=>cases rx;exact SeqAt.EqAt.same _
  |bl b=>cases rx;exact SeqAt.EqAt.none_bool b
  |int b=>obtain⟨t,rfl⟩:=rx;exact SeqAt.EqAt.none_int b t
  |str b=>obtain⟨t,rfl⟩:=rx;exact SeqAt.EqAt.none_str b t
  |_=>exact absurd (show false=true from fx) Hg
 |bl a=>
  cases ry;cases x with
  |non=>cases rx;exact SeqAt.EqAt.bool_none a
  |bl b=>cases rx;exact SeqAt.EqAt.bool_bool a b
  |int b=>obtain⟨t,rfl⟩:=rx;exact SeqAt.EqAt.bool_int a b t
  |str b=>obtain⟨t,rfl⟩:=rx;exact SeqAt.EqAt.bool_str a b t
  |_=>exact absurd (show false=true from fx) Hg
 |int a=>
  obtain⟨t',rfl⟩:=ry;cases x with
  |non=>cases rx;exact SeqAt.EqAt.int_none a t'
  |bl b=>cases rx;exact SeqAt.EqAt.int_bool a t' b
  |int b=>obtain⟨t,rfl⟩:=rx;exact SeqAt.EqAt.int_int a t' b t
  |str b=>obtain⟨t,rfl⟩:=rx;exact SeqAt.EqAt.int_str a t' b t
  |_=>exact absurd (show false=true from fx) Hg
 |str a=>
  obtain⟨t',rfl⟩:=ry;cases x with
  |non=>cases rx;exact SeqAt.EqAt.str_none a t'
  |bl b=>cases rx;exact SeqAt.EqAt.str_bool a t' b
  |int b=>obtain⟨t,rfl⟩:=rx;exact SeqAt.EqAt.str_int a t' b t
  |str b=>obtain⟨t,rfl⟩:=rx;exact SeqAt.EqAt.str_str a t' b t
  |_=>exact absurd (show false=true from fx) Hg
 |_=>exact absurd (show false=true from fy) Hg
theorem iR:dL X (.builtin "len") (λxs H Q=>∃p ys,xs=[.ref p]/\(jA X.K H p ys\/nV X.K H p ys)/\Q (.int ys.length) H):=by
 intro pins s σ H xs us Q I r h;obtain⟨p,ys,rfl,hq,q⟩:=h;obtain⟨u,rfl,rx⟩:=vals1 r;cases rx;have hn:=ji;rcases hq with hq|hq
 ·obtain⟨its,r',pl,hz⟩:=I.list hq;have hlen:=r'.length;exact Calls.call_len_list pl.isList (by simp only[Hk]<;>omega) ⟨.int ys.length,H,I.tok _,⟨s.toks+1,by rw[Hk,hlen]⟩,q⟩
 ·obtain⟨its,r',pl,hz⟩:=I.tuple hq;have hlen:=r'.length;exact len_tuple pl (by simp only[Hk]<;>omega) ⟨.int ys.length,H,I.tok _,⟨s.toks+1,by rw[Hk,hlen]⟩,q⟩
theorem oK:dL X (.builtin "len") (λxs H Q=>∃z,xs=[.str z]/\z.length<=KS/\Q (.int z.length) H):=by
 intro pins s σ H xs us Q I r h;obtain⟨z,rfl,hz,q⟩:=h;obtain⟨u,rfl,t,rfl⟩:=vals1 r;have hn:=ji;exact len_str `o ⟨.int z.length,H,I.tok _,⟨_,rfl⟩,q⟩
theorem iu:dL X (.type "tuple") (λxs H Q=>∃p ys,xs=[.ref p]/\((jA X.K H p ys/\∀l,H l=none->Q (.ref l) (upd H l (.tup ys)))\/(nV X.K H p ys/\Q (.ref p) H))):=by
 intro pins s σ H xs us Q I r h;obtain⟨p,ys,rfl,h⟩:=h;obtain⟨u,rfl,rx⟩:=vals1 r;cases rx;rcases h with⟨hq,q⟩|⟨hq,q⟩
 ·obtain⟨its,r',pl,hz⟩:=I.list hq;have hlen:=r'.length;refine call_tuple_list pl.isList (λh' kp=>?_) (by simp only[Hk]<;>omega);have I1:Inv X pins σ H {s with heap:=h'}:=I.kept (t':=s.toks) kp;have I2:Inv X pins σ (upd H h'.objs.size (.tup ys)) {s with heap:=h'.push {cls:=.type "tuple",data:=.seq its.toArray}}:=
   I1.laid (t':=s.toks) (λb o e=>Kf _ e) (Hi _) (show bC X.prog X.w _ _ _ (.tup ys)from⟨hz,its,r',IsTup.new _ _⟩)
  exact⟨.ref h'.objs.size,_,I2,rfl,q _ (I1.hok.fresh (Hi _))⟩
 ·obtain⟨its,r',pl,hz⟩:=I.tuple hq;exact call_tuple_same pl ⟨.ref p,H,I,rfl,q⟩
noncomputable def Gs(K:J1)(T:String)(x:V)(H:Hp):Prop:=match x with
 |.str _=>T="str"
 |.int _=>T="int"
 |.ref p=>(T="list"/\∃xs,jA K H p xs)\/(T="tuple"/\∃o,K.lookup p=some o/\o.cls=.type "tuple"/\o.dict=none) \/
   (T="dict"/\((∃kvs,H p=some (.dK kvs))\/∃kvs,H p=some (.dT kvs)))\/(T="set"/\∃S n,H p=some (.set S n))
 |_=>False
theorem Cu{pins:aH}{σ:St}{H:Hp}{s:KN}{T:String}{x:V}{v:KG}(I:`h)(r:RelV x v)(ty:Gs X.K T x H):
  s.TypeIs v T/\∀a,v=.ref a->∃ob,s.heap.get? a=some ob/\ob.dict=none:=by
 cases x with
 |str z=>
  obtain⟨t,rfl⟩:=r;cases(show T="str"from ty);exact⟨typeIs_str s z t,λ_ e=>nomatch e⟩
 |int i=>
  obtain⟨t,rfl⟩:=r;cases(show T="int"from ty);exact⟨typeIs_int s i t,λ_ e=>nomatch e⟩
 |ref p=>
  cases r;rcases ty with⟨rfl,xs,hq⟩|⟨rfl,o,hk,hc,hd⟩|⟨rfl,hk⟩|⟨rfl,S,n,hk⟩
  ·obtain⟨its,_,pl,_⟩:=I.list hq;refine⟨pl.isList.typeIs,λa e=>?_⟩;cases e;obtain⟨o,n,e,c,hd,_⟩:=pl;exact⟨o,e,hd⟩
  ·refine⟨⟨o,I.kIn p o hk,hc⟩,λa e=>?_⟩;cases e;exact⟨o,I.kIn _ o hk,hd⟩
  ·have z:∃o,s.heap.get? p=some o/\o.ExactDict:=by
    rcases hk with⟨kvs,hk⟩|⟨kvs,hk⟩
    ·obtain⟨_,_,_,_,o,_,_,e,ex,_⟩:=I.hok p _ hk;exact⟨o,e,ex⟩
    ·obtain⟨_,_,_,_,o,_,_,e,ex,_⟩:=I.hok p _ hk;exact⟨o,e,ex⟩
   obtain⟨o,e,ex⟩:=z;refine⟨⟨o,e,ex.1⟩,λa e2=>?_⟩;cases e2;exact⟨o,e,ex.2.1⟩
  ·obtain⟨o,_,_,_,e,ex,_⟩:=I.hok p _ hk;refine⟨⟨o,e,ex.1⟩,λa e2=>?_⟩;cases e2;exact⟨o,e,ex.2.1⟩
 |_=>exact False.elim ty
noncomputable def GQ(K:J1)(T:String)(r:V->az->Hp->VK->Prop)(to:TE)(t:TA):TE:=λσ H Q=>to σ H λx H1=>Gs K T x H1/\t σ H1 λxs H2=>r x xs H2 Q
variable{o e:KJ}{es:aY}{to:TE}{t:TA}{name:Str}{apos cpos:Pos}{T id:String}{r:V->az->Hp->VK->Prop}
theorem AR(pa:PlainAttrs T)(slot:Slot T name id)(hty:typeOf (.builtin id)=pure (.type "method_descriptor"))(hm:GL X id r)(ho:PE X o to)(ha:PA X (e::es) t)
  (hbase:LK o name X.env (eval o X.env)=eval o X.env:=by rfl)
  (hfew:((backTo cpos (K3 (e::es) X.env)).all (fun x=>!x.1) && (backToKw cpos (LL [] X.env)).all (fun x=>x.1.isSome)
   && decide ((e::es).length+([]:List LN).length+(if([]:List LN).isEmpty then 0 else 1)<30))=true:=by rfl)
  (hline:(apos.endLine==cpos.line)=true:=by rfl) (hs:K3 (e::es) X.env=(false,eval e X.env)::K3 es X.env:=by rfl) (hplain:(backTo cpos (K3 es X.env)).any (·.1)=false:=by rfl):
  PE X (.Call (.Attribute o name apos) (e::es) [] cpos) (GQ X.K T r to t):=by
 intro pins s σ H Q I h;refine wpAny_Call_method_late hbase hfew hline rfl (cc (ho pins s σ H _ I h) λv s1 zq=>zq.elim λx zq=>zq.elim λH1 zq=>zq.elim λI1 zq=>zq.elim λr1 zq=>zq.elim λty q1=>?_);obtain⟨h1,h2⟩:=Cu I1 r1 ty;refine⟨T,id,pa,slot,hty,h1,h2,?_⟩;have hA:=ha cpos pins s1 σ H1 _ I1 q1;rw[hs]at hA ⊢;refine Calls.callWith_builtin (by show(false||(backTo cpos (K3 es X.env)).any (·.1))=false;rw[hplain]<;>rfl) (Calls.evalArgs_plain ?_);exact cc hA λus s2 zq=>zq.elim λvs zq=>zq.elim λH2 zq=>zq.elim λI2 zq=>zq.elim λr2 q2=>hm pins s2 σ H2 x vs v us Q I2 r1 r2 q2
end
noncomputable def FP(X:Cx)(id:String)(r:V->az->Hp->VK->Prop):Prop:=
 ∀(pins:aH)(s:KN)(σ:St)(H:Hp)(x:V)(xs:az)(v:KG)(us:aC)(Q:VK),Inv X pins σ H s->RelV x v->Vals xs us->r x xs H Q->
  K2 `i X.A (call (.builtin id) (v::us)) (EP X pins σ Q) X.xe s
theorem Vals.one{x:V}{us:aC}(h:Vals [x] us):∃u,us=[u]/\RelV x u:=by
 cases h with|cons r t=>
 cases t;exact⟨_,rfl,r⟩
theorem Vals.two{x y:V}{us:aC}(h:Vals [x,y] us):∃u v,us=[u,v]/\RelV x u/\RelV y v:=by
 cases h with|cons r t=>
 obtain⟨v,rfl,q⟩:=Vals.one t;exact⟨_,_,rfl,r,q⟩
section
variable{X:Cx}{pins:aH}{σ:St}{H:Hp}{s:KN}{l b:KI}{xs ys zs:az}
theorem Inv.lset{its its':aC}{n:Nat}{f:dF->dF}{t':Nat}(I:`h)(hH:H l=some (.lst xs))
  (e:s.heap.get? l=some {cls:=.type "list",data:=.seq its.toArray n}) (hf:f its.toArray=its'.toArray) (hv:Vals ys its') (hz:ys.length<=KS):
  Inv X pins σ (upd H l (.lst ys)) {s with heap:=s.heap.update l (Obj.mapSeq f),toks:=t'}:=by
 have q:=PySem.IsL.update e f;rw[hf]at q;refine I.write (x:=l) (e:=l) (by rw[hH];exact trivial) (.inl rfl) (λb' u hb hu=>(Kh s.heap (Obj.mapSeq f) (Ne.symm hb)).trans hu) ⟨_,q⟩ ?_;exact⟨hz,its',_,hv,q⟩
theorem Inv.lnew{its:aC}{t':Nat}(I:`h)(hv:Vals ys its)(hz:ys.length<=KS):
  Inv X pins σ (upd H s.heap.objs.size (.lst ys)) {s with heap:=s.heap.push {cls:=.type "list",data:=.seq its.toArray},toks:=t'}:=
 I.laid (λ_ _ q=>Kf _ q) (Hi _) ⟨hz,its,0,hv,Kg _ rfl⟩
theorem Inv.fresh(I:`h):H s.heap.objs.size=none:=I.hok.fresh (Hi _)
theorem Inv.lstM(I:`h)(hH:H l=some (.lst xs)):xs.length<=KS/\∃(its:aC)(n:Nat),Vals xs its/\xs.length=its.length/\s.heap.get? l=some {cls:=.type "list",data:=.seq its.toArray n}:=by
 obtain⟨z,its,n,r,e⟩:=I.hok l _ hH;exact⟨z,its,n,r,r.length,e⟩
end
section
variable{X:Cx}
noncomputable def sB:V->az->Hp->VK->Prop:=λx vs H Q=>∃l xs y,x=.ref l/\vs=[y]/\H l=some (.lst xs)/\xs.length<KS/\Q .non (upd H l (.lst (xs++[y])))
theorem mY:FP X "list.append" sB:=by
 intro pins s σ H x vs v us Q I rx rv h;obtain⟨l,xs,y,rfl,rfl,hH,hz,q⟩:=h;cases rx;obtain⟨u,rfl,ru⟩:=rv.one;obtain⟨z,its,n,r,hl,e⟩:=I.lstM hH;refine call_meets F.slot_list_append ⟨_,e,rfl⟩ F.entry_list_append (F.args_list_append_2 _ _) (PySem.list_append l its.toArray n u (by rw[Hk];omega)) ⟨e,?_⟩;refine⟨.non,_,I.lset (its':=its++[u]) hH e (by simp) (r.append (.cons ru .nil)) ?_,rfl,q⟩;rw[Hw,HD];omega
end
end L2
namespace Att
open PySem PySem.W PySem.Calls PyProof.Rows
theorem kc{P:Params}{h:KR}:∀(ns:List Int)(vs:List KG),WellAll P h vs (ns.map WData.int)->IntsAre vs ns:=by
 intro ns
 induction ns with
 |nil=>
  intro vs w;rw[HE]at w;cases w;exact .nil
 |cons n ns ih=>
  intro vs w;rw[HF]at w;cases w with
  |cons a b=>
   cases a;exact .cons _ _ (ih _ b)
theorem uo{l:OpenLaw}{n:Nat}(hn:l.most=some n){P:Params}{h:KR}{args:List WData}{vals:List KG}
  (hpre:l.row.toRowW.claim.pre args=true) (hwl:WellAll P h vals args):
  ∃a vs ns,vals=[Value.ref a]/\args=[WData.list (ns.map WData.int)]/\h.get? a=some {cls:=.type "list",data:=.seq vs.toArray}/\IntsAre vs ns/\ns.length<=n:=by
 have hsh:WShape.hasAll [] args [.list .int]=true:=(pre_splitW hpre).1;have hc:l.pre.holds [] {args:=args}=true:=(pre_splitW hpre).2;obtain⟨d,r,rfl,h1,h2⟩:=hasAllW_cons hsh;obtain rfl:=hasAllW_nil h2;obtain⟨xs,rfl,h3⟩:=hasW_list h1;obtain⟨ns,rfl⟩:=items_int h3;have hlen:ns.length<=n:=by
  unfold OpenLaw.pre at hc;have h4:(WTm.not (.lt (.lit (.int (n:Int))) (.len (.arg 0)))).holds [] {args:=[.list (ns.map .int)]}=true:=by
   have h4:=(holds_andW hc).1;rw[hn]at h4;exact h4
  have h5:=condW_of h4 (w_not (w_lt w_lit (w_len_list (w_arg rfl))));rw[Hx]at h5;refine HG λq=>?_;have q':(n:Int)<((ns.length:Nat):Int):=by omega
  first
   |(rw[decide_eq_true q']at h5;exact absurd h5 (by decide))
   |(simp at h5;omega)
 cases hwl with
 |cons w1 w2=>
  cases w2;cases w1 with
  |list ho hall=>exact⟨_,_,ns,rfl,rfl,ho,kc ns _ hall,hlen⟩
theorem vd(l:OpenLaw)(args:List WData):l.row.toRowW.claim.post args (.bool true) args=true:=
 postW_of (r:=l.row.toRowW) (X:=(true==true))
  (show WShape.has [] (.bool true) .bool=true by first|rfl|decide|simp[WShape.has,WShape.arms,WShape.armsAll])
  (show(WTm.eq .res (.lit (.bool true))).value [] {args:=args,res:=some (.bool true),after:=args}=some (.bool (true==true))from w_eq_bool (w_res rfl) w_lit) rfl
theorem As{l:OpenLaw}{n:Nat}{q:KP}{loose:List Str}{XP:(Str->Option KG)->KR->Prop}{YP:KO->KR->Prop}{d:DefRec}
  (hn:l.most=some n) (hdf:d.params.defaults=[])
  (call:∀ (w:KO) (s₀ s₁:KN) (mg mb:Str->Option KG) (fa:KI) (o:Obj) (pm cd doc:KG) (a:KI) (vs:List KG) (ns:List Int),
   Ground q loose [] XP w s₀ mg mb s₁.heap->YP w s₁.heap->
   s₁.heap.get? fa=some o->o.data=.func (docDef d.name d.params d.body d.scope pm cd doc)->s₁.heap.CodeRec cd d.name->mg d.name=some (.ref fa)->
   s₁.heap.get? a=some {cls:=.type "list",data:=.seq vs.toArray}->IntsAre vs ns->ns.length<=n->s₁.gens=#[]->
   Lr (model l.prog w) callerA (.call (.ref fa) ⟨[.ref a],[]⟩) (λr s'=>r=.ok (.ret (.bool true))/\OldK s₁.heap s'.heap/\s'.os=s₁.os/\AllBare s'.gens) s₁):
  WalkO q loose XP YP l.row.toRowW d [] (λf vs=>PySem.call f vs):=by
 intro w s₀ s₁ mg mb G Y fa o pm cd doc dV kV ho hd hcd hD hmg hg args vals as hpre hlay hrd hwl hlo;obtain rfl:dV=.none:=Dflts.none hD hdf;obtain rfl:kV=.none:=Dflts.noKw hD;obtain⟨a,vs,ns,rfl,rfl,hobj,hints,hlen⟩:=uo hn hpre hwl;refine enter_call (LO (call w s₀ s₁ mg mb fa o pm cd doc a vs ns G Y ho (fd_plain hd) hcd hmg hobj hints hlen hg) λr s' hq=>?_);obtain⟨rfl,h2,h3,h4⟩:=hq;exact⟨.inl ⟨.bool true,.bool true,[],rfl,λ_=>rfl,.bool true,vd l _,λ_=>⟨List.Pairwise.nil,λ_ hm=>(nomatch hm)⟩⟩,h2,h3,h4⟩
section
variable{prog:KP}{w:KO}{A:KY}{E:KG->KN->Prop}{s:KN}{K:Frag}
end
end Att
namespace L2
open PySem PySem.Spec PyProof.Rows
theorem nq:∀{vs:aC}{ns:List Int},IntsAre vs ns->Vals (ns.map V.int) vs
 |_,_,.nil=>.nil
 |_,_,.cons n t h=>.cons ⟨t,rfl⟩ (nq h)
noncomputable def Only(H:Hp):Prop:=∀b,H b=none\/∃o xs,H b=some (.frz o (.lst xs))
theorem w6{P:KP}{w:KO}{K:J1}{mg mb:cF}{CX:v0}{k:Nat}{fa a:KI}{fd:Lp}{x:Str}{sp:Sp}{s₁:KN}{vs:aC}{ns:List Int}
  (KX:K.In s₁.heap) (hns:s₁.heap.Ns KU mg) (hb:s₁.heap.Ns builtinsNs mb) (hbb:∀x:Str,x≠"__name__"->mb x=KW x) (hlim:s₁.heap.NoLimit) (hg:s₁.gens=#[])
  (ha:s₁.heap.get? a=some {cls:=.type "list",data:=.seq vs.toArray}) (hi:IntsAre vs ns) (hl:ns.length<=KS) (hr:ik k callerA)
  (F:∀base:KR,K.In base->base.Ns KU mg->j9 P w K mg base CX k fa fd [x] sp) (hbind:∀(s:KN)(u:KG),Lq s fd ⟨[u],[]⟩ [(x,u)])
  (hsp:∀H:Hp,Only H->jA K H a (ns.map V.int)->sp [.ref a] H (λv _=>v=.bl true) λ_ _ _=>False)
  (hCX:∀H e s',CX [] H s₁ (λ_ _ _=>False) e s'->False):
  Lr (model P w) callerA (.call (.ref fa) ⟨[.ref a],[]⟩) (λr s'=>r=.ok (.ret (.bool true))/\OldK s₁.heap s'.heap/\s'.os=s₁.os/\AllBare s'.gens) s₁:=by
 have rv:=nq hi;have lenV:=hi.length;have core:∀H:Hp,Only H->jA K H a (ns.map V.int)->jV P w H s₁.heap->(∀b,H b≠none->b=a)->(H a≠none->K.lookup a=none)->
   Lr (model P w) callerA (.call (.ref fa) ⟨[.ref a],[]⟩) (λr s'=>r=.ok (.ret (.bool true))/\OldK s₁.heap s'.heap/\s'.os=s₁.os/\AllBare s'.gens) s₁:=by
  intro H hO hS hok hA hK;have base_of:∀{b:KI}{o:Obj},s₁.heap.get? b=some o->H b=none->(n8 s₁.heap H).get? b=some o:=λe n=>wY e n;have noA:∀{b:KI}{o:Obj}{es:Array LQ}{ep:Nat},s₁.heap.get? b=some o->o.data=.dict es ep->H b=none:=λ{b o es ep} e d=>by
   cases q:H b with
   |none=>rfl
   |some u=>
    have e':b=a:=hA b (by rw[q];simp);subst e';rw[ha]at e;cases e;have d':Data.seq vs.toArray _=Data.dict es ep:=d;cases d'
  have nsK:∀{b:KI}{m:cF},s₁.heap.Ns b m->(n8 s₁.heap H).Ns b m:=λ{b m} ⟨o,es,ep,e,d,r⟩=>⟨o,es,ep,base_of e (noA e d),d,r⟩
  have hKb:K.In (n8 s₁.heap H):=λb o e=>base_of (KX b o e) (by
   cases q:H b with
   |none=>rfl
   |some u=>
    have e':b=a:=hA b (by rw[q];simp);subst e';rw[hK (by rw[q];simp)]at e;cases e)
  have hM:Mod K mg (n8 s₁.heap H):=⟨hKb,nsK hns,⟨mb,nsK hb,hbb⟩,let ⟨mc,h1,h2⟩:=hlim;⟨mc,nsK h1,h2⟩⟩
  have e0:zr P w K mg (n8 s₁.heap H) callerA [] s₁ H:=⟨rfl,hM,λb o e=>zj e,HH (tY _ _),trivial,λb hb=>absurd (show b∈([]:ah)from hb) (by simp),hok,.of_eq hg⟩
  refine LO ((F _ hKb (nsK hns)).run callerA [] s₁ H ⟨[.ref a],[]⟩ [.ref a] [.ref a] _ _ hr e0 (hbind s₁ (.ref a)) (.cons rfl .nil) (hsp H hO hS)) λr s' h=>?_;cases r with
  |error e=>exact(hCX H e s' h).elim
  |ok fl=>
   cases fl with
   |next=>exact False.elim h
   |brk=>exact False.elim h
   |cont=>exact False.elim h
   |ret u=>
    obtain⟨v,H',os,bare,un,hok',r',q⟩:=h;have q':v=.bl true:=q;subst q';obtain rfl:u=Value.bool true:=r';refine⟨rfl,OldK.of_keep λb o e=>?_,os,bare⟩;cases q:H b with
    |none=>exact un.keep b o e q (by intro z;exact absurd (show b∈([]:ah)from z) (by simp)) (by simp)
    |some u=>
     rcases hO b with z|⟨ob,xs,z⟩
     ·rw[q]at z;cases z
     ·have z2:=un.frzs b ob _ z;obtain⟨e1,_⟩:=hok b _ z;obtain⟨e2,_⟩:=hok' b _ z2;rw[e]at e1;cases e1;exact e2
 cases hk:K.lookup a with
 |some o=>
  have e:=KX a o hk;rw[ha]at e;cases e;refine core (λ_=>none) (λ_=>.inl rfl) (.inr ⟨_,vs.toArray,_,hk,rfl,rfl,rfl,by rw[Hk,lenV];exact hl,by simpa using rv⟩) (λb u z=>by have z':(none:Option HO)=some u:=z;cases z') (λb z=>absurd rfl z) λz=>absurd rfl z
 |none=>
  refine core (λb=>if b=a then some (.frz {cls:=.type "list",data:=.seq vs.toArray} (.lst (ns.map V.int)))else none) (λb=>?_) (.inl (.inr ⟨{cls:=.type "list",data:=.seq vs.toArray},if_pos rfl⟩)) (λb u z=>?_) (λb z=>?_) λ_=>hk
  ·by_cases hb:b=a
   ·exact .inr ⟨_,_,if_pos hb⟩
   ·exact .inl (if_neg hb)
  ·by_cases hb:b=a
   ·have z':=(if_pos hb).symm.trans z;cases z';subst hb;exact⟨ha,by rw[Hx];exact hl,vs,_,rv,ha⟩
   ·have z':=(if_neg hb).symm.trans z;cases z'
  ·by_cases hb:b=a
   ·exact hb
   ·exact absurd (if_neg hb) z
theorem EQ{l:J6}{n k:Nat}{q:KP}{loose:aK}{XP:(cF)->KR->Prop}{YP:KO->KR->Prop}{d:DefRec}{K:Params->J1}{CX:KO->v0}{sp:KO->Sp}{x:Str}
  (hn:l.most=some n) (hn2:n<=KS) (hdf:d.params.defaults=[]) (hr:ik k callerA)
  (hY:∀(w:KO)(h:KR),YP w h->(K w.params).In h)
  (F:∀ (w:KO) (mg:cF) (fa:KI) (h:KR),(K w.params).In h->h.Ns KU mg->mg d.name=some (.ref fa) ->
   ∃fd:Lp,(∀(s:KN)(u:KG),Lq s fd ⟨[u],[]⟩ [(x,u)])/\
    ∀base:KR,(K w.params).In base->base.Ns KU mg->j9 l.prog w (K w.params) mg base (CX w) k fa fd [x] (sp w))
  (hsp:∀(w:KO)(H:Hp)(a:KI)(ns:List Int),ns.length<=n->Only H->jA (K w.params) H a (ns.map V.int)->sp w [.ref a] H (λv _=>v=.bl true) λ_ _ _=>False)
  (hCX:∀(w:KO)(H:Hp)(s:KN)(e:KG)(s':KN),CX w [] H s (λ_ _ _=>False) e s'->False):
  PySem.W.WalkO q loose XP YP l.row.toRowW d [] (λf vs=>PySem.call f vs):=by
 refine Att.As hn hdf λw s₀ s₁ mg mb fa o pm cd doc a vs ns G Y ho hd hcd hmg hobj hints hlen hg=>?_;have KX:=hY w _ Y;obtain⟨fd,hb,hF⟩:=F w mg fa _ KX G.T.g hmg;exact w6 KX G.T.g G.T.b G.T.builtins G.T.nolimit hg hobj hints (G3 hlen hn2) hr hF hb (λH hO hS=>hsp w H a ns hlen hO hS) λH e s'=>hCX w H s₁ e s'
noncomputable def fq(s:KL):Arguments:=match s with
 |.FunctionDef _ a _ _ _ _ _ _ _ _=>a
 |_=>{posonlyargs:=[],args:=[],vararg:=none,kwonlyargs:=[],kw_defaults:=[],kwarg:=none,defaults:=[]}
noncomputable def cW(s:KL):cD:=match s with
 |.FunctionDef _ _ b _ _ _ _ _ _ _=>b
 |_=>[]
noncomputable def aG(s:KL):KZ:=match s with
 |.FunctionDef _ _ _ _ _ _ sc _ _ _=>sc
 |_=>{kind:=.function,names:=[],isGenerator:=false,isCoroutine:=false}
noncomputable abbrev E0:XK:=λ_ _ _=>False
structure zg(K:J1)(x qual:Str)(st:KL)(f:KI)(fd:Lp):Prop where
 ex:∃(oc:KG)(od:Option KI)(kV doc pm:KG)(an:Option KI)(cdv ct:KG)(osl:Array (Option KG)),
  fd=J4 x qual (fq st) (cW st) (aG st) .none kV doc pm an cdv ct/\K.lookup f=some ⟨oc,od,.func fd,osl⟩/\J5 K cdv qual=true
 kp:J7 K (.ref f)=true
section
variable{P:KP}{w:KO}{K:J1}{mg:cF}{base:KR}
theorem zg.binds{x qual:Str}{st:KL}{f:KI}{fd:Lp}{ps:aK}(F:zg K x qual st f fd)
  (h:∀(kV doc pm:KG)(an:Option KI)(cdv ct:KG)(us:aC),us.length=ps.length->bindArgs (J4 x qual (fq st) (cW st) (aG st) .none kV doc pm an cdv ct) ⟨us,[]⟩=pure (ps.zip us)):Binds K fd ps []:=by
 obtain⟨oc,od,kV,doc,pm,an,cdv,ct,osl,rfl,lk,hcd⟩:=F.ex;exact .all (h kV doc pm an cdv ct)
theorem wX{x qual:Str}{st:KL}{f:KI}{oc:KG}{od an:Option KI}{osl:Array (Option KG)}{kV doc pm cdv ct:KG}(l:K.lookup f=some ⟨oc,od,.func (J4 x qual (fq st) (cW st) (aG st) .none kV doc pm an cdv ct),osl⟩)
  (c:J5 K cdv qual=true) (k:J7 K (.ref f)=true):zg K x qual st f (J4 x qual (fq st) (cW st) (aG st) .none kV doc pm an cdv ct):=⟨⟨oc,od,kV,doc,pm,an,cdv,ct,osl,rfl,l,c⟩,k⟩
end
section
variable{X:Cx}
theorem pv(i:Nat){x:Str}{pos:Pos}(hN:X.N[i]?=some x:=by rfl)(hv:Dc X.env.scope x:=by first|exact Or.inl rfl|exact Or.inr (Or.inl rfl)|exact Or.inr (Or.inr rfl))(hd:(x==("__debug__":Str))=false:=by decide)
  (hcd:(x==("__classdict__":Str))=false:=by decide):PE X (.Name x pos) (C5 i):=Cq hN hv hd hcd
end
theorem yN{A B:Prop}(h:B):if false=true then A else B:=by
 rw[if_neg Hg];exact h
theorem vx{A B:Prop}(h:A):if true=true then A else B:=by
 rw[if_pos rfl];exact h
noncomputable def aD(H H':Hp):Prop:=∀b o,H b=some o->H' b=some o
theorem aD.refl(H:Hp):aD H H:=λ_ _ h=>h
theorem aD.trans{H H1 H2:Hp}(a:aD H H1)(b:aD H1 H2):aD H H2:=λc o h=>b c o (a c o h)
theorem aD.free{H H':Hp}(e:aD H H'){l:KI}(h:H' l=Option.none):H l=Option.none:=by
 cases q:H l with
 |none=>rfl
 |some o=>
  rw[e l o q]at h;cases h
theorem aD.seq{K:J1}{H H':Hp}{a:KI}{xs:az}(e:aD H H')(h:jA K H a xs):jA K H' a xs:=by
 rcases h with(h|⟨o,h⟩)|h
 ·exact .inl (.inl (e _ _ h))
 ·exact .inl (.inr ⟨o,e _ _ h⟩)
 ·exact .inr h
section
variable{κ:Type}[DecidableEq κ]
noncomputable def eA(kvs:List (κ×V))(k:κ):Option V:=(kvs.find? λkv=>decide (kv.1=k)).map (·.2)
noncomputable def putK(kvs:List (κ×V))(k:κ)(v:V):List (κ×V):=
 if(kvs.any λkv=>decide (kv.1=k))=true then kvs.map (λkv=>if kv.1=k then(kv.1,v)else kv)else kvs++[(k,v)]
noncomputable def iK(kvs:List (κ×V))(k:κ):List (κ×V):=kvs.filter λkv=>decide (kv.1≠k)
theorem gl{p:κ×V}{r:List (κ×V)}{k:κ}(e:p.1=k):eA (p::r) k=some p.2:=by simp[eA,HI,e]
theorem gA{p:κ×V}{r:List (κ×V)}{k:κ}(e:¬p.1=k):eA (p::r) k=eA r k:=by simp[eA,HI,e]
theorem qF(k:κ):∀kvs:List (κ×V),(kvs.any λkv=>decide (kv.1=k))=(eA kvs k).isSome
 |[]=>rfl
 |p::r=>by
  rw[HJ];by_cases e:p.1=k
  ·simp only[gl e,decide_eq_true e,Bool.true_or,Option.isSome_some]
  ·rw[gA e,decide_eq_false e,Bool.false_or];exact qF k r
theorem fW(kvs:List (κ×V))(k:κ)(v:V):(putK kvs k v).length<=kvs.length+1:=by
 unfold putK;split
 ·rw[Hx];omega
 ·rw[Hw,HK,HL];omega
theorem ot.isSome_eq{o:Option V}{u:Option KG}(r:ot o u):o.isSome=u.isSome:=by
 cases o with
 |none=>cases u with
  |none=>rfl
  |some _=>exact(show False from r).elim
 |some _=>cases u with
  |none=>exact(show False from r).elim
  |some _=>rfl
theorem ot.getD{o:Option V}{u:Option KG}{d:V}{d':KG}(r:ot o u)(rd:RelV d d'):RelV (o.getD d) (u.getD d'):=by
 cases o with
 |none=>cases u with
  |none=>exact rd
  |some _=>exact(show False from r).elim
 |some _=>cases u with
  |none=>exact(show False from r).elim
  |some _=>exact r
theorem KV.val{kvs:List (κ×V)}{vs:List (κ×KG)}(r:KV kvs vs)(k:κ):ot (eA kvs k) (valueAt vs k):=by
 unfold KV at r
 induction r with
 |nil=>exact True.intro
 |@cons p q ps qs h t ih=>
  obtain⟨h1,h2⟩:=h;by_cases e:p.1=k
  ·have e':q.1=k:=h1.symm.trans e;have b:valueAt (q::qs) k=some q.2:=(by simp[valueAt,HI,e']);rw[gl e,b];exact h2
  ·have e':¬q.1=k:=λz=>e (h1.trans z);have b:valueAt (q::qs) k=valueAt qs k:=(by simp[valueAt,HI,e']);rw[gA e,b];exact ih
theorem KV.any{kvs:List (κ×V)}{vs:List (κ×KG)}(r:KV kvs vs)(k:κ):(kvs.any λkv=>decide (kv.1=k))=vs.any λkv=>decide (kv.1=k):=by
 unfold KV at r
 induction r with
 |nil=>rfl
 |cons h t ih=>rw[HJ,HJ,ih,h.1]
theorem KV.repl{kvs:List (κ×V)}{vs:List (κ×KG)}(r:KV kvs vs)(k:κ){y:V}{u:KG}(ry:RelV y u):
  KV (kvs.map λkv=>if kv.1=k then(kv.1,y)else kv) (vs.map λkv=>if kv.1=k then(kv.1,u)else kv):=by
 unfold KV at r ⊢
 induction r with
 |nil=>exact .nil
 |@cons p q ps qs h t ih=>
  rw[HF,HF];refine .cons ?_ ih;obtain⟨h1,h2⟩:=h;by_cases e:p.1=k
  ·rw[if_pos e,if_pos (h1.symm.trans e)];exact⟨h1,ry⟩
  ·rw[if_neg e,if_neg (λz=>e (h1.trans z))];exact⟨h1,h2⟩
theorem KV.put{kvs:List (κ×V)}{vs:List (κ×KG)}(r:KV kvs vs)(k:κ){y:V}{u:KG}(ry:RelV y u):KV (putK kvs k y) (stored vs k u):=by
 unfold putK stored;rw[r.any k];by_cases e:(vs.any λkv=>decide (kv.1=k))=true
 ·rw[if_pos e,if_pos e];exact r.repl k ry
 ·rw[if_neg e,if_neg e];exact Paired.snoc r ⟨rfl,ry⟩
theorem KV.length{kvs:List (κ×V)}{vs:List (κ×KG)}(r:KV kvs vs):kvs.length=vs.length:=Paired.length r
end
theorem pX{P:KP}{w:KO}{k:Key}{u:KG}(r:RelV (kV k) u):(aJ P w).is k u=true:=by
 cases k with
 |inl i=>obtain⟨t,e⟩:=(show∃t,u=Value.int i t from r);subst e;exact pK P w i t
 |inr x=>obtain⟨t,e⟩:=(show∃t,u=Value.str x t from r);subst e;exact oZ P w x t
theorem mz{P:KP}{w:KO}:∀{ks:ay}{us:aC},Vals (ks.map kV) us->ItemsAre (aJ P w) ks us
 |[],_,r=>by rw[HE]at r;cases r;exact .nil
 |k::ks,_,r=>by
  rw[HF]at r;cases r with
  |cons h t=>exact .cons (pX h) (mz t)
noncomputable abbrev KT(H:Hp):List (List Key×V)->List (List Key×KI×KG)->Prop:=KQ λp q=>p.1=q.1/\H q.2.1=some (.tup (p.1.map kV))/\RelV p.2 q.2.2
theorem KT.val{H:Hp}{kvs:List (List Key×V)}{xs:List (List Key×KI×KG)}(r:KT H kvs xs)(k:ay):ot (eA kvs k) ((atKey xs k).map (·.2)):=by
 induction r with
 |nil=>exact True.intro
 |@cons p q ps qs h t ih=>
  obtain⟨h1,_,h2⟩:=h;by_cases e:p.1=k
  ·have e':q.1=k:=h1.symm.trans e;have b:atKey (q::qs) k=some q.2:=(by simp[atKey,HI,e']);rw[gl e,b];exact h2
  ·have e':¬q.1=k:=λz=>e (h1.trans z);have b:atKey (q::qs) k=atKey qs k:=(by simp[atKey,HI,e']);rw[gA e,b];exact ih
theorem KT.repl{H:Hp}{kvs:List (List Key×V)}{xs:List (List Key×KI×KG)}(r:KT H kvs xs)(k:ay){y:V}{u:KG}(ry:RelV y u):
  KT H (kvs.map λkv=>if kv.1=k then(kv.1,y)else kv) (xs.map (putAt k u)):=by
 induction r with
 |nil=>exact .nil
 |@cons p q ps qs h t ih=>
  rw[HF,HF];refine .cons ?_ ih;obtain⟨h1,h2,h3⟩:=h;unfold putAt;by_cases e:p.1=k
  ·rw[if_pos e,if_pos (h1.symm.trans e)];exact⟨h1,h2,ry⟩
  ·rw[if_neg e,if_neg (λz=>e (h1.trans z))];exact⟨h1,h2,h3⟩
theorem KT.put{H:Hp}{kvs:List (List Key×V)}{xs:List (List Key×KI×KG)}(r:KT H kvs xs)(k:ay){b:KI}{y:V}{u:KG}(hb:H b=some (.tup (k.map kV)))(ry:RelV y u):
  KT H (putK kvs k y) (storedH xs k b u):=by
 have e:(kvs.any λkv=>decide (kv.1=k))=(atKey xs k).isSome:=by
  rw[qF,(r.val k).isSome_eq,HM]
 unfold putK storedH;rw[e];by_cases q:(atKey xs k).isSome=true
 ·rw[if_pos q,if_pos q];exact r.repl k ry
 ·rw[if_neg q,if_neg q];exact Paired.snoc r ⟨rfl,hb,ry⟩
theorem KT.keeps{H H':Hp}{kvs:List (List Key×V)}{xs:List (List Key×KI×KG)}(r:KT H kvs xs)(ht:∀b ys,H b=some (.tup ys)->H' b=some (.tup ys)):KT H' kvs xs:=
 Paired.mapP r λ_ _ z=>⟨z.1,ht _ _ z.2.1,z.2.2⟩
section
variable{P:KP}{w:KO}{H:Hp}{h:KR}{a:KI}
theorem AQ{u:HO}(ok:jV P w H h)(e:Rd H a u):bC P w H h a u:=e.ok ok
theorem mO{kvs:List (Key×V)}(ok:jV P w H h)(e:Rd H a (.dK kvs)):kvs.length<=KS/\(a==sysModules)=false/\∃vs,KV kvs vs/\h.DictOf (aJ P w) a vs:=
 show bC P w H h a (.dK kvs)from AQ ok e
theorem Dz{kvs:List (Key×V)}(ok:jV P w H h)(e:H a=some (.dK kvs)):kvs.length<=KS/\(a==sysModules)=false/\∃vs,KV kvs vs/\h.DictOf (aJ P w) a vs:=mO ok (.inl e)
theorem fF{ks:ay}(ok:jV P w H h)(e:H a=some (.tup (ks.map kV))):(tupleKind (aJ P w)).is h ks a:=by
 obtain⟨_,its,r,o,h1,h2,n,h3⟩:=(show bC P w H h a (.tup (ks.map kV))from ok a _ e)
 exact⟨o,its.toArray,n,h1,h2,h3,by simpa using mz r⟩
theorem kY{kvs:List (List Key×V)}(ok:jV P w H h)(e:Rd H a (.dT kvs)):kvs.length<=KS/\(a==sysModules)=false/\
  ∃xs,KT H kvs xs/\h.DictOfH (tupleKind (aJ P w)) a xs:=by
 obtain⟨z,y,xs,r,o,es,ep,h1,h2,h3,h4,h5⟩:=(show bC P w H h a (.dT kvs)from AQ ok e)
 refine⟨z,y,xs,r,o,es,ep,h1,h2,h3,h4,λx hx=>?_,h5⟩;have all:∀{l:List (List Key×V)}{m:List (List Key×KI×KG)},KT H l m->∀x∈m,(tupleKind (aJ P w)).is h x.1 x.2.1:=by
  intro l m q
  induction q with
  |nil=>intro x hx;exact nomatch hx
  |@cons p q ps qs hq t ih=>
   intro x hx;rcases List.mem_cons.mp hx with e|hx
   ·subst e;exact fF ok (by rw[<-hq.1];exact hq.2.1)
   ·exact ih x hx
 exact all r x hx
theorem Av{kvs:List (List Key×V)}(ok:jV P w H h)(e:H a=some (.dT kvs)):kvs.length<=KS/\(a==sysModules)=false/\
  ∃xs,KT H kvs xs/\h.DictOfH (tupleKind (aJ P w)) a xs:=kY ok (.inl e)
end
noncomputable def rF(H:Hp)(a:KI)(y:V)(r:Option V):Prop:=
 (∃kvs k,Rd H a (.dK kvs)/\y=kV k/\r=eA kvs k)\/∃kvs k b,Rd H a (.dT kvs)/\y=.ref b/\H b=some (.tup (k.map kV))/\r=eA kvs k
noncomputable def DQ(H:Hp)(a:KI)(y v:V)(H':Hp):Prop:=
 (∃kvs k,H a=some (.dK kvs)/\y=kV k/\kvs.length<KS/\H'=upd H a (.dK (putK kvs k v))) \/
 ∃kvs k b,H a=some (.dT kvs)/\y=.ref b/\H b=some (.tup (k.map kV))/\kvs.length<KS/\H'=upd H a (.dT (putK kvs k v))
theorem rF.t{H:Hp}{a b:KI}{kvs:List (List Key×V)}{k:ay}(e:H a=some (.dT kvs))(eb:H b=some (.tup (k.map kV))):rF H a (.ref b) (eA kvs k):=.inr ⟨kvs,k,b,.inl e,rfl,eb,rfl⟩
theorem DQ.t{H:Hp}{a b:KI}{kvs:List (List Key×V)}{k:ay}{v:V}(e:H a=some (.dT kvs))(eb:H b=some (.tup (k.map kV)))(hl:kvs.length<KS):
  DQ H a (.ref b) v (upd H a (.dT (putK kvs k v))):=.inr ⟨kvs,k,b,e,rfl,eb,hl,rfl⟩
section
variable{X:Cx}{pins:aH}{σ:St}{H:Hp}{s:KN}{a:KI}{y v:V}{u r:KG}{o:Option V}{A:KY}{E:aA}
theorem Inv.big(I:`h):sysModules<s.heap.objs.size:=by
 have h:KU<s.heap.objs.size:=(I.mod.glob.keeps I.bk).lt;exact HN (by decide) h
theorem uZ{Q:aA}(hu:A.units+1<Ln)(I:`h)(g:rF H a y (some v))(ry:RelV y u)(h:∀w' s',Inv X pins σ H s'->RelV v w'->Q w' s'):
  K2 `i A (getItem (.ref a) u) Q E s:=by
 rcases g with⟨kvs,k,e,ey,l⟩|⟨kvs,k,b,e,ey,eb,l⟩
 ·subst ey;obtain⟨z,hd,vs,rel,dd⟩:=mO I.hok e;obtain⟨w',hw,rw'⟩:=ot.some_of (v:=v) (o:=valueAt vs k) (by rw[l];exact rel.val k);exact wpAny_getItem_of (pX ry) dd.mapOf hw (h w' _ (I.tok _) rw')
 ·subst ey;cases(show u=Value.ref b from ry);obtain⟨z,hd,xs,rel,dd⟩:=kY I.hok e;obtain⟨w',hw,rw'⟩:=ot.some_of (v:=v) (o:=(atKey xs k).map (·.2)) (by rw[l];exact rel.val k);obtain⟨p,hp,hp2⟩:=Option.map_eq_some_iff.mp hw;refine wpAny_getItem_heap (LR hu) (fF I.hok eb) dd hp ?_;rw[hp2];exact h w' _ (I.tok _) rw'
theorem rV{Q:aA}(hu:A.units+1<Ln)(I:`h)(g:rF H a y o)(ry:RelV y u)(h:∀s',Inv X pins σ H s'->Q (.bool (!o.isSome)) s'):
  K2 `i A (Lh .NotIn u (.ref a)) Q E s:=by
 rcases g with⟨kvs,k,e,ey,l⟩|⟨kvs,k,b,e,ey,eb,l⟩
 ·subst ey;obtain⟨z,hd,vs,rel,dd⟩:=mO I.hok e;refine wpAny_notIn_of (pX ry) hd dd.mapOf ?_;rw[<-(rel.val k).isSome_eq,<-l];exact h _ (I.tok _)
 ·subst ey;cases(show u=Value.ref b from ry);obtain⟨z,hd,xs,rel,dd⟩:=kY I.hok e;refine wpAny_notIn_heap (LR hu) (fF I.hok eb) hd dd ?_;have q:=(rel.val k).isSome_eq;rw[HM]at q;rw[<-q,<-l];exact h _ (I.tok _)
theorem gH{h':KR}{t':Nat}{ob:HO}(I:`h)(mu:D8 (H a))(hs:Ke a s.heap h')(he:∃q,h'.get? a=some q)(new:bC X.prog X.w (upd H a ob) h' a ob):
  Inv X pins σ (upd H a ob) {s with heap:=h',toks:=t'}:=
 I.write (x:=a) (e:=a) mu (.inl rfl) (λb q hb z=>(hs.2 b hb).trans z) he new
theorem Bv{P:KP}{w:KO}{H':Hp}{h':KR}{kvs:List (Key×V)}{vs:List (Key×KG)}(z:kvs.length<=KS)(hd:(a==sysModules)=false)(rel:KV kvs vs)(dd:h'.DictOf (aJ P w) a vs):
  bC P w H' h' a (.dK kvs):=⟨z,hd,vs,rel,dd⟩
theorem mE{H':Hp}{Q:Unit->bu}(hu:A.units+1<Ln)(I:`h)(g:DQ H a y v H')(ry:RelV y u)(rv:RelV v r)(h:∀s',Inv X pins σ H' s'->Q () s'):
  K2 `i A (setItem (.ref a) u r) Q E s:=by
 rcases g with⟨kvs,k,e,ey,l,eH⟩|⟨kvs,k,b,e,ey,eb,l,eH⟩
 ·subst ey eH;obtain⟨z,hd,vs,rel,dd⟩:=Dz I.hok e;have hz:vs.length<=KS:=by rw[<-rel.length];exact z
  have hl:(putK kvs k v).length<=KS:=by have:=fW kvs k v;omega
  refine wpAny_setItem_pairs (hsz:=hz) (pX ry) dd λh' dd' hs=>h _ ?_;have he:∃q,h'.get? a=some q:=let ⟨q,_,_,hq,_⟩:=dd';⟨q,hq⟩
  exact gH I (by rw[e];exact True.intro) hs he (Bv hl hd (rel.put k rv) dd')
 ·subst ey eH;cases(show u=Value.ref b from ry);obtain⟨z,hd,xs,rel,dd⟩:=Av I.hok e;have hz:xs.length<=KS:=by rw[<-Paired.length rel];exact z
  have hl:(putK kvs k v).length<=KS:=by have:=fW kvs k v;omega
  refine wpAny_setItem_heap (hsz:=hz) (LR hu) (fF I.hok eb) dd λh' dd' hs=>h _ ?_;obtain⟨q,es,ep,hq,h2,h3,h4,_,h5⟩:=dd';refine gH I (by rw[e];exact True.intro) hs ⟨q,hq⟩ ⟨hl,hd,_,(rel.put k eb rv).keeps λc ys ec=>?_,q,es,ep,hq,h2,h3,h4,h5⟩;rw[aq (xg ec e (λz=>nomatch z))];exact ec
end
noncomputable def CH(i:KJ):Prop:=∀ov iv,subscripted i false ov iv=operate [ov,iv] (getItem ov iv)
theorem Al{prog:KP}{w:KO}{A:KY}{E:aA}{s:KN}{env:Env}{value slice:KJ}{pos:Pos}{T id:String}{Q:aA}
  (hl:typeLookup (.type T) "__getitem__"=pure (some (.builtin id))) (hs:CH slice)
  (h:K2 `g A (eval value env) (λo s₁=>K2 `g A (eval slice env) (λi s₂=>s₂.TypeIs o T/\K2 `g A (getItem o i) Q E s₂) E s₁) E s):
  K2 `g A (eval (.Subscript value slice pos) env) Q E s:=by
 refine Subscript_ (K4 h (λo s₁ h₁=>K4 h₁ (λi s₂ h₂=>?_) λ_ _ x=>x) λ_ _ x=>x);obtain⟨hT,h₂⟩:=h₂;unfold subscriptTail;refine Lc ?_;rw[getitemInPython_of_ne hT.not_modules];refine Lc (LU hT hl ?_);have fin:K2 `g A (subscripted slice false o i) (λr s₃=>K2 `g A (letTemporaryGo value o r >>= λ_=>pure r) Q E s₃) E s₂:=by
  rw[hs o i];exact wpAny_operating (K4 h₂ (λr s₃ h₃=>Lc (wpAny_letTemporaryGo (Lb h₃))) λ_ _ x=>x)
 first
  |exact Lb (Lc fin)
  |exact Lc (Lb (Lc fin))
  |exact Lc fin
theorem qd{X:Cx}{pins:aH}{σ:St}{H:Hp}{s:KN}{a:KI}{y:V}{o:Option V}(I:`h)(g:rF H a y o):s.TypeIs (.ref a) "dict":=by
 rcases g with⟨kvs,k,e,_,_⟩|⟨kvs,k,b,e,_,_,_⟩
 ·obtain⟨_,_,vs,_,dd⟩:=mO I.hok e;exact dd.typeIs
 ·obtain⟨_,_,xs,_,dd⟩:=kY I.hok e;exact dd.typeIs
noncomputable def DU(td ty:TE):TE:=λσ H Q=>td σ H λx H1=>ty σ H1 λy H2=>∃a v,x=.ref a/\rF H2 a y (some v)/\Q v H2
section
variable{X:Cx}{o i e value:KJ}{pos pos' tpos:Pos}{td ty tv:TE}
theorem yC(hu:X.A.units+1<Ln)(ho:PE X o td)(hi:PE X i ty)(hs:CH i):PE X (.Subscript o i pos) (DU td ty):=by
 intro pins s σ H Q I h;refine Al PySem.F.slot_dict_getitem.lookup hs (cc (ho pins s σ H _ I h) λu s1 zq=>zq.elim λx zq=>zq.elim λH1 zq=>zq.elim λI1 zq=>zq.elim λrx q1=>cc (hi pins s1 σ H1 _ I1 q1) λiv s2 zq=>zq.elim λy zq=>zq.elim λH2 zq=>zq.elim λI2 zq=>zq.elim λry zq=>zq.elim λa zq=>zq.elim λv zq=>zq.elim λex zq=>zq.elim λg q2=>?_);subst ex;obtain rfl:u=Value.ref a:=rx;exact⟨qd I2 g,uZ hu I2 g ry λw' s3 I3 rw'=>⟨v,H2,I3,rw',q2⟩⟩
end
theorem vW{P:KP}{w:KO}{H:Hp}(h:KR)(hb:sysModules<h.objs.size):bC P w H (h.push {cls:=.type "dict",data:=.dict #[]}) h.objs.size (.dT []):=
 ⟨HP _,beq_eq_false_iff_ne.mpr (Ne.symm (G2 hb)),[],.nil,_,#[],0,Kg _ rfl,⟨rfl,rfl,rfl⟩,rfl,rfl,HQ⟩
noncomputable def vV:TE:=λ_ H Q=>∀p,H p=none->Q (.ref p) (upd H p (.dT []))
section
variable{X:Cx}{pos:Pos}
theorem wu:PE X (.Dict [] [] pos) vV:=λpins s σ H Q I h=>
 wpAny_Dict_empty ⟨.ref s.heap.objs.size,_,I.laid (a:=s.heap.objs.size) (o:=.dT []) (t':=s.toks) (λ_ _ q=>Kf _ q) (Hi _) (vW s.heap I.big),rfl,h _ (I.hok.fresh (Hi _))⟩
end
structure M1(X:Cx)(o:KJ)(m:Str)(apos:Pos)(e:KJ)(cpos:Pos):Prop where
 base:LK o m X.env (eval o X.env)=eval o X.env
 few:((backTo cpos (K3 [e] X.env)).all (λx=>!x.1)&&(backToKw cpos (LL [] X.env)).all (λx=>x.1.isSome)
  && decide (([e]:aY).length+([]:List LN).length+(if([]:List LN).isEmpty then 0 else 1)<30))=true
 line:(apos.endLine==cpos.line)=true
 trees:backTo cpos (K3 [e] X.env)=[(false,eval e X.env)]
noncomputable def Gk(H:Hp)(a:KI):Prop:=(∃kvs,Rd H a (.dK kvs))\/∃kvs,Rd H a (.dT kvs)
theorem Bx{X:Cx}{pins:aH}{σ:St}{H:Hp}{s:KN}{a:KI}(I:`h)(d:Gk H a):
  s.TypeIs (.ref a) "dict"/\(∀b,Value.ref a=.ref b->∃ob,s.heap.get? b=some ob/\ob.dict=none)/\(a==sysModules)=false:=by
 rcases d with⟨kvs,e⟩|⟨kvs,e⟩
 ·obtain⟨_,hd,vs,_,dd⟩:=mO I.hok e;refine⟨dd.typeIs,λb q=>?_,hd⟩;cases q;obtain⟨ob,_,_,h1,h2,_⟩:=dd;exact⟨ob,h1,h2.2.1⟩
 ·obtain⟨_,hd,xs,_,dd⟩:=kY I.hok e;refine⟨dd.typeIs,λb q=>?_,hd⟩;cases q;obtain⟨ob,_,_,h1,h2,_⟩:=dd;exact⟨ob,h1,h2.2.1⟩
section
variable{X:Cx}{pins:aH}{σ:St}{H:Hp}{s:KN}{a:KI}{y d:V}{u r:KG}{o:Option V}{A:KY}{E:aA}
theorem wH{Q:aA}(hu:A.units+1<Ln)(I:`h)(g:rF H a y o)(ry:RelV y u)(h:∀w' s',Inv X pins σ H s'->RelV (o.getD .non) w'->Q w' s'):
  K2 `i A (call (.builtin "dict.get") [.ref a,u]) Q E s:=by
 rcases g with⟨kvs,k,e,ey,l⟩|⟨kvs,k,b,e,ey,eb,l⟩
 ·subst ey;obtain⟨z,hd,vs,rel,dd⟩:=mO I.hok e;refine call_meetsIn Kx dd.typeIs Ky (Kz _ _) (meets_dict_get (aJ X.prog X.w) a (pX ry) hd) ⟨_,dd.mapOf,h _ _ (I.tok _) ?_⟩;rw[l];exact(rel.val k).getD rfl
 ·subst ey;cases(show u=Value.ref b from ry);obtain⟨z,hd,xs,rel,dd⟩:=kY I.hok e;refine call_meetsIn Kx dd.typeIs Ky (Kz _ _) (meetsH_dict_get (tupleKind (aJ X.prog X.w)) a b hd) ⟨LR hu,k,xs,fF I.hok eb,dd,h _ _ (I.tok _) ?_⟩;rw[l];exact(rel.val k).getD rfl
end
noncomputable def bJ(cells:jJ):kH->jJ->jJ
 |[],acc=>acc
 |(n,k)::r,acc=>if k=.free then(match cells.lookup n with|some c=>bJ cells r ((n,c)::acc)|none=>bJ cells r acc)else bJ cells r acc
theorem g6{cells:jJ}:∀(names:kH)(acc:jJ),(∀x c,acc.lookup x=some c->cells.lookup x=some c)->
  ∀x c,(bJ cells names acc).lookup x=some c->cells.lookup x=some c
 |[],acc,h=>h
 |(n,k)::r,acc,h=>by
  unfold bJ;by_cases hk:k=.free
  ·rw[if_pos hk];cases e:cells.lookup n with
   |none=>exact g6 r acc h
   |some c0=>
    refine g6 r _ λx c q=>?_;rw[HR]at q;cases hx:x==n with
    |true=>
     rw[hx]at q;have e1:x=n:=(by simpa using hx);cases q;rw[e1];exact e
    |false=>rw[hx]at q;exact h x c q
  ·rw[if_neg hk];exact g6 r acc h
theorem fu{cells:jJ}:∀(names:kH)(acc:jJ)(x:Str),(acc.lookup x).isSome=true->((bJ cells names acc).lookup x).isSome=true
 |[],acc,x,h=>h
 |(n,k)::r,acc,x,h=>by
  unfold bJ;by_cases hk:k=.free
  ·rw[if_pos hk];cases e:cells.lookup n with
   |none=>exact fu r acc x h
   |some c0=>
    refine fu r _ x ?_;rw[HR];cases hx:x==n with
    |true=>rfl
    |false=>exact h
  ·rw[if_neg hk];exact fu r acc x h
theorem eh{cells:jJ}:∀(names:kH)(acc:jJ)(x:Str),(x,NameKind.free)∈names->(∃c,cells.lookup x=some c)->((bJ cells names acc).lookup x).isSome=true
 |[],acc,x,h,_=>absurd h (by simp)
 |(n,k)::r,acc,x,h,hc=>by
  unfold bJ;rcases List.mem_cons.mp h with e|h
  ·cases e;rw[if_pos rfl];obtain⟨c,e⟩:=hc;rw[e];refine fu r _ _ ?_;rw[HR];simp
  ·by_cases hk:k=.free
   ·rw[if_pos hk];cases e:cells.lookup n with
    |none=>exact eh r acc x h hc
    |some c0=>exact eh r _ x h hc
   ·rw[if_neg hk];exact eh r acc x h hc
theorem iX{scope:KZ}{env:Env}(h:∀p∈scope.names,p.2=.free->∃c,env.cells.lookup p.1=some c):closureFor scope env=pure (bJ env.cells scope.names []):=by
 have go:∀(names:kH)(acc:jJ),(∀p∈names,p.2=.free->∃c,env.cells.lookup p.1=some c)->
   (forIn names acc λx cs=>(match x with|(name,kind)=>if(kind==NameKind.free)=true then do let a<-cellOf env name;pure (ForInStep.yield ((name,a)::cs))else pure (ForInStep.yield cs):Sem (ForInStep jJ)))=pure (bJ env.cells names acc):=by
  intro names
  induction names with
  |nil=>intro acc _;rfl
  |cons p r ih=>
   intro acc hp;obtain⟨n,k⟩:=p;rw[List.forIn_cons];by_cases hk:k=.free
   ·obtain⟨c,e⟩:=hp (n,k) G9 hk;subst hk;have e2:cellOf env n=pure c:=(by unfold cellOf;rw[e]);simp only[beq_self_eq_true,if_true,e2,pure_bind];rw[ih _ λq hq=>hp q (Ha _ hq)]
    conv=>rhs;rw[bJ]
    simp[e]
   ·have hb:(k==NameKind.free)=false:=(by simpa using hk);simp only[hb,HS,if_false,pure_bind];rw[ih _ λq hq=>hp q (Ha _ hq)]
    conv=>rhs;rw[bJ,if_neg hk]
 have:=go scope.names [] h
 unfold closureFor;simp only[];rw[this];rfl
noncomputable def aR(X:Cx)(scope:KZ)(N:aK)(cl:jJ)(C:KI)(fp:ah)(s:KN)(H:Hp)(E:aA):Cx where
 prog:=X.prog
 w:=X.w
 K:=X.K
 mg:=X.mg
 base:=X.base
 A:=X.A
 N:=N
 s₀:=s
 H₀:=H
 env:=compEnvC scope cl C X.env
 outer:=X.stack
 stack:=X.stack
 ex:=fp
 fn:=λ_=>false
 calm:=X.calm
 pn:=[]
 xe:=E
noncomputable def n6(XN N:aK)(names:kH)(ix:c7):Bool:=
 decide (ix.length=N.length)&&(N.zip ix).all λp=>match p.2 with
  |some i=>decide (XN[i]?=some p.1)&&decide (names.lookup p.1=some .free)
  |none=>true
noncomputable def inBlock(ix:c7)(σ:St):St:=ix.map λo=>match o with
 |some i=>(σ[i]?).getD none
 |none=>none
theorem n6.len{XN N:aK}{names:kH}{ix:c7}(h:n6 XN N names ix=true):ix.length=N.length:=by
 unfold n6 at h;rw[HB]at h;exact of_decide_eq_true h.1
theorem n6.at_{XN N:aK}{names:kH}{ix:c7}(h:n6 XN N names ix=true){j i:Nat}{x:Str}(h1:N[j]?=some x)(h2:ix[j]?=some (some i)):XN[i]?=some x/\names.lookup x=some .free:=by
 unfold n6 at h;rw[HB]at h;have hm:(x,some i)∈N.zip ix:=by
  have e:(N.zip ix)[j]?=some (x,some i):=by rw[List.getElem?_zip_eq_some];exact⟨h1,h2⟩
  exact Hv e
 have q:=List.all_eq_true.mp h.2 _ hm;simp only[HB]at q;exact⟨of_decide_eq_true q.1,of_decide_eq_true q.2⟩
theorem gB{env:Env}:∀{names:kH}{x:Str}{k:KH},
  (names.map λ(n,k)=>if(k==NameKind.free&&env.scope.kind==.function&&env.kindOf n==some .cell)then(n,NameKind.cell)else(n,k)).lookup x=some k->
  names.lookup x=some k\/(names.lookup x=some .free/\k=.cell)
 |[],_,_,h=>by simp at h
 |(n,k0)::r,x,k,h=>by
  have ih:=@gB env r x k
  replace h:List.lookup x ((if(k0==NameKind.free&&env.scope.kind==.function&&env.kindOf n==some .cell)=true then(n,NameKind.cell)else(n,k0))::(r.map λ(n,k)=>if(k==NameKind.free&&env.scope.kind==.function&&env.kindOf n==some .cell)then(n,NameKind.cell)else(n,k)))=some k:=h
  by_cases hc:(k0==NameKind.free&&env.scope.kind==.function&&env.kindOf n==some .cell)=true
  ·rw[if_pos hc]at h;have hk0:k0=.free:=by
    simp only[HB]at hc
    simpa using hc.1.1
   cases hx:x==n with
   |true=>
    simp only[HR,hx]at h;simp only[HR,hx];cases h;exact .inr ⟨by rw[hk0],rfl⟩
   |false=>
    simp only[HR,hx]at h ⊢;exact ih h
  ·rw[if_neg hc]at h;cases hx:x==n with
   |true=>
    simp only[HR,hx]at h ⊢;exact .inl h
   |false=>
    simp only[HR,hx]at h ⊢;exact ih h
noncomputable def Bb(X:Cx)(ifs:aY)(t:TT):Prop:=
 ∀(pins:aH)(s:KN)(σ:St)(H:Hp)(Q:Bool->Hp->Prop),Inv X pins σ H s->t σ H Q->
  K2 `i X.A (forIn ifs true λc r=>if r=true then do let ok<-isTrue c X.env (eval c X.env);pure (ForInStep.yield ok)else pure (ForInStep.yield r)) (TP X pins σ Q) X.xe s
noncomputable def DL:TT:=λ_ H Q=>Q true H
theorem yK{X:Cx}:Bb X [] DL:=λ_ _ _ H _ I h=>wpAny_tests_nil ⟨H,I,h⟩
theorem z9{X:Cx}{c:KJ}{t:TT}(h:PT X c t):Bb X [c] t:=λpins s σ H Q I q=>wpAny_tests_one (h pins s σ H Q I q)
theorem gr{prog:KP}{w:KO}{A:KY}{R:Result->bu}{s:KN}{elt target iter:KJ}{ifs:aY}{scope:KZ}{pos:Pos}{it acc:KG}{env:Env}(I:Nat->bu)
  (turn:∀ n s,I n s->K2 `g A (pyNext it) (fun r s₁=>match r with
   |none=>R (.ok .next) s₁
   |some v=>K2 `g A (letOwnedTupleGo target it v) (λ_ s₁'=>K2 `g A (assign target env v) (λ_ s₂=>
     K2 `g A (forIn ifs true λc r=>if r=true then do let ok<-isTrue c env (eval c env);pure (ForInStep.yield ok)else pure (ForInStep.yield r)) (λok s₃=>
      if ok=true then K2 `g A (eval elt env) (λx s₄=>
       K2 `g A (call (.builtin "list.append") [acc,x]) (λ_ s₅=>∃m,m<n/\I m s₅) (notedBy `g A env λe s'=>R (.error e) s') s₄) (notedBy `g A env λe s'=>R (.error e) s') s₃
      else∃m,m<n/\I m s₃) (notedBy `g A env λe s'=>R (.error e) s') s₂) (notedBy `g A env λe s'=>R (.error e) s') s₁') (notedBy `g A env λe s'=>R (.error e) s') s₁) (notedBy `g A env λe s'=>R (.error e) s') s)
  (n:Nat) (h:I n s):
  Lr `g A (.compLoop (.ListComp elt [⟨target,iter,ifs,0⟩] scope pos) 0 it acc env) R s:=by
 refine codeAny_loop rfl I (λn s hI=>?_) n h;show K2 _ A ((compTurn (.ListComp elt [⟨target,iter,ifs,0⟩] scope pos) 0 it acc env).onRaise (λx=>do noteFrame x env;theTreesLotGoes x)) _ _ s;refine wpAny_noted ?_;rw[compTurn_list];refine Lc (LV (Lc (K4 (turn n s hI) (λr s₁ h₁=>?_) λ_ _ h'=>h')));cases r with
 |none=>exact Lb h₁
 |some v=>
  refine Lc (K4 h₁ (λ_ s₁' h₁'=>?_) λ_ _ h'=>h');refine Lc (K4 h₁' (λ_ s₂ h₂=>Lc (K4 h₂ (λok s₃ h₃=>?_) λ_ _ h'=>h')) λ_ _ h'=>h');cases ok with
  |false=>exact Lb ⟨rfl,h₃⟩
  |true=>
   exact Lc (Lc (K4 h₃ (λx s₄ h₄=>Lc (K4 h₄ (λ_ s₅ h₅=>Lb (Lb ⟨rfl,h₅⟩)) λ_ _ h'=>h')) λ_ _ h'=>h'))
noncomputable def EI(wi:TI)(g:TG)(tc:TT)(te:TE)(ix:c7):TE:=λσ H Q=>
 wi σ H λJ H1=>∀D,H1 D=none->∃W:Nat->Nat->St->Hp->Prop,(∃m,W 0 m (inBlock ix σ) (upd H1 D (.lst [])))/\
  ∀i m σ' H',W i m σ' H'->(J.stop i H'/\Q (.ref D) H') \/
   (J.go i H'/\∀ x H2,J.yld i H' x H2->g x σ' H2 fun σ3 H3=>tc σ3 H3 fun b H4 =>
    if b=true then te σ3 H4 λv H5=>∃acc,H5 D=some (.lst acc)/\acc.length<KS/\∃m',m'<m/\W (i+1) m' σ3 (upd H5 D (.lst (acc++[v])))
    else∃m',m'<m/\W (i+1) m' σ3 H4)
section
variable{X:Cx}{elt tg iter:KJ}{ifs:aY}{scope:KZ}{pos:Pos}{N:aK}{ix:c7}{wi:TI}{g:TG}{tc:TT}{te:TE}
theorem k9{pins:aH}{σ:St}{s2:KN}{H2:Hp}{it:KI}{fp:ah}{tn:Nat->KR->Prop}{J:It}{Q:V->Hp->Prop}{E:aA}{RR:KG->KI->Result->bu}
    (hc:X.calm=true) (hcell:∀y∈scope.names,y.2≠.cell) (hkind:scope.kind=.function)
    (hfr:∀y∈scope.names,y.2=.free->X.env.scope.names.lookup y.1=some .cell\/X.env.scope.names.lookup y.1=some .free)
    (hix:n6 X.N N scope.names ix=true)
    (hb:∀cl C fp s H E,PG (aR X scope N cl C fp s H E) tg g/\Bb (aR X scope N cl C fp s H E) ifs tc/\PE (aR X scope N cl C fp s H E) elt te)
    (I2:Inv X pins σ H2 s2) (T:Turn X.prog X.w X.K tg J fp it tn) (st2:tn 0 s2.heap) (f2:∀b∈fp,nX X pins H2 b)
    (q:∀ D,H2 D=none->∃ W:Nat->Nat->St->Hp->Prop,(∃ m,W 0 m (inBlock ix σ) (upd H2 D (.lst []))) /\
      ∀i m σ' H',W i m σ' H'->(J.stop i H'/\Q (.ref D) H') \/
        (J.go i H'/\∀ x H3,J.yld i H' x H3->g x σ' H3 fun σ3 H3=>tc σ3 H3 fun b H4 =>
          if b=true then te σ3 H4 λv H5=>∃acc,H5 D=some (.lst acc)/\acc.length<KS/\∃m',m'<m/\W (i+1) m' σ3 (upd H5 D (.lst (acc++[v])))
          else∃m',m'<m/\W (i+1) m' σ3 H4))
    (hRR:∀D C H' s' m,H2 D=none->s2.heap.objs.size<=C->H' C=none->s'.heap.Ns C m->(∀h',Ke C s'.heap h'->Inv X pins σ H' {s' with heap:=h'})->Q (.ref D) H'->RR (.ref D) C (.ok .next) s'):
    K2 `i X.A (newList []) (λacc s₃=>K2 `i X.A (newFunctionEnv scope X.env.globals (bJ X.env.cells scope.names []) [] X.env.qual none .none (some X.env)) (λcenv s₄=>
      Lr `i X.A (.compStart (.ListComp elt [⟨tg,iter,ifs,0⟩] scope pos) 0 (.ref it) acc {cenv with scope:=relabel scope X.env}) (RR acc cenv.locals) s₄) E s₃) E s2:=by
  refine LJ (wpAny_newFunctionEnv hcell (by intro y hy;simp at hy) (λh₁ hns₁ hsb₁=>?_) hkind);dsimp only at hns₁ hsb₁ ⊢;have I3:Inv X pins σ (upd H2 s2.heap.objs.size (.lst [])) {s2 with heap:=s2.heap.push {cls:=.type "list",dict:=none,data:=.seq ([]:aC).toArray},toks:=s2.toks}:=I2.lnew (its:=[]) (t':=s2.toks) .nil (HP _);generalize hs3:({s2 with heap:=s2.heap.push {cls:=.type "list",dict:=none,data:=.seq ([]:aC).toArray},toks:=s2.toks}:KN)=s3 at I3;have eh3:s2.heap.push {cls:=.type "list",dict:=none,data:=.seq ([]:aC).toArray}=s3.heap:=by rw[<-hs3]
  rw[eh3]at hns₁ hsb₁ ⊢;have hC3:s3.heap.objs.size=s2.heap.objs.size+1:=by rw[<-eh3,Ki]
  have hD:H2 s2.heap.objs.size=none:=I2.fresh;obtain⟨W,⟨m0,w0⟩,turn⟩:=q s2.heap.objs.size hD;generalize hH3:upd H2 s2.heap.objs.size (.lst [])=H3 at I3 w0;have old:∀b o,s3.heap.get? b=some o->h₁.get? b=some o:=λb o e=>hsb₁.extBut b o (G2 (Kc e)) (Kf _ e);have fpH3:∀b∈fp,H3 b=none:=λb hb'=>by
    rw[<-hH3,aq]
    ·exact(f2 b hb').1
    · obtain⟨o,e,_⟩:=T.obj _ _ st2 b hb'
      exact G2 (Kc e)
  have fpLt:∀b∈fp,b<s3.heap.objs.size:=λb hb'=>by
    obtain⟨o,e,_⟩:=T.obj _ _ st2 b hb';rw[hC3];exact HU (Kc e)
  have hfree:∀p∈scope.names,p.2=.free->∃c,X.env.cells.lookup p.1=some c:=λp hp hk=>I2.ok.has p.1 (hfr p hp hk);have csub:∀x c,(bJ X.env.cells scope.names []).lookup x=some c->X.env.cells.lookup x=some c:=g6 scope.names [] (λx c e=>by simp at e);have names':∀x k,(relabel scope X.env).names.lookup x=some k->scope.names.lookup x=some k\/(scope.names.lookup x=some .free/\k=.cell):=λx k h=>gB h;have ok:(aR X scope N (bJ X.env.cells scope.names []) s3.heap.objs.size fp s3 H3 (notedBy `i X.A (compEnvC scope (bJ X.env.cells scope.names []) s3.heap.objs.size X.env) λe s'=>RR (.ref s2.heap.objs.size) s3.heap.objs.size (.error e) s')).Ok:=
    { mod:=I3.ok.mod
      kind:=hkind
      glob:=I3.ok.glob
      blt:=I3.ok.blt
      above:=Hi _
      inj:=λx y c h1 h2=>I3.ok.inj x y c (csub x c h1) (csub y c h2)
      has:=λx hx=>by
        have fr:scope.names.lookup x=some .free:=by
          rcases hx with hx|hx
          · rcases names' x .cell hx with h|⟨h,_⟩
            ·exact absurd rfl (hcell _ (PySem.mem_of_lookup h))
            ·exact h
          · rcases names' x .free hx with h|⟨_,h⟩
            ·exact h
            ·cases h
        have hm:=PySem.mem_of_lookup fr;exact Option.isSome_iff_exists.mp (eh scope.names [] x hm (hfree _ hm rfl))
      cab:=λx c h _=>by cases h
      hd:=I3.ok.hd
      frames:=I3.ok.frames
      stk:=.inl rfl
      exf:=λb hb'=>⟨G2 (fpLt b hb'),λx c e=>(f2 b hb').2.2.2.2.1 x c (csub x c e)⟩
      bs:=λb o e=>I3.bs b o e
      bsz:=G3 I3.ok.bsz I3.sz
      noex:=λb o e hb'=>by
        obtain⟨_,_,_,h4,_⟩:=f2 b hb';rcases h4 with h4|h4
        ·exact I3.ok.noex b o e h4
        ·exact absurd (G0 (Kc (I3.ok.bs b o e).1) h4) (G1 _)
      exfs:=λb hb' hs=>by
        obtain⟨_,h2,h3,_⟩:=f2 b hb';rcases List.mem_cons.mp (I3.stkSub b hs)with e|e
        ·exact h2 e
        ·exact h3 e
      funs:=I3.stack
      frf:=λb hb'=>I3.stkFree b hb'}
  generalize hE:(notedBy `i X.A (compEnvC scope (bJ X.env.cells scope.names []) s3.heap.objs.size X.env) λe s'=>RR (.ref s2.heap.objs.size) s3.heap.objs.size (.error e) s')=E' at ok;obtain⟨hg,htc,hel⟩:=hb (bJ X.env.cells scope.names []) s3.heap.objs.size fp s3 H3 E';have Istart:∀tk,Inv (aR X scope N (bJ X.env.cells scope.names []) s3.heap.objs.size fp s3 H3 E') [] (inBlock ix σ) H3 {s3 with heap:=h₁,toks:=tk}:=λtk=>by
    refine⟨ok,rfl,I3.bare,Un.kept old,⟨_,hns₁,λj x v e1 e2 _=>?_⟩,λx c e=>?_,I3.fresh,λx c e=>I3.freeC x c (csub x c e),λp hp=>absurd (show p∈([]:aH)from hp) (by simp),I3.hok.kept old,?_⟩
    ·
      unfold inBlock at e2;rw[Ht]at e2;cases q1:ix[j]? with
      |none=>rw[q1]at e2;simp at e2
      |some o=>
        rw[q1]at e2;cases o with
        |none=>simp at e2
        |some i=>
          obtain⟨n1,n2⟩:=n6.at_ hix e1 q1;have e2':(σ[i]?).getD none=some v:=Option.some.inj e2;have e3:σ[i]?=some (some v):=by
            cases q2:σ[i]? with
            |none=>rw[q2]at e2';simp at e2'
            |some o2=>rw[q2]at e2';simpa using e2'
          obtain⟨m,hn,hl⟩:=I3.loc;have hm:=PySem.mem_of_lookup n2;have hk:=hfr _ hm rfl;have hv:Dc X.env.scope x:=by
            rcases hk with hk|hk
            ·exact .inr (.inl hk)
            ·exact .inr (.inr hk)
          obtain⟨u,r,l⟩:=hl i x v n1 e3 hv;refine⟨u,r,.inr ?_⟩;rcases l with⟨kl,_⟩|⟨_,c,hcx,hcell'⟩
          · have kl':X.env.scope.names.lookup x=some .local:=kl
            rcases hk with hk|hk
            ·rw[kl']at hk;cases hk
            ·rw[kl']at hk;cases hk
          · obtain⟨c',hc'⟩:=Option.isSome_iff_exists.mp (eh (cells:=X.env.cells) scope.names [] x hm ⟨c,hcx⟩)
            have ec:c'=c:=Option.some.inj ((csub x c' hc').symm.trans hcx);subst ec;refine⟨?_,c',hc',?_⟩
            ·
              show(relabel scope X.env).names.lookup x=some .cell\/(relabel scope X.env).names.lookup x=some .free;have gen:∀names:kH,names.lookup x=some .free->((names.map λ(n,k)=>if(k==NameKind.free&&X.env.scope.kind==.function&&X.env.kindOf n==some .cell)then(n,NameKind.cell)else(n,k)).lookup x=some .cell\/(names.map λ(n,k)=>if(k==NameKind.free&&X.env.scope.kind==.function&&X.env.kindOf n==some .cell)then(n,NameKind.cell)else(n,k)).lookup x=some .free):=by
                intro names
                induction names with
                |nil=>intro h;simp at h
                |cons p r ih=>
                  obtain⟨n,k⟩:=p;intro h;show List.lookup x ((if(k==NameKind.free&&X.env.scope.kind==.function&&X.env.kindOf n==some .cell)=true then(n,NameKind.cell)else(n,k))::_)=_\/List.lookup x ((if(k==NameKind.free&&X.env.scope.kind==.function&&X.env.kindOf n==some .cell)=true then(n,NameKind.cell)else(n,k))::_)=_;cases hx:x==n with
                  |true=>
                    simp only[HR,hx]at h;by_cases hcc:(k==NameKind.free&&X.env.scope.kind==.function&&X.env.kindOf n==some .cell)=true
                    ·rw[if_pos hcc];left;simp only[HR,hx]
                    ·rw[if_neg hcc];right;simp only[HR,hx];exact h
                  |false=>
                    simp only[HR,hx]at h;by_cases hcc:(k==NameKind.free&&X.env.scope.kind==.function&&X.env.kindOf n==some .cell)=true
                    ·rw[if_pos hcc];simp only[HR,hx];exact ih h
                    ·rw[if_neg hcc];simp only[HR,hx];exact ih h
              exact gen scope.names n2
            ·exact hcell'.keeps old
    · obtain⟨v,z⟩:=I3.cell x c (csub x c e)
      exact⟨v,z.keeps old⟩
    · show(inBlock ix σ).length=N.length
      unfold inBlock;rw[Hx];exact n6.len hix
  have stat:∀{H':Hp},(∀b∈fp,H' b=none)->∀b∈fp,nX (aR X scope N (bJ X.env.cells scope.names []) s3.heap.objs.size fp s3 H3 E') [] H' b:=λhn b hb'=>
    ⟨hn b hb',(ok.exf b hb').1,ok.exfs b hb',.inl hb',(ok.exf b hb').2,λp hp=>absurd (show p∈([]:aH)from hp) (by simp)⟩
  have tn1:tn 0 h₁:=T.keep _ _ _ st2 λb hb' o e=>old b o (by rw[<-eh3];exact Kf _ e);have loop:∀tk,Lr `i X.A (.compLoop (.ListComp elt [⟨tg,iter,ifs,0⟩] scope pos) 0 (.ref it) (.ref s2.heap.objs.size) (compEnvC scope (bJ X.env.cells scope.names []) s3.heap.objs.size X.env))
      (RR (.ref s2.heap.objs.size) s3.heap.objs.size) {s3 with heap:=h₁,toks:=tk}:=by
    intro tk;refine gr (λn s'=>∃i σ' H',Inv (aR X scope N (bJ X.env.cells scope.names []) s3.heap.objs.size fp s3 H3 E') [] σ' H' s'/\tn i s'.heap/\(∀b∈fp,H' b=none)/\W i n σ' H') ?_ m0 ⟨0,_,_,Istart tk,tn1,fpH3,w0⟩;rintro n s5 ⟨i,σ5,H5,I5,st5,fr5,w5⟩;rw[hE];rcases turn i n σ5 H5 w5 with⟨stop,qn⟩|⟨go,step⟩
    · refine cc (T.done (aR X scope N (bJ X.env.cells scope.names []) s3.heap.objs.size fp s3 H3 E') rfl rfl rfl hc i [] s5 σ5 H5 _ I5 (stat fr5) st5 stop) λr s6 zq=>zq.elim λhr I6=>?_
      subst hr;obtain⟨m6,hn6,_⟩:=I6.loc;refine hRR s2.heap.objs.size s3.heap.objs.size H5 s6 m6 hD (by rw[hC3];exact HV _) I6.free hn6 (λh' sb=>?_) qn;have ne:∀b o,s3.heap.get? b=some o->b≠s3.heap.objs.size:=λb o e=>G2 (Kc e);refine I3.call' (s':={s6 with heap:=h'}) (H':=H5) (ch:=fp) I6.os ⟨λb o e n hb' hx=>?_,λb o e n hb' hx=>?_,λb o e n hx=>?_,λb o e hx=>?_,I6.base.tups,I6.base.frzs,I6.base.tbls⟩ ?_ I6.bare λb hb'=>?_
      ·exact(sb.2 b (ne b o e)).trans (I6.base.keep b o e n hb' hx)
      · obtain⟨sl,e1⟩:=I6.base.slot b o e n hb' hx
        exact⟨sl,(sb.2 b (ne b o e)).trans e1⟩
      ·exact I6.base.free b o e n hx
      · obtain⟨o',e1⟩:=I6.base.there b o e hx
        exact⟨o',(sb.2 b (ne b o e)).trans e1⟩
      · intro b ob e
        have hfreeC:H5 s3.heap.objs.size=none:=I6.free;refine(I6.hok b ob e).stay (λc v hcc q=>(sb.2 c ?_).trans q) (λ_ q=>q) λ_ _ q=>q;rintro rfl;rcases hcc with rfl|hcc
        ·rw[hfreeC]at e;cases e
        ·rw[hfreeC]at hcc;cases hcc
      · obtain⟨_,h2',_,h4',h5',h6'⟩:=f2 b hb'
        exact⟨h4',h2',h5',h6'⟩
    · refine cc (T.item (aR X scope N (bJ X.env.cells scope.names []) s3.heap.objs.size fp s3 H3 E') rfl rfl rfl hc i [] s5 σ5 H5 _ I5 (stat fr5) st5 go) λr s6 zq=>zq.elim λu zq=>zq.elim λhr h6=>?_
      subst hr;refine cc h6 λ_ s7 zq=>zq.elim λx zq=>zq.elim λH7 zq=>zq.elim λI7 zq=>zq.elim λr7 zq=>zq.elim λy7 zq=>zq.elim λst7 fr7=>?_;have I7':=I7.pinned (stat fr7) (T.obj _ _ st7);refine cc (hg _ s7 σ5 H7 x u _ I7' r7 (step x H7 y7)) λ_ s8 zq=>zq.elim λσ8 zq=>zq.elim λH8 zq=>zq.elim λI8 q8=>?_;refine cc (htc _ s8 σ8 H8 _ I8 q8) λb s9 zq=>zq.elim λH9 zq=>zq.elim λI9 q9=>?_;have again:∀{σ':St}{H':Hp}{s':KN}{m':Nat},Inv (aR X scope N (bJ X.env.cells scope.names []) s3.heap.objs.size fp s3 H3 E') ([]++li fp s7.heap) σ' H' s'->m'<n->W (i+1) m' σ' H'->
          ∃m,m<n/\∃i σ' H',Inv (aR X scope N (bJ X.env.cells scope.names []) s3.heap.objs.size fp s3 H3 E') [] σ' H' s'/\tn i s'.heap/\(∀b∈fp,H' b=none)/\W i m σ' H':=λ{σ' H' s' m'} I' hm w'=>by
        refine⟨m',hm,i+1,σ',H',I'.unpinned,T.keep _ _ _ st7 λb hb' o e=>(I'.pin (b,o) (Hj _ (Hj _ (fI hb' e)))).1,λb hb'=>?_,w'⟩;obtain⟨o,e,d⟩:=T.obj _ _ st7 b hb';exact(I'.pin (b,o) (Hj _ (Hj _ (fI hb' e)))).2.1
      cases b with
      |false=>
        rw[if_neg Hg]at q9 ⊢;obtain⟨m',hm,w9⟩:=q9;exact again I9 hm w9
      |true=>
        rw[if_pos rfl]at q9 ⊢;refine cc (hel _ s9 σ8 H9 _ I9 q9) λy s10 zq=>zq.elim λv zq=>zq.elim λH10 zq=>zq.elim λI10 zq=>zq.elim λr10 q10=>?_;obtain⟨acc,ha,hz,m',hm,w10⟩:=q10;refine cc (mY _ s10 σ8 H10 (.ref s2.heap.objs.size) [v] (.ref s2.heap.objs.size) [y] (λ_ H'=>H'=upd H10 s2.heap.objs.size (.lst (acc++[v]))) I10 rfl (.cons r10 .nil) ⟨_,acc,v,rfl,rfl,ha,hz,rfl⟩) λ_ s11 zq=>zq.elim λ_ zq=>zq.elim λH11 zq=>zq.elim λI11 zq=>zq.elim λ_ FK=>?_;subst FK;exact again I11 hm w10
  subst hs3;exact codeAny_compStart_list (loop _) (T.self _ 0 _ _ _ tn1 (loop _))
theorem AK(hc:X.calm=true)(hcell:∀y∈scope.names,y.2≠.cell)(hkind:scope.kind=.function)(hnames:∀y∈scope.names,y.2=.local->scope.names.lookup y.1=some .local)
  (hfr:∀y∈scope.names,y.2=.free->X.env.scope.names.lookup y.1=some .cell\/X.env.scope.names.lookup y.1=some .free)
  (hix:n6 X.N N scope.names ix=true) (hi:PI X tg iter wi)
  (hb:∀cl C fp s H E,PG (aR X scope N cl C fp s H E) tg g/\Bb (aR X scope N cl C fp s H E) ifs tc/\PE (aR X scope N cl C fp s H E) elt te)
  (hs:∀x,Lf iter X.env x=pure x:=by intro _;rfl):PE X (.ListComp elt [⟨tg,iter,ifs,0⟩] scope pos) (EI wi g tc te ix):=by
 intro pins s σ H Q I h;rw[eval_ListComp];refine LW (use:=none) rfl hs (iX λp hp hk=>I.ok.has p.1 (hfr p hp hk)) hkind hnames (cc (hi pins s σ H _ I h) λv s1 h1=>cc h1 λitv s2 h2=>?_);obtain⟨it,fp,tn,J,H2,e,I2,T,st2,f2,q⟩:=h2;subst e;refine k9 (Q:=Q) (RR:=λacc C=>compPost `i X.A X.xe none (EP X pins σ Q) acc C) hc hcell hkind hfr hix hb I2 T st2 f2 q ?_;intro D C H' s' m _ _ _ hn hI hq;exact⟨m,hn,λh' sb=>⟨.ref D,H',hI h' sb,rfl,hq⟩⟩
theorem wN{i:Nat}{y:Str}{py spos:Pos}(hN:X.N.Nodup)(hi':X.N[i]?=some y)(hx:Loc X.env.scope y)
  (hc:X.calm=true) (hcell:∀y∈scope.names,y.2≠.cell) (hkind:scope.kind=.function) (hnames:∀y∈scope.names,y.2=.local->scope.names.lookup y.1=some .local)
  (hfr:∀y∈scope.names,y.2=.free->X.env.scope.names.lookup y.1=some .cell\/X.env.scope.names.lookup y.1=some .free)
  (hix:n6 X.N N scope.names ix=true) (hi:PI X tg iter wi)
  (hb:∀cl C fp s H E,PG (aR X scope N cl C fp s H E) tg g/\Bb (aR X scope N cl C fp s H E) ifs tc/\PE (aR X scope N cl C fp s H E) elt te)
  (hsw:swapsWith (.ListComp elt [⟨tg,iter,ifs,0⟩] scope pos) (some (.Name y py)) spos.line X.env=pure true:=by rfl)
  (hs:∀x,Lf iter X.env x=pure x:=by intro _;rfl)
  (hf:X.fn y=true\/X.env.scope.names.lookup y=some .local:=by first|exact .inl rfl|exact .inr rfl|assumption):
  PS X (.Assign [.Name y py] (.ListComp elt [⟨tg,iter,ifs,0⟩] scope pos) spos) (yf (EI wi g tc te ix) (m5 i)):=by
 intro pins s σ H D0 I h;rw[exec_Assign_Name_used _ _ _ _ hsw];refine Lc (LV (Lc ?_));show K2 _ X.A (do let _<-comprehension (.ListComp elt [⟨tg,iter,ifs,0⟩] scope pos) scope X.env _ (newList []) false (eval iter X.env) (some (assign (.Name y py) X.env))) _ _ s;refine Lc (cc (LW (use:=some (assign (.Name y py) X.env)) (Q:=λ_ s'=>SP X pins D0 .next s') rfl hs (iX λp hp hk=>I.ok.has p.1 (hfr p hp hk)) hkind hnames
  (cc (hi pins s σ H _ I h) λv s1 h1=>cc h1 λitv s2 h2=>?_)) λ_ s' hq=>Lb (Lb hq))
 obtain⟨it,fp,tn,J,H2,e,I2,T,st2,f2,q⟩:=h2;subst e;refine k9 (Q:=λv H'=>m5 i v σ H' D0.nx) (RR:=λacc C=>compPost `i X.A X.xe (some (assign (.Name y py) X.env)) (λ_ s'=>SP X pins D0 .next s') acc C) hc hcell hkind hfr hix hb I2 T st2 f2 q ?_;intro D C H' s' m _ hC hfree hn hI hq;have I':Inv X pins σ H' s':=hI s'.heap (.refl ..);have nL:C≠X.env.locals:=Hh (G0 I2.lt hC);have nC:∀x c,X.env.cells.lookup x=some c->c≠C:=λx c e z=>by
  obtain⟨v,q⟩:=I2.cell x c e;exact absurd (G0 q.lt (by rw[z];exact hC)) (G1 _)
 have nP:∀p∈X.pn++pins,p.1≠C:=λp hp z=>absurd (G0 (Kc (I2.pin p hp).1) (by rw[z];exact hC)) (G1 _);show K2 _ X.A (assign (.Name y py) X.env (.ref D)) _ _ _;refine wpAny_assign_Name (nQ I' hN hi' hx (v:=.ref D) rfl (λs'' I'' ch=>?_) hf);obtain⟨a,sb,ha⟩:=ch;have hCa:C≠a:=by
  rcases ha with ha|ha
  ·rw[ha];exact nL
  ·exact Ne.symm (nC y a ha)
 refine⟨m,hn.sameBut sb hCa,λh' sb'=>⟨_,H',?_,hq⟩⟩;exact I''.turned (t':=s''.toks) (λb o hb' e=>(sb'.2 b hb').trans e) hfree nL (.inr (G3 I2.sz hC)) nC nP
end
end L2
namespace TG
open PySem PySem.Spec
noncomputable def DP{α:Type}:Sem α->Prop
 |.pure _=>True
 |.raise _=>True
 |.unsupported _=>True
 |.finish _=>True
 |.rule _ k=>DP (k ())
 |.at _ k=>DP (k ())
 |.load _ _ k=>∀o,DP (k o)
 |.update _ _ f k=>(∀o,(f o).dict=o.dict)/\DP (k ())
 |.loadIfAlive _ k=>∀o,DP (k o)
 |.point _ k=>DP (k ())
 |.alloc _ k=>∀a,DP (k a)
 |.fresh k=>∀a,DP (k a)
 |.ask k=>∀a,DP (k a)
 |.stack k=>∀a,DP (k a)
 |_=>False
theorem DP.bind{α β:Type}{f:α->Sem β}(hf:∀a,DP (f a)):∀{m:Sem α},DP m->DP (m >>= f):=λ{m} h=>by
 show DP (m.bind f)
 induction m with
 |pure a=>exact hf a
 |raise _=>trivial
 |unsupported _=>trivial
 |finish _=>trivial
 |rule _ k ih=>exact ih () h
 |«at» _ k ih=>exact ih () h
 |load _ _ k ih=>exact λo=>ih o (h o)
 |update _ _ g k ih=>exact⟨h.1,ih () h.2⟩
 |loadIfAlive _ k ih=>exact λo=>ih o (h o)
 |point _ k ih=>exact ih () h
 |alloc _ k ih=>exact λo=>ih o (h o)
 |fresh k ih=>exact λo=>ih o (h o)
 |ask k ih=>exact λo=>ih o (h o)
 |stack k ih=>exact λo=>ih o (h o)
 |_=>exact h.elim
noncomputable def DS(h h':KR):Prop:=∀(a:Nat)(o:Obj),h.objs[a]?=some o->∃o',h'.objs[a]?=some o'/\o'.dict=o.dict
theorem DS.refl(h:KR):DS h h:=λ_ o e=>⟨o,e,rfl⟩
theorem DS.trans{h1 h2 h3:KR}(x:DS h1 h2)(y:DS h2 h3):DS h1 h3:=λa o e=>by
 obtain⟨o1,e1,d1⟩:=x a o e;obtain⟨o2,e2,d2⟩:=y a o1 e1;exact⟨o2,e2,d2.trans d1⟩
theorem pR{h:KR}{a:KI}{o:Obj}(e:h.get? a=some o):h.objs[a]?=some o:=by
 unfold Heap.get? at e;split at e
 ·cases e
 ·exact e
theorem DS.dict{h h':KR}(x:DS h h'){a:KI}{o o':Obj}(e:h.get? a=some o)(e':h'.get? a=some o'):o'.dict=o.dict:=by
 obtain⟨o1,e1,d1⟩:=x a o (pR e);rw[pR e']at e1;cases e1;exact d1
theorem DS.push(h:KR)(o:Obj):DS h (h.push o):=λa u e=>⟨u,by
 show(h.objs.push o)[a]?=_
 have:=(Array.getElem?_eq_some_iff.mp e).1
 rw[Array.getElem?_push,if_neg `o];exact e,rfl⟩
theorem DS.upd(h:KR)(b:KI){f:Obj->Obj}(hf:∀o,(f o).dict=o.dict):DS h (h.update b f):=λa u e=>by
 show∃o',(h.objs.modify b f)[a]?=some o'/\_;rw[Array.getElem?_modify,e];split
 ·exact⟨_,rfl,hf u⟩
 ·exact⟨_,rfl,rfl⟩
theorem DP.wp{α:Type}{M:K1}{Γ:PySem.Ctx}{Q:α->Pos->KN->Prop}{E:KG->Pos->KN->Prop}{t:Sem α}(d:DP t){p:Pos}{s:KN}(h:Sem.wp M Γ t Q E p s):Sem.wp M Γ t (λa p' s'=>Q a p' s'/\DS s.heap s'.heap) (λa p' s'=>E a p' s'/\DS s.heap s'.heap) p s:=by
 have go:∀(h0:KR)(p:Pos)(s:KN),DS h0 s.heap->Sem.wp M Γ t Q E p s->Sem.wp M Γ t (λa p' s'=>Q a p' s'/\DS h0 s'.heap) (λa p' s'=>E a p' s'/\DS h0 s'.heap) p s:=by
  intro h0;clear h
  induction t with
  |pure a=>exact λp s z h=>⟨h,z⟩
  |raise a=>exact λp s z h=>⟨h,z⟩
  |unsupported _=>exact λp s z h=>h
  |finish _=>exact λp s z h=>h
  |rule _ k ih=>exact λp s z h=>ih () d p s z h
  |«at» q k ih=>exact λp s z h=>ih () d q s z h
  |load a _ k ih=>exact λp s z h=>let ⟨o,ho,h⟩:=h;⟨o,ho,ih o (d o) p s z h⟩
  |update a _ f k ih=>exact λp s z h=>⟨h.1,ih () d.2 p _ (z.trans (DS.upd _ a d.1)) h.2⟩
  |loadIfAlive a k ih=>exact λp s z h=>ih _ (d _) p s z h
  |point _ k ih=>exact λp s z h=>ih () d p s z h
  |alloc o k ih=>exact λp s z h=>ih _ (d _) p _ (z.trans (DS.push _ o)) h
  |fresh k ih=>exact λp s z h=>ih _ (d _) p _ z h
  |ask k ih=>exact λp s z h=>ih _ (d _) p _ z h
  |stack k ih=>exact λp s z h=>ih _ (d _) p _ z h
  |_=>exact d.elim
 exact go s.heap p s (DS.refl _) h
theorem DP.any{α:Type}{M:K1}{A:KY}{Q:α->KN->Prop}{E:KG->KN->Prop}{t:Sem α}{s:KN}(d:DP t)(h:K2 M A t Q E s):K2 M A t (λa s'=>Q a s'/\DS s.heap s'.heap) E s:=λΓ p hi=>Sem.wp_mono _ _ _ (λ_ _ _ x=>x) (λ_ _ _ x=>x.1) _ _ (d.wp (h Γ p hi))
theorem DP.go{M:K1}{A:KY}{Q:Unit->KN->Prop}{E:KG->KN->Prop}{t:Sem Unit}{s:KN}{P:KR->Prop}(d:DP t)(h:K2 M A t (λ_ s'=>∃h',s'={s with heap:=h'}/\P h') E s)(k:∀h',P h'->DS s.heap h'->Q () {s with heap:=h'}):K2 M A t Q E s:=K4 (d.any h) (λ_ s' z=>by
 obtain⟨⟨h',rfl,p⟩,ds⟩:=z;exact k h' p ds) λ_ _ z=>z
theorem iT(v:KG)(i:Nat):DP (field v i):=by
 unfold field fieldsOf;cases v with
 |ref a=>
  refine DP.bind (λxs=>?_) ?_
  ·split<;>trivial
  ·refine DP.bind (λo=>?_) (λo=>trivial);split<;>trivial
 |_=>exact DP.bind (λxs=>by split<;>trivial) trivial
theorem tP(a:KI):DP (load a):=λ_=>trivial
theorem Bf(f:Array KG->Array KG)(o:Obj):(Obj.mapFields f o).dict=o.dict:=by
 unfold Obj.mapFields;split<;>rfl
theorem q5(v:KG)(i:Nat)(x:KG):DP (setField v i x):=by
 unfold setField;cases v with
 |ref a=>
  unfold updateField;refine DP.bind (λo=>?_) (tP a);split
  ·split
   ·exact⟨Bf _,trivial⟩
   ·trivial
  ·trivial
 |_=>trivial
theorem uk(e:KG)(f:Option KI):DP (setFlight e f):=by
 unfold setFlight;refine DP.bind (λtb=>?_) (iT _ _);split
 ·exact q5 _ _ _
 ·trivial
theorem xQ:DP stack:=λ_=>trivial
theorem vv:DP underTheClaimsCaller:=by
 unfold underTheClaimsCaller;exact λ_=>trivial
theorem qA:∀l:List Env,DP (readyFrames l)
 |[]=>trivial
 |env::outer=>by
  unfold readyFrames;cases env.frame with
  |none=>trivial
  |some f=>
   refine DP.bind ?_ (tP f);intro o;split
   ·trivial
   ·refine DP.bind ?_ ?_
    ·intro b;refine DP.bind ?_ ?_
     ·intro b;refine DP.bind ?_ ?_
      ·intro _;exact qA outer
      ·exact⟨λ_=>rfl,trivial⟩
     ·unfold keptBack;split
      ·split
       ·trivial
       ·refine DP.bind ?_ vv;intro _;trivial
      ·trivial
    ·unfold behindIsImport;split
     ·trivial
     ·split
      ·trivial
      ·refine DP.bind ?_ (iT _ _);intro _;trivial
theorem zD:DP frameEnvs:=λ_=>trivial
theorem rM(env:Env):DP (frameOf env):=by
 unfold frameOf;refine DP.bind ?_ zD;intro l;refine DP.bind ?_ ?_
 ·intro f;split<;>trivial
 ·unfold frameObject;split
  ·trivial
  ·refine DP.bind ?_ (qA _);intro _;trivial
theorem CI(ty:String)(vs:List KG):DP (newFields ty vs):=by
 unfold newFields newObj;dsimp only;split
 ·trivial
 ·exact λ_=>trivial
theorem ye(f:KI)(b:Bool):DP (entryPlaceOf f b):=by
 unfold entryPlaceOf;refine DP.bind ?_ xQ;intro l;split<;>trivial
theorem zb(e:KG)(env:Env):DP (noteFrame e env):=by
 unfold noteFrame;cases env.frame with
 |none=>trivial
 |some f=>
  have tl:∀head:KG,DP (do setField e 1 (<-EntryCells.newEntry head (<-frameOf env) .none (rawInt f) .none (<-entryPlaceOf f (head !=.none)))):=λhead=>by
   refine DP.bind ?_ (rM env);intro a;refine DP.bind ?_ (ye _ _);intro b;refine DP.bind ?_ (CI _ _);intro c;exact q5 _ _ _
  refine DP.bind ?_ (iT _ _);intro head;dsimp only;split
  ·refine DP.bind ?_ (iT _ _);intro x;split
   ·trivial
   ·refine DP.bind ?_ (q5 _ _ _);intro _;exact tl head
  ·exact tl head
theorem rh(env:Env)(e:KG):DP (leaving env e):=by
 unfold leaving;refine DP.bind ?_ (zb _ _);intro _;exact uk _ _
open PySem PySem.Spec L2
inductive D where
 |non|bl (b:Bool)|int (i:Int)|str (x:Str)|tup (xs:List D)|lst (xs:List D)
 |dct (ks vs:List D)|obj (c:Str) (fs:aK) (vs:List D)|exc (c:Str) (fs:aK) (vs:List D)
noncomputable abbrev bo:=List (List Key×D)
noncomputable abbrev ii:=Option (List D)
noncomputable abbrev aQ:=Option D
noncomputable def ax:Key->D
 |.inl i=>.int i
 |.inr x=>.str x
noncomputable def clsAt(K:J1)(c:Str)(C:KI):Prop:=J8 K KU c=some (some (.ref C))
noncomputable def FU(C a:KI)(dx:Option KI):(KI->Prop)->KR->Prop:=λ_ h=>∃o,h.get? a=some o/\o.cls=.ref C/\o.dict=dx/\PySem.W.notCls o=true
mutual
noncomputable def bH(K:J1)(H:Hp):D->V->Prop
 |.non,v=>v=.non
 |.bl b,v=>v=.bl b
 |.int i,v=>v=.int i
 |.str x,v=>v=.str x
 |.tup xs,v=>∃a vs,v=.ref a/\H a=some (.tup vs)/\av K H xs vs
 |.lst xs,v=>∃a vs,v=.ref a/\jA K H a vs/\av K H xs vs
 |.dct ks ds,v=>∃a vs,v=.ref a/\av K H ds vs/\((∃kvs:List (Key×V),H a=some (.dK kvs)/\ks=kvs.map (λp=>ax p.1)/\vs=kvs.map (·.2)) \/
   (∃kvs:List (List Key×V),H a=some (.dT kvs)/\ks=kvs.map (λp=>.tup (p.1.map ax))/\vs=kvs.map (·.2)) \/
   ∃(kvs:List (List Key×V))(o:Obj),H a=some (.frz o (.dT kvs))/\ks=.non::kvs.map (λp=>.tup (p.1.map ax))/\vs=kvs.map (·.2))
 |.obj c fs ds,v=>∃a vs,v=.ref a/\av K H ds vs/\fs.length=vs.length/\∃C dx,clsAt K c C/\H a=some (.ins C dx (fs.zip vs))
 |.exc c fs ds,v=>∃a vs,v=.ref a/\av K H ds vs/\fs.length=vs.length/\∃C dx,clsAt K c C/\H a=some (.ext (FU C a dx))/\(fs=[]\/∃d,dx=some d/\H d=some (.xd (fs.zip vs)))
noncomputable def av(K:J1)(H:Hp):List D->az->Prop
 |[],vs=>vs=[]
 |x::xs,vs=>∃v r,vs=v::r/\bH K H x v/\av K H xs r
end
theorem aX{K:J1}{H H':Hp}{a:KI}{xs:az}(e:aD H H')(h:H a=some (.tup xs)):nV K H' a xs:=nV.of (e _ _ h)
mutual
theorem bH.mono{K:J1}{H H':Hp}(e:aD H H'):∀{d:D}{v:V},bH K H d v->bH K H' d v
 |.non,_,h=>by unfold bH at h ⊢;exact h
 |.bl _,_,h=>by unfold bH at h ⊢;exact h
 |.int _,_,h=>by unfold bH at h ⊢;exact h
 |.str _,_,h=>by unfold bH at h ⊢;exact h
 |.tup xs,_,h=>by
  unfold bH at h ⊢;obtain⟨a,vs,e1,h1,h2⟩:=h;exact⟨a,vs,e1,e _ _ h1,av.mono e h2⟩
 |.lst xs,_,h=>by
  unfold bH at h ⊢;obtain⟨a,vs,e1,h1,h2⟩:=h;exact⟨a,vs,e1,e.seq h1,av.mono e h2⟩
 |.dct _ ds,_,h=>by
  unfold bH at h ⊢;obtain⟨a,vs,e1,h1,h2⟩:=h;refine⟨a,vs,e1,av.mono e h1,?_⟩;rcases h2 with⟨kvs,h2,h3⟩|⟨kvs,h2,h3⟩|⟨kvs,o,h2,h3⟩
  ·exact .inl ⟨kvs,e _ _ h2,h3⟩
  ·exact .inr (.inl ⟨kvs,e _ _ h2,h3⟩)
  ·exact .inr (.inr ⟨kvs,o,e _ _ h2,h3⟩)
 |.obj _ _ ds,_,h=>by
  unfold bH at h ⊢;obtain⟨a,vs,e1,h1,h2,C,dx,h3,h4⟩:=h;exact⟨a,vs,e1,av.mono e h1,h2,C,dx,h3,e _ _ h4⟩
 |.exc _ _ ds,_,h=>by
  unfold bH at h ⊢;obtain⟨a,vs,e1,h1,h2,C,dx,h3,h4,h5⟩:=h;exact⟨a,vs,e1,av.mono e h1,h2,C,dx,h3,e _ _ h4,h5.imp id λzq=>zq.elim λd zq=>zq.elim λq1 q2=>⟨d,q1,e _ _ q2⟩⟩
theorem av.mono{K:J1}{H H':Hp}(e:aD H H'):∀{ds:List D}{vs:az},av K H ds vs->av K H' ds vs
 |[],_,h=>by unfold av at h ⊢;exact h
 |x::xs,_,h=>by
  unfold av at h ⊢;obtain⟨v,r,e1,h1,h2⟩:=h;exact⟨v,r,e1,bH.mono e h1,av.mono e h2⟩
end
section
variable{K:J1}{H:Hp}
theorem fG{v:V}:bH K H .non v↔v=.non:=by unfold bH;rfl
theorem gf{b:Bool}{v:V}:bH K H (.bl b) v↔v=.bl b:=by unfold bH;rfl
theorem cX{i:Int}{v:V}:bH K H (.int i) v↔v=.int i:=by unfold bH;rfl
theorem cA{x:Str}{v:V}:bH K H (.str x) v↔v=.str x:=by unfold bH;rfl
theorem bm{xs:List D}{v:V}:bH K H (.tup xs) v↔∃a vs,v=.ref a/\H a=some (.tup vs)/\av K H xs vs:=by unfold bH;rfl
theorem bn{xs:List D}{v:V}:bH K H (.lst xs) v↔∃a vs,v=.ref a/\jA K H a vs/\av K H xs vs:=by unfold bH;rfl
theorem EG{ks ds : List D}{v : V}: bH K H (.dct ks ds) v ↔ ∃ a vs, v = .ref a /\ av K H ds vs /\ ((∃ kvs : List (Key × V), H a = some (.dK kvs) /\ ks = kvs.map (fun p => ax p.1) /\ vs = kvs.map (·.2)) \/
      (∃kvs:List (List Key×V),H a=some (.dT kvs)/\ks=kvs.map (λp=>.tup (p.1.map ax))/\vs=kvs.map (·.2)) \/
      ∃(kvs:List (List Key×V))(o:Obj),H a=some (.frz o (.dT kvs))/\ks=.non::kvs.map (λp=>.tup (p.1.map ax))/\vs=kvs.map (·.2)):=by unfold bH;rfl
theorem bB{vs:az}:av K H [] vs↔vs=[]:=by unfold av;rfl
theorem aI{x:D}{xs:List D}{vs:az}:av K H (x::xs) vs↔∃v r,vs=v::r/\bH K H x v/\av K H xs r:=by conv=>lhs;unfold av
theorem av.length:∀{ds:List D}{vs:az},av K H ds vs->ds.length=vs.length
 |[],_,h=>by rw[bB]at h;rw[h];rfl
 |_::xs,_,h=>by
  rw[aI]at h;obtain⟨v,r,e,_,h⟩:=h;rw[e,HK,HK,av.length h]
theorem av.get:∀{ds:List D}{vs:az}{i:Nat}{d:D},av K H ds vs->ds[i]?=some d->∃v,vs[i]?=some v/\bH K H d v
 |[],_,_,_,_,e=>by simp at e
 |x::xs,_,0,d,h,e=>by
  rw[aI]at h;obtain⟨v,r,rfl,h1,_⟩:=h;simp at e;subst e;exact⟨v,rfl,h1⟩
 |x::xs,_,i+1,d,h,e=>by
  rw[aI]at h;obtain⟨v,r,rfl,_,h2⟩:=h;obtain⟨w,e1,e2⟩:=av.get (i:=i) h2 (by simpa using e);exact⟨w,by simpa using e1,e2⟩
theorem av.append:∀{ds es:List D}{vs ws:az},av K H ds vs->av K H es ws->av K H (ds++es) (vs++ws)
 |[],_,_,_,h,h'=>by rw[bB]at h;subst h;exact h'
 |x::xs,_,_,_,h,h'=>by
  rw[aI]at h;obtain⟨v,r,rfl,h1,h2⟩:=h;rw[HW,aI];exact⟨v,_,rfl,h1,av.append h2 h'⟩
theorem av.take:∀{ds:List D}{vs:az}(n:Nat),av K H ds vs->av K H (ds.take n) (vs.take n)
 |_,_,0,_=>by rw[List.take_zero,List.take_zero,bB]
 |[],_,_+1,h=>by rw[bB]at h;subst h;rw[GY,GY,bB]
 |x::xs,_,n+1,h=>by
  rw[aI]at h;obtain⟨v,r,rfl,h1,h2⟩:=h;rw[HX,HX,aI];exact⟨v,_,rfl,h1,av.take n h2⟩
theorem av.drop:∀{ds:List D}{vs:az}(n:Nat),av K H ds vs->av K H (ds.drop n) (vs.drop n)
 |_,_,0,h=>by rw[HY,HY];exact h
 |[],_,_+1,h=>by rw[bB]at h;subst h;rw[GZ,GZ,bB]
 |x::xs,_,n+1,h=>by
  rw[aI]at h;obtain⟨v,r,rfl,h1,h2⟩:=h;rw[HZ,HZ];exact av.drop n h2
theorem av.snoc{ds:List D}{vs:az}{d:D}{v:V}(h:av K H ds vs)(h':bH K H d v):av K H (ds++[d]) (vs++[v]):=
 h.append (aI.mpr ⟨v,[],rfl,h',bB.mpr rfl⟩)
theorem av.one{d:D}{vs:az}(h:av K H [d] vs):∃v,vs=[v]/\bH K H d v:=by
 rw[aI]at h;obtain⟨v,r,rfl,h1,h2⟩:=h;rw[bB]at h2;subst h2;exact⟨v,rfl,h1⟩
theorem av.two{d e:D}{vs:az}(h:av K H [d,e] vs):∃v w,vs=[v,w]/\bH K H d v/\bH K H e w:=by
 rw[aI]at h;obtain⟨v,r,rfl,h1,h2⟩:=h;obtain⟨w,rfl,h3⟩:=h2.one;exact⟨v,w,rfl,h1,h3⟩
theorem mw:∀ns:List Int,av K H (ns.map D.int) (ns.map V.int)
 |[]=>bB.mpr rfl
 |n::ns=>aI.mpr ⟨_,_,rfl,cX.mpr rfl,mw ns⟩
end
noncomputable def hid(H:Hp)(O:ah):Hp:=λb=>if b∈O then none else H b
theorem ai(H:Hp)(O:ah):aD (hid H O) H:=λb o h=>by
 unfold hid at h;split at h
 ·cases h
 ·exact h
theorem aU{H H':Hp}{O:ah}(e:aD H H'):aD (hid H O) (hid H' O):=λb o h=>by
 unfold hid at h ⊢;by_cases hb:b∈O
 ·rw[if_pos hb]at h;cases h
 ·rw[if_neg hb]at h ⊢;exact e b o h
theorem f9{H:Hp}{O O':ah}(s:∀a∈O,a∈O'):aD (hid H O') (hid H O):=λb o h=>by
 unfold hid at h ⊢;by_cases hb:b∈O'
 ·rw[if_pos hb]at h;cases h
 ·rw[if_neg hb]at h;rw[if_neg λz=>hb (s b z)];exact h
theorem yy(H:Hp):hid H []=H:=by funext b;unfold hid;simp
theorem oB{H:Hp}{O:ah}{p:KI}{o:HO}(h:H p=none):aD (hid H O) (hid (upd H p o) O):=λb u q=>by
 unfold hid at q ⊢;by_cases hb:b∈O
 ·rw[if_pos hb]at q;cases q
 ·rw[if_neg hb]at q ⊢;rw[aq (aN q h)];exact q
theorem bh{H:Hp}{p:KI}(h:H p=none)(o:HO):aD H (upd H p o):=λb u q=>by rw[aq (aN q h)];exact q
theorem dR{H:Hp}{O:ah}{p:KI}(h:p∉O):hid H O p=H p:=by unfold hid;rw[if_neg h]
theorem dI{H:Hp}{O:ah}{p:KI}{o:HO}(h:p∈O):aD (hid H O) (hid (upd H p o) O):=λb u q=>by
 unfold hid at q ⊢;by_cases hb:b∈O
 ·rw[if_pos hb]at q;cases q
 ·rw[if_neg hb]at q ⊢;rw[aq (λz=>hb (by rw[z];exact h))];exact q
inductive S where
 |val (d:D)|own (d:D)|nest (d:D)
noncomputable abbrev af:=List (Option S)
noncomputable def kf:HO->Prop
 |.lst _=>True
 |.dK _=>True
 |.dT _=>True
 |_=>False
class aj where
 tab:Hp->Prop
 same:∀{H H':Hp},tab H->aD H H'->tab H'
 own:∀{H:Hp}{p:KI}{o o':HO},tab H->H p=some o->kf o->tab (upd H p o')
variable[aj]
noncomputable def bL(H:Hp)(O:ah):Prop:=aj.tab H/\∀a∈O,∃o,H a=some o/\kf o
theorem bL.not{H:Hp}{O:ah}(h:bL H O){p:KI}(n:H p=none):p∉O:=λz=>by
 obtain⟨vs,e,_⟩:=h.2 p z;rw[n]at e;cases e
theorem bL.same{H H':Hp}{O:ah}(h:bL H O)(e:aD H H'):bL H' O:=⟨aj.same h.1 e,λa ha=>let ⟨vs,q,m⟩:=h.2 a ha;⟨vs,e _ _ q,m⟩⟩
theorem bL.upd{H:Hp}{O:ah}{p:KI}{o:HO}(h:bL H O)(hp:p∈O)(m:kf o):bL (L2.upd H p o) O:=⟨let ⟨_,q,r⟩:=h.2 p hp;aj.own h.1 q r,λa ha=>by
 by_cases z:a=p
 ·rw[z];exact⟨o,ao,m⟩
 ·obtain⟨u,q,r⟩:=h.2 a ha;exact⟨u,by rw[aq z];exact q,r⟩⟩
theorem bL.cons{H:Hp}{O:ah}{p:KI}{o:HO}(h:bL H O)(hp:H p=some o)(m:kf o):bL H (p::O):=⟨h.1,λa ha=>by
 rcases List.mem_cons.mp ha with z|z
 ·rw[z];exact⟨o,hp,m⟩
 ·exact h.2 a z⟩
noncomputable def bS(K:J1)(H:Hp)(O:ah)(a:KI)(d:D):Prop:=∃o vs,H a=some o/\match d with
 |.lst xs=>o=.lst vs/\av K (hid H O) xs vs
 |.dct ks ds=>av K (hid H O) ds vs/\((∃kvs:List (Key×V),o=.dK kvs/\ks=kvs.map (λp=>ax p.1)/\vs=kvs.map (·.2)) \/
   ∃kvs:List (List Key×V),o=.dT kvs/\ks=kvs.map (λp=>.tup (p.1.map ax))/\vs=kvs.map (·.2))
 |_=>False
theorem bS.mono{K:J1}{H H':Hp}{O O':ah}{a:KI}{d:D}(h:bS K H O a d)(e:H a=H' a)(s:aD (hid H O) (hid H' O')):bS K H' O' a d:=by
 obtain⟨o,vs,h1,h2⟩:=h;refine⟨o,vs,by rw[<-e];exact h1,?_⟩;cases d with
 |lst xs=>exact⟨h2.1,h2.2.mono s⟩
 |dct ks ds=>exact⟨h2.1.mono s,h2.2⟩
 |_=>exact h2
theorem bS.some{K:J1}{H:Hp}{O:ah}{a:KI}{d:D}(h:bS K H O a d):∃o,H a=some o:=let ⟨o,_,e,_⟩:=h;⟨o,e⟩
theorem bS.den{K:J1}{H:Hp}{O O':ah}{a:KI}{d:D}(h:bS K H O a d)(s:aD (hid H O) (hid H O'))(ha:a∉O'):bH K (hid H O') d (.ref a):=by
 obtain⟨o,vs,h1,h2⟩:=h;have h1':hid H O' a=Option.some o:=by rw[dR ha];exact h1
 cases d with
 |lst xs=>
  obtain⟨e,g⟩:=h2;subst e;exact bn.mpr ⟨a,vs,rfl,jA.of h1',g.mono s⟩
 |dct ks ds=>
  obtain⟨g,q⟩:=h2;refine EG.mpr ⟨a,vs,rfl,g.mono s,?_⟩;rcases q with⟨kvs,e,q⟩|⟨kvs,e,q⟩
  ·subst e;exact .inl ⟨kvs,h1',q⟩
  ·subst e;exact .inr (.inl ⟨kvs,h1',q⟩)
 |_=>exact h2.elim
structure bX(K:J1)(O:ah)(H:Hp)(ρ:af)(σ:St):Prop where
 val:∀(i:Nat) d,ρ[i]?=some (some (.val d))->∃v,σ[i]?=some (some v)/\bH K (hid H O) d v
 own:∀(i:Nat) d,ρ[i]?=some (some (.own d))->∃a,σ[i]?=some (some (.ref a))/\a∈O/\bS K H O a d
 one:∀(i j:Nat) xs ys a,ρ[i]?=some (some (.own xs))->ρ[j]?=some (some (.own ys))->σ[i]?=some (some (.ref a))->σ[j]?=some (some (.ref a))->i=j
 all:bL H O
theorem iU{H H':Hp}(e:aD H H'){a:KI}{o:HO}(h:H a=some o):H a=H' a:=by rw[h,e _ _ h]
theorem bX.same{K:J1}{O:ah}{H H':Hp}{ρ:af}{σ:St}(h:bX K O H ρ σ)(e:aD H H'):bX K O H' ρ σ:=
  ⟨fun i d q=>let ⟨v,a,b⟩:=h.val i d q; ⟨v,a,b.mono (aU e)⟩,
   λi xs q=>let ⟨a,q1,q2,q3⟩:=h.own i xs q;⟨a,q1,q2,q3.mono (let ⟨_,z⟩:=q3.some;iU e z) (aU e)⟩,h.one,h.all.same e⟩
structure Ex where
 c:Str
 fs:aK
 vs:List D
noncomputable abbrev R(α:Type):=Except (Option Ex) α
noncomputable abbrev aL:=af->R (List D)
noncomputable abbrev aZ:=af->R Bool
noncomputable abbrev un{α:Type}:R α:=.error none
noncomputable def rO{α:Type}:Option α->R α
 |some a=>.ok a
 |none=>.error none
noncomputable def DJ(K:J1)(Hd:Hp)(x:Ex)(C:KI)(dx:Option KI):Prop:=clsAt K x.c C/\∃ws,av K Hd x.vs ws/\x.fs.length=ws.length/\(x.fs=[]\/∃d,dx=some d/\Hd d=some (.xd (x.fs.zip ws)))
theorem DJ.mono{K:J1}{H H':Hp}{x:Ex}{C:KI}{dx:Option KI}(h:DJ K H x C dx)(e:aD H H'):DJ K H' x C dx:=by
 obtain⟨h1,ws,h2,h3,h4⟩:=h;exact⟨h1,ws,h2.mono e,h3,h4.imp id λzq=>zq.elim λd zq=>zq.elim λq1 q2=>⟨d,q1,e _ _ q2⟩⟩
end TG
namespace TG
open PySem PySem.Spec L2
variable[aj]
open PyProof.Rows (AllBare)
theorem CO{P:KP}{w:KO}{H:Hp}{h:KR}{a:KI}{o:HO}(x:bC P w H h a o):∃u,h.get? a=some u:=by
 cases o with
 |lst xs=>obtain⟨_,_,_,_,e⟩:=x;exact⟨_,e⟩
 |tup xs=>obtain⟨_,_,_,o,e,_⟩:=x;exact⟨_,e⟩
 |dK kvs=>obtain⟨_,_,_,_,o,_,_,e,_⟩:=x;exact⟨_,e⟩
 |dT kvs=>obtain⟨_,_,_,_,o,_,_,e,_⟩:=x;exact⟨_,e⟩
 |set S n=>obtain⟨o,_,_,_,e,_⟩:=x;exact⟨_,e⟩
 |ins C dx fs=>obtain⟨_,_,_,e,_⟩:=x;exact⟨_,e⟩
 |own y=>exact x
 |xd fs=>obtain⟨_,⟨_,_,_,e,_⟩,_⟩:=x;exact⟨_,e⟩
 |rng lo hi=>obtain⟨_,_,_,e⟩:=x;exact⟨_,e⟩
 |frz ob u=>obtain⟨e,_⟩:=x;exact⟨_,e⟩
 |tbl ps=>exact⟨_,(show h.get? a=some _ from x)⟩
 |met f y=>exact⟨_,(show h.get? a=some _ from x)⟩
 |ext φ=>obtain⟨_,e,_⟩:=x;exact e
noncomputable def kF(X:Cx)(H:Hp)(b:KI):Prop:=((∃o,X.s₀.heap.get? b=some o)/\b∉X.ex)\/H b≠none\/(∃o,(b,o)∈X.pn)\/∃x,X.env.cells.lookup x=some b
noncomputable def Gz(B:KR)(e:KI)(cls a0:KG)(h:KR):Prop:=h.TracedW B e cls a0\/∃oe vs,h.get? e=some oe/\oe.cls=cls/\oe.data=.fields vs/\vs[1]?=some .none/\vs[0]?=some a0
noncomputable def Ds(X:Cx)(H:Hp)(s:KN)(e C:KI)(dx:Option KI):Prop:=(∀oe,s.heap.get? e=some oe->oe.dict=dx)/\∃B a0,B.StaysIn s.heap/\B.get? e=none/\s.heap.FunFrames B X.stack/\Gz B e (.ref C) a0 s.heap/\∀b o,s.heap.get? b=some o->kF X H b->b∉frs X.stack->B.get? b=some o
noncomputable def Gv(X:Cx)(H:Hp)(O:ah)(s:KN)(u:KG)(x:Ex):Prop:=∃e C dx,u=.ref e/\DJ X.K (hid H O) x C dx/\Ds X H s e C dx
noncomputable def kI(P:KP)(w:KO):v0:=λouter H s E u s'=>∃e C dx H' B a0,u=.ref e/\(∀oe,s'.heap.get? e=some oe->oe.dict=dx)/\s'.os=s.os/\AllBare s'.gens/\Un (frs outer) [] H H' s.heap s'.heap/\jV P w H' s'.heap/\Kj B outer e (.ref C) a0 s'.heap/\
 (∀b o,s'.heap.get? b=some o->((∃o',s.heap.get? b=some o')\/H' b≠none)->b∉frs outer->B.get? b=some o)/\E (.ref C) dx H'
noncomputable def Fa(K:J1)(H:Hp)(O:ah)(x:Ex)(E:XK):Prop:=∀C dx H',aD H H'->DJ K (hid H' O) x C dx->E (.ref C) dx H'
noncomputable def C9(X:Cx)(σ:St)(O:ah)(H:Hp)(x:Ex):Prop:=∀pins s u H',Inv X pins σ H' s->aD H H'->Gv X H' O s u x->X.xe u s
theorem C9.mono{X:Cx}{σ:St}{O:ah}{H H':Hp}{x:Ex}(h:C9 X σ O H x)(s:aD H H'):C9 X σ O H' x:=λpins st u H2 I s2 f=>h pins st u H2 I (s.trans s2) f
noncomputable def x6(X:Cx)(O:ah)(H:Hp)(x:Ex):XK:=λu dx H'=>∃C,u=.ref C/\aD H H'/\DJ X.K (hid H' O) x C dx
noncomputable def i7(CX:v0)(X:Cx)(σ:St)(E:XK):Prop:=∀(pins:aH)(H:Hp)(s:KN)(e:KG)(s':KN),Inv X pins σ H s->CX X.stack H s E e s'->X.xe e s'
theorem z6{X:Cx}{σ:St}{O:ah}{H:Hp}{x:Ex}(h:C9 X σ O H x):i7 (kI X.prog X.w) X σ (x6 X O H x):=by
 rintro pins H1 s u s' I ⟨e,C,dx,H',B,a0,rfl,hdx,os,bare,un,hok,⟨f1,f2,f3,f4⟩,kp,C',eC,sm,hd⟩;cases eC;have I':Inv X pins σ H' s':=I.call' os un hok bare (ch:=[]) λb z=>absurd z (by simp);refine h pins s' _ H' I' sm ⟨e,C,dx,rfl,hd,hdx,B,a0,f1,f2,f3,.inl f4,λb o eb hb nf=>kp b o eb ?_ nf⟩;rcases hb with⟨⟨o',hb⟩,nx⟩|hb|⟨o',hb⟩|⟨y,hb⟩
 ·exact .inl (I.base.there b o' hb nx)
 ·exact .inr hb
 ·exact .inl ⟨_,(I.pin _ (Hc _ hb)).1⟩
 ·obtain⟨v,o,q,_⟩:=I.cell y b hb;exact .inl ⟨o,q⟩
theorem zP{X:Cx}{σ:St}:i7 (kI X.prog X.w) X σ E0:=λ_ _ _ _ _ _ h=>by
 obtain⟨_,_,_,_,_,_,_,_,_,_,_,_,_,_,z⟩:=h;exact z.elim
theorem wn{X:Cx}{O:ah}{H:Hp}{x:Ex}:Fa X.K H O x (x6 X O H x):=λC dx H' s e=>⟨C,rfl,s,e⟩
section
variable{X:Cx}{pins:aH}{σ:St}{H:Hp}{s:KN}{h':KR}
theorem zU(I:`h)(k:∀b o,s.heap.get? b=some o->kF X H b->b∉frs X.stack->h'.get? b=some o):jV X.prog X.w H h':=λa ob ea=>
 (I.hok a ob ea).stay (λb u hb q=>by
  have hn:H b≠none:=by
   rcases hb with e|e
   ·rw[e,ea];intro z;cases z
   ·rw[e];intro z;cases z
  exact k b u q (.inr (.inl hn)) λhf=>hn (I.stkFree b hf)) (λ_ q=>q) λ_ _ q=>q
theorem nE(I:`h)(us:s.heap.UpToSlots h'){b:KI}{o:Obj}(hb:b∈frs X.stack)(e:s.heap.get? b=some o):∃sl,h'.get? b=some {o with slots:=sl}:=by
 obtain⟨_,o',e',nf⟩:=I.stack.mem hb;rw[e]at e';cases e';exact us b o e nf
theorem Ba(I:`h)(hx:X.ex=[])(hst:X.stack=X.env::X.outer)(hf:X.env.frame=some X.env.locals)(us:s.heap.UpToSlots h')(k:∀b o,s.heap.get? b=some o->kF X H b->b∉frs X.stack->h'.get? b=some o):
  Un (frs X.outer) [] X.H₀ H X.s₀.heap h':=by
 have U:=I.base;rw[hx]at U;have fr:frs X.stack=X.env.locals::frs X.outer:=by rw[hst];show List.filterMap _ (_::_)=_;rw[G8,hf];rfl
 have nl:∀b o,X.s₀.heap.get? b=some o->b≠X.env.locals:=λb o q z=>by
  have h1:=Kc q;have h2:=I.ok.above;rw[z]at h1;exact G1 _ (G0 h1 h2)
 have nfr:∀b o,X.s₀.heap.get? b=some o->b∉frs X.outer->b∉frs X.stack:=λb o q nb z=>by
  rw[fr]at z;rcases List.mem_cons.mp z with z|z
  ·exact nl b o q z
  ·exact nb z
 refine⟨λb o q n nb _=>k b o (U.keep b o q n nb (by simp)) (.inl ⟨⟨o,q⟩,by rw[hx];simp⟩) (nfr b o q nb),λb o q n hb _=>?_,λb o q n _=>U.free b o q n (by simp),λb o q _=>?_,U.tups,U.frzs,U.tbls⟩
 ·obtain⟨sl,e⟩:=U.slot b o q n hb (by simp);obtain⟨sl',e'⟩:=nE I us (by rw[fr];exact Ha _ hb) e;exact⟨sl',e'⟩
 ·obtain⟨o1,e1⟩:=U.there b o q (by simp);by_cases hb:b∈frs X.stack
  ·obtain⟨sl,e⟩:=nE I us hb e1;exact⟨_,e⟩
  ·exact⟨o1,k b o1 e1 (.inl ⟨⟨o,q⟩,by rw[hx];simp⟩) hb⟩
end
theorem Bi{P:KP}{w:KO}{K:J1}{mg:cF}{base:KR}{N:aK}{qual:Str}{scope:KZ}{f:KI}{cd:KG}{A:KY}{outer:List Env}{s:KN}{H:Hp}{E:XK}{σ:St}{O O':ah}{H':Hp}{x:Ex}
  (hx:Fa K H O x E) (sm:aD H H') (hs:∀a∈O,a∈O'):C9 (iy (kI P w) P w K mg base N qual scope f cd A outer s H E) σ O' H' x:=by
 rintro pins s1 u H1 I s2 ⟨e,C,dx,rfl,hd,hdx,B,a0,b1,b2,b3,b4,b5⟩;have fin:∀h',Kj B outer e (.ref C) a0 h'->s1.heap.UpToSlots h'->DS s1.heap h'->kI P w outer H s E (.ref e) {s1 with heap:=h'}:=λh' fl us ds=>by
  have k:∀b o,s1.heap.get? b=some o->kF (iy (kI P w) P w K mg base N qual scope f cd A outer s H E) H1 b->b∉frs (iy (kI P w) P w K mg base N qual scope f cd A outer s H E).stack->h'.get? b=some o:=λb o q kb nf=>fl.1 b o (b5 b o q kb nf);have un:=Ba I rfl rfl rfl us k;have hok:=zU I k;refine⟨e,C,dx,H1,B,a0,rfl,λoe' q=>?_,I.os,I.bare,un,hok,fl,λb o q hb nf=>?_,hx C dx H1 (sm.trans s2) (hd.mono (f9 hs))⟩
  ·obtain⟨oe,q1⟩:∃oe,s1.heap.get? e=some oe:=by
    rcases b4 with⟨oe,_,_,_,_,h1,_⟩|⟨oe,_,h1,_⟩
    ·exact⟨oe,h1⟩
    ·exact⟨oe,h1⟩
   exact(ds.dict q1 q).trans (hdx oe q1)
  have nf2:b∉frs (iy (kI P w) P w K mg base N qual scope f cd A outer s H E).stack:=λz=>by
   rcases List.mem_cons.mp (show b∈s.heap.objs.size::frs outer from z)with z|z
   ·rcases hb with hb|hb
    ·obtain⟨o',hb⟩:=hb
     have:=Kc hb
     rw[z]at this;exact G1 _ this
    ·rw[z]at hb;exact hb I.free
   ·exact nf z
  have kb:kF (iy (kI P w) P w K mg base N qual scope f cd A outer s H E) H1 b:=hb.elim (λz=>.inl ⟨z,λy=>nomatch y⟩) λz=>.inr (.inl z);obtain⟨o1,e1⟩:∃o1,s1.heap.get? b=some o1:=by
   rcases hb with⟨o',hb⟩|hb
   ·exact I.base.there b o' hb (λz=>nomatch z)
   ·cases q0:H1 b with
    |none=>exact absurd q0 hb
    |some ob=>exact CO (I.hok b ob q0)
  have:=k b o1 e1 kb nf2
  rw[q]at this;cases this;exact b5 b _ e1 kb nf2
 show K2 _ _ (leaving (Kp qual scope s.heap.objs.size f cd) (.ref e)) _ _ s1;refine DP.go (rh _ _) (P:=λh'=>Kj B outer e (.ref C) a0 h'/\s1.heap.UpToSlots h') ?_ λh' z ds=>fin h' z.1 z.2 ds;rcases b4 with b4|⟨oe,vs,c1,c2,c3,c4,c5⟩
 ·exact wpAny_leaves_onW I.ok.frames rfl ⟨b1,b2,b3,b4⟩ λh' fl us=>⟨h',rfl,fl,us⟩
 ·refine wpAny_leaving_firstW I.ok.frames b3 rfl c1 b1 b2 c3 c4 c5 λh' hL=>?_;obtain⟨k1,⟨_,_,k2⟩,k3,k4⟩:=hL;exact⟨h',rfl,⟨k1,b2,k2,c2 ▸ k3⟩,k4⟩
end TG
namespace TG
open PySem PySem.Spec L2
variable[aj]
noncomputable def gk(X:Cx)(σ:St)(O:ah)(H:Hp){α:Type}(r:R α)(Q:α->Prop):Prop:=match r with
 |.ok a=>Q a
 |.error (some x)=>C9 X σ O H x
 |.error none=>False
section
variable{X:Cx}{σ:St}{O:ah}{H H':Hp}{α β:Type}
theorem gk.bind{r:R α}{G:α->R β}{Q:β->Prop}(h:gk X σ O H (r.bind G) Q):gk X σ O H r λa=>gk X σ O H (G a) Q:=by
 match r,h with
 |.ok a,h=>exact h
 |.error (some x),h=>exact h
 |.error none,h=>exact h
theorem gk.imp{r:R α}{Q Q':α->Prop}(h:gk X σ O H r Q)(f:∀a,Q a->Q' a):gk X σ O H r Q':=by
 match r,h with
 |.ok a,h=>exact f a h
 |.error (some x),h=>exact h
 |.error none,h=>exact h
theorem gk.mono{r:R α}{Q:α->Prop}(h:gk X σ O H r Q)(s:aD H H'):gk X σ O H' r Q:=by
 match r,h with
 |.ok a,h=>exact h
 |.error (some x),h=>exact C9.mono h s
 |.error none,h=>exact h
theorem gk.rO{o:Option α}{Q:α->Prop}(h:gk X σ O H (rO o) Q):∃a,o=some a/\Q a:=by
 match o,h with
 |some a,h=>exact⟨a,rfl,h⟩
 |none,h=>exact h.elim
end
noncomputable abbrev FX:=af->R D
noncomputable def tF(X:Cx)(F:FX):TE:=λσ H Q=>∃O ρ,bX X.K O H ρ σ/\gk X σ O H (F ρ) λd=>∀v H',aD H H'->bH X.K (hid H' O) d v->Q v H'
noncomputable def EH(X:Cx)(F:aZ):TT:=λσ H Q=>∃O ρ,bX X.K O H ρ σ/\gk X σ O H (F ρ) λb=>∀H',aD H H'->Q b H'
noncomputable def Fy(X:Cx)(F:aL):TA:=λσ H Q=>∃O ρ,bX X.K O H ρ σ/\gk X σ O H (F ρ) λds=>∀vs H',aD H H'->av X.K (hid H' O) ds vs->Q vs H'
noncomputable def FE(X:Cx)(e:KJ)(F:FX):Prop:=PE X e (tF X F)
noncomputable def FT(X:Cx)(e:KJ)(F:aZ):Prop:=PT X e (EH X F)
noncomputable def FW(X:Cx)(e:KJ)(F:aZ):Prop:=PW X e (EH X F)
noncomputable def FA(X:Cx)(es:aY)(F:aL):Prop:=PA X es (Fy X F)
theorem PE.weak{X:Cx}{e:KJ}{t t':TE}(h:PE X e t)(w:∀σ H Q,t' σ H Q->t σ H Q):PE X e t':=λpins s σ H Q I q=>h pins s σ H Q I (w σ H Q q)
theorem PT.weak{X:Cx}{e:KJ}{t t':TT}(h:PT X e t)(w:∀σ H Q,t' σ H Q->t σ H Q):PT X e t':=λpins s σ H Q I q=>h pins s σ H Q I (w σ H Q q)
theorem PW.weak{X:Cx}{e:KJ}{t t':TT}(h:PW X e t)(w:∀σ H Q,t' σ H Q->t σ H Q):PW X e t':=λwhole pins s σ H Q I q=>h whole pins s σ H Q I (w σ H Q q)
theorem PA.weak{X:Cx}{es:aY}{t t':TA}(h:PA X es t)(w:∀σ H Q,t' σ H Q->t σ H Q):PA X es t':=λpos pins s σ H Q I q=>h pos pins s σ H Q I (w σ H Q q)
theorem PS.weak{X:Cx}{st:KL}{t t':TS}(h:PS X st t)(w:∀D σ H,t' D σ H->t D σ H):PS X st t':=λpins s σ H Q I q=>h pins s σ H Q I (w Q σ H q)
theorem qV.weak{X:Cx}{st:cD}{t t':TS}(h:qV X st t)(w:∀D σ H,t' D σ H->t D σ H):qV X st t':=λpins s σ H Q I q=>h pins s σ H Q I (w Q σ H q)
noncomputable def lT(ρ:af)(i:Nat):R D:=match ρ[i]? with
 |some (some (.val d))=>.ok d
 |_=>un
theorem zV{ρ:af}{i:Nat}{d:D}(h:lT ρ i=.ok d):ρ[i]?=some (some (.val d)):=by
 unfold lT at h;split at h
 ·rename_i e;cases h;exact e
 ·cases h
noncomputable def aa(i:Nat):FX:=λρ=>lT ρ i
noncomputable def fC(d:D):FX:=λ_=>.ok d
section
variable{X:Cx}
theorem uv{σ:St}{O:ah}{H:Hp}{ρ:af}{i:Nat}{Q:D->Prop}(h:gk X σ O H (lT ρ i) Q):∃d,ρ[i]?=some (some (.val d))/\Q d:=by
 cases e:lT ρ i with
 |ok d=>rw[e]at h;exact⟨d,zV e,h⟩
 |error z=>
  rw[e]at h;cases z with
  |none=>exact h.elim
  |some x=>
   exfalso;unfold lT at e;split at e
   ·cases e
   ·have:=Except.error.inj e;cases this
theorem iF{e:KJ}{d:D}{v:V}(h:PE X e (tC v))(hd:∀K H,bH K H d v):FE X e (fC d):=
 PE.weak h λσ H Q zq=>zq.elim λO zq=>zq.elim λρ zq=>zq.elim λE q=>q v H (aD.refl H) (hd _ _)
noncomputable def noStar:KJ->Bool
 |.Starred _ _=>false
 |_=>true
theorem cg{e:KJ}{es:aY}{env:Env}(h:noStar e=true):K3 (e::es) env=(false,eval e env)::K3 es env:=by
 cases e<;>first|rfl|cases h
theorem dC{pos:Pos}{env:Env}:∀{es:aY},es.all noStar=true->(backTo pos (K3 es env)).any (·.1)=false
 |[],_=>rfl
 |e::es,h=>by
  rw[List.all_cons,HB]at h;rw[cg h.1];exact dC h.2
noncomputable def ak:aL:=λ_=>.ok []
noncomputable def ae(f:FX)(g:aL):aL:=λρ=>(f ρ).bind λx=>(g ρ).bind λxs=>.ok (x::xs)
theorem Bs:FA X [] ak:=PA.weak rJ λσ H Q zq=>zq.elim λO zq=>zq.elim λρ zq=>zq.elim λE q=>q [] H (aD.refl H) (bB.mpr rfl)
theorem bind_some{α β:Type}{o:Option α}{f:α->Option β}{b:β}(h:o.bind f=some b):∃a,o=some a/\f a=some b:=by
 cases o with
 |none=>cases h
 |some a=>exact⟨a,rfl,h⟩
theorem kD{ε α β:Type}{o:Except ε α}{f:α->Except ε β}{b:β}(h:o.bind f=.ok b):∃a,o=.ok a/\f a=.ok b:=by
 cases o with
 |error _=>cases h
 |ok a=>exact⟨a,rfl,h⟩
theorem sS{e:KJ}{es:aY}{f:FX}{g:aL}(he:FE X e f)(hs:FA X es g)(hns:noStar e=true:=by rfl):FA X (e::es) (ae f g):=
 PA.weak (kx he hs (cg hns)) λσ H Q ⟨O,ρ,E,h⟩=>
  ⟨O,ρ,E,(gk.bind h).imp λx h v H1 s1 d1=>⟨O,ρ,E.same s1,((gk.bind h).mono s1).imp λxs q vs H2 s2 d2=>q (v::vs) H2 (s1.trans s2) (aI.mpr ⟨v,vs,rfl,d1.mono (aU s2),d2⟩)⟩⟩
noncomputable def small(n:Nat):Bool:=decide (n<=100000)
theorem bY{n:Nat}(h:small n=true):n<=KS:=G3 (of_decide_eq_true h) (by decide)
theorem bW{n:Nat}(h:n<=100000):small n=true:=decide_eq_true h
noncomputable def fS(xs:List D):aQ:=if small xs.length then some (.tup xs)else none
noncomputable def iN(xs:List D):aQ:=if small xs.length then some (.lst xs)else none
noncomputable def dj(g:aL):FX:=λρ=>(g ρ).bind λxs=>rO (fS xs)
noncomputable def j7(g:aL):FX:=λρ=>(g ρ).bind λxs=>rO (iN xs)
theorem aV{α:Type}{c:Bool}{a b:α}(h:(if c then some a else none)=some b):c=true/\a=b:=by
 cases c with
 |true=>exact⟨rfl,Option.some.inj h⟩
 |false=>cases h
theorem dO{K:J1}{H:Hp}{O:ah}{p:KI}{ds:List D}{vs:az}(hO:bL H O)(hp:H p=none)(d:av K (hid H O) ds vs):bH K (hid (upd H p (.tup vs)) O) (.tup ds) (.ref p):=
 bm.mpr ⟨p,vs,rfl,by rw[dR (hO.not hp),ao],d.mono (oB hp)⟩
theorem cY{K:J1}{H:Hp}{O:ah}{p:KI}{ds:List D}{vs:az}(hO:bL H O)(hp:H p=none)(d:av K (hid H O) ds vs):bH K (hid (upd H p (.lst vs)) O) (.lst ds) (.ref p):=
 bn.mpr ⟨p,vs,rfl,jA.of (by rw[dR (hO.not hp),ao]),d.mono (oB hp)⟩
noncomputable def zJ(K:J1)(r:V->Hp->VK->Prop)(g:D->aQ):Prop:=
 ∀(a d:D)(x:V)(O:ah)(H:Hp)(Q:VK),bL H O->g a=some d->bH K (hid H O) a x->(∀v H',aD H H'->bH K (hid H' O) d v->Q v H')->r x H Q
noncomputable def f1(g:D->aQ)(f:FX):FX:=λρ=>(f ρ).bind λa=>rO (g a)
noncomputable def cU(K:J1)(r:R2)(g:D->D->aQ):Prop:=
 ∀(a b d:D)(x y:V)(O:ah)(H:Hp)(Q:VK),bL H O->g a b=some d->bH K (hid H O) a x->bH K (hid H O) b y->(∀v H',aD H H'->bH K (hid H' O) d v->Q v H')->r x y H Q
noncomputable def f2(g:D->D->aQ)(f1 f2:FX):FX:=λρ=>(f1 ρ).bind λa=>(f2 ρ).bind λb=>rO (g a b)
theorem oE{r:R2}{g:D->D->aQ}{fa fb:FX}(s:cU X.K r g):∀σ H Q,tF X (f2 g fa fb) σ H Q->Ed r (tF X fa) (tF X fb) σ H Q:=λσ H Q zq=>zq.elim λO zq=>zq.elim λρ zq=>zq.elim λE hF=>
 ⟨O,ρ,E,(gk.bind hF).imp fun a hF x H1 s1 d1=>⟨O,ρ,E.same s1,((gk.bind hF).mono s1).imp fun b hF y H2 s2 d2=>by
  obtain⟨d,e,q⟩:=gk.rO hF;exact s a b d x y O H2 Q (E.all.same (s1.trans s2)) e (d1.mono (aU s2)) d2 λv H3 s3 d3=>q v H3 ((s1.trans s2).trans s3) d3⟩⟩
noncomputable def Fm:D->Option Bool
 |.bl b=>some b
 |_=>none
noncomputable def fB(f:FX):aZ:=λρ=>(f ρ).bind λd=>rO (Fm d)
theorem wd{t:TE}{f:FX}(h:∀σ H Q,tF X f σ H Q->t σ H Q):∀σ H Q,EH X (fB f) σ H Q->AV t σ H Q:=λσ H Q zq=>zq.elim λO zq=>zq.elim λρ zq=>zq.elim λE hF=>
 h σ H _ ⟨O,ρ,E,(gk.bind hF).imp λd hF v H1 s1 d1=>by
  obtain⟨b,e,q⟩:=gk.rO hF;cases d with
  |bl b'=>
   cases e;exact⟨b,gf.mp d1,q H1 s1⟩
  |_=>cases e⟩
noncomputable def sx(K:J1)(r:az->Hp->VK->Prop)(g:List D->aQ):Prop:=
 ∀(ds:List D)(d:D)(xs:az)(O:ah)(H:Hp)(Q:VK),bL H O->g ds=some d->av K (hid H O) ds xs->(∀v H',aD H H'->bH K (hid H' O) d v->Q v H')->r xs H Q
noncomputable def fL(g:List D->aQ)(f:aL):FX:=λρ=>(f ρ).bind λds=>rO (g ds)
noncomputable def fR(g:List D->R D)(f:aL):FX:=λρ=>(f ρ).bind g
theorem xO{r:az->Hp->VK->Prop}{g:List D->aQ}{f:aL}(s:sx X.K r g):∀σ H Q,tF X (fL g f) σ H Q->Fg r (Fy X f) σ H Q:=λσ H Q zq=>zq.elim λO zq=>zq.elim λρ zq=>zq.elim λE hF=>
 ⟨O,ρ,E,(gk.bind hF).imp fun ds hF vs H1 s1 d1=>by
  obtain⟨d,e,q⟩:=gk.rO hF;exact s ds d vs O H1 Q (E.all.same s1) e d1 λv H2 s2 d2=>q v H2 (s1.trans s2) d2⟩
noncomputable def lQ(f:aZ):aZ:=λρ=>(f ρ).bind λb=>.ok (!b)
noncomputable def FH(f g:aZ):aZ:=λρ=>(f ρ).bind λb=>if b then g ρ else .ok false
noncomputable def yi(f g:aZ):aZ:=λρ=>(f ρ).bind λb=>if b then .ok true else g ρ
variable{a b c:KJ}{rest:aY}{pos:Pos}{f g:aZ}
theorem FW.ft{e:KJ}(h:FW X e f):FT X e f:=PW.pt h
noncomputable def truth:D->Option Bool
 |.non=>some false
 |.bl b=>some b
 |.int i=>some (i !=0)
 |.str x=>if small x.length then some (x.length !=0)else none
 |.tup xs=>some (!xs.isEmpty)
 |.lst xs=>some (!xs.isEmpty)
 |_=>none
noncomputable def dU(f:FX):aZ:=λρ=>(f ρ).bind λd=>rO (truth d)
noncomputable def qT(d:D)(k:R D):R D:=match d with
 |.bl true=>k
 |.bl false=>.ok (.bl false)
 |_=>un
noncomputable def Ef(d:D)(k:R D):R D:=match d with
 |.bl false=>k
 |.bl true=>.ok (.bl true)
 |_=>un
noncomputable def CC:D->aQ
 |.bl b=>some (.bl (!b))
 |_=>none
noncomputable def Eh(f g:FX):FX:=λρ=>(f ρ).bind λd=>qT d (g ρ)
noncomputable def Fz(f g:FX):FX:=λρ=>(f ρ).bind λd=>Ef d (g ρ)
noncomputable def Es(f:FX):FX:=f1 CC f
variable{fa fb:FX}
noncomputable def GI(t:aZ)(f g:FX):FX:=λρ=>(t ρ).bind λc=>if c then f ρ else g ρ
end
end TG
namespace TG
open PySem PySem.Spec L2
variable[aj]
open PySem.SeqAt (EqAt RcAt RcNeAt)
mutual
noncomputable def pyEq:D->D->Bool
 |.non,.non=>true
 |.bl a,.bl b=>a==b
 |.bl a,.int b=>(if a then 1 else 0)==b
 |.int a,.bl b=>a==(if b then 1 else 0)
 |.int a,.int b=>a==b
 |.str a,.str b=>a==b
 |.tup xs,.tup ys=>gn xs ys
 |.lst xs,.lst ys=>gn xs ys
 |.dct _ _,.dct _ _=>true
 |.obj _ _ _,.obj _ _ _=>true
 |.exc _ _ _,.exc _ _ _=>true
 |_,_=>false
noncomputable def gn:List D->List D->Bool
 |[],[]=>true
 |x::xs,y::ys=>pyEq x y&&gn xs ys
 |_,_=>false
end
mutual
theorem eN:∀d:D,pyEq d d=true
 |.non=>by unfold pyEq;rfl
 |.bl b=>by unfold pyEq;simp
 |.int i=>by unfold pyEq;simp
 |.str x=>by unfold pyEq;simp
 |.tup xs=>by unfold pyEq;exact iw xs
 |.lst xs=>by unfold pyEq;exact iw xs
 |.dct _ _=>by unfold pyEq;rfl
 |.obj _ _ _=>by unfold pyEq;rfl
 |.exc _ _ _=>by unfold pyEq;rfl
theorem iw:∀ds:List D,gn ds ds=true
 |[]=>by unfold gn;rfl
 |d::ds=>by unfold gn;rw[eN d,iw ds];rfl
end
noncomputable def qI(xs ys:List D)(j:Nat):Bool:=match xs[j]?,ys[j]? with
 |some a,some b=>pyEq a b
 |_,_=>false
theorem cR:∀xs ys:List D,((List.range (min xs.length ys.length)).all (qI xs ys)&&xs.length==ys.length)=gn xs ys
 |[],[]=>by unfold gn;rfl
 |[],_::_=>by unfold gn;simp
 |_::_,[]=>by unfold gn;simp
 |x::xs,y::ys=>by
  have ih:=cR xs ys
  conv=>rhs;unfold gn
  rw[<-ih];have e:min (x::xs).length (y::ys).length=min xs.length ys.length+1:=by simp only[HK];omega
  rw[e,List.range_succ_eq_map,List.all_cons,List.all_map];have e2:((x::xs).length==(y::ys).length)=(xs.length==ys.length):=by simp
  rw[e2,Bool.and_assoc];have e3:(List.range (min xs.length ys.length)).all (qI (x::xs) (y::ys)∘Nat.succ)=(List.range (min xs.length ys.length)).all (qI xs ys):=by
   congr 1
  rw[e3];rfl
mutual
noncomputable def pl:D->Bool
 |.tup xs=>pW xs
 |.lst xs=>pW xs
 |.dct _ _=>false
 |.obj _ _ _=>false
 |.exc _ _ _=>false
 |_=>true
noncomputable def pW:List D->Bool
 |[]=>true
 |x::xs=>pl x&&pW xs
end
theorem cH{ks vs:List D}(h:pl (.dct ks vs)=true):False:=by unfold pl at h;cases h
theorem cS{c:Str}{fs:aK}{vs:List D}(h:pl (.obj c fs vs)=true):False:=by unfold pl at h;cases h
theorem cP{c:Str}{fs:aK}{vs:List D}(h:pl (.exc c fs vs)=true):False:=by unfold pl at h;cases h
theorem iG:∀{xs:List D},pW xs=true->∀x∈xs,pl x=true
 |[],_,_,h=>nomatch h
 |x::xs,h,y,hy=>by
  unfold pW at h;rw[HB]at h;rcases List.mem_cons.mp hy with z|z
  ·rw[z];exact h.1
  ·exact iG h.2 y z
theorem vN:∀{xs:List D},(∀x∈xs,pl x=true)->pW xs=true
 |[],_=>by unfold pW;rfl
 |x::xs,h=>by
  unfold pW;rw[HB];exact⟨h x G9,vN λy hy=>h y (Ha _ hy)⟩
theorem b7{xs:List D}:pl (.tup xs)=pW xs:=by rw[pl]
theorem b8{xs:List D}:pl (.lst xs)=pW xs:=by rw[pl]
noncomputable def bR:Nat->D->Bool
 |n+1,.tup xs=>xs.all (bR n)
 |n+1,.lst xs=>xs.all (bR n)
 |0,.tup _=>false
 |0,.lst _=>false
 |_,.dct _ _=>false
 |_,.obj _ _ _=>false
 |_,.exc _ _ _=>false
 |_,_=>true
section
variable{X:Cx}{pins:aH}{σ:St}{H:Hp}{s:KN}
theorem Inv.not_both(I:`h){a:KI}{xs ys:az}(h:nV X.K H a xs)(h':jA X.K H a ys):False:=by
 obtain⟨its,_,ht,_⟩:=I.tuple h;obtain⟨its2,_,hl,_⟩:=I.list h';exact absurd rfl (SeqAt.ne_of_list_tuple hl.isList (show s.heap.IsTuple a its.toArray from ht))
mutual
theorem Inv.den_inj(I:`h):∀{a b:D}{v:V},pl a=true->pl b=true->bH X.K H a v->bH X.K H b v->a=b
 |.non,b,v,pa,pb,h,h'=>by
  rw[fG]at h;subst h;cases b with
  |non=>rfl
  |bl _=>rw[gf]at h';cases h'
  |int _=>rw[cX]at h';cases h'
  |str _=>rw[cA]at h';cases h'
  |tup _=>rw[bm]at h';obtain⟨_,_,e,_⟩:=h';cases e
  |lst _=>rw[bn]at h';obtain⟨_,_,e,_⟩:=h';cases e
  |dct _ _=>exact(cH pb).elim
  |obj _ _ _=>exact(cS pb).elim
  |exc _ _ _=>exact(cP pb).elim
 |.bl x,b,v,pa,pb,h,h'=>by
  rw[gf]at h;subst h;cases b with
  |non=>rw[fG]at h';cases h'
  |bl _=>rw[gf]at h';cases h';rfl
  |int _=>rw[cX]at h';cases h'
  |str _=>rw[cA]at h';cases h'
  |tup _=>rw[bm]at h';obtain⟨_,_,e,_⟩:=h';cases e
  |lst _=>rw[bn]at h';obtain⟨_,_,e,_⟩:=h';cases e
  |dct _ _=>exact(cH pb).elim
  |obj _ _ _=>exact(cS pb).elim
  |exc _ _ _=>exact(cP pb).elim
 |.int x,b,v,pa,pb,h,h'=>by
  rw[cX]at h;subst h;cases b with
  |non=>rw[fG]at h';cases h'
  |bl _=>rw[gf]at h';cases h'
  |int _=>rw[cX]at h';cases h';rfl
  |str _=>rw[cA]at h';cases h'
  |tup _=>rw[bm]at h';obtain⟨_,_,e,_⟩:=h';cases e
  |lst _=>rw[bn]at h';obtain⟨_,_,e,_⟩:=h';cases e
  |dct _ _=>exact(cH pb).elim
  |obj _ _ _=>exact(cS pb).elim
  |exc _ _ _=>exact(cP pb).elim
 |.str x,b,v,pa,pb,h,h'=>by
  rw[cA]at h;subst h;cases b with
  |non=>rw[fG]at h';cases h'
  |bl _=>rw[gf]at h';cases h'
  |int _=>rw[cX]at h';cases h'
  |str _=>rw[cA]at h';cases h';rfl
  |tup _=>rw[bm]at h';obtain⟨_,_,e,_⟩:=h';cases e
  |lst _=>rw[bn]at h';obtain⟨_,_,e,_⟩:=h';cases e
  |dct _ _=>exact(cH pb).elim
  |obj _ _ _=>exact(cS pb).elim
  |exc _ _ _=>exact(cP pb).elim
 |.tup xs,b,v,pa,pb,h,h'=>by
  rw[bm]at h;obtain⟨a,vs,e,h1,h2⟩:=h;subst e;cases b with
  |non=>rw[fG]at h';cases h'
  |bl _=>rw[gf]at h';cases h'
  |int _=>rw[cX]at h';cases h'
  |str _=>rw[cA]at h';cases h'
  |tup ys=>
   rw[bm]at h';obtain⟨a',vs',e,h1',h2'⟩:=h';cases e;have ev:=I.tuple_inj (nV.of h1) (nV.of h1');subst ev;rw[Inv.denL_inj I (by first|rw[<-b7];exact pa|rw[<-b8];exact pa) (by first|rw[<-b7];exact pb|rw[<-b8];exact pb) h2 h2']
  |lst _=>rw[bn]at h';obtain⟨_,_,e,h1',_⟩:=h';cases e;exact(Inv.not_both I (nV.of h1) h1').elim
  |dct _ _=>exact(cH pb).elim
  |obj _ _ _=>exact(cS pb).elim
  |exc _ _ _=>exact(cP pb).elim
 |.lst xs,b,v,pa,pb,h,h'=>by
  rw[bn]at h;obtain⟨a,vs,e,h1,h2⟩:=h;subst e;cases b with
  |non=>rw[fG]at h';cases h'
  |bl _=>rw[gf]at h';cases h'
  |int _=>rw[cX]at h';cases h'
  |str _=>rw[cA]at h';cases h'
  |lst ys=>
   rw[bn]at h';obtain⟨a',vs',e,h1',h2'⟩:=h';cases e;have ev:=I.list_inj h1 h1';subst ev;rw[Inv.denL_inj I (by first|rw[<-b7];exact pa|rw[<-b8];exact pa) (by first|rw[<-b7];exact pb|rw[<-b8];exact pb) h2 h2']
  |tup _=>rw[bm]at h';obtain⟨_,_,e,h1',_⟩:=h';cases e;exact(Inv.not_both I (nV.of h1') h1).elim
  |dct _ _=>exact(cH pb).elim
  |obj _ _ _=>exact(cS pb).elim
  |exc _ _ _=>exact(cP pb).elim
 |.dct _ _,_,_,pa,_,_,_=>(cH pa).elim
 |.obj _ _ _,_,_,pa,_,_,_=>(cS pa).elim
 |.exc _ _ _,_,_,pa,_,_,_=>(cP pa).elim
theorem Inv.denL_inj(I:`h):∀{as bs:List D}{vs:az},pW as=true->pW bs=true->av X.K H as vs->av X.K H bs vs->as=bs
 |[],bs,vs,pa,pb,h,h'=>by
  rw[bB]at h;subst h;cases bs with
  |nil=>rfl
  |cons b bs=>rw[aI]at h';obtain⟨_,_,e,_⟩:=h';cases e
 |a::as,bs,vs,pa,pb,h,h'=>by
  rw[aI]at h;obtain⟨v,r,e,h1,h2⟩:=h;subst e;cases bs with
  |nil=>rw[bB]at h';cases h'
  |cons b bs=>
   rw[aI]at h';obtain⟨v',r',e,h1',h2'⟩:=h';cases e;unfold pW at pa pb;rw[HB]at pa pb;rw[Inv.den_inj I pa.1 pb.1 h1 h1',Inv.denL_inj I pa.2 pb.2 h2 h2']
end
noncomputable def iq:D->Option V
 |.non=>some .non
 |.bl b=>some (.bl b)
 |.int i=>some (.int i)
 |.str x=>some (.str x)
 |_=>none
theorem jx{K:J1}{d:D}{v x:V}(h:iq d=some x)(hd:bH K H d v):v=x/\xh x=true:=by
 cases d with
 |non=>cases h;exact⟨fG.mp hd,rfl⟩
 |bl b=>cases h;exact⟨gf.mp hd,rfl⟩
 |int i=>cases h;exact⟨cX.mp hd,rfl⟩
 |str y=>cases h;exact⟨cA.mp hd,rfl⟩
 |_=>cases h
theorem zH{a b:D}{x y:V}(ha:iq a=some x)(hb:iq b=some y):Fp x y=pyEq a b:=by
 cases a<;>cases ha<;>cases b<;>cases hb<;>(unfold pyEq Fp;rfl)
theorem pB{a:D}{x:V}(n:Nat)(h:iq a=some x):bR n a=true:=by
 cases a with
 |tup _=>cases h
 |lst _=>cases h
 |dct _ _=>cases h
 |obj _ _ _=>cases h
 |exc _ _ _=>cases h
 |_=>cases n<;>rfl
theorem pV{a:D}(h:iq a=none):bR 0 a=false:=by
 cases a with
 |tup _=>rfl
 |lst _=>rfl
 |dct _ _=>rfl
 |obj _ _ _=>rfl
 |exc _ _ _=>rfl
 |_=>cases h
theorem in1_units(A:KY):A.in1.units=A.units+1:=rfl
theorem ku{vs:az}{us:aC}(r:Vals vs us){j:Nat}(h:j<us.toArray.size):∃x,vs[j]?=some x/\RelV x us.toArray[j]:=by
 have hj:j<us.length:=by simpa using h
 have hl:=r.length;have hv:j<vs.length:=by omega
 obtain⟨u,e,ru⟩:=r.get (i:=j) (x:=vs[j]) (by simp[hv]);refine⟨vs[j],by simp[hv],?_⟩;have e2:us.toArray[j]=u:=by
  rw[Ia hj]at e
  simpa using Option.some.inj e
 rw[e2];exact ru
theorem km{K:J1}{ds:List D}{vs:az}(h:av K H ds vs){j:Nat}{x:V}(e:vs[j]?=some x):∃d,ds[j]?=some d/\bH K H d x:=by
 have hj:j<vs.length:=(List.getElem?_eq_some_iff.mp e).1;have hl:=h.length;have hd:j<ds.length:=by omega
 obtain⟨v,e1,e2⟩:=h.get (i:=j) (d:=ds[j]) (by simp[hd]);rw[e]at e1;cases e1;exact⟨ds[j],by simp[hd],e2⟩
theorem Cd(I:`h):∀(n:Nat)(a b:D)(x y:V)(u v:KG)(A:KY),pl a=true->pl b=true->(bR n a=true\/bR n b=true)->bH X.K H a x->bH X.K H b y->RelV x u->RelV y v->A.units+n<Ln->EqAt A s u v (pyEq a b):=by
 intro n
 induction n with
 |zero=>
  intro a b x y u v A pa pb hd ha hb ru rv hA;have hu:A.units<Ln:=hA;cases ha':iq a with
  |some x'=>
   obtain⟨e,f⟩:=jx ha' ha;subst e;cases hb':iq b with
   |some y'=>
    obtain⟨e,f'⟩:=jx hb' hb;subst e;rw[<-zH ha' hb'];exact CL ru rv f f'
   |none=>
    cases b with
    |tup ys=>
     rw[bm]at hb;obtain⟨p,vs,e,h1,h2⟩:=hb;subst e;cases rv;obtain⟨its,_,ht,_⟩:=I.tuple (nV.of h1);have ht':s.heap.IsTuple p its.toArray:=ht;cases a with
     |non=>cases ha';cases ru;unfold pyEq;exact .none_tuple ht' hu
     |bl z=>cases ha';cases ru;unfold pyEq;exact .bool_tuple z ht' hu
     |int z=>cases ha';obtain⟨t,rfl⟩:=ru;unfold pyEq;exact .int_tuple z t ht' hu
     |str z=>cases ha';obtain⟨t,rfl⟩:=ru;unfold pyEq;exact .str_tuple z t ht' hu
     |_=>cases ha'
    |lst ys=>
     rw[bn]at hb;obtain⟨p,vs,e,h1,h2⟩:=hb;subst e;cases rv;obtain⟨its,_,ht,_⟩:=I.list h1;have ht':s.heap.IsList p its.toArray:=ht.isList;cases a with
     |non=>cases ha';cases ru;unfold pyEq;exact .none_list ht' hu
     |bl z=>cases ha';cases ru;unfold pyEq;exact .bool_list z ht' hu
     |int z=>cases ha';obtain⟨t,rfl⟩:=ru;unfold pyEq;exact .int_list z t ht' hu
     |str z=>cases ha';obtain⟨t,rfl⟩:=ru;unfold pyEq;exact .str_list z t ht' hu
     |_=>cases ha'
    |dct _ _=>exact(cH pb).elim
    |obj _ _ _=>exact(cS pb).elim
    |exc _ _ _=>exact(cP pb).elim
    |_=>cases hb'
  |none=>
   have hdb:bR 0 b=true:=by
    rcases hd with hd|hd
    ·rw[pV ha']at hd;cases hd
    ·exact hd
   cases hb':iq b with
   |none=>rw[pV hb']at hdb;cases hdb
   |some y'=>
    obtain⟨e,f'⟩:=jx hb' hb;subst e;cases a with
    |tup xs=>
     rw[bm]at ha;obtain⟨p,vs,e,h1,h2⟩:=ha;subst e;cases ru;obtain⟨its,_,ht,_⟩:=I.tuple (nV.of h1);have ht':s.heap.IsTuple p its.toArray:=ht;cases b with
     |non=>cases hb';cases rv;unfold pyEq;exact .tuple_none ht' hu
     |bl z=>cases hb';cases rv;unfold pyEq;exact .tuple_bool z ht' hu
     |int z=>cases hb';obtain⟨t,rfl⟩:=rv;unfold pyEq;exact .tuple_int z t ht' hu
     |str z=>cases hb';obtain⟨t,rfl⟩:=rv;unfold pyEq;exact .tuple_str z t ht' hu
     |_=>cases hb'
    |lst xs=>
     rw[bn]at ha;obtain⟨p,vs,e,h1,h2⟩:=ha;subst e;cases ru;obtain⟨its,_,ht,_⟩:=I.list h1;have ht':s.heap.IsList p its.toArray:=ht.isList;cases b with
     |non=>cases hb';cases rv;unfold pyEq;exact .list_none ht' hu
     |bl z=>cases hb';cases rv;unfold pyEq;exact .list_bool z ht' hu
     |int z=>cases hb';obtain⟨t,rfl⟩:=rv;unfold pyEq;exact .list_int z t ht' hu
     |str z=>cases hb';obtain⟨t,rfl⟩:=rv;unfold pyEq;exact .list_str z t ht' hu
     |_=>cases hb'
    |dct _ _=>exact(cH pa).elim
    |obj _ _ _=>exact(cS pa).elim
    |exc _ _ _=>exact(cP pa).elim
    |_=>cases ha'
 |succ n ih=>
  intro a b x y u v A pa pb hd ha hb ru rv hA;have hu:A.units<Ln:=by omega
  have flatWay:(∀xs ys,¬(a=.tup xs/\b=.tup ys))->(∀xs ys,¬(a=.lst xs/\b=.lst ys))->EqAt A s u v (pyEq a b):=by
   intro n1 n2;cases ha':iq a with
   |some x'=>exact ih a b x y u v A pa pb (.inl (pB n ha')) ha hb ru rv `o
   |none=>
    cases hb':iq b with
    |some y'=>exact ih a b x y u v A pa pb (.inr (pB n hb')) ha hb ru rv `o
    |none=>
     cases a with
     |tup xs=>
      cases b with
      |tup ys=>exact absurd ⟨rfl,rfl⟩ (n1 xs ys)
      |lst ys=>
       rw[bm]at ha;obtain⟨p,vs,e,h1,h2⟩:=ha;subst e;rw[bn]at hb;obtain⟨p',vs',e,h1',h2'⟩:=hb;subst e;cases ru;cases rv;obtain⟨its,_,ht,_⟩:=I.tuple (nV.of h1);obtain⟨its2,_,ht2,_⟩:=I.list h1';unfold pyEq;exact .tuple_list (show s.heap.IsTuple p its.toArray from ht) ht2.isList hu
      |dct _ _=>exact(cH pb).elim
      |obj _ _ _=>exact(cS pb).elim
      |exc _ _ _=>exact(cP pb).elim
      |_=>cases hb'
     |lst xs=>
      cases b with
      |lst ys=>exact absurd ⟨rfl,rfl⟩ (n2 xs ys)
      |tup ys=>
       rw[bn]at ha;obtain⟨p,vs,e,h1,h2⟩:=ha;subst e;rw[bm]at hb;obtain⟨p',vs',e,h1',h2'⟩:=hb;subst e;cases ru;cases rv;obtain⟨its,_,ht,_⟩:=I.list h1;obtain⟨its2,_,ht2,_⟩:=I.tuple (nV.of h1');unfold pyEq;exact .list_tuple ht.isList (show s.heap.IsTuple p' its2.toArray from ht2) hu
      |dct _ _=>exact(cH pb).elim
      |obj _ _ _=>exact(cS pb).elim
      |exc _ _ _=>exact(cP pb).elim
      |_=>cases hb'
     |dct _ _=>exact(cH pa).elim
     |obj _ _ _=>exact(cS pa).elim
     |exc _ _ _=>exact(cP pa).elim
     |_=>cases ha'
  have items:∀(xs ys:List D)(vs vs':az)(its its':aC),pW xs=true->pW ys=true->(bR (n+1) (.tup xs)=true\/bR (n+1) (.tup ys)=true)->av X.K H xs vs->av X.K H ys vs'->Vals vs its->Vals vs' its'->
    ∀j (h1:j<its.toArray.size) (h2:j<its'.toArray.size),EqAt A.in1 s its.toArray[j] its'.toArray[j] (qI xs ys j):=by
   intro xs ys vs vs' its its' px py hdd hx hy rx ry j h1 h2;obtain⟨w1,e1,r1⟩:=ku rx h1;obtain⟨w2,e2,r2⟩:=ku ry h2;obtain⟨d1,f1,g1⟩:=km hx e1;obtain⟨d2,f2,g2⟩:=km hy e2;have e3:qI xs ys j=pyEq d1 d2:=(by unfold qI;rw[f1,f2]);rw[e3];refine ih d1 d2 w1 w2 _ _ A.in1 (iG px _ (Hv f1)) (iG py _ (Hv f2)) ?_ g1 g2 r1 r2 (by rw[in1_units];omega);rcases hdd with hdd|hdd
   ·exact .inl (List.all_eq_true.mp hdd d1 (Hv f1))
   ·exact .inr (List.all_eq_true.mp hdd d2 (Hv f2))
  by_cases hT:∃xs ys,a=.tup xs/\b=.tup ys
  ·obtain⟨xs,ys,rfl,rfl⟩:=hT;have da:=ha;have db:=hb;rw[bm]at ha hb;obtain⟨p,vs,e,h1,h2⟩:=ha;subst e;obtain⟨p',vs',e,h1',h2'⟩:=hb;subst e;cases ru;cases rv;by_cases hp:p=p'
   ·subst hp;have e:=Inv.den_inj I pa pb da db;rw[e,eN];exact EqAt.same _
   ·obtain⟨its,rv1,ht,_⟩:=I.tuple (nV.of h1);obtain⟨its2,rv2,ht2,_⟩:=I.tuple (nV.of h1');refine EqAt.of_refs hp ?_;have q:=RcAt.tuples (e:=qI xs ys) (show s.heap.IsTuple p its.toArray from ht) (show s.heap.IsTuple p' its2.toArray from ht2) hu (items xs ys vs vs' its its2 (by first|rw[<-b7];exact pa|rw[<-b8];exact pa) (by first|rw[<-b7];exact pb|rw[<-b8];exact pb) hd h2 h2' rv1 rv2);have z1:its.toArray.size=xs.length:=(by rw[Hk,<-rv1.length,<-h2.length]);have z2:its2.toArray.size=ys.length:=(by rw[Hk,<-rv2.length,<-h2'.length]);rw[z1,z2,cR]at q;unfold pyEq;exact q
  ·by_cases hL:∃xs ys,a=.lst xs/\b=.lst ys
   ·obtain⟨xs,ys,rfl,rfl⟩:=hL;have da:=ha;have db:=hb;rw[bn]at ha hb;obtain⟨p,vs,e,h1,h2⟩:=ha;subst e;obtain⟨p',vs',e,h1',h2'⟩:=hb;subst e;cases ru;cases rv;by_cases hp:p=p'
    ·subst hp;have e:=Inv.den_inj I pa pb da db;rw[e,eN];exact EqAt.same _
    ·obtain⟨its,rv1,ht,_⟩:=I.list h1;obtain⟨its2,rv2,ht2,_⟩:=I.list h1';refine EqAt.of_refs hp ?_;have z1:its.toArray.size=xs.length:=(by rw[Hk,<-rv1.length,<-h2.length]);have z2:its2.toArray.size=ys.length:=(by rw[Hk,<-rv2.length,<-h2'.length]);have er:=cR xs ys;by_cases hz:its.toArray.size=its2.toArray.size
     ·have q:=RcAt.lists (e:=qI xs ys) ht.isList ht2.isList hz hu (items xs ys vs vs' its its2 (by first|rw[<-b7];exact pa|rw[<-b8];exact pa) (by first|rw[<-b7];exact pb|rw[<-b8];exact pb) hd h2 h2' rv1 rv2);rw[z1]at q;have hz':xs.length=ys.length:=(by omega);rw[<-hz',Ib]at er;simp only[beq_self_eq_true,Ic]at er;rw[er]at q;unfold pyEq;exact q
     ·have hne:(its.toArray.size !=its2.toArray.size)=true:=(by simpa using hz);have q:=RcAt.lists_lengths (A:=A) ht.isList ht2.isList hne hu;have hz':(xs.length==ys.length)=false:=by
       rw[z1,z2]at hz
       simpa using hz
      rw[hz',Ie]at er;unfold pyEq;rw[<-er];exact q
   ·exact flatWay (λxs ys z=>hT ⟨xs,ys,z⟩) λxs ys z=>hL ⟨xs,ys,z⟩
end
end TG
namespace TG
open PySem PySem.Spec L2
variable[aj]
open PySem.SeqAt (EqAt RcAt RcNeAt)
section
variable{X:Cx}{pins:aH}{σ:St}{H:Hp}{s:KN}
theorem kA(I:`h){n:Nat}{xs ys:List D}{vs vs':az}{its its':aC}{A:KY}(px:pW xs=true)(py:pW ys=true)(hdd:bR (n+1) (.tup xs)=true\/bR (n+1) (.tup ys)=true)(hx:av X.K H xs vs)(hy:av X.K H ys vs')(rx:Vals vs its)(ry:Vals vs' its')(hA:A.units+n<Ln):
  ∀j (h1:j<its.toArray.size) (h2:j<its'.toArray.size),EqAt A s its.toArray[j] its'.toArray[j] (qI xs ys j):=by
 intro j h1 h2;obtain⟨w1,e1,r1⟩:=ku rx h1;obtain⟨w2,e2,r2⟩:=ku ry h2;obtain⟨d1,f1,g1⟩:=km hx e1;obtain⟨d2,f2,g2⟩:=km hy e2;have e3:qI xs ys j=pyEq d1 d2:=by unfold qI;rw[f1,f2]
 rw[e3];refine Cd I n d1 d2 w1 w2 _ _ A (iG px _ (Hv f1)) (iG py _ (Hv f2)) ?_ g1 g2 r1 r2 hA;rcases hdd with hdd|hdd
 ·exact .inl (List.all_eq_true.mp hdd d1 (Hv f1))
 ·exact .inr (List.all_eq_true.mp hdd d2 (Hv f2))
inductive Way(I:`h):D->KG->Prop where
 |non:Way I .non .none
 |bl (b:Bool):Way I (.bl b) (.bool b)
 |int (i:Int) (t:Tok):Way I (.int i) (.int i t)
 |str (x:Str) (t:Tok):Way I (.str x) (.str x t)
 |tup {xs:List D} {p:KI} {vs:az} {its:aC} (h:av X.K H xs vs) (r:Vals vs its) (t:s.heap.IsTuple p its.toArray):Way I (.tup xs) (.ref p)
 |lst {xs:List D} {p:KI} {vs:az} {its:aC} (h:av X.K H xs vs) (r:Vals vs its) (t:s.heap.IsList p its.toArray):Way I (.lst xs) (.ref p)
noncomputable def top:D->Bool
 |.dct _ _=>false
 |.obj _ _ _=>false
 |.exc _ _ _=>false
 |_=>true
theorem cz{d:D}(h:pl d=true):top d=true:=by
 cases d with
 |dct _ _=>exact(cH h).elim
 |obj _ _ _=>exact(cS h).elim
 |exc _ _ _=>exact(cP h).elim
 |_=>rfl
theorem cn(I:`h){d:D}{v:V}{u:KG}(pd:top d=true)(h:bH X.K H d v)(r:RelV v u):Way I d u:=by
 cases d with
 |non=>rw[fG]at h;subst h;cases r;exact .non
 |bl b=>rw[gf]at h;subst h;cases r;exact .bl b
 |int i=>rw[cX]at h;subst h;obtain⟨t,rfl⟩:=r;exact .int i t
 |str x=>rw[cA]at h;subst h;obtain⟨t,rfl⟩:=r;exact .str x t
 |tup xs=>
  rw[bm]at h;obtain⟨p,vs,e,h1,h2⟩:=h;subst e;cases r;obtain⟨its,rv,ht,_⟩:=I.tuple (nV.of h1);exact .tup h2 rv ht
 |lst xs=>
  rw[bn]at h;obtain⟨p,vs,e,h1,h2⟩:=h;subst e;cases r;obtain⟨its,rv,ht,_⟩:=I.list h1;exact .lst h2 rv ht.isList
 |dct _ _=>cases pd
 |obj _ _ _=>cases pd
 |exc _ _ _=>cases pd
theorem Bk(I:`h){n:Nat}{a b:D}{x y:V}{u v:KG}{A:KY}(pa:pl a=true)(pb:pl b=true)(hd:bR (n+1) a=true\/bR (n+1) b=true)(ha:bH X.K H a x)(hb:bH X.K H b y)(ru:RelV x u)(rv:RelV y v)(hA:A.units+n+1<Ln):RcAt A s u v (pyEq a b):=by
 have hu:A.units<Ln:=by omega
 cases cn I (cz pa) ha ru with
 |non=>cases cn I (cz pb) hb rv with
  |non=>unfold pyEq;exact .none_none
  |bl b=>unfold pyEq;exact .none_bool b
  |int i t=>unfold pyEq;exact .none_int i t
  |str x t=>unfold pyEq;exact .none_str x t
  |tup h r t=>unfold pyEq;exact .none_tuple t hu
  |lst h r t=>unfold pyEq;exact .none_list t hu
 |bl z=>cases cn I (cz pb) hb rv with
  |non=>unfold pyEq;exact .bool_none z
  |bl b=>unfold pyEq;exact .bool_bool z b
  |int i t=>unfold pyEq;exact .bool_int z i t
  |str x t=>unfold pyEq;exact .bool_str z x t
  |tup h r t=>unfold pyEq;exact .bool_tuple z t hu
  |lst h r t=>unfold pyEq;exact .bool_list z t hu
 |int z tz=>cases cn I (cz pb) hb rv with
  |non=>unfold pyEq;exact .int_none z tz
  |bl b=>unfold pyEq;exact .int_bool z tz b
  |int i t=>unfold pyEq;exact .int_int z tz i t
  |str x t=>unfold pyEq;exact .int_str z tz x t
  |tup h r t=>unfold pyEq;exact .int_tuple z tz t hu
  |lst h r t=>unfold pyEq;exact .int_list z tz t hu
 |str z tz=>cases cn I (cz pb) hb rv with
  |non=>unfold pyEq;exact .str_none z tz
  |bl b=>unfold pyEq;exact .str_bool z tz b
  |int i t=>unfold pyEq;exact .str_int z tz i t
  |str x t=>unfold pyEq;exact .str_str z tz x t
  |tup h r t=>unfold pyEq;exact .str_tuple z tz t hu
  |lst h r t=>unfold pyEq;exact .str_list z tz t hu
 |@tup xs p vs its h1 r1 t1=>cases cn I (cz pb) hb rv with
  |non=>unfold pyEq;exact .tuple_none t1 hu
  |bl b=>unfold pyEq;exact .tuple_bool b t1 hu
  |int i t=>unfold pyEq;exact .tuple_int i t t1 hu
  |str x t=>unfold pyEq;exact .tuple_str x t t1 hu
  |@tup ys p' vs' its' h2 r2 t2=>
   have q:=RcAt.tuples (e:=qI xs ys) t1 t2 hu (kA (A:=A.in1) I (by first|rw[<-b7];exact pa|rw[<-b8];exact pa) (by first|rw[<-b7];exact pb|rw[<-b8];exact pb) hd h1 h2 r1 r2 (by rw[in1_units];omega));have z1:its.toArray.size=xs.length:=(by rw[Hk,<-r1.length,<-h1.length]);have z2:its'.toArray.size=ys.length:=(by rw[Hk,<-r2.length,<-h2.length]);rw[z1,z2,cR]at q;unfold pyEq;exact q
  |lst h r t=>unfold pyEq;exact .tuple_list t1 t hu
 |@lst xs p vs its h1 r1 t1=>cases cn I (cz pb) hb rv with
  |non=>unfold pyEq;exact .list_none t1 hu
  |bl b=>unfold pyEq;exact .list_bool b t1 hu
  |int i t=>unfold pyEq;exact .list_int i t t1 hu
  |str x t=>unfold pyEq;exact .list_str x t t1 hu
  |tup h r t=>unfold pyEq;exact .list_tuple t1 t hu
  |@lst ys p' vs' its' h2 r2 t2=>
   have z1:its.toArray.size=xs.length:=(by rw[Hk,<-r1.length,<-h1.length]);have z2:its'.toArray.size=ys.length:=(by rw[Hk,<-r2.length,<-h2.length]);have er:=cR xs ys;by_cases hz:its.toArray.size=its'.toArray.size
   ·have q:=RcAt.lists (e:=qI xs ys) t1 t2 hz hu (kA (A:=A.in1) I (by first|rw[<-b7];exact pa|rw[<-b8];exact pa) (by first|rw[<-b7];exact pb|rw[<-b8];exact pb) hd h1 h2 r1 r2 (by rw[in1_units];omega));rw[z1]at q;have hz':xs.length=ys.length:=(by omega);rw[<-hz',Ib]at er;simp only[beq_self_eq_true,Ic]at er;rw[er]at q;unfold pyEq;exact q
   ·have q:=RcAt.lists_lengths (A:=A) t1 t2 (by simpa using hz) hu;have hz':(xs.length==ys.length)=false:=by
     rw[z1,z2]at hz
     simpa using hz
    rw[hz',Ie]at er;unfold pyEq;rw[<-er];exact q
theorem wV(I:`h){n:Nat}{a b:D}{x y:V}{u v:KG}{A:KY}(pa:pl a=true)(pb:pl b=true)(hd:bR (n+1) a=true\/bR (n+1) b=true)(ha:bH X.K H a x)(hb:bH X.K H b y)(ru:RelV x u)(rv:RelV y v)(hA:A.units+n+1<Ln):RcNeAt A s u v (!pyEq a b):=by
 have hu:A.units<Ln:=by omega
 cases cn I (cz pa) ha ru with
 |non=>cases cn I (cz pb) hb rv with
  |non=>unfold pyEq;exact .none_none
  |bl b=>unfold pyEq;exact .none_bool b
  |int i t=>unfold pyEq;exact .none_int i t
  |str x t=>unfold pyEq;exact .none_str x t
  |tup h r t=>unfold pyEq;exact .none_tuple t hu
  |lst h r t=>unfold pyEq;exact .none_list t hu
 |bl z=>cases cn I (cz pb) hb rv with
  |non=>unfold pyEq;exact .bool_none z
  |bl b=>unfold pyEq;exact .bool_bool z b
  |int i t=>unfold pyEq;exact .bool_int z i t
  |str x t=>unfold pyEq;exact .bool_str z x t
  |tup h r t=>unfold pyEq;exact .bool_tuple z t hu
  |lst h r t=>unfold pyEq;exact .bool_list z t hu
 |int z tz=>cases cn I (cz pb) hb rv with
  |non=>unfold pyEq;exact .int_none z tz
  |bl b=>unfold pyEq;exact .int_bool z tz b
  |int i t=>unfold pyEq;exact .int_int z tz i t
  |str x t=>unfold pyEq;exact .int_str z tz x t
  |tup h r t=>unfold pyEq;exact .int_tuple z tz t hu
  |lst h r t=>unfold pyEq;exact .int_list z tz t hu
 |str z tz=>cases cn I (cz pb) hb rv with
  |non=>unfold pyEq;exact .str_none z tz
  |bl b=>unfold pyEq;exact .str_bool z tz b
  |int i t=>unfold pyEq;exact .str_int z tz i t
  |str x t=>unfold pyEq;exact .str_str z tz x t
  |tup h r t=>unfold pyEq;exact .str_tuple z tz t hu
  |lst h r t=>unfold pyEq;exact .str_list z tz t hu
 |@tup xs p vs its h1 r1 t1=>cases cn I (cz pb) hb rv with
  |non=>unfold pyEq;exact .tuple_none t1 hu
  |bl b=>unfold pyEq;exact .tuple_bool b t1 hu
  |int i t=>unfold pyEq;exact .tuple_int i t t1 hu
  |str x t=>unfold pyEq;exact .tuple_str x t t1 hu
  |@tup ys p' vs' its' h2 r2 t2=>
   have q:=RcNeAt.tuples (e:=qI xs ys) t1 t2 hu (kA (A:=A.in1) I (by first|rw[<-b7];exact pa|rw[<-b8];exact pa) (by first|rw[<-b7];exact pb|rw[<-b8];exact pb) hd h1 h2 r1 r2 (by rw[in1_units];omega));have z1:its.toArray.size=xs.length:=(by rw[Hk,<-r1.length,<-h1.length]);have z2:its'.toArray.size=ys.length:=(by rw[Hk,<-r2.length,<-h2.length]);rw[z1,z2,cR]at q;unfold pyEq;exact q
  |lst h r t=>unfold pyEq;exact .tuple_list t1 t hu
 |@lst xs p vs its h1 r1 t1=>cases cn I (cz pb) hb rv with
  |non=>unfold pyEq;exact .list_none t1 hu
  |bl b=>unfold pyEq;exact .list_bool b t1 hu
  |int i t=>unfold pyEq;exact .list_int i t t1 hu
  |str x t=>unfold pyEq;exact .list_str x t t1 hu
  |tup h r t=>unfold pyEq;exact .list_tuple t1 t hu
  |@lst ys p' vs' its' h2 r2 t2=>
   have z1:its.toArray.size=xs.length:=(by rw[Hk,<-r1.length,<-h1.length]);have z2:its'.toArray.size=ys.length:=(by rw[Hk,<-r2.length,<-h2.length]);have er:=cR xs ys;by_cases hz:its.toArray.size=its'.toArray.size
   ·have q:=RcNeAt.lists (e:=qI xs ys) t1 t2 hz hu (kA (A:=A.in1) I (by first|rw[<-b7];exact pa|rw[<-b8];exact pa) (by first|rw[<-b7];exact pb|rw[<-b8];exact pb) hd h1 h2 r1 r2 (by rw[in1_units];omega));rw[z1]at q;have hz':xs.length=ys.length:=(by omega);rw[<-hz',Ib]at er;simp only[beq_self_eq_true,Ic]at er;rw[er]at q;unfold pyEq;exact q
   ·have q:=RcNeAt.lists_lengths (A:=A) t1 t2 (by simpa using hz) hu;have hz':(xs.length==ys.length)=false:=by
     rw[z1,z2]at hz
     simpa using hz
    rw[hz',Ie]at er;unfold pyEq;rw[<-er];exact q
end
section
variable{X:Cx}
noncomputable def rD(K:J1)(g:D->D->aQ):R2:=λx y H Q=>∃O a b d,bL H O/\bH K (hid H O) a x/\bH K (hid H O) b y/\g a b=some d/\∀v H',aD H H'->bH K (hid H' O) d v->Q v H'
theorem bQ{K:J1}{g:D->D->aQ}:cU K (rD K g) g:=λa b d x y O H Q hO hg ha hb q=>⟨O,a,b,d,hO,ha,hb,hg,q⟩
theorem o9{f : KG -> KG -> Sem KG}{g : D -> D -> aQ}(h : ∀ (pins : aH) (s : KN) (σ : St) (H : Hp) (a b d : D) (x y : V) (u v : KG), Inv X pins σ H s -> bH X.K H a x -> bH X.K H b y -> RelV x u -> RelV y v -> g a b = some d ->
      ∃c,d=.bl c/\∀(Q:aA),Q (.bool c) s->K2 `i X.A (f u v) Q X.xe s):jc X f (rD X.K g):=by
  rintro pins s σ H x y u v Q I rx ry ⟨O,a,b,d,hO,ha,hb,hg,q⟩;obtain⟨c,rfl,hq⟩:=h pins s σ H a b d x y u v I (ha.mono (ai H O)) (hb.mono (ai H O)) rx ry hg;exact hq _ ⟨.bl c,H,I,rfl,q _ H (aD.refl H) (gf.mpr rfl)⟩
noncomputable def uU(a b:D):aQ:=if(pl a&&pl b)&&(bR 8 a||bR 8 b)then some (.bl (pyEq a b))else none
noncomputable def ka(a b:D):aQ:=if(pl a&&pl b)&&(bR 8 a||bR 8 b)then some (.bl (!pyEq a b))else none
theorem yg(hu:X.A.units+64<Ln):jc X (Lh .Eq) (rD X.K uU):=o9 λpins s σ H a b d x y u v I ha hb ru rv hg=>by
 obtain⟨h1,h2⟩:=aV hg;subst h2;rw[HB,HB,Ig]at h1;exact⟨_,rfl,λQ q=>Bk (n:=7) (A:=X.A) I h1.1.1 h1.1.2 h1.2 ha hb ru rv `o X.prog X.w X.xe Q q⟩
theorem yd(hu:X.A.units+64<Ln):jc X (Lh .NotEq) (rD X.K ka):=o9 λpins s σ H a b d x y u v I ha hb ru rv hg=>by
 obtain⟨h1,h2⟩:=aV hg;subst h2;rw[HB,HB,Ig]at h1;exact⟨_,rfl,λQ q=>wV (n:=7) (A:=X.A) I h1.1.1 h1.1.2 h1.2 ha hb ru rv `o X.prog X.w X.xe Q q⟩
noncomputable def Bh(p:Int->Int->D)(a b:D):aQ:=match a,b with
 |.int i,.int j=>some (p i j)
 |_,_=>none
noncomputable def GR:=Bh λi j=>.bl (decide (i<j))
noncomputable def GU:=Bh λi j=>.bl (decide (i<=j))
noncomputable def By:=Bh λi j=>.bl (decide (j<i))
noncomputable def GJ:=Bh λi j=>.bl (decide (j<=i))
theorem nu{K:J1}{g:Int->Int->Bool}:cU K (yD λi j=>.bl (g i j)) (Bh λi j=>.bl (g i j)):=λa b d x y O H Q hO hg ha hb q=>by
 cases a with
 |int i=>
  cases b with
  |int j=>cases hg;exact⟨i,j,cX.mp ha,cX.mp hb,q _ H (aD.refl H) (gf.mpr rfl)⟩
  |_=>cases hg
 |_=>cases hg
theorem rS{K:J1}{g:Int->Int->Int}:cU K (yD λi j=>.int (g i j)) (Bh λi j=>.int (g i j)):=λa b d x y O H Q hO hg ha hb q=>by
 cases a with
 |int i=>
  cases b with
  |int j=>cases hg;exact⟨i,j,cX.mp ha,cX.mp hb,q _ H (aD.refl H) (cX.mpr rfl)⟩
  |_=>cases hg
 |_=>cases hg
noncomputable def DW(c:Int->Int->Bool)(p:Int->Int->Int)(a b:D):aQ:=match a,b with
 |.int i,.int j=>if c i j then some (.int (p i j))else none
 |_,_=>none
theorem h7{K:J1}{C:Int->Int->Prop}{c:Int->Int->Bool}{g:Int->Int->Int}(hc:∀i j,c i j=true->C i j):cU K (rI C λi j=>.int (g i j)) (DW c g):=λa b d x y O H Q hO hg ha hb q=>by
 cases a with
 |int i=>
  cases b with
  |int j=>
   obtain⟨h1,h2⟩:=aV hg;subst h2;exact⟨i,j,cX.mp ha,cX.mp hb,hc i j h1,q _ H (aD.refl H) (cX.mpr rfl)⟩
  |_=>cases hg
 |_=>cases hg
noncomputable def CG:=Bh λi j=>.int (i-j)
noncomputable def j6:=DW (λi j=>decide ((-(2^64)<i/\i<2^64)\/(-(2^64)<j/\j<2^64))) (·*·)
noncomputable def AH(_ j:Int):Prop:=0<j/\j<10^200
theorem vB:jc X (Lg .FloorDiv) (rI AH λi j=>.int (i/j)):=EF λi j _ _ _ _ _ hc q=>by
 have h1:(0:Int)<j:=hc.1;have h2:j<10^200:=hc.2;refine PyProof.Rows.floordiv_int `o (by rw[Int.fdiv_eq_ediv_of_nonneg i `o];exact q) (.inl (PyProof.noPylong_of_log2 ?_));have h3:j.natAbs<10^200:=by omega
 rw[Nat.log2_lt `o];exact HN h3 (by decide +kernel)
noncomputable def c6:=DW (λ_ j=>decide (0<j/\j<10^200)) (·/·)
noncomputable def bU:=DW (λ_ j=>decide (0<j)) (·%·)
noncomputable def o8:=DW (λi j=>decide (0<=j/\j<=1000000/\i.natAbs<2^64)) λi j=>i^j.toNat
theorem BK{K:J1}:cU K (yD λi j=>.int (i-j)) CG:=rS
theorem BR{K:J1}:cU K (rI Bz λi j=>.int (i*j)) j6:=h7 λi j h=>by have q:=of_decide_eq_true h;exact q
theorem B9{K:J1}:cU K (rI AH λi j=>.int (i/j)) c6:=h7 λi j h=>by have q:=of_decide_eq_true h;exact q
theorem C4{K:J1}:cU K (rI (λ_ j=>0<j) λi j=>.int (i%j)) bU:=h7 λ_ _ h=>of_decide_eq_true h
theorem BV{K:J1}:cU K (rI DK λi j=>.int (i^j.toNat)) o8:=h7 λi j h=>by have q:=of_decide_eq_true h;exact q
noncomputable def Dk(K:J1):R2:=λx y H Q=>∃l b xs zs,x=.ref l/\y=.ref b/\jA K H l xs/\jA K H b zs/\xs.length+zs.length<=KS/\∀p,H p=none->Q (.ref p) (upd H p (.lst (xs++zs)))
theorem zk:jc X (Lg .Add) (Dk X.K):=by
 intro pins s σ H x y v u Q I rx ry h;obtain⟨l,b,xs,zs,rfl,rfl,hH,hB,hz,q⟩:=h;cases rx;cases ry;obtain⟨its,r,t1,_⟩:=I.list hH;obtain⟨its2,r2,t2,_⟩:=I.list hB;obtain⟨⟨c1,d1,dt1,sl1⟩,n1,ho,hc,hd,hdt⟩:=t1;obtain⟨⟨c2,d2,dt2,sl2⟩,n2,ho2,hc2,hd2,hdt2⟩:=t2;simp only at hc hd hdt hc2 hd2 hdt2;subst hc hd hdt hc2 hd2 hdt2;have z1:=r.length;have z2:=r2.length;refine Lw ⟨_,ho,rfl⟩ ⟨_,ho2,rfl⟩ noFill_list_add seq_list_add F.slot_list_add F.entry_list_add (F.args_list_add_2 _ _) (PyProof.Rows.list_addW l b its.toArray its2.toArray n1 n2 none none sl1 sl2 (by rw[Hk,Hk];omega)) ⟨ho,ho2,?_⟩;have ea:its.toArray++its2.toArray=(its++its2).toArray:=by simp
 rw[ea];exact⟨.ref _,_,I.lnew (t':=s.toks) (r.append r2) (by rw[Hw];omega),rfl,q _ I.fresh⟩
noncomputable def BE(K:J1):R2:=λx y H Q=>∃a b xs ys,x=.ref a/\y=.ref b/\nV K H a xs/\nV K H b ys/\xs.length+ys.length<=KS/\
 (xs=[]->Q (.ref b) H)/\(xs≠[]->ys=[]->Q (.ref a) H)/\(xs≠[]->ys≠[]->∀p,H p=none->Q (.ref p) (upd H p (.tup (xs++ys))))
theorem vF:jc X (Lg .Add) (BE X.K):=by
 intro pins s σ H x y v u Q I rx ry h;obtain⟨a,b,xs,ys,ex,ey,ha,hb,hz,q0,q1,q2⟩:=h;by_cases hx:xs=[]
 ·subst ex ey;cases rx;cases ry;obtain⟨its,r1,p1,_⟩:=I.tuple ha;obtain⟨its2,r2,p2,_⟩:=I.tuple hb;obtain⟨⟨cls,dd,data,sl⟩,ho,hc,n,hd⟩:=id p1;obtain⟨⟨cls2,dd2,data2,sl2⟩,ho2,hc2,n2,hd2⟩:=id p2;simp only at hc hd hc2 hd2;subst hc hd hc2 hd2;have e:its=[]:=r1.nil_iff.mpr hx;exact Lw ⟨_,ho,rfl⟩ ⟨_,ho2,rfl⟩ Lx Ly F.slot_tuple_add F.entry_tuple_add (F.args_tuple_add_2 _ _)
   (PyProof.Rows.tuple_addW0 a b its.toArray its2.toArray n n2 dd dd2 sl sl2 (by rw[e];rfl)) ⟨ho,ho2,⟨.ref b,H,I,rfl,q0 hx⟩⟩
 ·exact yL pins s σ H x y v u Q I rx ry ⟨a,b,xs,ys,ex,ey,ha,hb,hx,hz,q1 hx,q2 hx⟩
noncomputable def dX(a b:D):aQ:=match a,b with
 |.int i,.int j=>some (.int (i+j))
 |.str x,.str y=>if small (x.length+y.length)then some (.str (x++y))else none
 |.lst xs,.lst ys=>if small (xs.length+ys.length)then some (.lst (xs++ys))else none
 |.tup xs,.tup ys=>if small (xs.length+ys.length)then some (.tup (xs++ys))else none
 |_,_=>none
theorem Ac:jc X (Lg .Add) (rD X.K dX):=by
 rintro pins s σ H x y u v Q I rx ry ⟨O,a,b,d,hO,ha,hb,hg,q⟩;cases a with
 |int i=>
  cases b with
  |int j=>
   cases hg;exact BD pins s σ H x y u v Q I rx ry ⟨i,j,cX.mp ha,cX.mp hb,q _ H (aD.refl H) (cX.mpr rfl)⟩
  |_=>cases hg
 |str i=>
  cases b with
  |str j=>
   obtain⟨h1,h2⟩:=aV hg;subst h2;exact rE pins s σ H x y u v Q I rx ry ⟨i,j,cA.mp ha,cA.mp hb,bY h1,q _ H (aD.refl H) (cA.mpr rfl)⟩
  |_=>cases hg
 |lst xs=>
  cases b with
  |lst ys=>
   obtain⟨h1,h2⟩:=aV hg;subst h2;rw[bn]at ha hb;obtain⟨p,vs,ex,g1,g2⟩:=ha;obtain⟨p',vs',ey,g1',g2'⟩:=hb;refine zk pins s σ H x y u v Q I rx ry ⟨p,p',vs,vs',ex,ey,(ai H O).seq g1,(ai H O).seq g1',?_,λr hr=>?_⟩
   ·rw[<-g2.length,<-g2'.length];exact bY h1
   ·exact q _ _ (bh hr _) (cY hO hr (g2.append g2'))
  |_=>cases hg
 |tup xs=>
  cases b with
  |tup ys=>
   obtain⟨h1,h2⟩:=aV hg;subst h2;have da:=ha;have db:=hb;rw[bm]at ha hb;obtain⟨p,vs,ex,g1,g2⟩:=ha;obtain⟨p',vs',ey,g1',g2'⟩:=hb;have l1:=g2.length;have l2:=g2'.length;refine vF pins s σ H x y u v Q I rx ry ⟨p,p',vs,vs',ex,ey,aX (ai H O) g1,aX (ai H O) g1',?_,λz=>?_,λz z'=>?_,λz z' r hr=>?_⟩
   ·rw[<-l1,<-l2];exact bY h1
   ·have e:xs=[]:=List.length_eq_zero_iff.mp (by rw[l1,z];rfl);rw[<-ey];refine q _ H (aD.refl H) ?_;rw[e,Ih];exact db
   ·have e:ys=[]:=List.length_eq_zero_iff.mp (by rw[l2,z'];rfl);rw[<-ex];refine q _ H (aD.refl H) ?_;rw[e,Hl];exact da
   ·exact q _ _ (bh hr _) (dO hO hr (g2.append g2'))
  |_=>cases hg
 |_=>cases hg
noncomputable def bb(a b:D):aQ:=match a,b with
 |.tup xs,.int i=>iC xs i
 |.lst xs,.int i=>iC xs i
 |.str x,.int i=>if small x.length then(iC x.cps.toList i).bind λc=>some (.str ⟨#[c]⟩)else none
 |_,_=>none
theorem sd{K:J1}{H:Hp}{ds:List D}{vs:az}{i:Int}{d:D}(h:av K H ds vs)(e:iC ds i=some d):∃v,iC vs i=some v/\bH K H d v:=by
 unfold iC at e ⊢;obtain⟨j,e1,e2⟩:=bind_some e;rw[<-h.length,e1];exact h.get e2
theorem Fj:DZ X (rD X.K bb):=by
 rintro value slice pins s σ H x y u v Q I rx ry ⟨O,a,b,d,hO,ha,hb,hg,q⟩ hsub;cases a with
 |tup xs=>
  cases b with
  |int i=>
   rw[bm]at ha;obtain⟨p,vs,ex,g1,g2⟩:=ha;obtain⟨w,e1,e2⟩:=sd g2 hg;refine A9 value slice pins s σ H x y u v Q I rx ry ?_ hsub;exact⟨p,vs,i,w,ex,cX.mp hb,aX (ai H O) g1,e1,q w H (aD.refl H) e2⟩
  |_=>cases hg
 |lst xs=>
  cases b with
  |int i=>
   rw[bn]at ha;obtain⟨p,vs,ex,g1,g2⟩:=ha;obtain⟨w,e1,e2⟩:=sd g2 hg;refine oh value slice pins s σ H x y u v Q I rx ry ?_ hsub;exact⟨p,vs,i,w,ex,cX.mp hb,(ai H O).seq g1,e1,q w H (aD.refl H) e2⟩
  |_=>cases hg
 |str z=>
  cases b with
  |int i=>
   have hg':(if small z.length then(iC z.cps.toList i).bind λc=>some (D.str ⟨#[c]⟩)else none)=some d:=hg;cases hs:small z.length with
   |false=>rw[hs]at hg';cases hg'
   |true=>
    rw[hs]at hg';obtain⟨c,e1,e2⟩:=bind_some hg';cases e2;refine Ck value slice pins s σ H x y u v Q I rx ry ?_ hsub;exact⟨z,i,c,cA.mp ha,cX.mp hb,bY hs,e1,q _ H (aD.refl H) (cA.mpr rfl)⟩
  |_=>cases hg
 |_=>cases hg
noncomputable def cutD{α:Type}(xs:List α)(lo hi:bP):List α:=(xs.drop (HT.sIx xs.length 0 lo)).take (HT.sIx xs.length xs.length hi-HT.sIx xs.length 0 lo)
theorem lV{M:K1}{A:KY}{E:aA}{s:KN}{t:KI}{items:dF}{Q:Bool->bu}(ht:Kq s.heap t items)(h:Q true s):K2 M A (Builtin.Tuple.tupleIsExact (.ref t)) Q E s:=by
 unfold Builtin.Tuple.tupleIsExact;refine Lc (LI ht.typeIs ?_);exact Lb h
theorem ip{prog:KP}{w:KO}{A:KY}{E:aA}{s:KN}{t sl:KI}{items:dF}{vl vu:KG}{lo hi:bP}{Q:aA}(ht:Kq s.heap t items)(hs:s.heap.IsSliceOf sl vl vu .none)(pl:Lz vl lo)(pu:Lz vu hi)
  (hw:HT.sIx items.size 0 lo=0/\HT.sIx items.size items.size hi=items.size) (h:Q (.ref t) s):K2 `g A (getItem (.ref t) (.ref sl)) Q E s:=by
 obtain⟨os,hos,hcs,hds⟩:=id hs;have hTs:s.TypeIs (.ref sl) "slice":=⟨os,hos,hcs⟩
 unfold getItem
 try with_reducible refine LA ?_
 first|refine Lc (Lb ?_)|skip
 refine Lc (wpAny_sequenceKey ht.typeIs (by decide) ?_);refine Lc (LC (name:=Str.ofString "__getitem__") ht.typeIs Ko
  (LD Ko ht.typeIs PyProof.Rows.entry_tuple_getitem ?_ (PyProof.Rows.args_tuple_getitem _ _)))
 show K2 _ _ (Builtin.Tuple.tupleItemsOf (.ref t) >>= _) _ _ s;refine Lc (PyProof.Rows.tupleItemsOf_ ht ?_);refine Lc (LI hTs ?_);rw[if_pos (by decide)];refine Lc (HT.jt hs pl pu ?_);have hyes:(((HT.sIx items.size 0 lo:Nat):Int)==0&&(1:Int)==1&&(HT.sIx items.size items.size hi-HT.sIx items.size 0 lo)==items.size)=true:=by
  rw[hw.1,hw.2];simp
 show K2 _ _ (if(((HT.sIx items.size 0 lo:Nat):Int)==0&&(1:Int)==1&&(HT.sIx items.size items.size hi-HT.sIx items.size 0 lo)==items.size)=true then _ else _) _ _ s;rw[if_pos hyes];refine Lc (lV ht ?_);rw[if_pos rfl]
 first
  |exact Lc (LX (Lb ⟨_,rfl,Lb h⟩))
  |exact Lc (LX (Lc (Lb (Lb ⟨_,rfl,Lb h⟩))))
noncomputable def lD(a:D)(lo hi:bP):aQ:=match a with
 |.lst xs=>some (.lst (cutD xs lo hi))
 |.tup xs=>some (.tup (cutD xs lo hi))
 |.str x=>if small x.length then some (.str ⟨(cutD x.cps.toList lo hi).toArray⟩)else none
 |_=>none
theorem AI(v:bP)(d n:Nat)(hd:d<=n):(match v with|none=>(d:Int)|some i=>if(1:Int)>0 then max 0 (min (if i<0 then i+(n:Int)else i) (n:Int))else max (-1) (min (if i<0 then i+(n:Int)else i) ((n:Int)-1)))=((HT.sIx n d v:Nat):Int):=by
 cases v with
 |none=>rfl
 |some i=>
  show(if(1:Int)>0 then max 0 (min (if i<0 then i+(n:Int)else i) (n:Int))else max (-1) (min (if i<0 then i+(n:Int)else i) ((n:Int)-1)))=(((if i<0 then(i+(n:Int)).toNat else min i.toNat n):Nat):Int)
  rw[if_pos (by decide)];by_cases h:i<0
  ·rw[if_pos h,if_pos h];omega
  ·rw[if_neg h,if_neg h];omega
theorem wC(lo hi:bP)(n:Nat):Builtin.Str.strSliceIndices lo hi 1 n=(List.range (HT.sIx n n hi-HT.sIx n 0 lo)).map λk=>HT.sIx n 0 lo+k:=by
 have e1:=AI lo 0 n (HP _);have e2:=AI hi n n (Hi _);have e:Builtin.Str.strSliceIndices lo hi 1 n=sliceRange ((HT.sIx n 0 lo:Nat):Int) ((HT.sIx n n hi:Nat):Int) 1:=by
  rw[<-e1,<-e2];cases lo<;>cases hi<;>rfl
 rw[e];unfold sliceRange;dsimp only;rw[if_pos (by decide:(1:Int)>0)];have e3:(if((HT.sIx n 0 lo:Nat):Int)<((HT.sIx n n hi:Nat):Int)then(((HT.sIx n n hi:Nat):Int)-((HT.sIx n 0 lo:Nat):Int)+1-1)/1 else 0:Int).toNat=HT.sIx n n hi-HT.sIx n 0 lo:=by
  rw[Int.ediv_one];split<;>omega
 rw[e3];refine Ii λk _=>?_;omega
theorem vP{α:Type}(l:List α)(a:Nat):∀n:Nat,((List.range n).map λk=>a+k).filterMap (λi=>l[i]?)=(l.drop a).take n
 |0=>by simp
 |n+1=>by
  rw[List.range_succ,Ij,List.filterMap_append,vP l a n,List.take_add_one,Ik];cases e:l[a+n]?<;>simp[e]
theorem uH(x:Str)(lo hi:bP):Txt.slice x lo hi=⟨(cutD x.cps.toList lo hi).toArray⟩:=by
 have hl:x.cps.toList.length=x.length:=by simp[Str.length]
 have pick:(Builtin.Str.strSliceIndices lo hi 1 x.length).filterMap (x.cps[·]?)=cutD x.cps.toList lo hi:=by
  rw[wC];have q:=vP x.cps.toList (HT.sIx x.length 0 lo) (HT.sIx x.length x.length hi-HT.sIx x.length 0 lo);unfold cutD;rw[hl,<-q];congr 1;funext i;simp
 unfold Txt.slice;split
 ·rename_i h;have h':(Builtin.Str.strSliceIndices lo hi 1 x.length).length=x.length:=by simpa using h
  rw[wC,Hx,Il]at h';have h1:=HT.B6 x.length x.length (Hi _) hi;have z1:HT.sIx x.length 0 lo=0\/x.length=0:=by omega
  have e:cutD x.cps.toList lo hi=x.cps.toList:=by
   unfold cutD;rw[hl,h'];rcases z1 with z1|z1
   ·rw[z1,HY,<-hl,List.take_length]
   ·have:x.cps.toList=[]:=List.length_eq_zero_iff.mp (by rw[hl];exact z1)
    rw[this];simp
  rw[e]
 ·rw[pick]
noncomputable def Gj(K:J1):V->bP->bP->Hp->VK->Prop:=λx lo hi H Q=>∃O a d,bL H O/\bH K (hid H O) a x/\lD a lo hi=some d/\∀v H',aD H H'->bH K (hid H' O) d v->Q v H'
theorem av.cut{K:J1}{H:Hp}{ds:List D}{vs:az}(h:av K H ds vs)(lo hi:bP):av K H (cutD ds lo hi) (pp vs lo hi):=by
 unfold cutD pp;rw[h.length];exact(h.drop _).take _
theorem Fc:Ey X (Gj X.K):=by
 rintro pins s σ H x v vl vu lo hi sl Q I rx hs pl pu ⟨O,a,d,hO,ha,hg,q⟩;cases a with
 |lst xs=>
  cases hg;rw[bn]at ha;obtain⟨p,vs,ex,g1,g2⟩:=ha;exact Aj pins s σ H x v vl vu lo hi sl Q I rx hs pl pu ⟨p,vs,ex,(ai H O).seq g1,λr hr=>q _ _ (bh hr _) (cY hO hr (g2.cut lo hi))⟩
 |tup xs=>
  cases hg;have da:=ha;rw[bm]at ha;obtain⟨p,vs,ex,g1,g2⟩:=ha;by_cases hw:HT.sIx vs.length 0 lo=0/\HT.sIx vs.length vs.length hi=vs.length
  ·subst ex;cases rx;obtain⟨its,r,ht,hz⟩:=I.tuple (aX (ai H O) g1);have hlen:its.toArray.size=vs.length:=(by rw[Hk];exact r.length.symm);refine⟨"tuple",_,PyProof.Rows.slot_tuple_getitem.lookup,ht.typeIs,ip ht hs pl pu (by rw[hlen];exact hw) ⟨.ref p,H,I,rfl,q _ H (aD.refl H) ?_⟩⟩;have e:cutD xs lo hi=xs:=by
    unfold cutD;rw[g2.length,hw.1,hw.2,Im,HY,<-g2.length,List.take_length]
   rw[e];exact da
  ·exact A3 pins s σ H x v vl vu lo hi sl Q I rx hs pl pu ⟨p,vs,ex,aX (ai H O) g1,hw,λr hr=>q _ _ (bh hr _) (dO hO hr (g2.cut lo hi))⟩
 |str z=>
  obtain⟨h1,h2⟩:=aV hg;subst h2;rw[cA]at ha;subst ha;obtain⟨t,rfl⟩:=rx;have fin:∀t' tk,EP X pins σ Q (.str (Txt.slice z lo hi) t') {s with toks:=tk}:=λt' tk=>by
   rw[uH];exact⟨.str _,H,I.tok _,⟨_,rfl⟩,q _ H (aD.refl H) (cA.mpr rfl)⟩
  obtain⟨os,hos,hcs,hds⟩:=id hs;have hz:=bY h1;refine⟨"str",_,F.slot_str_getitem.lookup,typeIs_str _ _ _,?_⟩;cases pl with
  |none=>
   cases pu with
   |none=>exact LY (l:=none) (u:=none) (st:=none) ⟨os,hos,hcs,hds⟩ rfl (LZ ⟨G3 (Txt.slice_le z _ _) hz,λt' k=>fin t' k⟩)
   |int j tj=>exact LY (l:=none) (u:=some (j,tj)) (st:=none) ⟨os,hos,hcs,hds⟩ rfl (LZ ⟨G3 (Txt.slice_le z _ _) hz,λt' k=>fin t' k⟩)
  |int i ti=>
   cases pu with
   |none=>exact LY (l:=some (i,ti)) (u:=none) (st:=none) ⟨os,hos,hcs,hds⟩ rfl (LZ ⟨G3 (Txt.slice_le z _ _) hz,λt' k=>fin t' k⟩)
   |int j tj=>exact LY (l:=some (i,ti)) (u:=some (j,tj)) (st:=none) ⟨os,hos,hcs,hds⟩ rfl (LZ ⟨G3 (Txt.slice_le z _ _) hz,λt' k=>fin t' k⟩)
 |_=>cases hg
noncomputable def i6:af->R (bP):=λ_=>.ok none
noncomputable def rz:D->Option (bP)
 |.int i=>some (some i)
 |_=>none
noncomputable def kR(f:FX):af->R (bP):=λρ=>(f ρ).bind λd=>rO (rz d)
noncomputable def GV(X:Cx)(F:af->R bP):TO:=λσ H Q=>∃O ρ,bX X.K O H ρ σ/\gk X σ O H (F ρ) λo=>∀H',aD H H'->Q o H'
noncomputable def FO(X:Cx)(e:Option KJ)(F:af->R bP):Prop:=PO X e (GV X F)
noncomputable def jC(f:FX)(l h:af->R bP):FX:=λρ=>(f ρ).bind λa=>(l ρ).bind λlo=>(h ρ).bind λhi=>rO (lD a lo hi)
end
end TG
namespace TG
open PySem PySem.Spec L2
variable[aj]
noncomputable def AJ(K:J1)(g:List D->aQ):az->Hp->VK->Prop:=λxs H Q=>∃O ds d,bL H O/\av K (hid H O) ds xs/\g ds=some d/\∀v H',aD H H'->bH K (hid H' O) d v->Q v H'
theorem lC{K:J1}{g:List D->aQ}:sx K (AJ K g) g:=λds d xs O H Q hO hg hd q=>⟨O,ds,d,hO,hd,hg,q⟩
section
variable{X:Cx}{x:Str}{p pos:Pos}{e:KJ}{es:aY}{id T:String}{g:List D->aQ}{f:aL}
noncomputable def gb:List D->aQ
 |[.lst xs]=>some (.int xs.length)
 |[.tup xs]=>some (.int xs.length)
 |[.str x]=>if small x.length then some (.int x.length)else none
 |_=>none
theorem uL:dL X (.builtin "len") (AJ X.K gb):=by
 rintro pins s σ H xs us Q I r ⟨O,ds,d,hO,hd,hg,q⟩;unfold gb at hg;split at hg
 ·rename_i ys;cases hg;obtain⟨v,ev,h1⟩:=hd.one;rw[bn]at h1;obtain⟨p,vs,ep,g1,g2⟩:=h1;exact iR pins s σ H xs us Q I r ⟨p,vs,by rw[ev,ep],.inl ((ai H O).seq g1),q _ H (aD.refl H) (cX.mpr (by rw[g2.length]))⟩
 ·rename_i ys;cases hg;obtain⟨v,ev,h1⟩:=hd.one;rw[bm]at h1;obtain⟨p,vs,ep,g1,g2⟩:=h1;exact iR pins s σ H xs us Q I r ⟨p,vs,by rw[ev,ep],.inr (aX (ai H O) g1),q _ H (aD.refl H) (cX.mpr (by rw[g2.length]))⟩
 ·rename_i z;obtain⟨h1,h2⟩:=aV hg;subst h2;obtain⟨v,ev,h1'⟩:=hd.one;exact oK pins s σ H xs us Q I r ⟨z,by rw[ev,cA.mp h1'],bY h1,q _ H (aD.refl H) (cX.mpr rfl)⟩
 ·cases hg
noncomputable def dW:List D->aQ
 |[.lst xs]=>some (.tup xs)
 |[.tup xs]=>some (.tup xs)
 |_=>none
theorem qz:dL X (.type "tuple") (AJ X.K dW):=by
 rintro pins s σ H xs us Q I r ⟨O,ds,d,hO,hd,hg,q⟩;unfold dW at hg;split at hg
 ·rename_i ys;cases hg;obtain⟨v,ev,h1⟩:=hd.one;rw[bn]at h1;obtain⟨p,vs,ep,g1,g2⟩:=h1;exact iu pins s σ H xs us Q I r ⟨p,vs,by rw[ev,ep],.inl ⟨(ai H O).seq g1,λl hl=>q _ _ (bh hl _) (dO hO hl g2)⟩⟩
 ·rename_i ys;cases hg;obtain⟨v,ev,h1⟩:=hd.one;have h0:=h1;rw[bm]at h1;obtain⟨p,vs,ep,g1,g2⟩:=h1;rw[ep]at h0;exact iu pins s σ H xs us Q I r ⟨p,vs,by rw[ev,ep],.inr ⟨aX (ai H O) g1,q _ H (aD.refl H) h0⟩⟩
 ·cases hg
noncomputable def Dj:List D->aQ
 |[.int i,.int j]=>some (.int (if j>i then j else i))
 |_=>none
noncomputable def Ei:List D->aQ
 |[.int i,.int j]=>some (.int (if j<i then j else i))
 |_=>none
noncomputable def B1:D->String
 |.non=>"NoneType"
 |.bl _=>"bool"
 |.int _=>"int"
 |.str _=>"str"
 |.tup _=>"tuple"
 |.lst _=>"list"
 |.dct _ _=>"dict"
 |_=>""
noncomputable def zT(T:String)(d:D):Bool:=match d with
 |.bl _=>T=="bool"||T=="int"
 |.non=>T=="NoneType"
 |.int _=>T=="int"
 |.str _=>T=="str"
 |.tup _=>T=="tuple"
 |.lst _=>T=="list"
 |.dct _ _=>T=="dict"
 |_=>false
noncomputable def zl(K:J1)(T:String):Prop:=∀d:D,top d=true->J9 K (.type (B1 d)) (.type T)=some (zT T d)
noncomputable def Ff(K:J1)(T:String):az->Hp->VK->Prop:=λxs H Q=>∃O x d,xs=[x,.ty T]/\top d=true/\bH K (hid H O) d x/\Q (.bl (zT T d)) H
theorem xt(ok:zl X.K T):dL X (.builtin "isinstance") (Ff X.K T):=by
 rintro pins s σ H xs us Q I r ⟨O,x,d,ex,td,hd,q⟩;subst ex;obtain⟨u,w',rfl,rx,rt⟩:=vals2 r;cases rt;have e:=ok d td;have fin:∀tk,EP X pins σ Q (.bool (zT T d)) {s with toks:=tk}:=λtk=>⟨.bl _,H,I.tok _,rfl,q⟩
 cases cn I td (hd.mono (ai H O)) rx with
 |non=>exact Ka PySem.W.kitx_none I.kIn True.intro e (λz=>nomatch z) fin
 |bl b=>exact Ka PySem.W.kitx_bool I.kIn True.intro e (λz=>nomatch z) fin
 |int i t=>exact Ka PySem.W.kitx_int I.kIn True.intro e (λz=>nomatch z) fin
 |str y t=>exact Ka PySem.W.kitx_str I.kIn True.intro e (λz=>nomatch z) fin
 |tup h rv t=>
  obtain⟨o,h1,h2,_⟩:=t;exact Ka PySem.W.kitx_tuple I.kIn ⟨o,h1,h2⟩ e (λz=>nomatch z) fin
 |lst h rv t=>
  obtain⟨o,h1,h2,_⟩:=t;exact Ka PySem.W.kitx_list I.kIn ⟨o,h1,h2⟩ e (λz=>nomatch z) fin
theorem vC:KW "isinstance"=some (.builtin "isinstance"):=by first|rfl|decide +kernel
noncomputable def xk(T:String)(d:D):aQ:=if top d then some (.bl (zT T d))else none
noncomputable def qi(T:String)(f:FX):FX:=f1 (xk T) f
end
section
variable{X:Cx}{a:KJ}{f:FX}{pos:Pos}
noncomputable def isNon:D->Bool
 |.non=>true
 |_=>false
noncomputable def Fx(d:D):aQ:=some (.bl (isNon d))
noncomputable def Dr(d:D):aQ:=some (.bl (!isNon d))
noncomputable def FJ(f:FX):FX:=f1 Fx f
noncomputable def DX(f:FX):FX:=f1 Dr f
end
noncomputable def Walk(K:J1)(Hd:Hp)(J:It)(ds:List D):Prop:=
 ∀(Hn:Hp)(O':ah)(i:Nat),bL Hn O'->aD Hd (hid Hn O')->(∀d,ds[i]?=some d->J.go i Hn/\∀x H2,J.yld i Hn x H2->aD Hn H2/\bH K (hid H2 O') d x)/\(i=ds.length->J.stop i Hn)
noncomputable def Ew(X:Cx)(G:aL):TI:=λσ H RR=>∃O ρ,bX X.K O H ρ σ/\gk X σ O H (G ρ) λds=>∀J H1,aD H H1->Walk X.K (hid H1 O) J ds->RR J H1
noncomputable def FI(X:Cx)(tg iter:KJ)(G:aL):Prop:=PI X tg iter (Ew X G)
noncomputable def lh:D->ii
 |.lst xs=>some xs
 |.tup xs=>some xs
 |_=>none
noncomputable def cT(f:FX):aL:=λρ=>(f ρ).bind λd=>rO (lh d)
section
variable{X:Cx}{tg:KJ}
theorem uJ{K:J1}{Hd:Hp}{a:KI}{ds:List D}{vs:az}(h:jA K Hd a vs)(g:av K Hd ds vs):Walk K Hd (Fu K a) ds:=λHn O' i hO s=>
  have s':aD Hd Hn:=s.trans (ai Hn O')
  ⟨fun d e=>by
    obtain⟨v,ev,dv⟩:=g.get e;refine⟨⟨vs,v,s'.seq h,ev⟩,λx H2 zq=>zq.elim λe2 y=>?_⟩;have q:=y vs (s'.seq h);rw[ev]at q;cases q;subst e2;exact⟨aD.refl _,dv.mono s⟩,
   λhl=>⟨vs,s'.seq h,by rw[<-g.length];exact HH hl.symm⟩⟩
theorem wt{K:J1}{Hd:Hp}{a:KI}{ds:List D}{vs:az}(h:Hd a=some (.tup vs))(g:av K Hd ds vs):Walk K Hd (Fv K a) ds:=λHn O' i hO s=>
  have s':aD Hd Hn:=s.trans (ai Hn O')
  ⟨fun d e=>by
    obtain⟨v,ev,dv⟩:=g.get e;refine⟨⟨vs,v,aX s' h,ev⟩,λx H2 zq=>zq.elim λe2 y=>?_⟩;have q:=y vs (aX s' h);rw[ev]at q;cases q;subst e2;exact⟨aD.refl _,dv.mono s⟩,
   λhl=>⟨vs,aX s' h,by rw[<-g.length];exact HH hl.symm⟩⟩
noncomputable def bi(lo:Int)(n:Nat):List D:=(List.range n).map λ(k:Nat)=>D.int (lo+(k:Int))
theorem lU(lo:Int)(n:Nat):(bi lo n).length=n:=by unfold bi;rw[Hx,Il]
theorem qY{K:J1}{Hd:Hp}(lo:Int)(n:Nat):Walk K Hd (Eu lo n) (bi lo n):=λHn O' i hO s=>
  ⟨fun d e=>by
    unfold bi at e;rw[Ht]at e;cases hi:(List.range n)[i]? with
    |none=>rw[hi]at e;cases e
    |some k=>
      rw[hi]at e;cases e;have hlt:i<n:=by
        have:=(List.getElem?_eq_some_iff.mp hi).1
        rwa [Il]at this
      have ek:k=i:=by
        rw[Io hlt]at hi;exact(Option.some.inj hi).symm
      subst ek;exact⟨hlt,λx H2 zq=>zq.elim λe1 e2=>by subst e1;exact⟨aD.refl _,cX.mpr e2⟩⟩,
   λhl=>by rw[lU]at hl;exact HH hl.symm⟩
noncomputable def okR(j:Int):Bool:=decide (-(2^62)<=j/\j<2^62)
noncomputable def kB:List D->ii
 |[.int j]=>if okR j then some (bi 0 j.toNat)else none
 |_=>none
noncomputable def tK:List D->ii
 |[.int i,.int j]=>if okR i&&okR j then some (bi i (j-i).toNat)else none
 |_=>none
noncomputable def b6(f:aL):aL:=λρ=>(f ρ).bind λds=>rO (kB ds)
noncomputable def yp(f:aL):aL:=λρ=>(f ρ).bind λds=>rO (tK ds)
end
noncomputable abbrev GF:=D->af->Option af
noncomputable def Dt(K:J1)(g:GF):TG:=λv σ H Q=>∃O ρ d ρ',bX K O H ρ σ/\bH K (hid H O) d v/\g d ρ=some ρ'/\∀σ',bX K O H ρ' σ'->(∀(i:Nat) x,ρ'[i]?=some (some x)->(∀d,x≠.val d)->σ'[i]?=σ[i]?/\ρ[i]?=some (some x))->Q σ' H
noncomputable def FG(X:Cx)(tg:KJ)(g:GF):Prop:=PG X tg (Dt X.K g)
noncomputable def setV(i:Nat)(d:D)(ρ:af):af:=ρ.set i (some (.val d))
theorem au{α:Type}{l:List α}{i j:Nat}{a b:α}(h:(l.set i a)[j]?=some b):(j=i/\b=a)\/(j≠i/\l[j]?=some b):=by
 by_cases e:j=i
 ·subst e;left;have hj:j<(l.set j a).length:=(List.getElem?_eq_some_iff.mp h).1;rw[Ip]at hj;rw[He hj]at h;exact⟨rfl,(Option.some.inj h).symm⟩
 ·right;rw[Hf (Ne.symm e)]at h;exact⟨e,h⟩
theorem bX.setV{K:J1}{O:ah}{H:Hp}{ρ:af}{σ:St}(E:bX K O H ρ σ){i:Nat}{d:D}{v:V}(hi:i<σ.length)(hd:bH K (hid H O) d v):bX K O H (setV i d ρ) (σ.set i (some v)):=
  ⟨fun j d' e=>by
    rcases au e with⟨hj,eq⟩|⟨ne,eq⟩
    ·cases eq;rw[hj];exact⟨v,He hi,hd⟩
    · obtain⟨w,e1,e2⟩:=E.val j d' eq
      exact⟨w,by rw[Hf (Ne.symm ne)];exact e1,e2⟩,
   λj xs e=>by
    rcases au e with⟨_,eq⟩|⟨ne,eq⟩
    ·cases eq
    · obtain⟨a,e1,e2⟩:=E.own j xs eq
      exact⟨a,by rw[Hf (Ne.symm ne)];exact e1,e2⟩,
   λj k xs ys a e1 e2 e3 e4=>by
    rcases au e1 with⟨_,q1⟩|⟨ne1,q1⟩
    ·cases q1
    · rcases au e2 with⟨_,q2⟩|⟨ne2,q2⟩
      ·cases q2
      · rw[Hf (Ne.symm ne1)]at e3
        rw[Hf (Ne.symm ne2)]at e4;exact E.one j k xs ys a q1 q2 e3 e4,E.all⟩
section
variable{X:Cx}{pos:Pos}
noncomputable def gN(i:Nat):GF:=λd ρ=>some (setV i d ρ)
noncomputable abbrev xP:=List D->af->Option af
noncomputable def EZ(K:J1)(g:xP):De:=λvs σ H Q=>∃O ρ ds ρ',bX K O H ρ σ/\av K (hid H O) ds vs/\g ds ρ=some ρ'/\∀σ',bX K O H ρ' σ'->(∀(i:Nat) x,ρ'[i]?=some (some x)->(∀d,x≠.val d)->σ'[i]?=σ[i]?/\ρ[i]?=some (some x))->Q σ' H
noncomputable def Gw(X:Cx)(ts:aY)(g:xP):Prop:=EC X ts (EZ X.K g)
noncomputable def Az:xP:=λds ρ=>match ds with
 |[]=>some ρ
 |_=>none
noncomputable def xK(g:GF)(h:xP):xP:=λds ρ=>match ds with
 |d::r=>(g d ρ).bind λρ1=>h r ρ1
 |_=>none
noncomputable def gT(n:Nat)(g:xP):GF:=λd ρ=>match d with
 |.tup xs=>if xs.length=n then g xs ρ else none
 |_=>none
end
noncomputable def sZ{α:Type}(r:R α):R α:=match r with
 |.ok a=>.ok a
 |.error _=>un
theorem v3{α:Type}{r:R α}{a:α}(h:sZ r=.ok a):r=.ok a:=by
 cases r with
 |ok b=>exact h
 |error z=>cases h
noncomputable def inB(ix:c7)(ρ:af):af:=ix.map λo=>match o with
 |some i=>match ρ[i]? with
  |some (some (.val d))=>some (.val d)
  |_=>none
 |none=>none
noncomputable def qH(ρ:af)(g:GF)(C:aZ)(Fe:FX):List D->R (List D)
 |[]=>.ok []
 |d::ds=>(rO (g d ρ)).bind λρ1=>(sZ (C ρ1)).bind λc=>if c then(sZ (Fe ρ1)).bind λv=>(qH ρ g C Fe ds).bind λr=>.ok (v::r)else qH ρ g C Fe ds
theorem kN(ρ:af)(g:GF)(C:aZ)(Fe:FX)(d:D)(ds:List D):qH ρ g C Fe (d::ds)=(rO (g d ρ)).bind λρ1=>(sZ (C ρ1)).bind λc=>if c then(sZ (Fe ρ1)).bind λv=>(qH ρ g C Fe ds).bind λr=>.ok (v::r)else qH ρ g C Fe ds:=rfl
noncomputable def fP(ix:c7)(G:aL)(g:GF)(C:aZ)(Fe:FX):FX:=λρ=>(G ρ).bind λds=>if small ds.length then sZ ((qH (inB ix ρ) g C Fe ds).bind λr=>.ok (.lst r))else un
noncomputable def Fw(X:Cx)(ifs:aY)(F:aZ):Prop:=Bb X ifs (EH X F)
noncomputable def ca:aZ:=λ_=>.ok true
theorem yt{X:Cx}:Fw X [] ca:=λpins s σ H Q I zq=>zq.elim λO zq=>zq.elim λρ zq=>zq.elim λE q=>yK pins s σ H Q I (q H (aD.refl H))
theorem iH{ix:c7}{ρ:af}{j:Nat}{x:S}(e:(inB ix ρ)[j]?=some (some x)):∃i d,ix[j]?=some (some i)/\ρ[i]?=some (some (.val d))/\x=.val d:=by
 unfold inB at e;rw[Ht]at e;cases q:ix[j]? with
 |none=>rw[q]at e;cases e
 |some o=>
  rw[q]at e;cases o with
  |none=>cases e
  |some i=>
   have e':(match ρ[i]? with|some (some (.val d))=>some (S.val d)|_=>none)=some x:=Option.some.inj e;split at e'
   ·rename_i d hd;cases e';exact⟨i,d,rfl,hd,rfl⟩
   ·cases e'
theorem z4{K:J1}{O:ah}{H:Hp}{ρ:af}{σ:St}(ix:c7)(E:bX K O H ρ σ):bX K O H (inB ix ρ) (inBlock ix σ):=by
 refine⟨λj d e=>?_,λj xs e=>?_,λj k xs ys a e=>?_,E.all⟩
 ·obtain⟨i,d',q1,q2,q3⟩:=iH e;cases q3;obtain⟨v,e1,e2⟩:=E.val i d q2;refine⟨v,?_,e2⟩;unfold inBlock;rw[Ht,q1];show some ((σ[i]?).getD none)=some (some v);rw[e1];rfl
 ·obtain⟨_,_,_,_,q3⟩:=iH e;cases q3
 ·obtain⟨_,_,_,_,q3⟩:=iH e;cases q3
theorem eI{H:Hp}{O:ah}{p:KI}{o:HO}(hp:H p=none):aD (hid H O) (hid (upd H p o) (p::O)):=λb u h=>by
 unfold hid at h ⊢;by_cases hb:b∈O
 ·rw[if_pos hb]at h;cases h
 ·rw[if_neg hb]at h;have ne:=aN h hp;rw[if_neg (by intro z;rcases List.mem_cons.mp z with z|z;exact ne z;exact hb z),aq ne];exact h
theorem bX.hideNew{K:J1}{O:ah}{H:Hp}{ρ:af}{σ:St}{p:KI}{o:HO}(m:kf o)(E:bX K O H ρ σ)(hp:H p=none):bX K (p::O) (upd H p o) ρ σ:=by
 have s:aD (hid H O) (hid (upd H p o) (p::O)):=eI hp;refine⟨λi d e=>let ⟨v,a,b⟩:=E.val i d e;⟨v,a,b.mono s⟩,λi xs e=>?_,E.one,(E.all.same (bh hp o)).cons ao m⟩;obtain⟨a,e1,e2,e3⟩:=E.own i xs e;obtain⟨u,hu⟩:=e3.some;exact⟨a,e1,Ha _ e2,e3.mono (by rw[aq (aN hu hp)]) s⟩
theorem bX.rewrite{K:J1}{O:ah}{H:Hp}{ρ:af}{σ:St}{p:KI}{o:HO}(m:kf o)(E:bX K O H ρ σ)(hp:p∈O)(hs:∀(i:Nat) xs,ρ[i]?=some (some (.own xs))->σ[i]?≠some (some (.ref p))):bX K O (upd H p o) ρ σ:=by
 have s:aD (hid H O) (hid (upd H p o) O):=dI hp;refine⟨λi d e=>let ⟨v,a,b⟩:=E.val i d e;⟨v,a,b.mono s⟩,λi xs e=>?_,E.one,E.all.upd hp m⟩;obtain⟨a,e1,e2,e3⟩:=E.own i xs e;have ne:a≠p:=λz=>hs i xs e (by rw[<-z];exact e1);exact⟨a,e1,e2,e3.mono (by rw[aq ne]) s⟩
theorem bX.forget{K:J1}{O:ah}{H:Hp}{ρ ρ':af}{σ:St}(E:bX K O H ρ σ)(h:∀(i:Nat) x,ρ'[i]?=some (some x)->ρ[i]?=some (some x)):bX K O H ρ' σ:=
 ⟨λi d e=>E.val i d (h i _ e),λi xs e=>E.own i xs (h i _ e),λi j xs ys a e1 e2=>E.one i j xs ys a (h i _ e1) (h j _ e2),E.all⟩
noncomputable def Fills(ρ:af)(g:GF):Prop:=∀d ρ1,g d ρ=some ρ1->∀(i:Nat) x,ρ[i]?=some (some x)->ρ1[i]?=some (some x)
theorem nN(ix:c7)(ρ:af):∀(i:Nat) xs,(inB ix ρ)[i]?≠some (some (.own xs)):=by
 intro j xs e;obtain⟨_,_,_,_,q3⟩:=iH e;cases q3
theorem Dy{α:Type}{o:Option α}{a:α}(h:rO o=.ok a):o=some a:=by
 cases o with
 |none=>cases h
 |some b=>cases h;rfl
end TG
namespace TG
open PySem PySem.Spec L2
variable[aj]
section
variable{X:Cx}{elt tg iter:KJ}{ifs:aY}{scope:KZ}{pos:Pos}{N:aK}{ix:c7}{G:aL}{g:GF}{C:aZ}{Fe:FX}
structure j8(ix:c7)(g:GF):Prop where
 fill:∀ρ,Fills (inB ix ρ) g
 own:∀ρ d ρ1,g d (inB ix ρ)=some ρ1->∀(i:Nat) xs,ρ1[i]?≠some (some (.own xs))
theorem oY{ρ:af}{i:Nat}(h:ix[i]?=some none):∀x,(inB ix ρ)[i]?≠some (some x):=λx e=>by
 obtain⟨_,_,q,_⟩:=iH e;rw[h]at q;cases q
theorem gJ{i:Nat}(h:ix[i]?=some none):j8 ix (gN i):=
  ⟨fun ρ d ρ1 e j x q=>by
    cases e;by_cases z:j=i
    ·subst z;exact absurd q (oY h x)
    ·unfold setV;rw[Hf (Ne.symm z)];exact q,
   λρ d ρ1 e j xs q=>by
    cases e;rcases au q with⟨_,z⟩|⟨_,z⟩
    ·cases z
    ·exact nN ix ρ j xs z⟩
noncomputable def zS(ix:c7)(is:aP):Bool:=is.all λi=>match ix[i]? with
 |some none=>true
 |_=>false
noncomputable def wv:aP->xP
 |[]=>Az
 |i::is=>xK (gN i) (wv is)
theorem sk:∀(is:aP)(ds:List D)(ρ ρ1:af),wv is ds ρ=some ρ1->∀(k:Nat)(x:S),ρ1[k]?=some (some x)->(k∈is/\∃d,x=.val d)\/ρ[k]?=some (some x)
 |[],ds,ρ,ρ1,h,k,x,e=>by
  cases ds with
  |nil=>cases h;exact .inr e
  |cons _ _=>cases h
 |i::is,ds,ρ,ρ1,h,k,x,e=>by
  cases ds with
  |nil=>cases h
  |cons d ds=>
   rcases sk is ds (setV i d ρ) ρ1 h k x e with⟨a,b⟩|q
   ·exact .inl ⟨Ha _ a,b⟩
   ·rcases au q with⟨z,w⟩|⟨_,w⟩
    ·exact .inl ⟨by rw[z];exact G9,d,Option.some.inj w⟩
    ·exact .inr w
theorem pq:∀(is:aP)(ds:List D)(ρ ρ1:af),wv is ds ρ=some ρ1->∀(k:Nat)(x:S),k∉is->ρ[k]?=some (some x)->ρ1[k]?=some (some x)
 |[],ds,ρ,ρ1,h,k,x,_,e=>by
  cases ds with
  |nil=>cases h;exact e
  |cons _ _=>cases h
 |i::is,ds,ρ,ρ1,h,k,x,n,e=>by
  cases ds with
  |nil=>cases h
  |cons d ds=>
   refine pq is ds (setV i d ρ) ρ1 h k x (λz=>n (Ha _ z)) ?_;unfold setV;rw[Hf (λz=>n (by rw[z];exact G9))];exact e
theorem fw{is:aP}{n:Nat}(h:zS ix is=true):j8 ix (gT n (wv is)):=by
 have hn:∀i∈is,ix[i]?=some none:=λi hi=>by
  have:=List.all_eq_true.mp h i hi
  cases e:ix[i]? with
  |none=>rw[e]at this;cases this
  |some o=>cases o with
   |none=>rfl
   |some _=>rw[e]at this;cases this
 have shape:∀ρ d ρ1,gT n (wv is) d ρ=some ρ1->∃ds,wv is ds ρ=some ρ1:=λρ d ρ1 e=>by
  cases d with
  |tup xs=>
   have e':(if xs.length=n then wv is xs ρ else none)=some ρ1:=e;by_cases hl:xs.length=n
   ·rw[if_pos hl]at e';exact⟨xs,e'⟩
   ·rw[if_neg hl]at e';cases e'
  |_=>cases e
 refine⟨λρ d ρ1 e k x q=>?_,λρ d ρ1 e k xs q=>?_⟩
 ·obtain⟨ds,e⟩:=shape _ d ρ1 e;exact pq is ds _ ρ1 e k x (λz=>oY (hn k z) x q) q
 ·obtain⟨ds,e⟩:=shape _ d ρ1 e;rcases sk is ds _ ρ1 e k _ q with⟨_,d,z⟩|z
  ·cases z
  ·exact nN ix ρ k xs z
structure gR(X:Cx)(scope:KZ)(N:aK)(ix:c7):Prop where
 cell:∀y∈scope.names,y.2≠.cell
 kind:scope.kind=.function
 names:∀y∈scope.names,y.2=.local->scope.names.lookup y.1=some .local
 free:∀y∈scope.names,y.2=.free->X.env.scope.names.lookup y.1=some .cell\/X.env.scope.names.lookup y.1=some .free
 ix:n6 X.N N scope.names ix=true
noncomputable def fH(XS:kH)(XN:aK)(scope:KZ)(N:aK)(ix:c7):Bool:=
 scope.names.all (λy=>decide (y.2≠.cell))&&decide (scope.kind=.function)&&scope.names.all (λy=>decide (y.2≠.local)||decide (scope.names.lookup y.1=some .local)) &&
  scope.names.all (λy=>decide (y.2≠.free)||(decide (XS.lookup y.1=some .cell)||decide (XS.lookup y.1=some .free)))&&n6 XN N scope.names ix
theorem gR.of(h:fH X.env.scope.names X.N scope N ix=true):gR X scope N ix:=by
 unfold fH at h;simp only[HB]at h;obtain⟨⟨⟨⟨h1,h2⟩,h3⟩,h4⟩,h5⟩:=h;refine⟨λy hy=>of_decide_eq_true (List.all_eq_true.mp h1 y hy),of_decide_eq_true h2,λy hy e=>?_,λy hy e=>?_,h5⟩
 ·rcases Ig _ _ ▸ List.all_eq_true.mp h3 y hy with q|q
  ·exact absurd e (of_decide_eq_true q)
  ·exact of_decide_eq_true q
 ·rcases Ig _ _ ▸ List.all_eq_true.mp h4 y hy with q|q
  ·exact absurd e (of_decide_eq_true q)
  ·rcases Ig _ _ ▸ q with q|q
   ·exact .inl (of_decide_eq_true q)
   ·exact .inr (of_decide_eq_true q)
noncomputable def Gm(X:Cx)(scope:KZ)(N:aK)(tg elt:KJ)(ifs:aY)(g:GF)(C:aZ)(Fe:FX):Prop:=
 ∀cl C' fp s H E,FG (aR X scope N cl C' fp s H E) tg g/\Fw (aR X scope N cl C' fp s H E) ifs C/\FE (aR X scope N cl C' fp s H E) elt Fe
noncomputable def zL(K:J1)(F:aZ):TT:=λσ H Q=>∃O ρ b,bX K O H ρ σ/\F ρ=.ok b/\∀H',aD H H'->Q b H'
noncomputable def EY(K:J1)(F:FX):TE:=λσ H Q=>∃O ρ d,bX K O H ρ σ/\F ρ=.ok d/\∀v H',aD H H'->bH K (hid H' O) d v->Q v H'
theorem Gm.k(hb:Gm X scope N tg elt ifs g C Fe):∀cl C' fp s H E,PG (aR X scope N cl C' fp s H E) tg (Dt X.K g)/\Bb (aR X scope N cl C' fp s H E) ifs (zL X.K C)/\PE (aR X scope N cl C' fp s H E) elt (EY X.K Fe):=λcl C' fp s H E=>by
 obtain⟨h1,h2,h3⟩:=hb cl C' fp s H E;refine⟨h1,λpins s σ H Q I zq=>zq.elim λO zq=>zq.elim λρ zq=>zq.elim λb zq=>zq.elim λe1 zq=>zq.elim λe2 q=>h2 pins s σ H Q I ⟨O,ρ,e1,by rw[e2];exact q⟩,λpins s σ H Q I zq=>zq.elim λO zq=>zq.elim λρ zq=>zq.elim λd zq=>zq.elim λe1 zq=>zq.elim λe2 q=>h3 pins s σ H Q I ⟨O,ρ,e1,by rw[e2];exact q⟩⟩
noncomputable def Fb(X:Cx)(F:FX):TE:=λσ H Q=>∃O ρ,bX X.K O H ρ σ/\gk X σ O H (F ρ) λd=>∀D H' total acc,d=.lst total->aD H H'->H D=none->H' D=some (.lst acc)->av X.K (hid H' (D::O)) total acc->Q (.ref D) H'
theorem Ft{F:FX}:∀σ H Q,tF X F σ H Q->Fb X F σ H Q:=λσ H Q zq=>zq.elim λO zq=>zq.elim λρ zq=>zq.elim λE hF=>⟨O,ρ,E,hF.imp λd q D H' total acc e sm hD hD' dn=>by
 subst e;have DO:D∉O:=E.all.not hD;exact q _ H' sm (bn.mpr ⟨D,acc,rfl,jA.of (by rw[dR DO];exact hD'),dn.mono (f9 λa ha=>Ha _ ha)⟩)⟩
theorem wU(tk:j8 ix g):∀σ H Q,Fb X (fP ix G g C Fe) σ H Q->EI (Ew X G) (Dt X.K g) (zL X.K C) (EY X.K Fe) ix σ H Q:=λσ H Q zq=>zq.elim λO zq=>zq.elim λρ zq=>zq.elim λE hF=>by
 refine⟨O,ρ,E,(gk.bind hF).imp λds hF=>?_⟩;have hz:small ds.length=true:=by
  cases e:small ds.length with
  |true=>rfl
  |false=>rw[e]at hF;exact hF.elim
 rw[hz,if_pos rfl]at hF;cases hL:qH (inB ix ρ) g C Fe ds with
 |error z=>rw[hL]at hF;exact hF.elim
 |ok total=>
 rw[hL]at hF;have q:∀D H' total' acc,TG.D.lst total=.lst total'->aD H H'->H D=none->H' D=some (.lst acc)->av X.K (hid H' (D::O)) total' acc->Q (.ref D) H':=hF;have e2:=hL;have hfill:=tk.fill;have hown:=tk.own;refine λJ H1 s1 wk D hD=>?_;have E1:bX X.K (D::O) (upd H1 D (.lst [])) (inB ix ρ) (inBlock ix σ):=((z4 ix E).same s1).hideNew trivial hD;have DO:D∉O:=(E.all.same s1).not hD;refine⟨λi m σ' H'=>m=ds.length-i/\i<=ds.length/\aD H1 H'/\bX X.K (D::O) H' (inB ix ρ) σ'/\∃acc dn rest,H' D=some (.lst acc)/\acc.length<=i/\av X.K (hid H' (D::O)) dn acc/\qH (inB ix ρ) g C Fe (ds.drop i)=.ok rest/\dn++rest=total,
  ⟨ds.length,by rw[Im],HP _,bh hD _,E1,[],[],total,ao,Hi _,bB.mpr rfl,by rw[HY];exact e2,rfl⟩,?_⟩
 rintro i m σ' H' ⟨rfl,hi,sm,E',acc,dn,rest,hacc,hlen,hdn,hrest,htot⟩;have sH:aD (hid H1 O) (hid H' (D::O)):=λb o h=>by
  have h2:=sm b o (ai H1 O b o h);unfold hid at h ⊢;by_cases hb:b∈O
  ·rw[if_pos hb]at h;cases h
  ·rw[if_neg hb]at h;have ne:b≠D:=aN h hD;rw[if_neg (by intro z;rcases List.mem_cons.mp z with z|z;exact ne z;exact hb z)];exact h2
 by_cases hlt:i<ds.length
 ·right;obtain⟨go,yl⟩:=(wk H' (D::O) i E'.all sH).1 ds[i] (by simp[hlt]);refine⟨go,λx H2 y=>?_⟩;obtain⟨s2,dx'⟩:=yl x H2 y;have E':=E'.same s2;have sm:=sm.trans s2;have hacc:=s2 _ _ hacc;have hdn:=hdn.mono (aU s2);rw[Iq hlt,kN]at hrest;obtain⟨ρ1,g1,hrest⟩:=kD hrest;have g1:=Dy g1;obtain⟨c,c1,hrest⟩:=kD hrest;have c1:=v3 c1;refine⟨D::O,inB ix ρ,ds[i],ρ1,E',dx',g1,λσ3 E3 _=>?_⟩;refine⟨D::O,ρ1,c,E3,c1,λH4 s4=>?_⟩;have E4:=E3.same s4;have back:∀{H5:Hp},bX X.K (D::O) H5 ρ1 σ3->bX X.K (D::O) H5 (inB ix ρ) σ3:=λz=>z.forget λj x e=>hfill ρ _ _ g1 j x e;cases c with
  |true=>
   refine vx ?_;rw[if_pos rfl]at hrest;obtain⟨v,v1,hrest⟩:=kD hrest;have v1:=v3 v1;obtain⟨r,r1,hrest⟩:=kD hrest;cases hrest;refine⟨D::O,ρ1,v,E4,v1,λw H5 s5 dw=>?_⟩;have s45:=s4.trans s5;have ha5:H5 D=some (.lst acc):=s45 _ _ hacc;have hzl:ds.length<KS:=Ir (of_decide_eq_true hz) (by decide);refine⟨acc,ha5,by omega,ds.length-(i+1),by omega,rfl,hlt,?_,?_,acc++[w],dn++[v],r,ao,by rw[Hw,HD];omega,?_,r1,by rw[Iu];exact htot⟩
   ·intro b o h;rw[aq (aN h hD)];exact s45 _ _ (sm _ _ h)
   ·exact back ((E3.same s45).rewrite trivial G9 λj xs e=>absurd e (hown ρ _ _ g1 j xs))
   ·have s6:aD (hid H5 (D::O)) (hid (upd H5 D (.lst (acc++[w]))) (D::O)):=dI G9;exact(hdn.mono ((aU s45).trans s6)).snoc (dw.mono s6)
  |false=>
   refine yN ?_;rw[if_neg Hg]at hrest;exact⟨ds.length-(i+1),by omega,rfl,hlt,sm.trans s4,back E4,acc,dn,rest,s4 _ _ hacc,by omega,hdn.mono (aU s4),hrest,htot⟩
 ·left;have ei:i=ds.length:=by omega
  subst ei;refine⟨(wk H' (D::O) ds.length E'.all sH).2 rfl,?_⟩;rw[Iw]at hrest;cases hrest;rw[Hl]at htot;subst htot;exact q D H' _ acc rfl (s1.trans sm) (s1.free hD) hacc hdn
theorem Ao(tk:j8 ix g):∀σ H Q,tF X (fP ix G g C Fe) σ H Q->EI (Ew X G) (Dt X.K g) (zL X.K C) (EY X.K Fe) ix σ H Q:=λσ H Q h=>wU tk σ H Q (Ft σ H Q h)
end
structure Ks where
 nx:af->R D
 bk:af->R D:=λ_=>un
 ct:af->R D:=λ_=>un
 ex:Ex->af->R D:=λx _=>.error (some x)
noncomputable abbrev bN:=Ks->af->R D
noncomputable def me{α:Type}(r:R α)(k:Ks)(ρ:af)(f:α->R D):R D:=match r with
 |.ok a=>f a
 |.error (some x)=>k.ex x ρ
 |.error none=>un
structure Base(Hb:Hp)(Ob:ah)(H:Hp)(O:ah):Prop where
 same:aD Hb H
 sub:∀a∈Ob,a∈O
 new:∀a∈O,a∈Ob\/Hb a=none
noncomputable def kP(K:J1)(H:Hp)(O:ah):ah->List D->Prop
 |[],[]=>True
 |b::bs,x::xs=>bS K H O b x/\kP K H O bs xs
 |_,_=>False
noncomputable def pG(K:J1)(H:Hp)(O:ah)(a:KI)(bs:ah)(d:D):Prop:=
 ∃xs,kP K H O bs xs/\((d=.lst xs/\H a=some (.lst (bs.map .ref)))\/(∃kvs:List (List Key×V),d=.dct (kvs.map λp=>.tup (p.1.map ax)) xs/\H a=some (.dT kvs)/\kvs.map (·.2)=bs.map .ref)\/(d=.dct [] xs/\bs=[]/\H a=some (.dK [])))
noncomputable def sW(K:J1)(Hb:Hp)(Ob O:ah)(H:Hp)(ρ:af)(σ:St)(i:Nat)(d:D):Prop:=
 ∃a bs,σ[i]?=some (some (.ref a))/\pG K H O a bs d/\(a::bs).Nodup/\(∀b∈a::bs,b∈O/\Hb b=none/\b∉Ob/\∀(j:Nat) d',ρ[j]?=some (some (.own d'))->σ[j]?≠some (some (.ref b)))/\∀(j:Nat) d',ρ[j]?=some (some (.nest d'))->j=i
theorem kP.mono{K:J1}{H H':Hp}{O O':ah}(s:aD (hid H O) (hid H' O')):∀{bs:ah}{xs:List D},kP K H O bs xs->(∀b∈bs,(∃o,H b=some o)->H' b=H b)->kP K H' O' bs xs
 |[],[],_,_=>trivial
 |b::bs,x::xs,h,e=>⟨h.1.mono (e b G9 h.1.some).symm s,kP.mono s h.2 λb' hb=>e b' (Ha _ hb)⟩
 |[],_::_,h,_=>h.elim
 |_::_,[],h,_=>h.elim
theorem kP.some{K:J1}{H:Hp}{O:ah}:∀{bs:ah}{xs:List D},kP K H O bs xs->∀b∈bs,∃o,H b=some o
 |[],_,_,_,hb=>nomatch hb
 |b::bs,x::xs,h,b',hb=>by
  rcases List.mem_cons.mp hb with z|z
  ·rw[z];exact h.1.some
  ·exact kP.some h.2 b' z
 |_::_,[],h,_,_=>h.elim
theorem pG.some{K:J1}{H:Hp}{O:ah}{a:KI}{bs:ah}{d:D}(h:pG K H O a bs d):∀b∈a::bs,∃o,H b=some o:=λb hb=>by
 obtain⟨xs,h1,h2⟩:=h;rcases List.mem_cons.mp hb with z|z
 ·rw[z];rcases h2 with⟨_,q⟩|⟨_,_,q,_⟩|⟨_,_,q⟩<;>exact⟨_,q⟩
 ·exact h1.some b z
theorem pG.mono{K:J1}{H H':Hp}{O O':ah}{a:KI}{bs:ah}{d:D}(h:pG K H O a bs d)(s:aD (hid H O) (hid H' O'))(e:∀b∈a::bs,(∃o,H b=Option.some o)->H' b=H b):pG K H' O' a bs d:=by
 have ea:=e a G9 (h.some a G9);obtain⟨xs,h1,h2⟩:=h;refine⟨xs,h1.mono s λb hb=>e b (Ha _ hb),?_⟩;rw[ea];exact h2
theorem sW.to{K:J1}{Hb Hb':Hp}{Ob O O':ah}{H H':Hp}{ρ ρ':af}{σ σ':St}{i:Nat}{d:D}(h:sW K Hb Ob O H ρ σ i d)(hσ:σ'[i]?=σ[i]?)(s:aD (hid H O) (hid H' O'))
  (k:∀b,b∈O->Hb b=none->b∉Ob->(∀(j:Nat) d',ρ[j]?=some (some (.own d'))->σ[j]?≠some (some (.ref b)))->(∃o,H b=some o)->H' b=H b/\b∈O'/\Hb' b=none/\∀(j:Nat) d',ρ'[j]?=some (some (.own d'))->σ'[j]?≠some (some (.ref b)))
  (n:∀(j:Nat) d',ρ'[j]?=some (some (.nest d'))->∃d2,ρ[j]?=some (some (.nest d2))):sW K Hb' Ob O' H' ρ' σ' i d:=by
 obtain⟨a,bs,h1,h2,h3,h4,h5⟩:=h;refine⟨a,bs,hσ.trans h1,h2.mono s λb hb ho=>?_,h3,λb hb=>?_,λj d' q=>?_⟩
 ·obtain⟨q1,q2,q3,q4⟩:=h4 b hb;exact(k b q1 q2 q3 q4 ho).1
 ·obtain⟨q1,q2,q3,q4⟩:=h4 b hb;obtain⟨_,w2,w3,w4⟩:=k b q1 q2 q3 q4 (h2.some b hb);exact⟨w2,w3,q3,w4⟩
 ·obtain⟨d2,q⟩:=n j d' q;exact h5 j d2 q
structure bx(K:J1)(Hb:Hp)(Ob O:ah)(H:Hp)(ρ:af)(σ:St):Prop where
 env:bX K O H ρ σ
 base:Base Hb Ob H O
 mine:∀(i:Nat) xs a,ρ[i]?=some (some (.own xs))->σ[i]?=some (some (.ref a))->Hb a=none/\a∉Ob
 nst:∀(i:Nat) d,ρ[i]?=some (some (.nest d))->sW K Hb Ob O H ρ σ i d
theorem Base.same'{Hb:Hp}{Ob:ah}{H H':Hp}{O:ah}(b:Base Hb Ob H O)(s:aD H H'):Base Hb Ob H' O:=⟨b.same.trans s,b.sub,b.new⟩
theorem bx.same{K:J1}{Hb:Hp}{Ob O:ah}{H H':Hp}{ρ:af}{σ:St}(h:bx K Hb Ob O H ρ σ)(s:aD H H'):bx K Hb Ob O H' ρ σ:=⟨h.env.same s,h.base.same' s,h.mine,λi d q=>(h.nst i d q).to rfl (aU s) (λb q1 q2 q3 q4 zq=>zq.elim λo ho=>⟨by rw[ho,s _ _ ho],q1,q2,q4⟩) λj d' z=>⟨d',z⟩⟩
theorem bx.after{K:J1}{Hb:Hp}{Ob O:ah}{H:Hp}{ρ ρ':af}{σ σ':St}(S:bx K Hb Ob O H ρ σ)(E':bX K O H ρ' σ')(own:∀(i:Nat) x,ρ'[i]?=some (some x)->(∀d,x≠.val d)->σ'[i]?=σ[i]?/\ρ[i]?=some (some x)):bx K Hb Ob O H ρ' σ':=
 ⟨E',S.base,fun i xs a q1 q2=>by
  obtain⟨w1,w2⟩:=own i _ q1 (λ_ z=>nomatch z);rw[w1]at q2;exact S.mine i xs a w2 q2,λi d q=>by
  obtain⟨w1,w2⟩:=own i _ q (λ_ z=>nomatch z);refine(S.nst i d w2).to w1 (λ_ _ z=>z) (λb q1 q2 q3 q4 _=>⟨rfl,q1,q2,λl d' w=>?_⟩) λl d' w=>⟨d',(own l _ w (λ_ z=>nomatch z)).2⟩
  obtain⟨z1,z2⟩:=own l _ w (λ_ z=>nomatch z);rw[z1];exact q4 l d' z2⟩
structure EW(X:Cx)(Hb:Hp)(Ob:ah)(E:Ends)(k:Ks)(r:R D):Prop where
 ne:r≠un
 nx:∀O ρ σ H,bx X.K Hb Ob O H ρ σ->k.nx ρ=r->E.nx σ H
 bk:∀O ρ σ H,bx X.K Hb Ob O H ρ σ->k.bk ρ=r->E.bk σ H
 ct:∀O ρ σ H,bx X.K Hb Ob O H ρ σ->k.ct ρ=r->E.ct σ H
 rt:∀d O v H,r=.ok d->Base Hb Ob H O->bH X.K (hid H O) d v->E.rt v H
 ex:∀O ρ σ H x,bx X.K Hb Ob O H ρ σ->k.ex x ρ=r->C9 X σ O H x
noncomputable def ED(X:Cx)(Hb:Hp)(Ob:ah)(F:bN):TS:=λE σ H=>∃O ρ k r,bx X.K Hb Ob O H ρ σ/\F k ρ=r/\EW X Hb Ob E k r
noncomputable def FS(X:Cx)(st:KL)(F:bN):Prop:=∀Hb Ob,PS X st (ED X Hb Ob F)
noncomputable def Gp(X:Cx)(st:cD)(F:bN):Prop:=∀Hb Ob,qV X st (ED X Hb Ob F)
theorem gk.on{X:Cx}{Hb:Hp}{Ob O:ah}{H:Hp}{ρ:af}{σ:St}{E:Ends}{k:Ks}{r:R D}{α:Type}{fr:R α}{G:α->R D}{Q:α->Prop}(h:me fr k ρ G=r)(hk:EW X Hb Ob E k r)(S:bx X.K Hb Ob O H ρ σ)(q:∀a,G a=r->Q a):gk X σ O H fr Q:=by
 match fr,h with
 |.ok a,h=>exact q a h
 |.error (some x),h=>exact hk.ex O ρ σ H x S h
 |.error none,h=>exact absurd h.symm hk.ne
section
variable{X:Cx}{st:KL}{rest body:cD}{pos:Pos}
noncomputable def cj:bN:=λk ρ=>k.nx ρ
noncomputable def bg(F1 F2:bN):bN:=λk ρ=>F1 {k with nx:=F2 k} ρ
noncomputable def cx(f:FX):bN:=λk ρ=>me (f ρ) k ρ .ok
noncomputable def DB:bN:=λ_ _=>.ok .non
noncomputable def jb(c:aZ)(A B:bN):bN:=λk ρ=>me (c ρ) k ρ λb=>if b then A k ρ else B k ρ
noncomputable def cq(i:Nat)(f:FX):bN:=λk ρ=>me (f ρ) k ρ λd=>k.nx (setV i d ρ)
theorem bx.setV{K:J1}{Hb:Hp}{Ob O:ah}{H:Hp}{ρ:af}{σ:St}(E:bx K Hb Ob O H ρ σ){i:Nat}{d:D}{v:V}(hi:i<σ.length)(hd:bH K (hid H O) d v):bx K Hb Ob O H (setV i d ρ) (σ.set i (some v)):=
  ⟨E.env.setV hi hd,E.base,fun j xs a e1 e2=>by
    rcases au e1 with⟨_,q⟩|⟨ne,q⟩
    ·cases q
    · rw[Hf (Ne.symm ne)]at e2
      exact E.mine j xs a q e2,
   λj dn e=>by
    rcases au e with⟨_,q⟩|⟨ne,q⟩
    ·cases q
    · refine(E.nst j dn q).to (Hf (Ne.symm ne)) (λ_ _ z=>z) (λb q1 q2 q3 q4 _=>⟨rfl,q1,q2,λl d' w=>?_⟩) λl d' w=>?_
      · rcases au w with⟨_,z⟩|⟨nl,z⟩
        ·cases z
        ·rw[Hf (Ne.symm nl)];exact q4 l d' z
      · rcases au w with⟨_,z⟩|⟨_,z⟩
        ·cases z
        ·exact⟨d',z⟩⟩
theorem mJ{f:FX}{i:Nat}(hi:i<X.N.length)(h:PS X st (yf (tF X f) (m5 i))):FS X st (cq i f):=λHb Ob pins s σ H E I zq=>zq.elim λO zq=>zq.elim λρ zq=>zq.elim λk zq=>zq.elim λr zq=>zq.elim λS zq=>zq.elim λhF hk=>
 h pins s σ H E I ⟨O,ρ,S.env,gk.on hF hk S λd e v H1 s1 d1=>hk.nx O _ _ H1 ((S.same s1).setV (by rw[I.len];exact hi) d1) e⟩
noncomputable def zp(f:FX)(g:GF):bN:=λk ρ=>me (f ρ) k ρ λd=>(rO (g d ρ)).bind k.nx
noncomputable def kill(is:aP)(ρ:af):af:=is.foldl (λρ i=>ρ.set i none) ρ
theorem eV:∀(is:aP)(ρ:af)(i:Nat)(x:S),(kill is ρ)[i]?=some (some x)->ρ[i]?=some (some x)
 |[],ρ,i,x,e=>e
 |j::is,ρ,i,x,e=>by
  rcases au (eV is (ρ.set j none) i x e)with⟨_,q⟩|⟨_,q⟩
  ·cases q
  ·exact q
theorem bx.kill{K:J1}{Hb:Hp}{Ob O:ah}{H:Hp}{ρ:af}{σ:St}(E:bx K Hb Ob O H ρ σ)(is:aP):bx K Hb Ob O H (kill is ρ) σ:=
 ⟨E.env.forget (eV is ρ),E.base,λi xs a e1 e2=>E.mine i xs a (eV is ρ i _ e1) e2,λi d q=>(E.nst i d (eV is ρ i _ q)).to rfl (λ_ _ z=>z) (λb q1 q2 q3 q4 _=>⟨rfl,q1,q2,λl d' w=>q4 l d' (eV is ρ l _ w)⟩) λl d' w=>⟨d',eV is ρ l _ w⟩⟩
noncomputable def fQ(is:aP)(F:bN):bN:=λk ρ=>F k (kill is ρ)
end
noncomputable def fO(g:GF)(B:bN)(k:Ks):List D->af->R D
 |[],ρ=>k.nx ρ
 |d::ds,ρ=>(rO (g d ρ)).bind λρ1=>B ⟨fO g B k ds,k.nx,fO g B k ds,k.ex⟩ ρ1
noncomputable def vh(G:aL)(g:GF)(B:bN):bN:=λk ρ=>me (G ρ) k ρ λds=>fO g B k ds ρ
noncomputable def lb(H:Hp)(O Ob:ah):Hp:=λb=>if b∈O/\b∉Ob then none else H b
theorem oy{H:Hp}{O Ob:ah}{b:KI}(h1:b∈O)(h2:b∉Ob):lb H O Ob b=none:=by unfold lb;rw[if_pos ⟨h1,h2⟩]
theorem zK{H:Hp}{O Ob:ah}{b:KI}{o:HO}(h:lb H O Ob b=some o):H b=some o/\¬(b∈O/\b∉Ob):=by
 unfold lb at h;split at h
 ·cases h
 ·rename_i n;exact⟨h,n⟩
theorem wB{H:Hp}{O Ob:ah}{b:KI}{o:HO}(h:H b=some o)(n:¬(b∈O/\b∉Ob)):lb H O Ob b=some o:=by unfold lb;rw[if_neg n];exact h
theorem Base.loop{Hb:Hp}{Ob:ah}{H:Hp}{O:ah}(b:Base Hb Ob H O):Base (lb H O Ob) Ob H O:=
 ⟨fun c o h=>(zK h).1,b.sub,fun a ha=>by
  by_cases h:a∈Ob
  ·exact .inl h
  ·exact .inr (oy ha h)⟩
theorem Base.back{Hb:Hp}{Ob:ah}{H H':Hp}{O O':ah}(b:Base Hb Ob H O)(b':Base (lb H O Ob) Ob H' O'):Base Hb Ob H' O':=by
 have up:aD Hb (lb H O Ob):=λc o h=>wB (b.same c o h) λzq=>zq.elim λz1 z2=>by
  rcases b.new c z1 with z|z
  ·exact z2 z
  ·rw[z]at h;cases h
 exact⟨up.trans b'.same,b'.sub,λa ha=>(b'.new a ha).imp id up.free⟩
theorem bx.loop{K:J1}{Hb:Hp}{Ob O:ah}{H:Hp}{ρ:af}{σ:St}(E:bx K Hb Ob O H ρ σ):bx K (lb H O Ob) Ob O H ρ σ:=
 ⟨E.env,E.base.loop,fun i xs a e1 e2=>by
  obtain⟨_,n⟩:=E.mine i xs a e1 e2;obtain⟨a',e3,e4,_⟩:=E.env.own i xs e1;rw[e2]at e3;cases e3;exact⟨oy e4 n,n⟩,λi d q=>(E.nst i d q).to rfl (λ_ _ z=>z) (λb q1 q2 q3 q4 _=>⟨rfl,q1,oy q1 q3,q4⟩) λl d' w=>⟨d',w⟩⟩
theorem bx.back{K:J1}{Hb:Hp}{Ob O O':ah}{H H':Hp}{ρ':af}{σ':St}(b:Base Hb Ob H O)(E:bx K (lb H O Ob) Ob O' H' ρ' σ'):bx K Hb Ob O' H' ρ' σ':=
 have up:aD Hb (lb H O Ob):=λc o h=>wB (b.same c o h) λzq=>zq.elim λz1 z2=>by
  rcases b.new c z1 with z|z
  ·exact z2 z
  ·rw[z]at h;cases h
 ⟨E.env,b.back E.base,fun i xs a e1 e2=>by
  obtain⟨z,n⟩:=E.mine i xs a e1 e2;exact⟨up.free z,n⟩,λi d q=>(E.nst i d q).to rfl (λ_ _ z=>z) (λb q1 q2 q3 q4 _=>⟨rfl,q1,up.free q2,q4⟩) λl d' w=>⟨d',w⟩⟩
theorem wQ{Hb:Hp}{Ob O O':ah}{H H':Hp}(b:Base Hb Ob H O)(b':Base (lb H O Ob) Ob H' O'):aD (hid H O) (hid H' O'):=λc o h=>by
 unfold hid at h ⊢;by_cases hc:c∈O
 ·rw[if_pos hc]at h;cases h
 ·rw[if_neg hc]at h;have h1:lb H O Ob c=some o:=wB h λz=>hc z.1;rw[if_neg]
  ·exact b'.same _ _ h1
  ·intro z;rcases b'.new c z with z|z
   ·exact hc (b.sub c z)
   ·rw[h1]at z;cases z
theorem EW.loop{X:Cx}{Hb:Hp}{Ob O:ah}{H:Hp}{E E':Ends}{k k':Ks}{r:R D}(hk:EW X Hb Ob E k r)(b:Base Hb Ob H O)(hn:∀O' ρ' σ' H',bx X.K (lb H O Ob) Ob O' H' ρ' σ'->k'.nx ρ'=r->E'.nx σ' H')(hc:∀O' ρ' σ' H',bx X.K (lb H O Ob) Ob O' H' ρ' σ'->k'.ct ρ'=r->E'.ct σ' H')
    (eb:k'.bk=k.nx) (ee:k'.ex=k.ex) (Eb:E'.bk=E.nx) (Er:E'.rt=E.rt):EW X (lb H O Ob) Ob E' k' r:=
  ⟨hk.ne,hn,fun O' ρ' σ' H' S e=>by rw [Eb]; exact hk.nx O' ρ' σ' H' (S.back b) (by rw [<- eb]; exact e),hc,fun d O' v H' e b' dv=>by rw [Er]; exact hk.rt d O' v H' e (b.back b') dv,
   λO' ρ' σ' H' x S e=>hk.ex O' ρ' σ' H' x (S.back b) (by rw[<-ee];exact e)⟩
section
variable{X:Cx}{st:KL}{rest body:cD}{pos:Pos}
noncomputable def cB(c:aZ)(B:bN)(k:Ks):Nat->af->R D
 |0,_=>un
 |n+1,ρ=>me (c ρ) k ρ λb=>if b then B ⟨cB c B k n,k.nx,cB c B k n,k.ex⟩ ρ else k.nx ρ
noncomputable def oA(n:Nat)(c:aZ)(B:bN):bN:=λk ρ=>cB c B k n ρ
end
end TG
namespace TG
open PySem PySem.Spec L2
variable[aj]
theorem bx.setO{K:J1}{Hb:Hp}{Ob O:ah}{H:Hp}{ρ:af}{σ:St}(E:bx K Hb Ob O H ρ σ){i:Nat}{d d':D}{a:KI}{o:HO}(hi:ρ[i]?=some (some (.own d)))(ha:σ[i]?=some (some (.ref a)))(m:kf o)(new:bS K (upd H a o) O a d'):
  bx K Hb Ob O (upd H a o) (ρ.set i (some (.own d'))) σ:=by
 obtain⟨a',ha',haO,hat⟩:=E.env.own i d hi;rw[ha]at ha';cases ha';obtain⟨m1,m2⟩:=E.mine i d a hi ha;have s:aD (hid H O) (hid (upd H a o) O):=dI haO;have own:∀(j:Nat) ys,(ρ.set i (some (.own d')))[j]?=some (some (.own ys))->∃ys',ρ[j]?=some (some (.own ys')):=λj ys q=>by
  rcases au q with⟨hj,_⟩|⟨_,q⟩
  ·rw[hj];exact⟨d,hi⟩
  ·exact⟨ys,q⟩
 refine⟨⟨λj d1 e=>?_,λj ys e=>?_,λj l ys zs b q1 q2 q3 q4=>?_,E.env.all.upd haO m⟩,⟨λb u h=>?_,E.base.sub,E.base.new⟩,λj ys b q1 q2=>?_,λj dn q=>?_⟩
 ·rcases au e with⟨_,q⟩|⟨ne,q⟩
  ·cases q
  ·obtain⟨w,q1,q2⟩:=E.env.val j d1 q;exact⟨w,q1,q2.mono s⟩
 ·rcases au e with⟨hj,q⟩|⟨ne,q⟩
  ·cases q;rw[hj];exact⟨a,ha,haO,new⟩
  ·obtain⟨b,q1,q2,q3⟩:=E.env.own j ys q;have nb:b≠a:=λz=>ne (E.env.one j i ys d a q hi (by rw[<-z];exact q1) ha);exact⟨b,q1,q2,q3.mono (by rw[aq nb]) s⟩
 ·obtain⟨_,q1'⟩:=own j ys q1;obtain⟨_,q2'⟩:=own l zs q2;exact E.env.one j l _ _ b q1' q2' q3 q4
 ·have nb:b≠a:=λz=>by rw[z,m1]at h;cases h
  rw[aq nb];exact E.base.same b u h
 ·obtain⟨ys',q⟩:=own j ys q1;exact E.mine j ys' b q q2
 ·have q:ρ[j]?=some (some (.nest dn)):=by
   rcases au q with⟨_,z⟩|⟨_,z⟩
   ·cases z
   ·exact z
  refine(E.nst j dn q).to rfl s (λb q1 q2 q3 q4 _=>⟨aq λz=>q4 i d hi (by rw[z];exact ha),q1,q2,λl d1 w=>?_⟩) λl d1 w=>?_
  ·obtain⟨_,w'⟩:=own l d1 w;exact q4 l _ w'
  ·rcases au w with⟨_,z⟩|⟨_,z⟩
   ·cases z
   ·exact⟨d1,z⟩
theorem bx.setNew{K:J1}{Hb:Hp}{Ob O:ah}{H H':Hp}{ρ:af}{σ:St}(E:bx K Hb Ob O H ρ σ){i:Nat}{d:D}{p:KI}(hi:i<σ.length)(sm:aD H H')(hp:H p=none)(m:∃o,H' p=some o/\kf o)(new:bS K H' (p::O) p d):
  bx K Hb Ob (p::O) H' (ρ.set i (some (.own d))) (σ.set i (some (.ref p))):=by
 have hpO:p∉O:=E.env.all.not hp;have s:aD (hid H O) (hid H' (p::O)):=λb o h=>by
  unfold hid at h ⊢;by_cases hb:b∈O
  ·rw[if_pos hb]at h;cases h
  ·rw[if_neg hb]at h;have ne:=aN h hp;rw[if_neg (by intro z;rcases List.mem_cons.mp z with z|z;exact ne z;exact hb z)];exact sm _ _ h
 have other:∀(j:Nat) xs,ρ[j]?=some (some (.own xs))->σ[j]?≠some (some (.ref p)):=λj xs e z=>by
  obtain⟨a,e1,e2,e3⟩:=E.env.own j xs e;rw[z]at e1;cases e1;obtain⟨o,e3⟩:=e3.some;rw[hp]at e3;cases e3
 refine⟨⟨λj d' e=>?_,λj xs e=>?_,λj k xs ys a e1 e2 e3 e4=>?_,⟨(E.env.all.same sm).1,λa ha=>?_⟩⟩,⟨E.base.same.trans sm,λa ha=>Ha _ (E.base.sub a ha),λa ha=>?_⟩,λj xs a e1 e2=>?_,λj dn e=>?_⟩
 ·rcases au e with⟨_,q⟩|⟨ne,q⟩
  ·cases q
  ·obtain⟨v,q1,q2⟩:=E.env.val j d' q;exact⟨v,by rw[Hf (Ne.symm ne)];exact q1,q2.mono s⟩
 ·rcases au e with⟨hj,q⟩|⟨ne,q⟩
  ·cases q;rw[hj];exact⟨p,He hi,G9,new⟩
  ·obtain⟨a,q1,q2,q3⟩:=E.env.own j xs q;obtain⟨o,ho⟩:=q3.some;exact⟨a,by rw[Hf (Ne.symm ne)];exact q1,Ha _ q2,q3.mono (iU sm ho) s⟩
 ·rcases au e1 with⟨hj,q1⟩|⟨nj,q1⟩
  ·rcases au e2 with⟨hk,q2⟩|⟨nk,q2⟩
   ·exact hj.trans hk.symm
   ·rw[hj,He hi]at e3;cases e3;rw[Hf (Ne.symm nk)]at e4;exact absurd e4 (other k ys q2)
  ·rcases au e2 with⟨hk,q2⟩|⟨nk,q2⟩
   ·rw[hk,He hi]at e4;cases e4;rw[Hf (Ne.symm nj)]at e3;exact absurd e3 (other j xs q1)
   ·rw[Hf (Ne.symm nj)]at e3;rw[Hf (Ne.symm nk)]at e4;exact E.env.one j k xs ys a q1 q2 e3 e4
 ·rcases List.mem_cons.mp ha with rfl|ha
  ·exact m
  ·exact(E.env.all.same sm).2 a ha
 ·rcases List.mem_cons.mp ha with rfl|ha
  ·exact .inr (E.base.same.free hp)
  ·exact E.base.new a ha
 ·rcases au e1 with⟨hj,q1⟩|⟨nj,q1⟩
  ·rw[hj,He hi]at e2;cases e2;exact⟨E.base.same.free hp,λz=>hpO (E.base.sub p z)⟩
  ·rw[Hf (Ne.symm nj)]at e2;exact E.mine j xs a q1 e2
 ·rcases au e with⟨_,q⟩|⟨ne,q⟩
  ·cases q
  ·refine(E.nst j dn q).to (Hf (Ne.symm ne)) s (λb q1 q2 q3 q4 zq=>zq.elim λo ho=>⟨by rw[ho,sm _ _ ho],Ha _ q1,q2,λl d1 w=>?_⟩) λl d1 w=>?_
   ·rcases au w with⟨hl,z⟩|⟨nl,z⟩
    ·rw[hl,He hi];intro z;cases z;rw[hp]at ho;cases ho
    ·rw[Hf (Ne.symm nl)];exact q4 l d1 z
   ·rcases au w with⟨_,z⟩|⟨_,z⟩
    ·cases z
    ·exact⟨d1,z⟩
noncomputable def Gf(X:Cx)(F:FX):TE:=λσ H Q=>∃O ρ,bX X.K O H ρ σ/\gk X σ O H (F ρ) λd=>∀p H',aD H H'->H p=none->(∃o,H' p=some o/\kf o)->bS X.K H' (p::O) p d->Q (.ref p) H'
noncomputable def FN(X:Cx)(e:KJ)(F:FX):Prop:=PE X e (Gf X F)
section
variable{X:Cx}{pos:Pos}
theorem qg{K:J1}{H:Hp}{O:ah}{p:KI}{ds:List D}{vs:az}(hp:H p=none)(d:av K (hid H O) ds vs):bS K (upd H p (.lst vs)) (p::O) p (.lst ds):=⟨_,vs,ao,rfl,d.mono (eI hp)⟩
noncomputable def pN(i:Nat)(f:FX):bN:=λk ρ=>me (f ρ) k ρ λd=>k.nx (ρ.set i (some (.own d)))
theorem nh{st:KL}{f:FX}{i:Nat}(hi:i<X.N.length)(h:PS X st (yf (Gf X f) (m5 i))):FS X st (pN i f):=λHb Ob pins s σ H E I zq=>zq.elim λO zq=>zq.elim λρ zq=>zq.elim λk zq=>zq.elim λr zq=>zq.elim λS zq=>zq.elim λhF hk=>
 h pins s σ H E I ⟨O,ρ,S.env,gk.on hF hk S λd e p H1 s1 hp m o=>hk.nx _ _ _ H1 (S.setNew (by rw[I.len];exact hi) s1 hp m o) e⟩
end
theorem AC{X:Cx}{F:FX}:∀σ H Q,Gf X F σ H Q->Fb X F σ H Q:=λσ H Q zq=>zq.elim λO zq=>zq.elim λρ zq=>zq.elim λE hF=>⟨O,ρ,E,hF.imp λd q D H' total acc e sm hD hD' dn=>by
 subst e;exact q D H' sm hD ⟨_,hD',trivial⟩ ⟨_,acc,hD',rfl,dn⟩⟩
noncomputable def sO(i:Nat)(u:List D->List D->ii)(f:aL):bN:=λk ρ=>match ρ[i]? with
 |some (some (.own (.lst xs)))=>me (f ρ) k ρ λds=>(rO (u xs ds)).bind λys=>k.nx (ρ.set i (some (.own (.lst ys))))
 |_=>un
noncomputable def Ax(K:J1)(r:V->az->Hp->VK->Prop)(u:List D->List D->ii):Prop:=
 ∀(H:Hp)(O:ah)(a:KI)(xs ys as:List D)(ws vs:az)(Q:VK),bL H O->a∈O->H a=some (.lst ws)->av K (hid H O) xs ws->av K (hid H O) as vs->u xs as=some ys->(∀ws' v,av K (hid H O) ys ws'->Q v (upd H a (.lst ws')))->r (.ref a) vs H Q
theorem pz{K:J1}{H:Hp}{O:ah}{a:KI}{ys:List D}{ws:az}(ha:a∈O)(h:av K (hid H O) ys ws):bS K (upd H a (.lst ws)) O a (.lst ys):=⟨_,ws,ao,rfl,h.mono (dI ha)⟩
noncomputable def i9(xs:List D)(ds:List D):ii:=match ds with
 |[y]=>if small (xs.length+1)then some (xs++[y])else none
 |_=>none
theorem vc{K:J1}:Ax K sB i9:=λH O a xs ys as ws vs Q hO haO ha dx da hu q=>by
 unfold i9 at hu;split at hu
 ·rename_i y;obtain⟨h1,h2⟩:=aV hu;subst h2;obtain⟨v,rfl,dv⟩:=da.one
  have:=bY h1
  rw[dx.length]at this;exact⟨a,ws,v,rfl,rfl,ha,by omega,q _ _ (dx.snoc dv)⟩
 ·cases hu
noncomputable def frz(i:Nat)(ρ:af):af:=match ρ[i]? with
 |some (some (.own d))=>setV i d ρ
 |_=>ρ
theorem bX.frz{K:J1}{O:ah}{H:Hp}{ρ:af}{σ:St}(E:bX K O H ρ σ)(i:Nat):∃O',bX K O' H (frz i ρ) σ/\(∀b∈O',b∈O)/\∀b∈O,b∉O'->∃d,ρ[i]?=some (some (.own d))/\σ[i]?=some (some (.ref b)):=by
 unfold TG.frz;split
 ·rename_i d hd;obtain⟨a,ha,haO,hat⟩:=E.own i d hd;have sub:∀b∈O.filter (λb=>decide (b≠a)),b∈O:=λb hb=>(List.mem_filter.mp hb).1;have s:aD (hid H O) (hid H (O.filter λb=>decide (b≠a))):=f9 sub;have na:a∉O.filter λb=>decide (b≠a):=λz=>absurd rfl (of_decide_eq_true (List.mem_filter.mp z).2);refine⟨O.filter λb=>decide (b≠a),⟨λj d' e=>?_,λj ys e=>?_,λj l ys zs b q1 q2 q3 q4=>?_,⟨E.all.1,λb hb=>E.all.2 b (sub b hb)⟩⟩,sub,λb hb nb=>?_⟩
  ·rcases au e with⟨hj,q⟩|⟨ne,q⟩
   ·cases q;rw[hj];exact⟨.ref a,ha,hat.den s na⟩
   ·obtain⟨w,q1,q2⟩:=E.val j d' q;exact⟨w,q1,q2.mono s⟩
  ·rcases au e with⟨_,q⟩|⟨ne,q⟩
   ·cases q
   ·obtain⟨b,q1,q2,q3⟩:=E.own j ys q;have nb:b≠a:=λz=>ne (E.one j i ys d a q hd (by rw[<-z];exact q1) ha);exact⟨b,q1,List.mem_filter.mpr ⟨q2,decide_eq_true nb⟩,q3.mono rfl s⟩
  ·rcases au q1 with⟨_,q⟩|⟨_,q⟩
   ·cases q
   ·rcases au q2 with⟨_,q'⟩|⟨_,q'⟩
    ·cases q'
    ·exact E.one j l ys zs b q q' q3 q4
  ·by_cases z:b=a
   ·exact⟨d,hd,by rw[z];exact ha⟩
   ·exact absurd (List.mem_filter.mpr ⟨hb,decide_eq_true z⟩) nb
 ·exact⟨O,E,λ_ z=>z,λb hb nb=>absurd hb nb⟩
theorem bx.frz{K:J1}{Hb:Hp}{Ob O:ah}{H:Hp}{ρ:af}{σ:St}(E:bx K Hb Ob O H ρ σ)(i:Nat):∃O',bx K Hb Ob O' H (frz i ρ) σ:=by
 obtain⟨O',E',sub,gone⟩:=E.env.frz i;refine⟨O',E',⟨E.base.same,λa ha=>?_,λa ha=>E.base.new a (sub a ha)⟩,λj xs a q1 q2=>?_,λj dn q1=>?_⟩
 ·by_cases z:a∈O'
  ·exact z
  ·obtain⟨d,e1,e2⟩:=gone a (E.base.sub a ha) z;exact absurd ha (E.mine i d a e1 e2).2
 ·have q:ρ[j]?=some (some (.own xs)):=by
   unfold TG.frz at q1;split at q1
   ·rcases au q1 with⟨_,q⟩|⟨_,q⟩
    ·cases q
    ·exact q
   ·exact q1
  exact E.mine j xs a q q2
 ·have bk:∀(l:Nat) x,(TG.frz i ρ)[l]?=some (some x)->(∀d,x≠.val d)->ρ[l]?=some (some x):=λl x e nv=>by
   unfold TG.frz at e;split at e
   ·rcases au e with⟨_,q⟩|⟨_,q⟩
    ·cases q;exact absurd rfl (nv _)
    ·exact q
   ·exact e
  refine(E.nst j dn (bk j _ q1 (λ_ z=>nomatch z))).to rfl (f9 sub) (λb w1 w2 w3 w4 _=>⟨rfl,?_,w2,λl d1 w=>w4 l d1 (bk l _ w (λ_ z=>nomatch z))⟩) λl d1 w=>⟨d1,bk l _ w (λ_ z=>nomatch z)⟩
  by_cases z:b∈O'
  ·exact z
  ·obtain⟨d,e1,e2⟩:=gone b w1 z;exact absurd e2 (w4 i d e1)
noncomputable def yZ(i:Nat)(F:bN):bN:=λk ρ=>F k (frz i ρ)
mutual
noncomputable def lf:D->Bool
 |.tup xs=>Dd xs
 |.lst _=>false
 |.dct _ _=>false
 |.obj _ _ vs=>Dd vs
 |.exc _ _ _=>false
 |_=>true
noncomputable def Dd:List D->Bool
 |[]=>true
 |x::xs=>lf x&&Dd xs
end
noncomputable def frzs(is:aP)(ρ:af):af:=is.foldl (λρ i=>frz i ρ) ρ
end TG
namespace TG
open PySem PySem.Spec L2
variable[aj]
noncomputable def AA(K:J1)(n:Nat)(g:List D->R D):Sp:=λvs H Q E=>∃O ds,vs.length=n/\bL H O/\av K (hid H O) ds vs/\match g ds with
 |.ok d=>∀v H',aD H H'->bH K (hid H' O) d v->Q v H'
 |.error (some x)=>Fa K H O x E
 |.error none=>False
section
variable{X:Cx}{k:Nat}{f C:KI}{fd:Lp}{ps:aK}{sp:Sp}{x m:Str}{p pos apos:Pos}{e o:KJ}{es:aY}{ta:TE}{t:TA}
theorem yq{pins:aH}{σ:St}{H:Hp}{s:KN}{Q:VK}{E:XK}{us:aC}{vs:az}(F:j9 X.prog X.w X.K X.mg X.base (kI X.prog X.w) k f fd ps sp)(hr:ik k X.A)(hb:Binds X.K fd ps [])(hx:i7 (kI X.prog X.w) X σ E)
  (I:`h) (r:Vals vs us) (h:sp vs H Q E):K2 `i X.A (call (.ref f) us) (EP X pins σ Q) X.xe s:=by
 have hl:(us++[]).length=ps.length:=by rw[Hl,<-r.length];exact F.len _ _ _ _ h
 have hb':=hb s us I.kIn hl;rw[Hl]at hb';refine wpAny_call (LO (F.run X.A X.stack s H ⟨us,[]⟩ us vs Q E hr I.env0 hb' r h) λr s' hq=>?_);cases r with
 |error e=>exact hx pins H s e s' I hq
 |ok fl=>
  cases fl with
  |ret u=>exact I.after hq
  |next=>exact False.elim hq
  |brk=>exact False.elim hq
  |cont=>exact False.elim hq
noncomputable def wZ(X:Cx)(sp:Sp)(t:TA):TE:=λσ H Q=>t σ H λvs H1=>∃E,i7 (kI X.prog X.w) X σ E/\sp vs H1 Q E
theorem xS(F:j9 X.prog X.w X.K X.mg X.base (kI X.prog X.w) k f fd ps sp)(hr:ik k X.A)(hg:Gl X x)(hm:X.mg x=some (.ref f))(hk:J7 X.K (.ref f)=true)(hb:Binds X.K fd ps [])
  (ha:PA X (e::es) t) (hdb:(x==("__debug__":Str))=false:=by decide) (he:K3 (e::es) X.env=(false,eval e X.env)::K3 es X.env:=by rfl) (hpl:(backTo pos (K3 es X.env)).any (·.1)=false:=by rfl):
  PE X (.Call (.Name x p) (e::es) [] pos) (wZ X sp t):=by
 intro pins s σ H Q I h;refine Lv (zY I hg hm ?_ hdb);refine PySem.W.callWith_K (h₀:=X.base) I.ok.mod.kin hk (cc (ha pos pins s σ H _ I h) λus s1 zq=>zq.elim λvs zq=>zq.elim λH1 zq=>zq.elim λI1 zq=>zq.elim λr zq=>zq.elim λE zq=>zq.elim λhx q=>⟨I1.kIn,?_⟩) he hpl;exact yq F hr hb hx I1 r q
theorem u0{n:Nat}{g:List D->R D}{f:aL}(hn:∀ds,g ds≠un->ds.length=n):∀σ H Q,tF X (fR g f) σ H Q->wZ X (AA X.K n g) (Fy X f) σ H Q:=λσ H Q zq=>zq.elim λO zq=>zq.elim λρ zq=>zq.elim λE hF=>
 ⟨O,ρ,E,(gk.bind hF).imp fun ds hF vs H1 s1 d1=>by
  cases hg:g ds with
  |ok d=>
   rw[hg]at hF;refine⟨E0,zP,O,ds,by rw[<-d1.length];exact hn ds (by rw[hg];intro z;cases z),E.all.same s1,d1,?_⟩;rw[hg];exact λv H2 s2 d2=>hF v H2 (s1.trans s2) d2
  |error z=>
   rw[hg]at hF;cases z with
   |none=>exact hF.elim
   |some x=>
    refine⟨x6 X O H1 x,z6 (C9.mono hF s1),O,ds,by rw[<-d1.length];exact hn ds (by rw[hg];intro z;cases z),E.all.same s1,d1,?_⟩;rw[hg];exact wn⟩
end
noncomputable def Callee(P:KP)(w:KO)(K:J1)(mg:cF)(base:KR)(k:Nat)(x:Str)(ps:aK)(g:List D->R D):Prop:=
 ∃f fd,j9 P w K mg base (kI P w) k f fd ps (AA K ps.length g)/\Binds K fd ps []/\J7 K (.ref f)=true/\mg x=some (.ref f)
noncomputable def Ar(n:Nat)(g:List D->R D):Prop:=∀ds,g ds≠un->ds.length=n
noncomputable def K0:Ks:={nx:=λ_=>.ok .non}
noncomputable def env0(n:Nat)(ds:List D):af:=ds.map (λd=>some (.val d))++List.replicate (n-ds.length) none
noncomputable def bz(B:bN)(np n:Nat):List D->R D:=λds=>if ds.length=np then B K0 (env0 n ds)else un
theorem Ce{B:bN}{np n:Nat}:Ar np (bz B np n):=λds h=>by
 unfold bz at h;split at h
 ·assumption
 ·exact absurd rfl h
theorem fU{n:Nat}{ds:List D}(i:Nat)(x:S)(e:(env0 n ds)[i]?=some (some x)):∃d,ds[i]?=some d/\x=.val d:=by
 unfold env0 at e;by_cases hi:i<ds.length
 ·rw[Hs (by rw[Hx];exact hi),Ht,Ia hi]at e;have e':some (S.val ds[i])=some x:=Option.some.inj e;exact⟨ds[i],by rw[Ia hi],(Option.some.inj e').symm⟩
 ·rw[Hq (by rw[Hx];omega),Hx,Hr]at e;split at e
  ·cases e
  ·cases e
theorem rm{K:J1}{O:ah}{H:Hp}{N:aK}{ds:List D}{vs:az}(hO:bL H O)(h:av K (hid H O) ds vs):bX K O H (env0 N.length ds) (L2.start N vs):=by
 refine⟨λi d e=>?_,λi xs e=>?_,λi j xs ys a e=>?_,hO⟩
 ·obtain⟨d',e1,e2⟩:=fU i _ e;cases e2;obtain⟨v,e3,e4⟩:=h.get e1;refine⟨v,?_,e4⟩;unfold L2.start;have hi:i<vs.length:=(List.getElem?_eq_some_iff.mp e3).1;rw[Hs (by rw[Hx];exact hi),Ht,e3];rfl
 ·obtain⟨d',_,e2⟩:=fU i _ e;cases e2
 ·obtain⟨d',_,e2⟩:=fU i _ e;cases e2
section
variable{P:KP}{w:KO}{K:J1}{mg:cF}{base:KR}
structure BodyOk(P:KP)(w:KO)(K:J1)(mg:cF)(base:KR)(k:Nat)(N:aK)(qual:Str)(st:KL)(f:KI)(B:bN):Prop where
 h:∀(cdv:KG)(A:KY)(outer:List Env)(s:KN)(H:Hp)(E:XK),ik k (A.deeper (Kp qual (aG st) s.heap.objs.size f cdv))->K9 (model P w) (A.deeper (Kp qual (aG st) s.heap.objs.size f cdv)) (Kp qual (aG st) s.heap.objs.size f cdv) (iy (kI P w) P w K mg base N qual (aG st) f cdv A outer s H E).xe->
  Gp (iy (kI P w) P w K mg base N qual (aG st) f cdv A outer s H E) (cW st) B
theorem E6{x qual:Str}{st:KL}{f:KI}{fd:Lp}{N ps:aK}{k:Nat}{sp:Sp}{CX:v0}(F:zg K x qual st f fd)(S:fm N ps (aG st))(len:∀vs H Q E,sp vs H Q E->vs.length=ps.length)
  (hbody:∀ (cdv:KG) (A:KY) (outer:List Env) (s:KN) (H:Hp) (vs:az) (Q:VK) (E:XK),ik k (A.deeper (Kp qual (aG st) s.heap.objs.size f cdv))->sp vs H Q E ->
   ∃t,qV (iy CX P w K mg base N qual (aG st) f cdv A outer s H E) (cW st) t/\t {nx:=λ_ H'=>Q .non H',rt:=Q} (L2.start N vs) H):j9 P w K mg base CX (k+1) f fd ps sp:=by
 obtain⟨oc,od,kV,doc,pm,an,cdv,ct,osl,rfl,lk,hcd⟩:=F.ex;exact Do lk hcd S len λA outer s H vs Q E hr hsp=>hbody cdv A outer s H vs Q E hr hsp
theorem sK{x qual:Str}{st:KL}{f:KI}{fd:Lp}{N ps:aK}{k:Nat}{B:bN}(F:zg K x qual st f fd)(SC:fm N ps (aG st))(hb:BodyOk P w K mg base k N qual st f B):
  j9 P w K mg base (kI P w) (k+1) f fd ps (AA K ps.length (bz B ps.length N.length)):=by
 refine E6 F SC (λvs H Q E h=>?_) λcdv A outer s H vs Q E hr h=>?_
 ·obtain⟨O,ds,h1,_⟩:=h;exact h1
 ·obtain⟨O,ds,h1,h2,h3,h4⟩:=h;have hl:ds.length=ps.length:=h3.length.trans h1;have e4:bz B ps.length N.length ds=B K0 (env0 N.length ds):=by unfold bz;rw[if_pos hl]
  rw[e4]at h4;refine⟨_,hb.h cdv A outer s H E hr PassesOwn.leaving H O,O,env0 N.length ds,K0,_,⟨rm h2 h3,⟨aD.refl H,λ_ z=>z,λa z=>.inl z⟩,λi xs a e=>?_,λi d e=>by obtain⟨d',_,e2⟩:=fU i _ e;cases e2⟩,rfl,?_⟩
  ·obtain⟨d',_,e2⟩:=fU i _ e;cases e2
  ·generalize B K0 (env0 N.length ds)=r at h4;refine⟨λz=>by rw[z]at h4;exact h4,λO' ρ' σ' H' S e=>?_,λO' ρ' σ' H' S e=>?_,λO' ρ' σ' H' S e=>?_,λd O' v H' e b dv=>?_,λO' ρ' σ' H' x S e=>?_⟩
   ·have e:(.ok .non:R D)=r:=e;subst e;exact h4 .non H' S.base.same (fG.mpr rfl)
   ·have e:(un:R D)=r:=e;subst e;exact h4.elim
   ·have e:(un:R D)=r:=e;subst e;exact h4.elim
   ·subst e;exact h4 v H' b.same (dv.mono (f9 b.sub))
   ·have e:(.error (some x):R D)=r:=e;subst e;exact Bi h4 S.base.same S.base.sub
theorem u5{x qual:Str}{st:KL}{f:KI}{fd:Lp}{N ps:aK}{k:Nat}{B:bN}(F:zg K x qual st f fd)(b:Binds K fd ps [])(m:mg x=some (.ref f))(SC:fm N ps (aG st))(hb:BodyOk P w K mg base k N qual st f B):
  Callee P w K mg base (k+1) x ps (bz B ps.length N.length):=⟨f,fd,sK F SC hb,b,F.kp,m⟩
end
theorem z7{K:J1}{T:String}(h1:J9 K (.type "NoneType") (.type T)=some (T=="NoneType"))(h2:J9 K (.type "bool") (.type T)=some (T=="bool"||T=="int"))(h3:J9 K (.type "int") (.type T)=some (T=="int"))(h4:J9 K (.type "str") (.type T)=some (T=="str"))
  (h5:J9 K (.type "tuple") (.type T)=some (T=="tuple")) (h6:J9 K (.type "list") (.type T)=some (T=="list")):zl K T:=λd hd=>by
 cases d with
 |dct _ _=>cases hd
 |obj _ _ _=>cases hd
 |exc _ _ _=>cases hd
 |non=>exact h1
 |bl _=>exact h2
 |int _=>exact h3
 |str _=>exact h4
 |tup _=>exact h5
 |lst _=>exact h6
theorem qQ{K:J1}:zl K "tuple":=z7 rfl rfl rfl rfl rfl rfl
end TG
namespace TG
open PySem PySem.Spec L2
variable[aj]
section
variable{X:Cx}{a b c:KJ}{fa fb fc:FX}{pos:Pos}
theorem CB{r:V->Hp->VK->Prop}{g:D->aQ}(s:zJ X.K r g):∀σ H Q,tF X (f1 g fa) σ H Q->Gr r (tF X fa) σ H Q:=λσ H Q zq=>zq.elim λO zq=>zq.elim λρ zq=>zq.elim λE hF=>⟨O,ρ,E,(gk.bind hF).imp λa hF x H1 s1 d1=>by
 obtain⟨d,e,q⟩:=gk.rO hF;exact s a d x O H1 Q (E.all.same s1) e d1 λv H2 s2 d2=>q v H2 (s1.trans s2) d2⟩
noncomputable def Bp(g g':D->D->aQ)(fa fb fc:FX):FX:=λρ=>(fa ρ).bind λx=>(fb ρ).bind λy=>(rO (g x y)).bind λz=>qT z ((fc ρ).bind λw=>rO (g' y w))
noncomputable def B7:D->aQ
 |.int i=>some (.int (-i))
 |_=>none
noncomputable def vE(f:FX):FX:=f1 B7 f
noncomputable def wO:D->aQ
 |.str x=>if small x.length then some (.str (Txt.upper x))else none
 |_=>none
noncomputable def Cw(f:FX):FX:=f1 wO f
noncomputable def CY:D->aQ
 |.lst xs=>some (.lst xs.reverse)
 |.tup xs=>some (.tup xs.reverse)
 |_=>none
noncomputable def Fl(f:FX):FX:=f1 CY f
end
end TG
namespace ZI
open PySem PySem.Spec PyProof.Rows
end ZI
namespace TG
open PySem PySem.Spec L2 ZI
variable[aj]
section
variable{X:Cx}{pins:aH}{σ:St}{H:Hp}{s:KN}{h':KR}
theorem Inv.turned0{ch:ah}{t':Nat}(I:`h)(hf:∀b∈ch,nX X pins H b)(k:∀b u,b∉ch->s.heap.get? b=some u->h'.get? b=some u):Inv X pins σ H {s with heap:=h',toks:=t'}:=by
 have nch:∀b u,H b=some u->b∉ch:=λb u e z=>by rw[(hf b z).1]at e;cases e
 refine I.step (g':=s.gens) (d':=s.drawn) (ch:=ch) (λb hb=>?_) (λb o _ _ hc e _=>k b o hc e) (λb o _ _ hc e _=>⟨o.slots,k b o hc e⟩) (λ_ _ _ _ n=>n)
  (λb o hc e=>⟨o,k b o hc e⟩) (λ_ _ e=>e) (λ_ _ _ e=>e) (λb ps e=>⟨#[],by rw[e];simp⟩) (λm hm=>?_) (λb u e=>?_) I.bare
 ·obtain⟨_,f1,_,f3,f4,f5⟩:=hf b hb;exact⟨f3,f1,f4,f5⟩
 ·obtain⟨o,es,ep,ho,r⟩:=hm;exact⟨o,es,ep,k _ o (λz=>(hf _ z).2.1 rfl) ho,r⟩
 ·refine(I.hok b u e).stay (λc v hc q=>k c v ?_ q) (λ_ q=>q) λ_ _ q=>q;rcases hc with z|z
  ·rw[z];exact nch b u e
  ·exact nch c _ z
end
noncomputable def CM:D->Option (Bool×List D)
 |.lst xs=>some (true,xs)
 |.tup xs=>some (false,xs)
 |_=>none
noncomputable def DN:List D->List D->List D
 |x::xs,y::ys=>.tup [x,y]::DN xs ys
 |_,_=>[]
noncomputable def Ea:List D->ii
 |[a,b]=>(CM a).bind λx=>(CM b).bind λy=>some (DN x.2 y.2)
 |_=>none
noncomputable def Fd(f:aL):aL:=λρ=>(f ρ).bind λds=>rO (Ea ds)
noncomputable def Ap(i:Nat):List D->List D
 |[]=>[]
 |x::xs=>.tup [.int i,x]::Ap (i+1) xs
noncomputable def AB:List D->ii
 |[a]=>(CM a).bind λx=>some (Ap 0 x.2)
 |_=>none
noncomputable def qW(f:aL):aL:=λρ=>(f ρ).bind λds=>rO (AB ds)
end TG
namespace TG
open PySem PySem.Spec L2
variable[aj]
section
variable{X:Cx}{a o e:KJ}{es:aY}{fa fo:FX}{fas:aL}{f m x:Str}{cs:aK}{pos apos p:Pos}{k k':Nat}{ps:aK}
end
end TG
namespace TG
open PySem PySem.Spec L2
variable[aj]
section
variable{X:Cx}
noncomputable def GC:D->Option Str
 |.str z=>some z
 |_=>none
noncomputable def FZ(a b:D):aQ:=match a,b with
 |.bl c,.bl d=>some (.bl (c==d))
 |_,_=>none
noncomputable def Ak(a b:D):aQ:=match a,b with
 |.bl c,.bl d=>some (.bl (!(c==d)))
 |_,_=>none
end
section
variable{X:Cx}{C:KI}{pins:aH}{σ:St}{H:Hp}{s:KN}{Q:VK}
end
end TG
namespace TG
open PySem PySem.Spec PyProof.Rows L2
variable[aj]
noncomputable def b9:List D->List D->Option Bool
 |[],[]=>some false
 |[],_::_=>some true
 |_::_,[]=>some false
 |a::as,b::bs=>match a,b with
  |.int i,.int j=>if i=j then b9 as bs else some (decide (i<j))
  |.str x,.str y=>if x=y then b9 as bs else some (decide (x.cps.toList<y.cps.toList))
  |_,_=>none
inductive cZ:aC->List D->Prop where
 |nil:cZ [] []
 |int (i:Int) (t:Tok) {vs:aC} {ds:List D} (h:cZ vs ds):cZ (.int i t::vs) (.int i::ds)
 |str (x:Str) (t:Tok) {vs:aC} {ds:List D} (h:cZ vs ds):cZ (.str x t::vs) (.str x::ds)
theorem cZ.length{vs:aC}{ds:List D}(h:cZ vs ds):vs.length=ds.length:=by
 induction h with
 |nil=>rfl
 |int _ _ _ ih=>rw[HK,HK,ih]
 |str _ _ _ ih=>rw[HK,HK,ih]
theorem AU(A:KY)(s:KN)(a:Int)(t:Tok)(c:Int)(u:Tok):∃e,SeqAt.EqAt A s (.int a t) (.int c u) e/\(e=true↔a=c):=
 ⟨(a==c),SeqAt.EqAt.int_int a t c u,by simp⟩
theorem AG(A:KY)(s:KN)(a:Str)(t:Tok)(c:Str)(u:Tok):∃e,SeqAt.EqAt A s (.str a t) (.str c u) e/\(e=true↔a=c):=
 ⟨(a==c),SeqAt.EqAt.str_str a t c u,by simp⟩
theorem DF(A:KY)(s:KN)(a:Str)(t:Tok)(c:Str)(u:Tok)(prog:KP)(w:KO)(E:aA)(Q:aA)(h:Q (.bool (decide (a.cps.toList<c.cps.toList))) s):
  K2 `g A (richCompare .Lt (.str a t) (.str c u)) Q E s:=
 (PySem.P.lt_str h:K2 `g A (Lh .Lt (.str a t) (.str c u)) Q E s)
section
open PySem.SeqAt
open PySem.AutoSeq1 (wpAny_loadPart')
open PySem.MeetsSeq PySem.MeetsSeq2 PySem.MeetsSeq3
set_option maxHeartbeats 1000000 in
theorem md(l b:KI)(items items2:dF)(n n2:Nat)(dd dd2:Option KI)(sl sl2:Array (Option KG))(ns ms:List D)(r:Bool)(hi:cZ items.toList ns)(hj:cZ items2.toList ms)(hr:b9 ns ms=some r):
  Meets (Builtin.«tuple.__lt__» ⟨[.ref l,.ref b],[]⟩)
   (fun _ R s=>s.heap.get? l=some { cls:=.type "tuple",dict:=dd,data:=.seq items n,slots:=sl }/\s.heap.get? b=some { cls:=.type "tuple",dict:=dd2,data:=.seq items2 n2,slots:=sl2 } /\
    R (.ok (.ret (.bool r))) s):=
 .of_wp λprog w A R s h=>by
  obtain⟨hp,g,d,tk,os⟩:=s;obtain⟨hl,hb,h⟩:=h;have f2:=AutoSeq1.sub_tuple_tuple;have z1:items.size=ns.length:=by rw[<-hi.length];simp
  have z2:items2.size=ms.length:=by rw[<-hj.length];simp
  wp_walk using wpAny_loadPart' hl,wpAny_loadPart' hb,wpAny_forIn_list _ (λrest b s'=>b.1=none/\s'=⟨hp,g,d,tk,os⟩/\∃(vs ws:aC)(ns' ms':List D),rest=vs.zip ws/\
   cZ vs ns'/\cZ ws ms'/\ns'.length+items2.size=ms'.length+items.size/\b9 ns' ms'=some r/\R (.ok (.ret (.bool r))) ⟨hp,g,d,tk,os⟩) _
  case turn=>
   rintro⟨y,x⟩ rest b s' ⟨hb',rfl,vs,ws,ns',ms',hz,hvi,hwi,hlen,hL,hR⟩;cases hvi with
   |nil=>rw[List.zip_nil_left]at hz;cases hz
   |int a t hvi'=>
    cases hwi with
    |nil=>rw[Iy]at hz;cases hz
    |str c u hwi'=>cases hL
    |int c u hwi'=>
     rw[Iz]at hz;injection hz with hyx hrest;injection hyx with hy hx;subst hy hx;have hL':(if a=c then b9 _ _ else some (decide (a<c)))=some r:=hL;simp only[HK]at hlen;obtain⟨e,he,hiff⟩:=AU A.in1 ⟨hp,g,d,tk,os⟩ a t c u;refine Lc (he prog w _ _ ?_);cases e with
     |true=>
      rw[if_pos (hiff.mp rfl)]at hL'
      wp_walk
      exact⟨rfl,rfl,_,_,_,_,hrest,hvi',hwi',by omega,hL',hR⟩
     |false=>
      rw[if_neg (λq=>absurd (hiff.mpr q) Hg)]at hL';cases hL';have hri:=HT.Dw A.in1 ⟨hp,g,d,tk,os⟩ a t c u prog w
      wp_walk using hri
      exact⟨_,rfl,by simpa using hR⟩
   |str a t hvi'=>
    cases hwi with
    |nil=>rw[Iy]at hz;cases hz
    |int c u hwi'=>cases hL
    |str c u hwi'=>
     rw[Iz]at hz;injection hz with hyx hrest;injection hyx with hy hx;subst hy hx;have hL':(if a=c then b9 _ _ else some (decide (a.cps.toList<c.cps.toList)))=some r:=hL;simp only[HK]at hlen;obtain⟨e,he,hiff⟩:=AG A.in1 ⟨hp,g,d,tk,os⟩ a t c u;refine Lc (he prog w _ _ ?_);cases e with
     |true=>
      rw[if_pos (hiff.mp rfl)]at hL'
      wp_walk
      exact⟨rfl,rfl,_,_,_,_,hrest,hvi',hwi',by omega,hL',hR⟩
     |false=>
      rw[if_neg (λq=>absurd (hiff.mpr q) Hg)]at hL';cases hL';have hri:=DF A.in1 ⟨hp,g,d,tk,os⟩ a t c u prog w
      wp_walk using hri
      exact⟨_,rfl,by simpa using hR⟩
  case fin=>
   rintro⟨b1,b2⟩ s' ⟨hb',rfl,vs,ws,ns',ms',hz,hvi,hwi,hlen,hL,hR⟩;simp only at hb';subst hb';have hv:r=decide (items.size<items2.size):=by
    have l1:=hvi.length;have l2:=hwi.length;cases ns' with
    |nil=>
     cases ms' with
     |nil=>
      simp only[HL]at hlen;cases hL;exact(decide_eq_false `o).symm
     |cons c u=>
      simp only[HL,HK]at hlen;cases hL;exact(decide_eq_true `o).symm
    |cons a t=>
     cases ms' with
     |nil=>
      simp only[HL,HK]at hlen;cases hL;exact(decide_eq_false `o).symm
     |cons c u=>
      have:=congrArg List.length hz
      simp only[HL,List.length_zip,l1,l2,HK]at this;omega
   rw[hv]at hR
   wp_walk
   exact⟨_,rfl,by simpa [Builtin.Tuple.tupleCompareSizes]using hR⟩
  case h=>
   exact⟨rfl,rfl,items.toList,items2.toList,ns,ms,rfl,hi,hj,by omega,hr,h⟩
end
section
variable{X:Cx}
theorem t5{α:Type}{c:Bool}{o:Option α}{a:α}(h:(if c then o else none)=some a):c=true/\o=some a:=by
 cases c with
 |true=>exact⟨rfl,h⟩
 |false=>cases h
theorem ra{prog:KP}{w:KO}{A:KY}{E:aA}{s:KN}{l b:KI}{items items2:dF}{ns ms:List D}{r:Bool}{Q:aA}(hl:IsTup s.heap l items)(hb:IsTup s.heap b items2)(hi:cZ items.toList ns)(hj:cZ items2.toList ms)(hr:b9 ns ms=some r)
  (hu:A.units<Ln) (h:Q (.bool r) s):K2 `g A (Lh .Lt (.ref l) (.ref b)) Q E s:=by
 obtain⟨⟨cls,dd,data,sl⟩,ho,hc,n,hd⟩:=id hl;obtain⟨⟨cls2,dd2,data2,sl2⟩,ho2,hc2,n2,hd2⟩:=id hb;simp only at hc hd hc2 hd2;subst hc hd hc2 hd2;exact richCompare_meets_room (op:=.Lt) ⟨_,ho,rfl⟩ ⟨_,ho2,rfl⟩ PySem.F.slot_tuple_lt PySem.F.entry_tuple_lt (PySem.F.args_tuple_lt_2 _ _) (md l b items items2 n n2 dd dd2 sl sl2 ns ms r hi hj hr)
  ⟨ho,ho2,show Value.bool r≠Value.notImplemented/\Q (.bool r) s from⟨(λx=>nomatch x),h⟩⟩ hu
noncomputable def jZ:List D->Bool
 |[]=>true
 |.int _::r=>jZ r
 |.str _::r=>jZ r
 |_=>false
theorem gh{K:J1}{H:Hp}:∀{ds:List D}{vs:az}{us:aC},jZ ds=true->av K H ds vs->Vals vs us->cZ us ds
 |[],vs,us,_,h,r=>by
  rw[bB]at h;subst h;cases r;exact .nil
 |d::ds,vs,us,hf,h,r=>by
  obtain⟨v,r',e,h1,h2⟩:=aI.mp h;subst e;cases r with
  |cons q1 q2=>
   cases d with
   |int i=>
    rw[cX]at h1;subst h1;obtain⟨t,rfl⟩:=q1;exact .int i t (gh hf h2 q2)
   |str x=>
    rw[cA]at h1;subst h1;obtain⟨t,rfl⟩:=q1;exact .str x t (gh hf h2 q2)
   |_=>cases hf
noncomputable def rT(a b:D):aQ:=match a,b with
 |.int i,.int j=>some (.bl (decide (i<j)))
 |.str x,.str y=>some (.bl (decide (x.cps.toList<y.cps.toList)))
 |.tup xs,.tup ys=>if jZ xs&&jZ ys then(b9 xs ys).bind λr=>some (.bl r)else none
 |_,_=>none
theorem wq(hu:X.A.units+64<Ln):jc X (Lh .Lt) (rD X.K rT):=by
 rintro pins s σ H x y u v Q I rx ry ⟨O,a,b,d,hO,ha,hb,hg,q⟩;cases a with
 |int i=>
  cases b with
  |int j=>
   cases hg;exact DG pins s σ H x y u v Q I rx ry ⟨i,j,cX.mp ha,cX.mp hb,q _ H (aD.refl H) (gf.mpr rfl)⟩
  |_=>cases hg
 |str i=>
  cases b with
  |str j=>
   cases hg;exact uY pins s σ H x y u v Q I rx ry ⟨i,j,cA.mp ha,cA.mp hb,q _ H (aD.refl H) (gf.mpr rfl)⟩
  |_=>cases hg
 |tup xs=>
  cases b with
  |tup ys=>
   obtain⟨h1,h2⟩:=t5 hg;obtain⟨r,e1,e2⟩:=bind_some h2;cases e2;rw[HB]at h1;obtain⟨p,vs,ex,g1,g2⟩:=bm.mp ha;obtain⟨p',vs',ey,g1',g2'⟩:=bm.mp hb;subst ex ey;cases rx;cases ry;obtain⟨its,r1,t1,_⟩:=I.tuple (aX (ai H O) g1);obtain⟨its2,r2,t2,_⟩:=I.tuple (aX (ai H O) g1');exact ra t1 t2 (gh h1.1 g2 r1) (gh h1.2 g2' r2) e1 `o (vL I (q _ H (aD.refl H) (gf.mpr rfl)) rfl)
  |_=>cases hg
 |_=>cases hg
end
end TG
namespace TG
open PySem PySem.Spec L2
variable[aj]
end TG
namespace TG
open PySem PySem.Spec PyProof.Rows PySem.W L2
variable[aj]
theorem kJ:∀a:aP,¬a<a
 |[]=>IA _
 |x::xs=>λh=>by
  rcases List.cons_lt_cons_iff.mp h with h|⟨_,h⟩
  ·omega
  ·exact kJ xs h
theorem gx:∀{a b c:aP},a<b->b<c->a<c
 |_,_,[],_,h=>absurd h (IA _)
 |_,[],_::_,h,_=>absurd h (IA _)
 |[],_::_,_::_,_,_=>IB _ _
 |x::xs,y::ys,z::zs,h,h'=>by
  rw[IC]at h h' ⊢;rcases h with h|⟨e,h⟩<;>rcases h' with h'|⟨e',h'⟩
  ·exact .inl `o
  ·exact .inl `o
  ·exact .inl `o
  ·exact .inr ⟨by omega,gx h h'⟩
theorem xI:∀a b:aP,a<b\/a=b\/b<a
 |[],[]=>.inr (.inl rfl)
 |[],_::_=>.inl (IB _ _)
 |_::_,[]=>.inr (.inr (IB _ _))
 |x::xs,y::ys=>by
  rw[IC,IC];rcases Nat.lt_trichotomy x y with h|h|h
  ·exact .inl (.inl h)
  ·rcases xI xs ys with q|q|q
   ·exact .inl (.inr ⟨h,q⟩)
   ·exact .inr (.inl (by rw[h,q]))
   ·exact .inr (.inr (.inr ⟨h.symm,q⟩))
  ·exact .inr (.inr (.inl h))
theorem xq{x y:Str}(h:x.cps.toList=y.cps.toList):x=y:=by
 cases x;cases y;congr 1;exact Array.toList_inj.mp h
inductive Sh:bq->List D->Prop where
 |nil:Sh [] []
 |int (i:Int) {bs:bq} {ds:List D} (h:Sh bs ds):Sh (true::bs) (.int i::ds)
 |str (x:Str) {bs:bq} {ds:List D} (h:Sh bs ds):Sh (false::bs) (.str x::ds)
theorem Sh.length{σ:bq}{a:List D}(h:Sh σ a):a.length=σ.length:=by
 induction h with
 |nil=>rfl
 |int _ _ ih=>rw[HK,HK,ih]
 |str _ _ ih=>rw[HK,HK,ih]
theorem oR:∀{σ:bq}{a:List D},Sh σ a->jZ a=true
 |_,_,.nil=>rfl
 |_,_,.int i h=>by
  unfold jZ;exact oR h
 |_,_,.str i h=>by
  unfold jZ;exact oR h
theorem kQ(i j:Int)(as bs:List D):b9 (.int i::as) (.int j::bs)=if i=j then b9 as bs else some (decide (i<j)):=by rw[b9]
theorem kZ(x y:Str)(as bs:List D):b9 (.str x::as) (.str y::bs)=if x=y then b9 as bs else some (decide (x.cps.toList<y.cps.toList)):=by rw[b9]
theorem xG:b9 [] []=some false:=by rw[b9]
theorem iY:∀{σ:bq}{a:List D},Sh σ a->b9 a a=some false
 |_,_,.nil=>xG
 |_,_,.int i h=>by rw[kQ,if_pos rfl];exact iY h
 |_,_,.str x h=>by rw[kZ,if_pos rfl];exact iY h
theorem ky{σ:bq}{a b:List D}(h1:Sh σ a)(h2:Sh σ b):(b9 a b=some true/\b9 b a=some false/\a≠b)\/a=b\/(b9 b a=some true/\b9 a b=some false/\a≠b):=by
 induction h1 generalizing b with
 |nil=>cases h2;exact .inr (.inl rfl)
 |int i h ih=>
  cases h2 with|int j h'=>
  rw[kQ,kQ];by_cases e:i=j
  ·subst e;rw[if_pos rfl,if_pos rfl];rcases ih h' with⟨q1,q2,q3⟩|q|⟨q1,q2,q3⟩
   ·exact .inl ⟨q1,q2,λz=>q3 (by injection z)⟩
   ·exact .inr (.inl (by rw[q]))
   ·exact .inr (.inr ⟨q1,q2,λz=>q3 (by injection z)⟩)
  ·rw[if_neg e,if_neg (λz=>e z.symm)];rcases Int.lt_or_gt_of_ne e with q|q
   ·exact .inl ⟨by rw[decide_eq_true q],by rw[decide_eq_false `o],λz=>e (by injection z with z1;injection z1)⟩
   ·exact .inr (.inr ⟨by rw[decide_eq_true q],by rw[decide_eq_false `o],λz=>e (by injection z with z1;injection z1)⟩)
 |str x h ih=>
  cases h2 with|str y h'=>
  rw[kZ,kZ];by_cases e:x=y
  ·subst e;rw[if_pos rfl,if_pos rfl];rcases ih h' with⟨q1,q2,q3⟩|q|⟨q1,q2,q3⟩
   ·exact .inl ⟨q1,q2,λz=>q3 (by injection z)⟩
   ·exact .inr (.inl (by rw[q]))
   ·exact .inr (.inr ⟨q1,q2,λz=>q3 (by injection z)⟩)
  ·rw[if_neg e,if_neg (λz=>e z.symm)];rcases xI x.cps.toList y.cps.toList with q|q|q
   ·exact .inl ⟨by rw[decide_eq_true q],by rw[decide_eq_false λz=>kJ _ (gx q z)],λz=>e (by injection z with z1;injection z1)⟩
   ·exact absurd (xq q) e
   ·exact .inr (.inr ⟨by rw[decide_eq_true q],by rw[decide_eq_false λz=>kJ _ (gx q z)],λz=>e (by injection z with z1;injection z1)⟩)
theorem mK{σ:bq}{a b c:List D}(h1:Sh σ a)(h2:Sh σ b)(h3:Sh σ c)(q:b9 a b=some true)(q':b9 b c=some true):b9 a c=some true:=by
 induction h1 generalizing b c with
 |nil=>cases h2;rw[xG]at q;cases q
 |int i h ih=>
  cases h2 with|int j h'=>
  cases h3 with|int k h''=>
  rw[kQ]at q q' ⊢;by_cases e:i=j
  ·subst e;rw[if_pos rfl]at q;by_cases e':i=k
   ·subst e';rw[if_pos rfl]at q' ⊢;exact ih h' h'' q q'
   ·rw[if_neg e']at q' ⊢;exact q'
  ·rw[if_neg e]at q;have q1:=of_decide_eq_true (Option.some.inj q);by_cases e':j=k
   ·subst e';rw[if_neg e,decide_eq_true q1]
   ·rw[if_neg e']at q';have q2:=of_decide_eq_true (Option.some.inj q');rw[if_neg `o,decide_eq_true `o]
 |str i h ih=>
  cases h2 with|str j h'=>
  cases h3 with|str k h''=>
  rw[kZ]at q q' ⊢;by_cases e:i=j
  ·subst e;rw[if_pos rfl]at q;by_cases e':i=k
   ·subst e';rw[if_pos rfl]at q' ⊢;exact ih h' h'' q q'
   ·rw[if_neg e']at q' ⊢;exact q'
  ·rw[if_neg e]at q;have q1:=of_decide_eq_true (Option.some.inj q);by_cases e':j=k
   ·subst e';rw[if_neg e,decide_eq_true q1]
   ·rw[if_neg e']at q';have q2:=of_decide_eq_true (Option.some.inj q');rw[if_neg (show¬i=k from λz=>by rw[z]at q1;exact kJ _ (gx q1 q2)),decide_eq_true (gx q1 q2)]
theorem wK{σ:bq}{a b:List D}(h:Sh σ a)(h':Sh σ b)(q:b9 a b=some true):b9 b a=some false:=by
 rcases ky h h' with⟨_,q2,_⟩|e|⟨_,q2,_⟩
 ·exact q2
 ·subst e;rw[iY h]at q;cases q
 ·rw[q2]at q;cases q
noncomputable def kLt(a b:List D):Bool:=b9 a b==some true
theorem yz{a b:List D}:kLt a b=true↔b9 a b=some true:=by unfold kLt;simp
section
variable{α:Type}
noncomputable def j0(key:α->List D)(x:α):List α->List α
 |[]=>[x]
 |y::ys=>if kLt (key x) (key y)then x::y::ys else y::j0 key x ys
noncomputable def aM(key:α->List D):List α->List α
 |[]=>[]
 |x::xs=>j0 key x (aM key xs)
theorem jH(key:α->List D)(x:α):∀ys:List α,(j0 key x ys).Perm (x::ys)
 |[]=>.refl _
 |y::ys=>by
  unfold j0;split
  ·exact .refl _
  ·exact(List.Perm.cons y (jH key x ys)).trans (.swap x y ys)
theorem aE(key:α->List D):∀xs:List α,(aM key xs).Perm xs
 |[]=>.refl _
 |x::xs=>(jH key x _).trans (.cons x (aE key xs))
noncomputable def qJ(key:α->List D)(xs:List α):Prop:=xs.Pairwise λx y=>b9 (key x) (key y)=some true
theorem ph{key:α->List D}{σ:bq}{x:α}(hx:Sh σ (key x)):∀{ys:List α},(∀y∈ys,Sh σ (key y)/\key x≠key y)->qJ key ys->qJ key (j0 key x ys)
 |[],_,_=>List.pairwise_singleton _ _
 |y::ys,h,p=>by
  have p':=List.pairwise_cons.mp p;obtain⟨hy,ne⟩:=h y G9;unfold j0;split
  ·rename_i q;have q:=yz.mp q;refine List.pairwise_cons.mpr ⟨λz hz=>?_,p⟩;rcases List.mem_cons.mp hz with rfl|hz
   ·exact q
   ·exact mK hx hy (h z (Ha _ hz)).1 q (p'.1 z hz)
  ·rename_i q;have q:b9 (key y) (key x)=some true:=by
    rcases ky hx hy with⟨z,_⟩|z|⟨z,_⟩
    ·exact absurd (yz.mpr z) q
    ·exact absurd z ne
    ·exact z
   refine List.pairwise_cons.mpr ⟨λz hz=>?_,ph hx (λz hz=>h z (Ha _ hz)) p'.2⟩;rcases List.mem_cons.mp ((jH key x ys).mem_iff.mp hz)with rfl|hz
   ·exact q
   ·exact p'.1 z hz
theorem gK{key:α->List D}{σ:bq}:∀{xs:List α},(∀x∈xs,Sh σ (key x))->xs.Pairwise (λx y=>key x≠key y)->qJ key (aM key xs)
 |[],_,_=>List.Pairwise.nil
 |x::xs,h,p=>by
  have p':=List.pairwise_cons.mp p;refine ph (h x G9) (λy hy=>?_) (gK (λy hy=>h y (Ha _ hy)) p'.2);have hy:=(aE key xs).mem_iff.mp hy;exact⟨h y (Ha _ hy),p'.1 y hy⟩
theorem sI{key:α->List D}{σ:bq}:∀{xs ys:List α},(∀x∈xs,Sh σ (key x))->qJ key xs->qJ key ys->xs.Perm ys->xs=ys
 |[],ys,_,_,_,e=>(List.perm_nil.mp e.symm).symm
 |x::xs,[],_,_,_,e=>List.perm_nil.mp e
 |x::xs,y::ys,h,p,q,e=>by
  have p':=List.pairwise_cons.mp p;have q':=List.pairwise_cons.mp q;have exy:x=y:=by
   rcases List.mem_cons.mp (e.mem_iff.mp G9)with z|z
   ·exact z
   ·have w1:=q'.1 x z;rcases List.mem_cons.mp (e.symm.mem_iff.mp G9)with z'|z'
    ·exact z'.symm
    ·have w2:=p'.1 y z'
     have:=wK (h x G9) (h y (Ha _ z')) w2
     rw[w1]at this;cases this
  subst exy;rw[sI (λz hz=>h z (Ha _ hz)) p'.2 q'.2 (List.Perm.cons_inv e)]
theorem lu{key:α->List D}{σ:bq}{xs ys:List α}(h:∀x∈xs,Sh σ (key x))(p:xs.Pairwise λx y=>key x≠key y)(q:qJ key ys)(e:ys.Perm xs):aM key xs=ys:=
 sI (λx hx=>h x ((aE key xs).mem_iff.mp hx)) (gK h p) q ((aE key xs).trans e.symm)
noncomputable def rank(ks:List (List D))(i:Nat):Nat:=(ks.filter λk=>kLt k (ks.getD i [])).length
theorem oo{ks:List (List D)}{σ:bq}(h:∀k∈ks,Sh σ k){i j:Nat}(hi:i<ks.length)(hj:j<ks.length):decide (rank ks i<rank ks j)=kLt (ks.getD i []) (ks.getD j []):=by
 have gi:ks.getD i []=ks[i]:=by simp[hi]
 have gj:ks.getD j []=ks[j]:=by simp[hj]
 have mono:∀a b:List D,Sh σ a->Sh σ b->b9 a b=some true->∀l:List (List D),(∀k∈l,Sh σ k)->(l.filter λk=>kLt k a).length<=(l.filter λk=>kLt k b).length/\(a∈l->(l.filter λk=>kLt k a).length<(l.filter λk=>kLt k b).length):=by
  intro a b ha hb hab l
  induction l with
  |nil=>exact λ_=>⟨Hi _,λz=>nomatch z⟩
  |cons k l ih=>
   intro hl;obtain⟨i1,i2⟩:=ih λz hz=>hl z (Ha _ hz);have hk:=hl k G9;by_cases q:kLt k a=true
   ·have q':kLt k b=true:=yz.mpr (mK hk ha hb (yz.mp q) hab);rw[IE (p:=λk=>kLt k a) q,IE (p:=λk=>kLt k b) q',HK,HK];refine⟨by omega,λz=>?_⟩;rcases List.mem_cons.mp z with rfl|z
    ·rw[yz,iY ha]at q;cases q
    ·have:=i2 z;omega
   ·rw[IG (p:=λk=>kLt k a) q];by_cases q':kLt k b=true
    ·rw[IE (p:=λk=>kLt k b) q',HK];exact⟨by omega,λ_=>by omega⟩
    ·rw[IG (p:=λk=>kLt k b) q'];refine⟨i1,λz=>?_⟩;rcases List.mem_cons.mp z with rfl|z
     ·exact absurd (yz.mpr hab) q'
     ·exact i2 z
 unfold rank;rw[gi,gj];have hi':=h _ (IH hi);have hj':=h _ (IH hj);rcases ky hi' hj' with⟨z,_⟩|z|⟨z,z',_⟩
 ·rw[yz.mpr z];exact decide_eq_true ((mono _ _ hi' hj' z ks h).2 (IH hi))
 ·rw[z]
  have:kLt ks[j] ks[j]=false:=by unfold kLt;rw[iY hj'];rfl
  rw[this];exact decide_eq_false (G1 _)
 ·have e:kLt ks[i] ks[j]=false:=by unfold kLt;rw[z'];rfl
  rw[e];exact decide_eq_false (Nat.not_lt.mpr (mono _ _ hj' hi' z ks h).1)
end
section
variable{cmp:Nat->Nat->(Bool->bu)->bu}{r:Nat->Nat}{N:Nat}
noncomputable def bj(cmp:Nat->Nat->(Bool->bu)->bu)(r:Nat->Nat)(N:Nat)(s:KN):Prop:=∀(i j:Nat)(C:Bool->bu),i<N->j<N->C (decide (r i<r j)) s->cmp i j C s
noncomputable def PM(N:Nat)(p:Array Nat):Prop:=p.Perm (List.toArray (List.range N))
theorem PM.size{p:Array Nat}(h:PM N p):p.size=N:=by
 have:=h.size_eq;simpa using this
theorem PM.lt{p:Array Nat}(h:PM N p){i:Nat}(hi:i<N):p.getD i 0<N:=by
 have hs:=h.size;have e:p.getD i 0=p[i]'`o:=by simp[Array.getD,hs,hi]
 rw[e];have m:p[i]'`o∈p:=Array.getElem_mem _
 have:=(h.mem_iff (a:=p[i]'`o)).mp m
 simpa using this
theorem PM.rev{p:Array Nat}(h:PM N p)(i j:Nat):PM N (L0 p i j):=(mirror_perm p i j _).trans h
noncomputable abbrev Rk(r:Nat->Nat)(p:Array Nat)(i:Nat):Nat:=r (p.getD i 0)
theorem nW{p:Array Nat}{i j:Nat}(hj:j<=p.size)(k:Nat):Rk r (L0 p i j) k=if i<=k/\k<j then Rk r p (i+j-1-k)else Rk r p k:=by
 have e:=getElem?_mirror_all (xs:=p) (i:=i) (j:=j) hj k;have g:∀(q:Array Nat)(k:Nat),q.getD k 0=(q[k]?).getD 0:=λq k=>by simp
 show r ((L0 p i j).getD k 0)=_;rw[g];show r (((mirror p i j ((j-i)/2))[k]?).getD 0)=_;rw[e];split
 ·show _=r (p.getD _ 0);rw[g]
 ·show _=r (p.getD _ 0);rw[g]
theorem rK{p:Array Nat}{src d:Nat}(hs:src<p.size)(hd:d<=src)(k:Nat):Rk r (bubble p src d) k=if k=src-d then Rk r p src else if src-d<k/\k<=src then Rk r p (k-1)else Rk r p k:=by
 have e:=getElem?_bubble (xs:=p) hs d hd k;have g:∀(q:Array Nat)(k:Nat),q.getD k 0=(q[k]?).getD 0:=λq k=>by simp
 show r ((bubble p src d).getD k 0)=_;rw[g,e];split
 ·show _=r (p.getD _ 0);rw[g]
 ·split
  ·show _=r (p.getD _ 0);rw[g]
  ·show _=r (p.getD _ 0);rw[g]
noncomputable def Up(r:Nat->Nat)(p:Array Nat)(k:Nat):Prop:=∀i j,i<=j->j<k->Rk r p i<=Rk r p j
variable{s:KN}
end
end TG
namespace TG
open PySem PySem.Spec PyProof.Rows PySem.W L2
noncomputable def dh:Bool->L1->Array L1->Nat->Nat->Nat->StateT L3 Sem (Option Nat):=sortPriv% PySem.Builtin.gallop
noncomputable def lw:Array L1->Array L1->StateT L3 Sem (Array L1):=sortPriv% PySem.Builtin.mergeLo
noncomputable def kX:Array L1->Array L1->StateT L3 Sem (Array L1):=sortPriv% PySem.Builtin.mergeHi
noncomputable abbrev setG(st:L3)(g:Nat):L3:=SortSt.mk' (kindOf st) (arrOf st) (pendingOf st) g (failedOf st)
noncomputable def pI(left:Bool)(key:L1)(arr:Array L1)(i:Nat):StateT L3 Sem (Option Bool):=do
 let x<-elem' arr i
 if left then lt' x key else return(<-lt' key x).map (!·)
noncomputable def ou(left:Bool)(key:L1)(arr:Array L1)(base n lo hi:Nat):StateT L3 Sem (Option Nat):=do
 let mut lo:=lo
 let mut hi:=hi
 for _ in[0:n]do
  if lo>=hi then break
  let m:=lo+(hi-lo)/2
  let some more<-pI left key arr (base+m)|return none
  if more then lo:=m+1 else hi:=m
 return some hi
theorem rq(left:Bool)(key:L1)(arr:Array L1)(base n hint:Nat):dh left key arr base n hint=(do
 let some right<-pI left key arr (base+hint)|return none
 if right then
  let mut lastofs:=0
  let mut ofs:=1
  for _ in[0:n]do
   if ofs>=n-hint then break
   let some more<-pI left key arr (base+(hint+ofs))|return none
   if !more then break
   lastofs:=ofs
   ofs:=2*ofs+1
  ou left key arr base n (hint+lastofs+1) (hint+min ofs (n-hint))
 else
  let mut lastofs:=0
  let mut ofs:=1
  for _ in[0:n]do
   if ofs>=hint+1 then break
   let some found<-pI left key arr (base+(hint-ofs))|return none
   if found then break
   lastofs:=ofs
   ofs:=2*ofs+1
  ou left key arr base n (hint+1-min ofs (hint+1)) (hint-lastofs)):=rfl
section
variable{prog:KP}{w:KO}{A:KY}{E:aA}{s:KN}{left:Bool}{key:L1}{arr:Array L1}{base n hint:Nat}{P:Nat->Bool}{st:L3}{Q:Option Nat->L3->Prop}
theorem ng(hb:∀i,i<n->∀Q':Option Bool->L3->Prop,Q' (some (P i)) st->wpS `g A E s (pI left key arr (base+i)) Q' st)
  (hm:∀i j,i<=j->j<n->P j=true->P i=true) (h:∀k,k<=n->(∀i,i<k->P i=true)->(∀i,k<=i->i<n->P i=false)->Q (some k) st)
  {lo hi:Nat} (h1:lo<=hi) (h2:hi<=n) (hl:∀i,i<lo->P i=true) (hr:∀i,hi<=i->i<n->P i=false):wpS `g A E s (ou left key arr base n lo hi) Q st:=by
 unfold ou;dsimp only;refine L4 (L5 (L6 (I:=λx c st'=>st'=st/\∃l r,c=(none,l,r)/\l<=r/\r<=n/\r-l<=n-x/\(∀i,i<l->P i=true)/\∀i,r<=i->i<n->P i=false)
  (Q:=λc st'=>st'=st/\∃l,c=(none,l,l)/\l<=n/\(∀i,i<l->P i=true)/\∀i,l<=i->i<n->P i=false) ?step ?fin ⟨rfl,lo,hi,rfl,h1,h2,by omega,hl,hr⟩) ?post)
 case post=>
  rintro c st' ⟨rfl,l,rfl,a,b,d⟩;exact L7 (h l a b d)
 case fin=>
  rintro c st' ⟨rfl,l,r,rfl,a,b,d,e,f⟩
  have:l=r:=by omega
  subst this;exact⟨rfl,l,rfl,b,e,f⟩
 case step=>
  rintro x c st' _ hx ⟨rfl,l,r,rfl,a,b,d,e,f⟩;dsimp only;by_cases z:l>=r
  ·rw[if_pos z]
   have:l=r:=(by omega);subst this;exact L7 ⟨rfl,l,rfl,b,e,f⟩
  ·rw[if_neg z];refine L4 (hb (l+(r-l)/2) `o _ ?_);cases q:P (l+(r-l)/2)with
   |true=>
    simp only[if_true];exact L7 ⟨rfl,_,r,rfl,by omega,b,by omega,λi hi=>hm i _ `o `o q,f⟩
   |false=>
    simp only[HS,if_false];refine L7 ⟨rfl,l,_,rfl,by omega,by omega,by omega,e,λi h1 h2=>?_⟩;cases y:P i with
    |false=>rfl
    |true=>rw[hm _ i h1 h2 y]at q;cases q
theorem uC(hb:∀i,i<n->∀Q':Option Bool->L3->Prop,Q' (some (P i)) st->wpS `g A E s (pI left key arr (base+i)) Q' st)
  (hm:∀i j,i<=j->j<n->P j=true->P i=true) (hh:hint<n) (h:∀k,k<=n->(∀i,i<k->P i=true)->(∀i,k<=i->i<n->P i=false)->Q (some k) st):
  wpS `g A E s (dh left key arr base n hint) Q st:=by
 have hf:∀i j,i<=j->j<n->P i=false->P j=false:=λi j a b c=>by
  cases y:P j with
  |false=>rfl
  |true=>rw[hm _ j a b y]at c;cases c
 rw[rq];refine L4 (hb hint hh _ ?_);cases q:P hint with
 |true=>
  simp only[if_true];refine L4 (L5 (L6 (I:=λx c st'=>st'=st/\∃l o,c=(none,l,o)/\l<o/\x<o/\hint+l<n/\P (hint+l)=true)
   (Q:=λc st'=>st'=st/\∃l o,c=(none,l,o)/\l<o/\hint+l<n/\P (hint+l)=true/\(n-hint<=o\/P (hint+o)=false)) ?step ?fin ⟨rfl,0,1,rfl,by omega,by omega,by omega,q⟩) ?post)
  case post=>
   rintro c st' ⟨rfl,l,o,rfl,a,b,d,e⟩;dsimp only;refine ng hb hm h `o `o (λi hi=>hm i _ `o b d) λi h1 h2=>?_;rcases e with e|e
   ·omega
   ·exact hf _ i `o h2 e
  case fin=>
   rintro c st' ⟨rfl,l,o,rfl,a,b,d,e⟩;exact⟨rfl,l,o,rfl,a,d,e,.inl `o⟩
  case step=>
   rintro x c st' _ hx ⟨rfl,l,o,rfl,a,b,d,e⟩;dsimp only;by_cases z:o>=n-hint
   ·rw[if_pos z];exact L7 ⟨rfl,l,o,rfl,a,d,e,.inl z⟩
   ·rw[if_neg z];refine L4 (hb (hint+o) `o _ ?_);cases y:P (hint+o)with
    |false=>
     simp only[II,if_true];exact L7 ⟨rfl,l,o,rfl,a,d,e,.inr y⟩
    |true=>
     simp only[IJ,HS,if_false];exact L7 ⟨rfl,o,2*o+1,rfl,by omega,by omega,by omega,y⟩
 |false=>
  simp only[HS,if_false];refine L4 (L5 (L6 (I:=λx c st'=>st'=st/\∃l o,c=(none,l,o)/\l<o/\x<o/\l<=hint/\P (hint-l)=false)
   (Q:=λc st'=>st'=st/\∃l o,c=(none,l,o)/\l<o/\l<=hint/\P (hint-l)=false/\(hint+1<=o\/P (hint-o)=true)) ?step ?fin ⟨rfl,0,1,rfl,by omega,by omega,by omega,q⟩) ?post)
  case post=>
   rintro c st' ⟨rfl,l,o,rfl,a,b,d,e⟩;dsimp only;refine ng hb hm h `o `o (λi hi=>?_) λi h1 h2=>hf _ i h1 h2 d;rcases e with e|e
   ·omega
   ·exact hm i (hint-o) `o `o e
  case fin=>
   rintro c st' ⟨rfl,l,o,rfl,a,b,d,e⟩;exact⟨rfl,l,o,rfl,a,d,e,.inl `o⟩
  case step=>
   rintro x c st' _ hx ⟨rfl,l,o,rfl,a,b,d,e⟩;dsimp only;by_cases z:o>=hint+1
   ·rw[if_pos z];exact L7 ⟨rfl,l,o,rfl,a,d,e,.inl z⟩
   ·rw[if_neg z];refine L4 (hb (hint-o) `o _ ?_);cases y:P (hint-o)with
    |true=>
     simp only[if_true];exact L7 ⟨rfl,l,o,rfl,a,d,e,.inr y⟩
    |false=>
     simp only[HS,if_false];exact L7 ⟨rfl,o,2*o+1,rfl,by omega,by omega,by omega,y⟩
end
structure Jn(R:Nat->Nat->Prop)(B0 out a b:aP):Prop where
 so:out.Pairwise R
 sa:a.Pairwise R
 sb:b.Pairwise R
 la:∀x∈out,∀y∈a,R x y
 lb:∀x∈out,∀y∈b,R x y
 pm:(out++(a++b)).Perm B0
section
variable{R:Nat->Nat->Prop}{B0 out a b a1 a2 b1 b2:aP}
theorem Jn.swap(h:Jn R B0 out a b):Jn R B0 out b a:=⟨h.so,h.sb,h.sa,h.lb,h.la,(List.Perm.append_left _ List.perm_append_comm).trans h.pm⟩
theorem Jn.takeA(h:Jn R B0 out (a1++a2) b)(q:∀x∈a1,∀y∈b,R x y):Jn R B0 (out++a1) a2 b:=by
 obtain⟨s1,s2,s3⟩:=List.pairwise_append.mp h.sa;refine⟨List.pairwise_append.mpr ⟨h.so,s1,λx hx y hy=>h.la x hx y (Hc _ hy)⟩,s2,h.sb,λx hx y hy=>?_,λx hx y hy=>?_,?_⟩
 ·rcases List.mem_append.mp hx with z|z
  ·exact h.la x z y (Hj _ hy)
  ·exact s3 x z y hy
 ·rcases List.mem_append.mp hx with z|z
  ·exact h.lb x z y hy
  ·exact q x z y hy
 ·have:=h.pm
  rwa [Iu,<-Iu,<-Iu]at *
theorem Jn.takeB(h:Jn R B0 out a (b1++b2))(q:∀x∈b1,∀y∈a,R x y):Jn R B0 (out++b1) a b2:=(h.swap.takeA q).swap
theorem Jn.done(h:Jn R B0 out a b)(q:∀x∈a,∀y∈b,R x y):(out++a++b).Pairwise R/\(out++a++b).Perm B0:=by
 refine⟨?_,by rw[Iu];exact h.pm⟩;refine List.pairwise_append.mpr ⟨List.pairwise_append.mpr ⟨h.so,h.sa,h.la⟩,h.sb,λx hx y hy=>?_⟩;rcases List.mem_append.mp hx with z|z
 ·exact h.lb x z y hy
 ·exact q x z y hy
end
section
variable{prog:KP}{w:KO}{A:KY}{E:aA}{s:KN}{κ:L8}{it:Array L1}{r:Nat->Nat}{N:Nat}
theorem iO{i j:Nat}(hc:bj (L9 prog w A κ it) r N s)(hi:i<N)(hj:j<N){st:L3}(hk:kindOf st=κ){Q:Option Bool->L3->Prop}(h:Q (some (decide (r i<r j))) st):wpS `g A E s (lt' (Ma it i) (Ma it j)) Q st:=by
 rw[lt'_eq];refine L4 (Mb ?_);rw[hk];refine L4 (Md (Mf (K4 (hc i j (λc s'=>s'=s/\c=decide (r i<r j)) hi hj ⟨rfl,rfl⟩) ?_ λ_ _ e=>e.elim)));rintro c s' ⟨rfl,rfl⟩;exact⟨rfl,L7 h⟩
theorem aB{q:Array Nat}{i:Nat}(hi:i<q.size){st:L3}{Q:L1->L3->Prop}(h:Q (Ma it (q.getD i 0)) st):wpS `g A E s (elem' (q.map (Ma it)) i) Q st:=by
 rw[elem'_eq];have e:q.getD i 0=q[i]:=by simp[Array.getD,hi]
 rw[e]at h;have g:(q.map (Ma it))[i]?=some (Ma it q[i]):=by simp[hi]
 rw[g];exact L7 h
noncomputable def qq(r:Nat->Nat)(left:Bool)(k x:Nat):Bool:=if left then decide (r x<r k)else !decide (r k<r x)
theorem vH{left:Bool}{k:Nat}{q:Array Nat}{i:Nat}(hc:bj (L9 prog w A κ it) r N s)(hk:k<N)(hi:i<q.size)(hq:∀x∈q.toList,x<N){st:L3}(hs:kindOf st=κ){Q:Option Bool->L3->Prop}
  (h:Q (some (qq r left k (q.getD i 0))) st):wpS `g A E s (pI left (Ma it k) (q.map (Ma it)) i) Q st:=by
 have hx:q.getD i 0<N:=hq _ (by
  have e:q.getD i 0=q[i]:=by simp[Array.getD,hi]
  rw[e];simp)
 unfold pI;refine L4 (aB hi ?_);cases left with
 |true=>
  simp only[if_true];exact iO hc hx hk hs h
 |false=>
  simp only[HS,if_false];exact L4 (iO hc hk hx hs (L7 h))
theorem gW{left:Bool}{k:Nat}{q:Array Nat}{base n hint:Nat}(hc:bj (L9 prog w A κ it) r N s)(hk:k<N)(hn:base+n<=q.size)(hh:hint<n)(hq:∀x∈q.toList,x<N)
  (hs:∀i j,i<=j->j<n->r (q.getD (base+i) 0)<=r (q.getD (base+j) 0)) {st:L3} (hst:kindOf st=κ) {Q:Option Nat->L3->Prop}
  (h:∀m,m<=n->(∀i,i<m->qq r left k (q.getD (base+i) 0)=true)->(∀i,m<=i->i<n->qq r left k (q.getD (base+i) 0)=false)->Q (some m) st):wpS `g A E s (dh left (Ma it k) (q.map (Ma it)) base n hint) Q st:=by
 refine uC (P:=λi=>qq r left k (q.getD (base+i) 0)) (λi hi Q' hQ=>vH hc hk `o hq hst hQ) (λi j hij hj hb=>?_) hh h;have z:=hs i j hij hj;unfold qq at hb ⊢;cases left with
 |true=>simp only[if_true,decide_eq_true_eq]at hb ⊢;omega
 |false=>simp only[HS,if_false,IK,decide_eq_false_iff_not]at hb ⊢;omega
end
noncomputable def iJ:Nat->StateT L3 Sem Unit:=sortPriv% PySem.Builtin.setMinGallop
theorem fD(g:Nat):iJ g=modify (λs=>setG s g):=rfl
noncomputable abbrev n9(a b out:Array L1)(ia ib:Nat):Array L1:=out++a.extract ia a.size++b.extract ib b.size
noncomputable abbrev vw(a b out:Array L1)(ia ib:Nat):Array L1:=out++b.extract ib b.size++a.extract ia a.size
noncomputable abbrev S6:=Option (Array L1)×Array L1×Nat×Nat×Nat×Nat
noncomputable abbrev S7:=Option (Array L1)×Array L1×Nat×Nat×Nat×Nat×Nat
noncomputable abbrev S5:=Option (Array L1)×Array L1×Nat×Nat×Nat
noncomputable def lo1(a b:Array L1)(mg:Nat)(out:Array L1)(ia ib ac bc:Nat):StateT L3 Sem (ForInStep S6):=do
 let y<-elem' b ib
 let x<-elem' a ia
 let c<-lt' y x
 match c with
 |some bw=>
  if bw=true then do
   let y<-elem' b ib
   if(ib+1==b.size)=true then pure (.done (some (n9 a b (out.push y) ia (ib+1)),out.push y,ia,ib+1,0,bc+1))
   else if bc+1>=mg then pure (.done (none,out.push y,ia,ib+1,0,bc+1))else pure (.yield (none,out.push y,ia,ib+1,0,bc+1))
  else do
   let x<-elem' a ia
   if(ia+1+1==a.size)=true then pure (.done (some (vw a b (out.push x) (ia+1) ib),out.push x,ia+1,ib,ac+1,0))
   else if ac+1>=mg then pure (.done (none,out.push x,ia+1,ib,ac+1,0))else pure (.yield (none,out.push x,ia+1,ib,ac+1,0))
 |_=>pure (.done (some (n9 a b out ia ib),out,ia,ib,ac,bc))
noncomputable def zN(a b:Array L1)(mg ac bc:Nat)(out:Array L1)(ia ib:Nat):StateT L3 Sem (ForInStep S7):=do
 let x<-elem' a ia
 if(ia+1+1==a.size)=true then pure (.done (some (vw a b (out.push x) (ia+1) ib),out.push x,ia+1,ib,mg,ac,bc))
 else if(decide (ac<7)&&decide (bc<7))=true then pure (.done (none,out.push x,ia+1,ib,mg,ac,bc))else pure (.yield (none,out.push x,ia+1,ib,mg,ac,bc))
noncomputable def zh(a b:Array L1)(mg ac bc:Nat)(out:Array L1)(ia ib:Nat):StateT L3 Sem (ForInStep S7):=do
 let y<-elem' b ib
 if(ib+1==b.size)=true then pure (.done (some (n9 a b (out.push y) ia (ib+1)),out.push y,ia,ib+1,mg,ac,bc))
 else do
  let x<-elem' a ia
  let c<-dh true x b (ib+1) (b.size-(ib+1)) 0
  match c with
  |some k=>
   if k>0 then
    if(ib+1+k==b.size)=true then pure (.done (some (n9 a b (out.push y++b.extract (ib+1) (ib+1+k)) ia (ib+1+k)),out.push y++b.extract (ib+1) (ib+1+k),ia,ib+1+k,mg,ac,k))
    else zN a b mg ac k (out.push y++b.extract (ib+1) (ib+1+k)) ia (ib+1+k)
   else zN a b mg ac k (out.push y) ia (ib+1)
  |_=>pure (.done (some (n9 a b (out.push y) ia (ib+1)),out.push y,ia,ib+1,mg,ac,bc))
noncomputable def xF(a b:Array L1)(mg ac bc:Nat)(out:Array L1)(ia ib:Nat):StateT L3 Sem (ForInStep S7):=do
 iJ mg
 let y<-elem' b ib
 let c<-dh false y a ia (a.size-ia) 0
 match c with
 |some k=>
  if k>0 then
   if(ia+k+1==a.size)=true then pure (.done (some (vw a b (out++a.extract ia (ia+k)) (ia+k) ib),out++a.extract ia (ia+k),ia+k,ib,mg,k,bc))
   else if(ia+k==a.size)=true then pure (.done (some (n9 a b (out++a.extract ia (ia+k)) (ia+k) ib),out++a.extract ia (ia+k),ia+k,ib,mg,k,bc))
   else zh a b mg k bc (out++a.extract ia (ia+k)) (ia+k) ib
  else zh a b mg k bc out ia ib
 |_=>pure (.done (some (n9 a b out ia ib),out,ia,ib,mg,ac,bc))
noncomputable def Gb(a b:Array L1)(out:Array L1)(ia ib mg:Nat):StateT L3 Sem (ForInStep S5):=do
 let c<-forIn [0:a.size+b.size] ((none,out,ia,ib,0,0):S6) λ_ c=>lo1 a b mg c.2.1 c.2.2.1 c.2.2.2.1 c.2.2.2.2.1 c.2.2.2.2.2
 match c.1 with
 |some r=>pure (.done (some r,c.2.1,c.2.2.1,c.2.2.2.1,mg))
 |none=>do
  liftM (rule "list.sort.gallop")
  let d<-forIn [0:a.size+b.size] ((none,c.2.1,c.2.2.1,c.2.2.2.1,mg+1,c.2.2.2.2.1,c.2.2.2.2.2):S7) λ_ c=>if c.2.2.2.2.1>1 then xF a b (c.2.2.2.2.1-1) c.2.2.2.2.2.1 c.2.2.2.2.2.2 c.2.1 c.2.2.1 c.2.2.2.1 else xF a b c.2.2.2.2.1 c.2.2.2.2.2.1 c.2.2.2.2.2.2 c.2.1 c.2.2.1 c.2.2.2.1
  match d.1 with
  |some r=>pure (.done (some r,d.2.1,d.2.2.1,d.2.2.2.1,d.2.2.2.2.1))
  |none=>do
   iJ (d.2.2.2.2.1+1)
   pure (.yield (none,d.2.1,d.2.2.1,d.2.2.2.1,d.2.2.2.2.1+1))
theorem pF(a b:Array L1):lw a b=(do
 rule "list.sort.merge-lo"
 let y<-elem' b 0
 if(1==b.size)=true then pure (n9 a b #[y] 0 1)
 else if(0+1==a.size)=true then pure (vw a b #[y] 0 1)
 else do
  let st<-get
  let c<-forIn [0:a.size+b.size] ((none,#[y],0,1,gallopOf st):S5) λ_ c=>Gb a b c.2.1 c.2.2.1 c.2.2.2.1 c.2.2.2.2
  match c.1 with
  |some r=>pure r
  |none=>liftM (unsupported "internal:list.sort.merge-bound":Sem (Array L1))):=by kernel_rfl
section
variable{f:Nat->L1}{a b out:Array Nat}{i j:Nat}
theorem dJ(x:Nat):(out.map f).push (f x)=(out.push x).map f:=by simp
theorem cC:(a.map f).extract i j=(a.extract i j).map f:=by simp
theorem c9:a.map f++b.map f=(a++b).map f:=by simp
theorem dA:(a.extract i j).toList=(a.toList.drop i).take (j-i):=by simp
theorem kr:(a.extract i a.size).toList=a.toList.drop i:=by
 rw[dA,IL];rw[HA,Array.length_toList];exact Hi _
theorem sf(h:i<a.size):a.toList.drop i=a.getD i 0::a.toList.drop (i+1):=by
 have e:a.getD i 0=a[i]:=by simp[Array.getD,h]
 rw[e,Iq (by rw[Array.length_toList];exact h)];simp
theorem nT(k:Nat)(h:i+k<a.size):(a.toList.drop i)[k]?=some (a.getD (i+k) 0):=by
 have e:a.getD (i+k) 0=a[i+k]:=by simp[Array.getD,h]
 rw[e,Ik];simp[h]
theorem mem_getD(h:i<a.size):a.getD i 0∈a.toList:=by
 have e:a.getD i 0=a[i]:=by simp[Array.getD,h]
 rw[e];simp
theorem d6{k x:Nat}(h:x∈(a.toList.drop i).take k)(hk:i+k<=a.size):∃m,m<k/\x=a.getD (i+m) 0:=by
 obtain⟨m,hm,rfl⟩:=IM h;rw[Ho,HA,Array.length_toList]at hm;refine⟨m,by omega,?_⟩;rw[IP]
 have:=nT (a:=a) (i:=i) m `o
 rw[Ia (by rw[HA,Array.length_toList];omega)]at this;exact Option.some.inj this
theorem f7{x:Nat}(h:x∈a.toList.drop i):∃m,i<=m/\m<a.size/\x=a.getD m 0:=by
 obtain⟨m,hm,rfl⟩:=IM h;rw[HA,Array.length_toList]at hm;refine⟨i+m,by omega,by omega,?_⟩
 have:=nT (a:=a) (i:=i) m `o
 rw[Ia (by rw[HA,Array.length_toList];omega)]at this;exact Option.some.inj this
theorem o7(k:Nat):a.toList.drop i=(a.toList.drop i).take k++a.toList.drop (i+k):=by
 have e:a.toList.drop (i+k)=(a.toList.drop i).drop k:=by rw[IQ]
 rw[e];exact(IR k _).symm
end
noncomputable def vq(r:Nat->Nat)(a:Array Nat):Prop:=∀i j,i<=j->j<a.size->r (a.getD i 0)<=r (a.getD j 0)
theorem vq.pw{r:Nat->Nat}{a:Array Nat}(h:vq r a):a.toList.Pairwise λx y=>r x<=r y:=by
 refine List.pairwise_iff_getElem.mpr λi j hi hj hij=>?_;rw[Array.length_toList]at hi hj
 have:=h i j `o hj
 have e1:a.getD i 0=a[i]:=by simp[Array.getD,hi]
 have e2:a.getD j 0=a[j]:=by simp[Array.getD,hj]
 rw[e1,e2]at this
 simpa using this
section
variable{prog:KP}{w:KO}{A:KY}{E:aA}{s:KN}{κ:L8}{it:Array L1}{r:Nat->Nat}{N:Nat}{a b:Array Nat}{B0:aP}
noncomputable def dQ(it:Array L1)(r:Nat->Nat)(B0:aP)(x:Array L1):Prop:=∃q:Array Nat,x=q.map (Ma it)/\(q.toList.Pairwise λx y=>r x<=r y)/\q.toList.Perm B0
noncomputable abbrev JL(r:Nat->Nat)(B0:aP)(a b out:Array Nat)(ia ib:Nat):Prop:=Jn (λx y=>r x<=r y) B0 out.toList (a.toList.drop ia) (b.toList.drop ib)
theorem kW{out:Array Nat}{ia ib:Nat}(h:JL r B0 a b out ia ib)(hb:ib=b.size\/ia=a.size):dQ it r B0 (n9 (a.map (Ma it)) (b.map (Ma it)) (out.map (Ma it)) ia ib):=by
 refine⟨out++a.extract ia a.size++b.extract ib b.size,?_,?_⟩
 ·show _++_++_=_;rw[Array.size_map,Array.size_map,cC,cC,c9,c9]
 ·rw[Array.toList_append,Array.toList_append,kr,kr];refine h.done λx hx y hy=>?_;rcases hb with z|z
  ·rw[z,IT (by rw[Array.length_toList];exact Hi _)]at hy;cases hy
  ·rw[z,IT (by rw[Array.length_toList];exact Hi _)]at hx;cases hx
theorem oN{out:Array Nat}{ia ib:Nat}(h:JL r B0 a b out ia ib)(ha:ia+1=a.size)(hl:∀y∈b.toList,r y<=r (a.getD (a.size-1) 0)):dQ it r B0 (vw (a.map (Ma it)) (b.map (Ma it)) (out.map (Ma it)) ia ib):=by
 refine⟨out++b.extract ib b.size++a.extract ia a.size,?_,?_⟩
 ·show _++_++_=_;rw[Array.size_map,Array.size_map,cC,cC,c9,c9]
 ·rw[Array.toList_append,Array.toList_append,kr,kr];refine h.swap.done λx hx y hy=>?_;obtain⟨m,m1,m2,rfl⟩:=f7 hy;rw[show m=a.size-1 by omega];exact hl x (IU hx)
theorem JL.pushB{out:Array Nat}{ia ib:Nat}(h:JL r B0 a b out ia ib)(ua:vq r a)(h1:ia<a.size)(h2:ib<b.size)(q:r (b.getD ib 0)<=r (a.getD ia 0)):JL r B0 a b (out.push (b.getD ib 0)) ia (ib+1):=by
 have h:Jn _ _ _ _ _:=h;rw[sf h2]at h
 have:=Jn.takeB (b1:=[b.getD ib 0]) h λx hx y hy=>by
  rw[List.mem_singleton.mp hx];obtain⟨m,m1,m2,rfl⟩:=f7 hy;exact G3 q (ua _ _ m1 m2)
 show Jn _ _ _ _ _;rw[Array.toList_push];exact this
theorem JL.pushA{out:Array Nat}{ia ib:Nat}(h:JL r B0 a b out ia ib)(ub:vq r b)(h1:ia<a.size)(h2:ib<b.size)(q:r (a.getD ia 0)<=r (b.getD ib 0)):JL r B0 a b (out.push (a.getD ia 0)) (ia+1) ib:=by
 have h:Jn _ _ _ _ _:=h;rw[sf h1]at h
 have:=Jn.takeA (a1:=[a.getD ia 0]) h λx hx y hy=>by
  rw[List.mem_singleton.mp hx];obtain⟨m,m1,m2,rfl⟩:=f7 hy;exact G3 q (ub _ _ m1 m2)
 show Jn _ _ _ _ _;rw[Array.toList_push];exact this
theorem JL.partA{out:Array Nat}{ia ib k:Nat}(h:JL r B0 a b out ia ib)(ub:vq r b)(h1:ia+k<=a.size)(h2:ib<b.size)(q:∀i,i<k->r (a.getD (ia+i) 0)<=r (b.getD ib 0)):JL r B0 a b (out++a.extract ia (ia+k)) (ia+k) ib:=by
 have h:Jn _ _ _ _ _:=h;rw[o7 k]at h
 have:=Jn.takeA h λx hx y hy=>by
  obtain⟨i,hi,rfl⟩:=d6 hx h1;obtain⟨m,m1,m2,rfl⟩:=f7 hy;exact G3 (q i hi) (ub _ _ m1 m2)
 show Jn _ _ _ _ _;rw[Array.toList_append,dA,IV];exact this
theorem JL.partB{out:Array Nat}{ia ib k:Nat}(h:JL r B0 a b out ia ib)(ua:vq r a)(h1:ia<a.size)(h2:ib+k<=b.size)(q:∀i,i<k->r (b.getD (ib+i) 0)<=r (a.getD ia 0)):JL r B0 a b (out++b.extract ib (ib+k)) ia (ib+k):=by
 have h:Jn _ _ _ _ _:=h;rw[o7 (a:=b) k]at h
 have:=Jn.takeB h λx hx y hy=>by
  obtain⟨i,hi,rfl⟩:=d6 hx h2;obtain⟨m,m1,m2,rfl⟩:=f7 hy;exact G3 (q i hi) (ua _ _ m1 m2)
 show Jn _ _ _ _ _;rw[Array.toList_append,dA,IV];exact this
end
section
variable{prog:KP}{w:KO}{A:KY}{E:aA}{s:KN}{κ:L8}{it:Array L1}{r:Nat->Nat}{N:Nat}{a b:Array Nat}{B0:aP}{st:L3}
structure vj(r:Nat->Nat)(N:Nat)(a b:Array Nat):Prop where
 ua:vq r a
 ub:vq r b
 na:∀x∈a.toList,x<N
 nb:∀x∈b.toList,x<N
noncomputable def G6(it:Array L1)(r:Nat->Nat)(B0:aP)(a b:Array Nat)(m:Nat)(c:S6):Prop:=∃out ia ib ac bc,c=(none,out.map (Ma it),ia,ib,ac,bc)/\JL r B0 a b out ia ib/\ia+1<a.size/\ib<b.size/\m<=ia+ib
noncomputable def G7(it:Array L1)(r:Nat->Nat)(B0:aP)(a b:Array Nat)(m:Nat)(c:S7):Prop:=∃out ia ib mg ac bc,c=(none,out.map (Ma it),ia,ib,mg,ac,bc)/\JL r B0 a b out ia ib/\ia+1<a.size/\ib<b.size/\m<=ia+ib
theorem B2(hc:bj (L9 prog w A κ it) r N s)(T:vj r N a b)(hk:kindOf st=κ)(hl:∀y∈b.toList,r y<=r (a.getD (a.size-1) 0)){out:Array Nat}{ia ib mg ac bc:Nat}(h:JL r B0 a b out ia ib)(h1:ia+1<a.size)(h2:ib<b.size):
  wpS `g A E s (lo1 (a.map (Ma it)) (b.map (Ma it)) mg (out.map (Ma it)) ia ib ac bc) (λc st'=>st'=st/\match c with
   |.done c=>(∃x,c.1=some x/\dQ it r B0 x)\/G6 it r B0 a b (ia+ib+1) c
   |.yield c=>G6 it r B0 a b (ia+ib+1) c) st:=by
 unfold lo1;simp only[Array.size_map];refine L4 (aB h2 (L4 (aB `o (L4 (iO hc (T.nb _ (mem_getD h2)) (T.na _ (mem_getD `o)) hk ?_)))));by_cases z:r (b.getD ib 0)<r (a.getD ia 0)
 ·simp only[decide_eq_true z,if_true];refine L4 (aB h2 ?_);have J:=h.pushB T.ua `o h2 (G4 z);rw[dJ];by_cases y:ib+1=b.size
  ·rw[if_pos (by simpa using y)];exact L7 ⟨rfl,.inl ⟨_,rfl,kW J (.inl y)⟩⟩
  ·rw[if_neg (by simpa using y)];have g:∀x1 x2,G6 it r B0 a b (ia+ib+1) (none,(out.push (b.getD ib 0)).map (Ma it),ia,ib+1,x1,x2):=λx1 x2=>⟨_,_,_,_,_,rfl,J,h1,by omega,by omega⟩
   by_cases x:bc+1>=mg
   ·rw[if_pos x];exact L7 ⟨rfl,.inr (g _ _)⟩
   ·rw[if_neg x];exact L7 ⟨rfl,g _ _⟩
 ·simp only[decide_eq_false z,HS,if_false];refine L4 (aB `o ?_);have J:=h.pushA T.ub `o h2 (HG z);rw[dJ];by_cases y:ia+1+1=a.size
  ·rw[if_pos (by simpa using y)];exact L7 ⟨rfl,.inl ⟨_,rfl,oN J y hl⟩⟩
  ·rw[if_neg (by simpa using y)];have g:∀x1 x2,G6 it r B0 a b (ia+ib+1) (none,(out.push (a.getD ia 0)).map (Ma it),ia+1,ib,x1,x2):=λx1 x2=>⟨_,_,_,_,_,rfl,J,by omega,h2,by omega⟩
   by_cases x:ac+1>=mg
   ·rw[if_pos x];exact L7 ⟨rfl,.inr (g _ _)⟩
   ·rw[if_neg x];exact L7 ⟨rfl,g _ _⟩
noncomputable abbrev E7(it : Array L1)(r : Nat -> Nat)(B0 : aP)(a b : Array Nat)(m : Nat)(st : L3)(c : ForInStep S7)(st' : L3): Prop := (∃ g, st' = setG st g) /\ match c with
      |.done c=>(∃x,c.1=some x/\dQ it r B0 x)\/G7 it r B0 a b m c
      |.yield c=>G7 it r B0 a b m c
theorem sG(hl:∀y∈b.toList,r y<=r (a.getD (a.size-1) 0))(T:vj r N a b){g m:Nat}{out:Array Nat}{ia ib mg ac bc:Nat}(h:JL r B0 a b out ia ib)(h1:ia+1<a.size)(h2:ib<b.size)(q:r (a.getD ia 0)<=r (b.getD ib 0))(hm:m<=ia+ib+1):
  wpS `g A E s (zN (a.map (Ma it)) (b.map (Ma it)) mg ac bc (out.map (Ma it)) ia ib) (E7 it r B0 a b m st) (setG st g):=by
 unfold zN;simp only[Array.size_map];refine L4 (aB `o ?_);have J:=h.pushA T.ub `o h2 q;rw[dJ];by_cases y:ia+1+1=a.size
 ·rw[if_pos (by simpa using y)];exact L7 ⟨⟨g,rfl⟩,.inl ⟨_,rfl,oN J y hl⟩⟩
 ·rw[if_neg (by simpa using y)];have gg:∀x0 x1 x2,G7 it r B0 a b m (none,(out.push (a.getD ia 0)).map (Ma it),ia+1,ib,x0,x1,x2):=λx0 x1 x2=>⟨_,_,_,_,_,_,rfl,J,by omega,h2,by omega⟩
  split
  ·exact L7 ⟨⟨g,rfl⟩,.inr (gg _ _ _)⟩
  ·exact L7 ⟨⟨g,rfl⟩,gg _ _ _⟩
theorem tI(hc:bj (L9 prog w A κ it) r N s)(hk:kindOf st=κ)(hl:∀y∈b.toList,r y<=r (a.getD (a.size-1) 0))(T:vj r N a b){g m:Nat}{out:Array Nat}{ia ib mg ac bc:Nat}(h:JL r B0 a b out ia ib)(h1:ia+1<a.size)(h2:ib<b.size)(q:r (b.getD ib 0)<=r (a.getD ia 0))(hm:m<=ia+ib+1):
  wpS `g A E s (zh (a.map (Ma it)) (b.map (Ma it)) mg ac bc (out.map (Ma it)) ia ib) (E7 it r B0 a b m st) (setG st g):=by
 unfold zh;simp only[Array.size_map];refine L4 (aB h2 ?_);have J:=h.pushB T.ua `o h2 q;rw[dJ];by_cases y:ib+1=b.size
 ·rw[if_pos (by simpa using y)];exact L7 ⟨⟨g,rfl⟩,.inl ⟨_,rfl,kW J (.inl y)⟩⟩
 ·rw[if_neg (by simpa using y)];refine L4 (aB `o (L4 (gW (st:=setG st g) (k:=a.getD ia 0) (base:=ib+1) (n:=b.size-(ib+1)) (hint:=0) hc (T.na _ (mem_getD `o)) `o `o T.nb (λi j hij hj=>T.ub _ _ `o `o) hk λk k1 k2 k3=>?_)));dsimp only;rw[cC,c9];have lt:∀i,i<k->r (b.getD (ib+1+i) 0)<r (a.getD ia 0):=λi hi=>by simpa [qq]using k2 i hi
  have J2:=J.partB T.ua `o `o λi hi=>G4 (lt i hi);have ge:ib+1+k<b.size->r (a.getD ia 0)<=r (b.getD (ib+1+k) 0):=λz=>by
   have:=k3 k (Hi _) `o
   simpa [qq]using this
  by_cases x:k>0
  ·rw[if_pos x];by_cases v:ib+1+k=b.size
   ·rw[if_pos (by simpa using v)];exact L7 ⟨⟨g,rfl⟩,.inl ⟨_,rfl,kW J2 (.inl v)⟩⟩
   ·rw[if_neg (by simpa using v)];exact sG hl T J2 h1 `o (ge `o) `o
  ·rw[if_neg x];have k0:k=0:=(by omega);subst k0;exact sG hl T J h1 `o (ge `o) `o
theorem zI(hc:bj (L9 prog w A κ it) r N s)(hk:kindOf st=κ)(hl:∀y∈b.toList,r y<=r (a.getD (a.size-1) 0))(T:vj r N a b){g m:Nat}{out:Array Nat}{ia ib mg ac bc:Nat}(h:JL r B0 a b out ia ib)(h1:ia+1<a.size)(h2:ib<b.size)(hm:m<=ia+ib+1):
  wpS `g A E s (xF (a.map (Ma it)) (b.map (Ma it)) mg ac bc (out.map (Ma it)) ia ib) (E7 it r B0 a b m st) (setG st g):=by
 unfold xF;simp only[Array.size_map];rw[fD];refine L4 (Mg ?_);show wpS _ _ _ _ _ _ (setG st mg);refine L4 (aB h2 (L4 (gW (st:=setG st mg) (base:=ia) (n:=a.size-ia) (hint:=0) hc (T.nb _ (mem_getD h2)) `o `o T.na (λi j hij hj=>T.ua _ _ `o `o) hk λk k1 k2 k3=>?_)));dsimp only;rw[cC,c9];have le:∀i,i<k->r (a.getD (ia+i) 0)<=r (b.getD ib 0):=λi hi=>by simpa [qq]using k2 i hi
 have J:=h.partA T.ub `o h2 le;have gt:ia+k<a.size->r (b.getD ib 0)<r (a.getD (ia+k) 0):=λz=>by
  have:=k3 k (Hi _) `o
  simpa [qq]using this
 by_cases x:k>0
 ·rw[if_pos x];by_cases v:ia+k+1=a.size
  ·rw[if_pos (by simpa using v)];exact L7 ⟨⟨mg,rfl⟩,.inl ⟨_,rfl,oN J v hl⟩⟩
  ·rw[if_neg (by simpa using v)];by_cases u:ia+k=a.size
   ·rw[if_pos (by simpa using u)];exact L7 ⟨⟨mg,rfl⟩,.inl ⟨_,rfl,kW J (.inr u)⟩⟩
   ·rw[if_neg (by simpa using u)];exact tI hc hk hl T J `o h2 (G4 (gt `o)) `o
 ·rw[if_neg x];have k0:k=0:=by omega
  subst k0;exact tI hc hk hl T h h1 h2 (G4 (gt `o)) `o
noncomputable def G5(it:Array L1)(r:Nat->Nat)(B0:aP)(a b:Array Nat)(m:Nat)(c:S5):Prop:=∃out ia ib mg,c=(none,out.map (Ma it),ia,ib,mg)/\JL r B0 a b out ia ib/\ia+1<a.size/\ib<b.size/\m<=ia+ib
theorem C6(hc:bj (L9 prog w A κ it) r N s)(hk:kindOf st=κ)(hl:∀y∈b.toList,r y<=r (a.getD (a.size-1) 0))(T:vj r N a b){g:Nat}{out:Array Nat}{ia ib mg:Nat}(h:JL r B0 a b out ia ib)(h1:ia+1<a.size)(h2:ib<b.size):
  wpS `g A E s (Gb (a.map (Ma it)) (b.map (Ma it)) (out.map (Ma it)) ia ib mg) (λc st'=>(∃g,st'=setG st g)/\match c with
   |.done c=>∃x,c.1=some x/\dQ it r B0 x
   |.yield c=>G5 it r B0 a b (ia+ib+1) c) (setG st g):=by
 unfold Gb;simp only[Array.size_map];refine L4 (L5 (L6 (I:=λx c st'=>st'=setG st g/\G6 it r B0 a b (ia+ib+x) c)
  (Q:=λc st'=>st'=setG st g/\((∃x,c.1=some x/\dQ it r B0 x)\/G6 it r B0 a b (ia+ib+1) c)) ?step ?fin ⟨rfl,_,_,_,_,_,rfl,h,h1,h2,by omega⟩) ?post)
 case fin=>
  rintro c st' ⟨rfl,o,i,j,x,y,rfl,J,j1,j2,j3⟩;omega
 case step=>
  rintro x c st' _ hx ⟨rfl,o,i,j,x1,x2,rfl,J,j1,j2,j3⟩;dsimp only;refine L5 (B2 (st:=setG st g) hc T hk hl J j1 j2) λc st' q=>?_;obtain⟨rfl,q⟩:=q;have up:∀{m n:Nat}{c:S6},n<=m->G6 it r B0 a b m c->G6 it r B0 a b n c:=λhmn zq=>zq.elim λo zq=>zq.elim λi zq=>zq.elim λj zq=>zq.elim λx zq=>zq.elim λy zq=>zq.elim λe zq=>zq.elim λJ zq=>zq.elim λa1 zq=>zq.elim λa2 a3=>⟨o,i,j,x,y,e,J,a1,a2,G3 hmn a3⟩
  cases c with
  |done c=>
   rcases q with q|q
   ·exact⟨rfl,.inl q⟩
   ·exact⟨rfl,.inr (up `o q)⟩
  |yield c=>exact⟨rfl,up `o q⟩
 case post=>
  rintro c st' ⟨rfl,q⟩;rcases q with⟨x,e,F⟩|⟨o,i,j,x1,x2,rfl,J,j1,j2,j3⟩
  ·rw[e];exact L7 ⟨⟨g,rfl⟩,x,rfl,F⟩
  ·dsimp only;refine L4 (Md (LX ⟨rfl,?_⟩));refine L4 (L5 (L6 (I:=λx c st'=>(∃g,st'=setG st g)/\G7 it r B0 a b (ia+ib+1) c)
    (Q:=λc st'=>(∃g,st'=setG st g)/\((∃x,c.1=some x/\dQ it r B0 x)\/G7 it r B0 a b (ia+ib+1) c)) ?_ (λc st' q=>⟨q.1,.inr q.2⟩) ⟨⟨g,rfl⟩,_,_,_,_,_,_,rfl,J,j1,j2,j3⟩) ?_)
   ·rintro x c st' _ hx ⟨⟨g',rfl⟩,o,i,j,x0,x1,x2,rfl,J,j1,j2,j3⟩;dsimp only;have fi:∀mg,wpS `g A E s (xF (a.map (Ma it)) (b.map (Ma it)) mg x1 x2 (o.map (Ma it)) i j) (E7 it r B0 a b (ia+ib+1) st) (setG st g'):=λmg=>zI hc hk hl T J j1 j2 `o;by_cases z:x0>1
    ·rw[if_pos z];exact L5 (fi _) λc st' q=>by cases c<;>exact q
    ·rw[if_neg z];exact L5 (fi _) λc st' q=>by cases c<;>exact q
   ·rintro c st' ⟨⟨g',rfl⟩,q⟩;rcases q with⟨x,e,F⟩|⟨o,i,j,x0,x1,x2,rfl,J,j1,j2,j3⟩
    ·rw[e];exact L7 ⟨⟨g',rfl⟩,x,rfl,F⟩
    ·dsimp only;rw[fD];exact L4 (Mg (L7 ⟨⟨_,rfl⟩,_,_,_,_,rfl,J,j1,j2,j3⟩))
theorem rn(hc:bj (L9 prog w A κ it) r N s)(hk:kindOf st=κ)(hl:∀y∈b.toList,r y<=r (a.getD (a.size-1) 0))(hf:r (b.getD 0 0)<=r (a.getD 0 0))(T:vj r N a b)(a0:0<a.size)(b0:0<b.size){Q:Array L1->L3->Prop}
  (h:∀x g,dQ it r (a.toList++b.toList) x->Q x (setG st g)):wpS `g A E s (lw (a.map (Ma it)) (b.map (Ma it))) Q st:=by
 have J0:JL r (a.toList++b.toList) a b #[] 0 0:=⟨List.Pairwise.nil,T.ua.pw,T.ub.pw,(λx hx=>nomatch hx),(λx hx=>nomatch hx),List.Perm.refl _⟩
 have J:=J0.pushB T.ua a0 b0 hf;have e1:#[Ma it (b.getD 0 0)]=((#[]:Array Nat).push (b.getD 0 0)).map (Ma it):=by simp
 have hg:∀x,dQ it r (a.toList++b.toList) x->Q x st:=λx F=>h x (gallopOf st) F;rw[pF];refine L4 (Md (LX ⟨rfl,?_⟩));refine L4 (aB b0 ?_);simp only[Array.size_map];rw[e1];by_cases y:1=b.size
 ·rw[if_pos (by simpa using y)];exact L7 (hg _ (kW J (.inl y)))
 ·rw[if_neg (by simpa using y)];by_cases z:0+1=a.size
  ·rw[if_pos (by simpa using z)];exact L7 (hg _ (oN J z hl))
  ·rw[if_neg (by simpa using z)];refine L4 (Mb ?_);refine L4 (L5 (L6 (I:=λx c st'=>(∃g,st'=setG st g)/\G5 it r (a.toList++b.toList) a b (x+1) c)
    (Q:=λc st'=>(∃g,st'=setG st g)/\∃x,c.1=some x/\dQ it r (a.toList++b.toList) x) ?step ?fin ⟨⟨gallopOf st,rfl⟩,_,_,_,_,rfl,J,by omega,by omega,by omega⟩) ?post)
   case fin=>
    rintro c st' ⟨_,o,i,j,x,rfl,J,j1,j2,j3⟩;omega
   case step=>
    rintro x c st' _ hx ⟨⟨g,rfl⟩,o,i,j,x1,rfl,J,j1,j2,j3⟩;dsimp only;refine L5 (C6 hc hk hl T J j1 j2) λc st' q=>?_;obtain⟨q1,q⟩:=q;cases c with
    |done c=>exact⟨q1,q⟩
    |yield c=>
     obtain⟨o,i,j,x,e,J,a1,a2,a3⟩:=q;exact⟨q1,o,i,j,x,e,J,a1,a2,by omega⟩
   case post=>
    rintro c st' ⟨⟨g,rfl⟩,x,e,F⟩;rw[e];exact L7 (h x g F)
end
noncomputable abbrev oa(a b out:Array L1)(na nb:Nat):Array L1:=a.extract 0 na++b.extract 0 nb++out.reverse
noncomputable abbrev vZ(a b out:Array L1)(na nb:Nat):Array L1:=b.extract 0 nb++a.extract 0 na++out.reverse
noncomputable abbrev H6:=Option (Array L1)×Nat×Nat×Array L1×Nat×Nat
noncomputable abbrev H7:=Option (Array L1)×Nat×Nat×Array L1×Nat×Nat×Nat
noncomputable abbrev H5:=Option (Array L1)×Nat×Nat×Array L1×Nat
noncomputable def hi1(a b:Array L1)(mg:Nat)(na nb:Nat)(out:Array L1)(ac bc:Nat):StateT L3 Sem (ForInStep H6):=do
 let y<-elem' b (nb-1)
 let x<-elem' a (na-1)
 let c<-lt' y x
 match c with
 |some aw=>
  if aw=true then do
   let x<-elem' a (na-1)
   if(na-1==0)=true then pure (.done (some (oa a b (out.push x) (na-1) nb),na-1,nb,out.push x,ac+1,0))
   else if ac+1>=mg then pure (.done (none,na-1,nb,out.push x,ac+1,0))else pure (.yield (none,na-1,nb,out.push x,ac+1,0))
  else do
   let y<-elem' b (nb-1)
   if(nb-1==1)=true then pure (.done (some (vZ a b (out.push y) na (nb-1)),na,nb-1,out.push y,0,bc+1))
   else if bc+1>=mg then pure (.done (none,na,nb-1,out.push y,0,bc+1))else pure (.yield (none,na,nb-1,out.push y,0,bc+1))
 |_=>pure (.done (some (oa a b out na nb),na,nb,out,ac,bc))
noncomputable def Ae(a b:Array L1)(mg ac bc:Nat)(na nb:Nat)(out:Array L1):StateT L3 Sem (ForInStep H7):=do
 let x<-elem' a (na-1)
 if(na-1==0)=true then pure (.done (some (oa a b (out.push x) (na-1) nb),na-1,nb,out.push x,mg,ac,bc))
 else if(decide (ac<7)&&decide (bc<7))=true then pure (.done (none,na-1,nb,out.push x,mg,ac,bc))else pure (.yield (none,na-1,nb,out.push x,mg,ac,bc))
noncomputable def zO(a b:Array L1)(mg ac bc:Nat)(na nb:Nat)(out:Array L1):StateT L3 Sem (ForInStep H7):=do
 let y<-elem' b (nb-1)
 if(nb-1==1)=true then pure (.done (some (vZ a b (out.push y) na (nb-1)),na,nb-1,out.push y,mg,ac,bc))
 else do
  let x<-elem' a (na-1)
  let c<-dh true x b 0 (nb-1) (nb-1-1)
  match c with
  |some k=>
   if nb-1-k>0 then
    if(k==1)=true then pure (.done (some (vZ a b (out.push y++(b.extract k (nb-1)).reverse) na k),na,k,out.push y++(b.extract k (nb-1)).reverse,mg,ac,nb-1-k))
    else if(k==0)=true then pure (.done (some (oa a b (out.push y++(b.extract k (nb-1)).reverse) na k),na,k,out.push y++(b.extract k (nb-1)).reverse,mg,ac,nb-1-k))
    else Ae a b mg ac (nb-1-k) na k (out.push y++(b.extract k (nb-1)).reverse)
   else Ae a b mg ac (nb-1-k) na (nb-1) (out.push y)
  |_=>pure (.done (some (oa a b (out.push y) na (nb-1)),na,nb-1,out.push y,mg,ac,bc))
noncomputable def xJ(a b:Array L1)(mg ac bc:Nat)(na nb:Nat)(out:Array L1):StateT L3 Sem (ForInStep H7):=do
 iJ mg
 let y<-elem' b (nb-1)
 let c<-dh false y a 0 na (na-1)
 match c with
 |some k=>
  if na-k>0 then
   if(k==0)=true then pure (.done (some (oa a b (out++(a.extract k na).reverse) k nb),k,nb,out++(a.extract k na).reverse,mg,na-k,bc))
   else zO a b mg (na-k) bc k nb (out++(a.extract k na).reverse)
  else zO a b mg (na-k) bc na nb out
 |_=>pure (.done (some (oa a b out na nb),na,nb,out,mg,ac,bc))
noncomputable def hi0(a b:Array L1)(na nb:Nat)(out:Array L1)(mg:Nat):StateT L3 Sem (ForInStep H5):=do
 let c<-forIn [0:a.size+b.size] ((none,na,nb,out,0,0):H6) λ_ c=>hi1 a b mg c.2.1 c.2.2.1 c.2.2.2.1 c.2.2.2.2.1 c.2.2.2.2.2
 match c.1 with
 |some r=>pure (.done (some r,c.2.1,c.2.2.1,c.2.2.2.1,mg))
 |none=>do
  liftM (rule "list.sort.gallop")
  let d<-forIn [0:a.size+b.size] ((none,c.2.1,c.2.2.1,c.2.2.2.1,mg+1,c.2.2.2.2.1,c.2.2.2.2.2):H7) λ_ c=>if c.2.2.2.2.1>1 then xJ a b (c.2.2.2.2.1-1) c.2.2.2.2.2.1 c.2.2.2.2.2.2 c.2.1 c.2.2.1 c.2.2.2.1 else xJ a b c.2.2.2.2.1 c.2.2.2.2.2.1 c.2.2.2.2.2.2 c.2.1 c.2.2.1 c.2.2.2.1
  match d.1 with
  |some r=>pure (.done (some r,d.2.1,d.2.2.1,d.2.2.2.1,d.2.2.2.2.1))
  |none=>do
   iJ (d.2.2.2.2.1+1)
   pure (.yield (none,d.2.1,d.2.2.1,d.2.2.2.1,d.2.2.2.2.1+1))
theorem pP(a b:Array L1):kX a b=(do
 rule "list.sort.merge-hi"
 let x<-elem' a (a.size-1)
 if(a.size-1==0)=true then pure (oa a b #[x] (a.size-1) b.size)
 else if(b.size==1)=true then pure (vZ a b #[x] (a.size-1) b.size)
 else do
  let st<-get
  let c<-forIn [0:a.size+b.size] ((none,a.size-1,b.size,#[x],gallopOf st):H5) λ_ c=>hi0 a b c.2.1 c.2.2.1 c.2.2.2.1 c.2.2.2.2
  match c.1 with
  |some r=>pure r
  |none=>liftM (unsupported "internal:list.sort.merge-bound":Sem (Array L1))):=by kernel_rfl
section
variable{f:Nat->L1}{a b out:Array Nat}{i j:Nat}
theorem n5:(a.map f).reverse=a.reverse.map f:=by simp
theorem gG:(a.extract 0 i).toList=a.toList.take i:=by simp
theorem wz(h:0<i)(hi:i<=a.size):(a.toList.take i).reverse=a.getD (i-1) 0::(a.toList.take (i-1)).reverse:=by
 have hj:i-1<a.size:=by omega
 have e:a.getD (i-1) 0=a[i-1]:=by simp[Array.getD,hj]
 have z:a.toList.take i=a.toList.take (i-1)++[a[i-1]]:=by
  have:=IW (l:=a.toList) (i:=i-1) (by rw[Array.length_toList];exact hj)
  rw[show i-1+1=i by omega]at this;rw[this];simp
 rw[z,IX,e];rfl
theorem mh(hk:i<=j):(a.toList.take j).reverse=((a.toList.drop i).take (j-i)).reverse++(a.toList.take i).reverse:=by
 rw[<-IX,<-List.drop_take];congr 1
 have:=IR i (a.toList.take j)
 rw[List.take_take,Nat.min_eq_left hk]at this;exact this.symm
theorem eP{x:Nat}(h:x∈(a.toList.take i).reverse)(hi:i<=a.size):∃m,m<i/\x=a.getD m 0:=by
 have h:=List.mem_reverse.mp h
 have:=d6 (a:=a) (i:=0) (k:=i) (x:=x) (by simpa using h) `o
 obtain⟨m,hm,e⟩:=this;exact⟨m,hm,by rw[e,IY]⟩
end
section
variable{prog:KP}{w:KO}{A:KY}{E:aA}{s:KN}{κ:L8}{it:Array L1}{r:Nat->Nat}{N:Nat}{a b:Array Nat}{B0:aP}{st:L3}
noncomputable abbrev JH(r:Nat->Nat)(B0:aP)(a b out:Array Nat)(na nb:Nat):Prop:=Jn (λx y=>r y<=r x) B0 out.toList (a.toList.take na).reverse (b.toList.take nb).reverse
theorem lI{out:Array Nat}{na nb:Nat}(h:JH r B0 a b out na nb)(hb:na=0\/nb=0):dQ it r B0 (oa (a.map (Ma it)) (b.map (Ma it)) (out.map (Ma it)) na nb):=by
 refine⟨a.extract 0 na++b.extract 0 nb++out.reverse,?_,?_⟩
 ·show _++_++_=_;rw[cC,cC,n5,c9,c9]
 ·rw[Array.toList_append,Array.toList_append,gG,gG,Array.toList_reverse];obtain⟨d1,d2⟩:=h.swap.done λx hx y hy=>by
   rcases hb with z|z
   ·rw[z]at hy;cases hy
   ·rw[z]at hx;cases hx
  have e:(out.toList++(b.toList.take nb).reverse++(a.toList.take na).reverse).reverse=a.toList.take na++b.toList.take nb++out.toList.reverse:=by simp
  rw[<-e];exact⟨List.pairwise_reverse.mpr d1,(IZ _).trans d2⟩
theorem oq{out:Array Nat}{na nb:Nat}(h:JH r B0 a b out na nb)(hn:nb=1)(h0:0<b.size)(h1:na<=a.size)(hf:∀x∈a.toList,r (b.getD 0 0)<=r x):dQ it r B0 (vZ (a.map (Ma it)) (b.map (Ma it)) (out.map (Ma it)) na nb):=by
 refine⟨b.extract 0 nb++a.extract 0 na++out.reverse,?_,?_⟩
 ·show _++_++_=_;rw[cC,cC,n5,c9,c9]
 ·rw[Array.toList_append,Array.toList_append,gG,gG,Array.toList_reverse];obtain⟨d1,d2⟩:=h.done λx hx y hy=>by
   obtain⟨m,m1,rfl⟩:=eP hy `o;rw[show m=0 by omega];exact hf x (Ja (List.mem_reverse.mp hx))
  have e:(out.toList++(a.toList.take na).reverse++(b.toList.take nb).reverse).reverse=b.toList.take nb++a.toList.take na++out.toList.reverse:=by simp
  rw[<-e];exact⟨List.pairwise_reverse.mpr d1,(IZ _).trans d2⟩
theorem JH.pushA{out:Array Nat}{na nb:Nat}(h:JH r B0 a b out na nb)(ub:vq r b)(h0:0<na)(h1:na<=a.size)(h2:nb<=b.size)(q:r (b.getD (nb-1) 0)<=r (a.getD (na-1) 0)):JH r B0 a b (out.push (a.getD (na-1) 0)) (na-1) nb:=by
 have h:Jn _ _ _ _ _:=h;rw[wz h0 h1]at h
 have:=Jn.takeA (a1:=[a.getD (na-1) 0]) h λx hx y hy=>by
  rw[List.mem_singleton.mp hx];obtain⟨m,m1,rfl⟩:=eP hy h2;exact G3 (ub _ _ `o `o) q
 show Jn _ _ _ _ _;rw[Array.toList_push];exact this
theorem JH.pushB{out:Array Nat}{na nb:Nat}(h:JH r B0 a b out na nb)(ua:vq r a)(h0:0<nb)(h1:na<=a.size)(h2:nb<=b.size)(q:r (a.getD (na-1) 0)<=r (b.getD (nb-1) 0)):JH r B0 a b (out.push (b.getD (nb-1) 0)) na (nb-1):=by
 have h:Jn _ _ _ _ _:=h;rw[wz (a:=b) h0 h2]at h
 have:=Jn.takeB (b1:=[b.getD (nb-1) 0]) h λx hx y hy=>by
  rw[List.mem_singleton.mp hx];obtain⟨m,m1,rfl⟩:=eP hy h1;exact G3 (ua _ _ `o `o) q
 show Jn _ _ _ _ _;rw[Array.toList_push];exact this
theorem JH.partA{out:Array Nat}{na nb k:Nat}(h:JH r B0 a b out na nb)(ub:vq r b)(hk:k<=na)(h1:na<=a.size)(h2:nb<=b.size)(q:∀i,k<=i->i<na->r (b.getD (nb-1) 0)<=r (a.getD i 0)):JH r B0 a b (out++(a.extract k na).reverse) k nb:=by
 have h:Jn _ _ _ _ _:=h;rw[mh hk]at h
 have:=Jn.takeA h λx hx y hy=>by
  obtain⟨i,hi,rfl⟩:=d6 (List.mem_reverse.mp hx) `o;obtain⟨m,m1,rfl⟩:=eP hy h2;exact G3 (ub _ _ `o `o) (q _ `o `o)
 show Jn _ _ _ _ _;rw[Array.toList_append,Array.toList_reverse,dA];exact this
theorem JH.partB{out:Array Nat}{na nb k:Nat}(h:JH r B0 a b out na nb)(ua:vq r a)(hk:k<=nb)(h1:na<=a.size)(h2:nb<=b.size)(q:∀i,k<=i->i<nb->r (a.getD (na-1) 0)<=r (b.getD i 0)):JH r B0 a b (out++(b.extract k nb).reverse) na k:=by
 have h:Jn _ _ _ _ _:=h;rw[mh (a:=b) hk]at h
 have:=Jn.takeB h λx hx y hy=>by
  obtain⟨i,hi,rfl⟩:=d6 (List.mem_reverse.mp hx) `o;obtain⟨m,m1,rfl⟩:=eP hy h1;exact G3 (ua _ _ `o `o) (q _ `o `o)
 show Jn _ _ _ _ _;rw[Array.toList_append,Array.toList_reverse,dA];exact this
noncomputable def K6(it:Array L1)(r:Nat->Nat)(B0:aP)(a b:Array Nat)(m:Nat)(c:H6):Prop:=∃out na nb ac bc,c=(none,na,nb,out.map (Ma it),ac,bc)/\JH r B0 a b out na nb/\0<na/\1<nb/\na<=a.size/\nb<=b.size/\na+nb+m<=a.size+b.size
noncomputable def K7(it:Array L1)(r:Nat->Nat)(B0:aP)(a b:Array Nat)(m:Nat)(c:H7):Prop:=∃out na nb mg ac bc,c=(none,na,nb,out.map (Ma it),mg,ac,bc)/\JH r B0 a b out na nb/\0<na/\1<nb/\na<=a.size/\nb<=b.size/\na+nb+m<=a.size+b.size
theorem CP(hc:bj (L9 prog w A κ it) r N s)(T:vj r N a b)(hk:kindOf st=κ)(hf:∀x∈a.toList,r (b.getD 0 0)<=r x){out:Array Nat}{na nb mg ac bc m:Nat}(h:JH r B0 a b out na nb)(h1:0<na)(h2:1<nb)(h3:na<=a.size)(h4:nb<=b.size)(hm:na+nb+m<=a.size+b.size):
  wpS `g A E s (hi1 (a.map (Ma it)) (b.map (Ma it)) mg na nb (out.map (Ma it)) ac bc) (λc st'=>st'=st/\match c with
   |.done c=>(∃x,c.1=some x/\dQ it r B0 x)\/K6 it r B0 a b (m+1) c
   |.yield c=>K6 it r B0 a b (m+1) c) st:=by
 unfold hi1;refine L4 (aB `o (L4 (aB `o (L4 (iO hc (T.nb _ (mem_getD `o)) (T.na _ (mem_getD `o)) hk ?_)))));by_cases z:r (b.getD (nb-1) 0)<r (a.getD (na-1) 0)
 ·simp only[decide_eq_true z,if_true];refine L4 (aB `o ?_);have J:=h.pushA T.ub h1 h3 h4 (G4 z);rw[dJ];by_cases y:na-1=0
  ·rw[if_pos (by simpa using y)];exact L7 ⟨rfl,.inl ⟨_,rfl,lI J (.inl y)⟩⟩
  ·rw[if_neg (by simpa using y)];have g:∀x1 x2,K6 it r B0 a b (m+1) (none,na-1,nb,(out.push (a.getD (na-1) 0)).map (Ma it),x1,x2):=λx1 x2=>⟨_,_,_,_,_,rfl,J,by omega,by omega,by omega,by omega,by omega⟩
   by_cases x:ac+1>=mg
   ·rw[if_pos x];exact L7 ⟨rfl,.inr (g _ _)⟩
   ·rw[if_neg x];exact L7 ⟨rfl,g _ _⟩
 ·simp only[decide_eq_false z,HS,if_false];refine L4 (aB `o ?_);have J:=h.pushB T.ua `o h3 h4 (HG z);rw[dJ];by_cases y:nb-1=1
  ·rw[if_pos (by simpa using y)];exact L7 ⟨rfl,.inl ⟨_,rfl,oq J y `o h3 hf⟩⟩
  ·rw[if_neg (by simpa using y)];have g:∀x1 x2,K6 it r B0 a b (m+1) (none,na,nb-1,(out.push (b.getD (nb-1) 0)).map (Ma it),x1,x2):=λx1 x2=>⟨_,_,_,_,_,rfl,J,by omega,by omega,by omega,by omega,by omega⟩
   by_cases x:bc+1>=mg
   ·rw[if_pos x];exact L7 ⟨rfl,.inr (g _ _)⟩
   ·rw[if_neg x];exact L7 ⟨rfl,g _ _⟩
noncomputable abbrev F7(it : Array L1)(r : Nat -> Nat)(B0 : aP)(a b : Array Nat)(m : Nat)(st : L3)(c : ForInStep H7)(st' : L3): Prop := (∃ g, st' = setG st g) /\ match c with
      |.done c=>(∃x,c.1=some x/\dQ it r B0 x)\/K7 it r B0 a b m c
      |.yield c=>K7 it r B0 a b m c
theorem si(T:vj r N a b){g m:Nat}{out:Array Nat}{na nb mg ac bc:Nat}(h:JH r B0 a b out na nb)(h1:0<na)(h2:1<nb)(h3:na<=a.size)(h4:nb<=b.size)(hm:na+nb+m<=a.size+b.size)(q:r (b.getD (nb-1) 0)<=r (a.getD (na-1) 0)):
  wpS `g A E s (Ae (a.map (Ma it)) (b.map (Ma it)) mg ac bc na nb (out.map (Ma it))) (F7 it r B0 a b m st) (setG st g):=by
 unfold Ae;refine L4 (aB `o ?_);have J:=h.pushA T.ub h1 h3 h4 q;rw[dJ];by_cases y:na-1=0
 ·rw[if_pos (by simpa using y)];exact L7 ⟨⟨g,rfl⟩,.inl ⟨_,rfl,lI J (.inl y)⟩⟩
 ·rw[if_neg (by simpa using y)];have gg:∀x0 x1 x2,K7 it r B0 a b m (none,na-1,nb,(out.push (a.getD (na-1) 0)).map (Ma it),x0,x1,x2):=λx0 x1 x2=>⟨_,_,_,_,_,_,rfl,J,by omega,by omega,by omega,by omega,by omega⟩
  split
  ·exact L7 ⟨⟨g,rfl⟩,.inr (gg _ _ _)⟩
  ·exact L7 ⟨⟨g,rfl⟩,gg _ _ _⟩
theorem tE(hc:bj (L9 prog w A κ it) r N s)(hk:kindOf st=κ)(hf:∀x∈a.toList,r (b.getD 0 0)<=r x)(T:vj r N a b){g m:Nat}{out:Array Nat}{na nb mg ac bc:Nat}(h:JH r B0 a b out na nb)(h1:0<na)(h2:1<nb)(h3:na<=a.size)(h4:nb<=b.size)(hm:na+nb+m<=a.size+b.size)(q:r (a.getD (na-1) 0)<=r (b.getD (nb-1) 0)):
  wpS `g A E s (zO (a.map (Ma it)) (b.map (Ma it)) mg ac bc na nb (out.map (Ma it))) (F7 it r B0 a b m st) (setG st g):=by
 unfold zO;refine L4 (aB `o ?_);have J:=h.pushB T.ua `o h3 h4 q;rw[dJ];by_cases y:nb-1=1
 ·rw[if_pos (by simpa using y)];exact L7 ⟨⟨g,rfl⟩,.inl ⟨_,rfl,oq J y `o h3 hf⟩⟩
 ·rw[if_neg (by simpa using y)];refine L4 (aB `o (L4 (gW (st:=setG st g) (k:=a.getD (na-1) 0) (base:=0) (n:=nb-1) (hint:=nb-1-1) hc (T.na _ (mem_getD `o)) `o `o T.nb (λi j hij hj=>T.ub _ _ `o `o) hk λk k1 k2 k3=>?_)));simp only[IY]at k2 k3;dsimp only;rw[cC,n5,c9];have ge:∀i,k<=i->i<nb-1->r (a.getD (na-1) 0)<=r (b.getD i 0):=λi hi hj=>by
   have:=k3 i hi hj
   simpa [qq]using this
  have lt:0<k->r (b.getD (k-1) 0)<r (a.getD (na-1) 0):=λz=>by
   have:=k2 (k-1) `o
   simpa [qq]using this
  have J2:=J.partB T.ua k1 h3 `o ge;by_cases x:nb-1-k>0
  ·rw[if_pos x];by_cases v:k=1
   ·rw[if_pos (by simpa using v)];exact L7 ⟨⟨g,rfl⟩,.inl ⟨_,rfl,oq J2 v `o h3 hf⟩⟩
   ·rw[if_neg (by simpa using v)];by_cases u:k=0
    ·rw[if_pos (by simpa using u)];exact L7 ⟨⟨g,rfl⟩,.inl ⟨_,rfl,lI J2 (.inr u)⟩⟩
    ·rw[if_neg (by simpa using u)];exact si T J2 h1 `o h3 `o `o (G4 (lt `o))
  ·rw[if_neg x];have k0:k=nb-1:=(by omega);subst k0;exact si T J h1 `o h3 `o `o (G4 (lt `o))
theorem zx(hc:bj (L9 prog w A κ it) r N s)(hk:kindOf st=κ)(hf:∀x∈a.toList,r (b.getD 0 0)<=r x)(T:vj r N a b){g m:Nat}{out:Array Nat}{na nb mg ac bc:Nat}(h:JH r B0 a b out na nb)(h1:0<na)(h2:1<nb)(h3:na<=a.size)(h4:nb<=b.size)(hm:na+nb+m<=a.size+b.size):
  wpS `g A E s (xJ (a.map (Ma it)) (b.map (Ma it)) mg ac bc na nb (out.map (Ma it))) (F7 it r B0 a b m st) (setG st g):=by
 unfold xJ;rw[fD];refine L4 (Mg ?_);show wpS _ _ _ _ _ _ (setG st mg);refine L4 (aB `o (L4 (gW (st:=setG st mg) (k:=b.getD (nb-1) 0) (base:=0) (n:=na) (hint:=na-1) hc (T.nb _ (mem_getD `o)) `o `o T.na (λi j hij hj=>T.ua _ _ `o `o) hk λk k1 k2 k3=>?_)));simp only[IY]at k2 k3;dsimp only;rw[cC,n5,c9];have gt:∀i,k<=i->i<na->r (b.getD (nb-1) 0)<r (a.getD i 0):=λi hi hj=>by
  have:=k3 i hi hj
  simpa [qq]using this
 have le:0<k->r (a.getD (k-1) 0)<=r (b.getD (nb-1) 0):=λz=>by
  have:=k2 (k-1) `o
  simpa [qq]using this
 have J:=h.partA T.ub k1 h3 h4 λi hi hj=>G4 (gt i hi hj);by_cases x:na-k>0
 ·rw[if_pos x];by_cases u:k=0
  ·rw[if_pos (by simpa using u)];exact L7 ⟨⟨mg,rfl⟩,.inl ⟨_,rfl,lI J (.inl u)⟩⟩
  ·rw[if_neg (by simpa using u)];exact tE hc hk hf T J `o h2 `o h4 `o (le `o)
 ·rw[if_neg x];have k0:k=na:=by omega
  subst k0;exact tE hc hk hf T h h1 h2 h3 h4 hm (le `o)
noncomputable def K5(it:Array L1)(r:Nat->Nat)(B0:aP)(a b:Array Nat)(m:Nat)(c:H5):Prop:=∃out na nb mg,c=(none,na,nb,out.map (Ma it),mg)/\JH r B0 a b out na nb/\0<na/\1<nb/\na<=a.size/\nb<=b.size/\na+nb+m<=a.size+b.size
theorem CW(hc:bj (L9 prog w A κ it) r N s)(hk:kindOf st=κ)(hf:∀x∈a.toList,r (b.getD 0 0)<=r x)(T:vj r N a b){g m:Nat}{out:Array Nat}{na nb mg:Nat}(h:JH r B0 a b out na nb)(h1:0<na)(h2:1<nb)(h3:na<=a.size)(h4:nb<=b.size)(hm:na+nb+m<=a.size+b.size):
  wpS `g A E s (hi0 (a.map (Ma it)) (b.map (Ma it)) na nb (out.map (Ma it)) mg) (λc st'=>(∃g,st'=setG st g)/\match c with
   |.done c=>∃x,c.1=some x/\dQ it r B0 x
   |.yield c=>K5 it r B0 a b (m+1) c) (setG st g):=by
 unfold hi0;simp only[Array.size_map];refine L4 (L5 (L6 (I:=λx c st'=>st'=setG st g/\K6 it r B0 a b (m+x) c)
  (Q:=λc st'=>st'=setG st g/\((∃x,c.1=some x/\dQ it r B0 x)\/K6 it r B0 a b (m+1) c)) ?step ?fin ⟨rfl,_,_,_,_,_,rfl,h,h1,h2,h3,h4,by omega⟩) ?post)
 case fin=>
  rintro c st' ⟨rfl,o,i,j,x,y,rfl,J,j1,j2,j3,j4,j5⟩;omega
 case step=>
  rintro x c st' _ hx ⟨rfl,o,i,j,x1,x2,rfl,J,j1,j2,j3,j4,j5⟩;dsimp only;refine L5 (CP (st:=setG st g) hc T hk hf J j1 j2 j3 j4 j5) λc st' q=>?_;obtain⟨rfl,q⟩:=q;have up:∀{c:H6},K6 it r B0 a b (m+x+1) c->K6 it r B0 a b (m+1) c:=λzq=>zq.elim λo zq=>zq.elim λi zq=>zq.elim λj zq=>zq.elim λx zq=>zq.elim λy zq=>zq.elim λe zq=>zq.elim λJ zq=>zq.elim λa1 zq=>zq.elim λa2 zq=>zq.elim λa3 zq=>zq.elim λa4 a5=>⟨o,i,j,x,y,e,J,a1,a2,a3,a4,by omega⟩
  cases c with
  |done c=>
   rcases q with q|q
   ·exact⟨rfl,.inl q⟩
   ·exact⟨rfl,.inr (up q)⟩
  |yield c=>exact⟨rfl,q⟩
 case post=>
  rintro c st' ⟨rfl,q⟩;rcases q with⟨x,e,F⟩|⟨o,i,j,x1,x2,rfl,J,j1,j2,j3,j4,j5⟩
  ·rw[e];exact L7 ⟨⟨g,rfl⟩,x,rfl,F⟩
  ·dsimp only;refine L4 (Md (LX ⟨rfl,?_⟩));refine L4 (L5 (L6 (I:=λx c st'=>(∃g,st'=setG st g)/\K7 it r B0 a b (m+1) c)
    (Q:=λc st'=>(∃g,st'=setG st g)/\((∃x,c.1=some x/\dQ it r B0 x)\/K7 it r B0 a b (m+1) c)) ?_ (λc st' q=>⟨q.1,.inr q.2⟩) ⟨⟨g,rfl⟩,_,_,_,_,_,_,rfl,J,j1,j2,j3,j4,j5⟩) ?_)
   ·rintro x c st' _ hx ⟨⟨g',rfl⟩,o,i,j,x0,x1,x2,rfl,J,j1,j2,j3,j4,j5⟩;dsimp only;have fi:∀mg,wpS `g A E s (xJ (a.map (Ma it)) (b.map (Ma it)) mg x1 x2 i j (o.map (Ma it))) (F7 it r B0 a b (m+1) st) (setG st g'):=λmg=>zx hc hk hf T J j1 j2 j3 j4 j5;by_cases z:x0>1
    ·rw[if_pos z];exact L5 (fi _) λc st' q=>by cases c<;>exact q
    ·rw[if_neg z];exact L5 (fi _) λc st' q=>by cases c<;>exact q
   ·rintro c st' ⟨⟨g',rfl⟩,q⟩;rcases q with⟨x,e,F⟩|⟨o,i,j,x0,x1,x2,rfl,J,j1,j2,j3,j4,j5⟩
    ·rw[e];exact L7 ⟨⟨g',rfl⟩,x,rfl,F⟩
    ·dsimp only;rw[fD];exact L4 (Mg (L7 ⟨⟨_,rfl⟩,_,_,_,_,rfl,J,j1,j2,j3,j4,j5⟩))
theorem rR(hc:bj (L9 prog w A κ it) r N s)(hk:kindOf st=κ)(hl:∀y∈b.toList,r y<=r (a.getD (a.size-1) 0))(hf:∀x∈a.toList,r (b.getD 0 0)<=r x)(T:vj r N a b)(a0:0<a.size)(b0:0<b.size){Q:Array L1->L3->Prop}
  (h:∀x g,dQ it r (a.toList++b.toList) x->Q x (setG st g)):wpS `g A E s (kX (a.map (Ma it)) (b.map (Ma it))) Q st:=by
 have J0:JH r (a.toList++b.toList) a b #[] a.size b.size:=by
  have e1:a.toList.take a.size=a.toList:=IL (by rw[Array.length_toList];exact Hi _);have e2:b.toList.take b.size=b.toList:=IL (by rw[Array.length_toList];exact Hi _);show Jn _ _ _ _ _;rw[e1,e2];exact⟨List.Pairwise.nil,List.pairwise_reverse.mpr T.ua.pw,List.pairwise_reverse.mpr T.ub.pw,(λx hx=>nomatch hx),(λx hx=>nomatch hx),(show(a.toList.reverse++b.toList.reverse).Perm _ from List.Perm.append (IZ _) (IZ _))⟩
 have J:=J0.pushA T.ub a0 (Hi _) (Hi _) (hl _ (mem_getD `o));have e1:#[Ma it (a.getD (a.size-1) 0)]=((#[]:Array Nat).push (a.getD (a.size-1) 0)).map (Ma it):=by simp
 have hg:∀x,dQ it r (a.toList++b.toList) x->Q x st:=λx F=>h x (gallopOf st) F;rw[pP];refine L4 (Md (LX ⟨rfl,?_⟩));simp only[Array.size_map];refine L4 (aB `o ?_);rw[e1];by_cases y:a.size-1=0
 ·rw[if_pos (by simpa using y)];exact L7 (hg _ (lI J (.inl y)))
 ·rw[if_neg (by simpa using y)];by_cases z:b.size=1
  ·rw[if_pos (by simpa using z)];exact L7 (hg _ (oq J z b0 `o hf))
  ·rw[if_neg (by simpa using z)];refine L4 (Mb ?_);refine L4 (L5 (L6 (I:=λx c st'=>(∃g,st'=setG st g)/\K5 it r (a.toList++b.toList) a b (x+1) c)
    (Q:=λc st'=>(∃g,st'=setG st g)/\∃x,c.1=some x/\dQ it r (a.toList++b.toList) x) ?step ?fin ⟨⟨gallopOf st,rfl⟩,_,_,_,_,rfl,J,by omega,by omega,by omega,by omega,by omega⟩) ?post)
   case fin=>
    rintro c st' ⟨_,o,i,j,x,rfl,J,j1,j2,j3,j4,j5⟩;omega
   case step=>
    rintro x c st' _ hx ⟨⟨g,rfl⟩,o,i,j,x1,rfl,J,j1,j2,j3,j4,j5⟩;dsimp only;refine L5 (CW hc hk hf T J j1 j2 j3 j4 j5) λc st' q=>?_;obtain⟨q1,q⟩:=q;cases c with
    |done c=>exact⟨q1,q⟩
    |yield c=>exact⟨q1,q⟩
   case post=>
    rintro c st' ⟨⟨g,rfl⟩,x,e,F⟩;rw[e];exact L7 (h x g F)
end
noncomputable abbrev A2:=Option (Option Nat)×Nat
noncomputable abbrev D3:=Option (Option Nat)×Nat×Nat
noncomputable def zM(lo a nrem:Nat):StateT L3 Sem A2:=forIn [a:nrem] ((none,a):A2) λ_ c=>do
 let x<-ltAt' (lo+c.2) (lo+c.2-1)
 match x with
 |some sm=>if sm=true then pure (.done (none,c.2))else pure (.yield (none,c.2+1))
 |_=>pure (.done (some none,c.2))
noncomputable def EA(lo n nrem:Nat):StateT L3 Sem (Option Nat):=do
 reverseSlice' lo (lo+n)
 let c<-zM lo n nrem
 match c.1 with
 |some r=>pure r
 |none=>pure (some c.2)
noncomputable def BC(lo n nrem:Nat):StateT L3 Sem D3:=forIn [n:nrem] ((none,n,0):D3) λ_ c=>do
 let x<-ltAt' (lo+c.2.1) (lo+c.2.1-1)
 match x with
 |some sm=>
  if sm=true then
   if c.2.2>0 then do
    reverseSlice' (lo+c.2.1-(c.2.2+1)) (lo+c.2.1)
    pure (.yield (none,c.2.1+1,0))
   else pure (.yield (none,c.2.1+1,0))
  else do
   let y<-ltAt' (lo+c.2.1-1) (lo+c.2.1)
   match y with
   |some lg=>if lg=true then pure (.done (none,c.2.1,c.2.2))else pure (.yield (none,c.2.1+1,c.2.2+1))
   |_=>pure (.done (some none,c.2.1,c.2.2))
 |_=>pure (.done (some none,c.2.1,c.2.2))
noncomputable def EE(lo n nrem:Nat):StateT L3 Sem (Option Nat):=do
 liftM (rule "list.sort.descending-run")
 let c<-BC lo (n+1) nrem
 match c.1 with
 |some r=>pure r
 |none=>
  if c.2.2>0 then do
   reverseSlice' (lo+c.2.1-(c.2.2+1)) (lo+c.2.1)
   EA lo c.2.1 nrem
  else EA lo c.2.1 nrem
theorem oj(lo nrem:Nat):countRun' lo nrem=(do
  let c<-zM lo 1 nrem
  match c.1 with
  |some r=>pure r
  |none=>
   if(c.2==nrem)=true then pure (some c.2)
   else if c.2>1 then do
    let x<-ltAt' lo (lo+c.2-1)
    match x with
    |some rose=>if rose=true then pure (some c.2)else do
      reverseSlice' lo (lo+c.2)
      EE lo c.2 nrem
    |_=>pure none
   else EE lo c.2 nrem):=by kernel_rfl
noncomputable def CK(lo k:Nat):StateT L3 Sem (Option Bool×Nat×Nat):=forIn [0:k] ((none,0,k):Option Bool×Nat×Nat) λ_ c=>
 if c.2.1>=c.2.2 then pure (.done (none,c.2.1,c.2.2))
 else do
  let x<-ltAt' (lo+k) (lo+(c.2.1+c.2.2)/2)
  match x with
  |some ls=>if ls=true then pure (.yield (none,c.2.1,(c.2.1+c.2.2)/2))else pure (.yield (none,(c.2.1+c.2.2)/2+1,c.2.2))
  |_=>pure (.done (some false,c.2.1,c.2.2))
theorem kG(lo n ok:Nat):binarySort' lo n ok=(do
  let c<-forIn [max ok 1:n] ((none,()):Option Bool×Unit) λk _=>do
   let c<-CK lo k
   match c.1 with
   |some r=>pure (.done (some r,()))
   |none=>do
    moveDown' (lo+k) (lo+c.2.1)
    pure (.yield (none,()))
  match c.1 with
  |some r=>pure r
  |none=>pure true):=by kernel_rfl
variable[aj]
structure iI(N lo:Nat)(p p':Array Nat):Prop where
 pm:PM N p'
 eq:∀i,i<lo->p'.getD i 0=p.getD i 0
theorem iI.trans{N lo:Nat}{p p' q:Array Nat}(h:iI N lo p p')(h':iI N lo p' q):iI N lo p q:=⟨h'.pm,λi hi=>(h'.eq i hi).trans (h.eq i hi)⟩
theorem iI.rev{N lo i j:Nat}{p:Array Nat}(h:PM N p)(hi:lo<=i)(hj:j<=N):iI N lo p (L0 p i j):=⟨h.rev i j,λk hk=>by
 have:=nW (r:=id) (p:=p) (i:=i) (j:=j) (by rw[h.size];exact hj) k
 rw[if_neg `o]at this;exact this⟩
section
variable{prog:KP}{w:KO}{A:KY}{E:aA}{s:KN}{κ:L8}{it:Array L1}{r:Nat->Nat}{N:Nat}{pd:Array (Nat×Nat×Nat)}{g:Nat}
noncomputable abbrev Zs(κ:L8)(it:Array L1)(pd:Array (Nat×Nat×Nat))(g:Nat)(p:Array Nat):L3:=SortSt.mk' κ (p.map (Ma it)) pd g none
theorem iV{p:Array Nat}{i j:Nat}(hc:bj (L9 prog w A κ it) r N s)(hp:PM N p)(hi:i<N)(hj:j<N){Q:Option Bool->L3->Prop}(h:Q (some (decide (Rk r p i<Rk r p j))) (Zs κ it pd g p)):wpS `g A E s (ltAt' i j) Q (Zs κ it pd g p):=by
 have hs:=hp.size;rw[ltAt'_eq];refine L4 (Mb ?_);show wpS _ _ _ _ (do let x<-elem' (p.map (Ma it)) i;let y<-elem' (p.map (Ma it)) j;lt' x y) Q _;exact L4 (aB `o (L4 (aB `o (iO hc (hp.lt hi) (hp.lt hj) rfl h))))
theorem iD{p:Array Nat}{i j:Nat}{Q:Unit->L3->Prop}(h:Q () (Zs κ it pd g (L0 p i j))):wpS `g A E s (reverseSlice' i j) Q (Zs κ it pd g p):=by
 rw[reverseSlice'_eq];refine Mg ?_;have e1:mirror (p.map (Ma it)) i j ((j-i)/2)=(mirror p i j ((j-i)/2)).map (Ma it):=kas_swaps_map (Ma it) (λk=>i+k) (λk=>j-1-k) _ p;show Q () (SortSt.mk' κ (mirror (p.map (Ma it)) i j ((j-i)/2)) pd g none);rw[e1];exact h
theorem vQ{p:Array Nat}{k l:Nat}{Q:Unit->L3->Prop}(h:Q () (Zs κ it pd g (bubble p k (k-l)))):wpS `g A E s (moveDown' k l) Q (Zs κ it pd g p):=by
 rw[moveDown'_eq];refine Mg ?_;have e1:bubble (p.map (Ma it)) k (k-l)=(bubble p k (k-l)).map (Ma it):=kas_swaps_map (Ma it) (λi=>k-i) (λi=>k-i-1) _ p;show Q () (SortSt.mk' κ (bubble (p.map (Ma it)) k (k-l)) pd g none);rw[e1];exact h
noncomputable def yk(r:Nat->Nat)(lo:Nat)(p:Array Nat)(n:Nat):Prop:=∀i j,i<=j->j<n->Rk r p (lo+i)<=Rk r p (lo+j)
noncomputable def C8(r:Nat->Nat)(lo:Nat)(p:Array Nat)(n:Nat):Prop:=∀i j,i<=j->j<n->Rk r p (lo+j)<=Rk r p (lo+i)
theorem rW(hc:bj (L9 prog w A κ it) r N s){p:Array Nat}(hp:PM N p){lo a nrem:Nat}(h0:lo+nrem<=N)(h1:1<=a)(h2:a<=nrem)(u:yk r lo p a){Q:A2->L3->Prop}
  (h:∀n,a<=n->n<=nrem->yk r lo p n->(n=nrem\/Rk r p (lo+n)<Rk r p (lo+n-1))->Q (none,n) (Zs κ it pd g p)):wpS `g A E s (zM lo a nrem) Q (Zs κ it pd g p):=by
 unfold zM;refine L6 (I:=λx c st'=>st'=Zs κ it pd g p/\c=(none,x)/\yk r lo p x) ?_ ?_ ⟨rfl,rfl,u⟩
 ·rintro x c st' h3 h4 ⟨rfl,rfl,u'⟩;dsimp only;refine L4 (iV hc hp `o `o ?_);by_cases z:Rk r p (lo+x)<Rk r p (lo+x-1)
  ·simp only[decide_eq_true z,if_true];exact L7 (h x h3 `o u' (.inr z))
  ·simp only[decide_eq_false z,HS,if_false];refine L7 ⟨rfl,rfl,λi j hij hj=>?_⟩;by_cases hjx:j<x
   ·exact u' i j hij hjx
   ·have ej:j=x:=(by omega);subst ej;by_cases ei:i=j
    ·subst ei;exact Hi _
    ·have:=u' i (j-1) `o `o
     rw[show lo+(j-1)=lo+j-1 by omega]at this;omega
 ·rintro c st' ⟨rfl,rfl,u'⟩;rw[show max a nrem=nrem by omega]at u' ⊢;exact h nrem h2 (Hi _) u' (.inl rfl)
noncomputable abbrev x9(κ:L8)(it:Array L1)(pd:Array (Nat×Nat×Nat))(g:Nat)(r:Nat->Nat)(N lo nrem:Nat)(p:Array Nat)(Q:Option Nat->L3->Prop):Prop:=∀m p',iI N lo p p'->1<=m->m<=nrem->yk r lo p' m->Q (some m) (Zs κ it pd g p')
theorem wx(hc:bj (L9 prog w A κ it) r N s){p:Array Nat}(hp:PM N p){lo n nrem:Nat}(h0:lo+nrem<=N)(h1:1<=n)(h2:n<=nrem)(d:C8 r lo p n){Q:Option Nat->L3->Prop}(h:x9 κ it pd g r N lo nrem p Q):wpS `g A E s (EA lo n nrem) Q (Zs κ it pd g p):=by
 have hs:=hp.size;unfold EA;refine L4 (iD (L4 (rW hc (hp.rev _ _) h0 h1 h2 (λi j hij hj=>?_) λm m1 m2 u _=>L7 (h m _ (iI.rev hp (Hi _) `o) `o m2 u))));rw[nW `o,nW `o,if_pos `o,if_pos `o]
 have:=d (n-1-j) (n-1-i) `o `o
 rw[show lo+(n-1-i)=lo+(lo+n)-1-(lo+i)by omega,show lo+(n-1-j)=lo+(lo+n)-1-(lo+j)by omega]at this;exact this
theorem nY{p:Array Nat}{lo n q:Nat}(hn:lo+n<=p.size)(hq:q+1<=n)(he:∀i,n-(q+1)<=i->i<n->Rk r p (lo+i)=Rk r p (lo+n-1))(k:Nat):Rk r (L0 p (lo+n-(q+1)) (lo+n)) k=Rk r p k:=by
 rw[nW hn];split
 ·rename_i h;have a1:=he (lo+n-(q+1)+(lo+n)-1-k-lo) `o `o;have a2:=he (k-lo) `o `o;rw[show lo+(lo+n-(q+1)+(lo+n)-1-k-lo)=lo+n-(q+1)+(lo+n)-1-k by omega]at a1;rw[show lo+(k-lo)=k by omega]at a2;omega
 ·rfl
theorem yS(hc:bj (L9 prog w A κ it) r N s){p:Array Nat}(hp:PM N p){lo n nrem:Nat}(h0:lo+nrem<=N)(h1:1<=n)(h2:n<=nrem)(d:C8 r lo p n){Q:D3->L3->Prop}
  (h:∀m q p',iI N lo p p'->n<=m->m<=nrem->C8 r lo p' m->q+1<=m->(∀i,m-(q+1)<=i->i<m->Rk r p' (lo+i)=Rk r p' (lo+m-1))->Q (none,m,q) (Zs κ it pd g p')):wpS `g A E s (BC lo n nrem) Q (Zs κ it pd g p):=by
 unfold BC;refine L6 (I:=λx c st'=>∃q p',c=(none,x,q)/\st'=Zs κ it pd g p'/\iI N lo p p'/\C8 r lo p' x/\q+1<=x/\∀i,x-(q+1)<=i->i<x->Rk r p' (lo+i)=Rk r p' (lo+x-1)) ?_ ?_ ⟨0,p,rfl,rfl,⟨hp,λ_ _=>rfl⟩,d,by omega,λi a b=>by rw[show lo+i=lo+n-1 by omega]⟩
 ·rintro x c st' h3 h4 ⟨q,p',rfl,rfl,S,d',hq,he⟩;have hs:=S.pm.size;dsimp only;have step:∀p2,(∀k,Rk r p2 k=Rk r p' k)->Rk r p' (lo+x)<=Rk r p' (lo+x-1)->C8 r lo p2 (x+1):=λp2 hk hl i j hij hj=>by
   rw[hk,hk];by_cases hjx:j<x
   ·exact d' i j hij hjx
   ·have ej:j=x:=(by omega);subst ej;by_cases ei:i=j
    ·subst ei;exact Hi _
    ·have:=d' i (j-1) `o `o
     rw[show lo+(j-1)=lo+j-1 by omega]at this;omega
  refine L4 (iV hc S.pm `o `o ?_);by_cases z:Rk r p' (lo+x)<Rk r p' (lo+x-1)
  ·simp only[decide_eq_true z,if_true];by_cases hq0:q>0
   ·rw[if_pos hq0];exact L4 (iD (L7 ⟨0,_,rfl,rfl,S.trans (iI.rev S.pm `o `o),step _ (nY `o hq he) `o,by omega,λi a b=>by rw[show lo+i=lo+(x+1)-1 by omega]⟩))
   ·rw[if_neg hq0];exact L7 ⟨0,_,rfl,rfl,S,step _ (λ_=>rfl) `o,by omega,λi a b=>by rw[show lo+i=lo+(x+1)-1 by omega]⟩
  ·simp only[decide_eq_false z,HS,if_false];refine L4 (iV hc S.pm `o `o ?_);by_cases y:Rk r p' (lo+x-1)<Rk r p' (lo+x)
   ·simp only[decide_eq_true y,if_true];exact L7 (h x q p' S h3 `o d' hq he)
   ·simp only[decide_eq_false y,HS,if_false];refine L7 ⟨q+1,_,rfl,rfl,S,step _ (λ_=>rfl) `o,by omega,λi a b=>?_⟩;rw[show lo+(x+1)-1=lo+x by omega];by_cases ei:i=x
    ·subst ei;rfl
    ·have:=he i `o `o
     omega
 ·rintro c st' ⟨q,p',rfl,rfl,S,d',hq,he⟩;rw[show max n nrem=nrem by omega]at d' hq he ⊢;exact h nrem q p' S h2 (Hi _) d' hq he
theorem x9.on{lo nrem:Nat}{p p':Array Nat}{Q:Option Nat->L3->Prop}(h:x9 κ it pd g r N lo nrem p Q)(S:iI N lo p p'):x9 κ it pd g r N lo nrem p' Q:=λm q S'=>h m q (S.trans S')
theorem wy(hc:bj (L9 prog w A κ it) r N s){p:Array Nat}(hp:PM N p){lo n nrem:Nat}(h0:lo+nrem<=N)(h2:n+1<=nrem)(d:C8 r lo p (n+1)){Q:Option Nat->L3->Prop}(h:x9 κ it pd g r N lo nrem p Q):wpS `g A E s (EE lo n nrem) Q (Zs κ it pd g p):=by
 unfold EE;refine L4 (Md (LX ⟨rfl,?_⟩));refine L4 (yS hc hp h0 `o h2 d λm q p' S m1 m2 d' hq he=>?_);have hs:=S.pm.size;dsimp only;by_cases hq0:q>0
 ·rw[if_pos hq0];have S2:=S.trans (iI.rev (i:=lo+m-(q+1)) (j:=lo+m) S.pm `o `o);refine L4 (iD (wx hc S2.pm h0 `o m2 (λi j hij hj=>?_) (h.on S2)));rw[nY `o hq he,nY `o hq he];exact d' i j hij hj
 ·rw[if_neg hq0];exact wx hc S.pm h0 `o m2 d' (h.on S)
theorem oQ(hc:bj (L9 prog w A κ it) r N s){p:Array Nat}(hp:PM N p){lo nrem:Nat}(h0:lo+nrem<=N)(h1:1<=nrem){Q:Option Nat->L3->Prop}(h:x9 κ it pd g r N lo nrem p Q):wpS `g A E s (countRun' lo nrem) Q (Zs κ it pd g p):=by
 have hs:=hp.size;have S0:iI N lo p p:=⟨hp,λ_ _=>rfl⟩
 rw[oj];refine L4 (rW hc hp h0 (Hi _) h1 (λi j hij hj=>by rw[show i=j by omega];exact Hi _) λn a b u hor=>?_);dsimp only;by_cases hn:n=nrem
 ·rw[if_pos (by simpa using hn)];exact L7 (h n p S0 a b u)
 ·rw[if_neg (by simpa using hn)];have hlt:Rk r p (lo+n)<Rk r p (lo+n-1):=hor.resolve_left hn;by_cases hg:n>1
  ·rw[if_pos hg];refine L4 (iV hc hp `o `o ?_);by_cases q:Rk r p lo<Rk r p (lo+n-1)
   ·simp only[decide_eq_true q,if_true];exact L7 (h n p S0 a b u)
   ·simp only[decide_eq_false q,HS,if_false];have hall:∀k,k<n->Rk r p (lo+k)=Rk r p (lo+n-1):=λk hk=>by
     have a1:=u 0 k `o hk;have a2:=u k (n-1) `o `o;rw[Nat.add_zero]at a1;rw[show lo+(n-1)=lo+n-1 by omega]at a2;omega
    have hr:∀k,Rk r (L0 p lo (lo+n)) k=Rk r p k:=λk=>by
     have:=nY (r:=r) (p:=p) (lo:=lo) (n:=n) (q:=n-1) `o `o (λi _ hi=>hall i hi) k
     rwa [show lo+n-(n-1+1)=lo by omega]at this
    refine L4 (iD (wy hc (hp.rev _ _) h0 `o (λi j hij hj=>?_) (h.on (iI.rev hp (Hi _) `o))));rw[hr,hr];by_cases hjn:j<n
    ·rw[hall i `o,hall j hjn];exact Hi _
    ·have ej:j=n:=(by omega);subst ej;by_cases ei:i=j
     ·subst ei;exact Hi _
     ·rw[hall i `o];omega
  ·rw[if_neg hg];have en:n=1:=(by omega);subst en;refine wy hc hp h0 `o (λi j hij hj=>?_) h;by_cases ei:i=j
   ·subst ei;exact Hi _
   ·have e0:i=0:=(by omega);have e1:j=1:=(by omega);subst e0 e1;exact G4 hlt
theorem yR(hc:bj (L9 prog w A κ it) r N s){p:Array Nat}(hp:PM N p){lo k:Nat}(hk:lo+k<N)(u:yk r lo p k){Q:Option Bool×Nat×Nat->L3->Prop}
  (h:∀l t,l<=k->(∀i,i<l->Rk r p (lo+i)<=Rk r p (lo+k))->(∀i,l<=i->i<k->Rk r p (lo+k)<Rk r p (lo+i))->Q (none,l,t) (Zs κ it pd g p)):wpS `g A E s (CK lo k) Q (Zs κ it pd g p):=by
 unfold CK;refine L6 (I:=λx c st'=>st'=Zs κ it pd g p/\∃l t,c=(none,l,t)/\l<=t/\t<=k/\t-l<=k-x/\(∀i,i<l->Rk r p (lo+i)<=Rk r p (lo+k))/\∀i,t<=i->i<k->Rk r p (lo+k)<Rk r p (lo+i)) ?_ ?_ ⟨rfl,0,k,rfl,by omega,by omega,by omega,λi hi=>by omega,λi a b=>by omega⟩
 ·rintro x c st' _ hx ⟨rfl,l,t,rfl,a1,a2,a3,a4,a5⟩;dsimp only;by_cases z:l>=t
  ·rw[if_pos z]
   have:l=t:=(by omega);subst this;exact L7 (h l l a2 a4 a5)
  ·rw[if_neg z];refine L4 (iV hc hp `o `o ?_);by_cases q:Rk r p (lo+k)<Rk r p (lo+(l+t)/2)
   ·simp only[decide_eq_true q,if_true];refine L7 ⟨rfl,l,(l+t)/2,rfl,by omega,by omega,by omega,a4,λi x y=>?_⟩
    have:=u ((l+t)/2) i x y
    omega
   ·simp only[decide_eq_false q,HS,if_false];refine L7 ⟨rfl,(l+t)/2+1,t,rfl,by omega,by omega,by omega,λi x=>?_,a5⟩
    have:=u i ((l+t)/2) `o `o
    omega
 ·rintro c st' ⟨rfl,l,t,rfl,a1,a2,a3,a4,a5⟩
  have:l=t:=by omega
  subst this;exact h l l a2 a4 a5
theorem iI.bub{N lo k d:Nat}{p:Array Nat}(h:PM N p)(hk:k<N)(hd:lo+d<=k):iI N lo p (bubble p k d):=⟨(bubble_perm p k d).trans h,λi hi=>by
 have:=rK (r:=id) (p:=p) (src:=k) (d:=d) (by rw[h.size];exact hk) `o i
 rw[if_neg `o,if_neg `o]at this;exact this⟩
theorem lG(hc:bj (L9 prog w A κ it) r N s){p:Array Nat}(hp:PM N p){lo n ok:Nat}(h0:lo+n<=N)(h1:1<=ok)(h2:ok<=n)(u:yk r lo p ok){Q:Bool->L3->Prop}
  (h:∀p',iI N lo p p'->yk r lo p' n->Q true (Zs κ it pd g p')):wpS `g A E s (binarySort' lo n ok) Q (Zs κ it pd g p):=by
 rw[kG];refine L4 (L5 (L6 (I:=λk c st'=>c=(none,())/\∃p',st'=Zs κ it pd g p'/\iI N lo p p'/\yk r lo p' k)
  (Q:=λc st'=>c=(none,())/\∃p',st'=Zs κ it pd g p'/\iI N lo p p'/\yk r lo p' n) ?_ ?_ ⟨rfl,p,rfl,⟨hp,λ_ _=>rfl⟩,by rw[show max ok 1=ok by omega];exact u⟩) ?_)
 ·rintro k c st' k1 k2 ⟨rfl,p',rfl,S,u'⟩;have hs:=S.pm.size;refine L4 (yR hc S.pm `o u' λl t hl d e'=>?_);dsimp only;refine L4 (vQ (L7 ⟨rfl,_,rfl,S.trans (iI.bub S.pm `o `o),λi j hij hj=>?_⟩));rw[rK `o `o,rK `o `o,show lo+k-(lo+k-(lo+l))=lo+l by omega];have U:=u';by_cases i1:i=l
  ·rw[if_pos `o];by_cases j1:j=l
   ·rw[if_pos `o];exact Hi _
   ·rw[if_neg `o,if_pos `o]
    have:=e' (j-1) `o `o
    rw[show lo+(j-1)=lo+j-1 by omega]at this;exact G4 this
  ·rw[if_neg `o];by_cases i2:l<i/\i<=k
   ·rw[if_pos `o,if_neg `o,if_pos `o]
    have:=U (i-1) (j-1) `o `o
    rwa [show lo+(i-1)=lo+i-1 by omega,show lo+(j-1)=lo+j-1 by omega]at this
   ·rw[if_neg `o];by_cases j1:j=l
    ·rw[if_pos `o];exact d i `o
    ·rw[if_neg `o];by_cases j2:l<j/\j<=k
     ·rw[if_pos `o]
      have:=U i (j-1) `o `o
      rwa [show lo+(j-1)=lo+j-1 by omega]at this
     ·rw[if_neg `o];exact U _ _ hij `o
 ·rintro c st' ⟨rfl,p',rfl,S,u'⟩;rw[show max (max ok 1) n=n by omega]at u';exact⟨rfl,p',rfl,S,u'⟩
 ·rintro c st' ⟨rfl,p',rfl,S,u'⟩;exact L7 (h p' S u')
end
end TG
namespace TG
open PySem PySem.Spec PyProof.Rows PySem.W L2
variable[aj]
noncomputable def DA(o:Nat)(z:Array L1)(a:Array L1):Array L1:=z.toList.zipIdx.foldl (λa x=>a.setIfInBounds (o+x.2) x.1) a
noncomputable def EJ(st:L3)(sa na sb nb:Nat):StateT L3 Sem Bool:=do
 let y<-elem' (arrOf st) sb
 let c<-dh false y (arrOf st) sa na 0
 match c with
 |some k=>
  if(na-k==0)=true then pure true
  else do
   let x<-elem' (arrOf st) (sa+k+(na-k)-1)
   let c<-dh true x (arrOf st) sb nb (nb-1)
   match c with
   |some m=>
    if(m==0)=true then pure true
    else do
     let z<-if na-k<=m then lw ((arrOf st).extract (sa+k) sb) ((arrOf st).extract sb (sb+m))else kX ((arrOf st).extract (sa+k) sb) ((arrOf st).extract sb (sb+m))
     modify λs=>setArr s (DA (sa+k) z (arrOf s))
     let s<-get
     pure (failedOf s).isNone
   |_=>pure false
 |_=>pure false
theorem o6(i:Nat):mergeAt' i=(do
 let s<-get
 match(pendingOf s)[i]?,(pendingOf s)[i+1]? with
 |some (sa,na,power),some (sb,nb,_)=>do
  set (setPending s (((pendingOf s).setIfInBounds i (sa,na+nb,power)).eraseIdxIfInBounds (i+1)))
  EJ s sa na sb nb
 |_,_=>liftM (unsupported "internal:list.sort.pending":Sem Bool)):=by kernel_rfl
section
variable{f:Nat->L1}
theorem vG(o:Nat):∀(l:aP)(j:Nat)(p:Array Nat),((l.map f).zipIdx j).foldl (λa x=>a.setIfInBounds (o+x.2) x.1) (p.map f)=((l.zipIdx j).foldl (λa x=>a.setIfInBounds (o+x.2) x.1) p).map f
 |[],_,_=>rfl
 |x::l,j,p=>by
  rw[HF,Jb,Jb,Jc,Jc];have e:(p.map f).setIfInBounds (o+j) (f x)=(p.setIfInBounds (o+j) x).map f:=by simp
  show(((l.map f).zipIdx (j+1)).foldl _ ((p.map f).setIfInBounds (o+j) (f x)))=_;rw[e];exact vG o l (j+1) _
theorem tN(o:Nat):∀(l:aP)(j:Nat)(p:Array Nat)(X m Y:aP),p.toList=X++m++Y->X.length=o+j->m.length=l.length->((l.zipIdx j).foldl (λa x=>a.setIfInBounds (o+x.2) x.1) p).toList=X++l++Y
 |[],_,p,X,m,Y,e,_,h=>by
  rw[HL,Jd]at h;subst h;exact e
 |x::l,j,p,X,[],Y,_,_,h=>by cases h
 |x::l,j,p,X,y::m,Y,e,hX,h=>by
  rw[Jb,Jc];have z:(p.setIfInBounds (o+j) x).toList=(X++[x])++m++Y:=by
   rw[Array.toList_setIfInBounds,e,<-hX];simp
  have:=tN o l (j+1) _ (X++[x]) m Y z (by rw[Hw,HD];omega) (by simpa using h)
  rw[this];simp
end
theorem gD(p:Array Nat)(k:Nat):p.getD k 0=(p.toList[k]?).getD 0:=by simp
theorem vI{p:Array Nat}{X Z:aP}(e:p.toList=X++Z)(i:Nat):p.getD (X.length+i) 0=(Z[i]?).getD 0:=by
 rw[gD,e,Hq `o,IV]
theorem fT{r:Nat->Nat}{L:aP}(h:L.Pairwise λx y=>r x<=r y){i j:Nat}(hij:i<=j)(hj:j<L.length):r ((L[i]?).getD 0)<=r ((L[j]?).getD 0):=by
 have hi:i<L.length:=by omega
 rw[Ia hi,Ia hj];by_cases z:i=j
 ·subst z;exact Hi _
 ·exact List.pairwise_iff_getElem.mp h i j hi hj `o
theorem vq.of{r:Nat->Nat}{a:Array Nat}{L:aP}(e:a.toList=L)(h:L.Pairwise λx y=>r x<=r y):vq r a:=λi j hij hj=>by
 have hl:L.length=a.size:=by rw[<-e,Array.length_toList]
 rw[gD,gD,e];exact fT h hij `o
section
variable{prog:KP}{w:KO}{A:KY}{E:aA}{s:KN}{κ:L8}{it:Array L1}{r:Nat->Nat}{N:Nat}{pd pd':Array (Nat×Nat×Nat)}{g:Nat}
theorem Br(hc:bj (L9 prog w A κ it) r N s){p:Array Nat}{X L M Y:aP}(hp:PM N p)(e:p.toList=X++(L++M)++Y)(hL:L.Pairwise λx y=>r x<=r y)(hM:M.Pairwise λx y=>r x<=r y)(nL:0<L.length)(nM:0<M.length){Q:Bool->L3->Prop}
  (h:∀p' W g',p'.toList=X++W++Y->W.Perm (L++M)->(W.Pairwise λx y=>r x<=r y)->Q true (Zs κ it pd' g' p')):wpS `g A E s (EJ (Zs κ it pd g p) X.length L.length (X.length+L.length) M.length) Q (Zs κ it pd' g p):=by
 have hs:=hp.size;have sz:p.size=X.length+(L.length+M.length)+Y.length:=by
  rw[<-Array.length_toList,e];simp;omega
 have hq:∀x∈p.toList,x<N:=λx hx=>by
  obtain⟨i,hi,rfl⟩:=IM hx;rw[Array.length_toList]at hi
  have:=hp.lt (i:=i) `o
  have z:p.getD i 0=p[i]:=by simp[Array.getD,hi]
  rw[z]at this
  simpa using this
 have eL:∀i,i<L.length->p.getD (X.length+i) 0=(L[i]?).getD 0:=λi hi=>by
  rw[vI (X:=X) (Z:=(L++M)++Y) (by rw[e,Iu]),Iu,Hs hi]
 have eM:∀i,i<M.length->p.getD (X.length+L.length+i) 0=(M[i]?).getD 0:=λi hi=>by
  have:=vI (p:=p) (X:=X++L) (Z:=M++Y) (by rw[e];simp) i
  rw[Hw]at this;rw[this,Hs hi]
 have e0:p.getD (X.length+L.length) 0=(M[0]?).getD 0:=eM 0 nM;have mL:∀x∈L,∃i,i<L.length/\x=(L[i]?).getD 0:=λx hx=>by
  obtain⟨i,hi,rfl⟩:=IM hx;exact⟨i,hi,by rw[Ia hi];rfl⟩
 have mM:∀x∈M,∃i,i<M.length/\x=(M[i]?).getD 0:=λx hx=>by
  obtain⟨i,hi,rfl⟩:=IM hx;exact⟨i,hi,by rw[Ia hi];rfl⟩
 have all:(∀x∈L,∀y∈M,r x<=r y)->∀g',Q true (Zs κ it pd' g' p):=λq g'=>h p (L++M) g' e (List.Perm.refl _) (List.pairwise_append.mpr ⟨hL,hM,q⟩);unfold EJ;refine L4 (aB (q:=p) `o ?_);refine L4 (gW (q:=p) (left:=false) (k:=p.getD (X.length+L.length) 0) (base:=X.length) (n:=L.length) (hint:=0) hc (hp.lt `o) `o nL hq (λi j hij hj=>by rw[eL i `o,eL j hj];exact fT hL hij hj) rfl λk k1 k2 k3=>?_);dsimp only;have le:∀i,i<k->r ((L[i]?).getD 0)<=r ((M[0]?).getD 0):=λi hi=>by
  have:=k2 i hi
  rw[eL i `o,e0]at this
  simpa [qq]using this
 have gt:∀i,k<=i->i<L.length->r ((M[0]?).getD 0)<r ((L[i]?).getD 0):=λi hi hj=>by
  have:=k3 i hi hj
  rw[eL i hj,e0]at this
  simpa [qq]using this
 by_cases z:L.length-k=0
 ·rw[if_pos (by simpa using z)];refine L7 (all (λx hx y hy=>?_) g);obtain⟨i,hi,rfl⟩:=mL x hx;obtain⟨j,hj,rfl⟩:=mM y hy;exact G3 (le i `o) (fT hM (HP _) hj)
 ·rw[if_neg (by simpa using z)];have el:p.getD (X.length+k+(L.length-k)-1) 0=(L[L.length-1]?).getD 0:=by
   rw[show X.length+k+(L.length-k)-1=X.length+(L.length-1)by omega];exact eL _ `o
  refine L4 (aB (q:=p) `o ?_);refine L4 (gW (q:=p) (left:=true) (k:=p.getD (X.length+k+(L.length-k)-1) 0) (base:=X.length+L.length) (n:=M.length) (hint:=M.length-1) hc (hp.lt `o) `o `o hq (λi j hij hj=>by rw[eM i `o,eM j hj];exact fT hM hij hj) rfl λm m1 m2 m3=>?_);dsimp only;have lt:∀i,i<m->r ((M[i]?).getD 0)<r ((L[L.length-1]?).getD 0):=λi hi=>by
   have:=m2 i hi
   rw[eM i `o,el]at this
   simpa [qq]using this
  have ge:∀i,m<=i->i<M.length->r ((L[L.length-1]?).getD 0)<=r ((M[i]?).getD 0):=λi hi hj=>by
   have:=m3 i hi hj
   rw[eM i hj,el]at this
   simpa [qq]using this
  by_cases y:m=0
  ·rw[if_pos (by simpa using y)];refine L7 (all (λx hx y hy=>?_) g);obtain⟨i,hi,rfl⟩:=mL x hx;obtain⟨j,hj,rfl⟩:=mM y hy;exact G3 (fT hL `o `o) (ge j `o hj)
  ·rw[if_neg (by simpa using y)];have ea:(p.extract (X.length+k) (X.length+L.length)).toList=L.drop k:=by
    rw[dA,e,show X.length+L.length-(X.length+k)=L.length-k by omega,<-IQ,Iu,Je,Iu,List.drop_append_of_le_length `o];exact List.take_left' (by rw[HA])
   have eb:(p.extract (X.length+L.length) (X.length+L.length+m)).toList=M.take m:=by
    rw[dA,e,IV,<-IQ,Iu,Je,Iu,Je,List.take_append_of_le_length m1]
   have sa:(p.extract (X.length+k) (X.length+L.length)).size=L.length-k:=(by rw[<-Array.length_toList,ea,HA]);have sb:(p.extract (X.length+L.length) (X.length+L.length+m)).size=m:=(by rw[<-Array.length_toList,eb,Ho];omega);have T:vj r N (p.extract (X.length+k) (X.length+L.length)) (p.extract (X.length+L.length) (X.length+L.length+m)):=⟨vq.of ea (List.Pairwise.sublist (Jf _ _) hL),vq.of eb (List.Pairwise.sublist (Hu _ _) hM),
    λx hx=>by rw[ea]at hx;exact hq x (by rw[e];simp[IU hx]),λx hx=>by rw[eb]at hx;exact hq x (by rw[e];simp[Ja hx])⟩
   have la:(p.extract (X.length+k) (X.length+L.length)).getD ((p.extract (X.length+k) (X.length+L.length)).size-1) 0=(L[L.length-1]?).getD 0:=by
    rw[gD,ea,sa,Ik,show k+(L.length-k-1)=L.length-1 by omega]
   have fb:(p.extract (X.length+L.length) (X.length+L.length+m)).getD 0 0=(M[0]?).getD 0:=by
    rw[gD,eb,Jg,if_pos `o]
   have fa:(p.extract (X.length+k) (X.length+L.length)).getD 0 0=(L[k]?).getD 0:=by
    rw[gD,ea,Ik,Nat.add_zero]
   have hl:∀y∈(p.extract (X.length+L.length) (X.length+L.length+m)).toList,r y<=r ((p.extract (X.length+k) (X.length+L.length)).getD ((p.extract (X.length+k) (X.length+L.length)).size-1) 0):=λy hy=>by
    rw[la];rw[eb]at hy;obtain⟨i,hi,rfl⟩:=IM hy;rw[Ho]at hi
    have:=lt i `o
    rw[Ia (show i<M.length by omega)]at this;rw[IP];exact G4 this
   have hf:∀x∈(p.extract (X.length+k) (X.length+L.length)).toList,r ((p.extract (X.length+L.length) (X.length+L.length+m)).getD 0 0)<=r x:=λx hx=>by
    rw[fb];rw[ea]at hx;obtain⟨i,hi,rfl⟩:=IM hx;rw[HA]at hi
    have:=gt (k+i) `o `o
    rw[Ia (show k+i<L.length by omega)]at this;rw[Jh];exact G4 this
   have fin:∀x g',dQ it r ((p.extract (X.length+k) (X.length+L.length)).toList++(p.extract (X.length+L.length) (X.length+L.length+m)).toList) x->wpS `g A E s (do modify (λs=>setArr s (DA (X.length+k) x (arrOf s)));let s<-get;pure (failedOf s).isNone) Q (setG (Zs κ it pd' g p) g'):=λx g' F=>by
    obtain⟨q,rfl,q1,q2⟩:=F;rw[ea,eb]at q2;have ew:DA (X.length+k) (q.map (Ma it)) (p.map (Ma it))=((q.toList.zipIdx).foldl (λa x=>a.setIfInBounds (X.length+k+x.2) x.1) p).map (Ma it):=by
     unfold DA;rw[Array.toList_map];exact vG _ _ _ _
    have el:((q.toList.zipIdx).foldl (λa x=>a.setIfInBounds (X.length+k+x.2) x.1) p).toList=(X++L.take k)++q.toList++(M.drop m++Y):=by
     refine tN _ _ 0 p (X++L.take k) (L.drop k++M.take m) (M.drop m++Y) ?_ (by rw[Hw,Ho];omega) (q2.length_eq).symm;rw[e,show X++L.take k++(L.drop k++M.take m)++(M.drop m++Y)=X++((L.take k++L.drop k)++(M.take m++M.drop m))++Y by simp only[Iu],IR,IR]
    refine L4 (Mg (L4 (Mb (L7 ?_))))
    have:=h _ (L.take k++q.toList++M.drop m) g' (by rw[el];simp) (by
     conv=>rhs;rw[<-IR k L,<-IR m M]
     rw[Iu,Iu];refine List.Perm.append_left _ ?_;rw[<-Iu];exact List.Perm.append_right _ q2) (by
     have mq:∀y∈q.toList,y∈L.drop k\/y∈M.take m:=λy hy=>List.mem_append.mp (q2.mem_iff.mp hy);have atk:∀x∈L.take k,∃i,i<k/\i<L.length/\x=(L[i]?).getD 0:=λx hx=>by
      obtain⟨i,hi,rfl⟩:=IM hx;rw[Ho]at hi;exact⟨i,by omega,by omega,by rw[IP,Ia (show i<L.length by omega)];rfl⟩
     have amd:∀x∈M.drop m,∃i,m<=i/\i<M.length/\x=(M[i]?).getD 0:=λx hx=>by
      obtain⟨i,hi,rfl⟩:=IM hx;rw[HA]at hi;exact⟨m+i,by omega,by omega,by rw[Jh,Ia (show m+i<M.length by omega)];rfl⟩
     refine List.pairwise_append.mpr ⟨List.pairwise_append.mpr ⟨List.Pairwise.sublist (Hu _ _) hL,q1,λx hx y hy=>?_⟩,List.Pairwise.sublist (Jf _ _) hM,λx hx y hy=>?_⟩
     ·obtain⟨i,i1,i2,rfl⟩:=atk x hx;rcases mq y hy with w|w
      ·obtain⟨j,hj,rfl⟩:=IM w;rw[HA]at hj
       have:=fT hL (i:=i) (j:=k+j) `o `o
       rw[Ia (show k+j<L.length by omega)]at this;rw[Jh];exact this
      ·obtain⟨j,hj,rfl⟩:=mM y (Ja w);exact G3 (le i i1) (fT hM (HP _) hj)
     ·obtain⟨j,j1,j2,rfl⟩:=amd y hy;rcases List.mem_append.mp hx with w|w
      ·obtain⟨i,i1,i2,rfl⟩:=atk x w;exact G3 (le i i1) (fT hM (HP _) j2)
      ·rcases mq x w with v|v
       ·obtain⟨i,hi,rfl⟩:=mL x (IU v);exact G3 (fT hL `o `o) (ge j j1 j2)
       ·obtain⟨i,hi,rfl⟩:=IM v;rw[Ho]at hi
        have:=fT hM (i:=i) (j:=j) `o j2
        rw[Ia (show i<M.length by omega)]at this;rw[IP];exact this)
    show Q true (SortSt.mk' κ (DA (X.length+k) (q.map (Ma it)) (p.map (Ma it))) pd' g' none);rw[ew];exact this
   rw[cC,cC];by_cases v:L.length-k<=m
   ·rw[if_pos v];exact L4 (rn (st:=Zs κ it pd' g p) hc rfl hl (by rw[fb,fa];exact G4 (gt k (Hi _) `o)) T `o `o fin)
   ·rw[if_neg v];exact L4 (rR (st:=Zs κ it pd' g p) hc rfl hl hf T `o `o fin)
end
end TG
namespace TG
open PySem PySem.Spec PyProof.Rows PySem.W L2
variable[aj]
noncomputable def CQ(size pw:Nat):StateT L3 Sem (Option Unit×Unit):=forIn [0:size] ((none,()):Option Unit×Unit) λ_ _=>do
 let s<-get
 match if(pendingOf s).size>1 then(pendingOf s)[(pendingOf s).size-2]? else none with
 |some (_,_,older)=>
  if older<=pw then pure (.done (none,()))
  else do
   let b<-mergeAt' ((pendingOf s).size-2)
   if(!b)=true then pure (.done (some (),()))else pure (.yield (none,()))
 |_=>pure (.done (none,()))
noncomputable def putL(lo n:Nat):StateT L3 Sem (ForInStep (Option Unit×Nat)):=do
 modify λs=>setPending s ((pendingOf s).push (lo,n,0))
 pure (.yield (none,lo+n))
noncomputable def zi(size lo n:Nat):StateT L3 Sem (ForInStep (Option Unit×Nat)):=do
 let s<-get
 match(pendingOf s).back? with
 |some (s1,n1,_)=>do
  let c<-CQ size (power' size (2*s1+n1) (2*s1+n1+n1+n) size)
  match c.1 with
  |some r=>pure (.done (some r,lo))
  |none=>do
   modify λs=>setPending s ((pendingOf s).modify ((pendingOf s).size-1) λx=>(x.1,x.2.1,power' size (2*s1+n1) (2*s1+n1+n1+n) size))
   putL lo n
 |_=>putL lo n
noncomputable def zy(size mr lo:Nat):StateT L3 Sem (ForInStep (Option Unit×Nat)):=
 if lo>=size then pure (.done (none,lo))
 else do
  let x<-countRun' lo (size-lo)
  match x with
  |some n=>
   if n<mr then do
    liftM (rule "list.sort.binary-insertion")
    let b<-binarySort' lo (min (size-lo) mr) n
    if(!b)=true then pure (.done (some (),lo))else zi size lo (min (size-lo) mr)
   else zi size lo n
  |_=>pure (.done (some (),lo))
noncomputable def endL(size:Nat):StateT L3 Sem (Option Unit×Unit):=forIn [0:size] ((none,()):Option Unit×Unit) λ_ _=>do
 let s<-get
 if(pendingOf s).size<=1 then pure (.done (none,()))
 else do
  let b<-mergeAt' (if Option.any (λx=>decide (x<(pendingOf s)[(pendingOf s).size-2+1]?.elim 0 λx=>x.2.1)) (if(pendingOf s).size-2>0 then Option.map (λx=>x.2.1) (pendingOf s)[(pendingOf s).size-2-1]? else none)=true then(pendingOf s).size-2-1 else(pendingOf s).size-2)
  if(!b)=true then pure (.done (some (),()))else pure (.yield (none,()))
theorem oO:sortRuns'=(do
  let s<-get
  let c<-forIn [0:(arrOf s).size] ((none,0):Option Unit×Nat) λ_ c=>zy (arrOf s).size (minRun' (arrOf s).size (arrOf s).size 0) c.2
  match c.1 with
  |some r=>pure r
  |none=>do
   let d<-endL (arrOf s).size
   match d.1 with
   |some r=>pure r
   |none=>pure ()):=by kernel_rfl
noncomputable def cy(r:Nat->Nat):Nat->List (aP)->List (Nat×Nat×Nat)->Prop
 |_,[],[]=>True
 |s,L::Ls,t::ts=>t.1=s/\t.2.1=L.length/\0<L.length/\(L.Pairwise λx y=>r x<=r y)/\cy r (s+L.length) Ls ts
 |_,_,_=>False
section
variable{r:Nat->Nat}
theorem cy.length:∀{Rs:List aP}{ts:List (Nat×Nat×Nat)}{s:Nat},cy r s Rs ts->Rs.length=ts.length
 |[],[],_,_=>rfl
 |_::_,_::_,_,h=>by rw[HK,HK,cy.length h.2.2.2.2]
 |[],_::_,_,h=>h.elim
 |_::_,[],_,h=>h.elim
theorem cy.split:∀{R1 R2:List aP}{ts:List (Nat×Nat×Nat)}{s:Nat},cy r s (R1++R2) ts->∃t1 t2,ts=t1++t2/\t1.length=R1.length/\cy r s R1 t1/\cy r (s+R1.flatten.length) R2 t2
 |[],R2,ts,s,h=>⟨[],ts,rfl,rfl,True.intro,h⟩
 |L::R1,R2,[],s,h=>h.elim
 |L::R1,R2,t::ts,s,h=>by
  obtain⟨h1,h2,h3,h4,h5⟩:=h;obtain⟨t1,t2,rfl,e,a,b⟩:=cy.split h5;refine⟨t::t1,t2,rfl,by rw[HK,HK,e],⟨h1,h2,h3,h4,a⟩,?_⟩;rw[Ji,Hw,<-Jj];exact b
theorem cy.join:∀{R1 R2:List aP}{t1 t2:List (Nat×Nat×Nat)}{s:Nat},cy r s R1 t1->cy r (s+R1.flatten.length) R2 t2->cy r s (R1++R2) (t1++t2)
 |[],R2,[],t2,s,_,h=>h
 |[],_,_::_,_,_,h,_=>h.elim
 |_::_,_,[],_,_,h,_=>h.elim
 |L::R1,R2,t::t1,t2,s,h,h'=>by
  obtain⟨h1,h2,h3,h4,h5⟩:=h;refine⟨h1,h2,h3,h4,cy.join h5 ?_⟩;rw[Ji,Hw,<-Jj]at h';exact h'
theorem cy.last{f:Nat×Nat×Nat->Nat×Nat×Nat}(hf:∀x,(f x).1=x.1/\(f x).2.1=x.2.1):∀{Rs:List aP}{ts:List (Nat×Nat×Nat)}{s:Nat}(i:Nat),cy r s Rs ts->cy r s Rs (ts.modify i f)
 |[],[],_,_,_=>by simp[cy]
 |L::Rs,t::ts,s,0,h=>by
  obtain⟨h1,h2,h3,h4,h5⟩:=h;exact⟨(hf t).1.trans h1,(hf t).2.trans h2,h3,h4,h5⟩
 |L::Rs,t::ts,s,i+1,h=>by
  obtain⟨h1,h2,h3,h4,h5⟩:=h;exact⟨h1,h2,h3,h4,cy.last hf i h5⟩
 |[],_::_,_,_,h=>h.elim
 |_::_,[],_,_,h=>h.elim
end
section
variable{prog:KP}{w:KO}{A:KY}{E:aA}{s:KN}{κ:L8}{it:Array L1}{r:Nat->Nat}{N:Nat}
noncomputable def dB(κ:L8)(it:Array L1)(r:Nat->Nat)(N m lo:Nat)(Y:aP)(st:L3):Prop:=∃(p:Array Nat)(pd:Array (Nat×Nat×Nat))(g:Nat)(Rs:List aP),st=Zs κ it pd g p/\PM N p/\p.toList=Rs.flatten++Y/\Rs.flatten.length=lo/\cy r 0 Rs pd.toList/\Rs.length=m
theorem kK(hc:bj (L9 prog w A κ it) r N s){m lo i:Nat}{Y:aP}{st:L3}(h:dB κ it r N m lo Y st)(hi:i+1<m){Q:Bool->L3->Prop}(hQ:∀st',dB κ it r N (m-1) lo Y st'->Q true st'):wpS `g A E s (mergeAt' i) Q st:=by
 obtain⟨p,pd,g,Rs,rfl,hp,e,el,hR,em⟩:=h;obtain⟨R1,L,M,R2,rfl,e1⟩:∃R1 L M R2,Rs=R1++L::M::R2/\R1.length=i:=by
  refine⟨Rs.take i,Rs[i],Rs[i+1],Rs.drop (i+2),?_,by rw[Ho];omega⟩;rw[<-Iq,<-Iq,IR]
 obtain⟨t1,t2,et,e2,q1,q2⟩:=cy.split hR
 match t2,q2 with
 |(sa,na,pw)::(sb,nb,pw')::t3,q2=>
  obtain⟨a1,a2,a3,a4,b1,b2,b3,b4,b5⟩:=q2;rw[IY]at a1 b1;have a1:sa=R1.flatten.length:=a1;have a2:na=L.length:=a2;have b1:sb=R1.flatten.length+L.length:=b1;have b2:nb=M.length:=b2;subst a1 a2 b1 b2;have g1:pd[i]?=some (R1.flatten.length,L.length,pw):=by
   rw[<-Array.getElem?_toList,et,Hq `o,show i-t1.length=0 by omega];rfl
  have g2:pd[i+1]?=some (R1.flatten.length+L.length,M.length,pw'):=by
   rw[<-Array.getElem?_toList,et,Hq `o,show i+1-t1.length=1 by omega];rfl
  have ep:((pd.setIfInBounds i (R1.flatten.length,L.length+M.length,pw)).eraseIdxIfInBounds (i+1)).toList=t1++(R1.flatten.length,L.length+M.length,pw)::t3:=by
   have:i=t1.length:=(by omega);subst this;simp[et];rw[show t1.length+1=t1.length+1 from rfl,List.eraseIdx_append_of_length_le `o,show t1.length+1-t1.length=1 by omega];rfl
  rw[o6];refine L4 (Mb ?_);show wpS _ _ _ _ (match pd[i]?,pd[i+1]? with
   |some (sa,na,power),some (sb,nb,_)=>do
    set (setPending (Zs κ it pd g p) ((pd.setIfInBounds i (sa,na+nb,power)).eraseIdxIfInBounds (i+1)))
    EJ (Zs κ it pd g p) sa na sb nb
   |_,_=>liftM (unsupported "internal:list.sort.pending":Sem Bool)) Q _
  rw[g1,g2];dsimp only;refine L4 ?_;have ws:∀(st1 st0:L3)(Q:PUnit->L3->Prop),Q ⟨⟩ st1->wpS `g A E s (set st1:StateT L3 Sem PUnit) Q st0:=λst1 st0 Q h=>by
   unfold wpS;rw[StateT.run_set];exact Lb ⟨rfl,h⟩
  refine ws _ _ _ ?_;show wpS _ _ _ _ _ Q (Zs κ it ((pd.setIfInBounds i (R1.flatten.length,L.length+M.length,pw)).eraseIdxIfInBounds (i+1)) g p);have e':p.toList=R1.flatten++(L++M)++(R2.flatten++Y):=by rw[e];simp
  refine Br (X:=R1.flatten) hc hp e' a4 b4 a3 b3 λp' W g' z1 z2 z3=>hQ _ ⟨p',_,g',R1++W::R2,rfl,?_,by rw[z1];simp,?_,?_,?_⟩
  ·refine Array.Perm.trans ?_ hp;refine Array.perm_iff_toList_perm.mpr ?_;rw[z1,e'];exact List.Perm.append_right _ (List.Perm.append_left _ z2)
  ·have:=z2.length_eq
   rw[Hw]at this;simp[this]at el ⊢;omega
  ·rw[ep];have wl:=z2.length_eq;rw[Hw]at wl;refine cy.join q1 ⟨by simp,wl.symm,by omega,z3,?_⟩;rw[wl,<-Jj];exact b5
  ·simp at em ⊢;omega
 |[],q2=>exact q2.elim
 |[_],q2=>exact(q2.2.2.2.2).elim
theorem yA(hc:bj (L9 prog w A κ it) r N s){size pw m lo:Nat}{Y:aP}{st:L3}(h:dB κ it r N m lo Y st)(hm:0<m){Q:Option Unit×Unit->L3->Prop}(hQ:∀m' st',0<m'->m'<=m->dB κ it r N m' lo Y st'->Q (none,()) st'):wpS `g A E s (CQ size pw) Q st:=by
 unfold CQ;refine L6 (I:=λ_ c st'=>c=(none,())/\∃m',0<m'/\m'<=m/\dB κ it r N m' lo Y st') ?_ ?_ ⟨rfl,m,hm,Hi _,h⟩
 ·rintro x c st' _ _ ⟨rfl,m',h1,h2,S⟩;have S':=S;obtain⟨p,pd,g,Rs,rfl,hp,e,el,hR,em⟩:=S';have sz:pd.size=m':=by rw[<-Array.length_toList,<-hR.length,em]
  refine L4 (Mb ?_);rw[show pendingOf (Zs κ it pd g p)=pd from rfl];by_cases z:pd.size>1
  ·rw[if_pos z,getElem?_pos pd (pd.size-2) `o];dsimp only;split
   ·exact L7 (hQ m' _ h1 h2 S)
   ·refine L4 (kK hc S `o λst' S'=>?_);simp only[IJ,HS,if_false];exact L7 ⟨rfl,m'-1,by omega,by omega,S'⟩
  ·rw[if_neg z];exact L7 (hQ m' _ h1 h2 S)
 ·rintro c st' ⟨rfl,m',h1,h2,S⟩;exact hQ m' st' h1 h2 S
theorem yT(hc:bj (L9 prog w A κ it) r N s){size m lo:Nat}{Y:aP}{st:L3}(h:dB κ it r N m lo Y st)(hm:0<m)(hs:m<=size){Q:Option Unit×Unit->L3->Prop}(hQ:∀st',dB κ it r N 1 lo Y st'->Q (none,()) st'):wpS `g A E s (endL size) Q st:=by
 unfold endL;refine L6 (I:=λx c st'=>c=(none,())/\∃m',0<m'/\(m'=1\/m'+x<=m)/\dB κ it r N m' lo Y st') ?_ ?_ ⟨rfl,m,hm,.inr `o,h⟩
 ·rintro x c st' _ _ ⟨rfl,m',h1,h2,S⟩;have S':=S;obtain⟨p,pd,g,Rs,rfl,hp,e,el,hR,em⟩:=S';have sz:pd.size=m':=by rw[<-Array.length_toList,<-hR.length,em]
  refine L4 (Mb ?_);rw[show pendingOf (Zs κ it pd g p)=pd from rfl];by_cases z:pd.size<=1
  ·rw[if_pos z]
   have:m'=1:=(by omega);subst this;exact L7 (hQ _ S)
  ·rw[if_neg z];refine L4 (kK hc S ?_ λst' S'=>?_)
   ·have:∀(b:Prop)[Decidable b],(if b then pd.size-2-1 else pd.size-2)+1<m':=λb _=>by split<;>omega
    exact this _
   ·simp only[IJ,HS,if_false];exact L7 ⟨rfl,m'-1,by omega,by omega,S'⟩
 ·rintro c st' ⟨rfl,m',h1,h2,S⟩
  have:m'=1:=by omega
  subst this;exact hQ st' S
noncomputable abbrev C0(κ:L8)(it:Array L1)(r:Nat->Nat)(N lo n:Nat)(Y:aP)(c:ForInStep (Option Unit×Nat))(st':L3):Prop:=∃m,c=.yield (none,lo+n)/\0<m/\dB κ it r N m (lo+n) Y st'
theorem tH{m lo:Nat}{L Y:aP}{st:L3}(h:dB κ it r N m lo (L++Y) st)(hL:L.Pairwise λx y=>r x<=r y)(h0:0<L.length):wpS `g A E s (putL lo L.length) (C0 κ it r N lo L.length Y) st:=by
 obtain⟨p,pd,g,Rs,rfl,hp,e,el,hR,em⟩:=h;unfold putL;refine L4 (Mg (L7 ⟨m+1,rfl,by omega,p,pd.push (lo,L.length,0),g,Rs++[L],rfl,hp,by rw[e];simp,by simp;simp at el;omega,?_,by simp[em]⟩));rw[Array.toList_push];exact cy.join hR ⟨by rw[IY];exact el.symm,rfl,h0,hL,True.intro⟩
theorem tR(hc:bj (L9 prog w A κ it) r N s){size m lo:Nat}{L Y:aP}{st:L3}(h:dB κ it r N m lo (L++Y) st)(hL:L.Pairwise λx y=>r x<=r y)(h0:0<L.length):wpS `g A E s (zi size lo L.length) (C0 κ it r N lo L.length Y) st:=by
 have h':=h;obtain⟨p,pd,g,Rs,rfl,hp,e,el,hR,em⟩:=h';have sz:pd.size=m:=by rw[<-Array.length_toList,<-hR.length,em]
 unfold zi;refine L4 (Mb ?_);rw[show pendingOf (Zs κ it pd g p)=pd from rfl];cases hb:pd.back? with
 |none=>exact tH h hL h0
 |some t=>
  obtain⟨s1,n1,o⟩:=t;have m0:0<m:=by
   rcases Jk m with z|z
   ·rw[Array.back?_eq_getElem?,getElem?_neg pd _ `o]at hb;cases hb
   ·exact z
  dsimp only;refine L4 (yA hc h m0 λm' st' h1 h2 S=>?_);dsimp only;obtain⟨p',pd',g',Rs',rfl,hp',e',el',hR',em'⟩:=S;refine L4 (Mg ?_);refine tH (m:=m') ⟨p',pd'.modify (pd'.size-1) λx=>(x.1,x.2.1,power' size (2*s1+n1) (2*s1+n1+n1+L.length) size),g',Rs',rfl,hp',e',el',?_,em'⟩ hL h0
  have:(pd'.modify (pd'.size-1) λx=>(x.1,x.2.1,power' size (2*s1+n1) (2*s1+n1+n1+L.length) size)).toList=pd'.toList.modify (pd'.size-1) λx=>(x.1,x.2.1,power' size (2*s1+n1) (2*s1+n1+n1+L.length) size):=by simp
  rw[this];exact cy.last (f:=λx=>(x.1,x.2.1,power' size (2*s1+n1) (2*s1+n1+n1+L.length) size)) (λx=>⟨rfl,rfl⟩) _ hR'
theorem nD{m lo n:Nat}{Y:aP}{p p':Array Nat}{pd:Array (Nat×Nat×Nat)}{g:Nat}{Rs:List aP}(hp:PM N p)(e:p.toList=Rs.flatten++Y)(el:Rs.flatten.length=lo)(hR:cy r 0 Rs pd.toList)(em:Rs.length=m)(S:iI N lo p p')(u:yk r lo p' n)(hn:lo+n<=N):
  ∃L Y',L.length=n/\(L.Pairwise λx y=>r x<=r y)/\dB κ it r N m lo (L++Y') (Zs κ it pd g p'):=by
 have hs:=hp.size;have hs':=S.pm.size;have tk:p'.toList.take lo=Rs.flatten:=by
  have t0:p.toList.take lo=Rs.flatten:=by rw[e,<-el,List.take_left]
  rw[<-t0];refine Jl λi=>?_;rw[Jg,Jg];by_cases z:i<lo
  ·rw[if_pos z,if_pos z];have q:=S.eq i z;rw[gD,gD,Ia (by rw[Array.length_toList];omega),Ia (by rw[Array.length_toList];omega)]at q;rw[Ia (by rw[Array.length_toList];omega),Ia (by rw[Array.length_toList];omega)];exact congrArg some q
  ·rw[if_neg z,if_neg z]
 have sp:p'.toList=Rs.flatten++p'.toList.drop lo:=by rw[<-tk,IR]
 have ln:((p'.toList.drop lo).take n).length=n:=by rw[Ho,HA,Array.length_toList];omega
 refine⟨(p'.toList.drop lo).take n,(p'.toList.drop lo).drop n,ln,List.pairwise_iff_getElem.mpr λi j hi hj hij=>?_,p',pd,g,Rs,rfl,S.pm,by rw[IR];exact sp,el,hR,em⟩;rw[ln]at hi hj;have q:=u i j `o hj;have ga:∀k (hk:k<((p'.toList.drop lo).take n).length),p'.getD (lo+k) 0=((p'.toList.drop lo).take n)[k]:=λk hk=>by
  rw[ln]at hk;rw[gD,Ia (by rw[Array.length_toList];omega),IP,Jh];rfl
 show r _<=r _;rw[<-ga,<-ga];exact q
theorem yM(hc:bj (L9 prog w A κ it) r N s){mr m lo:Nat}{Y:aP}{st:L3}(h:dB κ it r N m lo Y st)(hlo:lo<N):wpS `g A E s (zy N mr lo) (λc st'=>∃n Y',0<n/\lo+n<=N/\C0 κ it r N lo n Y' c st') st:=by
 obtain⟨p,pd,g,Rs,rfl,hp,e,el,hR,em⟩:=h;unfold zy;rw[if_neg `o];refine L4 (oQ hc hp `o `o λn p' S n1 n2 u=>?_);dsimp only;by_cases z:n<mr
 ·rw[if_pos z];refine L4 (Md (LX ⟨rfl,?_⟩));refine L4 (lG hc S.pm `o n1 `o u λp2 S2 u2=>?_);simp only[IJ,HS,if_false];obtain⟨L,Y',l1,l2,l3⟩:=nD (κ:=κ) (it:=it) (m:=m) (g:=g) hp e el hR em (S.trans S2) u2 `o
  have:=tR (E:=E) (size:=N) hc l3 l2 `o
  rw[l1]at this;exact L5 this λc st' q=>⟨_,Y',by omega,by omega,q⟩
 ·rw[if_neg z];obtain⟨L,Y',l1,l2,l3⟩:=nD (κ:=κ) (it:=it) (m:=m) (g:=g) hp e el hR em S u `o
  have:=tR (E:=E) (size:=N) hc l3 l2 `o
  rw[l1]at this;exact L5 this λc st' q=>⟨_,Y',by omega,by omega,q⟩
theorem qa:∀{Rs:List aP}{ts:List (Nat×Nat×Nat)}{s:Nat},cy r s Rs ts->Rs.length<=Rs.flatten.length
 |[],[],_,_=>Hi _
 |L::Rs,t::ts,_,h=>by
  obtain⟨_,_,h3,_,h5⟩:=h
  have:=qa h5
  rw[HK,Ji,Hw];omega
 |[],_::_,_,h=>h.elim
 |_::_,[],_,h=>h.elim
theorem pc(hc:bj (L9 prog w A κ it) r N s)(h1:1<=N){p:Array Nat}(hp:PM N p){Q:Unit->L3->Prop}(h:∀p' pd g,PM N p'->Up r p' N->Q () (Zs κ it pd g p')):wpS `g A E s sortRuns' Q (Zs κ it #[] 7 p):=by
 have hs:=hp.size;rw[oO];refine L4 (Mb ?_);have sz:(arrOf (Zs κ it #[] 7 p)).size=N:=by show(p.map (Ma it)).size=N;rw[Array.size_map,hs]
 rw[sz];refine L4 (L5 (L6 (I:=λx c st'=>∃lo m Y,c=(none,lo)/\lo<=N/\x<=lo/\dB κ it r N m lo Y st')
  (Q:=λc st'=>∃m Y,c=(none,N)/\dB κ it r N m N Y st') ?_ ?_ ⟨0,0,p.toList,rfl,by omega,by omega,p,#[],7,[],rfl,hp,rfl,rfl,True.intro,rfl⟩) ?_)
 ·rintro x c st' _ hx ⟨lo,m,Y,rfl,l1,l2,S⟩;dsimp only;by_cases z:lo<N
  ·refine L5 (yM hc S z) λc st' q=>?_;obtain⟨n,Y',n1,n2,m',rfl,m0,S'⟩:=q;exact⟨lo+n,m',Y',rfl,n2,by omega,S'⟩
  ·have:lo=N:=(by omega);subst this;unfold zy;rw[if_pos (Hi _)];exact L7 ⟨m,Y,rfl,S⟩
 ·rintro c st' ⟨lo,m,Y,rfl,l1,l2,S⟩
  have:lo=N:=by omega
  subst this;exact⟨m,Y,rfl,S⟩
 ·rintro c st' ⟨m,Y,rfl,S⟩;dsimp only;have S':=S;obtain⟨p',pd,g,Rs,rfl,hp',e,el,hR,em⟩:=S';have few:=qa hR;have m0:0<m:=by
   rcases Jk m with z|z
   ·rw[z,Jd]at em;subst em
    have:(0:Nat)=N:=el
    omega
   ·exact z
  refine L4 (yT hc S m0 `o λst' S'=>?_);obtain⟨p',pd,g,Rs,rfl,hp',e,el,hR,em⟩:=S'
  match Rs,em with
  |[L],_=>
   dsimp only;refine L7 (h p' pd g hp' λi j hij hj=>?_)
   match hpd:pd.toList,hR with
   |t::ts,hR=>
    have hL:=hR.2.2.2.1;have e:p'.toList=L++Y:=(by rw[e];simp);have ll:L.length=N:=(by simpa using el);show r _<=r _;rw[gD,gD,e,Hs `o,Hs `o];exact fT hL hij `o
   |[],hR=>exact hR.elim
end
end TG
namespace TG
open PySem PySem.Spec PyProof.Rows PySem.W L2
variable[aj]
section
variable{prog:KP}{w:KO}{A:KY}{E:aA}{s:KN}{κ:L8}{ks vs:aC}{r:Nat->Nat}
theorem yU(hl:ks.length=vs.length)(h1:1<=vs.length)(hr:bj (kas_ask prog w A κ ks) r vs.length s){Q:L3->bu}
  (hQ:∀p st',arrOf st'=p.map (Ma (ks.toArray.zip vs.toArray))->failedOf st'=none->PM vs.length p->Up r p vs.length->Q st' s):
  K2 `g A ((sortRuns').run (SortSt.mk' κ (ks.toArray.zip vs.toArray) #[] 7 none)) (λr s'=>Q r.2 s') E s:=by
 rw[kat_ask_eq hl]at hr;have e:=kas_range (ks.toArray.zip vs.toArray);rw[show(ks.toArray.zip vs.toArray).size=vs.length by simp[hl]]at e;have run:=pc (E:=E) (Q:=λ_ st'=>Q st' s) hr h1 (p:=List.toArray (List.range vs.length)) (Array.Perm.refl _) λp' pd g hp hu=>hQ p' _ rfl rfl hp hu;unfold wpS at run;have est:SortSt.mk' κ (ks.toArray.zip vs.toArray) #[] 7 none=Zs κ (ks.toArray.zip vs.toArray) #[] 7 (List.toArray (List.range vs.length)):=by
  show SortSt.mk' κ (ks.toArray.zip vs.toArray) #[] 7 none=SortSt.mk' κ ((List.toArray (List.range vs.length)).map (Ma (ks.toArray.zip vs.toArray))) #[] 7 none;rw[e]
 rw[est];refine K4 run (λr s' q=>?_) λ_ _ z=>z;obtain⟨rfl,q⟩:=q;exact q
end
end TG
namespace TG
open PySem PySem.Spec PyProof.Rows PySem.W L2
variable[aj]
section
variable{prog:KP}{w:KO}{A:KY}{E:aA}{s:KN}
theorem lR{a:KI}{vs:aC}{n:Nat}{P:PySem.Fin->bu}{κ:L8}{r:Nat->Nat}(ho:s.heap.get? a=some (seqObj "list" vs.toArray n))(h64:vs.length<1000)
  (hk:2<=vs.length->∀h':KR,(∀b o,b≠a->s.heap.get? b=some o->h'.get? b=some o)->∀(Q:L8->bu),Q κ {s with heap:=h'}->K2 `g A (keyKind' vs.toArray) Q E {s with heap:=h'})
  (hr:2<=vs.length->∀h':KR,(∀b o,b≠a->s.heap.get? b=some o->h'.get? b=some o)->bj (kas_ask prog w A κ vs) r vs.length {s with heap:=h'})
  (h:∀p:Array Nat,PM vs.length p->Up r p vs.length->P (.done (.ret .none)) {s with heap:=sortedHeap s.heap a vs (List.toArray (p.toList.map λi=>vs.getD i Value.none))}):
  K2 `g A (Builtin.«list.sort» ⟨[.ref a],[]⟩) P E s:=by
 rw[list_sort_plain];have ha:a<s.heap.objs.size:=Kc ho;refine Lc (listItems_at ho rfl ?_);refine Lc (Mh ho rfl ?_ (by rw[Hk,Lj];omega) (HP _));obtain⟨e1,ho1⟩:∃e1,(s.heap.update a (Obj.mapSeq λ_=>(#[]:dF))).get? a=some (seqObj "list" #[] e1):=⟨_,get?_update_seq ho (λ_=>#[])⟩
 refine Lc (seqEpoch_at ho1 rfl ?_);refine Lc (wpAny_newTuple ?_ (by show vs.length<=_;rw[Lj];omega));refine Lc (wpAny_newList ?_ (HP _));refine LA ?_;have ho6:(((s.heap.update a (Obj.mapSeq λ_=>(#[]:dF))).push (seqObj "tuple" vs.toArray 0)).push (seqObj "list" #[] 0)).get? a=some (seqObj "list" #[] e1):=by
  rw[Kk _ _ _ (by rw[size_push',Heap.size_update];exact G2 (HU ha)),Kk _ _ _ (by rw[Heap.size_update];exact G2 ha)];exact ho1
 have kept:∀b o,b≠a->s.heap.get? b=some o->(((s.heap.update a (Obj.mapSeq λ_=>(#[]:dF))).push (seqObj "tuple" vs.toArray 0)).push (seqObj "list" #[] 0)).get? b=some o:=λb o hb e=>
  Kf _ (Kf _ (by rw[Heap.get?_update_ne _ _ _ _ hb];exact e))
 show K2 `g A _ P E {s with heap:=((s.heap.update a (Obj.mapSeq λ_=>(#[]:dF))).push (seqObj "tuple" vs.toArray 0)).push (seqObj "list" #[] 0)};dsimp only;have hsz:vs.toArray.size=vs.length:=by simp
 by_cases h2:vs.toArray.size<2
 ·rw[if_pos h2,if_pos h2];refine Lc (Lb ?_);rw[StateT.run_pure];refine Lc (Lb ?_);dsimp only;refine Lc (seqEpoch_at ho6 rfl ?_);have hout:(arrOf (SortSt.mk' general' (vs.toArray.zip vs.toArray) #[] 7 none)).map (·.2)=List.toArray ((List.toArray (List.range vs.length)).toList.map λi=>vs.getD i Value.none):=by
   refine kat_snds rfl ?_;show vs.toArray.zip vs.toArray=_;have e:=kas_range (vs.toArray.zip vs.toArray);rw[show(vs.toArray.zip vs.toArray).size=vs.length by simp]at e;exact e.symm
  rw[hout];refine Lc (Mh ho6 rfl ?_ (HP _) (by rw[Hk,Hx,Lj];simp;omega));simp only[bne_self_eq_false,HS,if_false];refine Lb (h _ (Array.Perm.refl _) λi j hij hj=>?_)
  have:i=j:=by omega
  subst this;exact Hi _
 ·rw[if_neg h2,if_neg h2];have h2':2<=vs.length:=by omega
  refine Lc (hk h2' _ kept _ ?_);refine Lc (K4 (yU (Q:=λst' s'=>∃p:Array Nat,arrOf st'=p.map (Ma (vs.toArray.zip vs.toArray))/\failedOf st'=none/\PM vs.length p/\Up r p vs.length/\s'={s with heap:=((s.heap.update a (Obj.mapSeq λ_=>(#[]:dF))).push (seqObj "tuple" vs.toArray 0)).push (seqObj "list" #[] 0)})
   rfl `o (hr h2' _ kept) λp st' a1 a2 a3 a4=>⟨p,a1,a2,a3,a4,rfl⟩) ?_ λ_ _ e=>e)
  rintro⟨⟨⟩,st'⟩ s' ⟨p,har,hf,hp,hu,rfl⟩;dsimp only;refine Lc (seqEpoch_at ho6 rfl ?_);have hout:=kat_snds rfl har;rw[hout];refine Lc (Mh ho6 rfl ?_ (HP _) (by rw[Hk,Hx,Array.length_toList,hp.size,Lj];omega));rw[hf];simp only[bne_self_eq_false,HS,if_false];exact Lb (h p hp hu)
theorem kO{s0:KN}{src:KG}{vs:aC}{Q:aA}{κ:L8}{r:Nat->Nat}(h64:vs.length<1000)
  (hcol:∀(Q':aC->bu),(∀h' tk,(∀b o,s.heap.get? b=some o->h'.get? b=some o)->Q' vs {s with heap:=h',toks:=tk})->K2 `g A.in1 (collect src) Q' E s0)
  (hk:2<=vs.length->∀(h':KR)(tk:Nat),(∀b o,s.heap.get? b=some o->h'.get? b=some o)->∀(Q:L8->bu),Q κ {s with heap:=h',toks:=tk}->K2 `g A.in1.in1 (keyKind' vs.toArray) Q E {s with heap:=h',toks:=tk})
  (hr:2<=vs.length->∀(h':KR)(tk:Nat),(∀b o,s.heap.get? b=some o->h'.get? b=some o)->bj (kas_ask prog w A.in1.in1 κ vs) r vs.length {s with heap:=h',toks:=tk})
  (h:∀(p:Array Nat)(h1 h':KR)(l:KI)(e tk:Nat),PM vs.length p->Up r p vs.length->(∀b o,s.heap.get? b=some o->h1.get? b=some o)->(∀b o,h1.get? b=some o->h'.get? b=some o)->h1.objs.size<=l->h'.get? l=some (seqObj "list" (List.toArray (p.toList.map λi=>vs.getD i Value.none)) e)->Q (.ref l) {s with heap:=h',toks:=tk}):
  K2 `g A (call (.builtin "sorted") [src]) Q E s0:=by
 refine Calls.call_function_entry kind_sorted plain_sorted entry_sorted (args_sorted1 _) ?_;unfold Builtin.«sorted»;refine Lc (m:=checkCount "sorted" 1 1 _) (Lb ?_);refine Lc (hcol _ λh1 tk k1=>?_);refine Lc (wpAny_newList ?_ (by rw[Lj];omega));have hoL:(h1.push (seqObj "list" vs.toArray 0)).get? h1.objs.size=some (seqObj "list" vs.toArray 0):=Kg _ rfl;have k2:∀b o,s.heap.get? b=some o->(h1.push (seqObj "list" vs.toArray 0)).get? b=some o:=λb o e=>Kf _ (k1 b o e);have ne:∀b o,s.heap.get? b=some o->b≠h1.objs.size:=λb o e=>G2 (Kc (k1 b o e));refine Lc (LA (LD slot_list_sort ⟨_,hoL,rfl⟩ entry_list_sort (lR (s:={s with heap:=h1.push (seqObj "list" vs.toArray 0),toks:=tk}) (r:=r) (κ:=κ) hoL h64
  (λh2 h' k=>hk h2 h' tk λb o e=>k b o (ne b o e) (k2 b o e)) (λh2 h' k=>hr h2 h' tk λb o e=>k b o (ne b o e) (k2 b o e)) λp hp hu=>⟨_,rfl,?_⟩) (args_list_sort _)))
 refine Lb ⟨_,rfl,?_⟩;obtain⟨e,he⟩:=sortedHeap_at (vs:=vs) (out:=List.toArray (p.toList.map λi=>vs.getD i Value.none)) hoL;exact h p h1 _ h1.objs.size e tk hp hu k1 (λb o q=>by rw[sortedHeap_old (G2 (Kc q)) (by rw[size_push'];exact HU (Kc q))];exact Kf _ q) (Hi _) he
end
noncomputable def bf:D->List D
 |.tup ks=>ks
 |_=>[]
noncomputable def oneOf(d:D):List D:=[d]
noncomputable def qP(xs:List D):Prop:=xs.length<1000/\∃σ:bq,σ≠[]/\(∀x∈xs,∃k,x=.tup k/\Sh σ k)/\xs.Pairwise λx y=>bf x≠bf y
noncomputable def Gh(xs:List D):Prop:=xs.length<1000/\∃b:Bool,(∀x∈xs,Sh [b] [x])/\xs.Pairwise λx y=>oneOf x≠oneOf y
open Classical in
noncomputable def jY(xs:List D):aQ:=if qP xs then some (.lst (aM bf xs))else if Gh xs then some (.lst (aM oneOf xs))else none
noncomputable def dM:List D->aQ
 |[.lst xs]=>jY xs
 |[.tup xs]=>jY xs
 |_=>none
theorem qC{prog:KP}{w:KO}{A:KY}{s:KN}{Q:Bool->bu}{fin:Bool}(hf:fin=false){σ:bq}{ns ms:List D}{xs ys:aC}{i:Nat}(h1:Sh σ ns)(h2:Sh σ ms)(f1:cZ xs ns)(f2:cZ ys ms)(h:Q (kLt ns ms) s):KatLex prog w A true fin Q (xs.zip ys) i s:=by
 induction h1 generalizing ms xs ys i with
 |nil=>
  cases h2;cases f1;cases f2;subst hf;exact kat_nil (by simpa [kLt,b9]using h)
 |int a h1 ih=>
  cases h2 with|int c h2=>
  cases f1 with|int _ t f1=>
  cases f2 with|int _ u f2=>
  rw[Iz];obtain⟨e,he,hiff⟩:=AU A s a t c u;refine kat_cons (he prog w _ _ ?_);cases e with
  |true=>
   have ac:=hiff.mp rfl;refine kat_yes (ih h2 f1 f2 ?_);unfold kLt at h ⊢;rw[kQ,if_pos ac]at h;exact h
  |false=>
   have ac:¬a=c:=λq=>absurd (hiff.mpr q) Hg;have h':Q (decide (a<c)) s:=by
    unfold kLt at h;rw[kQ,if_neg ac]at h;cases hd:decide (a<c)<;>rw[hd]at h<;>exact h
   refine kat_no ?_;cases hi:(i==0)with
   |true=>exact oneLt_int h'
   |false=>exact kat_one _ _ (PySem.P.lt_int (show Kb Q (.bool _) s from h'))
 |str a h1 ih=>
  cases h2 with|str c h2=>
  cases f1 with|str _ t f1=>
  cases f2 with|str _ u f2=>
  rw[Iz];obtain⟨e,he,hiff⟩:=AG A s a t c u;refine kat_cons (he prog w _ _ ?_);cases e with
  |true=>
   have ac:=hiff.mp rfl;refine kat_yes (ih h2 f1 f2 ?_);unfold kLt at h ⊢;rw[kZ,if_pos ac]at h;exact h
  |false=>
   have ac:¬a=c:=λq=>absurd (hiff.mpr q) Hg;have h':Q (decide (a.cps.toList<c.cps.toList)) s:=by
    unfold kLt at h;rw[kZ,if_neg ac]at h;cases hd:decide (a.cps.toList<c.cps.toList)<;>rw[hd]at h<;>exact h
   refine kat_no ?_;cases hi:(i==0)with
   |true=>exact oneLt_str h'
   |false=>exact kat_one _ _ (PySem.P.lt_str (show Kb Q (.bool _) s from h'))
theorem lz{h:KR}{PT:KG->Prop}:∀{its:aC},(∀v∈its,∃a o xs n f,v=.ref a/\h.get? a=some o/\o.cls=.type "tuple"/\o.data=.seq xs n/\xs[0]?=some f/\PT f)->∃fs,KatTups h its fs/\fs.length=its.length/\∀f∈fs,PT f
 |[],_=>⟨[],.nil,rfl,λ_ h=>nomatch h⟩
 |v::its,hh=>by
  obtain⟨a,o,xs,n,f,rfl,h1,h2,h3,h4,h5⟩:=hh v G9;obtain⟨fs,k1,k2,k3⟩:=lz (its:=its) λu hu=>hh u (Ha _ hu);refine⟨f::fs,.cons h1 h2 h3 h4 k1,by rw[HK,HK,k2],λg hg=>?_⟩;rcases List.mem_cons.mp hg with rfl|z
  ·exact h5
  ·exact k3 g z
theorem cZ.first{σ:bq}{b:Bool}{xs:aC}{ns:List D}(f:cZ xs ns)(h:Sh (b::σ) ns):∃v,xs[0]?=some v/\typeOf v=pure (.type (if b then"int"else"str")):=by
 cases f with
 |nil=>cases h
 |int i t f=>cases h;exact⟨_,rfl,rfl⟩
 |str i t f=>cases h;exact⟨_,rfl,rfl⟩
theorem qG{key:D->List D}{σ:bq}{ds:List D}(h:∀x∈ds,Sh σ (key x))(pw:ds.Pairwise λx y=>key x≠key y){p:Array Nat}(hp:PM ds.length p)(hu:Up (rank (ds.map key)) p ds.length):p.toList.map (λi=>ds.getD i .non)=aM key ds:=by
 have hr:p.toList.Perm (List.range ds.length):=by
  have:=Array.perm_iff_toList_perm.mp hp
  simpa using this
 have hmap:(List.range ds.length).map (λi=>ds.getD i .non)=ds:=by
  apply List.ext_getElem
  ·simp
  ·intro i h1 h2;simp at h1;simp[h1]
 have hperm:(p.toList.map λi=>ds.getD i .non).Perm ds:=by
  have:=hr.map (λi=>ds.getD i .non)
  rwa [hmap]at this
 have hn:p.toList.Nodup:=hr.nodup_iff.mpr Jm;refine(lu h pw ?_ hperm).symm;have hl:p.toList.length=ds.length:=by rw[hr.length_eq,Il]
 have kd:∀i,i<ds.length->(ds.map key).getD i []=key (ds.getD i .non):=λi hi=>by simp[hi]
 have hsh:∀k∈ds.map key,Sh σ k:=λk hk=>by
  obtain⟨x,hx,rfl⟩:=List.mem_map.mp hk;exact h x hx
 unfold qJ;rw[Jo,List.pairwise_iff_getElem];intro i j hi hj hij;have hi':p.toList[i]<ds.length:=by simpa using hr.mem_iff.mp (IH hi)
 have hj':p.toList[j]<ds.length:=by simpa using hr.mem_iff.mp (IH hj)
 have ne:p.toList[i]≠p.toList[j]:=List.pairwise_iff_getElem.mp hn i j hi hj hij;have up:=hu i j `o `o;have gi:p.getD i 0=p.toList[i]:=by
  have:i<p.size:=by rw[<-Array.length_toList];exact hi
  simp[Array.getD,this]
 have gj:p.getD j 0=p.toList[j]:=by
  have:j<p.size:=by rw[<-Array.length_toList];exact hj
  simp[Array.getD,this]
 unfold Rk at up;rw[gi,gj]at up;have rl:=oo hsh (i:=p.toList[j]) (j:=p.toList[i]) (by rw[Hx];exact hj') (by rw[Hx];exact hi');rw[kd _ hj',kd _ hi',decide_eq_false `o]at rl;have ei:ds.getD p.toList[i] .non=ds[p.toList[i]]:=by rw[Jp,Ia hi'];rfl
 have ej:ds.getD p.toList[j] .non=ds[p.toList[j]]:=by rw[Jp,Ia hj'];rfl
 have s1:=h _ (show ds.getD p.toList[i] .non∈ds by rw[ei];exact IH hi');have s2:=h _ (show ds.getD p.toList[j] .non∈ds by rw[ej];exact IH hj');rcases ky s1 s2 with⟨z,_⟩|z|⟨z,_⟩
 ·exact z
 ·exfalso;have pw':=List.pairwise_iff_getElem.mp pw;rw[ei,ej]at z;rcases Nat.lt_or_gt_of_ne ne with q|q
  ·exact pw' _ _ hi' hj' q z
  ·exact pw' _ _ hj' hi' q z.symm
 ·rw[yz.mpr z]at rl;cases rl
theorem nA{vs:az}{us:aC}(r:Vals vs us):∀l:aP,(∀i∈l,i<vs.length)->Vals (l.map λi=>vs.getD i .non) (l.map λi=>us.getD i Value.none)
 |[],_=>.nil
 |i::l,h=>by
  have hi:=h i G9;obtain⟨u,e,q⟩:=r.get (i:=i) (x:=vs[i]) (by simp[hi]);refine .cons ?_ (nA r l λj hj=>h j (Ha _ hj));have e1:vs.getD i .non=vs[i]:=by simp[hi]
  have e2:us.getD i Value.none=u:=by simp[Jp,e]
  show L2.RelV (vs.getD i .non) (us.getD i Value.none);rw[e1,e2];exact q
theorem mx{K:J1}{H:Hp}{ds:List D}{vs:az}(g:av K H ds vs):∀l:aP,(∀i∈l,i<ds.length)->av K H (l.map λi=>ds.getD i .non) (l.map λi=>vs.getD i .non)
 |[],_=>bB.mpr rfl
 |i::l,h=>by
  have hi:=h i G9;obtain⟨v,e,q⟩:=g.get (i:=i) (d:=ds[i]) (by simp[hi]);refine aI.mpr ⟨_,_,rfl,?_,mx g l λj hj=>h j (Ha _ hj)⟩;have e1:ds.getD i .non=ds[i]:=by simp[hi]
  have e2:vs.getD i .non=v:=by simp[Jp,e]
  show bH K H (ds.getD i .non) (vs.getD i .non);rw[e1,e2];exact q
section
variable{X:Cx}{pins:aH}{s:KN}{σ:L2.St}{H:Hp}{O:ah}
theorem jg{s0:KN}{u:KG}{ds:List D}{vs:az}{its:aC}{d:D}{Q:VK}(I:`h)(hO:bL H O)(dn:av X.K (hid H O) ds vs)(rv:Vals vs its)(hs:jY ds=some d)
  (hcol:∀(Q':aC->bu),(∀h' tk,(∀b o,s.heap.get? b=some o->h'.get? b=some o)->Q' its {s with heap:=h',toks:=tk})->K2 `i X.A.in1 (collect u) Q' X.xe s0)
  (q:∀v H',aD H H'->bH X.K (hid H' O) d v->Q v H'):K2 `i X.A (call (.builtin "sorted") [u]) (EP X pins σ Q) X.xe s0:=by
 have l1:=dn.length;have l2:=rv.length;have fin:∀(key:D->List D)(σ':bq),(∀x∈ds,Sh σ' (key x))->ds.Pairwise (λx y=>key x≠key y)->ds.length<1000->d=.lst (aM key ds)->∀(p:Array Nat)(h1 h':KR)(l:KI)(e tk:Nat),PM its.length p->Up (rank (ds.map key)) p its.length->(∀b o,s.heap.get? b=some o->h1.get? b=some o)->(∀b o,h1.get? b=some o->h'.get? b=some o)->h1.objs.size<=l->
   h'.get? l=some (seqObj "list" (List.toArray (p.toList.map λi=>its.getD i Value.none)) e)->EP X pins σ Q (.ref l) {s with heap:=h',toks:=tk}:=by
  intro key σ' hsh pw h64 ed p h1 h' l e tk hp hu k1 k2 hl he;have el:its.length=ds.length:=by omega
  rw[el]at hp hu;have ps:=qG hsh pw hp hu;have hr:p.toList.Perm (List.range ds.length):=by
   have:=Array.perm_iff_toList_perm.mp hp
   simpa using this
  have hlt:∀i∈p.toList,i<ds.length:=λi hi=>by simpa using hr.mem_iff.mp hi
  have I1:Inv X pins σ H {s with heap:=h1,toks:=tk}:=I.kept k1;have hn:H l=none:=I1.hok.fresh hl;have rv':=nA rv p.toList λi hi=>by have:=hlt i hi;omega
  have dn':=mx dn p.toList hlt;have hlen:p.toList.length=ds.length:=by rw[hr.length_eq,Il]
  refine⟨.ref l,_,Inv.laid (s:={s with heap:=h1,toks:=tk}) (t':=tk) I1 k2 hl (show bC X.prog X.w _ h' _ (.lst (p.toList.map λi=>vs.getD i .non))from⟨by rw[Hx,hlen,Lj];omega,_,e,rv',he⟩),rfl,?_⟩;refine q _ _ (bh hn _) ?_;rw[ed,<-ps];exact cY hO hn dn'
 unfold jY at hs;split at hs
 ·rename_i h;cases hs;obtain⟨h64,σ',hσ,hsh,pw⟩:=h;obtain⟨b,σ1,rfl⟩:∃b σ1,σ'=b::σ1:=by
   cases σ' with
   |nil=>exact absurd rfl hσ
   |cons b σ1=>exact⟨b,σ1,rfl⟩
  have hsh':∀x∈ds,Sh (b::σ1) (bf x):=λx hx=>by
   obtain⟨k,rfl,hk⟩:=hsh x hx;exact hk
  have at':∀i (hi:i<ds.length),∃a o xs n,its[i]?=some (.ref a)/\s.heap.get? a=some o/\o.cls=.type "tuple"/\o.data=.seq xs n/\cZ xs.toList (bf ds[i]):=λi hi=>by
   obtain⟨v,e1,dv⟩:=dn.get (i:=i) (d:=ds[i]) (by simp[hi]);obtain⟨w,e2,rw'⟩:=rv.get e1;obtain⟨k,ek,hk⟩:=hsh _ (IH hi);rw[ek]at dv ⊢;obtain⟨a,ws,rfl,ha,dk⟩:=bm.mp dv;cases rw';obtain⟨it2,r2,⟨o,ho,hc,n,hd⟩,_⟩:=I.tuple (aX (ai H O) ha);exact⟨a,o,_,n,e2,ho,hc,hd,by simpa [bf]using gh (oR hk) dk r2⟩
  refine kO (κ:=tuples' true) (r:=rank (ds.map bf)) `o hcol (λh2 h' tk kp Q' hQ=>?_) (λh2 h' tk kp i j C hi hj hC=>?_) (fin bf _ hsh' pw h64 rfl)
  ·obtain⟨fs,t1,t2,t3⟩:=lz (h:=h') (PT:=λf=>typeOf f=pure (.type (if b then"int"else"str"))) (its:=its) λv hv=>by
    obtain⟨i,hi,rfl⟩:=IM hv;obtain⟨a,o,xs,n,e1,ho,hc,hd,ff⟩:=at' i `o;obtain⟨f,ef,tf⟩:=ff.first (hsh' _ (IH _));refine⟨a,o,xs,n,f,?_,kp _ _ ho,hc,hd,by simpa using ef,tf⟩
    have:=Ia hi
    rw[e1]at this;exact(Option.some.inj this).symm
   refine kat_kind (T:=.type (if b then"int"else"str")) t1 `o (λf hf=>Looks.of_pure (t3 f hf)) (by cases b<;>rfl) ?_
   have:(Value.type (if b then"int"else"str") !=Value.type "tuple")=true:=(by cases b<;>rfl);rw[this];exact hQ
  ·obtain⟨a,o,xs,n,e1,ho,hc,hd,ff⟩:=at' i `o;obtain⟨a2,o2,xs2,n2,e2,ho2,hc2,hd2,ff2⟩:=at' j `o;unfold kas_ask;have g1:its.getD i Value.none=.ref a:=(by simp[Jp,e1]);have g2:its.getD j Value.none=.ref a2:=(by simp[Jp,e2]);rw[g1,g2];have hi':i<ds.length:=(by omega);have hj':j<ds.length:=(by omega);have sh1:=hsh' _ (IH hi');have sh2:=hsh' _ (IH hj');have rl:=oo (ks:=ds.map bf) (σ:=b::σ1) (λk hk=>by obtain⟨x,hx,rfl⟩:=List.mem_map.mp hk;exact hsh' x hx) (i:=i) (j:=j) (by rw[Hx];exact hi') (by rw[Hx];exact hj');have k1:(ds.map bf).getD i []=bf ds[i]:=(by simp[hi']);have k2:(ds.map bf).getD j []=bf ds[j]:=(by simp[hj']);rw[k1,k2]at rl;rw[rl]at hC;refine kat_lt (kp _ _ ho) hd (kp _ _ ho2) hd2 (qC ?_ sh1 sh2 ff ff2 hC);have z1:xs.size=(bf ds[i]).length:=(by have:=ff.length;simpa using this);have z2:xs2.size=(bf ds[j]).length:=(by have:=ff2.length;simpa using this);have z3:(bf ds[i]).length=(bf ds[j]).length:=(by rw[Sh.length sh1,Sh.length sh2]);exact decide_eq_false `o
 ·split at hs
  ·rename_i _ h;cases hs;obtain⟨h64,b,hsh,pw⟩:=h;have at':∀i (hi:i<ds.length),(∃(n:Int)(t:Tok),b=true/\its[i]?=some (.int n t)/\ds[i]=.int n)\/∃(x:Str)(t:Tok),b=false/\its[i]?=some (.str x t)/\ds[i]=.str x:=λi hi=>by
    obtain⟨v,e1,dv⟩:=dn.get (i:=i) (d:=ds[i]) (by simp[hi]);obtain⟨w,e2,rw'⟩:=rv.get e1;have hk:=hsh _ (IH hi);generalize ds[i]=di at dv hk;cases hk with
    |int n _=>
     rw[cX]at dv;subst dv;obtain⟨t,rfl⟩:=rw';exact .inl ⟨n,t,rfl,e2,rfl⟩
    |str x _=>
     rw[cA]at dv;subst dv;obtain⟨t,rfl⟩:=rw';exact .inr ⟨x,t,rfl,e2,rfl⟩
   refine kO (κ:=oneType') (r:=rank (ds.map oneOf)) `o hcol (λh2 h' tk kp Q' hQ=>?_) (λh2 h' tk kp i j C hi hj hC=>?_) (fin oneOf [b] hsh pw h64 rfl)
   ·refine kas_kind (T:=.type (if b then"int"else"str")) h2 (λv hv=>?_) (by cases b<;>rfl) (by cases b<;>rfl) hQ;obtain⟨i,hi,rfl⟩:=IM hv;have hg:=Ia hi;rcases at' i `o with⟨n,t,rfl,e,_⟩|⟨x,t,rfl,e,_⟩
    ·rw[hg]at e;rw[Option.some.inj e];exact Looks.of_pure rfl
    ·rw[hg]at e;rw[Option.some.inj e];exact Looks.of_pure rfl
   ·have hi':i<ds.length:=(by omega);have hj':j<ds.length:=(by omega);unfold kas_ask;have rl:=oo (ks:=ds.map oneOf) (σ:=[b]) (λk hk=>by obtain⟨x,hx,rfl⟩:=List.mem_map.mp hk;exact hsh x hx) (i:=i) (j:=j) (by rw[Hx];exact hi') (by rw[Hx];exact hj');have k1:(ds.map oneOf).getD i []=[ds[i]]:=(by simp[hi',oneOf]);have k2:(ds.map oneOf).getD j []=[ds[j]]:=(by simp[hj',oneOf]);rw[k1,k2]at rl;rw[rl]at hC;rcases at' i hi' with⟨n,t,hb,e1,q1⟩|⟨x,t,hb,e1,q1⟩
    ·rcases at' j hj' with⟨n2,t2,hb2,e2,q2⟩|⟨x2,t2,hb2,e2,q2⟩
     ·have g1:its.getD i Value.none=.int n t:=(by simp[Jp,e1]);have g2:its.getD j Value.none=.int n2 t2:=(by simp[Jp,e2]);rw[g1,g2,keyLt'_oneType];refine oneLt_int ?_;rw[q1,q2]at hC;unfold kLt at hC;rw[kQ]at hC;by_cases z:n=n2
      ·rw[if_pos z]at hC;rw[decide_eq_false `o];exact hC
      ·rw[if_neg z]at hC;cases hd:decide (n<n2)<;>rw[hd]at hC<;>exact hC
     ·rw[hb]at hb2;cases hb2
    ·rcases at' j hj' with⟨n2,t2,hb2,e2,q2⟩|⟨x2,t2,hb2,e2,q2⟩
     ·rw[hb]at hb2;cases hb2
     ·have g1:its.getD i Value.none=.str x t:=(by simp[Jp,e1]);have g2:its.getD j Value.none=.str x2 t2:=(by simp[Jp,e2]);rw[g1,g2,keyLt'_oneType];refine oneLt_str ?_;rw[q1,q2]at hC;unfold kLt at hC;rw[kZ]at hC;by_cases z:x=x2
      ·rw[if_pos z]at hC;rw[decide_eq_false (by rw[z];exact kJ _)];exact hC
      ·rw[if_neg z]at hC;cases hd:decide (x.cps.toList<x2.cps.toList)<;>rw[hd]at hC<;>exact hC
  ·cases hs
theorem oS:dL X (.builtin "sorted") (AJ X.K dM):=by
 rintro pins s σ H xs us Q I r ⟨O,ds,d,hO,hd,hg,q⟩;unfold dM at hg;split at hg
 ·obtain⟨v,rfl,h1⟩:=hd.one;obtain⟨p,ws,rfl,g1,g2⟩:=bn.mp h1;obtain⟨u,rfl,ru⟩:=vals1 r;cases ru;obtain⟨its,rv,pl,hz⟩:=I.list ((ai H O).seq g1);have hlen:=rv.length;obtain⟨o,ho,hc,n,hd'⟩:=pl.isList;exact jg I hO g2 rv hg (λQ' hQ=>wpAny_collect_seq p (.inl rfl) ho hc hd' (λh' k=>by simpa using hQ h' s.toks k) (by simp only[Hk]<;>omega)) q
 ·obtain⟨v,rfl,h1⟩:=hd.one;obtain⟨p,ws,rfl,g1,g2⟩:=bm.mp h1;obtain⟨u,rfl,ru⟩:=vals1 r;cases ru;obtain⟨its,rv,⟨o,ho,hc,n,hd'⟩,hz⟩:=I.tuple (aX (ai H O) g1);have hlen:=rv.length;exact jg I hO g2 rv hg (λQ' hQ=>wpAny_collect_seq p (.inr rfl) ho hc hd' (λh' k=>by simpa using hQ h' s.toks k) (by simp only[Hk]<;>omega)) q
 ·cases hg
end
end TG
namespace TG
open PySem PySem.Spec L2
variable[aj]
section
variable{X:Cx}{tg:KJ}
end
end TG
namespace TG
open PySem PySem.Spec L2
variable[aj]
end TG
namespace TG
open PySem PySem.Spec L2
variable[aj]
end TG
namespace TG
open PySem PySem.Spec L2
variable[aj]
noncomputable def keyOf:D->Option Key
 |.int i=>some (.inl i)
 |.str x=>some (.inr x)
 |_=>none
noncomputable def keysOf:List D->Option (ay)
 |[]=>some []
 |d::r=>(keyOf d).bind λk=>(keysOf r).map (k::·)
noncomputable def cG:D->Option (ay)
 |.tup ds=>keysOf ds
 |_=>none
theorem wD{d:D}{k:Key}(h:keyOf d=some k):d=ax k:=by
 cases d with
 |int i=>cases h;rfl
 |str x=>cases h;rfl
 |_=>cases h
theorem nG:∀{ds:List D}{ks:ay},keysOf ds=some ks->ds=ks.map ax
 |[],_,h=>by cases h;rfl
 |d::r,ks,h=>by
  unfold keysOf at h;cases e1:keyOf d with
  |none=>rw[e1]at h;cases h
  |some k=>
   rw[e1]at h;cases e2:keysOf r with
   |none=>rw[e2]at h;cases h
   |some ks'=>rw[e2]at h;cases h;rw[wD e1,nG e2];rfl
theorem dN{d:D}{k:ay}(h:cG d=some k):d=.tup (k.map ax):=by
 cases d with
 |tup ds=>rw[nG (show keysOf ds=some k from h)]
 |_=>cases h
theorem bV:∀ks:ay,keysOf (ks.map ax)=some ks
 |[]=>rfl
 |k::r=>by
  show(keyOf (ax k)).bind _=_;have e:keyOf (ax k)=some k:=by cases k<;>rfl
  rw[e];show(keysOf (r.map ax)).map (k::·)=_;rw[bV r];rfl
theorem v8{K:J1}{H:Hp}{k:Key}{v:V}(h:bH K H (ax k) v):v=kV k:=by
 cases k with
 |inl i=>exact cX.mp h
 |inr x=>exact cA.mp h
theorem cw{K:J1}{H:Hp}:∀{ks:ay}{vs:az},av K H (ks.map ax) vs->vs=ks.map kV
 |[],vs,h=>by rw[HE,bB]at h;exact h
 |k::r,vs,h=>by
  rw[HF,aI]at h;obtain⟨v,r',e1,h1,h2⟩:=h;rw[e1,v8 h1,cw h2];rfl
section
variable{P:KP}{w:KO}{H H':Hp}{h:KR}{a:KI}
theorem xU(x:bC P w H h a (.dK [])):bC P w H' h a (.dT []):=by
 obtain⟨z,hd,vs,rel,o,es,ep,h1,h2,h3,h4,h5,h6⟩:=x;have e:vs=[]:=by have:=rel.length;simpa using this.symm
 subst e;refine⟨HP _,hd,[],.nil,o,es,ep,h1,h2,h3,?_,by simp⟩
 have:=h5.length
 simpa using this
theorem vY(x:bC P w H h a (.dT [])):bC P w H' h a (.dK []):=by
 obtain⟨z,hd,xs,rel,o,es,ep,h1,h2,h3,h4,h5⟩:=x;have e:xs=[]:=by have:=rel.length;simpa using this.symm
 subst e;have e2:es=#[]:=by simpa using h4
 subst e2;exact⟨HP _,hd,[],.nil,o,#[],ep,h1,h2,h3,λe he=>by simp at he,.nil,by simp⟩
end
section
variable{X:Cx}{pins:aH}{σ:St}{H:Hp}{s:KN}{a:KI}
theorem uq(I:`h)(h1:H a=some (.dK [])):Inv X pins σ (upd H a (.dT [])) s:=by
 have hx:=I.hok a _ h1;have hq:∃q,s.heap.get? a=some q:=by obtain⟨_,_,_,_,o,_,_,e,_⟩:=id hx;exact⟨o,e⟩
 exact gH (ob:=.dT []) (h':=s.heap) (t':=s.toks) I (by rw[h1];exact trivial) ⟨rfl,λ_ _=>rfl⟩ hq (xU hx)
theorem Dv(I:`h)(h1:H a=some (.dT [])):Inv X pins σ (upd H a (.dK [])) s:=by
 have hx:=I.hok a _ h1;have hq:∃q,s.heap.get? a=some q:=by obtain⟨_,_,_,_,o,_,_,e,_⟩:=id hx;exact⟨o,e⟩
 exact gH (ob:=.dK []) (h':=s.heap) (t':=s.toks) I (by rw[h1];exact trivial) ⟨rfl,λ_ _=>rfl⟩ hq (vY hx)
end
theorem pH{H:Hp}{a:KI}{o1 o2:HO}(h:H a=some o1):upd (upd H a o2) a o1=H:=by
 funext b;by_cases e:b=a
 ·subst e;rw[ao,h]
 ·rw[aq e,aq e]
noncomputable def fE:List D->List D->Option (bo)
 |[],[]=>some []
 |k::ks,d::ds=>(cG k).bind λk=>(fE ks ds).map ((k,d)::·)
 |_,_=>none
noncomputable abbrev encK(al:bo):List D:=al.map λp=>.tup (p.1.map ax)
noncomputable abbrev aT(al:bo):D:=.dct (encK al) (al.map (·.2))
theorem fJ:∀{ks ds:List D}{al:bo},fE ks ds=some al->ks=encK al/\ds=al.map (·.2)
 |[],[],_,h=>by cases h;exact⟨rfl,rfl⟩
 |k::ks,d::ds,al,h=>by
  unfold fE at h;cases e1:cG k with
  |none=>rw[e1]at h;cases h
  |some k'=>
   rw[e1]at h;cases e2:fE ks ds with
   |none=>rw[e2]at h;cases h
   |some al'=>
    rw[e2]at h;cases h;obtain⟨h1,h2⟩:=fJ e2;rw[dN e1,h1,h2];exact⟨rfl,rfl⟩
 |[],_::_,_,h=>by cases h
 |_::_,[],_,h=>by cases h
theorem dD:∀al:bo,fE (encK al) (al.map (·.2))=some al
 |[]=>rfl
 |p::r=>by
  show(cG (.tup (p.1.map ax))).bind _=_;have e:cG (.tup (p.1.map ax))=some p.1:=bV p.1;rw[e];show(fE (encK r) (r.map (·.2))).map ((p.1,p.2)::·)=_;rw[dD r];rfl
theorem iW:∀{al:bo}{ks:List ay},encK al=ks.map (λk=>.tup (k.map ax))->al.map (·.1)=ks
 |[],[],_=>rfl
 |p::r,k::ks,h=>by
  have h:D.tup (p.1.map ax)::encK r=D.tup (k.map ax)::ks.map (λk=>.tup (k.map ax)):=h;injection h with h1 h2;injection h1 with h1;have e:some p.1=some k:=by rw[<-bV p.1,h1,bV k]
  rw[HF,Option.some.inj e,iW h2]
 |[],_::_,h=>by cases h
 |_::_,[],h=>by cases h
theorem zQ{K:J1}{H:Hp}{O:ah}{a:KI}{al:bo}(h:bS K H O a (aT al)):
  (∃kvs:List (List Key×V),H a=some (.dT kvs)/\kvs.map (·.1)=al.map (·.1)/\av K (hid H O) (al.map (·.2)) (kvs.map (·.2)))\/(H a=some (.dK [])/\al=[]):=by
 obtain⟨o,vs,h1,h2,h3⟩:=h;rcases h3 with⟨kvs,e,e1,e2⟩|⟨kvs,e,e1,e2⟩
 ·subst e;cases kvs with
  |nil=>
   refine .inr ⟨h1,?_⟩
   simpa using e1
  |cons p r=>
   cases al with
   |nil=>cases e1
   |cons q r'=>
    have e1:D.tup (q.1.map ax)::encK r'=ax p.1::r.map (λp=>ax p.1):=e1;injection e1 with e1 _;rcases p with⟨k,v⟩
    cases k<;>cases e1
 ·subst e;refine .inl ⟨kvs,h1,?_,by rw[<-e2];exact h2⟩;exact(iW (ks:=kvs.map (·.1)) (by rw[Jq];exact e1)).symm
theorem vT{kvs:List (List Key×V)}{ks:List ay}(e:kvs.map (·.1)=ks)(k:ay):(eA kvs k).isSome=ks.any λq=>decide (q=k):=by
 subst e
 induction kvs with
 |nil=>rfl
 |cons p r ih=>
  rw[HF,HJ,<-ih];by_cases e:p.1=k
  ·rw[gl e];simp[e]
  ·rw[gA e];simp[e]
noncomputable def cQ(al:bo)(k:ay)(v:D):bo:=if(al.any λp=>decide (p.1=k))=true then al.map (λp=>if p.1=k then(p.1,v)else p)else al++[(k,v)]
noncomputable def k6(ks ds:List D)(k v:D):Option (bo):=(fE ks ds).bind λal=>(cG k).bind λk=>if small al.length then some (cQ al k v)else none
theorem qZ{ks ds:List D}{k v:D}{al':bo}(h:k6 ks ds k v=some al'):∃al q,ks=encK al/\ds=al.map (·.2)/\k=.tup (q.map ax)/\small al.length=true/\al'=cQ al q v:=by
 unfold k6 at h;cases e1:fE ks ds with
 |none=>rw[e1]at h;cases h
 |some al=>
  rw[e1]at h;cases e2:cG k with
  |none=>rw[e2]at h;cases h
  |some q=>
   rw[e2]at h;obtain⟨h3,h4⟩:=aV (show(if small al.length then some (cQ al q v)else none)=some al' from h);obtain⟨h1,h2⟩:=fJ e1;exact⟨al,q,h1,h2,dN e2,h3,h4.symm⟩
theorem p0{kvs:List (List Key×V)}{al:bo}(e:kvs.map (·.1)=al.map (·.1))(k:ay)(w:V)(d:D):(putK kvs k w).map (·.1)=(cQ al k d).map (·.1):=by
 have e2:(kvs.any λp=>decide (p.1=k))=(al.any λp=>decide (p.1=k)):=by
  have:=congrArg (λl=>l.any λq=>decide (q=k)) e
  simpa [Jr,Function.comp_def]using this
 unfold putK cQ;rw[e2];split
 ·have e3:∀(l:List (List Key×V)),(l.map λkv=>if kv.1=k then(kv.1,w)else kv).map (·.1)=l.map (·.1):=λl=>by
   rw[Jq];refine Ii λp _=>?_;show(if p.1=k then(p.1,w)else p).1=p.1;split<;>rfl
  have e4:∀(l:bo),(l.map λkv=>if kv.1=k then(kv.1,d)else kv).map (·.1)=l.map (·.1):=λl=>by
   rw[Jq];refine Ii λp _=>?_;show(if p.1=k then(p.1,d)else p).1=p.1;split<;>rfl
  rw[e3,e4,e]
 ·rw[Ij,Ij,e];rfl
theorem qy{K:J1}{H:Hp}{k:ay}{w:V}{d:D}(hw:bH K H d w):∀{kvs:List (List Key×V)}{al:bo},kvs.map (·.1)=al.map (·.1)->av K H (al.map (·.2)) (kvs.map (·.2))->
  av K H ((al.map λp=>if p.1=k then(p.1,d)else p).map (·.2)) ((kvs.map λp=>if p.1=k then(p.1,w)else p).map (·.2))
 |[],[],_,h=>h
 |p::r,q::r',e,h=>by
  rw[HF,HF]at e;injection e with e1 e2;rw[HF,HF,aI]at h;obtain⟨v,ws,h0,h1,h2⟩:=h;injection h0 with h0 h0';subst h0 h0';have ih:=qy (k:=k) hw e2 h2;rw[HF,HF,HF,HF,aI];refine⟨_,_,rfl,?_,ih⟩;rw[e1];split
  ·exact hw
  ·exact h1
 |[],_::_,e,_=>by cases e
 |_::_,[],e,_=>by cases e
theorem sX{K:J1}{H:Hp}{k:ay}{w:V}{d:D}(hw:bH K H d w){kvs:List (List Key×V)}{al:bo}(e:kvs.map (·.1)=al.map (·.1))(h:av K H (al.map (·.2)) (kvs.map (·.2))):
  av K H ((cQ al k d).map (·.2)) ((putK kvs k w).map (·.2)):=by
 have e2:(kvs.any λp=>decide (p.1=k))=(al.any λp=>decide (p.1=k)):=by
  have:=congrArg (λl=>l.any λq=>decide (q=k)) e
  simpa [Jr,Function.comp_def]using this
 unfold putK cQ;rw[e2];split
 ·exact qy hw e h
 ·rw[Ij,Ij];exact h.append (aI.mpr ⟨w,[],rfl,hw,bB.mpr rfl⟩)
theorem lF{kvs:List (List Key×V)}{al:bo}(e:kvs.map (·.1)=al.map (·.1)):encK al=kvs.map λp=>D.tup (p.1.map ax):=by
 have:=congrArg (List.map λk:ay=>D.tup (k.map ax)) e
 rw[Jq,Jq]at this;exact this.symm
theorem k7{H:Hp}{a:KI}{o1 o2:HO}:upd (upd H a o1) a o2=upd H a o2:=by
 funext b;by_cases e:b=a
 ·subst e;rw[ao,ao]
 ·rw[aq e,aq e,aq e]
noncomputable def Bg(td ty tv:TE):TS:=λD σ H=>tv σ H λv H1=>td σ H1 λx H2=>ty σ H2 λy H3=>∃a k b kvs,x=.ref a/\y=.ref b/\H3 b=some (.tup (k.map kV))/\(H3 a=some (.dT kvs)\/(H3 a=some (.dK [])/\kvs=[]))/\kvs.length<KS/\D.nx σ (upd H3 a (.dT (putK kvs k v)))
section
variable{X:Cx}{o idx value:KJ}{pos pos':Pos}{td ty tv:TE}
theorem wF(hu:X.A.units+1<Ln)(ho:PE X o td)(hi:PE X idx ty)(hv:PE X value tv)(hs:swapsWith value (some (.Subscript o idx pos')) pos.line X.env=pure false):PS X (.Assign [.Subscript o idx pos'] value pos) (Bg td ty tv):=by
 intro pins s σ H D I h;refine wpAny_Assign_Subscript (cc (hv pins s σ H _ I h) λr s1 zq=>zq.elim λv zq=>zq.elim λH1 zq=>zq.elim λI1 zq=>zq.elim λrv q1=>cc (ho pins s1 σ H1 _ I1 q1) λu s2 zq=>zq.elim λx zq=>zq.elim λH2 zq=>zq.elim λI2 zq=>zq.elim λrx q2=>cc (hi pins s2 σ H2 _ I2 q2) λiv s3 h3=>?_) hs;obtain⟨y,H3,I3,ry,a,k,b,kvs,ex,ey,hb,ha,hl,q3⟩:=h3;subst ex ey;obtain rfl:u=Value.ref a:=rx;rcases ha with ha|⟨ha,rfl⟩
 ·exact mE hu I3 (DQ.t ha hb hl) ry rv λs4 I4=>⟨σ,_,I4,q3⟩
 ·have ne:b≠a:=λz=>by rw[z,ha]at hb;cases hb
  refine mE hu (uq I3 ha) (DQ.t ao (by rw[aq ne];exact hb) hl) ry rv λs4 I4=>⟨σ,_,I4,?_⟩
  rw[k7];exact q3
end
end TG
namespace TG
open PySem PySem.Spec L2
variable[aj]
end TG
namespace TG
open PySem PySem.Spec PySem.W PySem.Calls PyProof.Rows Builtin Builtin.ObjectAttr Builtin.Getset_descriptor
variable[aj]
end TG
namespace TG
open PySem PySem.Spec PySem.W PySem.Calls PyProof.Rows Builtin Builtin.ObjectAttr Builtin.Getset_descriptor
end TG
namespace TG
open PySem PySem.Spec L2
variable[aj]
open PyProof.Rows (AllBare OwnCls)
end TG
namespace TG
open PySem PySem.Spec L2
variable[aj]
end TG
namespace TG
open PySem PySem.Spec L2
variable[aj]
end TG
namespace TG
open PySem PySem.Spec L2
variable[aj]
end TG
namespace TG
open PySem PySem.Spec L2
open PySem PySem.Spec PyProof.Rows PySem.W L2
variable[aj]
end TG
namespace TG
open PySem PySem.Spec PyProof.Rows PySem.W L2
variable[aj]
end TG
namespace TG
open PySem PySem.Spec PyProof.Rows PySem.W L2
variable[aj]
theorem iL:KW "sorted"=some (.builtin "sorted"):=by first|rfl|decide +kernel
end TG
namespace TG
open PySem PySem.Spec PyProof.Rows PySem.W L2
end TG
namespace TG
open PySem PySem.Spec PySem.Calls L2
open PySem.SeqAt (EqAt list_indexAt)
variable[aj]
section
variable{X:Cx}{p pos:Pos}{e:KJ}
end
end TG
namespace TG
open PySem PySem.Spec L2
variable[aj]
end TG
namespace TG
open PySem PySem.Spec PySem.Calls L2
open PySem.SeqAt (EqAt list_countAt)
variable[aj]
end TG
namespace TG
open PySem PySem.Spec L2
variable[aj]
end TG
namespace TG
open PySem PySem.Spec PySem.Calls L2
variable[aj]
theorem t8:typeLookup (.type "list") "keys"=pure none:=by rw[Mi,Mj];kernel_rfl
theorem zC{prog:KP}{w:KO}{A:KY}{E:aA}{s:KN}{a:KI}{o:Obj}{xs:dF}{k:Nat}{u:Tok}{Q:aA}
  (hx:s.heap.get? a=some o) (hc:o.cls=.type "list") (hdat:o.data=.seq xs k) (hd:o.dict=none) (hA:A.handled=none)
  (h:∀h' tk e,Heap.NewExcOf s.heap h' e "AttributeError"->E (.ref e) {s with heap:=h',toks:=tk}):
  K2 `g A (getAttrBy (.ref a) (.str "keys" u) false) Q E s:=by
 obtain⟨c,dct,dat,sl⟩:=o;simp only at hc hdat hd;subst hc hdat hd;obtain⟨hp,g,d,tk,os⟩:=s;have hT:∀tk',(⟨hp,g,d,tk',os⟩:KN).TypeIs (.ref a) "list":=λ_=>⟨_,hx,rfl⟩
 have f1:=sub_AttributeError;have f3:=F.slot_list_getattribute.lookup;have f4:=F.slot_list_getattribute.bind (.ref a);have f5:=am_list_getattr_none;unfold getAttrBy
 repeat (any_goals (first|assumption|exact hT _|((with_reducible show K2 _ _ (call (Value.builtin "list.__getattribute__") _ _) _ _ _);refine call_meets F.slot_list_getattribute (hT _) am_entry_list_getattribute (F.args_list_getattribute_2 _ _) (meets_getattribute_miss_list a xs k sl "keys" _ t8 (by decide +kernel) (by decide +kernel)) ⟨hx,hA,λh' tk' e hx'=>?_⟩)|wp_step))
 obtain⟨t',u',he⟩:=hx'.there;show K2 _ _ (getattributeRaised _ _ _ _ _ _ _) _ _ _;unfold getattributeRaised
 repeat (any_goals (first|assumption|wp_step))
 exact h _ _ _ hx'.of
theorem zR{prog:KP}{w:KO}{A:KY}{E:aA}{s:KN}{a:KI}{o:Obj}{xs:dF}{k:Nat}{Q:Option KG->bu}
  (hx:s.heap.get? a=some o) (hc:o.cls=.type "list") (hdat:o.data=.seq xs k) (hd:o.dict=none) (hA:A.handled=none)
  (h:∀h' tk,(∀b o,s.heap.get? b=some o->h'.get? b=some o)->Q none {s with heap:=h',toks:=tk}):
  K2 `g A (getAttr? (.ref a) "keys") Q E s:=by
 obtain⟨hp,g,d,tk,os⟩:=s;have f1:=sub_AttributeError;unfold getAttr? getAttrBy?;refine Lc (wpAny_mkText ?_);refine Lc (Mf (zC (s:=⟨hp,g,d,tk+1,os⟩) hx hc hdat hd hA λh' tk' e ne=>?_));obtain⟨ob,vs,e1,e2,_⟩:=ne.there;refine Lc (Mk (s:=⟨h',g,d,tk',os⟩) ⟨ob,e1,e2⟩ f1 ?_);exact Lb (h h' tk' ne.keeps)
noncomputable abbrev Keeps(h0 h:KR):Prop:=∀b o,h0.get? b=some o->h.get? b=some o
section
variable{prog:KP}{w:KO}{A:KY}{E:aA}{K:Type}[DecidableEq K]{knd:HeapKind prog w K}{d:KI}{h0:KR}
noncomputable def DI(knd:HeapKind prog w K)(h0:KR)(d:KI)(h:KR)(xs:List (K×KI×KG)):Prop:=
 (∃o es ep,h.get? d=some o/\o.ExactDict/\o.data=.dict es ep/\es.toList=xs.map (entryOfKey knd)/\(xs.map (·.1)).Nodup)/\∀x∈xs,∀h,Keeps h0 h->knd.is h x.1 x.2.1
theorem DI.dict{h:KR}{xs:List (K×KI×KG)}(x:DI knd h0 d h xs)(k:Keeps h0 h):h.DictOfH knd d xs:=by
 obtain⟨⟨o,es,ep,h1,h2,h3,h4,h5⟩,h6⟩:=x;exact⟨o,es,ep,h1,h2,h3,h4,λy hy=>h6 y hy h k,h5⟩
theorem DI.stay{h h':KR}{xs:List (K×KI×KG)}(x:DI knd h0 d h xs)(k:∀o,h.get? d=some o->h'.get? d=some o):DI knd h0 d h' xs:=by
 obtain⟨⟨o,es,ep,h1,r⟩,h6⟩:=x;exact⟨⟨o,es,ep,k o h1,r⟩,h6⟩
theorem mem_storedH{xs:List (K×KI×KG)}{k:K}{a:KI}{v:KG}{x:K×KI×KG}(h:x∈storedH xs k a v):(∃y∈xs,y.1=x.1/\y.2.1=x.2.1)\/(x.1=k/\x.2.1=a):=by
 unfold storedH at h;split at h
 ·obtain⟨y,hy,rfl⟩:=List.mem_map.mp h;refine .inl ⟨y,hy,?_⟩;unfold putAt;split<;>exact⟨rfl,rfl⟩
 ·rcases List.mem_append.mp h with z|z
  ·exact .inl ⟨x,z,rfl,rfl⟩
  ·rw[Js]at z;subst z;exact .inr ⟨rfl,rfl⟩
theorem DI.put{h h':KR}{xs:List (K×KI×KG)}{k:K}{a:KI}{v:KG}(x:DI knd h0 d h xs)(hk:∀h,Keeps h0 h->knd.is h k a)(dd:h'.DictOfH knd d (storedH xs k a v)):DI knd h0 d h' (storedH xs k a v):=by
 obtain⟨o,es,ep,h1,h2,h3,h4,_,h5⟩:=dd;refine⟨⟨o,es,ep,h1,h2,h3,h4,h5⟩,λy hy g kg=>?_⟩;rcases mem_storedH hy with⟨z,hz,e1,e2⟩|⟨e1,e2⟩
 ·rw[<-e1,<-e2];exact x.2 z hz g kg
 ·rw[e1,e2];exact hk g kg
theorem pS(xs:List (K×KI×KG))(k:K)(a:KI)(v:KG):(storedH xs k a v).length<=xs.length+1:=by
 unfold storedH;split
 ·rw[Hx];omega
 ·simp
theorem pC:entryFor table "dict.update.loop"=some Builtin.«dict.update.loop»:=entryFor_of_tree (by kernel_rfl)
theorem iP:plainId "dict.update.loop"=true:=by decide +kernel
theorem ul{R:Result->bu}{I:KI}{fp wr:ah}{P:Nat->KG->Prop}{St:Nat->KR->Prop}{L:List (K×KI×KG)}(W:Walks prog w A.in1 I fp wr L.length P St)(hwr:∀b∈wr,h0.get? b=none)(hdn:h0.get? d=none)(hdf:d∉fp)
  (hn:L.length<=KS) (hu:knd.room A.in1) (hP:∀i v,P i v->∃x t,L[i]?=some x/\v=.ref t/\∀h,Keeps h0 h->h.IsTuple t #[.ref x.2.1,x.2.2]) (hK:∀x∈L,∀h,Keeps h0 h->knd.is h x.1 x.2.1) (res:KG):
  ∀(m i:Nat)(s:KN)(xs:List (K×KI×KG))(j:Int)(u:Tok),i+m=L.length->St i s.heap->Keeps h0 s.heap->DI knd h0 d s.heap xs->xs.length<=i->
  (∀h' tk,Keeps h0 h'->DI knd h0 d h' ((L.drop i).foldl (λxs x=>storedH xs x.1 x.2.1 x.2.2) xs)->R (.ok (.ret res)) {s with heap:=h',toks:=tk})->
  Lr `g A (.builtin "dict.update.loop" ⟨[.ref d,.ref I,.int j u,res],[]⟩) R s:=by
 have hdw:d∉wr:=λh=>hdf (W.sub _ h);intro m
 induction m with
 |zero=>
  intro i s xs j u hi st kp di hl hR;have hin:i=L.length:=by omega
  subst hin;refine Ml pC ?_;rw[Around.under_plainId iP _];show K2 _ A.in1 (pyNext (.ref I) >>= _) _ _ s;refine Lc (W.done s _ _ st λh' tk hk=>?_);refine Lc (Lb (Lb ?_))
  have:=hR h' tk (λb o q=>hk b o (λz=>by have:=hwr b z;rw[q]at this;cases this) (kp b o q)) (by
   rw[Iw,List.foldl_nil];exact di.stay λo q=>hk d o hdw q)
  exact this
 |succ m ih=>
  intro i s xs j u hi st kp di hl hR;refine Ml pC ?_;rw[Around.under_plainId iP _];show K2 _ A.in1 (pyNext (.ref I) >>= _) _ _ s;refine Lc (W.item i s _ _ `o st λv h' tk hv st' hk=>?_);obtain⟨x,t,hx,rfl,ht⟩:=hP i v hv;have kp':Keeps h0 h':=λb o q=>hk b o (λz=>by have:=hwr b z;rw[q]at this;cases this) (kp b o q);obtain⟨o,ho,hc,n,hd⟩:=ht h' kp';have xm:x∈L:=Hv hx;refine Lc (LA (Lc (wpAny_tryCatch ?_)));unfold Builtin.Dict.pairItems;refine Lc (LI (T:="tuple") ⟨o,ho,hc⟩ ?_);rw[if_pos (by decide)];refine Lc (wpAny_seqItems ho hd (Lb ?_));show K2 _ _ (holding [.ref x.2.1,x.2.2] (dictSet d (.ref x.2.1) x.2.2)) _ _ _;have di':DI knd h0 d h' xs:=di.stay λo q=>hk d o hdw q;refine LA (wpAny_dictSet_heap (s:={s with heap:=h',toks:=tk}) (hsz:=by omega) hu (hK x xm h' kp') (di'.dict kp') λh2 dd sb=>?_);have kp2:Keeps h0 h2:=λb o q=>(sb.2 b (λz=>by rw[z,hdn]at q;cases q)).trans (kp' b o q);refine Lb ⟨Mm iP _,?_⟩;refine ih (i+1) _ (storedH xs x.1 x.2.1 x.2.2) (j+1) 0 `o (W.frame _ _ _ st' λb hb o q=>(sb.2 b (λz=>hdf (by rw[<-z];exact hb))).trans q) kp2 (di'.put (hK x xm) dd) (by have:=pS xs x.1 x.2.1 x.2.2;omega) λh3 tk3 kp3 di3=>?_;refine hR h3 tk3 kp3 ?_;have e:L.drop i=x::L.drop (i+1):=by
   have hil:i<L.length:=(by omega);rw[Iq hil];rw[Ia hil]at hx;rw[Option.some.inj hx]
  rw[e,Jc];exact di3
theorem fX{s:KN}{Q:aA}{l:KI}{o:Obj}{items:dF}{n:Nat}{L:List (K×KI×KG)}(ho:s.heap.get? l=some o)(hc:o.cls=.type "list")(hd:o.data=.seq items n)(hdd:o.dict=none)(hh:A.handled=none)(hu:knd.room A.in1.in1)
  (hl:items.size=L.length) (hn:L.length<=KS) (hP:∀(i:Nat) v,items[i]?=some v->∃x t,L[i]?=some x/\v=.ref t/\s.heap.IsTuple t #[.ref x.2.1,x.2.2]) (hK:∀x∈L,∀h,Keeps s.heap h->knd.is h x.1 x.2.1)
  (hQ:∀h' tk,Keeps s.heap h'->DI knd s.heap s.heap.objs.size h' (L.foldl (λxs x=>storedH xs x.1 x.2.1 x.2.2) [])->Q (.ref s.heap.objs.size) {s with heap:=h',toks:=tk}):
  K2 `g A (call (.type "dict") [.ref l]) Q E s:=by
 refine callType_codes (Q₁:=λobj s₁=>obj=.ref s.heap.objs.size/\s₁={s with heap:=s.heap.push {cls:=.type "dict",data:=.dict #[]}}) F.kt_called_dict (F.kt_typeCall_dict_1 _) F.entry_dict_init (kt_code_dict_new _ ⟨rfl,rfl⟩) ?_;rintro obj s₁ ⟨rfl,rfl⟩;have hnew:(s.heap.push {cls:=.type "dict",data:=.dict #[]}).DictOfH knd s.heap.objs.size []:=Heap.DictOfH.new s.heap;have hlt:=Kc ho;have hl1:(s.heap.push {cls:=.type "dict",data:=.dict #[]}).get? l=some o:=Kf _ ho;refine⟨hnew.typeIs,F.args_dict_init_2 _ _,?_⟩;unfold Builtin.«dict.__init__»;refine Lc ?_;unfold Builtin.Dict.selfAndRest;refine Lc (Mo hnew.typeIs ?_);show K2 _ _ (pure (s.heap.objs.size,[Value.ref l])) _ _ _;refine Lb ?_;show K2 _ _ (Builtin.Dict.updateFrom "dict.__init__" s.heap.objs.size (.ref l) [] .none) _ _ _;unfold Builtin.Dict.updateFrom;refine Lc (LI (T:="list") ⟨o,hl1,hc⟩ ?_);rw[if_pos (by decide)];refine Lc (zR hl1 hc hd hdd hh λh1 tk1 k1=>?_);rw[if_pos (show(none:Option KG).isNone=true from rfl)];refine Lc (LX ?_);have hd1:h1.get? s.heap.objs.size=some {cls:=.type "dict",data:=.dict #[]}:=k1 _ _ (Kg _ rfl);have hl2:h1.IsList l items:=⟨o,k1 _ _ hl1,hc,n,hd⟩
 have dlt:=Kc hd1;refine Lc (Le (s:={s with heap:=h1,toks:=tk1}) hl2 ?_);refine Lb ⟨Mm iP _,?_⟩;have W:=Walks.list (prog:=prog) (w:=w) (A:=A.in1.in1) hh h1.objs.size l (G2 (HN hlt dlt)) items;rw[hl]at W;refine ul (A:=A.in1) (knd:=knd) (h0:=s.heap) (d:=s.heap.objs.size) W (λb hb=>?_) (Kd (Hi _)) (λz=>?_) hn hu (λi v hv=>?_) hK .none L.length 0 _ [] 0 0 `o ?_ (λb o q=>?_) ⟨⟨_,#[],0,Kf _ hd1,⟨rfl,rfl,rfl⟩,rfl,rfl,HQ⟩,λx hx=>by simp at hx⟩ (Hi _) λh' tk kp di=>?_
 ·rw[Js]at hb;subst hb;exact Kd (G4 dlt)
 ·simp only[Jt,Ju,or_false]at z;rcases z with z|z
  ·exact absurd z (G2 dlt)
  ·exact absurd z.symm (G2 hlt)
 ·obtain⟨x,t,e1,e2,e3⟩:=hP i v hv;obtain⟨ob,q1,q2⟩:=e3;exact⟨x,t,e1,e2,λh kh=>⟨ob,kh _ _ q1,q2⟩⟩
 ·exact⟨⟨_,Kg _ rfl,rfl,rfl⟩,let ⟨ob,q1,q2⟩:=hl2;⟨ob,Kf _ q1,q2⟩⟩
 ·exact Kf _ (k1 _ _ (Kf _ q))
 ·exact⟨rfl,hQ h' tk kp di⟩
end
noncomputable def qe:D->Option (List Key×D)
 |.tup [k,v]=>(cG k).map λq=>(q,v)
 |_=>none
noncomputable def fz:List D->Option (bo)
 |[]=>some []
 |d::r=>(qe d).bind λp=>(fz r).map (p::·)
noncomputable def nR(ps:bo):bo:=ps.foldl (λal p=>cQ al p.1 p.2) []
noncomputable def fZ:List D->aQ
 |[.lst xs]=>(fz xs).bind λps=>if small ps.length then some (aT (nR ps))else none
 |_=>none
theorem xx{d:D}{p:List Key×D}(h:qe d=some p):d=.tup [.tup (p.1.map ax),p.2]:=by
 unfold qe at h;split at h
 ·rename_i k v;cases e:cG k with
  |none=>rw[e]at h;cases h
  |some q=>rw[e]at h;cases h;rw[dN e]
 ·cases h
theorem jo:∀{xs:List D}{ps:bo},fz xs=some ps->xs=ps.map λp=>.tup [.tup (p.1.map ax),p.2]
 |[],_,h=>by cases h;rfl
 |d::r,ps,h=>by
  unfold fz at h;cases e1:qe d with
  |none=>rw[e1]at h;cases h
  |some p=>
   rw[e1]at h;cases e2:fz r with
   |none=>rw[e2]at h;cases h
   |some ps'=>rw[e2]at h;cases h;rw[xx e1,jo e2];rfl
section
variable{X:Cx}
theorem jr{pins:aH}{σ:St}{H:Hp}{s:KN}{O:ah}(I:L2.Inv X pins σ H s):∀{ps:bo}{ws:az}{its:aC},av X.K (hid H O) (ps.map λp=>.tup [.tup (p.1.map ax),p.2]) ws->Vals ws its->
  ∃(L:List (List Key×KI×KG))(ks:List (List Key×V)),its.length=L.length/\(∀(i:Nat)(v:KG),its[i]?=some v->∃(x:List Key×KI×KG)(t:KI),L[i]?=some x/\v=.ref t/\s.heap.IsTuple t #[.ref x.2.1,x.2.2])/\KT H ks L/\ks.map (·.1)=ps.map (·.1)/\av X.K (hid H O) (ps.map (·.2)) (ks.map (·.2))
 |[],ws,its,h,r=>by
  rw[HE,bB]at h;subst h;cases r;exact⟨[],[],rfl,(λi v e=>by simp at e),.nil,rfl,bB.mpr rfl⟩
 |p::ps,ws,its,h,r=>by
  rw[HF,aI]at h;obtain⟨w,ws',rfl,h1,h2⟩:=h;cases r with
  |@cons _ u _ us ru rr=>
   obtain⟨L,ks,l1,l2,l3,l4,l5⟩:=jr I h2 rr;obtain⟨t,vs,rfl,t1,t2⟩:=bm.mp h1;obtain⟨v1,v2,rfl,d1,d2⟩:=t2.two;obtain⟨a,ks1,rfl,a1,a2⟩:=bm.mp d1;rw[cw a2]at a1;obtain⟨its',r',⟨o,q1,q2⟩,_⟩:=I.tuple (aX (K:=X.K) (ai H O) t1);obtain⟨x1,x2,rfl,rx1,rx2⟩:=vals2 r';cases rx1;obtain rfl:u=Value.ref t:=ru;refine⟨(p.1,a,x2)::L,(p.1,v2)::ks,by rw[HK,HK,l1],λi v e=>?_,.cons ⟨rfl,(ai H O) _ _ a1,rx2⟩ l3,by rw[HF,HF,l4],aI.mpr ⟨v2,_,rfl,d2,l5⟩⟩;cases i with
   |zero=>
    have e:Value.ref t=v:=(by simpa using e);subst e;exact⟨_,t,rfl,rfl,o,q1,q2⟩
   |succ i=>exact l2 i v (by simpa using e)
theorem lj{K:J1}{H:Hp}{H0:Hp}:∀{ps:bo}{ks:List (List Key×V)}{L:List (List Key×KI×KG)}{al:bo}{kvs:List (List Key×V)}{xs:List (List Key×KI×KG)},KT H ks L->ks.map (·.1)=ps.map (·.1)->av K H0 (ps.map (·.2)) (ks.map (·.2))->
  KT H kvs xs->kvs.map (·.1)=al.map (·.1)->av K H0 (al.map (·.2)) (kvs.map (·.2))->
  KT H (ks.foldl (λm p=>putK m p.1 p.2) kvs) (L.foldl (λxs x=>storedH xs x.1 x.2.1 x.2.2) xs)/\(ks.foldl (λm p=>putK m p.1 p.2) kvs).map (·.1)=(ps.foldl (λal p=>cQ al p.1 p.2) al).map (·.1)/\
   av K H0 ((ps.foldl (λal p=>cQ al p.1 p.2) al).map (·.2)) ((ks.foldl (λm p=>putK m p.1 p.2) kvs).map (·.2))/\(ks.foldl (λm p=>putK m p.1 p.2) kvs).length<=kvs.length+ks.length
 |[],[],_,al,kvs,xs,.nil,_,_,h1,h2,h3=>⟨h1,h2,h3,by simp⟩
 |p::ps,q::ks,_,al,kvs,xs,.cons (b:=x) hq hr,e,d,h1,h2,h3=>by
  rw[HF,HF]at e;injection e with e1 e2;rw[HF,HF,aI]at d;obtain⟨v,vs,d0,d1,d2⟩:=d;injection d0 with d0 d0';subst d0 d0';obtain⟨y1,y2,y3⟩:=hq;have z1:=KT.put h1 q.1 y2 y3;rw[y1]at z1;have z2:=p0 h2 q.1 q.2 p.2;have z3:=sX (k:=q.1) d1 h2 h3
  have:=lj (kvs:=putK kvs q.1 q.2) (al:=cQ al q.1 p.2) (xs:=storedH xs x.1 x.2.1 x.2.2) hr e2 d2 (by rw[y1];exact z1) z2 z3
  rw[Jc,Jc,Jc,<-e1];refine⟨this.1,this.2.1,this.2.2.1,G3 this.2.2.2 ?_⟩
  have:=fW kvs q.1 q.2
  rw[HK];omega
 |[],_::_,_,_,_,_,_,e,_,_,_,_=>by cases e
 |_::_,[],_,_,_,_,_,e,_,_,_,_=>by cases e
theorem rB(hc:X.calm=true)(hu:X.A.units+64<Ln):dL X (.type "dict") (AJ X.K fZ):=by
 rintro pins s σ H xs us Q I r ⟨O,ds,d,hO,hd,hg,q⟩;unfold fZ at hg;split at hg
 ·rename_i ys;cases hp:fz ys with
  |none=>rw[hp]at hg;cases hg
  |some ps=>
   rw[hp]at hg;obtain⟨sm,rfl⟩:=aV (show(if small ps.length then some (aT (nR ps))else none)=some d from hg);obtain⟨v,rfl,h1⟩:=hd.one;obtain⟨p,ws,rfl,g1,g2⟩:=bn.mp h1;obtain⟨u,rfl,ru⟩:=vals1 r;cases ru;obtain⟨its,rv,⟨o,n,ho,hcl,hd',hdd⟩,hz⟩:=I.list ((ai H O).seq g1);rw[jo hp]at g2;obtain⟨L,ks,l1,l2,l3,l4,l5⟩:=jr I g2 rv;have kl:ks.length=ps.length:=(by have:=congrArg List.length l4;simpa using this);have ll:ks.length=L.length:=Paired.length l3;have key:∀{ks:List (List Key×V)}{L:List (List Key×KI×KG)},KT H ks L->∀x∈L,∀h,Keeps s.heap h->(tupleKind (aJ X.prog X.w)).is h x.1 x.2.1:=λ{ks L} kt=>by
    induction kt with
    |nil=>intro x hx;cases hx
    |cons hq _ ih=>
     intro x hx h kh;rcases List.mem_cons.mp hx with z|z
     ·subst z;obtain⟨e1,e2,_⟩:=hq;rw[e1]at e2;obtain⟨o,xs,n,k1,k2⟩:=fF I.hok e2;exact⟨o,xs,n,kh _ _ k1,k2⟩
     ·exact ih x z h kh
   obtain⟨f1,f2,f3,f4⟩:=lj (K:=X.K) (H:=H) (H0:=hid H O) (al:=[]) (kvs:=[]) (xs:=[]) l3 l4 l5 .nil rfl (bB.mpr rfl);have hsz:ps.length<=100000:=of_decide_eq_true sm;have sl:KS=16777216:=Lj;refine fX (knd:=tupleKind (aJ X.prog X.w)) (L:=L) ho hcl hdd hd' (I.ok.hd hc) (LR (by rw[in1_units];omega)) (by simpa using l1) `o (λi v e=>l2 i v (by simpa using e)) (key l3) λh' tk kp di=>?_;have hf:=I.hok.fresh (Hi s.heap.objs.size);obtain⟨⟨od,es,ep,k1,k2,k3,k4,k5⟩,_⟩:=di;have kt':KT (upd H s.heap.objs.size (.dT (ks.foldl (λm p=>putK m p.1 p.2) []))) (ks.foldl (λm p=>putK m p.1 p.2) []) (L.foldl (λxs x=>storedH xs x.1 x.2.1 x.2.2) []):=KT.keeps f1 λb ys eb=>by rw[aq (λz=>by rw[z,hf]at eb;cases eb)];exact eb
   refine⟨.ref s.heap.objs.size,_,I.laid (t':=tk) kp (Hi _) (show bC X.prog X.w _ h' _ (.dT (ks.foldl (λm p=>putK m p.1 p.2) []))from⟨by simp only[HL]at f4;omega,beq_eq_false_iff_ne.mpr (Ne.symm (G2 I.big)),_,kt',od,es,ep,k1,k2,k3,k4,k5⟩),rfl,?_⟩;refine q _ _ (bh hf _) ?_;have pO:=hO.not hf;refine EG.mpr ⟨s.heap.objs.size,_,rfl,f3.mono (oB hf),.inr (.inl ⟨_,by rw[dR pO];exact ao,lF f2,rfl⟩)⟩
 ·cases hg
end
noncomputable def AF(H:Hp)(a:KI)(y:V)(r:Option V):Prop:=rF H a y r\/(H a=some (.dK [])/\r=none/\∃b k,y=.ref b/\H b=some (.tup (List.map kV k)))
noncomputable def fY(al:bo)(q:ay):aQ:=(al.find? λp=>decide (p.1=q)).map (·.2)
theorem xV{K:J1}{H:Hp}{v:V}{al:bo}(h:bH K H (aT al) v):
  ∃a,v=.ref a/\((∃kvs:List (List Key×V),H a=some (.dT kvs)/\kvs.map (·.1)=al.map (·.1)/\av K H (al.map (·.2)) (kvs.map (·.2)))\/(H a=some (.dK [])/\al=[])):=by
 obtain⟨a,vs,e0,h2,h3⟩:=EG.mp h;refine⟨a,e0,?_⟩;rcases h3 with⟨kvs,e,e1,e2⟩|⟨kvs,e,e1,e2⟩|⟨kvs,o,e,e1,e2⟩
 rotate_left 2
 ·cases al with
  |nil=>cases e1
  |cons _ _=>injection e1 with e1 _;cases e1
 ·cases kvs with
  |nil=>exact .inr ⟨e,by simpa using e1⟩
  |cons p r=>
   cases al with
   |nil=>cases e1
   |cons q r'=>
    have e1:D.tup (q.1.map ax)::encK r'=ax p.1::r.map (λp=>ax p.1):=e1;injection e1 with e1 _;rcases p with⟨k,v⟩
    cases k<;>cases e1
 ·refine .inl ⟨kvs,e,?_,by rw[<-e2];exact h2⟩;exact(iW (ks:=kvs.map (·.1)) (by rw[Jq];exact e1)).symm
theorem lH{K:J1}{H:Hp}(q:ay):∀{kvs:List (List Key×V)}{al:bo},kvs.map (·.1)=al.map (·.1)->av K H (al.map (·.2)) (kvs.map (·.2))->(eA kvs q=none/\fY al q=none)\/∃v d,eA kvs q=some v/\fY al q=some d/\bH K H d v
 |[],[],_,_=>.inl ⟨rfl,rfl⟩
 |p::r,a::al,e,h=>by
  rw[HF,HF]at e;injection e with e1 e2;rw[HF,HF,aI]at h;obtain⟨v,ws,h0,h1,h2⟩:=h;injection h0 with h0 h0';subst h0 h0';by_cases z:p.1=q
  ·refine .inr ⟨p.2,a.2,gl z,?_,h1⟩;unfold fY;rw[List.find?_cons_of_pos (by rw[<-e1];simpa using z)];rfl
  ·have ih:=lH q e2 h2;have g:fY (a::al) q=fY al q:=by
    unfold fY;rw[List.find?_cons_of_neg (by rw[<-e1];simpa using z)]
   rw[gA z,g];exact ih
 |[],_::_,e,_=>by cases e
 |_::_,[],e,_=>by cases e
end TG
namespace TG
open PySem PySem.Spec L2
variable[aj]
end TG
namespace TG
open PySem PySem.Spec L2
variable[aj]
end TG
namespace TG
open PySem PySem.Spec L2
variable[aj]
end TG
namespace TG
open PySem PySem.Spec PySem.Calls L2
theorem uS{o:Option V}{w:KG}(h:ot o (some w)):∃v,o=some v/\RelV v w:=by
 cases o with
 |none=>exact h.elim
 |some v=>exact⟨v,rfl,h⟩
theorem uV{o:Option V}(h:ot o none):o=none:=by
 cases o with
 |none=>rfl
 |some v=>exact h.elim
variable[aj]
end TG
namespace TG
open PySem PySem.Spec L2
variable[aj]
theorem bx.setN{K:J1}{Hb:Hp}{Ob O O':ah}{H H':Hp}{ρ:af}{σ:St}(S:bx K Hb Ob O H ρ σ){i:Nat}{d d':D}(hi:ρ[i]?=some (some (.nest d)))(sub:∀b∈O,b∈O')(s:aD (hid H O) (hid H' O'))(hb:Base Hb Ob H' O')(all:bL H' O')
  (keep:∀(j:Nat) xs b,ρ[j]?=some (some (.own xs))->σ[j]?=some (some (.ref b))->H b=H' b) (new:sW K Hb Ob O' H' (ρ.set i (some (.nest d'))) σ i d'):bx K Hb Ob O' H' (ρ.set i (some (.nest d'))) σ:=by
 have own:∀(j:Nat) xs,(ρ.set i (some (.nest d')))[j]?=some (some (.own xs))->ρ[j]?=some (some (.own xs)):=λj xs e=>by
  rcases au e with⟨_,q⟩|⟨_,q⟩
  ·cases q
  ·exact q
 refine⟨⟨λj d1 e=>?_,λj xs e=>?_,λj l xs ys a e1 e2 e3 e4=>S.env.one j l xs ys a (own j xs e1) (own l ys e2) e3 e4,all⟩,hb,λj xs a e1 e2=>S.mine j xs a (own j xs e1) e2,λj dn e=>?_⟩
 ·rcases au e with⟨_,q⟩|⟨_,q⟩
  ·cases q
  ·obtain⟨v,q1,q2⟩:=S.env.val j d1 q;exact⟨v,q1,q2.mono s⟩
 ·obtain⟨a,q1,q2,q3⟩:=S.env.own j xs (own j xs e);exact⟨a,q1,sub a q2,q3.mono (keep j xs a (own j xs e) q1) s⟩
 ·rcases au e with⟨hj,q⟩|⟨ne,q⟩
  ·cases q;rw[hj];exact new
  ·obtain⟨_,_,_,_,_,_,one⟩:=S.nst i d hi;exact absurd (one j dn q) ne
noncomputable def y6:af->Bool
 |[]=>true
 |some (.nest _)::_=>false
 |_::ρ=>y6 ρ
theorem gS:∀{ρ:af},y6 ρ=true->∀(j:Nat) d,ρ[j]?≠some (some (.nest d))
 |[],_,j,d,e=>by simp at e
 |none::ρ,h,j,d,e=>by
  cases j with
  |zero=>simp at e
  |succ j=>exact gS (ρ:=ρ) h j d (by simpa using e)
 |some (.val _)::ρ,h,j,d,e=>by
  cases j with
  |zero=>simp at e
  |succ j=>exact gS (ρ:=ρ) h j d (by simpa using e)
 |some (.own _)::ρ,h,j,d,e=>by
  cases j with
  |zero=>simp at e
  |succ j=>exact gS (ρ:=ρ) h j d (by simpa using e)
 |some (.nest _)::ρ,h,j,d,e=>by cases h
end TG
namespace TG
open PySem PySem.Spec L2
variable[aj]
theorem kP.imp{K:J1}{H H':Hp}{O O':ah}:∀{bs:ah}{xs:List D},kP K H O bs xs->(∀c∈bs,∀x,bS K H O c x->bS K H' O' c x)->kP K H' O' bs xs
 |[],[],_,_=>trivial
 |b::bs,x::xs,h,f=>⟨f b G9 x h.1,kP.imp h.2 λc hc=>f c (Ha _ hc)⟩
 |[],_::_,h,_=>h.elim
 |_::_,[],h,_=>h.elim
end TG
namespace TG
open PySem PySem.Spec L2
variable[aj]
noncomputable abbrev bv(al:bo):D:=.dct (.non::encK al) (al.map (·.2))
theorem qS{X:Cx}{pins:aH}{σ:St}{H:Hp}{s:KN}{a:KI}{o:Obj}{kvs:List (List Key×V)}(I:`h)(e:H a=some (.frz o (.dT kvs))):s.heap.get? a=some o/\o.ExactDict/\(a==sysModules)=false/\∃es ep xs,o.data=.dict es ep/\KT H kvs xs/\es.toList=xs.map (entryOfKey (tupleKind (aJ X.prog X.w))):=by
 obtain⟨ho,z,hd,xs,rel,o',es,ep,h1,h2,h3,h4,h5⟩:=(show bC X.prog X.w H s.heap a (.frz o (.dT kvs))from I.hok a _ e)
 rw[ho]at h1;cases h1;exact⟨ho,h2,hd,es,ep,xs,h3,rel,h4⟩
theorem lE{α β:Type}{R:α->β->Prop}:∀{xs:List α}{ys:List β},KQ R xs ys->∀{i:Nat}{x:α},xs[i]?=some x->∃y,ys[i]?=some y/\R x y:=λh=>by
 induction h with
 |nil=>intro i x e;simp at e
 |cons hq _ ih=>
  intro i x e;cases i with
  |zero=>rw[Jv]at e;cases e;exact⟨_,rfl,hq⟩
  |succ i=>rw[Jw]at e ⊢;exact ih e
theorem kz{K:J1}{H:Hp}:∀q:ay,av K H (q.map ax) (q.map kV)
 |[]=>bB.mpr rfl
 |k::q=>aI.mpr ⟨kV k,_,rfl,by cases k with|inl i=>exact cX.mpr rfl|inr x=>exact cA.mpr rfl,kz q⟩
theorem qE{K:J1}{H:Hp}{v:V}{al:bo}(h:bH K H (bv al) v):∃a o kvs,v=.ref a/\H a=some (.frz o (.dT kvs))/\kvs.map (·.1)=al.map (·.1)/\av K H (al.map (·.2)) (kvs.map (·.2)):=by
 obtain⟨a,vs,e0,h2,h3⟩:=EG.mp h;rcases h3 with⟨kvs,e,e1,e2⟩|⟨kvs,e,e1,e2⟩|⟨kvs,o,e,e1,e2⟩
 ·cases kvs with
  |nil=>cases e1
  |cons p r=>
   injection e1 with e1 _;rcases p with⟨k,v⟩
   cases k<;>cases e1
 ·cases kvs with
  |nil=>cases e1
  |cons p r=>injection e1 with e1 _;cases e1
 ·injection e1 with _ e1;subst e2;exact⟨a,o,kvs,e0,e,(iW (ks:=kvs.map (·.1)) (by rw[Jq];exact e1)).symm,h2⟩
theorem AW{X:Cx}{pins:aH}{σ:St}{H:Hp}{s:KN}{a:KI}{kvs:List (List Key×V)}(I:`h)(h1:H a=some (.dT kvs)):∃o,Inv X pins σ (upd H a (.frz o (.dT kvs))) s:=by
 obtain⟨z,hd,xs,rel,o,es,ep,g1,g2⟩:=(show bC X.prog X.w H s.heap a (.dT kvs)from I.hok a _ h1)
 refine⟨o,gH (ob:=.frz o (.dT kvs)) (h':=s.heap) (t':=s.toks) I (by rw[h1];exact trivial) ⟨rfl,λ_ _=>rfl⟩ ⟨o,g1⟩ ⟨g1,z,hd,xs,KT.keeps rel λb ys eb=>?_,o,es,ep,g1,g2⟩⟩;rw[aq (xg eb h1 (λz=>nomatch z))];exact eb
end TG
namespace TG
open PySem PySem.Spec L2
section
variable{prog:KP}{w:KO}{A:KY}{E:aA}{s:KN}{it d:KI}{i ep:Nat}{o:Obj}{es:Array LQ}
theorem mR{Q:aA}(hd:(d==sysModules)=false)(ho:s.heap.get? d=some o)(hx:o.ExactDict)(hdat:o.data=.dict es ep)
  (hQ:Q (.ref s.heap.objs.size) {s with heap:=s.heap.push {cls:=.type "dict_keyiterator",data:=.fields #[.ref d,.int 0 0,.int es.size 0,.int ep 0]}}):K2 `g A (pyIter (.ref d)) Q E s:=by
 have hT:s.TypeIs (.ref d) "dict":=⟨o,ho,hx.1⟩
 refine Mp hT F.slot_dict_iter (LD F.slot_dict_iter hT F.entry_dict_iter ?_ (F.args_dict_iter_1 _));unfold Builtin.«dict.__iter__»;refine Lc ?_;unfold Builtin.Dict.dictSlotNone;refine Lc (Mo hT ?_);show K2 _ _ (pure (Value.ref d)) _ _ s;refine Lb ?_;show K2 _ _ (Builtin.Dict.showsAll d >>= _) _ _ s;unfold Builtin.Dict.showsAll;rw[if_neg (by rw[hd];exact Hg)];refine Lc (Lb (Lc (Mq ho hdat (Lc (Mr ho hdat ?_)))));refine Lc (LJ (Lb ⟨_,rfl,"dict_keyiterator",_,⟨_,Kg _ rfl,rfl⟩,F.slot_dict_keyiterator_next.lookup,?_⟩));simpa [rawInt]using hQ
theorem mG{Q:Option KG->bu}(hit:s.heap.IsKeyIter it d i es.size ep)(hod:s.heap.get? d=some o)(hdd:o.data=.dict es ep)(hlt:i<es.size)
  (hQ:∀h',h'.IsKeyIter it d (i+1) es.size ep->Ke it s.heap h'->Q (some es[i].key) {s with heap:=h'}):K2 `g A (pyNext (.ref it)) Q E s:=by
 obtain⟨oi,ho,hc,hd⟩:=id hit;unfold pyNext;refine Lc (Mf (LC (name:=Str.ofString "__next__") hit.typeIs F.slot_dict_keyiterator_next (LD F.slot_dict_keyiterator_next hit.typeIs F.entry_dict_keyiterator_next ?_ (F.args_dict_keyiterator_next_1 _))));refine Lc (Lb (Lc (Lc ?_)));first|refine Lc (Ms hit.typeIs (Lb ?_))|refine Lc (Mt hit.typeIs (Lb ?_))
 refine Lc (Mu ho hd ?_);have hown:Builtin.Dict_items.ownsTuple "dict_keyiterator"=false:=by decide
 simp only[hown,HS,if_false];show K2 _ _ (if(Value.ref d==Value.none)=true then _ else _) _ _ s;rw[if_neg (show¬((Value.ref d==Value.none)=true)from Hg)];refine Lc (Lb (Lc (Mq hod hdd ?_)));rw[if_neg (by simp)];refine Lc (Lb (Lc (Mr hod hdd ?_)));rw[if_neg (by simp)];refine Lb ?_;simp only[show¬((i:Int)<0)from by omega,if_false,Hz,Array.getElem?_eq_getElem hlt];refine Lc ?_;first|refine Lc (Ms hit.typeIs (Lb ?_))|refine Lc (Mt hit.typeIs (Lb ?_))
 refine Lc (wpAny_isOneOf_keyiter hit.typeIs ?_);show K2 _ _ (setField (.ref it) 1 (rawInt ((i:Int)+1)) >>= _) _ _ s;refine Lc (Mv ho hd (by simp) ?_);have hit':(s.heap.update it (Obj.mapFields (·.setIfInBounds 1 (rawInt ((i:Int)+1))))).IsKeyIter it d (i+1) es.size ep:=⟨_,Kl _ ho (Obj.isFreed_of_fields (Obj.data_mapFields hd _)),(Obj.cls_mapFields ..).trans hc,by rw[Obj.data_mapFields hd];simp[rawInt]⟩
 refine Lc (LA (Lc (wpAny_isOneOf_keyiter (s:={s with heap:=s.heap.update it (Obj.mapFields (·.setIfInBounds 1 (rawInt ((i:Int)+1))))}) hit'.typeIs ?_)));show K2 _ _ (pure es[i].key) _ _ _;exact Lb (Lb ⟨_,rfl,Lb (hQ _ hit' (Heap.SameBut.update ..))⟩)
theorem oX{Q:Option KG->bu}(hh:A.handled=none)(hit:s.heap.IsKeyIter it d i es.size ep)(hod:s.heap.get? d=some o)(hdd:o.data=.dict es ep)(hge:es.size<=i)(hQ:∀h',Heap.ExtBut it s.heap h'->Q none {s with heap:=h'}):K2 `g A (pyNext (.ref it)) Q E s:=by
 obtain⟨oi,ho,hc,hd⟩:=id hit;unfold pyNext;refine Lc (Mf (LC (name:=Str.ofString "__next__") hit.typeIs F.slot_dict_keyiterator_next (LD F.slot_dict_keyiterator_next hit.typeIs F.entry_dict_keyiterator_next ?_ (F.args_dict_keyiterator_next_1 _))));refine Lc (Lb (Lc (Lc ?_)));first|refine Lc (Ms hit.typeIs (Lb ?_))|refine Lc (Mt hit.typeIs (Lb ?_))
 refine Lc (Mu ho hd ?_);have hown:Builtin.Dict_items.ownsTuple "dict_keyiterator"=false:=by decide
 simp only[hown,HS,if_false];show K2 _ _ (if(Value.ref d==Value.none)=true then _ else _) _ _ s;rw[if_neg (show¬((Value.ref d==Value.none)=true)from Hg)];refine Lc (Lb (Lc (Mq hod hdd ?_)));rw[if_neg (by simp)];refine Lc (Lb (Lc (Mr hod hdd ?_)));rw[if_neg (by simp)];refine Lb ?_;simp only[show¬((i:Int)<0)from by omega,if_false,Hz,Array.getElem?_eq_none hge];refine Lc ?_;first|refine Lc (Ms hit.typeIs (Lb ?_))|refine Lc (Mt hit.typeIs (Lb ?_))
 show K2 _ _ (setField (.ref it) 0 .none >>= _) _ _ s;refine Lc (Mv ho hd (by simp) ?_);show K2 _ _ (newExc (.type "StopIteration") [] >>= _) _ _ _;refine Lc ?_;simp only[newExc,newTuple];refine Lc (LJ ?_ (by size_fits));refine Lc (m:=firstArgMember _ _) (wpAny_of_eq (a:=Value.none) (by first|rfl|(simp only[firstArgMember];rfl)) ?_);refine LJ ?_ (by size_fits);simp only[raiseNew];refine Lc (wpAny_handled ?_);rw[show A.in1.handled=none from hh];refine Lc (Lb (wpAny_throw ?_));refine Lc (Mk (T:="StopIteration") (b:=true) ⟨_,Kg _ rfl,rfl⟩ isSubtype_stop ?_);exact Lb (hQ _ (((Heap.SameBut.update ..).extBut.push _).push _))
noncomputable def Cv(d:KI)(o:Obj)(es:Array LQ)(ep:Nat)(h:KR):Prop:=h.get? d=some o/\o.ExactDict/\o.data=.dict es ep
theorem qO(hh:A.handled=none)(I:KI)(hne:d≠I):Walks prog w A I [I,d] [I] es.size (λi v=>∃e,es[i]?=some e/\v=e.key) (λi h=>h.IsKeyIter I d i es.size ep/\Cv d o es ep h)where
 sub:=λb hb=>by simp at hb;simp[hb]
 frame:=λ_ _ _ st hk=>⟨st.1.at λo e=>hk I (by simp) o e,hk d (by simp) _ st.2.1,st.2.2⟩
 item:=λi s Q E hi st hQ=>mG st.1 st.2.1 st.2.2.2 hi λh' hit' hs'=>hQ _ h' s.toks ⟨es[i],by simp[hi],rfl⟩ ⟨hit',(hs'.2 d hne).trans st.2.1,st.2.2⟩ λb o hb e=>hs'.extBut b o (λh=>hb (by simp[h])) e
 done:=λs Q E st hQ=>oX hh st.1 st.2.1 st.2.2.2 (Hi _) λh' he'=>hQ h' s.toks λb o hb e=>he' b o (λh=>hb (by simp[h])) e
 self:=λ_ _ _ _ st hQ=>wpAny_pyIter_keyiter st.1 hQ
theorem x5(lo:(d==sysModules)=false):PySem.W.KdlSrc prog w "dict" d d es.size (λi v=>∃e,es[i]?=some e/\v=e.key) (Cv d o es ep)where
 type:=λ_ hm=>⟨o,hm.1,hm.2.1.1⟩
 there:=λ_ hm=>⟨Kc hm.1,Kc hm.1⟩
 keep:=λ_ _ hm hk=>⟨hk d (.inl rfl) o hm.1,hm.2⟩
 notList:=by decide
 notTuple:=by decide
 hint:=λ_ _ _ _ hm hq=>PySem.W.kdl_hint_dict ⟨o,hm.1,hm.2.1.1⟩ hq
 iter:=λ_ _ hh hm=>⟨_,_,(λ_ _ hq=>mR lo hm.1 hm.2.1 hm.2.2 hq),qO (ep:=ep) (o:=o) hh _ (G2 (Kc hm.1)),⟨⟨_,Kg _ rfl,rfl,rfl⟩,Kf _ hm.1,hm.2⟩⟩
end
variable[aj]
noncomputable def o5:List D->List D->Option (bo)
 |.non::ks,ds=>fE ks ds
 |ks,ds=>fE ks ds
theorem ki{K:J1}{H:Hp}{v:V}{ks ds:List D}{al:bo}(h:bH K H (.dct ks ds) v)(e:o5 ks ds=some al):
  ∃a,v=.ref a/\((∃kvs:List (List Key×V),Rd H a (.dT kvs)/\kvs.map (·.1)=al.map (·.1)/\av K H (al.map (·.2)) (kvs.map (·.2)))\/(H a=some (.dK [])/\al=[])):=by
 unfold o5 at e;split at e
 ·obtain⟨f1,f2⟩:=fJ e;subst f1 f2;obtain⟨a,o,kvs,q1,q2,q3,q4⟩:=qE h;exact⟨a,q1,.inl ⟨kvs,.inr ⟨o,q2⟩,q3,q4⟩⟩
 ·obtain⟨f1,f2⟩:=fJ e;subst f1 f2;obtain⟨a,q1,q2⟩:=xV h;rcases q2 with⟨kvs,q2,q3⟩|q2
  ·exact⟨a,q1,.inl ⟨kvs,.inl q2,q3⟩⟩
  ·exact⟨a,q1,.inr q2⟩
section
variable{X:Cx}
noncomputable def dP:List D->aQ
 |[.dct ks ds]=>(o5 ks ds).bind λal=>some (.lst (encK al))
 |_=>none
theorem we{pins:aH}{σ:St}{H:Hp}{s:KN}(I:`h){a:KI}{kvs:List (List Key×V)}(e:Rd H a (.dT kvs)):kvs.length<=KS/\(a==sysModules)=false/\∃o es ep,Cv a o es ep s.heap/\es.size=kvs.length/\∀(i:Nat) u,es[i]?=some u->∃b q,u.key=.ref b/\kvs[i]?.map (·.1)=some q/\H b=some (.tup (q.map kV)):=by
 obtain⟨z,hd,xs,rel,o,es,ep,h1,h2,h3,h4,_⟩:=kY I.hok e;have hl:es.size=kvs.length:=by rw[<-Array.length_toList,h4,Hx];exact(Paired.length rel).symm
 refine⟨z,hd,o,es,ep,⟨h1,h2,h3⟩,hl,λi u eu=>?_⟩;have hi:i<kvs.length:=by
  have:=(Array.getElem?_eq_some_iff.mp eu).1
  omega
 obtain⟨x,ex,f1,f2,f3⟩:=lE rel (i:=i) (x:=kvs[i]) (by simp[hi])
 have:es.toList[i]?=some (entryOfKey (tupleKind (aJ X.prog X.w)) x):=by rw[h4,Ht,ex];rfl
 rw[Array.getElem?_toList,eu]at this;cases this;exact⟨x.2.1,kvs[i].1,rfl,by simp[hi],f2⟩
theorem qL(hc:X.calm=true):dL X (.type "list") (AJ X.K dP):=by
 rintro pins s σ H xs us Q I r ⟨O,ds,d,hO,hd,hg,q⟩;unfold dP at hg;split at hg
 ·rename_i ks vs0;cases hk:o5 ks vs0 with
  |none=>rw[hk]at hg;cases hg
  |some al=>
   rw[hk]at hg;cases hg;obtain⟨v,ev,h1⟩:=hd.one;subst ev;obtain⟨a,ea,hh⟩:=ki h1 hk;subst ea;obtain⟨u,rfl,ru⟩:=vals1 r;cases ru;have fin:∀(H0:Hp)(kvs:List (List Key×V)),Inv X pins σ H0 s->Rd H0 a (.dT kvs)->kvs.map (·.1)=al.map (·.1)->(∀b ys,H0 b=some (.tup ys)->H b=some (.tup ys))->K2 `i X.A (call (.type "list") [.ref a]) (EP X pins σ Q) X.xe s:=λH0 kvs I0 hr hk2 ht=>by
    obtain⟨z,hs,o,es,ep,raw,hsz,hkey⟩:=we I0 hr;have hl:al.length=kvs.length:=(by have:=congrArg List.length hk2;simpa using this.symm);refine PySem.W.kdl_call (x5 hs) (I.ok.hd hc) raw (by rw[hsz];exact z) λh' tk acc' c' kp e2 it=>?_;have key:∃ws:az,Vals ws acc'.toList/\av X.K (hid H O) (encK al) ws:=by
     have hlen:acc'.toList.length=al.length:=(by rw[Array.length_toList,it.1,hsz,hl]);have each:∀(j:Nat)(u:KG),acc'.toList[j]?=some u->∃b q,u=.ref b/\al[j]?.map (·.1)=some q/\H b=some (.tup (q.map kV)):=λj u e=>by
      obtain⟨en,e3,e4⟩:=it.2 j u (by rw[<-Array.getElem?_toList];exact e);obtain⟨b,q,w1,w2,w3⟩:=hkey j en e3;refine⟨b,q,by rw[e4,w1],?_,ht _ _ w3⟩
      have:=congrArg (λl=>l[j]?) hk2
      simp only[Ht]at this;rw[<-this];exact w2
     clear it e2;generalize acc'.toList=us at hlen each;clear hk hl hk2 h1 hh q
     induction us generalizing al with
     |nil=>
      cases al with
      |nil=>exact⟨[],.nil,bB.mpr rfl⟩
      |cons _ _=>cases hlen
     |cons u us ih=>
      cases al with
      |nil=>cases hlen
      |cons p al=>
       obtain⟨ws,w1,w2⟩:=ih (al:=al) (by simpa using hlen) λj u e=>by
        have:=each (j+1) u (by rw[Jw];exact e)
        rw[Jw]at this;exact this
       obtain⟨b,q,e1,e2,e3⟩:=each 0 u rfl;cases e2;have bO:b∉O:=λz=>by
        obtain⟨u',q1,q2⟩:=hO.2 b z;rw[e3]at q1;cases q1;exact q2
       exact⟨.ref b::ws,.cons (by rw[e1];rfl) w1,aI.mpr ⟨.ref b,ws,rfl,bm.mpr ⟨b,_,rfl,by rw[dR bO];exact e3,kz p.1⟩,w2⟩⟩
    obtain⟨ws,rv,dn⟩:=key;have wl:ws.length<=KS:=(by rw[<-dn.length,Hx,hl];exact z);refine⟨.ref s.heap.objs.size,_,I.laid (t':=tk) kp (Hi _) (show bC X.prog X.w _ h' _ (.lst ws)from⟨wl,acc'.toList,c',rv,by simpa using e2⟩),rfl,?_⟩;have hf:=I.hok.fresh (Hi s.heap.objs.size);exact q _ _ (bh hf _) (cY hO hf dn)
   rcases hh with⟨kvs,hr,e1,_⟩|⟨hr,e1⟩
   ·refine fin H kvs I ?_ e1 λ_ _ z=>z;rcases hr with hr|⟨o,hr⟩
    ·exact .inl ((ai H O) _ _ hr)
    ·exact .inr ⟨o,(ai H O) _ _ hr⟩
   ·have ha:=(ai H O) _ _ hr;refine fin _ [] (uq I ha) (.inl ao) (by rw[e1];rfl) λb ys eb=>?_;by_cases z:b=a
    ·rw[z,ao]at eb;cases eb
    ·rw[aq z]at eb;exact eb
 ·cases hg
end
end TG
namespace TG
open PySem PySem.Spec PySem.Calls L2
variable[aj]
noncomputable def dg(dd k:D):aQ:=match dd with
 |.dct ks ds=>(o5 ks ds).bind λal=>(cG k).bind λq=>fY al q
 |_=>none
theorem rN{H:Hp}{O:ah}{a:KI}{u:HO}(h:Rd (hid H O) a u):Rd H a u:=by
 rcases h with h|⟨o,h⟩
 ·exact .inl ((ai H O) _ _ h)
 ·exact .inr ⟨o,(ai H O) _ _ h⟩
end TG
namespace L2
open PySem PySem.Spec PyProof.Rows
end L2
namespace TG
open PySem PySem.Spec L2
variable[aj]
end TG
namespace TG
open PySem PySem.Spec L2
variable[aj]
section
variable{K:J1}{Hb H:Hp}{Ob O:ah}{ρ:af}{σ:St}
theorem bx.hide(E:bx K Hb Ob O H ρ σ){p:KI}{o:HO}(m:kf o)(hp:H p=none):bx K Hb Ob (p::O) (upd H p o) ρ σ:=
 ⟨E.env.hideNew m hp,⟨E.base.same.trans (bh hp o),fun a ha=>Ha _ (E.base.sub a ha),fun a ha=>by
  rcases List.mem_cons.mp ha with z|z
  ·rw[z];exact .inr (E.base.same.free hp)
  ·exact E.base.new a z⟩,E.mine,λj d q=>(E.nst j d q).to rfl (eI hp) (λb q1 q2 q3 q4 zq=>zq.elim λo' ho=>⟨aq (aN ho hp),Ha _ q1,q2,q4⟩) λl d' w=>⟨d',w⟩⟩
theorem bx.new(E:bx K Hb Ob O H ρ σ){p:KI}(hp:H p=none):Hb p=none/\p∉Ob/\∀(j:Nat) d',ρ[j]?=some (some (.own d'))->σ[j]?≠some (some (.ref p)):=by
 have pO:=E.env.all.not hp;refine⟨E.base.same.free hp,λz=>pO (E.base.sub p z),λj d' w z=>?_⟩;obtain⟨c,e1,e2,_⟩:=E.env.own j d' w;rw[z]at e1;cases e1;exact pO e2
theorem bx.setL(E:bx K Hb Ob O H ρ σ){i:Nat}(hi:i<σ.length)(hn:y6 ρ=true){p:KI}{bs:ah}{d:D}(new:pG K H O p bs d)(nd:(p::bs).Nodup)(hb:∀b∈p::bs,b∈O/\Hb b=none/\b∉Ob/\∀(j:Nat) d',ρ[j]?=some (some (.own d'))->σ[j]?≠some (some (.ref b))):
  bx K Hb Ob O H (ρ.set i (some (.nest d))) (σ.set i (some (.ref p))):=by
 have key:∀(j:Nat)(x:S),(ρ.set i (some (.nest d)))[j]?=some (some x)->(j=i/\x=.nest d)\/(j≠i/\ρ[j]?=some (some x)/\(σ.set i (some (.ref p)))[j]?=σ[j]?):=λj x e=>by
  rcases au e with⟨hj,q⟩|⟨ne,q⟩
  ·cases q;exact .inl ⟨hj,rfl⟩
  ·exact .inr ⟨ne,q,Hf (Ne.symm ne)⟩
 have own:∀(j:Nat) xs,(ρ.set i (some (.nest d)))[j]?=some (some (.own xs))->ρ[j]?=some (some (.own xs))/\(σ.set i (some (.ref p)))[j]?=σ[j]?:=λj xs e=>by
  rcases key j _ e with⟨_,q⟩|⟨_,q⟩
  ·cases q
  ·exact q
 refine⟨⟨λj d1 e=>?_,λj xs e=>?_,λj l xs ys a e1 e2 e3 e4=>?_,E.env.all⟩,E.base,λj xs a e1 e2=>?_,λj dn e=>?_⟩
 ·rcases key j _ e with⟨_,q⟩|⟨_,q,w⟩
  ·cases q
  ·rw[w];exact E.env.val j d1 q
 ·obtain⟨q,w⟩:=own j xs e;rw[w];exact E.env.own j xs q
 ·obtain⟨q1,w1⟩:=own j xs e1;obtain⟨q2,w2⟩:=own l ys e2;rw[w1]at e3;rw[w2]at e4;exact E.env.one j l xs ys a q1 q2 e3 e4
 ·obtain⟨q,w⟩:=own j xs e1;rw[w]at e2;exact E.mine j xs a q e2
 ·rcases key j _ e with⟨hj,q⟩|⟨_,q,_⟩
  ·cases q;subst hj;refine⟨p,bs,He hi,new,nd,λb h=>?_,λl d' w=>?_⟩
   ·obtain⟨w1,w2,w3,w4⟩:=hb b h;exact⟨w1,w2,w3,λl d' w=>by obtain⟨q,z⟩:=own l d' w;rw[z];exact w4 l d' q⟩
   ·rcases key l _ w with⟨hl,_⟩|⟨_,q,_⟩
    ·exact hl
    ·exact absurd q (gS hn l d')
  ·exact absurd q (gS hn j dn)
theorem qB:∀{bs:ah}{xs:List D}{c:Nat}{x:D},kP K H O bs xs->bs.Nodup->xs[c]?=some x->∃b,bs[c]?=some b/\bS K H O b x/\∀(H':Hp)(O':ah)(x':D),(∀c'∈bs,c'≠b->∀z,bS K H O c' z->bS K H' O' c' z)->bS K H' O' b x'->kP K H' O' bs (xs.set c x')
 |b::bs,y::xs,0,x,h,nd,e=>by
  cases e;exact⟨b,rfl,h.1,λH' O' x' f n=>⟨n,h.2.imp λc hc=>f c (Ha _ hc) λz=>(List.nodup_cons.mp nd).1 (by rw[<-z];exact hc)⟩⟩
 |b::bs,y::xs,c+1,x,h,nd,e=>by
  obtain⟨b',q1,q2,q3⟩:=qB h.2 (List.nodup_cons.mp nd).2 (show xs[c]?=some x from e);exact⟨b',q1,q2,λH' O' x' f n=>⟨f b G9 (λz=>(List.nodup_cons.mp nd).1 (by rw[z];exact Hv q1)) _ h.1,q3 H' O' x' (λc' hc=>f c' (Ha _ hc)) n⟩⟩
 |[],_::_,_,_,h,_,_=>h.elim
 |[],[],_,_,_,_,e=>by simp at e
end
end TG
namespace TG
open PySem PySem.Spec L2
variable[aj]
end TG
namespace TG
open PySem PySem.Spec L2
variable[aj]
end TG
namespace TG
open PySem PySem.Spec L2
variable[aj]
end TG
namespace L2
open PySem PySem.Spec PyProof.Rows
end L2
namespace TG
open PySem PySem.Spec L2
variable[aj]
end TG
namespace TG
open PySem PySem.Spec PySem.Calls L2
variable[aj]
end TG
namespace TG
open PySem PySem.Spec PySem.Calls L2
variable[aj]
section
variable{X:Cx}{pos:Pos}
noncomputable def EB(n:Nat)(g:xP):GF:=λd ρ=>match d with
 |.lst xs=>if xs.length=n then g xs ρ else none
 |_=>none
end
end TG
namespace TG
open PySem PySem.Spec L2
variable[aj]
end TG
namespace TG
open PySem PySem.Spec PySem.Calls L2
variable[aj]
end TG
namespace TG
open PySem PySem.Spec PySem.Calls L2
variable[aj]
end TG
namespace L2
open PySem PySem.Spec PyProof.Rows
end L2
namespace TG
open PySem PySem.Spec L2
variable[aj]
end TG
namespace TG
open PySem PySem.Spec PySem.Calls L2
variable[aj]
end TG
namespace TG
open PySem PySem.Spec PyProof.Rows L2
end TG
namespace TG
open PySem PySem.Spec L2
variable[aj]
theorem bx.rewr{K:J1}{Hb H:Hp}{Ob O:ah}{ρ:af}{σ:St}(S:bx K Hb Ob O H ρ σ)(hn:y6 ρ=true){p:KI}{o:HO}(m:kf o)(hp:p∈O)(hb:Hb p=none)(hs:∀(j:Nat) d',ρ[j]?=some (some (.own d'))->σ[j]?≠some (some (.ref p))):bx K Hb Ob O (upd H p o) ρ σ:=
 ⟨S.env.rewrite m hp hs,⟨fun c u h=>by
  have cp:c≠p:=λz=>by rw[z,hb]at h;cases h
  rw[aq cp];exact S.base.same c u h,S.base.sub,S.base.new⟩,S.mine,λj d q=>absurd q (gS hn j d)⟩
theorem ly{K:J1}{H:Hp}{O:ah}:∀{bs:ah}{ds:List D},bs.length=ds.length->(∀b∈bs,H b=some (.dT []))->kP K H O bs (ds.map λ_=>.dct [] [])
 |[],[],_,_=>trivial
 |b::bs,_::ds,e,h=>⟨⟨.dT [],[],h b G9,bB.mpr rfl,.inr ⟨[],rfl,rfl,rfl⟩⟩,ly (Nat.succ.inj e) λb hb=>h b (Ha _ hb)⟩
 |[],_::_,e,_=>by cases e
 |_::_,[],e,_=>by cases e
noncomputable def gu(i:Nat)(G:aL):bN:=λk ρ=>(sZ (G ρ)).bind λds=>if y6 ρ&&small ds.length then k.nx (ρ.set i (some (.nest (.lst (ds.map λ_=>.dct [] [])))))else un
theorem uc{K:J1}{H:Hp}{O:ah}{σ:St}(h:bL H O):bX K O H [none] σ:=by
 have no:∀(i:Nat) x,([none]:af)[i]?≠some (some x):=λi x z=>by
  cases i with
  |zero=>cases z
  |succ i=>cases z
 exact⟨λi d e=>absurd e (no _ _),λi d e=>absurd e (no _ _),λi j xs ys a e=>absurd e (no _ _),h⟩
theorem El{X:Cx}{tg iter:KJ}{scope:KZ}{N:aK}{G:aL}{i:Nat}{y:Str}{dp lpos py spos:Pos}(hN:X.N.Nodup)(hi':X.N[i]?=some y)(hx:Loc X.env.scope y)
  (hc:X.calm=true) (ok:gR X scope N [none]) (hi:FI X tg iter G) (hb:∀cl C' fp s H E,FG (aR X scope N cl C' fp s H E) tg (gN 0))
  (hsw:swapsWith (.ListComp (.Dict [] [] dp) [⟨tg,iter,[],0⟩] scope lpos) (some (.Name y py)) spos.line X.env=pure true:=by rfl)
  (hs:∀x,Lf iter X.env x=pure x:=by intro _;rfl)
  (hf:X.fn y=true\/X.env.scope.names.lookup y=some .local:=by first|exact .inl rfl|exact .inr rfl|assumption):
  FS X (.Assign [.Name y py] (.ListComp (.Dict [] [] dp) [⟨tg,iter,[],0⟩] scope lpos) spos) (gu i G):=λHb Ob pins s σ H E I zq=>zq.elim λO zq=>zq.elim λρ zq=>zq.elim λk zq=>zq.elim λr zq=>zq.elim λS zq=>zq.elim λhF hk=>by
 unfold gu at hF;cases eG:G ρ with
 |error z=>rw[eG]at hF;exact absurd hF.symm hk.ne
 |ok ds=>
 rw[eG]at hF;have hF:(if y6 ρ&&small ds.length then k.nx (ρ.set i (some (.nest (.lst (ds.map λ_=>.dct [] [])))))else un)=r:=hF;cases hn':y6 ρ&&small ds.length with
 |false=>rw[hn']at hF;exact absurd hF.symm hk.ne
 |true=>
 rw[hn',if_pos rfl]at hF;obtain⟨hn,hz⟩:=HB _ _ ▸ hn';refine wN (wi:=Ew X G) (g:=Dt X.K (gN 0)) (tc:=zL X.K ca) (te:=vV) hN hi' hx hc ok.cell ok.kind ok.names ok.free ok.ix hi (λcl C' fp s H E=>⟨hb cl C' fp s H E,λpins s σ H Q I zq=>zq.elim λO zq=>zq.elim λρ zq=>zq.elim λb zq=>zq.elim λe1 zq=>zq.elim λe2 q=>yt pins s σ H Q I ⟨O,ρ,e1,by rw[e2];exact q⟩,wu⟩) hsw hs hf pins s σ H E I ?_;refine⟨O,ρ,S.env,?_⟩;rw[eG];intro J H1 s1 wk D hD;have S1:=S.same s1;obtain⟨d1,d2,d3⟩:=S1.new hD;refine⟨λi m σ' H'=>m=ds.length-i/\i<=ds.length/\∃O' bs,bs.length=i/\bx X.K Hb Ob O' H' ρ σ/\aD (hid H1 O) (hid H' O')/\H' D=some (.lst (bs.map .ref))/\(D::bs).Nodup/\(∀b∈D::bs,b∈O'/\Hb b=none/\b∉Ob/\∀(j:Nat) d',ρ[j]?=some (some (.own d'))->σ[j]?≠some (some (.ref b)))/\∀b∈bs,H' b=some (.dT []),
  ⟨ds.length,by rw [Im],HP _,D::O,[],rfl,S1.hide trivial hD,eI hD,ao,by simp,fun b hb=>by
   rw[List.mem_singleton.mp hb];exact⟨G9,d1,d2,d3⟩,λb hb=>nomatch hb⟩,?_⟩
 rintro i m σ' H' ⟨rfl,hi,O',bs,hl,S',sH,hacc,nd,hbs,hem⟩;by_cases hlt:i<ds.length
 ·right;obtain⟨go,yl⟩:=(wk H' O' i S'.env.all sH).1 ds[i] (by simp[hlt]);refine⟨go,λx H2 y=>?_⟩;obtain⟨s2,dx'⟩:=yl x H2 y;refine⟨O',[none],ds[i],[some (.val ds[i])],uc (S'.env.all.same s2),dx',rfl,λσ3 E3 _=>?_⟩;refine⟨O',_,true,E3,rfl,λH4 s4=>vx λp hp=>?_⟩;have s24:=s2.trans s4;have S4:=S'.same s24;obtain⟨p1,p2,p3⟩:=S4.new hp;have a4:=s24 _ _ hacc;have Dp:D≠p:=aN a4 hp;have bp:∀b∈bs,b≠p:=λb hb=>aN (s24 _ _ (hem b hb)) hp;have hzl:ds.length<KS:=Ir (of_decide_eq_true hz) (by decide);have S5:=S4.hide (o:=.dT []) trivial hp;obtain⟨D1,D2,D3,D4⟩:=hbs D G9;have S6:=S5.rewr hn (o:=.lst (bs.map .ref++[.ref p])) trivial (Ha _ D1) D2 D4;refine⟨bs.map .ref,by rw[aq Dp];exact a4,by rw[Hx];omega,ds.length-(i+1),by omega,rfl,hlt,p::O',bs++[p],by rw[Hw,hl];rfl,S6,?_,?_,?_,λb hb=>?_,λb hb=>?_⟩
  ·exact((sH.trans (aU s24)).trans (eI hp)).trans (dI (Ha _ D1))
  ·rw[ao,Ij];rfl
  ·obtain⟨n1,n2⟩:=List.nodup_cons.mp nd;refine List.nodup_cons.mpr ⟨λz=>?_,?_⟩
   ·rcases List.mem_append.mp z with z|z
    ·exact n1 z
    ·exact Dp (List.mem_singleton.mp z)
   ·exact List.nodup_append.mpr ⟨n2,by simp,λa ha b hb=>by rw[List.mem_singleton.mp hb];exact bp a ha⟩
  ·rcases List.mem_cons.mp hb with z|z
   ·rw[z];exact⟨Ha _ D1,D2,D3,D4⟩
   ·rcases List.mem_append.mp z with z|z
    ·obtain⟨q1,q2⟩:=hbs b (Ha _ z);exact⟨Ha _ q1,q2⟩
    ·rw[List.mem_singleton.mp z];exact⟨G9,p1,p2,p3⟩
  ·have bD:b≠D:=λz=>by
    rcases List.mem_append.mp hb with q|q
    ·exact(List.nodup_cons.mp nd).1 (by rw[<-z];exact q)
    ·exact Dp (by rw[<-z];exact List.mem_singleton.mp q)
   rw[aq bD];rcases List.mem_append.mp hb with z|z
   ·rw[aq (bp b z)];exact s24 _ _ (hem b z)
   ·rw[List.mem_singleton.mp z];exact ao
 ·left;have ei:i=ds.length:=by omega
  subst ei;refine⟨(wk H' O' ds.length S'.env.all sH).2 rfl,?_⟩;refine hk.nx _ _ _ _ (S'.setL (by rw[I.len];exact(List.getElem?_eq_some_iff.mp hi').1) hn (bs:=bs) ⟨_,ly hl hem,.inl ⟨rfl,hacc⟩⟩ nd hbs) hF
end TG
namespace TG
open PySem PySem.Spec L2
variable[aj]
theorem bx.putN{K:J1}{Hb H:Hp}{Ob O:ah}{ρ:af}{σ:St}(S:bx K Hb Ob O H ρ σ){i c:Nat}{xs:List D}{x:D}(hi:ρ[i]?=some (some (.nest (.lst xs))))(hc:xs[c]?=some x):
  ∃(a:KI)(bs:ah)(l:KI),σ[i]?=some (some (.ref a))/\H a=some (.lst (bs.map .ref))/\bs[c]?=some l/\l∈O/\bS K H O l x/\∀(H2:Hp)(o':HO)(x':D),aD H H2->kf o'->bS K (upd H2 l o') O l x'->bx K Hb Ob O (upd H2 l o') (ρ.set i (some (.nest (.lst (xs.set c x'))))) σ:=by
 obtain⟨a,bs,ha,⟨xs',hO,hat⟩,nd,hbs,one⟩:=S.nst i _ hi;obtain⟨rfl,hHa⟩:xs'=xs/\H a=some (.lst (bs.map .ref)):=by
  rcases hat with⟨e,q⟩|⟨_,e,_⟩|⟨e,_⟩
  ·cases e;exact⟨rfl,q⟩
  ·cases e
  ·cases e
 obtain⟨na,nb⟩:=List.nodup_cons.mp nd;obtain⟨aO,aHb,aOb,aS⟩:=hbs a G9;obtain⟨l,hl,hat,new⟩:=qB hO nb hc;have lb:=Hv hl;have la:l≠a:=λz=>na (by rw[<-z];exact lb);obtain⟨lO,lHb,lOb,lS⟩:=hbs l (Ha _ lb);refine⟨a,bs,l,ha,hHa,hl,lO,hat,λH2 o' x' s2 mo ow=>?_⟩;have sm5:aD (hid H O) (hid (upd H2 l o') O):=(aU s2).trans (dI lO);refine S.setN hi (λc hc=>hc) sm5 ⟨λc u h=>?_,S.base.sub,S.base.new⟩ ((S.env.all.same s2).upd lO mo) (λj xs c w1 w2=>?_) ?_
 ·have cl:c≠l:=λz=>by rw[z,lHb]at h;cases h
  rw[aq cl];exact s2 _ _ (S.base.same c u h)
 ·obtain⟨c',q1,q2,q3⟩:=S.env.own j xs w1;rw[w2]at q1;cases q1;obtain⟨o,ho⟩:=q3.some;have cl:c≠l:=λz=>lS j xs w1 (by rw[<-z];exact w2);rw[ho,aq cl];exact(s2 _ _ ho).symm
 ·have own:∀(j:Nat) d' d2,(ρ.set i (some (.nest d2)))[j]?=some (some (.own d'))->ρ[j]?=some (some (.own d')):=λj d' d2 w=>by
   rcases au w with⟨_,z⟩|⟨_,z⟩
   ·cases z
   ·exact z
  refine⟨a,bs,ha,⟨_,new _ _ x' (λc hc ne x hx=>hx.mono ?_ sm5) ow,.inl ⟨rfl,?_⟩⟩,nd,λc hc=>?_,λj d' w=>?_⟩
  ·obtain⟨o,ho⟩:=hx.some;rw[aq ne,ho,s2 _ _ ho]
  ·rw[aq (Ne.symm la)];exact s2 _ _ hHa
  ·obtain⟨w1,w2,w3,w4⟩:=hbs c hc;exact⟨w1,w2,w3,λj d' w=>w4 j d' (own j d' _ w)⟩
  ·rcases au w with⟨hj,_⟩|⟨_,z⟩
   ·exact hj
   ·exact one j d' z
noncomputable def f6(xs:List D)(c k v:D):ii:=match c with
 |.int (.ofNat c)=>(match xs[c]? with
  |some (.dct ks ds)=>(k6 ks ds k v).map λal=>xs.set c (aT al)
  |_=>none)
 |_=>none
theorem qu{xs xs':List D}{c k v:D}(h:f6 xs c k v=some xs'):∃c' ks ds al,c=.int (Int.ofNat c')/\xs[c']?=some (.dct ks ds)/\k6 ks ds k v=some al/\xs'=xs.set c' (aT al):=by
 unfold f6 at h;split at h
 ·split at h
  ·rename_i e;obtain⟨al,q,z⟩:=Option.map_eq_some_iff.mp h;exact⟨_,_,_,al,rfl,e,q,z.symm⟩
  ·cases h
 ·cases h
noncomputable def fN(i:Nat)(u:List D->D->D->D->ii)(fe fk fv:FX):bN:=λk ρ=>match ρ[i]? with
 |some (some (.nest (.lst xs)))=>(sZ (fv ρ)).bind λv=>(sZ (fe ρ)).bind λc=>(sZ (fk ρ)).bind λq=>(rO (u xs c q v)).bind λys=>k.nx (ρ.set i (some (.nest (.lst ys))))
 |_=>un
theorem lP{i:Nat}{u:List D->D->D->D->ii}{fe fk fv:FX}{k:Ks}{ρ:af}{r:R D}(h:fN i u fe fk fv k ρ=r)(hr:r≠un):∃xs v c q ys,ρ[i]?=some (some (.nest (.lst xs)))/\fv ρ=.ok v/\fe ρ=.ok c/\fk ρ=.ok q/\u xs c q v=some ys/\k.nx (ρ.set i (some (.nest (.lst ys))))=r:=by
 unfold fN at h;split at h
 ·rename_i xs hi;cases e1:fv ρ with
  |error z=>rw[e1]at h;exact absurd h.symm hr
  |ok v=>
  cases e2:fe ρ with
  |error z=>rw[e1,e2]at h;exact absurd h.symm hr
  |ok c=>
  cases e3:fk ρ with
  |error z=>rw[e1,e2,e3]at h;exact absurd h.symm hr
  |ok q=>
  rw[e1,e2,e3]at h;have h:(rO (u xs c q v)).bind (λys=>k.nx (ρ.set i (some (.nest (.lst ys)))))=r:=h;cases e4:u xs c q v with
  |none=>rw[e4]at h;exact absurd h.symm hr
  |some ys=>rw[e4]at h;exact⟨xs,v,c,q,ys,hi,rfl,rfl,rfl,e4,h⟩
 ·exact absurd h.symm hr
end TG
namespace TG
open PySem PySem.Spec PySem.Calls L2
section
variable{prog:KP}{w:KO}{K:Type}[DecidableEq K]{knd:HeapKind prog w K}{A:KY}{E:aA}{s:KN}{d a:KI}{k:K}{xs:List (K×KI×KG)}
noncomputable def rk(xs:List (K×KI×KG))(k:K):List (K×KI×KG):=xs.filter λx=>decide (x.1≠k)
theorem AY:∀{xs:List (K×KI×KG)}{k:K}{j:Nat}{p:KI×KG},(xs.map (·.1)).Nodup->xs[j]?=some (k,p)->xs.eraseIdx j=rk xs k:=by
 intro xs
 induction xs with
 |nil=>intro k j p _ h;simp at h
 |cons x xs ih=>
  intro k j p hn h;rw[HF,List.nodup_cons]at hn;cases j with
  |zero=>
   cases(show x=(k,p)from Option.some.inj h);unfold rk;rw[List.eraseIdx_cons_zero,IG (by simp),List.filter_eq_self.mpr];intro y hy;exact decide_eq_true λz=>hn.1 (List.mem_map.mpr ⟨y,hy,z⟩)
  |succ j=>
   have hj:xs[j]?=some (k,p):=h;have hx:x.1≠k:=λz=>hn.1 (List.mem_map.mpr ⟨(k,p),Hv hj,z.symm⟩);unfold rk;rw[List.eraseIdx_cons_succ,IE (p:=λy:K×KI×KG=>decide (y.1≠k)) (decide_eq_true hx),ih hn.2 hj];rfl
theorem xA{Q:Option LQ->bu}(hu:knd.room A)(hkey:knd.is s.heap k a)(hm:s.heap.DictOfH knd d xs)(hsz:xs.length<=KS)
  (h1:∀p,atKey xs k=some p->∀h',h'.DictOfH knd d (rk xs k)->Ke d s.heap h'->Q (some (entryOfKey knd (k,p))) {s with heap:=h',toks:=s.toks+knd.draws k})
  (h2:atKey xs k=none->Q none {s with toks:=s.toks+knd.draws k}):
  K2 `g A (Builtin.Dict.takeOut d (.ref a)) Q E s:=by
 obtain⟨o,es,ep,ho,hc,hd,he,his,hn⟩:=hm;unfold Builtin.Dict.takeOut
 try with_reducible refine LA ?_
 refine Lc (knd.pyHash hu hkey (Lc (wpAny_dictFind_heap (s:={s with toks:=s.toks+knd.draws k}) hu hkey ho hd he his hn (λhno=>?_) λj p hj=>?_)))
 ·exact Lb (h2 (atKey_none_of_get hno))
 ·refine Lc (Mq (s:={s with toks:=s.toks+knd.draws k}) ho hd ?_);rw[entry_at he j,hj];refine Lc (wpAny_updateDictKeys (hz:=by have e:=size_of_entries he;omega) (s:={s with toks:=s.toks+knd.draws k}) ho hd (Lb (h1 p (atKey_of_get hn hj) _ ⟨_,_,ep+1,Kl _ ho (Obj.isFreed_of_dict (Obj.data_mapDictKeys hd _)),hc.mapDictKeys _,Obj.data_mapDictKeys hd _,?_,?_,?_⟩ (Heap.SameBut.update ..))))
  ·obtain⟨l⟩:=es;have he:l=xs.map (entryOfKey knd):=he;simp only[List.eraseIdxIfInBounds_toArray];rw[he,<-AY hn hj,Jx,Jx,Ij,Jy,Jz]
  ·intro x hx;exact knd.keeps (his x (List.mem_filter.mp hx).1) ho hd (Heap.SameBut.update ..)
  ·exact hn.sublist (List.Sublist.map _ JA)
theorem uO{x:KG}{Q:aA}(hu:knd.room A.in1)(hkey:knd.is s.heap k a)(hm:s.heap.DictOfH knd d xs)(hsm:(d==sysModules)=false)(hsz:xs.length<=KS)
  (h1:∀p,atKey xs k=some p->∀h' t',h'.DictOfH knd d (rk xs k)->Ke d s.heap h'->Q p.2 {s with heap:=h',toks:=t'})
  (h2:atKey xs k=none->∀t',Q x {s with toks:=t'}):
  K2 `g A (call (.builtin "dict.pop") [.ref d,.ref a,x]) Q E s:=by
 refine LD PySem.F.slot_dict_pop hm.typeIs PySem.F.entry_dict_pop ?_ (PySem.F.args_dict_pop_3 _ _ _);unfold Builtin.«dict.pop»;refine Lc ?_;unfold Builtin.Dict.keyAndDefault;refine Lc (Mo hm.typeIs ?_);show K2 _ _ (pure (d,Value.ref a,some x)) _ _ s;refine Lb ?_;have hp:(keyPart (Value.ref a)).isSome=false:=rfl;simp only[hp,HS,if_false];obtain⟨o,es,ep,ho,hc,hd,he,his,hn⟩:=id hm;refine Lc (Mq ho hd (Lc (Lb ?_)));cases hem:es.isEmpty with
 |true=>
  have:xs=[]:=by
   obtain⟨l⟩:=es
   have:l=[]:=(by simpa using hem);subst this;cases xs with
   |nil=>rfl
   |cons y ys=>cases he
  subst this;rw[if_pos rfl];refine Lc (LX (Lc (Lb ?_)));simp only[JB,if_true];refine Lc (Mw hsm ?_);exact Lc (LX (Lb ⟨_,rfl,h2 rfl _⟩))
 |false=>
  rw[if_neg Hg];refine Lc (xA hu hkey hm hsz (λp hp h' hm' hs'=>?_) λhno=>?_)
  ·simp only[Option.isNone_some,HS,if_false];exact Lc (wpAny_letGo (Lb ⟨_,rfl,h1 p hp _ _ hm' hs'⟩))
  ·simp only[JB,if_true];refine Lc (Mw hsm ?_);exact Lc (LX (Lb ⟨_,rfl,h2 hno _⟩))
end
theorem KT.out{H:Hp}{kvs:List (List Key×V)}{xs:List (List Key×KI×KG)}(r:KT H kvs xs)(k:ay):KT H (iK kvs k) (rk xs k):=by
 induction r with
 |nil=>exact .nil
 |@cons p q ps qs h t ih=>
  unfold iK rk;by_cases e:p.1=k
  ·rw[IG (by simp[e]),IG (by simp[<-h.1,e])];exact ih
  ·rw[IE (by simp[e]),IE (by simp[<-h.1,e])];exact .cons h ih
theorem xn{X:Cx}{pins:aH}{σ:St}{H:Hp}{s:KN}{a b:KI}{k:ay}{kvs:List (List Key×V)}{v:V}{r:KG}{A:KY}{E:aA}{Q:aA}(hu:A.units+1<Ln)(I:`h)(e:H a=some (.dT kvs))(eb:H b=some (.tup (k.map kV)))(rv:RelV v r)
  (h:∀v' w' s',(eA kvs k).getD v=v'->Inv X pins σ (upd H a (.dT (iK kvs k))) s'->RelV v' w'->Q w' s'):
  K2 `i A (call (.builtin "dict.pop") [.ref a,.ref b,r]) Q E s:=by
 obtain⟨z,hd,xs,rel,dd⟩:=Av I.hok e;have hz:xs.length<=KS:=by rw[<-Paired.length rel];exact z
 have hl2:(iK kvs k).length<=KS:=G3 (JC _ _) z;have q:=rel.val k;refine uO (LR hu) (fF I.hok eb) dd hd hz (λp hp h' t' dd' hs=>?_) λhn t'=>?_
 ·rw[hp]at q;obtain⟨v',ev,rv'⟩:=uS q;refine h v' _ _ (by rw[ev];rfl) ?_ rv';obtain⟨q,es,ep,hq,g2,g3,g4,_,g5⟩:=dd';refine gH I (by rw[e];exact True.intro) hs ⟨q,hq⟩ ⟨hl2,hd,_,(KT.out rel k).keeps λc ys ec=>?_,q,es,ep,hq,g2,g3,g4,g5⟩;rw[aq (xg ec e (λz=>nomatch z))];exact ec
 ·rw[hn]at q;have ev:=uV q;refine h v r _ (by rw[ev];rfl) ?_ rv
  have:iK kvs k=kvs:=List.filter_eq_self.mpr λy hy=>decide_eq_true λz=>by
   have:=List.find?_eq_none.mp (Option.map_eq_none_iff.mp ev) y hy
   simp[z]at this
  rw[this,show upd H a (.dT kvs)=H from funext λc=>if hc:c=a then by rw[hc,e,ao]else by rw[aq hc]];exact I.tok _
variable[aj]
noncomputable def Di:V->az->Hp->VK->Prop:=λx vs H Q=>∃a b k kvs v,x=.ref a/\vs=[.ref b,v]/\H b=some (.tup (k.map kV))/\(H a=some (.dT kvs)\/(H a=some (.dK [])/\kvs=[]))/\Q ((eA kvs k).getD v) (upd H a (.dT (iK kvs k)))
theorem zf{X:Cx}(hu:X.A.units+64<Ln):FP X "dict.pop" Di:=by
 intro pins s σ H x vs v us Q I rx rv h;obtain⟨a,b,k,kvs,v',rfl,rfl,hb,ha,h1⟩:=h;cases rx;obtain⟨u1,u,rfl,r1,ru⟩:=rv.two;obtain rfl:u1=Value.ref b:=r1;rcases ha with ha|⟨ha,rfl⟩
 ·exact xn `o I ha hb ru λv1 w1 s1 e I1 r=>⟨v1,_,I1,r,by rw[<-e];exact h1⟩
 ·have ne:b≠a:=λz=>by rw[z,ha]at hb;cases hb
  refine xn `o (uq I ha) ao (by rw[aq ne];exact hb) ru λv1 w1 s1 e I1 r=>⟨v1,_,by rw[k7]at I1;exact I1,r,by rw[<-e];exact h1⟩
end TG
namespace TG
open PySem PySem.Spec L2
variable[aj]
noncomputable def gC(al:bo)(q:ay):bo:=al.filter λp=>decide (p.1≠q)
theorem vt{K:J1}{H:Hp}(q:ay):∀{kvs:List (List Key×V)}{al:bo},kvs.map (·.1)=al.map (·.1)->av K H (al.map (·.2)) (kvs.map (·.2))->(iK kvs q).map (·.1)=(gC al q).map (·.1)/\av K H ((gC al q).map (·.2)) ((iK kvs q).map (·.2)):=by
 intro kvs
 induction kvs with
 |nil=>
  intro al e h;cases al with
  |nil=>exact⟨rfl,bB.mpr rfl⟩
  |cons=>cases e
 |cons p kvs ih=>
  intro al e h;cases al with
  |nil=>cases e
  |cons x al=>
   rw[HF,HF]at e h;injection e with e1 e2;obtain⟨v,vs,q1,q2,q3⟩:=aI.mp h;injection q1 with q1 q4;subst q1 q4;obtain⟨i1,i2⟩:=ih e2 q3;unfold iK gC at i1 i2 ⊢;by_cases z:x.1=q
   ·rw[IG (by simp[e1,z]),IG (by simp[z])];exact⟨i1,i2⟩
   ·rw[IE (by simp[e1,z]),IE (by simp[z]),HF,HF,HF,HF,i1,e1];exact⟨rfl,aI.mpr ⟨_,_,rfl,q2,i2⟩⟩
noncomputable def gq(xs:List D)(c k v:D):ii:=match c with
 |.int (.ofNat c)=>(match xs[c]? with
  |some (.dct ks ds)=>(fE ks ds).bind λal=>(cG k).map λq=>xs.set c (aT (gC al q))
  |_=>none)
 |_=>none
theorem qx{xs xs':List D}{c k v:D}(h:gq xs c k v=some xs'):∃c' al q,c=.int (Int.ofNat c')/\xs[c']?=some (aT al)/\k=.tup (q.map ax)/\xs'=xs.set c' (aT (gC al q)):=by
 unfold gq at h;split at h
 ·split at h
  ·rename_i e;obtain⟨al,q,z⟩:=Option.bind_eq_some_iff.mp h;obtain⟨k',q2,z2⟩:=Option.map_eq_some_iff.mp z;obtain⟨e1,e2⟩:=fJ q;refine⟨_,al,k',rfl,?_,dN q2,z2.symm⟩;rw[e,e1,e2]
  ·cases h
 ·cases h
end TG
namespace TG
open PySem PySem.Spec L2
variable[aj]
section
variable{X:Cx}{o e:KJ}{apos cpos:Pos}
theorem Ai{pins:aH}{σ:St}{H:Hp}{s:KN}{a:KI}{y:V}{u:KG}{w:Option V}{A:KY}{E:aA}{Q:aA}(hu:A.units+1<Ln)(I:L2.Inv X pins σ H s)(g:AF H a y w)(ry:RelV y u)(h:∀w' s',L2.Inv X pins σ H s'->RelV (w.getD .non) w'->Q w' s'):
  K2 `i A (call (.builtin "dict.get") [.ref a,u]) Q E s:=by
 rcases g with g|⟨h1,rfl,b,k,rfl,hb⟩
 ·exact wH hu I g ry h
 ·have ne:b≠a:=λz=>by rw[z,h1]at hb;cases hb
  refine wH (o:=eA [] k) hu (uq I h1) (rF.t ao (by rw[aq ne];exact hb)) ry λw' s' I4 rw'=>h w' s' ?_ rw';have I5:=Dv I4 ao;rw[pH h1]at I5;exact I5
noncomputable def zZ(td ty:TE):TE:=λσ H Q=>td σ H λx H1=>∃a,x=.ref a/\Gk H1 a/\ty σ H1 λy H2=>∃o,AF H2 a y o/\Q (o.getD .non) H2
theorem ut{td ty:TE}(hu:X.A.units+1<Ln)(ho:PE X o td)(he:PE X e ty)(m:M1 X o "get" apos e cpos):PE X (.Call (.Attribute o "get" apos) [e] [] cpos) (zZ td ty):=by
 intro pins s σ H Q I h;refine wpAny_Call_method m.base m.few m.line PySem.F.plainAttrs_dict Kx PySem.F.type_dict_get (cc (ho pins s σ H _ I h) λu s1 zq=>zq.elim λx zq=>zq.elim λH1 zq=>zq.elim λI1 zq=>zq.elim λrx zq=>zq.elim λa zq=>zq.elim λex zq=>zq.elim λd q1=>?_);subst ex;obtain rfl:u=Value.ref a:=rx;obtain⟨t1,t2,_⟩:=Bx I1 d;refine⟨t1,t2,?_⟩;rw[m.trees];refine Calls.callWith_builtin rfl (Calls.evalArgs_plain (Calls.spliced_cons (cc (he pins s1 σ H1 _ I1 q1) λiv s2 zq=>zq.elim λy zq=>zq.elim λH2 zq=>zq.elim λI2 zq=>zq.elim λry zq=>zq.elim λov zq=>zq.elim λg q2=>Calls.spliced_nil ?_)));exact Ai hu I2 g ry λw' s4 I4 rw'=>⟨_,H2,I4,rw',q2⟩
noncomputable def xM(ks ds:List D)(k:D):aQ:=(o5 ks ds).bind λal=>(cG k).map λq=>(fY al q).getD .non
noncomputable def fV(fo fk:FX):FX:=λρ=>(fo ρ).bind λdd=>match dd with
 |.dct ks ds=>(fk ρ).bind λk=>rO (xM ks ds k)
 |_=>un
end
noncomputable def cf(x y:D):aQ:=match y with
 |.dct ks ds=>(o5 ks ds).bind λal=>(cG x).map λq=>.bl (!(al.any λp=>decide (p.1=q)))
 |_=>none
theorem nc{X:Cx}(hu:X.A.units+64<Ln):jc X (Lh .NotIn) (rD X.K cf):=by
 rintro pins s σ H x y u v Q I rx ry ⟨O,a,b,d,hO,ha,hb,hg,q⟩;cases b with
 |dct ks ds=>
  obtain⟨al,hk,hg⟩:=Option.bind_eq_some_iff.mp (show(o5 ks ds).bind (λal=>(cG a).map λq=>D.bl (!(al.any λp=>decide (p.1=q))))=some d from hg);obtain⟨qk,ht,rfl⟩:=Option.map_eq_some_iff.mp hg;rw[dN ht]at ha;obtain⟨p,ey,hh⟩:=ki hb hk;obtain⟨c,ws,ex,g1,g2⟩:=bm.mp ha;rw[cw g2]at g1;have g1':=(ai H O) _ _ g1;subst ex ey;cases ry;rcases hh with⟨kvs,k1,k2,k3⟩|⟨k1,rfl⟩
  ·have hv:=vT k2 qk;rw[Jr]at hv;refine rV `o I (.inr ⟨kvs,qk,c,rN k1,rfl,g1',rfl⟩) rx λs3 I3=>⟨.bl (!(eA kvs qk).isSome),H,I3,rfl,q _ H (aD.refl H) (gf.mpr ?_)⟩
   rw[hv];rfl
  ·have k1':=(ai H O) _ _ k1;have ne:c≠p:=λz=>by rw[z,k1']at g1';cases g1'
   refine rV (o:=eA [] qk) `o (uq I k1') (rF.t ao (by rw[aq ne];exact g1')) rx λs3 I4=>⟨.bl true,H,?_,rfl,q _ H (aD.refl H) (gf.mpr rfl)⟩
   have I5:=Dv I4 ao;rw[pH k1']at I5;exact I5
 |_=>cases hg
end TG
namespace TG
open PySem PySem.Spec L2
variable[aj]
theorem bx.frzB{K:J1}{Hb:Hp}{Ob O:ah}{H H':Hp}{ρ:af}{σ:St}(E:bx K Hb Ob O H ρ σ){i:Nat}{d d':D}(hd:ρ[i]?=some (some (.nest d))){a:KI}{bs:ah}(h1:σ[i]?=some (some (.ref a)))(h4:∀b∈a::bs,b∈O/\Hb b=none/\b∉Ob/\∀(j:Nat) d',ρ[j]?=some (some (.own d'))->σ[j]?≠some (some (.ref b)))(h5:∀(j:Nat) d',ρ[j]?=some (some (.nest d'))->j=i)
  (hH:∀b,b∉a::bs->H' b=H b) (tab:aj.tab H') (dn:aD (hid H O) (hid H' (O.filter λb=>decide (b∉a::bs)))->(∀b∈a::bs,b∉O.filter λb=>decide (b∉a::bs))->bH K (hid H' (O.filter λb=>decide (b∉a::bs))) d' (.ref a)):bx K Hb Ob (O.filter λb=>decide (b∉a::bs)) H' (TG.setV i d' ρ) σ:=by
 have sub:∀b∈O.filter (λb=>decide (b∉a::bs)),b∈O:=λb hb=>(List.mem_filter.mp hb).1;have na:∀b∈a::bs,b∉O.filter λb=>decide (b∉a::bs):=λb hb z=>(of_decide_eq_true (List.mem_filter.mp z).2) hb;have s:aD (hid H O) (hid H' (O.filter λb=>decide (b∉a::bs))):=λb u e=>by
  unfold hid at e ⊢;by_cases hb:b∈O
  ·rw[if_pos hb]at e;cases e
  ·rw[if_neg hb]at e;rw[if_neg λz=>hb (sub b z),hH b λz=>hb (h4 b z).1];exact e
 have bk:∀(l:Nat) x,(TG.setV i d' ρ)[l]?=some (some x)->(∀d,x≠.val d)->ρ[l]?=some (some x):=λl x e nv=>by
  rcases au e with⟨_,q⟩|⟨_,q⟩
  ·cases q;exact absurd rfl (nv _)
  ·exact q
 refine⟨⟨λj d1 e=>?_,λj xs e=>?_,λj l xs ys b e1 e2 e3 e4=>E.env.one j l xs ys b (bk j _ e1 (λ_ z=>nomatch z)) (bk l _ e2 (λ_ z=>nomatch z)) e3 e4,⟨tab,λb hb=>?_⟩⟩,⟨λb u e=>?_,λb hb=>?_,λb hb=>E.base.new b (sub b hb)⟩,λj xs b e1 e2=>E.mine j xs b (bk j _ e1 (λ_ z=>nomatch z)) e2,λj dn e=>?_⟩
 ·rcases au e with⟨hj,q⟩|⟨ne,q⟩
  ·cases q;rw[hj];exact⟨.ref a,h1,dn s na⟩
  ·obtain⟨w,q1,q2⟩:=E.env.val j d1 q;exact⟨w,q1,q2.mono s⟩
 ·obtain⟨b,q1,q2,q3⟩:=E.env.own j xs (bk j _ e (λ_ z=>nomatch z));have nb:b∉a::bs:=λz=>(h4 b z).2.2.2 j xs (bk j _ e (λ_ z=>nomatch z)) q1;exact⟨b,q1,List.mem_filter.mpr ⟨q2,decide_eq_true nb⟩,q3.mono (hH b nb).symm s⟩
 ·rw[hH b (of_decide_eq_true (List.mem_filter.mp hb).2)];exact E.env.all.2 b (sub b hb)
 ·rw[hH b λz=>by rw[(h4 b z).2.1]at e;cases e];exact E.base.same b u e
 ·exact List.mem_filter.mpr ⟨E.base.sub b hb,decide_eq_true λz=>(h4 b z).2.2.1 hb⟩
 ·have q:=bk j _ e (λ_ z=>nomatch z);have hj:=h5 j dn q;subst hj;rcases au e with⟨_,q⟩|⟨ne,_⟩
  ·cases q
  ·exact absurd rfl ne
noncomputable def nK:List D->Option (List bo)
 |[]=>some []
 |.dct ks ds::xs=>(fE ks ds).bind λal=>(nK xs).map (al::·)
 |_::_=>none
theorem qw:∀{xs:List D}{as:List bo},nK xs=some as->xs=as.map aT
 |[],as,h=>by cases h;rfl
 |.dct ks ds::xs,as,h=>by
  obtain⟨al,e1,h⟩:=Option.bind_eq_some_iff.mp (show((fE ks ds).bind λal=>(nK xs).map (al::·))=some as from h);obtain⟨r,e2,rfl⟩:=Option.map_eq_some_iff.mp h;obtain⟨f1,f2⟩:=fJ e1;rw[qw e2,f1,f2];rfl
 |.non::_,_,h=>by cases h
 |.bl _::_,_,h=>by cases h
 |.int _::_,_,h=>by cases h
 |.str _::_,_,h=>by cases h
 |.lst _::_,_,h=>by cases h
 |.tup _::_,_,h=>by cases h
 |.obj ..::_,_,h=>by cases h
 |.exc ..::_,_,h=>by cases h
noncomputable def CA(K:J1)(Hd H:Hp):ah->List (bo)->Prop
 |[],[]=>True
 |b::bs,al::as=>(∃o kvs,H b=some (.frz o (.dT kvs))/\kvs.map (·.1)=al.map (·.1)/\av K Hd (al.map (·.2)) (kvs.map (·.2)))/\CA K Hd H bs as
 |_,_=>False
theorem CA.den{K:J1}{Hd H':Hp}{O':ah}(s:aD Hd (hid H' O')):∀{bs:ah}{as:List bo},CA K Hd H' bs as->(∀b∈bs,b∉O')->av K (hid H' O') (as.map bv) (bs.map .ref)
 |[],[],_,_=>bB.mpr rfl
 |b::bs,al::as,h,n=>by
  obtain⟨⟨o,kvs,e1,e2,e3⟩,h2⟩:=h;refine aI.mpr ⟨.ref b,_,rfl,EG.mpr ⟨b,_,rfl,e3.mono s,.inr (.inr ⟨kvs,o,by rw[dR (n b G9)];exact e1,by rw[lF e2],rfl⟩)⟩,CA.den s h2 λb hb=>n b (Ha _ hb)⟩
 |[],_::_,h,_=>h.elim
 |_::_,[],h,_=>h.elim
theorem tG{X:Cx}{pins:aH}{σ:St}{s:KN}{H:Hp}{O:ah}:∀{bs:ah}{as:List bo}{H0:Hp},kP X.K H O bs (as.map aT)->bs.Nodup->(∀b∈bs,H0 b=H b)->(∀b∈bs,b∈O)->bL H O->Inv X pins σ H0 s->aj.tab H0->∃H1,Inv X pins σ H1 s/\aj.tab H1/\(∀b,b∉bs->H1 b=H0 b)/\CA X.K (hid H O) H1 bs as
 |[],[],H0,_,_,_,_,_,I,t=>⟨H0,I,t,λ_ _=>rfl,trivial⟩
 |b::bs,al::as,H0,h,nd,e0,hO,ok,I,t=>by
  obtain⟨n1,n2⟩:=List.nodup_cons.mp nd;have eb:=e0 b G9;obtain⟨u,m1,m2⟩:=ok.2 b (hO b G9);obtain⟨H1,o,kvs,I1,q1,q2,q3,q4⟩:∃H1 o kvs,Inv X pins σ H1 s/\H1 b=some (.frz o (.dT kvs))/\kvs.map (·.1)=al.map (·.1)/\av X.K (hid H O) (al.map (·.2)) (kvs.map (·.2))/\H1=upd H0 b (.frz o (.dT kvs)):=by
   rcases zQ h.1 with⟨kvs,k1,k2,k3⟩|⟨k1,rfl⟩
   ·obtain⟨o,I1⟩:=AW I (eb.trans k1);exact⟨_,o,kvs,I1,ao,k2,k3,rfl⟩
   ·obtain⟨o,I1⟩:=AW (uq I (eb.trans k1)) ao;rw[k7]at I1;exact⟨_,o,[],I1,ao,rfl,bB.mpr rfl,rfl⟩
  have t1:aj.tab H1:=by rw[q4];exact aj.own t (eb.trans m1) m2
  have k1:∀c,c≠b->H1 c=H0 c:=λc hc=>by rw[q4,aq hc]
  obtain⟨H2,I2,t2,k2,f2⟩:=tG (as:=as) h.2 n2 (H0:=H1) (λc hc=>(k1 c λz=>n1 (by rw[<-z];exact hc)).trans (e0 c (Ha _ hc))) (λc hc=>hO c (Ha _ hc)) ok I1 t1;exact⟨H2,I2,t2,λc hc=>(k2 c λz=>hc (Ha _ z)).trans (k1 c λz=>hc (by rw[z];exact G9)),⟨o,kvs,(k2 b n1).trans q1,q2,q3⟩,f2⟩
 |[],_::_,_,h,_,_,_,_,_,_=>h.elim
 |_::_,[],_,h,_,_,_,_,_,_=>h.elim
noncomputable def wo(i:Nat)(ρ:af):af:=match ρ[i]? with
 |some (some (.nest (.lst xs)))=>match nK xs with
  |some as=>setV i (.lst (as.map bv)) ρ
  |none=>ρ
 |_=>ρ
noncomputable def jf(i:Nat)(F:bN):bN:=λk ρ=>F k (wo i ρ)
end TG
namespace TG
open PySem PySem.Spec L2
variable[aj]
noncomputable def Fs(a:KI)(o:Obj)(kvs:List (List Key×V)):It:=
  ⟨fun i H=>H a=some (.frz o (.dT kvs))/\i < kvs.length,
   λi H v H'=>∃b q w,v=.ref b/\H'=H/\kvs[i]?=some (q,w)/\H b=some (.tup (q.map kV)),
   λi H=>H a=some (.frz o (.dT kvs))/\i=kvs.length⟩
theorem u6{P:KP}{w:KO}{K:J1}{tg:KJ}{a it:KI}{o:Obj}{es:Array LQ}{ep:Nat}{kvs:List (List Key×V)}(hda:o.data=.dict es ep):Turn P w K tg (Fs a o kvs) [it] it (λi h=>h.IsKeyIter it a i es.size ep)where
 mem:=by simp
 obj:=λi h hz c hc=>by
  rw[List.mem_singleton.mp hc];obtain⟨o,e,_,d⟩:=hz;exact⟨o,e,λv q=>by rw[d]at q;cases q⟩
 keep:=λi h h' st k=>st.at λo e=>k it (by simp) o e
 item:=by
  rintro X hP hw hK hc i pins s σ H E I hf hit ⟨ha,hi⟩;subst hP hw hK;obtain⟨ho,hx,_,es2,ep2,xs,h3,rel,h4⟩:=qS I ha;rw[hda]at h3;cases h3;have hl:es.size=xs.length:=by rw[<-Array.length_toList,h4,Hx]
  have hkl:kvs.length=xs.length:=Paired.length rel;have hlt:i<es.size:=by omega
  obtain⟨x,ex,f1,f2,f3⟩:=lE rel (i:=i) (x:=kvs[i]) (by simp[hi]);have ee:es[i]=entryOfKey (tupleKind (aJ X.prog X.w)) x:=by
   have:es.toList[i]?=some (entryOfKey (tupleKind (aJ X.prog X.w)) x):=(by rw[h4,Ht,ex];rfl);rw[Array.getElem?_toList,Array.getElem?_eq_getElem hlt]at this;exact Option.some.inj this
  obtain⟨g0,g1,g2,g3,g4,g5⟩:=hf it (by simp);refine mG hit ho hda hlt λh' st' sb=>?_;have I1:Inv X pins σ H {s with heap:=h'}:=I.turned (t':=s.toks) (λb o hb e=>(sb.2 b hb).trans e) g0 g1 g3 g4 g5;obtain⟨oi,e,c,d⟩:=id st';exact⟨_,rfl,rY (s:={s with heap:=h'}) e c d (by decide) ⟨.ref x.2.1,H,I1,by rw[ee];rfl,⟨x.2.1,kvs[i].1,kvs[i].2,rfl,rfl,by simp[hi],f2⟩,st',λb hb=>(hf b hb).1⟩⟩
 done:=by
  rintro X hP hw hK hc i pins s σ H E I hf hit ⟨ha,hi⟩;subst hP hw hK;obtain⟨ho,hx,_,es2,ep2,xs,h3,rel,h4⟩:=qS I ha;rw[hda]at h3;cases h3;have hl:es.size=xs.length:=by rw[<-Array.length_toList,h4,Hx]
  have hkl:kvs.length=xs.length:=Paired.length rel;exact oX (I.ok.hd hc) hit ho hda `o λh' eb=>⟨rfl,Inv.turned0 (ch:=[it]) I hf λc u hc e=>eb c u (by simpa using hc) e⟩
 self:=λ_ _ _ _ _ st h=>wpAny_pyIter_keyiter st h
theorem qN{K:J1}{Hd:Hp}{a:KI}{o:Obj}{kvs:List (List Key×V)}{al:bo}(h:Hd a=some (.frz o (.dT kvs)))(e1:kvs.map (·.1)=al.map (·.1)):Walk K Hd (Fs a o kvs) (encK al):=λHn O' i hO sm=>by
 have s':aD Hd Hn:=sm.trans (ai Hn O');have hl:kvs.length=al.length:=by have:=congrArg List.length e1;simpa using this
 refine⟨λd e=>?_,λhl'=>⟨s' _ _ h,by rw[hl',Hx,hl]⟩⟩;rw[Ht]at e;cases ep:al[i]? with
 |none=>rw[ep]at e;cases e
 |some p=>
  rw[ep]at e;cases e;have hi:i<al.length:=(List.getElem?_eq_some_iff.mp ep).1;refine⟨⟨s' _ _ h,by omega⟩,λx H2 zq=>zq.elim λb zq=>zq.elim λq zq=>zq.elim λw zq=>zq.elim λex zq=>zq.elim λeH zq=>zq.elim λek hb=>?_⟩;subst ex eH;have k1:q=p.1:=by
   have:=congrArg (λl=>l[i]?) e1
   simp only[Ht,ek,ep]at this;exact Option.some.inj this
  subst k1;have bO:b∉O':=λz=>by
   obtain⟨u,q1,q2⟩:=hO.2 b z;rw[hb]at q1;cases q1;exact q2
  exact⟨aD.refl _,bm.mpr ⟨b,_,rfl,by rw[dR bO];exact hb,kz p.1⟩⟩
noncomputable def tq:D->ii
 |.dct (.non::ks) ds=>(fE ks ds).map λal=>encK al
 |_=>none
noncomputable def ja(f:FX):aL:=λρ=>(f ρ).bind λd=>rO (tq d)
end TG
namespace TG
open PySem PySem.Spec L2
variable[aj]
section
variable{X:Cx}
noncomputable def BP(K:J1):az->Hp->VK->Prop:=λvs H Q=>∃(O:ah)(ps:bo)(ws:az)(p:KI),vs=[.ref p]/\bL H O/\jA K H p ws/\av K (hid H O) (ps.map λp=>.tup [.tup (p.1.map ax),p.2]) ws/\small ps.length=true/\∀(l:KI)(kvs':List (List Key×V)),H l=none->kvs'.map (·.1)=(nR ps).map (·.1)->av K (hid H O) ((nR ps).map (·.2)) (kvs'.map (·.2))->Q (.ref l) (upd H l (.dT kvs'))
theorem qM(hc:X.calm=true)(hu:X.A.units+64<Ln):dL X (.type "dict") (BP X.K):=by
 rintro pins s σ H xs us Q I r ⟨O,ps,ws,p,rfl,hO,g1,g2,sm,q⟩;obtain⟨u,rfl,ru⟩:=vals1 r;cases ru;obtain⟨its,rv,⟨o,n,ho,hcl,hd',hdd⟩,hz⟩:=I.list g1;obtain⟨L,ks,l1,l2,l3,l4,l5⟩:=jr I g2 rv;have kl:ks.length=ps.length:=by have:=congrArg List.length l4;simpa using this
 have ll:ks.length=L.length:=Paired.length l3;have key:∀{ks:List (List Key×V)}{L:List (List Key×KI×KG)},KT H ks L->∀x∈L,∀h,Keeps s.heap h->(tupleKind (aJ X.prog X.w)).is h x.1 x.2.1:=λ{ks L} kt=>by
  induction kt with
  |nil=>intro x hx;cases hx
  |cons hq _ ih=>
   intro x hx h kh;rcases List.mem_cons.mp hx with z|z
   ·subst z;obtain⟨e1,e2,_⟩:=hq;rw[e1]at e2;obtain⟨o,xs,n,k1,k2⟩:=fF I.hok e2;exact⟨o,xs,n,kh _ _ k1,k2⟩
   ·exact ih x z h kh
 obtain⟨f1,f2,f3,f4⟩:=lj (K:=X.K) (H:=H) (H0:=hid H O) (al:=[]) (kvs:=[]) (xs:=[]) l3 l4 l5 .nil rfl (bB.mpr rfl);have hsz:ps.length<=100000:=of_decide_eq_true sm;have sl:KS=16777216:=Lj;refine fX (knd:=tupleKind (aJ X.prog X.w)) (L:=L) ho hcl hdd hd' (I.ok.hd hc) (LR (by rw[in1_units];omega)) (by simpa using l1) `o (λi v e=>l2 i v (by simpa using e)) (key l3) λh' tk kp di=>?_;have hf:=I.hok.fresh (Hi s.heap.objs.size);obtain⟨⟨od,es,ep,k1,k2,k3,k4,k5⟩,_⟩:=di;have kt':KT (upd H s.heap.objs.size (.dT (ks.foldl (λm p=>putK m p.1 p.2) []))) (ks.foldl (λm p=>putK m p.1 p.2) []) (L.foldl (λxs x=>storedH xs x.1 x.2.1 x.2.2) []):=KT.keeps f1 λb ys eb=>by rw[aq (λz=>by rw[z,hf]at eb;cases eb)];exact eb
 refine⟨.ref s.heap.objs.size,_,I.laid (t':=tk) kp (Hi _) (show bC X.prog X.w _ h' _ (.dT (ks.foldl (λm p=>putK m p.1 p.2) []))from⟨by simp only[HL]at f4;omega,beq_eq_false_iff_ne.mpr (Ne.symm (G2 I.big)),_,kt',od,es,ep,k1,k2,k3,k4,k5⟩),rfl,?_⟩;exact q _ _ hf f2 f3
end
end TG
namespace TG
open PySem PySem.SetTable
noncomputable def vn(m:Nat):Nat->Nat->Nat
 |0,s=>s
 |d+1,s=>vn m d ((s*5+1)%(m+1))
noncomputable def E5(m:Nat):Nat->Nat->List Nat
 |0,_=>[]
 |n+1,s=>s::E5 m n ((s*5+1)%(m+1))
theorem tB{m:Nat}:∀{n s x:Nat},x∈E5 m n s->∃d,d<n/\vn m d s=x
 |n+1,s,x,h=>by
  rcases List.mem_cons.mp h with z|z
  ·exact⟨0,JD _,z.symm⟩
  ·obtain⟨d,h1,h2⟩:=tB z;exact⟨d+1,Nat.succ_lt_succ h1,h2⟩
theorem kq(m:Nat):∀(a b s:Nat),vn m (a+b) s=vn m b (vn m a s)
 |0,b,s=>by rw[IY];rfl
 |a+1,b,s=>by
  rw[show a+1+b=(a+b)+1 by omega];exact kq m a b _
theorem cover{m:Nat}(h1:((List.range (m+1)).all λe=>(E5 m (m+1) 0).contains e)=true)(h2:vn m (m+1) 0=0){s e:Nat}(hs:s<=m)(he:e<=m):∃d,d<=m/\vn m d s=e:=by
 have at':∀x,x<=m->∃d,d<m+1/\vn m d 0=x:=λx hx=>by
  have:=List.all_eq_true.mp h1 x (List.mem_range.mpr `o)
  exact tB (List.contains_iff_mem.mp this)
 obtain⟨a,a1,a2⟩:=at' s hs;obtain⟨b,b1,b2⟩:=at' e he;by_cases c:a<=b
 ·refine⟨b-a,by omega,?_⟩;rw[<-a2,<-kq,show a+(b-a)=b by omega];exact b2
 ·refine⟨m+1-a+b,by omega,?_⟩;rw[<-a2,<-kq,show a+(m+1-a+b)=(m+1)+b by omega,kq,h2];exact b2
noncomputable def yO(m:Nat):Prop:=m=7\/m=31\/m=127\/m=511
theorem uI{m:Nat}(h:yO m){s e:Nat}(hs:s<=m)(he:e<=m):∃d,d<=m/\vn m d s=e:=by
 rcases h with rfl|rfl|rfl|rfl
 ·exact cover (by decide +kernel) (by decide +kernel) hs he
 ·exact cover (by decide +kernel) (by decide +kernel) hs he
 ·exact cover (by decide +kernel) (by decide +kernel) hs he
 ·exact cover (by decide +kernel) (by decide +kernel) hs he
noncomputable def rs(m:Nat)(h:Int):Nat->Nat×Nat
 |0=>(bits h%(m+1),bits h)
 |r+1=>leap m (rs m h r).1 (rs m h r).2
theorem AO(m:Nat)(h:Int):∀r,(rs m h r).1<=m
 |0=>JE (JF _ (JD _))
 |r+1=>JE (JF _ (JD _))
theorem tT(m:Nat)(h:Int):∀r,(rs m h r).2=bits h/32^r
 |0=>by rw[Nat.pow_zero,Nat.div_one];rfl
 |r+1=>by
  show(rs m h r).2/32=_;rw[tT m h r,Nat.div_div_eq_div_mul,Nat.pow_succ]
theorem zo(h:Int):bits h<2^64:=by
 unfold bits;have h1:=Int.emod_nonneg h (show(2^64:Int)≠0 by decide);have h2:=JG h (show(0:Int)<2^64 by decide)
 have:(2^64:Int)=((2^64:Nat):Int):=by decide
 omega
theorem CV(m:Nat)(h:Int)(d:Nat):(rs m h (13+d)).2=0:=by
 rw[tT];refine Nat.div_eq_of_lt (G0 (zo h) ?_);rw[Nat.pow_add]
 have:1<=32^d:=Nat.pow_pos (by decide)
 calc 2^64<=32^13*1:=by decide
  _<=32^13*32^d:=Nat.mul_le_mul_left _ this
theorem qm(m:Nat):∀(d s:Nat),vn m (d+1) s=(vn m d s*5+1)%(m+1)
 |0,_=>rfl
 |d+1,s=>qm m d _
theorem vU(m:Nat)(h:Int):∀d,(rs m h (13+d)).1=vn m d (rs m h 13).1
 |0=>rfl
 |d+1=>by
  rw[qm,<-vU m h d];show((rs m h (13+d)).1*5+1+(rs m h (13+d)).2/32)%(m+1)=_;rw[CV]
theorem sQ{m:Nat}(mo:yO m)(h:Int){e:Nat}(he:e<=m):∃r,r<=m+13/\(rs m h r).1=e:=by
 obtain⟨d,d1,d2⟩:=uI mo (AO m h 13) he;exact⟨13+d,by omega,by rw[vU];exact d2⟩
noncomputable def vo(m:Nat)(p:Probe):Probe:=advance ⟨m,#[],#[],0,false,0,false⟩ p
noncomputable def st(m:Nat)(h:Int):Nat->Probe
 |0=>{j:=bits h%(m+1),more:=runEnd m (bits h%(m+1))-bits h%(m+1),i:=bits h%(m+1),perturb:=bits h,dummy:=none}
 |n+1=>vo m (st m h n)
theorem tZ(m:Nat)(p:Probe):(vo m p).dummy=p.dummy:=by
 unfold vo advance;split<;>rfl
theorem pA(m:Nat)(h:Int):∀n,(st m h n).dummy=none
 |0=>rfl
 |n+1=>by
  show(vo m (st m h n)).dummy=none;rw[tZ,pA m h n]
theorem pg(m:Nat)(p:Probe)(h:p.more>0):vo m p={p with j:=p.j+1,more:=p.more-1}:=by
 unfold vo advance;rw[if_pos h]
theorem qv(m:Nat)(p:Probe)(h:p.more=0):vo m p={p with j:=(leap m p.i p.perturb).1,more:=runEnd m (leap m p.i p.perturb).1-(leap m p.i p.perturb).1,i:=(leap m p.i p.perturb).1,perturb:=(leap m p.i p.perturb).2}:=by
 unfold vo advance;rw[if_neg `o]
theorem uz(m i:Nat):runEnd m i-i<=9:=by unfold runEnd;split<;>omega
theorem t4(m i:Nat):i<=runEnd m i:=by unfold runEnd;split<;>omega
noncomputable def at0(m:Nat)(h:Int):Nat->Nat
 |0=>0
 |r+1=>at0 m h r+(runEnd m (rs m h r).1-(rs m h r).1)+1
theorem xR(m:Nat)(h:Int):∀r,at0 m h r<=10*r
 |0=>Hi _
 |r+1=>by
  have:=xR m h r
  have:=uz m (rs m h r).1
  show at0 m h r+(runEnd m (rs m h r).1-(rs m h r).1)+1<=_;omega
theorem tM{m:Nat}{h:Int}:∀r,(∀k,k<=runEnd m (rs m h r).1-(rs m h r).1->st m h (at0 m h r+k)=⟨(rs m h r).1+k,runEnd m (rs m h r).1-(rs m h r).1-k,(rs m h r).1,(rs m h r).2,none⟩):=by
 have run:∀r,st m h (at0 m h r)=⟨(rs m h r).1,runEnd m (rs m h r).1-(rs m h r).1,(rs m h r).1,(rs m h r).2,none⟩->∀k,k<=runEnd m (rs m h r).1-(rs m h r).1->st m h (at0 m h r+k)=⟨(rs m h r).1+k,runEnd m (rs m h r).1-(rs m h r).1-k,(rs m h r).1,(rs m h r).2,none⟩:=by
  intro r h0 k
  induction k with
  |zero=>intro _;exact h0
  |succ k ih=>
   intro hk;show vo m (st m h (at0 m h r+k))=_;rw[ih `o,pg _ _ (show runEnd m (rs m h r).1-(rs m h r).1-k>0 by omega)];rfl
 intro r
 induction r with
 |zero=>exact run 0 rfl
 |succ r ih=>
  refine run (r+1) ?_;show vo m (st m h (at0 m h r+(runEnd m (rs m h r).1-(rs m h r).1)))=_;rw[ih _ (Hi _),qv _ _ (JI _)];rfl
theorem B4{m:Nat}{h:Int}(r:Nat):(st m h (at0 m h r)).j=(rs m h r).1:=by
 rw[show at0 m h r=at0 m h r+0 from rfl,tM r 0 (HP _)];rfl
theorem zW{m:Nat}(mo:yO m)(h:Int){e:Nat}(he:e<=m):∃n,n<10*turns m/\(st m h n).j=e:=by
 obtain⟨r,r1,r2⟩:=sQ mo h he;refine⟨at0 m h r,?_,by rw[B4];exact r2⟩
 have:=xR m h r
 unfold turns;omega
theorem getD_at{xs:Array Nat}{i:Nat}(j:Nat)(h:i<xs.size):xs.getD i j=xs[i]:=by
 rw[Array.getD_eq_getD_getElem?,Array.getElem?_eq_getElem h];rfl
theorem xj{xs:Array Nat}{j:Nat}(up:xs.toList.Pairwise (·<·)):∀(fuel lo hi:Nat),hi-lo<=fuel->lo<=hi->hi<=xs.size->(∀(i:Nat)(h:i<xs.size),i<lo->xs[i]<j)->(∀(i:Nat)(h:i<xs.size),hi<=i->j<=xs[i])->
  below.go xs j fuel lo hi<=xs.size/\(∀(i:Nat)(h:i<xs.size),i<below.go xs j fuel lo hi->xs[i]<j)/\∀(i:Nat)(h:i<xs.size),below.go xs j fuel lo hi<=i->j<=xs[i]:=by
 have mono:∀(a b:Nat)(ha:a<xs.size)(hb:b<xs.size),a<=b->xs[a]<=xs[b]:=λa b ha hb hab=>by
  by_cases e:a=b
  ·subst e;exact Hi _
  ·have:=List.pairwise_iff_getElem.mp up a b (by simpa using ha) (by simpa using hb) `o
   simp only[Array.getElem_toList]at this;omega
 intro fuel
 induction fuel with
 |zero=>
  intro lo hi h1 h2 h3 h4 h5
  have:lo=hi:=by omega
  subst this;exact⟨h3,h4,h5⟩
 |succ fuel ih=>
  intro lo hi h1 h2 h3 h4 h5;unfold below.go;by_cases c:lo<hi
  ·rw[if_pos c];have hm:(lo+hi)/2<xs.size:=(by omega);dsimp only;rw[getD_at j hm];by_cases d:xs[(lo+hi)/2]<j
   ·rw[if_pos d];exact ih _ _ `o `o h3 (λi h hi=>Ir (mono i _ h hm `o) d) h5
   ·rw[if_neg d];exact ih _ _ `o `o `o h4 λi h hi=>G3 `o (mono _ i hm h hi)
  ·rw[if_neg c]
   have:lo=hi:=(by omega);subst this;exact⟨h3,h4,h5⟩
theorem kL{xs:Array Nat}(up:xs.toList.Pairwise (·<·))(j:Nat):below xs j<=xs.size/\(∀(i:Nat)(h:i<xs.size),i<below xs j->xs[i]<j)/\∀(i:Nat)(h:i<xs.size),below xs j<=i->j<=xs[i]:=
 xj up _ _ _ `o (HP _) (Hi _) (λi h hi=>absurd hi (JK _)) λi h hi=>by omega
theorem below_at{xs:Array Nat}(up:xs.toList.Pairwise (·<·)){i j:Nat}(h:xs[i]?=some j):below xs j=i:=by
 obtain⟨hi,e⟩:=Array.getElem?_eq_some_iff.mp h;obtain⟨h1,h2,h3⟩:=kL up j;have a:¬i<below xs j:=λz=>by have:=h2 i hi z;omega
 by_cases c:below xs j=i
 ·exact c
 ·have hb:below xs j<xs.size:=by omega
  have:=h3 _ hb (Hi _)
  have p:=List.pairwise_iff_getElem.mp up (below xs j) i (by simpa using hb) (by simpa using hi) `o;simp only[Array.getElem_toList]at p;omega
theorem xE{xs:Array Nat}(up:xs.toList.Pairwise (·<·)){j:Nat}(h:j∉xs.toList):xs[below xs j]?≠some j:=λz=>h (by
 rw[<-Array.getElem?_toList]at z;exact Hv z)
structure Tt(t:Mx):Prop where
 mok:yO t.mask
 nod:t.dummies=#[]
 up:t.place.toList.Pairwise (·<·)
 le:∀j∈t.place.toList,j<=t.mask
 room:t.place.size*5<t.mask*3
theorem Tt.live{t:Mx}(h:Tt t){i j:Nat}(e:t.place[i]?=some j):t.slot j=.live i:=by
 unfold slot;dsimp only;rw[below_at h.up e,e,if_pos (beq_self_eq_true _)]
theorem Tt.free{t:Mx}(h:Tt t){j:Nat}(e:j∉t.place.toList):t.slot j=.empty:=by
 unfold slot;dsimp only;rw[if_neg (λz=>xE h.up e (eq_of_beq z)),h.nod];rfl
theorem vg{t:Mx}{j:Nat}(h:j∈t.place.toList):∃i:Nat,t.place[i]?=some j:=by
 obtain⟨i,e⟩:=List.mem_iff_getElem?.mp h;exact⟨i,by rw[<-Array.getElem?_toList];exact e⟩
theorem Tt.some_free{t:Mx}(h:Tt t):∃e,e<=t.mask/\e∉t.place.toList:=by
 refine Classical.byContradiction λno=>?_;have all:∀e,e<=t.mask->e∈t.place.toList:=λe he=>Classical.byContradiction λz=>no ⟨e,he,z⟩
 have:=List.Nodup.length_le_of_subset (l₁:=List.range (t.mask+1)) (l₂:=t.place.toList) Jm λe he=>all e (by have:=List.mem_range.mp he;omega)
 rw[Il,Array.length_toList]at this
 have:=h.room
 omega
theorem Tt.hits{t:Mx}(h:Tt t)(x:Int):∃n,n<10*turns t.mask/\(st t.mask x n).j∉t.place.toList:=by
 obtain⟨e,e1,e2⟩:=h.some_free;obtain⟨n,n1,n2⟩:=zW h.mok x e1;exact⟨n,n1,by rw[n2];exact e2⟩
theorem Tt.go{t:Mx}(T:Tt t)(hashAt:Nat->Int)(h:Int):∀(fuel n:Nat),(∃n0,n<=n0/\n0-n<fuel/\(st t.mask h n0).j∉t.place.toList)->
    ∃n',n<=n'/\(∀l,n<=l->l<n'->∃i:Nat,t.place[i]?=some (st t.mask h l).j/\hashAt i≠h)/\
      (((st t.mask h n').j∉t.place.toList/\probe.go t hashAt h fuel (st t.mask h n)=some (.empty (st t.mask h n').j none)) \/
       ∃i:Nat,t.place[i]?=some (st t.mask h n').j/\hashAt i=h/\probe.go t hashAt h fuel (st t.mask h n)=some (.candidate (st t.mask h n').j i (st t.mask h (n'+1)))):=by
  intro fuel
  induction fuel with
  |zero=>rintro n ⟨n0,_,h2,_⟩;omega
  |succ fuel ih=>
    rintro n ⟨n0,h1,h2,h3⟩;by_cases c:(st t.mask h n).j∈t.place.toList
    · obtain⟨i,hi⟩:=vg c
      by_cases e:hashAt i=h
      · refine⟨n,Hi _,λl a b=>by omega,.inr ⟨i,hi,e,?_⟩⟩
        unfold probe.go;rw[T.live hi];dsimp only;rw[if_pos (by rw[e];exact beq_self_eq_true _)];rfl
      · have nn:n≠n0:=λz=>by rw[z]at c;exact h3 c
        obtain⟨n',g1,g2,g3⟩:=ih (n+1) ⟨n0,by omega,by omega,h3⟩;have step:probe.go t hashAt h (fuel+1) (st t.mask h n)=probe.go t hashAt h fuel (st t.mask h (n+1)):=by
          rw[probe.go,T.live hi];dsimp only;rw[if_neg (λz=>e (eq_of_beq z))];rfl
        refine⟨n',by omega,λl a b=>?_,by rw[step];exact g3⟩;by_cases z:l=n
        ·rw[z];exact⟨i,hi,e⟩
        ·exact g2 l `o b
    · refine⟨n,Hi _,λl a b=>by omega,.inl ⟨c,?_⟩⟩
      rw[probe.go,T.free c];dsimp only;rw[pA]
open PySem PySem.Spec PySem.SetTable L2
section
variable{prog:KP}{w:KO}{A:KY}{E:aA}{s:KN}
noncomputable abbrev bG(prog:KP)(w:KO):HeapKind prog w (ay):=tupleKind (aJ prog w)
noncomputable abbrev SE:=Nat×List Key×KI
structure Rep(prog:KP)(w:KO)(h:KR)(es:Array (Int×KG))(t:Mx)(L:List SE):Prop where
 tt:Tt t
 pl:t.place.toList=L.map (·.1)
 es:es.toList=L.map λx=>((bG prog w).hash x.2.1,Value.ref x.2.2)
 is:∀x∈L,(bG prog w).is h x.2.1 x.2.2
 nd:(L.map (·.2.1)).Nodup
 path:∀x∈L,∃n,(st t.mask ((bG prog w).hash x.2.1) n).j=x.1/\∀l,l<n->(st t.mask ((bG prog w).hash x.2.1) l).j∈L.map (·.1)
theorem Rep.size{h:KR}{es:Array (Int×KG)}{t:Mx}{L:List SE}(R:Rep prog w h es t L):es.size=L.length/\t.place.size=L.length:=by
 have h1:=congrArg List.length R.es;have h2:=congrArg List.length R.pl;rw[Array.length_toList,Hx]at h1 h2;exact⟨h1,h2⟩
theorem Rep.fits{h:KR}{es:Array (Int×KG)}{t:Mx}{L:List SE}(R:Rep prog w h es t L):t.fits es.size=true:=by
 obtain⟨h1,h2⟩:=R.size;unfold SetTable.fits SetTable.fill
 have:=R.tt.room
 rw[R.tt.nod,h1,h2,HB];refine⟨beq_self_eq_true _,decide_eq_true ?_⟩;show L.length+0<=_;omega
theorem Rep.at{h:KR}{es:Array (Int×KG)}{t:Mx}{L:List SE}(R:Rep prog w h es t L){i j:Nat}(e:t.place[i]?=some j):∃x,L[i]?=some x/\x.1=j/\es[i]?=some ((bG prog w).hash x.2.1,Value.ref x.2.2):=by
 rw[<-Array.getElem?_toList,R.pl,Ht]at e;obtain⟨x,hx,rfl⟩:=Option.map_eq_some_iff.mp e;refine⟨x,hx,rfl,?_⟩;rw[<-Array.getElem?_toList,R.es,Ht,hx];rfl
theorem uM{ks:ay}:∀{vs:aC},ItemsAre (aJ prog w) ks vs->∀v∈vs,∀b,v≠.ref b:=λ{vs} h=>by
 induction h with
 |nil=>intro v hv;cases hv
 |@cons k u ks vs hk _ ih=>
  intro v hv b e;rcases List.mem_cons.mp hv with z|z
  ·subst z;subst e
   have:(aJ prog w).is k (.ref b)=false:=(by cases k<;>rfl);rw[this]at hk;cases hk
  ·exact ih v z b e
theorem qD{k:ay}{b:KI}{Q:Bool->bu}(hk:(bG prog w).is s.heap k b)(h:Q false s):K2 `g A (ofAClassStatement 8 (.ref b)) Q E s:=by
 obtain⟨o,items,n,h1,h2,h3,h4⟩:=hk;unfold ofAClassStatement;refine Lc (LI ⟨o,h1,h2⟩ ?_);dsimp only;have e1:(("tuple":String)=="tuple")=true:=by decide
 rw[e1];refine Lc (Lb ?_);rw[if_neg (show¬((!true)=true)from Hg)];unfold seqItems?;refine Lc (Lc (Ld h1 ?_));rw[h3];refine Lb (Lc ?_);refine PySem.MeetsSeq2.wpAny_forIn_array _ (λrest r s'=>s'=s/\r=(none,())/\∀v∈rest,∀b,v≠.ref b) _ ?_ ?_ _ _ ⟨rfl,rfl,uM h4⟩
 ·rintro x rest r s' ⟨rfl,rfl,hr⟩;have hx:ofAClassStatement 7 x=pure false:=by
   cases x<;>first|rfl|exact absurd rfl (hr _ G9 _)
  rw[hx];exact Lc (Lb (Lb ⟨rfl,rfl,λv hv=>hr v (Ha _ hv)⟩))
 ·rintro r s' ⟨rfl,rfl,_⟩;exact Lb h
theorem wg{k:ay}{b:KI}{stored:aC}{Q:Bool->bu}(hk:(bG prog w).is s.heap k b)(hst:∀v∈stored,∃k' b',v=.ref b'/\(bG prog w).is s.heap k' b')(h:Q false s):K2 `g A (searchCouldBeSeen (.ref b) stored) Q E s:=by
 unfold searchCouldBeSeen;refine Lc ?_;refine wpAny_forIn_list _ (λrest r s'=>s'=s/\r=(none,())/\∀v∈rest,∃k' b',v=.ref b'/\(bG prog w).is s.heap k' b') _ ?_ ?_ _ _ ⟨rfl,rfl,hst⟩
 ·rintro x rest r s' ⟨rfl,rfl,hr⟩;obtain⟨k',b',rfl,hb⟩:=hr x G9;have nx:∀v∈rest,∃k' b',v=Value.ref b'/\(bG prog w).is s'.heap k' b':=λv hv=>hr v (Ha _ hv);dsimp only;split
  ·exact Lb ⟨rfl,rfl,nx⟩
  ·refine Lc ((bG prog w).quiet hk ?_);rw[if_neg (show¬((!true)=true)from Hg)];refine Lc ((bG prog w).quiet hb ?_);rw[if_neg (show¬((!true)=true)from Hg)];refine Lc (qD hk ?_);rw[if_neg Hg];refine Lc (qD hb ?_);rw[if_neg Hg];exact Lb ⟨rfl,rfl,nx⟩
 ·rintro r s' ⟨rfl,rfl,_⟩;exact Lb h
theorem uW{a b:KI}{o:Obj}{es:Array (Int×KG)}{ep:Nat}{t:Mx}{L:List SE}{k:ay}{Q:SetFound->bu}(hu:(bG prog w).room A)(ho:s.heap.get? a=some o)(hd:o.data=.set es ep t)(R:Rep prog w s.heap es t L)(hk:(bG prog w).is s.heap k b)
  (h1:k∈L.map (·.2.1)->Q (.there none) s) (h2:k∉L.map (·.2.1)->∀n,(st t.mask `j n).j∉L.map (·.1)->(∀l,l<n->(st t.mask `j l).j∈L.map (·.1))->Q (.free (st t.mask `j n).j false) s):
  K2 `g A (setSearch a (.ref b) `j true) Q E s:=by
 obtain⟨N0,n1,n2⟩:=R.tt.hits `j;rw[R.pl]at n2;have gw:t.gaveWay=false:=by
  unfold SetTable.gaveWay;rcases R.tt.mok with e|e|e|e<;>rw[e]<;>rfl
 have key:∀(fuel n:Nat)(p:Option Probe),p.getD (t.probeStart `j)=st t.mask `j n->N0-n<fuel->(∀l,l<n->(st t.mask `j l).j∈L.map (·.1))->(∀x∈L,x.2.1=k->∀l,(st t.mask `j l).j=x.1->(∀l',l'<l->(st t.mask `j l').j∈L.map (·.1))->n<=l)->K2 `g A (setSearchFrom a (.ref b) `j true fuel p) Q E s:=by
  intro fuel
  induction fuel with
  |zero=>intro n p _ hf;exact absurd hf (JK _)
  |succ fuel ih=>
   intro n p hp hf occ lst;have nle:n<=N0:=Classical.byContradiction λz=>n2 (occ N0 `o);obtain⟨n',g1,g2,g3⟩:=R.tt.go (λi=>(es[i]?.map (·.1)).getD 0) `j (10*turns t.mask) n ⟨N0,nle,by omega,by rw[R.pl];exact n2⟩;have occ':∀l,l<n'->(st t.mask `j l).j∈L.map (·.1):=λl hl=>by
    by_cases c:l<n
    ·exact occ l c
    ·obtain⟨i,e,_⟩:=g2 l `o hl;obtain⟨x,hx,ex,_⟩:=R.at e;exact List.mem_map.mpr ⟨x,Hv hx,ex⟩
   have lst':∀x∈L,x.2.1=k->∀l,(st t.mask `j l).j=x.1->(∀l',l'<l->(st t.mask `j l').j∈L.map (·.1))->n'<=l:=λx hx ek l el al=>by
    have:=lst x hx ek l el al
    refine Classical.byContradiction λz=>?_;obtain⟨i,e,ne⟩:=g2 l `o `o;obtain⟨y,hy,ey,es'⟩:=R.at e;have xy:y=x:=by
     obtain⟨j,hj⟩:=List.mem_iff_getElem?.mp hx;have pj:t.place[j]?=some x.1:=(by rw[<-Array.getElem?_toList,R.pl,Ht,hj];rfl);rw[el]at e
     have:i=j:=(by rw[<-below_at R.tt.up e,<-below_at R.tt.up pj]);rw[this,hj]at hy;exact(Option.some.inj hy).symm
    rw[es',xy,ek]at ne;exact ne rfl
   rw[setSearchFrom];refine Lc (My ho hd R.fits ?_);dsimp only;rw[gw,if_neg Hg,hp];generalize hpr:t.probe _ _ _=r;rcases g3 with⟨c1,c2⟩|⟨i,c1,c2,c3⟩
   ·have:r=some (Met.empty (st t.mask `j n').j none):=hpr.symm.trans c2
    subst this;rw[R.pl]at c1;refine Lb (h2 (λz=>?_) n' c1 occ');obtain⟨x,hx,ex⟩:=List.mem_map.mp z;obtain⟨l,el,al⟩:=R.path x hx;have ex:x.2.1=k:=ex;rw[ex]at el al
    have:=lst' x hx ex l el al
    have xm:x.1∈L.map (·.1):=List.mem_map.mpr ⟨x,hx,rfl⟩;by_cases q:n'=l
    ·rw[q,el]at c1;exact c1 xm
    ·exact c1 (al n' `o)
   ·have:r=some (Met.candidate (st t.mask `j n').j i (st t.mask `j (n'+1))):=hpr.symm.trans c3
    subst this;obtain⟨x,hx,ex,es'⟩:=R.at c1;have hxm:=Hv hx;have hy:=R.is x hxm;have sl:=R.tt.live c1;have sm:t.sameMemory t.moves t.mask=some true:=(by unfold SetTable.sameMemory;rw[if_pos (beq_self_eq_true _)]);have nn:n'≠N0:=λz=>n2 (by rw[<-z,<-ex];exact List.mem_map.mpr ⟨x,hxm,rfl⟩);have nlt:n'<N0:=Classical.byContradiction λz=>n2 (occ' N0 `o);have tail:K2 `g A (do
      let equal<-holding [Value.ref x.2.2] (eqBool (Value.ref x.2.2) (Value.ref b))
      let __x<-setState a
      if(true&&equal)=true then pure (SetFound.there none)
       else
        match __x.2.snd.sameMemory t.moves t.mask with
        |some same=>
         match if same=true then __x.2.snd.slot (st t.mask `j n').j else Slot.empty with
         |Slot.live i'=>
          match __x.fst[i']? with
          |some (fst,y')=>do
           let __do_lift<-isSame y' (Value.ref x.2.2)
           let still<-pure (if __do_lift=true then some i' else none)
           match still with
            |none=>do
             rule "set.search.anew"
             setSearchFrom a (Value.ref b) `j true fuel none
            |some i'=>
             if equal=true then pure (SetFound.there (some i'))
             else setSearchFrom a (Value.ref b) `j true fuel (some (st t.mask `j (n'+1)))
          |none=>do
           let still<-pure none
           match still with
            |none=>do
             rule "set.search.anew"
             setSearchFrom a (Value.ref b) `j true fuel none
            |some i'=>
             if equal=true then pure (SetFound.there (some i'))
             else setSearchFrom a (Value.ref b) `j true fuel (some (st t.mask `j (n'+1)))
         |x=>do
          let still<-pure none
          match still with
           |none=>do
            rule "set.search.anew"
            setSearchFrom a (Value.ref b) `j true fuel none
           |some i'=>
            if equal=true then pure (SetFound.there (some i'))
            else setSearchFrom a (Value.ref b) `j true fuel (some (st t.mask `j (n'+1)))
        |x=>unsupported "set.changed-during-lookup:is-the-new-block-at-the-old-address") Q E s:=by
     refine Lc (LA ((bG prog w).eqBool hu hy hk ?_));refine Lc (My ho hd R.fits ?_);by_cases c:x.2.1=k
     ·rw[decide_eq_true c];exact Lb (h1 (List.mem_map.mpr ⟨x,hxm,c⟩))
     ·rw[decide_eq_false c];dsimp only;rw[if_neg (show¬((true&&false)=true)from Hg),sm];dsimp only;rw[if_pos rfl,sl];dsimp only;rw[es'];dsimp only;refine Lc (wpAny_isSame_ref_self ?_);refine Lc (Lb ?_);rw[if_pos rfl];dsimp only;rw[if_neg Hg];refine ih (n'+1) _ rfl `o (λl hl=>?_) λy hy' ek l el al=>?_
      ·by_cases z:l=n'
       ·rw[z,<-ex];exact List.mem_map.mpr ⟨x,hxm,rfl⟩
       ·exact occ' l `o
      ·have:=lst' y hy' ek l el al
       by_cases z:l=n'
       ·exfalso;obtain⟨j,hj⟩:=List.mem_iff_getElem?.mp hy';have pj:t.place[j]?=some y.1:=(by rw[<-Array.getElem?_toList,R.pl,Ht,hj];rfl);rw[<-z,el]at c1
        have:i=j:=(by rw[<-below_at R.tt.up c1,<-below_at R.tt.up pj]);rw[this,hj]at hx;rw[<-Option.some.inj hx]at c;exact c ek
       ·omega
    have es'':es[i]?=some (((bG prog w).hash x.2.1),Value.ref x.2.2):=es';dsimp only;cases t.led with
    |true=>
     rw[if_neg (show¬((!true)=true)from Hg),es''];exact tail
    |false=>
     rw[if_pos (show(!false)=true from rfl)];refine Lc (wg hk (λv hv=>?_) ?_)
     ·obtain⟨e,he,rfl⟩:=List.mem_map.mp hv;have he:=(Array.mem_filter.mp (Array.mem_toList_iff.mp he)).1;rw[<-Array.mem_toList_iff,R.es]at he;obtain⟨y,hy,rfl⟩:=List.mem_map.mp he;exact⟨_,_,rfl,R.is y hy⟩
     ·rw[if_neg Hg,es''];exact tail
 unfold setSearch;refine key 100000 0 none rfl ?_ (λl hl=>absurd hl (JK _)) λ_ _ _ _ _ _=>HP _
 have:turns t.mask<=600:=by
  unfold turns;rcases R.tt.mok with e|e|e|e<;>rw[e]<;>decide
 omega
end
end TG
namespace TG
open PySem PySem.SetTable
structure lX(m:Nat)(owner:Array (Option Nat))(ss:List Nat):Prop where
 sz:owner.size=m+1
 at':∀(i j:Nat),ss[i]?=some j->owner[j]?=some (some i)
 no:∀j,j<=m->j∉ss->owner[j]?=some none
 nd:ss.Nodup
 le:∀j∈ss,j<=m
theorem lX.occ{m:Nat}{owner:Array (Option Nat)}{ss:List Nat}(h:lX m owner ss){j:Nat}(hj:j<=m):(owner.getD j (some 0)).isNone=decide (j∉ss):=by
 rw[Array.getD_eq_getD_getElem?];by_cases c:j∈ss
 ·obtain⟨i,hi⟩:=List.mem_iff_getElem?.mp c;rw[h.at' i j hi,decide_eq_false (λz=>z c)];rfl
 ·rw[h.no j hj c,decide_eq_true c];rfl
theorem og{m:Nat}(h:Int)(r k:Nat)(hk:k<=runEnd m (rs m h r).1-(rs m h r).1):(rs m h r).1+k<=m:=by
 have h1:=AO m h r;unfold runEnd at hk;split at hk<;>omega
theorem yv{m:Nat}{owner:Array (Option Nat)}{ss:List Nat}(O:lX m owner ss)(h:Int):∀(fuel r:Nat),(∃r0,r<=r0/\r0-r<fuel/\(rs m h r0).1∉ss)->(∀l,l<at0 m h r->(st m h l).j∈ss)->
  ∃n,layClean.free m owner fuel (rs m h r).1 (rs m h r).2=some (st m h n).j/\(st m h n).j∉ss/\(st m h n).j<=m/\∀l,l<n->(st m h l).j∈ss:=by
 intro fuel
 induction fuel with
 |zero=>rintro r ⟨r0,_,h2,_⟩;omega
 |succ fuel ih=>
  rintro r ⟨r0,h1,h2,h3⟩ occ;rw[layClean.free];have len:runEnd m (rs m h r).1+1-(rs m h r).1=runEnd m (rs m h r).1-(rs m h r).1+1:=by have:=t4 m (rs m h r).1;omega
  cases e:(List.range (runEnd m (rs m h r).1+1-(rs m h r).1)).find? λk=>(owner.getD ((rs m h r).1+k) (some 0)).isNone with
  |some k=>
   obtain⟨p1,p2,p3⟩:=List.find?_range_eq_some.mp e;have hk:k<=runEnd m (rs m h r).1-(rs m h r).1:=(by have:=List.mem_range.mp p2;omega);have jn:(st m h (at0 m h r+k)).j=(rs m h r).1+k:=(by rw[tM r k hk]);refine⟨at0 m h r+k,by rw[jn],?_,by rw[jn];exact og h r k hk,λl hl=>?_⟩
   ·rw[jn];rw[O.occ (og h r k hk)]at p1;exact of_decide_eq_true p1
   ·by_cases c:l<at0 m h r
    ·exact occ l c
    ·obtain⟨d,rfl⟩:∃d,l=at0 m h r+d:=⟨l-at0 m h r,by omega⟩
     have:=p3 d `o
     rw[O.occ (og h r d `o)]at this;rw[tM r d `o];exact Classical.byContradiction λz=>by
      rw[decide_eq_true z]at this;cases this
  |none=>
   have all:=List.find?_range_eq_none.mp e;have full:∀k,k<=runEnd m (rs m h r).1-(rs m h r).1->(rs m h r).1+k∈ss:=λk hk=>by
    have:=all k `o
    rw[O.occ (og h r k hk)]at this;exact Classical.byContradiction λz=>by
     rw[decide_eq_true z]at this;cases this
   have ne:r≠r0:=λz=>h3 (by rw[<-z];exact full 0 (HP _));obtain⟨n,q1,q2⟩:=ih (r+1) ⟨r0,by omega,by omega,h3⟩ λl hl=>by
    by_cases c:l<at0 m h r
    ·exact occ l c
    ·obtain⟨d,rfl⟩:∃d,l=at0 m h r+d:=⟨l-at0 m h r,by omega⟩
     have hd:d<=runEnd m (rs m h r).1-(rs m h r).1:=by
      have:at0 m h (r+1)=at0 m h r+(runEnd m (rs m h r).1-(rs m h r).1)+1:=rfl
      omega
     rw[tM r d hd];exact full d hd
   exact⟨n,q1,q2⟩
theorem lX.put{m:Nat}{owner:Array (Option Nat)}{ss:List Nat}(O:lX m owner ss){j:Nat}(hj:j<=m)(hn:j∉ss):lX m (owner.setIfInBounds j (some ss.length)) (ss++[j]):=by
 have sz:=O.sz;refine⟨by rw[Array.size_setIfInBounds];exact sz,λi l e=>?_,λl hl hm=>?_,?_,λl hl=>?_⟩
 ·by_cases c:i<ss.length
  ·rw[Hs c]at e;have ne:j≠l:=λz=>hn (by rw[z];exact Hv e);rw[Array.getElem?_setIfInBounds_ne ne];exact O.at' i l e
  ·have hi:i=ss.length:=by
    have:=(List.getElem?_eq_some_iff.mp e).1
    rw[Hw,HD]at this;omega
   subst hi;rw[Hq (Hi _),JI]at e;cases e;rw[Array.getElem?_setIfInBounds_self_of_lt `o]
 ·have ne:j≠l:=λz=>hm (by rw[z];simp);rw[Array.getElem?_setIfInBounds_ne ne];exact O.no l hl λz=>hm (Hc _ z)
 ·exact List.nodup_append.mpr ⟨O.nd,by simp,λa ha b hb e=>by rw[List.mem_singleton.mp hb]at e;rw[e]at ha;exact hn ha⟩
 ·rcases List.mem_append.mp hl with z|z
  ·exact O.le l z
  ·rw[List.mem_singleton.mp z];exact hj
noncomputable def Gq(m:Nat)(h:Int)(ss:List Nat)(j:Nat):Prop:=∃n,(st m h n).j=j/\∀l,l<n->(st m h l).j∈ss
theorem xL{m:Nat}(mo:yO m):∀(hs:List Int)(owner:Array (Option Nat))(ss:List Nat),lX m owner ss->ss.length+hs.length<=m->
  ∃owner' ss',hs.foldl (λacc h=>do
    let (owner,k)<-acc
    let j<-layClean.free m owner (turns m) (bits h%(m+1)) (bits h)
    pure (owner.setIfInBounds j (some k),k+1)) (some (owner,ss.length))=some (owner',(ss++ss').length)/\lX m owner' (ss++ss')/\ss'.length=hs.length/\∀(i:Nat)(h:Int),hs[i]?=some h->∃j,ss'[i]?=some j/\Gq m h (ss++ss') j:=by
 intro hs
 induction hs with
 |nil=>intro owner ss O _;exact⟨owner,[],by rw[Hl];rfl,by rw[Hl];exact O,rfl,λi h e=>by simp at e⟩
 |cons h hs ih=>
  intro owner ss O hl;rw[HK]at hl;have fr:∃r0,0<=r0/\r0-0<turns m/\(rs m h r0).1∉ss:=by
   have:∃e,e<=m/\e∉ss:=Classical.byContradiction λno=>by
    have:=List.Nodup.length_le_of_subset (l₁:=List.range (m+1)) (l₂:=ss) Jm λe he=>Classical.byContradiction λz=>no ⟨e,by have:=List.mem_range.mp he;omega,z⟩
    rw[Il]at this;omega
   obtain⟨e,e1,e2⟩:=this;obtain⟨r,r1,r2⟩:=sQ mo h e1;exact⟨r,HP _,by unfold turns;omega,by rw[r2];exact e2⟩
  obtain⟨n,q1,q2,q3,q4⟩:=yv O h (turns m) 0 fr λl hl=>absurd hl (JK _);obtain⟨owner',ss',f1,f2,f3,f4⟩:=ih _ _ (O.put q3 q2) (by rw[Hw,HD];omega);refine⟨owner',(st m h n).j::ss',?_,?_,by rw[HK,HK,f3],λi x e=>?_⟩
  ·rw[Jc];have q1:layClean.free m owner (turns m) (bits h%(m+1)) (bits h)=some (st m h n).j:=q1;rw[show ss++(st m h n).j::ss'=ss++[(st m h n).j]++ss' by rw[Iu];rfl,<-f1];congr 1;show(layClean.free m owner (turns m) (bits h%(m+1)) (bits h)).bind _=_;rw[q1,Hw];rfl
  ·rw[show ss++(st m h n).j::ss'=ss++[(st m h n).j]++ss' by rw[Iu];rfl];exact f2
  ·rw[show ss++(st m h n).j::ss'=ss++[(st m h n).j]++ss' by rw[Iu];rfl];cases i with
   |zero=>
    rw[Jv]at e;cases e;exact⟨_,rfl,n,rfl,λl hl=>Hc _ (Hc _ (q4 l hl))⟩
   |succ i=>exact f4 i x e
theorem qt{m:Nat}(mo:yO m)(hs:Array Int)(hl:hs.size<=m):∃owner ss,layClean m hs=some owner/\lX m owner ss/\ss.length=hs.size/\∀(i:Nat)(h:Int),hs[i]?=some h->∃j,ss[i]?=some j/\Gq m h ss j:=by
 obtain⟨owner,ss,f1,f2,f3,f4⟩:=xL mo hs.toList (Array.replicate (m+1) none) [] ⟨Array.size_replicate,λi j e=>by simp at e,λj hj _=>by rw[Array.getElem?_replicate,if_pos `o],HQ,λj hj=>(nomatch hj)⟩ (by simpa using hl);refine⟨owner,ss,?_,f2,by rw[f3];exact Array.length_toList,λi h e=>f4 i h (by rw[Array.getElem?_toList];exact e)⟩;unfold layClean;rw[<-Array.foldl_toList];show Option.map _ (List.foldl _ _ _)=_;have f1:hs.toList.foldl _ (some (Array.replicate (m+1) none,0))=_:=f1;rw[f1];rfl
open PySem PySem.Spec PySem.SetTable L2
theorem lX.back{m:Nat}{owner:Array (Option Nat)}{ss:aP}(O:lX m owner ss){j i:Nat}(hj:j<=m)(e:owner.getD j none=some i):ss[i]?=some j:=by
 rw[Array.getD_eq_getD_getElem?]at e;by_cases c:j∈ss
 ·obtain⟨i0,h0⟩:=List.mem_iff_getElem?.mp c;rw[O.at' i0 j h0]at e
  have:i0=i:=Option.some.inj e
  rw[<-this];exact h0
 ·rw[O.no j hj c]at e;cases e
noncomputable def lv(m:Nat)(owner:Array (Option Nat)):List (Nat×Nat):=(List.range (m+1)).filterMap λj=>(owner.getD j none).map (j,·)
theorem lM{m:Nat}{owner:Array (Option Nat)}{ss:aP}(O:lX m owner ss){j i:Nat}:(j,i)∈lv m owner↔ss[i]?=some j:=by
 unfold lv;rw[List.mem_filterMap];constructor
 ·rintro⟨j',hj,e⟩;obtain⟨i',e1,e2⟩:=Option.map_eq_some_iff.mp e;cases e2;exact O.back (by have:=List.mem_range.mp hj;omega) e1
 ·intro h;have hj:=O.le j (Hv h);refine⟨j,List.mem_range.mpr `o,?_⟩;rw[Array.getD_eq_getD_getElem?,O.at' i j h];rfl
theorem Aw{m:Nat}{owner:Array (Option Nat)}:(lv m owner).Pairwise λa b=>a.1<b.1:=by
 unfold lv;rw[List.pairwise_filterMap];refine List.pairwise_lt_range.imp λ{a b} hab x hx y hy=>?_;obtain⟨i,_,rfl⟩:=Option.map_eq_some_iff.mp hx;obtain⟨i',_,rfl⟩:=Option.map_eq_some_iff.mp hy;exact hab
theorem Af{m:Nat}{owner:Array (Option Nat)}{ss:aP}(O:lX m owner ss):((lv m owner).map (·.2)).Perm (List.range ss.length):=by
 have nd:((lv m owner).map (·.2)).Nodup:=by
  unfold List.Nodup;rw[Jo];have hm:∀x∈lv m owner,ss[x.2]?=some x.1:=λx hx=>(lM O).mp hx;refine List.Pairwise.imp_of_mem (R:=λa b=>a.1<b.1) (λ{a b} ha hb hab e=>?_) Aw;have h1:=hm a ha;have h2:=hm b hb;rw[e,h2]at h1
  have:=Option.some.inj h1
  omega
 refine(JM nd Jm).mpr λi=>?_;rw[JN,List.mem_range];constructor
 ·rintro⟨x,hx,rfl⟩;exact(List.getElem?_eq_some_iff.mp ((lM O).mp hx)).1
 ·intro hi;exact⟨(ss[i],i),(lM O).mpr (Ia hi),rfl⟩
section
variable{prog:KP}{w:KO}
theorem vK{h:KR}{es:Array (Int×KG)}{t:Mx}{L:List SE}{wanted m:Nat}(mo:yO m)(em:sizeAbove wanted-1=m)(room:L.length*5<m*3)(hes:es.toList=L.map λx=>((bG prog w).hash x.2.1,Value.ref x.2.2))(his:∀x∈L,(bG prog w).is h x.2.1 x.2.2)(hnd:(L.map (·.2.1)).Nodup):
  ∃t' order L',t.relaid (es.map (·.1)) wanted=some (t',order)/\(order.filterMap (es[·]?)).size=es.size/\Rep prog w h (order.filterMap (es[·]?)) t' L'/\(L'.map (·.2)).Perm (L.map (·.2))/\t'.led=t.led:=by
 have el:es.size=L.length:=by have:=congrArg List.length hes;rwa [Array.length_toList,Hx]at this
 obtain⟨owner,ss,l1,O,l2,l3⟩:=qt mo (es.map (·.1)) (by rw[Array.size_map];omega);rw[Array.size_map]at l2;have hm:∀x∈lv m owner,ss[x.2]?=some x.1:=λx hx=>(lM O).mp hx;have lt:∀x∈lv m owner,x.2<L.length:=λx hx=>by have:=(List.getElem?_eq_some_iff.mp (hm x hx)).1;omega
 have get:∀(i:Nat),i<L.length->∃y,L[i]?=some y/\L.getD i (0,[],0)=y/\es[i]?=some ((bG prog w).hash y.2.1,Value.ref y.2.2)/\y∈L:=λi hi=>by
  refine⟨L[i],Ia hi,by rw[Jp,Ia hi];rfl,?_,IH hi⟩;rw[<-Array.getElem?_toList,hes,Ht,Ia hi];rfl
 have ordl:(((lv m owner).map (·.2)).toArray.filterMap (es[·]?)).toList=(lv m owner).map λx=>((bG prog w).hash (L.getD x.2 (0,[],0)).2.1,Value.ref (L.getD x.2 (0,[],0)).2.2):=by
  rw[Array.toList_filterMap]
  have:∀l:List (Nat×Nat),(∀x∈l,x.2<L.length)->(l.map (·.2)).filterMap (es[·]?)=l.map λx=>((bG prog w).hash (L.getD x.2 (0,[],0)).2.1,Value.ref (L.getD x.2 (0,[],0)).2.2):=by
   intro l
   induction l with
   |nil=>intro _;rfl
   |cons x l ih=>
    intro hl;obtain⟨y,_,y2,y3,_⟩:=get x.2 (hl x G9);rw[HF,List.filterMap_cons_some y3,ih λz hz=>hl z (Ha _ hz),HF,y2]
  exact this _ lt
 have pm:=Af O;rw[l2,el]at pm;have lvl:(lv m owner).length=L.length:=by have:=pm.length_eq;rwa [Hx,Il]at this
 have L2:(((lv m owner).map λx=>((x.1,(L.getD x.2 (0,[],0)).2):SE)).map (·.2)).Perm (L.map (·.2)):=by
  rw[Jq];have e1:(lv m owner).map ((λx:SE=>x.2)∘λx=>((x.1,(L.getD x.2 (0,[],0)).2):SE))=((lv m owner).map (·.2)).map λi=>(L.getD i (0,[],0)).2:=by rw[Jq];rfl
  have e2:L.map (·.2)=(List.range L.length).map λi=>(L.getD i (0,[],0)).2:=by
   refine Jl λi=>?_;rw[Ht,Ht];by_cases c:i<L.length
   ·obtain⟨y,y1,y2,_⟩:=get i c;rw[y1,Io c];show some y.2=some (L.getD i (0,[],0)).2;rw[y2]
   ·rw[JO `o,JO (by rw[Il];omega)];rfl
  rw[e1,e2];exact pm.map _
 refine⟨{mask:=m,place:=((lv m owner).map (·.1)).toArray,dummies:=#[],finger:=t.finger,led:=t.led,moves:=t.movedTo m,plain:=t.plain},((lv m owner).map (·.2)).toArray,(lv m owner).map λx=>(x.1,(L.getD x.2 (0,[],0)).2),?_,?_,⟨⟨?_,rfl,?_,?_,?_⟩,?_,?_,?_,?_,?_⟩,L2,rfl⟩
 ·unfold relaid laid;rw[em,l1];rfl
 ·rw[<-Array.length_toList];show((((lv m owner).map (·.2)).toArray.filterMap (es[·]?)).toList).length=_;rw[ordl,Hx,lvl,el]
 ·exact mo
 ·show((lv m owner).map (·.1)).Pairwise _;rw[Jo];exact Aw
 ·intro j hj;have hj:j∈(lv m owner).map (·.1):=hj;obtain⟨x,hx,rfl⟩:=List.mem_map.mp hj;exact O.le _ (Hv (hm x hx))
 ·show((lv m owner).map (·.1)).toArray.size*5<m*3;rw[Hk,Hx,lvl];exact room
 ·show(lv m owner).map (·.1)=_;rw[Jq];rfl
 ·show(((lv m owner).map (·.2)).toArray.filterMap (es[·]?)).toList=_;rw[ordl,Jq];rfl
 ·intro x hx;obtain⟨p,hp,rfl⟩:=List.mem_map.mp hx;obtain⟨y,_,y2,_,y4⟩:=get p.2 (lt p hp);show(bG prog w).is h (L.getD p.2 (0,[],0)).2.1 (L.getD p.2 (0,[],0)).2.2;rw[y2];exact his y y4
 ·have:(((lv m owner).map λx=>((x.1,(L.getD x.2 (0,[],0)).2):SE)).map (·.2.1)).Perm (L.map (·.2.1)):=by
   have:=L2.map (·.1)
   rw[Jq,Jq,Jq]at this;rw[Jq];exact this
  exact this.nodup_iff.mpr hnd
 ·intro x hx;obtain⟨p,hp,rfl⟩:=List.mem_map.mp hx;obtain⟨y,_,y2,y3,_⟩:=get p.2 (lt p hp);obtain⟨j,j1,j2⟩:=l3 p.2 ((bG prog w).hash y.2.1) (by rw[Array.getElem?_map,y3];rfl);rw[hm p hp]at j1;cases j1;obtain⟨n,n1,n2⟩:=j2;refine⟨n,?_,λl hl=>?_⟩
  ·show(st m ((bG prog w).hash (L.getD p.2 (0,[],0)).2.1) n).j=p.1;rw[y2];exact n1
  ·have:=n2 l hl
   show(st m ((bG prog w).hash (L.getD p.2 (0,[],0)).2.1) l).j∈_;rw[y2,Jq];obtain⟨i,hi⟩:=List.mem_iff_getElem?.mp this;exact List.mem_map.mpr ⟨(_,i),(lM O).mpr hi,rfl⟩
end
section
variable{prog:KP}{w:KO}{A:KY}{E:aA}{s:KN}
theorem xH{k:ay}{b:KI}{Q:Bool->bu}(hk:(bG prog w).is s.heap k b)(h:∀v,Q v s):K2 `g A (hashByValue 8 (.ref b)) Q E s:=by
 obtain⟨o,items,n,h1,h2,h3,h4⟩:=hk;unfold hashByValue;refine Lc (LU ⟨o,h1,h2⟩ F.slot_tuple_hash.lookup ?_);dsimp only;unfold seqItems?;refine Lc (Lc (Ld h1 ?_));rw[h3];refine Lb (Lc ?_);refine PySem.MeetsSeq2.wpAny_forIn_array _ (λrest r s'=>s'=s/\∀v∈rest,∃k,(aJ prog w).is k v=true) _ ?_ ?_ _ _ ⟨rfl,?_⟩
 ·rintro x rest r s' ⟨rfl,hr⟩;obtain⟨k,hx⟩:=hr x G9;have hx:∃v,hashByValue 7 x=pure v:=by
   cases x<;>first|exact⟨_,rfl⟩|(exfalso;cases k<;>cases hx)
  obtain⟨v,hx⟩:=hx;rw[hx];refine Lc (Lb ?_);cases v with
  |true=>exact Lb ⟨rfl,λv hv=>hr v (Ha _ hv)⟩
  |false=>
   rw[if_pos (show(!false)=true from rfl)];refine Lb ?_;exact Lb (h _)
 ·rintro r s' ⟨rfl,_⟩;cases r.1 with
  |none=>exact Lb (h _)
  |some v=>exact Lb (h _)
 ·show∀v∈items.toList,_;clear h1 h3;generalize items.toList=l at h4
  induction h4 with
  |nil=>intro v hv;cases hv
  |cons hk _ ih=>
   intro v hv;rcases List.mem_cons.mp hv with z|z
   ·rw[z];exact⟨_,hk⟩
   ·exact ih v z
noncomputable def pJ(prog:KP)(w:KO)(h:KR)(a:KI)(L:List SE):Prop:=∃o es ep t,h.get? a=some o/\o.ExactSet/\o.data=.set es ep t/\Rep prog w h es t L/\t.led=!w.params.followText "set-order"
theorem fM{α:Type}(xs:Array α)(p:Nat)(x:α)(h:p<=xs.size):(SetTable.insertAt xs p x).toList=xs.toList.take p++x::xs.toList.drop p:=by
 unfold SetTable.insertAt;rw[Array.toList_append,Array.toList_push,Array.toList_extract,Array.toList_extract,Iu];simp[List.extract,IL]
theorem o4{h h':KR}{k:ay}{b:KI}(hk:(bG prog w).is h k b)(e:∀o,h.get? b=some o->h'.get? b=some o):(bG prog w).is h' k b:=by
 obtain⟨o,items,n,h1,h2⟩:=hk;exact⟨o,items,n,e o h1,h2⟩
theorem Aq{h:KR}{k:ay}{a b:KI}{o:Obj}{es:Array (Int×KG)}{ep:Nat}{t:Mx}(hk:(bG prog w).is h k b)(ho:h.get? a=some o)(hd:o.data=.set es ep t):b≠a:=λz=>by
 obtain⟨o',items,n,h1,h2,h3,_⟩:=hk;rw[z,ho]at h1;cases h1;rw[hd]at h3;cases h3
theorem zX{h:KR}{es:Array (Int×KG)}{t:Mx}{L:List SE}(R:Rep prog w h es t L){k:ay}{b:KI}(hk:(bG prog w).is h k b)(hn:k∉L.map (·.2.1)){n:Nat}(h1:(st t.mask `j n).j∉L.map (·.1))(h2:∀l,l<n->(st t.mask `j l).j∈L.map (·.1))(hj:(st t.mask `j n).j<=t.mask):
  ∃L':List SE,(t.put (st t.mask `j n).j).1.mask=t.mask/\(t.put (st t.mask `j n).j).1.dummies=#[]/\(t.put (st t.mask `j n).j).1.place.toList=L'.map (·.1)/\(L'.map (·.1)).Pairwise (·<·)/\(∀x∈L',x.1<=t.mask)/\
   (SetTable.insertAt es (t.put (st t.mask `j n).j).2 ((bG prog w).hash k,Value.ref b)).toList=L'.map (λx=>((bG prog w).hash x.2.1,Value.ref x.2.2))/\(∀x∈L',(bG prog w).is h x.2.1 x.2.2)/\(L'.map (·.2.1)).Nodup/\(L'.map (·.2)).Perm ((k,b)::L.map (·.2))/\
   ∀x∈L',∃n,(st t.mask ((bG prog w).hash x.2.1) n).j=x.1/\∀l,l<n->(st t.mask ((bG prog w).hash x.2.1) l).j∈L'.map (·.1):=by
 generalize ej:(st t.mask `j n).j=j at h1 hj ⊢;obtain⟨s1,s2⟩:=R.size;obtain⟨b1,b2,b3⟩:=kL R.tt.up j;have hp:below t.place j<=L.length:=by omega
 have pl:=R.pl;have get:∀(i:Nat)(hi:i<L.length),L[i].1=t.place[i]'`o:=λi hi=>by
  have:t.place.toList[i]?=some L[i].1:=by rw[pl,Ht,Ia hi];rfl
  rw[Array.getElem?_toList,Array.getElem?_eq_getElem `o]at this;exact(Option.some.inj this).symm
 have lo:∀x∈L.take (below t.place j),x.1<j:=λx hx=>by
  obtain⟨i,hi,rfl⟩:=List.mem_take_iff_getElem.mp hx;rw[get i `o];exact b2 i `o `o
 have hi':∀x∈L.drop (below t.place j),j<x.1:=λx hx=>by
  obtain⟨i,hi,rfl⟩:=List.mem_drop_iff_getElem.mp hx
  have:=b3 (below t.place j+i) `o `o
  rw[<-get _ `o]at this;have ne:L[below t.place j+i].1≠j:=λz=>h1 (List.mem_map.mpr ⟨_,IH _,z⟩);omega
 have sub:∀x,x∈L.take (below t.place j)++(j,k,b)::L.drop (below t.place j)->x=(j,k,b)\/x∈L:=λx hx=>by
  rcases List.mem_append.mp hx with z|z
  ·exact .inr (Ja z)
  ·rcases List.mem_cons.mp z with z|z
   ·exact .inl z
   ·exact .inr (IU z)
 have sup:∀x,x∈L->x∈L.take (below t.place j)++(j,k,b)::L.drop (below t.place j):=λx hx=>by
  rw[<-IR (below t.place j) L]at hx;rcases List.mem_append.mp hx with z|z
  ·exact Hc _ z
  ·exact Hj _ (Ha _ z)
 have pm:(L.take (below t.place j)++(j,k,b)::L.drop (below t.place j)).Perm ((j,k,b)::L):=by
  have:=List.perm_middle (a:=((j,k,b):SE)) (l₁:=L.take (below t.place j)) (l₂:=L.drop (below t.place j))
  rwa [IR]at this
 have up:(L.map (·.1)).Pairwise (·<·):=by rw[<-pl];exact R.tt.up
 rw[Jo]at up;refine⟨L.take (below t.place j)++(j,k,b)::L.drop (below t.place j),rfl,?_,?_,?_,λx hx=>?_,?_,λx hx=>?_,?_,?_,λx hx=>?_⟩
 ·show(if has t.dummies j then _ else t.dummies)=#[];rw[R.tt.nod];rfl
 ·show(SetTable.insertAt t.place (below t.place j) j).toList=_;rw[fM _ _ _ b1,pl,Ij,HF,Jy,Jz]
 ·rw[Jo,List.pairwise_append];refine⟨up.sublist (Hu _ _),List.pairwise_cons.mpr ⟨λx hx=>hi' x hx,up.sublist (Jf _ _)⟩,λx hx y hy=>?_⟩;rcases List.mem_cons.mp hy with z|z
  ·rw[z];exact lo x hx
  ·exact HN (lo x hx) (hi' y z)
 ·rcases sub x hx with z|z
  ·rw[z];exact hj
  ·exact R.tt.le _ (by rw[pl];exact List.mem_map.mpr ⟨x,z,rfl⟩)
 ·show(SetTable.insertAt es (below t.place j) _).toList=_;rw[fM _ _ _ `o,R.es,Ij,HF,Jy,Jz]
 ·rcases sub x hx with z|z
  ·rw[z];exact hk
  ·exact R.is x z
 ·have:=(pm.map (λx:SE=>x.2.1)).nodup_iff.mpr (by rw[HF];exact List.nodup_cons.mpr ⟨hn,R.nd⟩)
  exact this
 ·exact pm.map (λx:SE=>x.2)
 ·have big:∀y,y∈L.map (·.1)->y∈(L.take (below t.place j)++(j,k,b)::L.drop (below t.place j)).map (·.1):=λy hy=>by
   obtain⟨x,hx,rfl⟩:=List.mem_map.mp hy;exact List.mem_map.mpr ⟨x,sup x hx,rfl⟩
  rcases sub x hx with z|z
  ·rw[z];exact⟨n,ej,λl hl=>big _ (h2 l hl)⟩
  ·obtain⟨m,m1,m2⟩:=R.path x z;exact⟨m,m1,λl hl=>big _ (m2 l hl)⟩
end
theorem nJ{m i:Nat}(h:i<=m):runEnd m i<=m:=by unfold runEnd;split<;>omega
theorem Ay(m:Nat)(h:Int):∀n,(st m h n).j+(st m h n).more<=m
 |0=>by
  have h1:bits h%(m+1)<=m:=JE (JF _ (JD _))
  have:=nJ h1
  show bits h%(m+1)+(runEnd m (bits h%(m+1))-bits h%(m+1))<=m;omega
 |n+1=>by
  have ih:=Ay m h n;show(vo m (st m h n)).j+(vo m (st m h n)).more<=m;by_cases c:(st m h n).more>0
  ·rw[pg _ _ c];show(st m h n).j+1+((st m h n).more-1)<=m;omega
  ·rw[qv _ _ `o];have h1:(leap m (st m h n).i (st m h n).perturb).1<=m:=JE (JF _ (JD _))
   have:=nJ h1
   show(leap m (st m h n).i (st m h n).perturb).1+(runEnd m (leap m (st m h n).i (st m h n).perturb).1-(leap m (st m h n).i (st m h n).perturb).1)<=m;omega
theorem grows{m n:Nat}(mo:yO m)(h1:n*5<m*3)(h2:(n+1)*5>=m*3)(hn:n<300):∃m',yO m'/\sizeAbove (grown (n+1))-1=m'/\(n+1)*5<m'*3/\sizeAbove (grown (n+1))<=KS:=by
 rcases mo with rfl|rfl|rfl|rfl
 ·obtain rfl:n=4:=by omega
  exact⟨31,.inr (.inl rfl),by decide,by decide,by rw[Lj];decide⟩
 ·obtain rfl:n=18:=by omega
  exact⟨127,.inr (.inr (.inl rfl)),by decide,by decide,by rw[Lj];decide⟩
 ·obtain rfl:n=76:=by omega
  exact⟨511,.inr (.inr (.inr rfl)),by decide,by decide,by rw[Lj];decide⟩
 ·omega
section
variable{prog:KP}{w:KO}{A:KY}{E:aA}{s:KN}
theorem Rep.keep{h h':KR}{es:Array (Int×KG)}{t:Mx}{L:List SE}(R:Rep prog w h es t L)(e:∀x∈L,∀o,h.get? x.2.2=some o->h'.get? x.2.2=some o):Rep prog w h' es t L:=
 ⟨R.tt,R.pl,R.es,λx hx=>o4 (R.is x hx) (e x hx),R.nd,R.path⟩
theorem tD{h:KR}{a:KI}{o:Obj}{es:Array (Int×KG)}{ep:Nat}{t:Mx}(es':Array (Int×KG))(t':Mx)(ho:h.get? a=some o)(hd:o.data=.set es ep t):(h.update a (Obj.putSet es' t')).get? a=some {o with data:=.set es' (ep+1) t'}:=by
 rw[Kl _ ho (by rw[putSet_of es' t' hd];rfl),putSet_of es' t' hd]
theorem BL{a b:KI}{L:List SE}{k:ay}{Q:Bool->bu}(hu:(bG prog w).room A)(H:pJ prog w s.heap a L)(hl:L.length<300)(hk:(bG prog w).is s.heap k b)
  (h:∀v h' L',Ke a s.heap h'->pJ prog w h' a L'->((k∈L.map (·.2.1)/\L'=L)\/(k∉L.map (·.2.1)/\(L'.map (·.2)).Perm ((k,b)::L.map (·.2))))->Q v {s with heap:=h'}):
  K2 `g A (setAddHashed a (.ref b) `j) Q E s:=by
 obtain⟨o,es,ep,t,ho,hx,hd,R,led⟩:=H;obtain⟨sz1,sz2⟩:=R.size;unfold setAddHashed;refine LA ?_;rw[show(100000:Nat)=99999+1 from rfl,setAddHashedIn];refine Lc (My ho hd R.fits ?_);dsimp only;rw[show byScan (.ref b) es=false from rfl,if_neg Hg];refine Lc (uW hu ho hd R hk (λhm=>?_) λhn n c1 c2=>?_)
 ·exact Lb (h false s.heap L (.refl ..) ⟨o,es,ep,t,ho,hx,hd,R,led⟩ (.inl ⟨hm,rfl⟩))
 ·dsimp only;refine Lc (My ho hd R.fits ?_);dsimp only;have hj:(st t.mask `j n).j<=t.mask:=by have:=Ay t.mask `j n;omega
  obtain⟨L',p1,p2,p3,p4,p5,p6,p7,p8,p9,p10⟩:=zX R hk hn c1 c2 hj;have p11:(t.put (st t.mask `j n).j).1.led=t.led:=rfl;generalize t.put (st t.mask `j n).j=tp at p1 p2 p3 p6 p11 ⊢;have len:L'.length=L.length+1:=by have:=p9.length_eq;rwa [Hx,HK,Hx]at this
  generalize he1:SetTable.insertAt es tp.snd ((bG prog w).hash k,Value.ref b)=es1 at p6 ⊢;have sz:es1.size=L'.length:=by have:=congrArg List.length p6;rwa [Array.length_toList,Hx]at this
  have room:=R.tt.room;have hsl:KS=16777216:=Lj;have fin:∀t1:Mx,t1.mask=t.mask->t1.dummies=#[]->t1.place=tp.1.place->t1.led=t.led->K2 `g A (do
    storeSet a es1 t1
    if(!false&&t1.tooFull)=true then do
      setRelay a (grown (es.size+1))
      pure true
     else pure true) Q E s:=λt1 m1 m2 m3 m4=>by
   have pl1:t1.place.toList=L'.map (·.1):=(by rw[m3];exact p3);have ps:t1.place.size=L'.length:=(by have:=congrArg List.length pl1;rwa [Array.length_toList,Hx]at this);refine Lc (wpAny_storeSet_of ho hd ?_ `o);have ho1:=tD es1 t1 ho hd;have sb:=Heap.SameBut.update s.heap a (Obj.putSet es1 t1);have is1:∀x∈L',(bG prog w).is (s.heap.update a (Obj.putSet es1 t1)) x.2.1 x.2.2:=λx hx'=>o4 (p7 x hx') λo' e=>by rw[sb.2 _ (Aq (p7 x hx') ho hd)];exact e
   have tf:t1.tooFull=decide (L'.length*5>=t.mask*3):=by
    unfold SetTable.tooFull SetTable.fill;rw[m2,ps,m1];rfl
   by_cases c:L'.length*5>=t.mask*3
   ·rw[tf,decide_eq_true c,if_pos (show(!false&&true)=true from rfl)];obtain⟨m',g1,g2,g3,g4⟩:=grows R.tt.mok (show L.length*5<t.mask*3 by omega) (by rw[<-len];exact c) hl;obtain⟨t',order,L2,r1,r2,r3,r4,r5⟩:=vK (t:=t1) (wanted:=grown (es.size+1)) g1 (by rw[sz1];exact g2) (by rw[len];exact g3) p6 is1 p8;unfold setRelay;have fit:t1.fits es1.size=true:=by
     unfold SetTable.fits SetTable.fill;rw[m2,ps,sz,m1,HB];refine⟨beq_self_eq_true _,decide_eq_true ?_⟩;show L'.length+0<=_;omega
    refine Lc (Lc (My ho1 rfl fit ?_));dsimp only;rw[if_neg (by rw[sz1];omega),r1];refine Lc ?_;show K2 _ _ (if((order.filterMap (es1[·]?)).size !=es1.size)=true then _ else pure (order.filterMap (es1[·]?),t')) _ _ _;rw[r2,if_neg (by simp)];refine Lb ?_;dsimp only;refine wpAny_storeSet_of ho1 rfl ?_ (by rw[r2];omega);refine Lb (h true _ L2 (sb.trans (Heap.SameBut.update ..)) ⟨_,_,_,t',tD _ t' ho1 rfl,hx,rfl,r3.keep λx hx' o' e=>?_,by rw[r5,m4];exact led⟩ (.inr ⟨hn,r4.trans p9⟩));rw[(Heap.SameBut.update ..).2 _ (Aq (r3.is x hx') ho1 rfl)];exact e
   ·rw[tf,decide_eq_false c,if_neg (show¬((!false&&false)=true)from Hg)];refine Lb (h true _ L' sb ⟨_,es1,_,t1,ho1,hx,rfl,⟨⟨by rw[m1];exact R.tt.mok,m2,by rw[pl1];exact p4,λj hj'=>?_,by rw[ps,m1];omega⟩,pl1,p6,is1,p8,by rw[m1];exact p10⟩,by rw[m4];exact led⟩ (.inr ⟨hn,p9⟩));rw[pl1]at hj';obtain⟨x,hx',rfl⟩:=List.mem_map.mp hj';rw[m1];exact p5 x hx'
  have both:∀v:Bool,K2 `g A (do
    storeSet a es1 (if v=true then tp.fst else{mask:=tp.fst.mask,place:=tp.fst.place,dummies:=tp.fst.dummies,finger:=tp.fst.finger,led:=tp.fst.led,moves:=tp.fst.moves,plain:=false})
    if(!false&&(if v=true then tp.fst else{mask:=tp.fst.mask,place:=tp.fst.place,dummies:=tp.fst.dummies,finger:=tp.fst.finger,led:=tp.fst.led,moves:=tp.fst.moves,plain:=false}).tooFull)=true then do
      setRelay a (grown (es.size+1))
      pure true
     else pure true) Q E s:=λv=>by
   cases v with
   |true=>exact fin _ p1 p2 rfl p11
   |false=>exact fin {mask:=tp.fst.mask,place:=tp.fst.place,dummies:=tp.fst.dummies,finger:=tp.fst.finger,led:=tp.fst.led,moves:=tp.fst.moves,plain:=false} p1 p2 rfl p11
  split
  ·exact Lc (xH hk λv=>both v)
  ·exact Lc (Lb (both true))
end
open PySem PySem.Spec PySem.SetTable L2 PyProof.Rows
structure Acc(kb:Nat->List Key×KI)(i:Nat)(L:List SE):Prop where
 ln:L.length<=i
 of:∀x∈L,∃j,j<i/\x.2=kb j
 has:∀j,j<i->(kb j).1∈L.map (·.2.1)
theorem Acc.step{kb:Nat->List Key×KI}{i:Nat}{L L':List SE}(h:Acc kb i L)(e:((kb i).1∈L.map (·.2.1)/\L'=L)\/((kb i).1∉L.map (·.2.1)/\(L'.map (·.2)).Perm (((kb i).1,(kb i).2)::L.map (·.2)))):Acc kb (i+1) L':=by
 rcases e with⟨e1,rfl⟩|⟨e1,e2⟩
 ·refine⟨JP h.ln,λx hx=>let ⟨j,a,b⟩:=h.of x hx;⟨j,HU a,b⟩,λj hj=>?_⟩;by_cases c:j=i
  ·rw[c];exact e1
  ·exact h.has j `o
 ·have mm:∀k,k∈L'.map (·.2.1)↔k=(kb i).1\/k∈L.map (·.2.1):=λk=>by
   have:=(e2.map (·.1)).mem_iff (a:=k)
   rw[Jq,HF,Jq,Jt]at this;exact this
  refine⟨by have:=e2.length_eq;rw[Hx,HK,Hx]at this;have:=h.ln;omega,λx hx=>?_,λj hj=>(mm _).mpr ?_⟩
  ·have:x.2∈((kb i).1,(kb i).2)::L.map (·.2):=e2.mem_iff.mp (List.mem_map.mpr ⟨x,hx,rfl⟩)
   rcases List.mem_cons.mp this with z|z
   ·exact⟨i,JQ _,z⟩
   ·obtain⟨y,hy,ey⟩:=List.mem_map.mp z;obtain⟨j,a,b⟩:=h.of y hy;exact⟨j,HU a,ey.symm.trans b⟩
  ·by_cases c:j=i
   ·exact .inl (by rw[c])
   ·exact .inr (h.has j `o)
section
variable{prog:KP}{w:KO}{A:KY}{R:Result->bu}{J:KI}{fp wr:ah}{G:Array GenState->Array GenState->Prop}{n:Nat}{P:Nat->KG->Prop}{St:Nat->bu}
theorem t9(W:WalksS prog w A.in1 J fp wr G n P St)(S:KI)(hS0:S∉fp)(kb:Nat->List Key×KI)(hv:∀i v,i<n->P i v->v=.ref (kb i).2)(hne:∀j,j<n->(kb j).2∉S::wr)(hb:n<300)(hu:A.in1.units<Ln):
  ∀(k i:Nat)(s:KN),n-i=k->i<=n->St i s->(∀j,j<n->(bG prog w).is s.heap (kb j).1 (kb j).2)->∀L:List SE,pJ prog w s.heap S L->Acc kb i L->
   (∀s' L',Moved (S::wr) G s s'->pJ prog w s'.heap S L'->Acc kb n L'->R (.ok (.ret .none)) s')->
   Lr `g A (.builtin "set.update.loop" ⟨[.ref S,.ref J],[]⟩) R s:=by
 have hSw:S∉wr:=λh=>hS0 (W.sub _ h);have sub:∀b∈wr,b∈S::wr:=λb hb=>Ha _ hb;have keepI:∀{s s':KN},Moved wr G s s'->(∀j,j<n->(bG prog w).is s.heap (kb j).1 (kb j).2)->∀j,j<n->(bG prog w).is s'.heap (kb j).1 (kb j).2:=λhm h j hj=>o4 (h j hj) λo e=>hm.heap _ _ (λz=>hne j hj (sub _ z)) e;have carry:∀{s s':KN}{L:List SE}{i:Nat},Moved wr G s s'->i<=n->Acc kb i L->pJ prog w s.heap S L->pJ prog w s'.heap S L:=λhm hi ha zq=>zq.elim λo zq=>zq.elim λes zq=>zq.elim λep zq=>zq.elim λt zq=>zq.elim λho r=>⟨o,es,ep,t,hm.heap S _ hSw ho,r.1,r.2.1,r.2.2.1.keep (λx hx o' e=>by
  obtain⟨j,j1,j2⟩:=ha.of x hx;exact hm.heap _ _ (λz=>hne j `o (sub _ (by rw[<-j2];exact z))) e),r.2.2.2⟩
 intro k
 induction k with
 |zero=>
  intro i s hk hi hst hI L hS ha hR;obtain rfl:i=n:=by omega
  refine Ml PyProof.Rows.F.entry_set_update_loop ?_;rw[Around.under_plainId PyProof.Rows.F.plain_set_update_loop _];show K2 _ A.in1 (pyNext (.ref J) >>= _) _ _ s;refine Lc (W.done s _ _ hst λs' hm=>?_);show K2 _ A.in1 (ret Value.none) _ _ s';exact Lb (hR s' L (hm.mono sub) (carry hm (Hi _) ha hS) ha)
 |succ k ih=>
  intro i s hk hi hst hI L hS ha hR;have hlt:i<n:=by omega
  refine Ml PyProof.Rows.F.entry_set_update_loop ?_;rw[Around.under_plainId PyProof.Rows.F.plain_set_update_loop _];show K2 _ A.in1 (pyNext (.ref J) >>= _) _ _ s;refine Lc (W.item i s _ _ hlt hst λv s' hP hst' hm=>?_);obtain rfl:=hv i v hlt hP;have hS':=carry hm hi ha hS;have hI':=keepI hm hI;show K2 _ A.in1 (holding [Value.ref (kb i).2] (setAdd S (.ref (kb i).2)) >>= _) _ _ s';refine Lc (LA ?_);unfold setAdd;refine LA ?_;refine Lc ((bG prog w).pyHash hu (hI' i hlt) ?_);refine BL (s:={s' with toks:=s'.toks+(bG prog w).draws (kb i).1}) hu hS' (by have:=ha.ln;omega) (hI' i hlt) λv h' L' hsb hS2 hc=>?_;refine Lb ⟨Mm PyProof.Rows.F.plain_set_update_loop _,ih (i+1) _ `o hlt (W.frame _ s' _ _ hst' (Nat.le_add_right _ _) λb hb o e=>by rw[hsb.2 b (λh:b=S=>hS0 (h ▸ hb))];exact e) (λj hj=>o4 (hI' j hj) λo e=>by rw[hsb.2 _ (λz=>hne j hj (by rw[z];exact G9))];exact e) L' hS2 (ha.step hc) λs'' L'' hm2 hS3 ha3=>?_⟩;refine hR s'' L'' (Moved.trans W.gtrans ((hm.mono sub).then_heap (Nat.le_add_right _ _) λb o hb e=>?_) hm2) hS3 ha3;rw[hsb.2 b (λh:b=S=>hb (h ▸ G9))];exact e
end
section
variable{prog:KP}{w:KO}{A:KY}{E:aA}{s:KN}
noncomputable abbrev iM(led:Bool):Obj:={cls:=.type "set",dict:=none,data:=.set #[] 0 (.fresh 0 0 led)}
theorem yX(a:KG){Q:aA}(h:Q (.ref s.heap.objs.size) {s with heap:=s.heap.push (iM (!w.params.followText "set-order"))}):
  Lr `g A (.call (.builtin "set.__new__") ⟨[.type "set",a],[]⟩) (wants Q E) s:=by
 refine codeAny_of_tree ?_;show K2 _ A.in1 (checkBuiltinCall "set.__new__" ⟨[.type "set",a],[]⟩ >>= λ_=>again (.builtin "set.__new__" ⟨[.type "set",a],[]⟩)) _ _ s;refine Lc (wpAny_of_eq (F.newCall_set_1 a) (Lb ⟨Mm F.plain_set_new _,Ml F.entry_set_new ?_⟩));rw[Around.under_plainId F.plain_set_new _];unfold Builtin.«set.__new__» Builtin.Frozenset.newClass;have hsub:=sub_set_self;obtain⟨hp,g,d,tk,os⟩:=s;dsimp only;wp_walk;refine Mz (Lb ?_);dsimp only;simp only[newObj];exact Lc (wpAny_alloc (Lb (Lb h)))
theorem tU{l:KI}{its:dF}{kb:Nat->List Key×KI}{Q:aA}(hu:A.units+64<Ln)(hh:A.handled=none)(hl:s.heap.IsList l its)(hv:∀(i:Nat) v,its[i]?=some v->v=.ref (kb i).2/\(bG prog w).is s.heap (kb i).1 (kb i).2)(hb:its.size<300)
  (h:∀(h':KR)(tk:Nat)(L:List SE),pJ prog w h' s.heap.objs.size L->Acc kb its.size L->(∀b o,b<s.heap.objs.size->s.heap.get? b=some o->h'.get? b=some o)->Q (.ref s.heap.objs.size) {s with heap:=h',toks:=tk}):
  K2 `g A (call (.type "set") [.ref l]) Q E s:=by
 obtain⟨c,tl,hmro⟩:=F.called_set.mro;have hmade:=F.called_set.made;have hsub:=F.called_set.sub;refine wpAny_call (codeAny_of_tree ?_);show K2 _ _ (callAny (.type "set") _) _ _ _;refine Lb ⟨Code.quiet_builtin _ (by decide +kernel),Ml F.entry_type_call ?_⟩;rw[Around.under_plain (weight_type_call_type "set" [.ref l] []) rfl];have h1:=F.called_set.notType;have h2:=F.called_set.canCreate;have hct:=F.typeCall_set_1 (.ref l)
 repeat (any_goals (first|assumption|wp_step))
 refine LO (yX (.ref l) (E:=E) (Q:=λobj s₁=>obj=.ref s.heap.objs.size/\s₁={s with heap:=s.heap.push (iM (!w.params.followText "set-order"))}) ⟨rfl,rfl⟩) λr s₁ hr=>?_;cases r with
 |error e=>exact hr
 |ok fl=>
  cases fl with
  |ret obj=>
   obtain⟨rfl,rfl⟩:=hr;generalize hled:(!w.params.followText "set-order")=led;have hS:(s.heap.push (iM led)).get? s.heap.objs.size=some (iM led):=Kg _ rfl;have hT:Shared.TypeIs {s with heap:=s.heap.push (iM led)} (.ref s.heap.objs.size) "set":=⟨_,hS,rfl⟩
   have hli:=F.called_set.init.lookup;have hbi:=F.called_set.init.bind (.ref s.heap.objs.size)
   repeat (any_goals (first|assumption|wp_step))
   refine LO (codeAny_call_builtin (R:=wants (λr s₂=>r=.none/\∃h' tk L,s₂={s with heap:=h',toks:=tk}/\pJ prog w h' s.heap.objs.size L/\Acc kb its.size L/\
     (∀b o,b<s.heap.objs.size->s.heap.get? b=some o->h'.get? b=some o)) E) F.called_set.init.plain F.entry_set_init (check_set_init_1 hT ?_)) λr₂ s₂ hr₂=>?_
   ·have hl1:(s.heap.push (iM led)).IsList l its:=hl.push _;have hlS:l<s.heap.objs.size:=(by obtain⟨o,ho,_⟩:=id hl;exact Kc ho);have hl2:=id hl1;obtain⟨ol,hol,hcl,nl,hdl⟩:=hl2;obtain⟨ocls,odict,odata,oslots⟩:=ol;simp only at hcl hdl;subst hcl;subst hdl;have hsls:=PySem.F.sub_list_set;have hslf:=PySem.F.sub_list_frozenset;have hne:(Value.type "list"==Value.type "dict")=false:=(by decide);unfold Builtin.«set.__init__» noKeywords Builtin.Frozenset.updateFrom;generalize hPI:pyIter=PI
    wp_walk
    subst hPI;refine Le hl1 ?_;refine Lc (wpAny_runValue ?_);have hh3:A.in1.in1.in1.handled=none:=(by simp[hh]);have hneI:l≠(s.heap.push (iM led)).objs.size:=(by rw[Ki];exact G2 (HU hlS));have hSf:s.heap.objs.size∉[(s.heap.push (iM led)).objs.size,l]:=by
     rw[Ki];simp only[Jt,Js,Ju,or_false,not_or];exact⟨G2 (JQ _),Hh hlS⟩
    have lt0:∀j,j<its.size->(kb j).2<s.heap.objs.size/\(bG prog w).is s.heap (kb j).1 (kb j).2:=λj hj=>by
     obtain⟨_,q2⟩:=hv j its[j] (Array.getElem?_eq_getElem hj);obtain⟨o,items,n,q3,_⟩:=id q2;exact⟨Kc q3,q2⟩
    refine t9 ((Walks.list hh3 _ l hneI its).toS) s.heap.objs.size hSf kb (λi v _ e=>(hv i v e).1) (λj hj=>?hne) hb (by first|(show A.units+1+1+1<Ln;omega)|(show A.units+1+1+1+1<Ln;omega)|(show A.units+1+1<Ln;omega)) (its.size-0) 0 _ `o (HP _) ⟨⟨_,Kg _ rfl,rfl,rfl⟩,(hl1.push _)⟩ (λj hj=>o4 (lt0 j hj).2 λo e=>Kf _ (Kf _ e)) [] ?hS0 ⟨Hi _,λx hx=>(nomatch hx),λj hj=>absurd hj (JK _)⟩ ?hR
    case hne=>
     have:=(lt0 j hj).1
     rw[Ki];simp only[Jt,Js,Ju,or_false,not_or];exact⟨G2 this,G2 (HU this)⟩
    case hS0=>
     exact⟨_,#[],0,.fresh 0 0 led,Kf _ hS,⟨rfl,rfl,rfl⟩,rfl,⟨⟨.inl rfl,rfl,List.Pairwise.nil,λj hj=>(nomatch hj),by show 0*5<7*3;decide⟩,rfl,rfl,λx hx=>(nomatch hx),HQ,λx hx=>(nomatch hx)⟩,hled.symm⟩
    case hR=>
     intro s' L hm hS' ha;obtain⟨h',g',d',tk',os'⟩:=s';have eg:g'=s.gens:=hm.gens;have ed:d'=s.drawn:=hm.drawn;have eo:os'=s.os:=hm.os;subst eg;subst ed;subst eo;show K2 _ _ _ _ _ _;refine Lb ?_;show K2 _ _ (ret Value.none) _ _ _;refine Lb ⟨rfl,h',tk',L,rfl,hS',ha,λb o hb e=>?_⟩;have hb1:b≠s.heap.objs.size:=G2 hb;have hb2:b≠(s.heap.push (iM led)).objs.size:=(by rw[Ki];exact G2 (HU hb));refine hm.heap b o ?_ (Kf _ (Kf _ e));simp only[Jt,Js,Ju,or_false,not_or];exact⟨hb1,hb2⟩
   ·cases r₂ with
    |error e=>exact hr₂
    |ok fl₂=>
     cases fl₂ with
     |ret r=>
      obtain⟨rfl,h',tk,L,rfl,hS',ha,hk'⟩:=hr₂
      repeat (any_goals (first|assumption|wp_step))
      exact h _ _ L hS' ha hk'
     |_=>exact hr₂.elim
  |_=>exact hr.elim
end
end TG
namespace TG
open PySem PySem.Spec PySem.SetTable PySem.Calls L2
section
variable{prog:KP}{w:KO}{A:KY}{E:aA}
theorem uQ{s:KN}{src:Source}{n:Nat}{Q:Nat->bu}(hn:n≠0)(h:Q (w.draws src (s.drawn.get src)%n) {s with drawn:=s.drawn.bump src}):K2 `g A (choose src n) Q E s:=λ_ _ _=>by
 show Sem.wp _ _ (.choose src n .pure) _ _ _ _;rw[Sem.wp_choose];exact⟨hn,by simpa using(show Q ((model prog w).w.draws src (s.drawn.get src)%n) {s with drawn:=s.drawn.bump src}from h)⟩
theorem sF{α:Type}{l:List α}{i:Nat}(h:i<l.length):(l[i]::l.eraseIdx i).Perm l:=by
 rw[Jx]
 have:=List.perm_middle (a:=l[i]) (l₁:=l.take i) (l₂:=l.drop (i+1))
 rw[<-Iq h,IR]at this;exact this.symm
theorem tu{α:Type}:∀(n:Nat)(xs:List α)(s:KN),xs.length=n->∃ys d',ys.Perm xs/\∀(E:aA)(Q:List α->bu),Q ys {s with drawn:=d'}->K2 `g A (drawOrder n xs) Q E s
 |0,xs,s,h=>⟨[],s.drawn,by rw[List.length_eq_zero_iff.mp h],λ_ Q q=>by
  unfold drawOrder;exact Lb q⟩
 |n+1,[],s,h=>by cases h
 |n+1,x::xs,s,h=>by
  have hl:(x::xs).length≠0:=by simp
  have hi:w.draws .order (s.drawn.get .order)%(x::xs).length<(x::xs).length:=JF _ `o;obtain⟨ys,d',p,q⟩:=tu n ((x::xs).eraseIdx (w.draws .order (s.drawn.get .order)%(x::xs).length)) {s with drawn:=s.drawn.bump .order} (by rw[JR hi,h];rfl);refine⟨(x::xs)[w.draws .order (s.drawn.get .order)%(x::xs).length]::ys,d',(p.cons _).trans (sF hi),λE Q hQ=>?_⟩;rw[drawOrder]
  ·refine Lc (uQ hl ?_);rw[Ia hi];dsimp only;exact Lc (q _ _ (Lb hQ))
  ·simp
theorem rZ{α:Type}(next:Nat->Nat):∀(fuel k:Nat)(left:List α)(out:Array α),left.length<=fuel->(pickOrder.go next fuel k left out).toList.Perm (out.toList++left)
 |0,k,left,out,h=>by
  rw[List.length_eq_zero_iff.mp (Nat.le_zero.mp h),Hl];exact .refl _
 |fuel+1,k,left,out,h=>by
  rw[pickOrder.go];cases e:left[next k%left.length]? with
  |none=>
   have:left=[]:=Classical.byContradiction λz=>by
    have:next k%left.length<left.length:=JF _ (List.length_pos_iff.mpr z)
    rw[Ia this]at e;cases e
   rw[this,Hl]
  |some x=>
   obtain⟨hi,ex⟩:=List.getElem?_eq_some_iff.mp e;have ih:=rZ next fuel (k+1) (left.eraseIdx (next k%left.length)) (out.push x) (by rw[JR hi];omega)
   rw[Array.toList_push,Iu]at ih;refine ih.trans (List.Perm.append_left _ ?_);rw[<-ex];exact sF hi
theorem mZ{α:Type}(next:Nat->Nat)(xs:Array α):(pickOrder next xs).toList.Perm xs.toList:=by
 have:=rZ next xs.size 0 xs.toList #[] (by simp)
 rw[show(#[]:Array α).toList++xs.toList=xs.toList from rfl]at this;exact this
end
theorem mF:entryFor table "set.__iter__"=some Builtin.«frozenset.__iter__»:=entryFor_alias (id':="frozenset.__iter__") (by kernel_rfl) rfl (by decide +kernel) (by kernel_rfl)
theorem fh:Slot "set_iterator" "__next__" "set_iterator.__next__":=
 .of (owner:="set_iterator") (n:="__next__") (by rw[Mi,Mj];kernel_rfl) (by decide +kernel) (by decide +kernel) (by decide +kernel) (by first|exact .inl (by decide +kernel)|exact .inr (by decide +kernel)) (by rw[MA];kernel_rfl)
theorem kU:entryFor table "set_iterator.__next__"=some Builtin.«set_iterator.__next__»:=entryFor_of_tree (by kernel_rfl)
theorem lB(a:KG):argsOk "set_iterator.__next__" ⟨[a],[]⟩:=by
 unfold argsOk;kernel_rfl
noncomputable abbrev sj(first:KG)(i:Nat)(S:KI)(n ep:Nat):Obj:={cls:=.type "set_iterator",data:=.fields #[first,.int i 0,.ref S,.int n 0,.int ep 0]}
section
variable{prog:KP}{w:KO}{A:KY}{E:aA}{s:KN}
theorem wa{S:KI}{o:Obj}{es:Array (Int×KG)}{ep:Nat}{t:Mx}{Q:aA}(ho:s.heap.get? S=some o)(hx:o.ExactSet)(hd:o.data=.set es ep t)(hf:t.fits es.size=true)
  (hn:(w.params.followText "set-order"||!(!t.plain&&decide (es.size>1)))=true) (h:Q (.ref s.heap.objs.size) {s with heap:=s.heap.push (sj (.int 0 0) 0 S es.size ep)}):K2 `g A (pyIter (.ref S)) Q E s:=by
 have hT:s.TypeIs (.ref S) "set":=⟨o,ho,hx.1⟩
 refine Mp hT F.slot_set_iter (LD F.slot_set_iter hT mF ?_ (F.args_set_iter_1 _));unfold Builtin.«frozenset.__iter__»;refine Lc ?_;unfold Builtin.Frozenset.slot0;show K2 _ _ (pure S) _ _ s;refine Lb ?_;unfold Builtin.Frozenset.sizeOf;refine Lc (Lc (MB ho hd hf (Lb ?_)));unfold setDrawn;refine Lc (Lc (My ho hd hf ?_));dsimp only;unfold setsByText;refine Lc (Lc (Mz (Lb (Lb ?_))));dsimp only;split
 ·rename_i hc;have hc:(!w.params.followText "set-order"&&(!t.plain&&decide (es.size>1)))=true:=hc;exfalso;revert hn hc;cases w.params.followText "set-order"<;>cases(!t.plain&&decide (es.size>1))<;>decide
 ·refine Lc (Lb ?_);refine Lc (wpAny_setEpoch_of ho hd hf ?_);unfold newFields;refine Lc (LJ (Lb ⟨_,rfl,"set_iterator",_,⟨_,Kg _ rfl,rfl⟩,fh.lookup,?_⟩));exact h
theorem xD{S:KI}{o:Obj}{es:Array (Int×KG)}{ep:Nat}{t:Mx}(ho:s.heap.get? S=some o)(hx:o.ExactSet)(hd:o.data=.set es ep t)(hf:t.fits es.size=true)(hz:es.size<=1000)
  (hn:(w.params.followText "set-order"||!(!t.plain&&decide (es.size>1)))=false):∃(ys:aP)(d':Drawn),ys.Perm (List.range es.size)/\∀(E:aA)(Q:aA),Q (.ref (s.heap.objs.size+1)) {s with heap:=(s.heap.push {cls:=.type "tuple",data:=.seq (ys.map λ(i:Nat)=>Value.int i 0).toArray}).push (sj (.ref s.heap.objs.size) 0 S es.size ep),drawn:=d'}->K2 `g A (pyIter (.ref S)) Q E s:=by
 obtain⟨ys,d',p,q⟩:=tu (prog:=prog) (w:=w) (A:=A.in1) es.size (List.range es.size) s Il;refine⟨ys,d',p,λE Q h=>?_⟩;have hT:s.TypeIs (.ref S) "set":=⟨o,ho,hx.1⟩
 refine Mp hT F.slot_set_iter (LD F.slot_set_iter hT mF ?_ (F.args_set_iter_1 _));unfold Builtin.«frozenset.__iter__»;refine Lc ?_;unfold Builtin.Frozenset.slot0;show K2 _ _ (pure S) _ _ s;refine Lb ?_;unfold Builtin.Frozenset.sizeOf;refine Lc (Lc (MB ho hd hf (Lb ?_)));unfold setDrawn;refine Lc (Lc (My ho hd hf ?_));dsimp only;unfold setsByText;refine Lc (Lc (Mz (Lb (Lb ?_))));dsimp only;split
 ·refine Lc (q _ _ ?_);unfold newTuple;refine Lc (LJ ?_ (by show(List.map _ ys).toArray.size<=KS;rw[Lj,Hk,Hx];have:=p.length_eq;rw[Il]at this;omega));refine Lc (wpAny_setEpoch_of (s:={s with heap:=s.heap.push _,drawn:=d'}) (Kf _ ho) hd hf ?_);unfold newFields;refine Lc (LJ (Lb ⟨_,rfl,"set_iterator",_,⟨_,Kg _ rfl,rfl⟩,fh.lookup,?_⟩));have e:(s.heap.push {cls:=.type "tuple",dict:=none,data:=.seq (ys.map λ(i:Nat)=>Value.int i 0).toArray}).objs.size=s.heap.objs.size+1:=Ki ..
  rw[<-e]at h;exact h
 ·rename_i hc;have hc:¬(!w.params.followText "set-order"&&(!t.plain&&decide (es.size>1)))=true:=hc;exfalso;revert hn hc;cases w.params.followText "set-order"<;>cases(!t.plain&&decide (es.size>1))<;>decide
end
section
variable{prog:KP}{w:KO}{A:KY}{E:aA}{s:KN}
theorem df{s:KN}{I:KI}{first:KG}{i:Nat}{S:KI}{n ep:Nat}(h:s.heap.get? I=some (sj first i S n ep)):s.TypeIs (.ref I) "set_iterator":=⟨_,h,rfl⟩
theorem mC{I S:KI}{o:Obj}{es:Array (Int×KG)}{ep:Nat}{t:Mx}{slot i:Nat}{Q:Option KG->bu}(hi:s.heap.get? I=some (sj (.int slot 0) i S es.size ep))(ho:s.heap.get? S=some o)(hd:o.data=.set es ep t)(hf:t.fits es.size=true)
  {x:KG} {nx:Nat} (hx:∀(E':aA)(Q':Option (KG×Nat)->bu),Q' (some (x,nx)) s->K2 `g A.in1 (setNext S slot i ep) Q' E' s)
  (h:∀h',h'.get? I=some (sj (.int nx 0) (i+1) S es.size ep)->Ke I s.heap h'->Q (some x) {s with heap:=h'}):K2 `g A (pyNext (.ref I)) Q E s:=by
 unfold pyNext;refine Lc (Mf (LC (name:=Str.ofString "__next__") (df hi) fh (LD fh (df hi) kU ?_ (lB _))));unfold Builtin.«set_iterator.__next__»;refine Lc (Lb ?_);dsimp only;refine Lc (Mu hi rfl ?_);dsimp only;refine Lc (MB ho hd hf ?_);rw[if_neg (by simp)];simp only[Hz];refine Lc (hx _ _ ?_);dsimp only;refine Lc (Mv hi rfl (by simp) ?_);have u1:(s.heap.update I (Obj.mapFields (·.setIfInBounds 0 (rawInt (nx:Int))))).get? I=some (sj (.int nx 0) i S es.size ep):=(Kl _ hi rfl).trans rfl;refine Lc (Mv (s:={s with heap:=s.heap.update I (Obj.mapFields (·.setIfInBounds 0 (rawInt (nx:Int))))}) u1 rfl (by simp) ?_);exact Lb ⟨_,rfl,Lb (h _ ((Kl _ u1 rfl).trans rfl) ((Heap.SameBut.update ..).trans (Heap.SameBut.update ..)))⟩
theorem qK{I S T:KI}{o oT:Obj}{es:Array (Int×KG)}{ep:Nat}{t:Mx}{i m:Nat}{pl:dF}{c:Nat}{Q:Option KG->bu}(hi:s.heap.get? I=some (sj (.ref T) i S es.size ep))(ho:s.heap.get? S=some o)(hd:o.data=.set es ep t)(hf:t.fits es.size=true)
  (hT:s.heap.get? T=some oT) (hdT:oT.data=.seq pl c) (hp:pl[i]?=some (.int m 0)) {e:Int×KG} (he:es[m]?=some e)
  (h:∀h',h'.get? I=some (sj (.ref T) (i+1) S es.size ep)->Ke I s.heap h'->Q (some e.2) {s with heap:=h'}):K2 `g A (pyNext (.ref I)) Q E s:=by
 unfold pyNext;refine Lc (Mf (LC (name:=Str.ofString "__next__") (df hi) fh (LD fh (df hi) kU ?_ (lB _))));unfold Builtin.«set_iterator.__next__»;refine Lc (Lb ?_);dsimp only;refine Lc (Mu hi rfl ?_);dsimp only;refine Lc (MB ho hd hf ?_);rw[if_neg (by simp)];unfold seqItems?;refine Lc (Lc (Ld hT ?_));rw[hdT];refine Lb ?_;dsimp only;simp only[Hz];rw[hp];dsimp only;unfold setNextDrawn;simp only[Hz];refine Lc (Lc (My ho hd hf ?_));dsimp only;rw[if_neg (by simp),he];refine Lb ?_
 try dsimp only
 refine Lc (Mv hi rfl (by simp) ?_);exact Lb ⟨_,rfl,Lb (h _ ((Kl _ hi rfl).trans rfl) (Heap.SameBut.update ..))⟩
theorem rQ{I S:KI}{first:KG}{o:Obj}{es:Array (Int×KG)}{ep:Nat}{t:Mx}{i:Nat}{Q:Option KG->bu}(hh:A.handled=none)(hi:s.heap.get? I=some (sj first i S es.size ep))(ho:s.heap.get? S=some o)(hd:o.data=.set es ep t)(hf:t.fits es.size=true)
  (hend:(∃slot:Nat,first=.int slot 0/\∀(E':aA)(Q':Option (KG×Nat)->bu),Q' none s->K2 `g A.in1 (setNext S slot i ep) Q' E' s)\/∃T oT pl c,first=.ref T/\s.heap.get? T=some oT/\oT.data=.seq pl c/\pl[i]?=none)
  (h:∀h',Heap.ExtBut I s.heap h'->Q none {s with heap:=h'}):K2 `g A (pyNext (.ref I)) Q E s:=by
 unfold pyNext;refine Lc (Mf (LC (name:=Str.ofString "__next__") (df hi) fh (LD fh (df hi) kU ?_ (lB _))));unfold Builtin.«set_iterator.__next__»;refine Lc (Lb ?_);dsimp only;refine Lc (Mu hi rfl ?_);dsimp only;refine Lc (MB ho hd hf ?_);rw[if_neg (by simp)];have stop:∀(h1:KR),Ke I s.heap h1->K2 `g A.in1 (do
   let __do_lift<-newExc (Value.type "StopIteration") []
   raiseNew __do_lift) (λfin s'=>∃v,fin=Fin.done (Flow.ret v)/\K2 `g A (pure (some v)) Q E s')
   (fun e s'=>K2 `g A (do
     let __do_lift<-isInstance e (Value.type "StopIteration")
     if __do_lift=true then pure none else throw e) Q E s') {s with heap:=h1}:=λh1 sb=>by
  refine Lc ?_;simp only[newExc,newTuple];refine Lc (LJ ?_ (by size_fits));refine Lc (m:=firstArgMember _ _) (wpAny_of_eq (a:=Value.none) (by first|rfl|(simp only[firstArgMember];rfl)) ?_);refine LJ ?_ (by size_fits);simp only[raiseNew];refine Lc (wpAny_handled ?_);rw[show A.in1.handled=none from hh];refine Lc (Lb (wpAny_throw ?_));refine Lc (Mk (T:="StopIteration") (b:=true) ⟨_,Kg _ rfl,rfl⟩ isSubtype_stop ?_);exact Lb (h _ ((sb.extBut.push _).push _))
 rcases hend with⟨slot,rfl,hx⟩|⟨T,oT,pl,c,rfl,hT,hdT,hp⟩
 ·dsimp only;simp only[Hz];refine Lc (hx _ _ ?_);dsimp only;refine Lc (Mv hi rfl (by simp) ?_);exact stop _ (Heap.SameBut.update ..)
 ·dsimp only;unfold seqItems?;refine Lc (Lc (Ld hT ?_));rw[hdT];refine Lb ?_;dsimp only;simp only[Hz];rw[hp];dsimp only;refine Lc (Mv hi rfl (by simp) ?_);have u1:(s.heap.update I (Obj.mapFields (·.setIfInBounds 0 (rawInt 0)))).get? I=some (sj (.int 0 0) i S es.size ep):=(Kl _ hi rfl).trans rfl;refine Lc (Mv (s:={s with heap:=s.heap.update I (Obj.mapFields (·.setIfInBounds 0 (rawInt 0)))}) u1 rfl (by simp) ?_);exact stop _ ((Heap.SameBut.update ..).trans (Heap.SameBut.update ..))
end
theorem qc:Slot "set_iterator" "__iter__" "set_iterator.__iter__":=
 .of (owner:="set_iterator") (n:="__iter__") (by rw[Mi,Mj];kernel_rfl) (by decide +kernel) (by decide +kernel) (by decide +kernel) (by first|exact .inl (by decide +kernel)|exact .inr (by decide +kernel)) (by rw[MA];kernel_rfl)
theorem ui:entryFor table "set_iterator.__iter__"=some Builtin.«dict_keyiterator.__iter__»:=entryFor_alias (id':="dict_keyiterator.__iter__") (by kernel_rfl) rfl (by decide +kernel) (by kernel_rfl)
theorem xc(a:KG):argsOk "set_iterator.__iter__" ⟨[a],[]⟩:=by
 unfold argsOk;kernel_rfl
section
variable{prog:KP}{w:KO}{A:KY}{E:aA}{s:KN}
theorem sY{S:KI}{o:Obj}{es:Array (Int×KG)}{ep:Nat}{t:Mx}{slot i:Nat}{Q:Option (KG×Nat)->bu}(ho:s.heap.get? S=some o)(hd:o.data=.set es ep t)(hf:t.fits es.size=true)(hb:w.params.followText "set-order"=true)
  (h:Q (((pickOrder (w.params.setOrder S ep) es)[i]?).map λe=>(e.2,slot)) s):K2 `g A (setNext S slot i ep) Q E s:=by
 unfold setNext;refine Lc (My ho hd hf ?_);dsimp only;unfold setsByText;refine Lc (Lc (Mz (Lb ?_)));dsimp only;rw[show(model prog w).w.params.followText "set-order"=true from hb,if_pos rfl,if_neg (by simp)];unfold setWalk;refine Lc (Lc (My ho hd hf ?_));dsimp only;unfold setsByText;refine Lc (Lc (Mz (Lb ?_)));dsimp only;rw[show(model prog w).w.params.followText "set-order"=true from hb,if_pos rfl];refine Lc (Mz (Lb ?_));exact Lb h
theorem sE{S:KI}{o:Obj}{es:Array (Int×KG)}{ep:Nat}{t:Mx}{slot i:Nat}{Q:Option (KG×Nat)->bu}(ho:s.heap.get? S=some o)(hd:o.data=.set es ep t)(hf:t.fits es.size=true)(hb:w.params.followText "set-order"=false)(hdr:(!t.plain&&decide (es.size>1))=false)(hl:t.led=true)
  (h:Q (match es[below t.place slot]?,t.place[below t.place slot]? with
   |some (_,x),some j=>some (x,j+1)
   |_,_=>none) s):K2 `g A (setNext S slot i ep) Q E s:=by
 unfold setNext;refine Lc (My ho hd hf ?_);dsimp only;unfold setsByText;refine Lc (Lc (Mz (Lb ?_)));dsimp only;rw[show(model prog w).w.params.followText "set-order"=false from hb,if_neg Hg];split
 ·rename_i hc;have hc:(!t.plain&&decide (es.size>1))=true:=hc;rw[hdr]at hc;cases hc
 ·refine Lc ?_;show K2 _ _ (if(!t.led&&!es.isEmpty)=true then _ else pure ()) _ _ _;rw[hl,if_neg (by simp)];exact Lb (Lb h)
structure D6(prog:KP)(w:KO)(A:KY)(s:KN)(S:KI)(es:Array (Int×KG)):Prop where
 go:∃(ord:List (Int×KG))(d':Drawn)(h2:KR)(I:KI)(fp:ah)(St:Nat->KR->Prop),ord.Perm es.toList/\(∀b o',s.heap.get? b=some o'->h2.get? b=some o')/\s.heap.objs.size<=I/\(∀b∈fp,b=S\/s.heap.objs.size<=b)/\
  (∀(E:aA)(Q:aA),Q (.ref I) {s with heap:=h2,drawn:=d'}->K2 `g A (pyIter (.ref S)) Q E s)/\
  Walks prog w A I fp [I] es.size (λi v=>(ord[i]?).map (·.2)=some v) St/\St 0 h2
theorem oG{I S:KI}{first:KG}{i n ep:Nat}{Q:aA}(hi:s.heap.get? I=some (sj first i S n ep))(h:Q (.ref I) s):K2 `g A (pyIter (.ref I)) Q E s:=by
 refine Mp (df hi) qc (LD qc (df hi) ui ?_ (xc _));show K2 _ _ (ret (.ref I)) _ _ s;exact Lb ⟨_,rfl,"set_iterator",_,df hi,fh.lookup,h⟩
theorem Bo{S:KI}{o:Obj}{es:Array (Int×KG)}{ep:Nat}{t:Mx}(hh:A.handled=none)(ho:s.heap.get? S=some o)(hx:o.ExactSet)(hd:o.data=.set es ep t)(T:Tt t)(hf:t.fits es.size=true)(led:t.led=!w.params.followText "set-order")(hz:es.size<=1000):D6 prog w A s S es:=by
 have hS:=Kc ho;have szp:t.place.size=es.size:=by
  unfold SetTable.fits at hf;rw[HB]at hf;exact eq_of_beq hf.1
 have nI:S≠s.heap.objs.size:=G2 hS;cases hb:w.params.followText "set-order"with
 |true=>
  have sz:(pickOrder (w.params.setOrder S ep) es).size=es.size:=by
   have:=(mZ (w.params.setOrder S ep) es).length_eq
   rwa [Array.length_toList,Array.length_toList]at this
  refine⟨(pickOrder (w.params.setOrder S ep) es).toList,s.drawn,_,s.heap.objs.size,[s.heap.objs.size,S],λi h=>h.get? s.heap.objs.size=some (sj (.int 0 0) i S es.size ep)/\h.get? S=some o,mZ _ es,λb o' e=>Kf _ e,Hi _,λb hb=>?_,λE Q h=>wa ho hx hd hf (by rw[hb];rfl) h,?_,Kg _ rfl,Kf _ ho⟩
  ·rcases List.mem_cons.mp hb with z|z
   ·exact .inr (HH z.symm)
   ·exact .inl (List.mem_singleton.mp z)
  ·refine⟨λb hb=>by rw[List.mem_singleton.mp hb];simp,λi h h' st k=>⟨k _ (by simp) _ st.1,k _ (by simp) _ st.2⟩,λi s' Q E hi st hQ=>?_,λs' Q E st hQ=>?_,λi s' Q E st hQ=>oG st.1 hQ⟩
   ·have hi':i<(pickOrder (w.params.setOrder S ep) es).size:=(by omega);refine mC (slot:=0) (nx:=0) (x:=(pickOrder (w.params.setOrder S ep) es)[i].2) st.1 st.2 hd hf (λE' Q' q=>sY st.2 hd hf hb (by rw[Array.getElem?_eq_getElem hi'];exact q)) λh' e1 sb=>hQ _ h' s'.toks ?_ ⟨e1,(sb.2 S nI).trans st.2⟩ λb o' hb' e=>(sb.2 b λz=>hb' (by rw[z];simp)).trans e;rw[Array.getElem?_toList,Array.getElem?_eq_getElem hi'];rfl
   ·refine rQ hh st.1 st.2 hd hf (.inl ⟨0,rfl,λE' Q' q=>sY st.2 hd hf hb (by rw[Array.getElem?_eq_none `o];exact q)⟩) λh' eb=>hQ h' s'.toks λb o' hb' e=>eb b o' (λz=>hb' (by rw[z];simp)) e
 |false=>
  have lt:t.led=true:=by rw[led,hb];rfl
  cases hdr:(!t.plain&&decide (es.size>1))with
  |false=>
   have sl:∀i,i<=es.size->below t.place (if i=0 then 0 else(t.place.getD (i-1) 0)+1)=i:=λi hi=>by
    obtain⟨b1,b2,b3⟩:=kL T.up (if i=0 then 0 else(t.place.getD (i-1) 0)+1);have mono:∀(a b:Nat)(ha:a<t.place.size)(hb:b<t.place.size),a<b->t.place[a]<t.place[b]:=λa b ha hb hab=>by
     have:=List.pairwise_iff_getElem.mp T.up a b (by simpa using ha) (by simpa using hb) hab
     simpa only[Array.getElem_toList]using this
    by_cases z:i=0
    ·rw[if_pos z]at b1 b2 b3 ⊢;refine Classical.byContradiction λne=>?_
     have:=b2 0 `o `o
     omega
    ·rw[if_neg z]at b1 b2 b3 ⊢;have hp:i-1<t.place.size:=(by omega);rw[getD_at 0 hp]at b1 b2 b3 ⊢;refine Classical.byContradiction λne=>?_;by_cases c:below t.place (t.place[i-1]+1)<i
     ·have:=b3 (i-1) hp `o
      omega
     ·have hi2:i<t.place.size:=by omega
      have:=b2 i hi2 `o
      have:=mono (i-1) i hp hi2 `o
      omega
   refine⟨es.toList,s.drawn,_,s.heap.objs.size,[s.heap.objs.size,S],λi h=>h.get? s.heap.objs.size=some (sj (.int ((if i=0 then 0 else(t.place.getD (i-1) 0)+1:Nat):Int) 0) i S es.size ep)/\h.get? S=some o,.refl _,λb o' e=>Kf _ e,Hi _,λb hb=>?_,λE Q h=>wa ho hx hd hf (by rw[hb,hdr];rfl) h,?_,Kg _ rfl,Kf _ ho⟩
   ·rcases List.mem_cons.mp hb with z|z
    ·exact .inr (HH z.symm)
    ·exact .inl (List.mem_singleton.mp z)
   ·refine⟨λb hb=>by rw[List.mem_singleton.mp hb];simp,λi h h' st k=>⟨k _ (by simp) _ st.1,k _ (by simp) _ st.2⟩,λi s' Q E hi st hQ=>?_,λs' Q E st hQ=>?_,λi s' Q E st hQ=>oG st.1 hQ⟩
    ·have hi':i<t.place.size:=(by omega);refine mC (nx:=t.place[i]+1) (x:=es[i].2) st.1 st.2 hd hf (λE' Q' q=>sE st.2 hd hf hb hdr lt ?_) λh' e1 sb=>hQ _ h' s'.toks ?_ ⟨?_,(sb.2 S nI).trans st.2⟩ λb o' hb' e=>(sb.2 b λz=>hb' (by rw[z];simp)).trans e
     ·rw[sl i `o,Array.getElem?_eq_getElem hi,Array.getElem?_eq_getElem hi'];exact q
     ·rw[Array.getElem?_toList,Array.getElem?_eq_getElem hi];rfl
     ·rw[if_neg `o,Nat.add_sub_cancel,getD_at 0 hi'];exact e1
    ·refine rQ hh st.1 st.2 hd hf (.inl ⟨_,rfl,λE' Q' q=>sE st.2 hd hf hb hdr lt ?_⟩) λh' eb=>hQ h' s'.toks λb o' hb' e=>eb b o' (λz=>hb' (by rw[z];simp)) e;rw[sl es.size (Hi _),Array.getElem?_eq_none (Hi _)];exact q
  |true=>
   obtain⟨ys,d',p,q⟩:=xD (A:=A) ho hx hd hf hz (by rw[hb,hdr];rfl);have yl:ys.length=es.size:=(by have:=p.length_eq;rwa [Il]at this);have ylt:∀(i:Nat)(hi:i<ys.length),ys[i]<es.size:=λi hi=>List.mem_range.mp (p.mem_iff.mp (IH hi));have size2:s.heap.objs.size+1=(s.heap.push {cls:=.type "tuple",data:=.seq (ys.map λ(i:Nat)=>Value.int i 0).toArray}).objs.size:=(Ki ..).symm;refine⟨ys.map λi=>es.getD i (0,.none),d',_,s.heap.objs.size+1,[s.heap.objs.size+1,S,s.heap.objs.size],λi h=>h.get? (s.heap.objs.size+1)=some (sj (.ref s.heap.objs.size) i S es.size ep)/\h.get? S=some o/\h.get? s.heap.objs.size=some {cls:=.type "tuple",data:=.seq (ys.map λ(i:Nat)=>Value.int i 0).toArray},?_,λb o' e=>Kf _ (Kf _ e),HV _,λb hb=>?_,q,?_,?_,Kf _ (Kf _ ho),Kf _ (Kg _ rfl)⟩
   ·have:=p.map λi=>es.getD i (0,.none)
    refine this.trans (List.Perm.of_eq ?_);refine Jl λi=>?_;rw[Ht,show es.toList[i]?=es[i]? from Array.getElem?_toList ..];by_cases c:i<es.size
    ·rw[Io c,Array.getElem?_eq_getElem c];show some (es.getD i (0,.none))=_;rw[Array.getD_eq_getD_getElem?,Array.getElem?_eq_getElem c];rfl
    ·rw[JO (l:=List.range es.size) (by rw[Il];omega),Array.getElem?_eq_none `o];rfl
   ·rcases List.mem_cons.mp hb with z|hb
    ·exact .inr (by rw[z];exact HV _)
    ·rcases List.mem_cons.mp hb with z|hb
     ·exact .inl z
     ·exact .inr (HH (List.mem_singleton.mp hb).symm)
   ·refine⟨λb hb=>by rw[List.mem_singleton.mp hb];simp,λi h h' st k=>⟨k _ (by simp) _ st.1,k _ (by simp) _ st.2.1,k _ (by simp) _ st.2.2⟩,λi s' Q E hi st hQ=>?_,λs' Q E st hQ=>?_,λi s' Q E st hQ=>oG st.1 hQ⟩
    ·have hi':i<ys.length:=(by omega);have hm:=ylt i hi';refine qK (m:=ys[i]) (e:=es[ys[i]]) st.1 st.2.1 hd hf st.2.2 rfl (by rw[JS,Ht,Ia hi'];rfl) (Array.getElem?_eq_getElem hm) λh' e1 sb=>hQ _ h' s'.toks ?_ ⟨e1,(sb.2 S (G2 (HU hS))).trans st.2.1,(sb.2 s.heap.objs.size (G2 (JQ _))).trans st.2.2⟩ λb o' hb' e=>(sb.2 b λz=>hb' (by rw[z];simp)).trans e;rw[Ht,Ia hi'];show some (es.getD ys[i] (0,.none)).2=_;rw[Array.getD_eq_getD_getElem?,Array.getElem?_eq_getElem hm];rfl
    ·refine rQ hh st.1 st.2.1 hd hf (.inr ⟨_,_,_,_,rfl,st.2.2,rfl,?_⟩) λh' eb=>hQ h' s'.toks λb o' hb' e=>eb b o' (λz=>hb' (by rw[z];simp)) e;rw[JS,JO (by rw[Hx];omega)]
   ·rw[size2];exact Kg _ rfl
end
open PySem PySem.Spec PySem.SetTable PySem.Calls L2 PySem.W PyProof.Rows
section
variable{prog:KP}{w:KO}{A:KY}{E:aA}{s:KN}
theorem xN{S:KI}{Q:Bool->bu}(hT:s.TypeIs (.ref S) "set")(h:Q false s):K2 `g A (Builtin.List.listLengthHint (.ref S)) Q E s:=by
 unfold Builtin.List.listLengthHint;refine Lc (LU hT PySem.F.slot_set_len.lookup ?_);generalize hid:("set.__len__":String)=id0
 wp_delta
 rw[show splitId id0=some ("set","__len__")from by subst hid;decide +kernel];subst hid;refine Lc (Mk (T:="set") (b:=true) hT (by rw[MA];kernel_rfl) ?_);refine MC (λz=>absurd z (by decide)) λ_=>MC (λ_=>?_) λz=>absurd (by decide +kernel) z;exact Lc (LI hT (Lb h))
theorem pU{S:KI}{o:Obj}{es:Array (Int×KG)}{ep:Nat}{t:Mx}(hh:A.handled=none)(ho:s.heap.get? S=some o)(hx:o.ExactSet)(hd:o.data=.set es ep t)(T:Tt t)(hf:t.fits es.size=true)(led:t.led=!w.params.followText "set-order")(hz:es.size<=1000):
    ∃(its:aC)(d':Drawn),its.Perm (es.toList.map (·.2))/\∀(E:aA)(R:aC->bu),(∀(h':KR)(tk:Nat),(∀b o,s.heap.get? b=some o->h'.get? b=some o)->R its {s with heap:=h',drawn:=d',toks:=tk})->K2 `g A (collect (.ref S)) R E s:=by
  have hlt:=Kc ho;have ho1:(s.heap.push {cls:=.type "list",data:=.seq ([]:aC).toArray}).get? S=some o:=Kf _ ho;obtain⟨ord,d',h2,I,fp,St,pm,kp,hI,hfp,it,W,st0⟩:=(Bo (prog:=prog) (w:=w) (A:=A.in1) (s:={s with heap:=s.heap.push {cls:=.type "list",data:=.seq ([]:aC).toArray}}) hh ho1 hx hd T hf led hz).go;refine⟨ord.map (·.2),d',pm.map _,λE R h=>?_⟩;have hsl:KS=16777216:=Lj;have szP:(s.heap.push {cls:=.type "list",data:=.seq ([]:aC).toArray}).objs.size=s.heap.objs.size+1:=Ki ..
  have hSL:s.heap.objs.size≠S:=Hh hlt;have hLf:s.heap.objs.size∉fp:=λz=>by
    rcases hfp _ z with q|q
    ·exact hSL q
    ·rw[szP]at q;exact absurd q (Nat.not_succ_le_self _)
  unfold collect;refine Lc (wpAny_runValue (Ml entry_proto_collect' ?_));rw[Around.under_plainId PySem.F.plain_proto_collect _];show K2 _ A.in1 (newList [] >>= λl=>again (.builtin "list.__iadd__" ⟨[l,.ref S],[]⟩)) _ _ s;refine Lc (LJ ?_);refine Lb ⟨Mm KA _,Ml entry_list_iadd' ?_⟩;rw[Around.under_plainId KA _];have hL0:(s.heap.push {cls:=.type "list",data:=.seq ([]:aC).toArray}).get? s.heap.objs.size=some {cls:=.type "list",data:=.seq #[]}:=Kg _ rfl;have fin:∀(RR:Result->bu),(∀(h':KR)(tk:Nat)(acc:dF)(c:Nat),h'.get? s.heap.objs.size=some {cls:=.type "list",dict:=none,data:=.seq acc c,slots:=#[]}->acc.toList=ord.map (·.2)->(∀b o,s.heap.get? b=some o->h'.get? b=some o)->RR (.ok (.ret (.ref s.heap.objs.size))) {s with heap:=h',drawn:=d',toks:=tk})->∀(hp:KR)(c tk:Nat),St 0 hp->(∀b o,b≠s.heap.objs.size->(s.heap.push {cls:=.type "list",data:=.seq ([]:aC).toArray}).get? b=some o->hp.get? b=some o)->hp.get? s.heap.objs.size=some {cls:=.type "list",data:=.seq #[] c}->
      Lr `g A (.builtin "list.extend.loop" ⟨[.ref s.heap.objs.size,.ref I,.ref s.heap.objs.size],[]⟩) RR {s with heap:=hp,drawn:=d',toks:=tk}:=λRR hRR hp c tk st kh hL=>by
    refine codeAny_extend_loopS W.toS `o s.heap.objs.size hLf (.ref s.heap.objs.size) es.size 0 _ #[] c rfl (HP _) st hL (ItemsOf.nil _) λs' acc' c' hm hL' hacc=>?_;have ea:acc'.toList=ord.map (·.2):=by
      have ol:ord.length=es.size:=(by have:=pm.length_eq;rwa [Array.length_toList]at this);refine Jl λi=>?_;rw[Array.getElem?_toList,Ht];by_cases c:i<acc'.size
      · have:=hacc.2 i acc'[i] (Array.getElem?_eq_getElem c)
        rw[this,Array.getElem?_eq_getElem c]
      · have:=hacc.1
        rw[Array.getElem?_eq_none `o,JO `o];rfl
    rw[Moved.eq_with hm];exact hRR s'.heap s'.toks acc' c' hL' ea λb ob e=>hm.heap b ob (λz=>by
      rcases List.mem_cons.mp z with z|z
      ·exact absurd (Kc e) (by rw[z];exact G1 _)
      · have:=List.mem_singleton.mp z
        rw[szP]at hI;exact absurd (Kc e) (by rw[this];exact Nat.not_lt.mpr (Nat.le_of_succ_le hI))) (kh b ob (G2 (Kc e)) (Kf _ e))
  show K2 _ A.in1 (Builtin.List.listExtendWith (.ref s.heap.objs.size) (.ref S) (.ref s.heap.objs.size)) _ _ _;unfold Builtin.List.listExtendWith;refine Lc (LI (T:="set") ⟨o,ho1,hx.1⟩ ?_);have e1:Builtin.List.listSameRef (.ref s.heap.objs.size) (.ref S)=false:=by simp[Builtin.List.listSameRef,hSL]
  have e2:(Value.type "set"==Value.type "list")=false:=by decide
  have e3:(Value.type "set"==Value.type "tuple")=false:=by decide
  simp only [e1,e2,e3,Bool.or_false,HS,if_false];refine Lc (it _ _ ?_);refine Lc (LA (xN ⟨o,kp _ _ ho1,hx.1⟩ ?_));have last : ∀ (h' : KR) (tk : Nat) (acc : dF) (c : Nat), h'.get? s.heap.objs.size = some { cls := .type "list", dict := none, data := .seq acc c, slots := #[] } -> acc.toList = ord.map (·.2) -> (∀ b o, s.heap.get? b = some o -> h'.get? b = some o) -> K2 `g A (load s.heap.objs.size >>= fun o => match o.data with
          |.seq xs _=>pure xs.toList
          |_=>unsupported "internal:collect") R E {s with heap:=h',drawn:=d',toks:=tk}:=λh' tk acc c q1 q2 q3=>by
    refine Lc (Ld q1 ?_);dsimp only;rw[q2];exact Lb (h h' tk q3)
  have hL1:=kp _ _ hL0;have kp':∀b o,b≠s.heap.objs.size->(s.heap.push {cls:=.type "list",data:=.seq ([]:aC).toArray}).get? b=some o->h2.get? b=some o:=λb o _ e=>kp b o e;refine MC (λ_=>?_) λ_=>Lb ⟨Mm KC _,fin _ last _ _ _ st0 kp' hL1⟩;refine Lc (LX (Lc ?_));show K2 _ _ (updateSeq s.heap.objs.size (·.push .none) >>= λ_=>updateSeq s.heap.objs.size (·.pop)) _ _ _;refine Lc (wpAny_updateSeq hL1 rfl ?_);have hL2:=Kl (Obj.mapSeq (·.push Value.none)) hL1 rfl;refine wpAny_updateSeq (hz:=by seq_fits) hL2 rfl ?_;have hL3:=Kl (Obj.mapSeq (·.pop)) hL2 rfl;refine Lb ⟨Mm KC _,fin _ last _ _ _ ?_ (λb ob hb e=>?_) hL3⟩
  · refine W.frame 0 _ _ st0 λb hb ob e=>?_
    have nb:b≠s.heap.objs.size:=λz=>hLf (by rw[<-z];exact hb);exact(Kh _ _ (Ne.symm nb)).trans ((Kh _ _ (Ne.symm nb)).trans e)
  ·exact(Kh _ _ (Ne.symm hb)).trans ((Kh _ _ (Ne.symm hb)).trans (kp b ob e))
end
end TG
namespace TG
open PySem PySem.Spec L2
variable[aj]
theorem oP{α β:Type}(f:α->β){l l':List β}(h:l.Perm l'):∀L:List α,l'=L.map f->∃M:List α,M.Perm L/\M.map f=l:=by
 induction h with
 |nil=>
  intro L e;exact⟨[],by rw[List.map_eq_nil_iff.mp e.symm],rfl⟩
 |@cons x l1 l2 _ ih=>
  intro L e;cases L with
  |nil=>cases e
  |cons a L=>
   injection e with e1 e2;obtain⟨M,p,q⟩:=ih L e2;exact⟨a::M,p.cons _,by rw[HF,q,<-e1]⟩
 |swap x y l=>
  intro L e;cases L with
  |nil=>cases e
  |cons a L=>
   cases L with
   |nil=>injection e with _ e;cases e
   |cons b L=>
    injection e with e1 e2;injection e2 with e2 e3;exact⟨b::a::L,.swap ..,by rw[HF,HF,<-e1,<-e2,<-e3]⟩
 |trans _ _ ih1 ih2=>
  intro L e;obtain⟨M,p,q⟩:=ih2 L e;obtain⟨M',p',q'⟩:=ih1 M q.symm;exact⟨M',p'.trans p,q'⟩
noncomputable def kM:List D->Option (List ay)
 |[]=>some []
 |d::ds=>(cG d).bind λk=>(kM ds).map (k::·)
theorem qj:∀{ds:List D}{ks:List ay},kM ds=some ks->ds=ks.map λk=>D.tup (k.map ax)
 |[],_,h=>by cases h;rfl
 |d::ds,ks,h=>by
  obtain⟨k,e1,h⟩:=Option.bind_eq_some_iff.mp (show((cG d).bind λk=>(kM ds).map (k::·))=some ks from h);obtain⟨r,e2,rfl⟩:=Option.map_eq_some_iff.mp h;rw[dN e1,qj e2];rfl
noncomputable def dd:List (ay)->List (ay)
 |[]=>[]
 |k::ks=>if ks.any (λq=>decide (q=k))then dd ks else k::dd ks
theorem EK{k:ay}{ks:List ay}:(ks.any λq=>decide (q=k))=true↔k∈ks:=by
 rw[JT];constructor
 ·rintro⟨q,hq,e⟩;rw[<-of_decide_eq_true e];exact hq
 ·intro h;exact⟨k,h,decide_eq_true rfl⟩
theorem om{k:ay}:∀{ks:List ay},k∈dd ks↔k∈ks
 |[]=>Iff.rfl
 |q::ks=>by
  unfold dd;by_cases c:(ks.any λz=>decide (z=q))=true
  ·rw[if_pos c,om,Jt];exact⟨.inr,λz=>z.elim (λz=>by rw[z];exact EK.mp c) id⟩
  ·rw[if_neg c,Jt,om,Jt]
theorem tm:∀ks:List ay,(dd ks).Nodup
 |[]=>HQ
 |q::ks=>by
  unfold dd;by_cases c:(ks.any λz=>decide (z=q))=true
  ·rw[if_pos c];exact tm ks
  ·rw[if_neg c];exact List.nodup_cons.mpr ⟨λz=>c (EK.mpr (om.mp z)),tm ks⟩
noncomputable abbrev kT(k:ay):D:=.tup (k.map ax)
open Classical in
noncomputable def eK(d:D):aQ:=match d with
 |.lst xs=>(kM xs).bind λks=>if ks.length<300/\qP ((dd ks).map kT)then some (.lst (aM bf ((dd ks).map kT)))else none
 |_=>none
theorem rA{xs ys:List D}(h:qP xs)(p:ys.Perm xs):jY ys=some (.lst (aM bf xs)):=by
 obtain⟨h1,σ,h0,h2,h3⟩:=h;have hsh:∀x∈xs,Sh σ (bf x):=λx hx=>by obtain⟨k,e,s⟩:=h2 x hx;rw[e];exact s
 have pw:ys.Pairwise λx y=>bf x≠bf y:=(p.pairwise_iff λ{a b}(h:bf a≠bf b)=>Ne.symm h).mpr h3;have a:qP ys:=⟨by rw[p.length_eq];exact h1,σ,h0,λx hx=>h2 x (p.mem_iff.mp hx),pw⟩
 unfold jY;rw[if_pos a,lu (σ:=σ) (λx hx=>hsh x (p.mem_iff.mp hx)) pw (gK hsh h3) ((aE bf xs).trans p.symm)]
end TG
namespace TX
open PySem PySem.Spec L2 TG
variable[aj]
structure XE(X:Cx)(e:KJ)(F:FX):Prop where h:FE X e F
structure XT(X:Cx)(e:KJ)(F:aZ):Prop where h:FT X e F
structure XW(X:Cx)(e:KJ)(F:aZ):Prop where h:FW X e F
structure XA(X:Cx)(e:aY)(F:aL):Prop where h:FA X e F
structure XS(X:Cx)(e:KL)(F:bN):Prop where h:FS X e F
structure lW(X:Cx)(e:cD)(F:bN):Prop where h:Gp X e F
structure XI(X:Cx)(t e:KJ)(F:aL):Prop where h:FI X t e F
structure XG(X:Cx)(e:KJ)(F:GF):Prop where h:FG X e F
structure BW(X:Cx)(e:aY)(F:xP):Prop where h:Gw X e F
structure XO(X:Cx)(e:Option KJ)(F:af->R bP):Prop where h:FO X e F
structure XN(X:Cx)(e:KJ)(F:FX):Prop where h:FN X e F
structure Dh(X:Cx)(e:aY)(F:aZ):Prop where h:Fw X e F
structure XV(X:Cx)(e:KJ)(i:Nat):Prop where h:PE X e (C5 i)
structure XB(X:Cx)(scope:KZ)(N:aK)(tg elt:KJ)(ifs:aY)(g:GF)(C:aZ)(Fe:FX)(cl:jJ)(C':KI)(fp:ah)(s:KN)(H:Hp)(E:aA):Prop where
 a:XG (aR X scope N cl C' fp s H E) tg g
 b:Dh (aR X scope N cl C' fp s H E) ifs C
 c:XE (aR X scope N cl C' fp s H E) elt Fe
structure lY(X:Cx)(scope:KZ)(N:aK)(tg elt:KJ)(ifs:aY)(g:GF)(C:aZ)(Fe:FX):Prop where
 q:∀cl C' fp s H E,XB X scope N tg elt ifs g C Fe cl C' fp s H E
theorem lY.h{X:Cx}{scope:KZ}{N:aK}{tg elt:KJ}{ifs:aY}{g:GF}{C:aZ}{Fe:FX}(x:lY X scope N tg elt ifs g C Fe):Gm X scope N tg elt ifs g C Fe:=λcl C' fp s H E=>⟨(x.q cl C' fp s H E).a.h,(x.q cl C' fp s H E).b.h,(x.q cl C' fp s H E).c.h⟩
theorem xv{X:Cx}(i:Nat){x:Str}{pos:Pos}(hN:X.N[i]?=some x:=by rfl)(hv:Dc X.env.scope x:=by first|exact Or.inl rfl|exact Or.inr (Or.inl rfl)|exact Or.inr (Or.inr rfl))(hd:(x==("__debug__":Str))=false:=by decide)
  (hcd:(x==("__classdict__":Str))=false:=by decide):XV X (.Name x pos) i:=⟨pv i hN hv hd hcd⟩
theorem GB{X:Cx}{e:KJ}{f:aZ}(h:XW X e f):XT X e f:=⟨FW.ft h.h⟩
section
variable[aj]{X:Cx}
theorem yE{i:Nat}{x:Str}{pos:Pos}(h:XV X (.Name x pos) i):XE X (.Name x pos) (aa i):=⟨PE.weak h.h λσ H Q zq=>zq.elim λO zq=>zq.elim λρ zq=>zq.elim λE hF=>by
  obtain⟨d,e,q⟩:=uv hF;obtain⟨v,e,dv⟩:=E.val i d e;exact⟨v,e,q v H (aD.refl H) dv⟩⟩
theorem z8{i j pos}:XE X (.Constant (.int i) j pos) (fC (.int i)):=⟨iF A4 λ_ _=>cX.mpr rfl⟩
theorem BA{b j pos}:XE X (.Constant (.bool b) j pos) (fC (.bl b)):=⟨iF Eo λ_ _=>gf.mpr rfl⟩
theorem yr{j pos}:XE X (.Constant .none j pos) (fC .non):=⟨iF BU λ_ _=>fG.mpr rfl⟩
theorem yG{x j pos}:XE X (.Constant (.str x) j pos) (fC (.str x)):=⟨iF BF λ_ _=>cA.mpr rfl⟩
theorem zn:XA X [] ak:=⟨TG.Bs ⟩
theorem xr{e:KJ}{es:aY}{f:FX}{g:aL}(he:XE X e f)(hs:XA X es g)(hns:noStar e=true:=by rfl):XA X (e::es) (ae f g):=⟨TG.sS he.h hs.h hns⟩
theorem y8{es:aY}{g:aL}{k pos}(h:XA X es g):XE X (.Tuple es k pos) (dj g):=⟨PE.weak (A0 h.h) λσ H Q zq=>zq.elim λO zq=>zq.elim λρ zq=>zq.elim λE hF=>⟨O,ρ,E,(gk.bind hF).imp λxs hF vs H1 s1 d1=>by
  obtain⟨d,e,q⟩:=gk.rO hF;obtain⟨hz,e⟩:=aV e;subst e;refine⟨by rw[<-d1.length];exact bY hz,λp hp=>?_⟩;exact q _ _ (s1.trans (bh hp _)) (dO (E.all.same s1) hp d1)⟩⟩
theorem Ag{es:aY}{g:aL}{pos}(h:XA X es g):XE X (.List es pos) (j7 g):=⟨PE.weak (v9 h.h) λσ H Q zq=>zq.elim λO zq=>zq.elim λρ zq=>zq.elim λE hF=>⟨O,ρ,E,(gk.bind hF).imp λxs hF vs H1 s1 d1=>by
  obtain⟨d,e,q⟩:=gk.rO hF;obtain⟨hz,e⟩:=aV e;subst e;refine⟨by rw[<-d1.length];exact bY hz,λp hp=>?_⟩;exact q _ _ (s1.trans (bh hp _)) (cY (E.all.same s1) hp d1)⟩⟩
theorem hZ{a b:KJ}{op:Operator}{r:R2}{g:D->D->aQ}{fa fb:FX}{pos:Pos}(ho:jc X (Lg op) r)(s:cU X.K r g)(ha:XE X a fa)(hb:XE X b fb):XE X (.BinOp a op b pos) (f2 g fa fb):=⟨PE.weak (Et ho ha.h hb.h) (oE s)⟩
theorem i5{a b:KJ}{op:CmpOp}{r:R2}{g:D->D->aQ}{fa fb:FX}{pos:Pos}(ho:jc X (Lh op) r)(s:cU X.K r g)(ha:XE X a fa)(hb:XE X b fb)(hm:Li op b=false):XE X (.Compare a [op] [b] pos) (f2 g fa fb):=⟨PE.weak (yB ho ha.h hb.h hm) (oE s)⟩
theorem iQ{a b:KJ}{op:CmpOp}{r:R2}{g:D->D->aQ}{fa fb:FX}{pos:Pos}(ho:jc X (Lh op) r)(s:cU X.K r g)(ha:XE X a fa)(hb:XE X b fb)(hm:Li op b=false):XT X (.Compare a [op] [b] pos) (fB (f2 g fa fb)):=⟨PT.weak (yu ho ha.h hb.h hm) (wd (oE s))⟩
end
section
variable[aj]{X:Cx}{a b c:KJ}{rest:aY}{pos:Pos}{f g:aZ}
theorem yo(h:XT X a f):XT X (.UnaryOp .Not a pos) (lQ f):=⟨PT.weak (BZ h.h) λσ H Q ⟨O,ρ,E,hF⟩=>⟨O,ρ,E,(gk.bind hF).imp λb q H1 s1=>q H1 s1⟩⟩
theorem yQ(h:XT X a f):XW X (.BoolOp .Or [a] pos) f:=⟨Be h.h⟩
theorem C3(ha:XT X a f)(hb:XW X (.BoolOp .Or (b::rest) pos) g):XW X (.BoolOp .Or (a::b::rest) pos) (yi f g):=⟨PW.weak (Eg ha.h hb.h) λσ H Q zq=>zq.elim λO zq=>zq.elim λρ zq=>zq.elim λE hF=>⟨O,ρ,E,(gk.bind hF).imp λc hF H1 s1=>by
 cases c with
 |false=>exact yN ⟨O,ρ,E.same s1,(hF.mono s1).imp λb q H2 s2=>q H2 (s1.trans s2)⟩
 |true=>exact vx (hF H1 s1)⟩⟩
end
section
variable[aj]{X:Cx}
theorem B8{a b:KJ}{fa fb:FX}{pos:Pos}(ha:XE X a fa)(hb:XE X b fb)(hs:iS b):XE X (.Subscript a b pos) (f2 bb fa fb):=⟨PE.weak (vS Fj ha.h hb.h hs) (oE bQ)⟩
theorem wM:XO X none i6:=⟨λpins s σ H Q I zq=>zq.elim λO zq=>zq.elim λρ zq=>zq.elim λE q=>yn pins s σ H Q I (q H (aD.refl H))⟩
theorem vy{e:KJ}{f:FX}(h:XE X e f):XO X (some e) (kR f):=⟨λpins s σ H Q I zq=>zq.elim λO zq=>zq.elim λρ zq=>zq.elim λE hF=>
 zA h.h pins s σ H Q I ⟨O,ρ,E,(gk.bind hF).imp λd hF v H1 s1 d1=>by
  obtain⟨o,e,q⟩:=gk.rO hF;cases d with
  |int i=>
   cases e;exact⟨i,cX.mp d1,q H1 s1⟩
  |_=>cases e⟩⟩
theorem u9{e:KJ}{f:FX}{l h:af->R bP}{lo hi:Option KJ}{p2 pos:Pos}(he:XE X e f)(hl:XO X lo l)(hh:XO X hi h):XE X (.Subscript e (.Slice lo hi none p2) pos) (jC f l h):=⟨PE.weak (xZ Fc he.h hl.h hh.h) λσ H Q zq=>zq.elim λO zq=>zq.elim λρ zq=>zq.elim λE hF=>⟨O,ρ,E,(gk.bind hF).imp λa hF x H1 s1 d1=>⟨O,ρ,E.same s1,((gk.bind hF).mono s1).imp λlo' hF H2 s2=>⟨O,ρ,E.same (s1.trans s2),((gk.bind hF).mono (s1.trans s2)).imp λhi' hF H3 s3=>by
  obtain⟨d,e,q⟩:=gk.rO hF;exact⟨O,a,d,E.all.same ((s1.trans s2).trans s3),d1.mono (aU (s2.trans s3)),e,λv H4 s4 d4=>q v H4 (((s1.trans s2).trans s3).trans s4) d4⟩⟩⟩⟩⟩
end
section
variable[aj]{X:Cx}{x:Str}{p pos:Pos}{e:KJ}{es:aY}{id T:String}{g:List D->aQ}{f:aL}
theorem mQ(hc:dL X (.builtin id) (AJ X.K g))(hg:Gl X x)(hm:X.mg x=none)(hv:KW x=some (.builtin id))(ha:XA X (e::es) f)(hn:x≠"__name__":=by decide)(hdb:(x==("__debug__":Str))=false:=by decide)(hns:(e::es).all noStar=true:=by rfl):XE X (.Call (.Name x p) (e::es) [] pos) (fL g f):=⟨PE.weak (pY hc hg hm hv ha.h hn hdb (cg (HB _ _ ▸ hns).1) (dC (HB _ _ ▸ hns).2)) (xO lC)⟩
theorem iA(hc:dL X (.type T) (AJ X.K g))(hg:Gl X x)(hm:X.mg x=none)(hv:KW x=some (.type T))(ha:XA X (e::es) f)(hn:x≠"__name__":=by decide)(hdb:(x==("__debug__":Str))=false:=by decide)(hns:(e::es).all noStar=true:=by rfl):XE X (.Call (.Name x p) (e::es) [] pos) (fL g f):=⟨PE.weak (mj hc hg hm hv ha.h hn hdb (cg (HB _ _ ▸ hns).1) (dC (HB _ _ ▸ hns).2)) (xO lC)⟩
theorem Ab{f:FX}{xT:Str}{p2:Pos}(ok:zl X.K T)(hg:Gl X "isinstance")(hm:X.mg "isinstance"=none)(hgT:Gl X xT)(hmT:X.mg xT=none)(hvT:KW xT=some (.type T))(he:XE X e f)(hn2:xT≠"__name__":=by decide)(hd2:(xT==("__debug__":Str))=false:=by decide)(hns:noStar e=true:=by rfl):XE X (.Call (.Name "isinstance" p) [e,.Name xT p2] [] pos) (qi T f):=⟨PE.weak (pY (xt ok) hg hm vC (kx he.h (kx (Ad (v:=.ty T) hgT hmT hvT rfl hn2 hd2) rJ (cg rfl)) (cg hns)) (by decide) (by decide) (cg hns) (dC rfl)) λσ H Q zq=>zq.elim λO zq=>zq.elim λρ zq=>zq.elim λE hF=>⟨O,ρ,E,(gk.bind hF).imp λa hF v H1 s1 d1=>by
  obtain⟨d,e,q⟩:=gk.rO hF;obtain⟨h1,h2⟩:=aV e;subst h2;exact⟨O,v,a,rfl,h1,d1,q _ H1 s1 (gf.mpr rfl)⟩⟩⟩
end
section
variable[aj]{X:Cx}{a:KJ}{f:FX}{pos:Pos}
theorem uG(h:XE X a f)(he:∀whole,isTrue a X.env whole=(do let v<-whole;standAt a.pos;holding [v] (truthy v)):=by intro _;rfl):XT X a (dU f):=⟨PT.weak (xY h.h he) λσ H Q zq=>zq.elim λO zq=>zq.elim λρ zq=>zq.elim λE hF=>⟨O,ρ,E,(gk.bind hF).imp λd hF x H1 s1 d1=>by
 obtain⟨r,hF,q⟩:=gk.rO hF;refine⟨r,?_,q H1 s1⟩;cases d with
 |non=>cases hF;rw[fG.mp d1];rfl
 |bl b=>cases hF;rw[gf.mp d1];rfl
 |int i=>cases hF;rw[cX.mp d1];rfl
 |str y=>
  obtain⟨hz,e⟩:=aV hF;subst e;rw[cA.mp d1];refine⟨bY hz,?_⟩;show(y.length !=0)=((y.length:Int) !=0)
  cases y.length<;>rfl
 |tup xs=>
  cases hF;obtain⟨p,vs,e,g1,g2⟩:=bm.mp d1;rw[e];refine .inr (.inl ⟨vs,aX (ai H1 O) g1,?_⟩);have l:=g2.length;cases xs<;>cases vs<;>first|rfl|(simp at l)
 |lst xs=>
  cases hF;obtain⟨p,vs,e,g1,g2⟩:=bn.mp d1;rw[e];refine .inl ⟨vs,(ai H1 O).seq g1,?_⟩;have l:=g2.length;cases xs<;>cases vs<;>first|rfl|(simp at l)
 |_=>cases hF⟩⟩
end
section
variable[aj]{X:Cx}{tg:KJ}
theorem y9{e:KJ}{f:FX}(h:XE X e f):XI X tg e (cT f):=by
 refine⟨?_⟩;rintro pins s σ H R I ⟨O,ρ,E,hG⟩;have hG':=gk.bind hG;cases hf:f ρ with
 |error z=>exact tO h.h pins s σ H R I ⟨O,ρ,E,by rw[hf]at hG' ⊢;cases z with|none=>exact hG'.elim|some x=>exact hG'⟩
 |ok d=>
  rw[hf]at hG';obtain⟨ds,e1,q⟩:=gk.rO (α:=List D) (o:=lh d) hG';cases d with
  |lst xs=>
   cases e1;refine tO h.h pins s σ H R I ⟨O,ρ,E,?_⟩;rw[hf];refine λv H1 s1 d1=>?_;obtain⟨p,vs,ev,g1,g2⟩:=bn.mp d1;exact⟨p,ev,⟨vs,(ai H1 O).seq g1⟩,q _ H1 s1 (uJ g1 g2)⟩
  |tup xs=>
   cases e1;refine Cj h.h pins s σ H R I ⟨O,ρ,E,?_⟩;rw[hf];refine λv H1 s1 d1=>?_;obtain⟨p,vs,ev,g1,g2⟩:=bm.mp d1;exact⟨p,ev,⟨vs,aX (ai H1 O) g1⟩,q _ H1 s1 (wt g1 g2)⟩
  |_=>cases e1
theorem rP{a:KJ}{f:aL}{p pos:Pos}(hg:Gl X "range")(hm:X.mg "range"=none)(ha:XA X [a] f)(hs:K3 [a] X.env=[(false,eval a X.env)]:=by rfl):XI X tg (.Call (.Name "range" p) [a] [] pos) (b6 f):=by
 refine⟨?_⟩;rintro pins s σ H R I ⟨O,ρ,E,hG⟩;refine ue hg hm ha.h hs pins s σ H R I ⟨O,ρ,E,(gk.bind hG).imp λes hG' vs H1 s1 d1=>?_⟩;clear hG;obtain⟨ds,hG,q⟩:=gk.rO hG';clear hG';unfold kB at hG;split at hG
 ·rename_i j;obtain⟨h1,h2⟩:=aV hG;subst h2;obtain⟨j1,j2⟩:=of_decide_eq_true h1;obtain⟨v,ev,dv⟩:=d1.one;exact⟨j,by rw[ev,cX.mp dv],j1,j2,q _ H1 s1 (qY 0 _)⟩
 ·cases hG
end
section
variable[aj]{X:Cx}{pos:Pos}
theorem vz{i:Nat}{x:Str}(hN:X.N.Nodup)(hi:X.N[i]?=some x)(hx:Loc X.env.scope x)(hf:X.fn x=true\/X.env.scope.names.lookup x=some .local:=by first|exact .inl rfl|exact .inr rfl|assumption):XG X (.Name x pos) (gN i):=by
 refine⟨?_⟩;rintro pins s σ H v u Q I r ⟨O,ρ,d,ρ',E,hd,hg,q⟩;cases hg;have hiσ:i<σ.length:=by rw[I.len];exact(List.getElem?_eq_some_iff.mp hi).1
 refine Ah hN hi hx hf pins s σ H v u Q I r (q _ (E.setV hiσ hd) λj x e nv=>?_);rcases au e with⟨_,eq⟩|⟨ne,eq⟩
 ·cases eq;exact absurd rfl (nv _)
 ·exact⟨Hf (Ne.symm ne),eq⟩
theorem w8:BW X [] Az:=by
 refine⟨?_⟩;rintro pins s σ H vs us Q I r ⟨O,ρ,ds,ρ',E,hd,hg,q⟩;cases ds with
 |nil=>
  cases hg;rw[bB]at hd;exact yP pins s σ H vs us Q I r ⟨hd,q _ E λi x e _=>⟨rfl,e⟩⟩
 |cons _ _=>cases hg
theorem uR{e:KJ}{es:aY}{g:GF}{h:xP}(h1:XG X e g)(h2:BW X es h)(hs:(assignEach (e::es) X.env).map (·.2)=assign e X.env::(assignEach es X.env).map (·.2):=by rfl):BW X (e::es) (xK g h):=by
 refine⟨?_⟩;rintro pins s σ H vs us Q I r ⟨O,ρ,ds,ρ',E,hd,hg,q⟩;cases ds with
 |nil=>cases hg
 |cons d ds=>
  obtain⟨ρ1,e1,e2⟩:=bind_some hg;rw[aI]at hd;obtain⟨v,vr,ev,d1,d2⟩:=hd;exact wJ h1.h h2.h hs pins s σ H vs us Q I r ⟨v,vr,ev,O,ρ,d,ρ1,E,d1,e1,λσ1 E1 k1=>⟨O,ρ1,ds,ρ',E1,d2,e2,λσ2 E2 k2=>q σ2 E2 λi x e nv=>by
   obtain⟨a1,a2⟩:=k2 i x e nv;obtain⟨b1,b2⟩:=k1 i x a2 nv;exact⟨a1.trans b1,b2⟩⟩⟩
end
section
variable[aj]
theorem v7{X:Cx}:Dh X [] ca:=⟨TG.yt ⟩
theorem ww{X:Cx}{c:KJ}{F:aZ}(h:XT X c F):Dh X [c] F:=⟨z9 h.h⟩
end
section
variable[aj]{X:Cx}{elt tg iter:KJ}{ifs:aY}{scope:KZ}{pos:Pos}{N:aK}{ix:c7}{G:aL}{g:GF}{C:aZ}{Fe:FX}
theorem Cb(hc:X.calm=true)(ok:gR X scope N ix)(tk:j8 ix g)(hi:XI X tg iter G)(hb:lY X scope N tg elt ifs g C Fe)(hs:∀x,Lf iter X.env x=pure x:=by intro _;rfl):XE X (.ListComp elt [⟨tg,iter,ifs,0⟩] scope pos) (fP ix G g C Fe):=⟨PE.weak (AK hc ok.cell ok.kind ok.names ok.free ok.ix hi.h hb.h.k hs) (Ao tk)⟩
end
section
variable[aj]{X:Cx}{st:KL}{rest body:cD}{pos:Pos}
theorem vM:lW X [] cj:=⟨λHb Ob=>qV.weak An λE σ H zq=>zq.elim λO zq=>zq.elim λρ zq=>zq.elim λk zq=>zq.elim λr zq=>zq.elim λS zq=>zq.elim λhF hk=>hk.nx O ρ σ H S hF⟩
theorem um{F1 F2:bN}(h1:XS X st F1)(h2:lW X rest F2):lW X (st::rest) (bg F1 F2):=⟨λHb Ob=>qV.weak (xW (h1.h Hb Ob) (h2.h Hb Ob)) λE σ H zq=>zq.elim λO zq=>zq.elim λρ zq=>zq.elim λk zq=>zq.elim λr zq=>zq.elim λS zq=>zq.elim λhF hk=>
 ⟨O,ρ,{k with nx:=F2 k},r,S,hF,hk.ne,λO' ρ' σ' H' S' e=>⟨O',ρ',k,r,S',e,hk⟩,hk.bk,hk.ct,hk.rt,hk.ex⟩⟩
theorem wj{F1:bN}(h1:XS X st F1):lW X [st] F1:=⟨λHb Ob=>zF (h1.h Hb Ob)⟩
theorem yI{e:KJ}{f:FX}(h:XE X e f):XS X (.Return (some e) pos) (cx f):=⟨λHb Ob=>PS.weak (CJ h.h) λE σ H zq=>zq.elim λO zq=>zq.elim λρ zq=>zq.elim λk zq=>zq.elim λr zq=>zq.elim λS zq=>zq.elim λhF hk=>
 ⟨O,ρ,S.env,gk.on hF hk S λd e v H' s' d'=>hk.rt d O v H' e.symm (S.base.same' s') d'⟩⟩
theorem xu:XS X (.Pass pos) cj:=⟨λHb Ob=>PS.weak yx λE σ H zq=>zq.elim λO zq=>zq.elim λρ zq=>zq.elim λk zq=>zq.elim λr zq=>zq.elim λS zq=>zq.elim λhF hk=>hk.nx O ρ σ H S hF⟩
theorem zu{x j pos'}:XS X (.Expr (.Constant (.str x) j pos) pos') cj:=⟨λHb Ob=>PS.weak Ci λE σ H zq=>zq.elim λO zq=>zq.elim λρ zq=>zq.elim λk zq=>zq.elim λr zq=>zq.elim λS zq=>zq.elim λhF hk=>hk.nx O ρ σ H S hF⟩
theorem Cp{c:KJ}{a b:cD}{tc:aZ}{A B:bN}(hc:XT X c tc)(ha:lW X a A)(hb:lW X b B):XS X (.If c a b pos) (jb tc A B):=⟨λHb Ob=>PS.weak (Dg hc.h (ha.h Hb Ob) (hb.h Hb Ob)) λE σ H zq=>zq.elim λO zq=>zq.elim λρ zq=>zq.elim λk zq=>zq.elim λr zq=>zq.elim λS zq=>zq.elim λhF hk=>
 ⟨O,ρ,S.env,gk.on hF hk S fun z e H1 s1=>by
  cases z with
  |true=>exact vx ⟨O,ρ,k,r,S.same s1,e,hk⟩
  |false=>exact yN ⟨O,ρ,k,r,S.same s1,e,hk⟩⟩⟩
theorem yW{i:Nat}{x:Str}{e:KJ}{f:FX}{pos':Pos}(hN:X.N.Nodup)(hi:X.N[i]?=some x)(hx:Loc X.env.scope x)(he:XE X e f)(hs:swapsWith e (some (.Name x pos')) pos.line X.env=pure false:=by rfl)(hf:X.fn x=true\/X.env.scope.names.lookup x=some .local:=by first|exact .inl rfl|exact .inr rfl|assumption):XS X (.Assign [.Name x pos'] e pos) (cq i f):=⟨mJ (List.getElem?_eq_some_iff.mp hi).1 (vJ hN hi hx he.h hs hf)⟩
theorem Cr{elt tg iter:KJ}{ifs:aY}{scope:KZ}{N:aK}{ix:c7}{G:aL}{g:GF}{C:aZ}{Fe:FX}{i:Nat}{y:Str}{lpos py spos:Pos}(hN:X.N.Nodup)(hi':X.N[i]?=some y)(hx:Loc X.env.scope y)(hc:X.calm=true)(ok:gR X scope N ix)(tk:j8 ix g)(hi:XI X tg iter G)(hb:lY X scope N tg elt ifs g C Fe)(hsw:swapsWith (.ListComp elt [⟨tg,iter,ifs,0⟩] scope lpos) (some (.Name y py)) spos.line X.env=pure true:=by rfl)(hs:∀x,Lf iter X.env x=pure x:=by intro _;rfl)(hf:X.fn y=true\/X.env.scope.names.lookup y=some .local:=by first|exact .inl rfl|exact .inr rfl|assumption):XS X (.Assign [.Name y py] (.ListComp elt [⟨tg,iter,ifs,0⟩] scope lpos) spos) (cq i (fP ix G g C Fe)):=⟨mJ (List.getElem?_eq_some_iff.mp hi').1 (PS.weak (wN hN hi' hx hc ok.cell ok.kind ok.names ok.free ok.ix hi.h hb.h.k hsw hs hf) λE σ H q=>Ao tk σ H _ q)⟩
theorem ym{tg e:KJ}{f:FX}{g:GF}(he:XE X e f)(hg:XG X tg g)(hs:swapsWithSole [tg] e pos.line X.env=pure false:=by rfl)(hw:swappedStores [tg] e X.env=pure none:=by rfl)(h1:(assignEach [tg] X.env).map (·.2)=[assign tg X.env]:=by rfl):XS X (.Assign [tg] e pos) (zp f g):=⟨λHb Ob=>PS.weak (AX he.h hg.h hs hw h1) λE σ H zq=>zq.elim λO zq=>zq.elim λρ zq=>zq.elim λk zq=>zq.elim λr zq=>zq.elim λS zq=>zq.elim λhF hk=>
 ⟨O,ρ,S.env,gk.on hF hk S fun d e v H1 s1 d1=>by
  cases hg.h:g d ρ with
  |none=>rw[hg.h]at e;exact absurd e.symm hk.ne
  |some ρ1=>
   rw[hg.h]at e;refine⟨O,ρ,d,ρ1,(S.same s1).env,d1,hg.h,λσ' E' own=>hk.nx O ρ1 σ' H1 ((S.same s1).after E' own) e⟩⟩⟩
theorem uT{st:cD}{F:bN}(is:aP)(h:lW X st F):lW X st (fQ is F):=⟨λHb Ob=>qV.weak (h.h Hb Ob) λE σ H zq=>zq.elim λO zq=>zq.elim λρ zq=>zq.elim λk zq=>zq.elim λr zq=>zq.elim λS zq=>zq.elim λhF hk=>⟨O,TG.kill is ρ,k,r,S.kill is,hF,hk⟩⟩
theorem yH{tg iter:KJ}{G:aL}{g:GF}{B:bN}(hp:K9 `i X.A X.env X.xe)(hc:X.calm=true)(hi:XI X tg iter G)(hg:XG X tg g)(hb:lW X body B)(hs:∀x,Lf iter X.env x=pure x:=by intro _;rfl):XS X (.For tg iter body [] pos) (vh G g B):=⟨λHb Ob pins s σ H E I zq=>zq.elim λO zq=>zq.elim λρ zq=>zq.elim λk zq=>zq.elim λr zq=>zq.elim λS zq=>zq.elim λhF hk=>by
 have hall:qV X body (λE σ H=>∃Hb',ED X Hb' Ob B E σ H):=λpins s σ H E I zq=>zq.elim λHb' q=>hb.h Hb' Ob pins s σ H E I q;refine A5 hp hc hi.h hg.h hall hs pins s σ H E I ⟨O,ρ,S.env,gk.on hF hk S λds hF J H1 s1 wk=>?_⟩;have E1:=S.same s1;refine⟨λi m σ H=>m=ds.length-i/\i<=ds.length/\∃O' ρ',bx X.K (lb H1 O Ob) Ob O' H ρ' σ/\fO g B k (ds.drop i) ρ'=r,
  ⟨ds.length,by rw[Im],HP _,O,ρ,E1.loop,by rw[HY];exact hF⟩,?_⟩
 rintro i m σ' H' ⟨rfl,hi',O',ρ',E',hr⟩;have sD:=wQ E1.base E'.base;by_cases hlt:i<ds.length
 ·right;obtain⟨go,yl⟩:=(wk H' O' i E'.env.all sD).1 ds[i] (by simp[hlt]);refine⟨go,λσ2 H2=>ds.length-(i+1)=ds.length-(i+1)/\i+1<=ds.length/\∃O' ρ',bx X.K (lb H1 O Ob) Ob O' H2 ρ' σ2/\fO g B k (ds.drop (i+1)) ρ'=r,λσ2 H2 z=>⟨ds.length-(i+1),by omega,z⟩,λx H2 y=>?_⟩;obtain⟨s2,dx⟩:=yl x H2 y;have E':=E'.same s2;rw[Iq hlt]at hr;cases hg':g ds[i] ρ' with
  |none=>
   have hr':(rO (g ds[i] ρ')).bind (λρ1=>B ⟨fO g B k (ds.drop (i+1)),k.nx,fO g B k (ds.drop (i+1)),k.ex⟩ ρ1)=r:=hr;rw[hg']at hr';exact absurd hr'.symm hk.ne
  |some ρ1=>
   have hr':(rO (g ds[i] ρ')).bind (λρ1=>B ⟨fO g B k (ds.drop (i+1)),k.nx,fO g B k (ds.drop (i+1)),k.ex⟩ ρ1)=r:=hr;rw[hg']at hr';refine⟨O',ρ',ds[i],ρ1,E'.env,dx,hg',λσ3 E3 own=>?_⟩;have E3':bx X.K (lb H1 O Ob) Ob O' H2 ρ1 σ3:=E'.after E3 own;exact⟨lb H1 O Ob,O',ρ1,⟨fO g B k (ds.drop (i+1)),k.nx,fO g B k (ds.drop (i+1)),k.ex⟩,r,E3',hr',hk.loop E1.base (λO4 ρ4 σ4 H4 E4 z=>⟨rfl,hlt,O4,ρ4,E4,z⟩) (λO4 ρ4 σ4 H4 E4 z=>⟨rfl,hlt,O4,ρ4,E4,z⟩) rfl rfl rfl rfl⟩
 ·left;have ei:i=ds.length:=by omega
  subst ei;refine⟨(wk H' O' ds.length E'.env.all sD).2 rfl,?_⟩;rw[Iw]at hr;exact hk.nx O' ρ' σ' H' (E'.back E1.base) hr⟩
theorem ug{c:KJ}{tc:aZ}{B:bN}(n:Nat)(hp:K9 `i X.A X.env X.xe)(hc:XT X c tc)(hb:lW X body B):XS X (.While c body [] pos) (oA n tc B):=⟨λHb Ob pins s σ H E I zq=>zq.elim λO zq=>zq.elim λρ zq=>zq.elim λk zq=>zq.elim λr zq=>zq.elim λS zq=>zq.elim λhF hk=>by
 have hall:qV X body (λE σ H=>∃Hb',ED X Hb' Ob B E σ H):=λpins s σ H E I zq=>zq.elim λHb' q=>hb.h Hb' Ob pins s σ H E I q;refine yh hp hc.h hall pins s σ H E I ⟨λm σ H'=>∃O' ρ',bx X.K (lb H O Ob) Ob O' H' ρ' σ/\cB tc B k m ρ'=r,⟨n,O,ρ,S.loop,hF⟩,?_⟩;rintro m σ' H' ⟨O',ρ',E',hr⟩;cases m with
 |zero=>exact absurd hr.symm hk.ne
 |succ m=>
  refine⟨O',ρ',E'.env,?_⟩;have hr':me (tc ρ') k ρ' (λb=>if b then B ⟨cB tc B k m,k.nx,cB tc B k m,k.ex⟩ ρ' else k.nx ρ')=r:=hr;refine gk.on hr' hk (E'.back S.base) λb hr H1 s1=>?_;cases b with
  |true=>
   refine vx ⟨λσ2 H2=>∃O' ρ',bx X.K (lb H O Ob) Ob O' H2 ρ' σ2/\cB tc B k m ρ'=r,λσ2 H2 z=>⟨m,JQ m,z⟩,?_⟩;exact⟨lb H O Ob,O',ρ',⟨cB tc B k m,k.nx,cB tc B k m,k.ex⟩,r,E'.same s1,hr,hk.loop S.base (λO4 ρ4 σ4 H4 E4 z=>⟨O4,ρ4,E4,z⟩) (λO4 ρ4 σ4 H4 E4 z=>⟨O4,ρ4,E4,z⟩) rfl rfl rfl rfl⟩
  |false=>exact yN (hk.nx O' ρ' σ' H1 ((E'.back S.base).same s1) hr)⟩
end
section
variable[aj]{X:Cx}{pos:Pos}
theorem zv{es:aY}{g:aL}(h:XA X es g):XN X (.List es pos) (j7 g):=⟨PE.weak (v9 h.h) λσ H Q zq=>zq.elim λO zq=>zq.elim λρ zq=>zq.elim λE hF=>⟨O,ρ,E,(gk.bind hF).imp λxs hF vs H1 s1 d1=>by
  obtain⟨d,e,q⟩:=gk.rO hF;obtain⟨hz,e⟩:=aV e;subst e;refine⟨by rw[<-d1.length];exact bY hz,λp hp=>?_⟩;exact q p _ (s1.trans (bh hp _)) (s1.free hp) ⟨_,ao,trivial⟩ (qg hp d1)⟩⟩
theorem zE{i:Nat}{x:Str}{e:KJ}{f:FX}{pos':Pos}(hN:X.N.Nodup)(hi:X.N[i]?=some x)(hx:Loc X.env.scope x)(he:XN X e f)(hs:swapsWith e (some (.Name x pos')) pos.line X.env=pure false:=by rfl)(hf:X.fn x=true\/X.env.scope.names.lookup x=some .local:=by first|exact .inl rfl|exact .inr rfl|assumption):XS X (.Assign [.Name x pos'] e pos) (pN i f):=⟨nh (List.getElem?_eq_some_iff.mp hi).1 (vJ hN hi hx he.h hs hf)⟩
end
section
variable[aj]
theorem vm{X:Cx}{elt tg iter:KJ}{ifs:aY}{scope:KZ}{N:aK}{ix:c7}{G:aL}{g:GF}{C:aZ}{Fe:FX}{i:Nat}{y:Str}{lpos py spos:Pos}(hN:X.N.Nodup)(hi':X.N[i]?=some y)(hx:Loc X.env.scope y)(hc:X.calm=true)(ok:gR X scope N ix)(tk:j8 ix g)(hi:XI X tg iter G)(hb:lY X scope N tg elt ifs g C Fe)(hsw:swapsWith (.ListComp elt [⟨tg,iter,ifs,0⟩] scope lpos) (some (.Name y py)) spos.line X.env=pure true:=by rfl)(hs:∀x,Lf iter X.env x=pure x:=by intro _;rfl)(hf:X.fn y=true\/X.env.scope.names.lookup y=some .local:=by first|exact .inl rfl|exact .inr rfl|assumption):XS X (.Assign [.Name y py] (.ListComp elt [⟨tg,iter,ifs,0⟩] scope lpos) spos) (pN i (fP ix G g C Fe)):=⟨nh (List.getElem?_eq_some_iff.mp hi').1 (PS.weak (wN hN hi' hx hc ok.cell ok.kind ok.names ok.free ok.ix hi.h hb.h.k hsw hs hf) λE σ H q=>wU tk σ H _ (AC σ H _ q))⟩
theorem CU{X:Cx}{elt tg iter:KJ}{ifs:aY}{scope:KZ}{pos:Pos}{N:aK}{ix:c7}{G:aL}{g:GF}{C:aZ}{Fe:FX}(hc:X.calm=true)(ok:gR X scope N ix)(tk:j8 ix g)(hi:XI X tg iter G)(hb:lY X scope N tg elt ifs g C Fe)(hs:∀x,Lf iter X.env x=pure x:=by intro _;rfl):XN X (.ListComp elt [⟨tg,iter,ifs,0⟩] scope pos) (fP ix G g C Fe):=⟨PE.weak (AK hc ok.cell ok.kind ok.names ok.free ok.ix hi.h hb.h.k hs) λσ H Q q=>wU tk σ H _ (AC σ H _ q)⟩
theorem BJ{X : Cx}{i : Nat}{x m : Str}{id : String}{r : V -> az -> Hp -> VK -> Prop}{u : List D -> List D -> ii}{e : KJ}{es : aY}{f : aL}{npos apos cpos pos : Pos}(slot : Slot "list" m id)(hty : typeOf (.builtin id) = pure (.type "method_descriptor"))(hm : FP X id r)(ok : Ax X.K r u)(hx : XV X (.Name x npos) i)(he : XA X (e :: es) f)(hbase : LK (.Name x npos) m X.env (eval (.Name x npos) X.env) = eval (.Name x npos) X.env := by rfl)(hfew : ((backTo cpos (K3 (e :: es) X.env)).all (fun x => !x.1) && (backToKw cpos (LL [] X.env)).all (fun x => x.1.isSome)
      && decide ((e::es:aY).length+([]:List LN).length+(if([]:List LN).isEmpty then 0 else 1)<30))=true:=by rfl)(hline:(apos.endLine==cpos.line)=true:=by rfl)(hs:K3 (e::es) X.env=(false,eval e X.env)::K3 es X.env:=by rfl)(hplain:(backTo cpos (K3 es X.env)).any (·.1)=false:=by rfl)(hsw:swapsWith (.Call (.Attribute (.Name x npos) m apos) (e::es) [] cpos) none pos.line X.env=pure false:=by rfl):XS X (.Expr (.Call (.Attribute (.Name x npos) m apos) (e::es) [] cpos) pos) (sO i u f):=⟨λHb Ob pins s σ H E I zq=>zq.elim λO zq=>zq.elim λρ zq=>zq.elim λk zq=>zq.elim λrr zq=>zq.elim λS zq=>zq.elim λhF hk=>by
  unfold sO at hF;split at hF
  · rename_i xs hxs
    obtain⟨a,ha,haO,hat⟩:=S.env.own i _ hxs;obtain⟨o,vs0,ho,eo,dn⟩:=hat;subst eo;refine sN (AR F.plainAttrs_list slot hty hm hx.h he.h hbase hfew hline hs hplain) hsw pins s σ H E I ⟨.ref a,ha,.inl ⟨rfl,vs0,jA.of ho⟩,O,ρ,S.env,gk.on hF hk S λds hr vs H1 s1 d1=>?_⟩;have S1:=S.same s1;cases hu1:u xs ds with
    |none=>rw[hu1]at hr;exact absurd hr.symm hk.ne
    |some ys=>
      rw[hu1]at hr;exact ok H1 O a xs ys ds vs0 vs _ S1.env.all haO (s1 _ _ ho) (dn.mono (aU s1)) d1 hu1 λws' v new=>hk.nx O _ σ _ (S1.setO hxs ha trivial (pz haO new)) hr
  ·exact absurd hF.symm hk.ne⟩
theorem wL{X:Cx}{st:cD}{F:bN}(i:Nat)(h:lW X st F):lW X st (yZ i F):=⟨λHb Ob=>qV.weak (h.h Hb Ob) λE σ H zq=>zq.elim λO zq=>zq.elim λρ zq=>zq.elim λk zq=>zq.elim λr zq=>zq.elim λS zq=>zq.elim λhF hk=>by
 obtain⟨O',S'⟩:=S.frz i;exact⟨O',TG.frz i ρ,k,r,S',hF,hk⟩⟩
theorem rH{X:Cx}{k k':Nat}{ps:aK}{g:List D->R D}{h:aL}{x:Str}{p pos:Pos}{e:KJ}{es:aY}(C:Callee X.prog X.w X.K X.mg X.base k x ps g)(hn:Ar ps.length g)(hr:ik k' X.A)(hk:k<=k')(ha:XA X (e::es) h)(hg:Gl X x:=by rfl)(hdb:(x==("__debug__":Str))=false:=by decide)(hns:(e::es).all noStar=true:=by rfl):XE X (.Call (.Name x p) (e::es) [] pos) (fR g h):=by
 refine⟨?_⟩;obtain⟨f,fd,F,b,kp,m⟩:=C;exact PE.weak (xS F (hr.mono hk) hg m kp b ha.h hdb (cg (HB _ _ ▸ hns).1) (dC (HB _ _ ▸ hns).2)) (u0 hn)
end
section
variable[aj]{X:Cx}{a b c:KJ}{fa fb fc:FX}{pos:Pos}
theorem yJ(ha:XE X a fa):XE X (.UnaryOp .USub a pos) (vE fa):=⟨PE.weak (Em Cy ha.h) (CB λx d v O H Q _ e dv q=>by
 cases x with
 |int i=>cases e;exact⟨i,cX.mp dv,q _ H (aD.refl H) (cX.mpr rfl)⟩
 |_=>cases e)⟩
end
section
variable[aj]{X:Cx}
theorem zm{o e:KJ}{fo fk:FX}{pos:Pos}(hu:X.A.units+64<Ln)(ho:XE X o fo)(hi:XE X e fk)(hs:CH e):XE X (.Subscript o e pos) (f2 dg fo fk):=⟨PE.weak (yC `o ho.h hi.h hs) λσ H Q zq=>zq.elim λO zq=>zq.elim λρ zq=>zq.elim λE hF=>⟨O,ρ,E,(gk.bind hF).imp λdd hF v H1 s1 d1=>⟨O,ρ,E.same s1,((gk.bind hF).mono s1).imp λk hF y H2 s2 d2=>by
  obtain⟨d,hg,q⟩:=gk.rO hF;cases dd with
  |dct ks ds=>
   have hg:(o5 ks ds).bind (λal=>(cG k).bind λq=>fY al q)=some d:=hg;cases hk:o5 ks ds with
   |none=>rw[hk]at hg;cases hg
   |some al=>
    rw[hk]at hg;cases ht:cG k with
    |none=>rw[ht]at hg;cases hg
    |some qk=>
     rw[ht]at hg;have hg:fY al qk=some d:=hg;obtain⟨a,ea,hh⟩:=ki (d1.mono (aU s2)) hk;rw[dN ht]at d2;obtain⟨b,ws,eb,g1,g2⟩:=bm.mp d2;rw[cw g2]at g1;rcases hh with⟨kvs,hr,e1,e2⟩|⟨_,rfl⟩
     ·rcases lH qk e1 e2 with⟨_,z2⟩|⟨w,d',z1,z2,z3⟩
      ·rw[z2]at hg;cases hg
      ·rw[z2]at hg;cases hg;exact⟨a,w,ea,by rw[<-z1];exact .inr ⟨kvs,qk,b,rN hr,eb,(ai H2 O) _ _ g1,rfl⟩,q w H2 (s1.trans s2) z3⟩
     ·cases hg
  |_=>cases hg⟩⟩⟩
end
section
variable[aj]{X:Cx}{pos:Pos}
theorem wc{es:aY}{k:Nat}{g:xP}{n:Nat}(hc:X.calm=true)(h:BW X es g)(hn:(assignEach es X.env).length=n:=by rfl)(hst:(assignEach es X.env).findIdx? (·.1)=none:=by rfl):XG X (.Tuple es k pos) (EB n g):=by
 refine⟨?_⟩;rintro pins s σ H v u Q I r ⟨O,ρ,d,ρ',E,hd,hg,q⟩;cases d with
 |lst xs=>
  obtain⟨p,vs,ev,g1,g2⟩:=bn.mp hd;have hg':(if xs.length=n then g xs ρ else none)=some ρ':=hg;by_cases hl:xs.length=n
  ·rw[if_pos hl]at hg';subst ev;cases r;obtain⟨its,rv,⟨o,m,e1,e2,e3,e4⟩,hz⟩:=I.list ((ai H O).seq g1);have hL:s.heap.IsList p its.toArray:=⟨o,e1,e2,m,e4⟩
   have hsz:(assignEach es X.env).length=its.toArray.size:=by
    rw[hn,<-hl,g2.length,Hk];exact rv.length
   rw[PyProof.Rows.assign_Tuple];refine Lc (LV ?_);unfold unpack;rw[hsz,hst];refine Lc (LA (PySem.W.kun_itemsOf (I.ok.hd hc) hL λh' hx=>?_));have I1:Inv X pins σ H {s with heap:=h'}:=I.kept (t':=s.toks) λb o e=>hx b o (G2 (Kc e)) e;exact h.h pins _ σ H vs _ Q I1 (by simpa using rv) ⟨O,ρ,xs,ρ',E,g2,hg',q⟩
  ·rw[if_neg hl]at hg';cases hg'
 |_=>cases hg
end
section
variable[aj]
theorem vb{X:Cx}{i:Nat}{x:Str}{ce idx value:KJ}{fe fk fv:FX}{npos spos tpos pos:Pos}(hu:X.A.units+64<Ln)(hx:XV X (.Name x npos) i)(hce:XE X ce fe)(hi:XE X idx fk)(hv:XE X value fv)(hpl:iS ce)(hs:swapsWith value (some (.Subscript (.Subscript (.Name x npos) ce spos) idx tpos)) pos.line X.env=pure false:=by rfl):XS X (.Assign [.Subscript (.Subscript (.Name x npos) ce spos) idx tpos] value pos) (fN i f6 fe fk fv):=⟨λHb Ob pins s σ H E I zq=>zq.elim λO zq=>zq.elim λρ zq=>zq.elim λk zq=>zq.elim λrr zq=>zq.elim λS zq=>zq.elim λhF hk=>by
 obtain⟨xs,y,c,kk,ys,hxs,ev,ee,ek,hg,hnx⟩:=lP hF hk.ne;obtain⟨c,ks,ds,al',rfl,hc,hp,rfl⟩:=qu hg;obtain⟨a,bs,l,ha,hHa,hl,lO,hat,fin⟩:=S.putN hxs hc;obtain⟨al,q,f1,f2,f3,f4,f5⟩:=qZ hp;subst f1 f2 f3 f5;refine wF `o (vS oh hx.h hce.h hpl) hi.h hv.h hs pins s σ H E I ⟨O,ρ,S.env,?_⟩;rw[ev];intro v H1 s1 d1;refine⟨.ref a,ha,O,ρ,(S.same s1).env,?_⟩;rw[ee];intro cv H2 s2 d2;obtain rfl:=cX.mp d2;have s12:=s1.trans s2;refine⟨a,bs.map .ref,(c:Int),.ref l,rfl,rfl,jA.of (s12 _ _ hHa),rX (by rw[Ht,hl];rfl),O,ρ,(S.same s12).env,?_⟩;rw[ek];intro w H3 s3 d3;have s13:=s12.trans s3;obtain⟨b,ws,eb,g1,g2⟩:=bm.mp d3;rw[cw g2]at g1;have hat2:bS X.K H3 O l (aT al):=hat.mono (let ⟨_,z⟩:=hat.some;iU s13 z) (aU s13);have dv:bH X.K (hid H3 O) y v:=d1.mono (aU (s2.trans s3));have ow:∀kvs:List (List Key×V),kvs.map (·.1)=al.map (·.1)->av X.K (hid H3 O) (al.map (·.2)) (kvs.map (·.2))->bS X.K (upd H3 l (.dT (putK kvs q v))) O l (aT (cQ al q y)):=λkvs k2 k3=>
  ⟨_,_,ao,(sX dv k2 k3).mono (dI lO),.inr ⟨putK kvs q v,rfl,lF (p0 k2 q v y),rfl⟩⟩
 rcases zQ hat2 with⟨kvs,k1,k2,k3⟩|⟨k1,rfl⟩
 ·have hl:kvs.length=al.length:=by have:=congrArg List.length k2;simpa using this
  exact⟨l,q,b,kvs,rfl,eb,(ai H3 O) _ _ g1,.inl k1,by rw[hl];exact Ir (of_decide_eq_true f4) (by decide),hk.nx O _ σ _ (fin _ _ _ s13 trivial (ow kvs k2 k3)) hnx⟩
 ·exact⟨l,q,b,[],rfl,eb,(ai H3 O) _ _ g1,.inr ⟨k1,rfl⟩,by decide,hk.nx O _ σ _ (fin _ _ _ s13 trivial (ow [] rfl (bB.mpr rfl))) hnx⟩⟩
theorem uA{X:Cx}{i:Nat}{x:Str}{ce ke ve:KJ}{fe fk fv:FX}{npos spos ap cp pos:Pos}(hu:X.A.units+64<Ln)(hx:XV X (.Name x npos) i)(hce:XE X ce fe)(hke:XE X ke fk)(hve:XE X ve fv)(hpl:iS ce)(hn1:noStar ke=true:=by rfl)(hn2:noStar ve=true:=by rfl)(hb2:LK (.Subscript (.Name x npos) ce spos) "pop" X.env (eval (.Subscript (.Name x npos) ce spos) X.env)=eval (.Subscript (.Name x npos) ce spos) X.env:=by rfl)(hf2:((backTo cp (K3 [ke,ve] X.env)).all (λx=>!x.1)&&(backToKw cp (LL [] X.env)).all (λx=>x.1.isSome)&&decide (([ke,ve]:aY).length+([]:List LN).length+(if([]:List LN).isEmpty then 0 else 1)<30))=true:=by rfl)(hl2:(ap.endLine==cp.line)=true:=by rfl)(hp2:(backTo cp (K3 [ve] X.env)).any (·.1)=false:=by rfl)(hsw:swapsWith (.Call (.Attribute (.Subscript (.Name x npos) ce spos) "pop" ap) [ke,ve] [] cp) none pos.line X.env=pure false:=by rfl):XS X (.Expr (.Call (.Attribute (.Subscript (.Name x npos) ce spos) "pop" ap) [ke,ve] [] cp) pos) (fN i gq fe fk fv):=⟨λHb Ob pins s σ H E I zq=>zq.elim λO zq=>zq.elim λρ zq=>zq.elim λk zq=>zq.elim λrr zq=>zq.elim λS zq=>zq.elim λhF hk=>by
 obtain⟨xs,y,c,kk,ys,hxs,ev,ee,ek,hg,hnx⟩:=lP hF hk.ne;obtain⟨c,al,q,rfl,hc,rfl,rfl⟩:=qx hg;obtain⟨a,bs,l,ha,hHa,hl,lO,hat,fin⟩:=S.putN hxs hc;refine sN (AR F.plainAttrs_dict F.slot_dict_pop F.type_dict_pop (zf hu) (vS oh hx.h hce.h hpl) (sS hke.h (sS hve.h Bs hn2) hn1) hb2 hf2 hl2 (cg hn1) hp2) hsw pins s σ H E I ?_;refine⟨.ref a,ha,O,ρ,S.env,?_⟩;rw[ee];intro cv H2 s2 d2;obtain rfl:=cX.mp d2;have hat2:bS X.K H2 O l (aT al):=hat.mono (let ⟨_,z⟩:=hat.some;iU s2 z) (aU s2);refine⟨a,bs.map .ref,(c:Int),.ref l,rfl,rfl,jA.of (s2 _ _ hHa),rX (by rw[Ht,hl];rfl),.inr (.inr (.inl ⟨rfl,?_⟩)),O,ρ,(S.same s2).env,?_⟩
 ·rcases zQ hat2 with⟨kvs,k1,_⟩|⟨k1,_⟩
  ·exact .inr ⟨_,k1⟩
  ·exact .inl ⟨_,k1⟩
 have e1:(ae fk (ae fv ak)) ρ=.ok [.tup (q.map ax),y]:=by
  show(fk ρ).bind _=_;rw[ek];show Except.bind ((fv ρ).bind _) _=_;rw[ev];rfl
 rw[e1];intro vs H3 s3 dv;obtain⟨w1,w2,ew,d3,d4⟩:=dv.two;have s13:=s2.trans s3;obtain⟨b,ws,eb,g1,g2⟩:=bm.mp d3;rw[cw g2]at g1;have hat3:bS X.K H3 O l (aT al):=hat.mono (let ⟨_,z⟩:=hat.some;iU s13 z) (aU s13);subst eb;rcases zQ hat3 with⟨kvs,k1,k2,k3⟩|⟨k1,rfl⟩
 ·obtain⟨e2,d5⟩:=vt (K:=X.K) (H:=hid H3 O) q k2 k3;exact⟨l,b,q,kvs,w2,rfl,ew,(ai H3 O) _ _ g1,.inl k1,hk.nx O _ σ _ (fin _ _ (aT (gC al q)) s13 trivial ⟨_,_,ao,d5.mono (dI lO),.inr ⟨_,rfl,lF e2,rfl⟩⟩) hnx⟩
 ·exact⟨l,b,q,[],w2,rfl,ew,(ai H3 O) _ _ g1,.inr ⟨k1,rfl⟩,hk.nx O _ σ _ (fin _ _ (aT (gC [] q)) s13 trivial ⟨_,[],ao,bB.mpr rfl,.inr ⟨[],rfl,rfl,rfl⟩⟩) hnx⟩⟩
end
section
variable[aj]{X:Cx}{o e:KJ}{apos cpos:Pos}
theorem uE{fo fk : FX}(hu : X.A.units + 64 < Ln)(ho : XE X o fo)(he : XE X e fk)(hbase : LK o "get" X.env (eval o X.env) = eval o X.env := by rfl)(hfew : ((backTo cpos (K3 [e] X.env)).all (fun x => !x.1) && (backToKw cpos (LL [] X.env)).all (fun x => x.1.isSome)
      && decide (([e]:aY).length+([]:List LN).length+(if([]:List LN).isEmpty then 0 else 1)<30))=true:=by rfl)(hline:(apos.endLine==cpos.line)=true:=by rfl)(htr:backTo cpos (K3 [e] X.env)=[(false,eval e X.env)]:=by rfl):XE X (.Call (.Attribute o "get" apos) [e] [] cpos) (fV fo fk):=⟨PE.weak (ut `o ho.h he.h ⟨hbase,hfew,hline,htr⟩) λσ H Q zq=>zq.elim λO zq=>zq.elim λρ zq=>zq.elim λE hF=>⟨O,ρ,E,(gk.bind hF).imp λdd hF v H1 s1 d1=>by
    cases dd with
    |dct ks ds=>
      obtain⟨a,vs,rfl,_,hd⟩:=id (EG.mp d1);refine⟨a,rfl,?_,O,ρ,E.same s1,((gk.bind hF).mono s1).imp λk hF y H2 s2 d2=>?_⟩
      · rcases hd with⟨kvs,e1,_⟩|⟨kvs,e1,_⟩|⟨kvs,o,e1,_⟩
        ·exact .inl ⟨kvs,.inl ((ai H1 O) _ _ e1)⟩
        ·exact .inr ⟨kvs,.inl ((ai H1 O) _ _ e1)⟩
        ·exact .inr ⟨kvs,.inr ⟨o,(ai H1 O) _ _ e1⟩⟩
      · obtain⟨d,hg,q⟩:=gk.rO hF
        have hg:(o5 ks ds).bind (λal=>(cG k).map λq=>(fY al q).getD .non)=some d:=hg;obtain⟨al,hk,hg⟩:=Option.bind_eq_some_iff.mp hg;obtain⟨qk,ht,rfl⟩:=Option.map_eq_some_iff.mp hg;obtain⟨a',ea,hh⟩:=ki (d1.mono (aU s2)) hk;cases ea;rw[dN ht]at d2;obtain⟨b,ws,eb,g1,g2⟩:=bm.mp d2;rw[cw g2]at g1;have g1':=(ai H2 O) _ _ g1;subst eb;have dn:bH X.K (hid H2 O) .non .non:=fG.mpr rfl;rcases hh with⟨kvs,k1,k2,k3⟩|⟨k1,rfl⟩
        · refine⟨eA kvs qk,.inl (.inr ⟨kvs,qk,b,rN k1,rfl,g1',rfl⟩),q _ H2 (s1.trans s2) ?_⟩
          rcases lH qk k2 k3 with⟨z1,z2⟩|⟨w,d,z1,z2,z3⟩
          ·rw[z1,z2];exact dn
          ·rw[z1,z2];exact z3
        ·exact⟨none,.inr ⟨(ai H2 O) _ _ k1,rfl,b,qk,rfl,g1'⟩,q _ H2 (s1.trans s2) dn⟩
    |_=>exact hF.elim⟩⟩
end
section
variable[aj]
theorem qX{X:Cx}{st:cD}{F:bN}(i:Nat)(h:lW X st F):lW X st (jf i F):=⟨λHb Ob pins s σ H E I zq=>zq.elim λO zq=>zq.elim λρ zq=>zq.elim λk zq=>zq.elim λr zq=>zq.elim λS zq=>zq.elim λhF hk=>by
 unfold jf wo at hF;split at hF
 ·rename_i xs hd;split at hF
  ·rename_i as hal
   have:=qw hal
   subst this;obtain⟨a,bs,h1,⟨xs',hO,hat⟩,nd,h4,h5⟩:=S.nst i _ hd;obtain⟨rfl,hHa⟩:xs'=as.map aT/\H a=some (.lst (bs.map .ref)):=by
    rcases hat with⟨e,q⟩|⟨_,e,_⟩|⟨e,_⟩
    ·injection e with e;exact⟨e.symm,q⟩
    ·cases e
    ·cases e
   obtain⟨na,nb⟩:=List.nodup_cons.mp nd;obtain⟨H1,I1,t1,k1,f1⟩:=tG hO nb (λ_ _=>rfl) (λb hb=>(h4 b (Ha _ hb)).1) S.env.all I S.env.all.1;refine h.h Hb Ob pins s σ _ E I1 ⟨_,_,k,r,S.frzB hd h1 h4 h5 (λb hb=>k1 b λz=>hb (Ha _ z)) t1 λsm nn=>?_,hF,hk⟩;exact bn.mpr ⟨a,_,rfl,jA.of (by rw[dR (nn a G9),k1 a na];exact hHa),f1.den sm λb hb=>nn b (Ha _ hb)⟩
  ·exact h.h Hb Ob pins s σ H E I ⟨O,ρ,k,r,S,hF,hk⟩
 ·exact h.h Hb Ob pins s σ H E I ⟨O,ρ,k,r,S,hF,hk⟩⟩
theorem wI{X:Cx}{tg e:KJ}{f:FX}(ho:XE X e f):XI X tg e (ja f):=by
 refine⟨?_⟩;rintro pins s σ H RR I ⟨O,ρ,E,hG⟩;refine cc (ho.h pins s σ H (λv H1=>∃a o kvs,v=.ref a/\H1 a=some (.frz o (.dT kvs))/\RR (Fs a o kvs) H1) I ⟨O,ρ,E,(gk.bind hG).imp λd hG v H1 s1 d1=>?_⟩) λv s1 zq=>zq.elim λx zq=>zq.elim λH1 zq=>zq.elim λI1 zq=>zq.elim λr1 zq=>zq.elim λa zq=>zq.elim λo zq=>zq.elim λkvs zq=>zq.elim λex zq=>zq.elim λha hR=>?_
 ·obtain⟨ds,hg,q⟩:=gk.rO hG;unfold tq at hg;split at hg
  ·rename_i ks dl;cases e1:fE ks dl with
   |none=>rw[e1]at hg;cases hg
   |some al=>
    rw[e1]at hg;cases hg;obtain⟨f1,f2⟩:=fJ e1;subst f1 f2;obtain⟨a,o,kvs,q1,q2,q3,q4⟩:=qE d1;exact⟨a,o,kvs,q1,(ai H1 O) _ _ q2,q _ H1 s1 (qN q2 q3)⟩
  ·cases hg
 ·subst ex;cases r1;obtain⟨hob,hx,hsm,es2,ep,xs,hda,_⟩:=qS I1 ha;refine mR hsm hob hx hda ?_;refine⟨_,_,_,_,H1,rfl,I1.kept (t':=s1.toks) λb u e=>Kf _ e,u6 hda,⟨_,Kg _ rfl,rfl,rfl⟩,λb hb=>?_,hR⟩;rw[List.mem_singleton.mp hb];exact I1.fpOk (Hi _) (I1.hok.fresh (Hi _))
end
section
variable[aj]{X:Cx}
theorem vO{x:Str}{p pos:Pos}{e:KJ}{f:aL}(hc:X.calm=true)(hu:X.A.units+64<Ln)(hg:Gl X x)(hm:X.mg x=none)(hv:KW x=some (.type "dict"))(ha:XA X [e] f)(hn:x≠"__name__":=by decide)(hdb:(x==("__debug__":Str))=false:=by decide)(hns:noStar e=true:=by rfl):XN X (.Call (.Name x p) [e] [] pos) (fL fZ f):=⟨PE.weak (mj (qM hc hu) hg hm hv ha.h hn hdb (cg hns) (dC rfl)) λσ H Q zq=>zq.elim λO zq=>zq.elim λρ zq=>zq.elim λE hF=>⟨O,ρ,E,(gk.bind hF).imp λds hF vs H1 s1 d1=>by
  obtain⟨d,hg,q⟩:=gk.rO hF;unfold fZ at hg;split at hg
  ·rename_i ys;obtain⟨ps,hp,hg⟩:=Option.bind_eq_some_iff.mp hg;obtain⟨sm,rfl⟩:=aV hg;obtain⟨v,ev,h1⟩:=d1.one;obtain⟨p,ws,ep,g1,g2⟩:=bn.mp h1;rw[jo hp]at g2;exact⟨O,ps,ws,p,by rw[ev,ep],E.all.same s1,(ai H1 O).seq g1,g2,sm,λl kvs' hl k1 k2=>q l _ (s1.trans (bh hl _)) (s1.free hl) ⟨_,ao,trivial⟩ ⟨_,_,ao,k2.mono (eI hl),.inr ⟨kvs',rfl,lF k1,rfl⟩⟩⟩
  ·cases hg⟩⟩
end
section
variable[aj]{X:Cx}{e:KJ}{p p2 pos pos2:Pos}
theorem pE{f:FX}(hc:X.calm=true)(hu:X.A.units+64<Ln)(hg:Gl X "sorted")(hm:X.mg "sorted"=none)(hg2:Gl X "set")(hm2:X.mg "set"=none)(he:XE X e f)(hns:noStar e=true:=by rfl):XE X (.Call (.Name "sorted" p) [.Call (.Name "set" p2) [e] [] pos2] [] pos) (f1 eK f):=by
 refine⟨?_⟩;rintro pins s σ H Q I ⟨O,ρ,E,hF⟩;refine Lv (jq I hg hm iL ?_ (by decide) (by decide));refine Kn ?_ rfl rfl;show K2 _ _ (spliced ((false,eval (.Call (.Name "set" p2) [e] [] pos2) X.env)::backTo pos [])) _ _ s;refine Calls.spliced_cons ?_;refine Lv (jq I hg2 hm2 (by first|rfl|decide +kernel) ?_ (by decide) (by decide));refine Km ?_ (cg hns) (dC rfl);refine cc (kx he.h rJ (cg hns) pos2 pins s σ H (λvs H2=>∃v a,vs=[v]/\bL H2 O/\∃d,eK a=some d/\bH X.K (hid H2 O) a v/\∀u H3,aD H2 H3->bH X.K (hid H3 O) d u->Q u H3) I ⟨O,ρ,E,(gk.bind hF).imp λa hF v H1 s1 d1=>?_⟩) ?_
 ·obtain⟨d,e,q⟩:=gk.rO hF;exact⟨v,a,rfl,E.all.same s1,d,e,d1,λu H3 s3 d3=>q u H3 (s1.trans s3) d3⟩
 ·intro us s1 ⟨vs,H1,I1,r1,v,a,ev,hO,d,hd,hden,q⟩;subst ev;cases a with
  |lst xs=>
   unfold eK at hd;dsimp only at hd;obtain⟨ks,hk,hd⟩:=Option.bind_eq_some_iff.mp hd;obtain⟨⟨k300,jX⟩,ed⟩:(ks.length<300/\qP ((dd ks).map kT))/\D.lst (aM bf ((dd ks).map kT))=d:=by
    split at hd
    ·rename_i c;exact⟨c,Option.some.inj hd⟩
    ·cases hd
   obtain⟨l,ws,ep,g1,g2⟩:=bn.mp hden;subst ep;obtain⟨u,eu,ru⟩:=vals1 r1;subst eu;cases ru;obtain⟨its,rv,pl,hz⟩:=I1.list ((ai H1 O).seq g1);rw[qj hk]at g2;have wl:=g2.length;rw[Hx]at wl;have il:=rv.length;have each:∀(i:Nat)(k:ay),ks[i]?=some k->∃b,its[i]?=some (.ref b)/\H1 b=some (.tup (k.map kV)):=λi k e=>by
    obtain⟨v,e1,dv⟩:=g2.get (i:=i) (d:=kT k) (by rw[Ht,e];rfl);obtain⟨w,e2,rw'⟩:=rv.get e1;obtain⟨b,zs,rfl,hb,dz⟩:=bm.mp dv;rw[cw dz]at hb;cases rw';exact⟨b,e2,(ai H1 O) _ _ hb⟩
   have kl:ks.length=its.length:=(by omega);have at':∀(i:Nat),i<ks.length->its.getD i .none=.ref (match its.getD i .none with
     |.ref b=>b
     |_=>0)/\H1 (match its.getD i .none with
     |.ref b=>b
     |_=>0)=some (.tup ((ks.getD i []).map kV)):=λi hi=>by
    obtain⟨b,e1,e2⟩:=each i ks[i] (Ia hi);have a1:its.getD i .none=.ref b:=(by rw[Jp,e1];rfl);have a2:ks.getD i []=ks[i]:=(by rw[Jp,Ia hi];rfl);rw[a1,a2];exact⟨rfl,e2⟩
   generalize hkb:(λi=>(ks.getD i [],match its.getD i .none with
     |.ref b=>b
     |_=>0):Nat->List Key×KI)=kb
   have kb1:∀i,(kb i).1=ks.getD i []:=λi=>by rw[<-hkb]
   have kbf:∀(i:Nat),i<ks.length->its.getD i .none=.ref (kb i).2/\H1 (kb i).2=some (.tup ((kb i).1.map kV)):=λi hi=>by rw[<-hkb];exact at' i hi
   clear at' hkb;refine tU (its:=its.toArray) (kb:=kb) hu (I1.ok.hd hc) pl.isList (λi v hv=>?_) (by rw[Hk];omega) λh' tk L hS ha hkp=>?_
   ·have hi:i<its.length:=by
     have:=(Array.getElem?_eq_some_iff.mp hv).1
     rwa [Hk]at this
    obtain⟨a1,a2⟩:=kbf i `o;refine⟨?_,fF I1.hok a2⟩;rw[JS]at hv;rw[Jp,hv]at a1;exact a1
   ·rw[Hk]at ha;have I2:Inv X pins σ H1 {s1 with heap:=h',toks:=tk}:=I1.kept λb o' e=>hkp b o' (Kc e) e;obtain⟨o,es,epc,t,ho,hex,hd',R,led⟩:=hS;have Ll:=ha.ln;refine Calls.spliced_nil ?_;obtain⟨col,d',pm,hcol⟩:=pU (prog:=X.prog) (w:=X.w) (A:=X.A.in1) (s:={s1 with heap:=h',toks:=tk}) (I1.ok.hd hc) ho hex hd' R.tt R.fits led (by rw[R.size.1];omega);rw[R.es,Jq]at pm;obtain⟨M,pM,eM⟩:=oP _ pm L rfl;have I3:Inv X pins σ H1 {s1 with heap:=h',drawn:=d',toks:=tk}:=by
     obtain⟨a1,a2,a3,a4,a5,a6,a7,a8,a9,a10,a11⟩:=I2;exact⟨a1,a2,a3,a4,a5,a6,a7,a8,a9,a10,a11⟩
    have keyM:∀x∈M,H1 x.2.2=some (.tup (x.2.1.map kV)):=λx hx=>by
     obtain⟨j,j1,j2⟩:=ha.of x (pM.mem_iff.mp hx);obtain⟨_,a2⟩:=kbf j `o;rw[j2];exact a2
    have dn:av X.K (hid H1 O) (M.map λx=>kT x.2.1) (M.map λx=>V.ref x.2.2):=by
     clear pM eM
     induction M with
     |nil=>exact bB.mpr rfl
     |cons x M ih=>
      have hb:=keyM x G9;have bO:x.2.2∉O:=λz=>by
       obtain⟨u',q1,q2⟩:=hO.2 _ z;rw[hb]at q1;cases q1;exact q2
      exact aI.mpr ⟨_,_,rfl,bm.mpr ⟨_,_,rfl,by rw[dR bO];exact hb,kz x.2.1⟩,ih λy hy=>keyM y (Ha _ hy)⟩
    have rvM:Vals (M.map λx=>V.ref x.2.2) col:=by
     rw[<-eM];clear pM eM keyM dn
     induction M with
     |nil=>exact .nil
     |cons x M ih=>exact .cons rfl ih
    have pk:(M.map λx=>kT x.2.1).Perm ((dd ks).map kT):=by
     have:(M.map (·.2.1)).Perm (dd ks):=by
      refine(JM ((pM.map (·.2.1)).nodup_iff.mpr R.nd) (tm ks)).mpr λk=>?_;rw[om,(pM.map (·.2.1)).mem_iff];constructor
      ·intro z;obtain⟨x,hx,rfl⟩:=List.mem_map.mp z;obtain⟨j,j1,j2⟩:=ha.of x hx;have e1:x.2.1=(kb j).1:=(by rw[j2]);have hj:j<ks.length:=(by omega);rw[e1,kb1,Jp,Ia hj];exact IH hj
      ·intro z;obtain⟨j,hj,rfl⟩:=IM z
       have:=ha.has j `o
       rwa [kb1,Jp,Ia hj]at this
     have:=this.map kT
     rwa [Jq]at this
    refine jg (s0:={s1 with heap:=h',toks:=tk}) (s:={s1 with heap:=h',drawn:=d',toks:=tk}) I3 hO dn rvM ((rA jX pk).trans (by rw[ed])) (λQ' hQ=>hcol _ _ λh2 tk2 k2=>hQ h2 tk2 k2) q
  |_=>cases hd
end
noncomputable abbrev Lk(K:J1)(f:KI)(nm qual:Str)(st:KL)(oc:KG)(od:Option KI)(kV dc pm:KG)(an:Option KI)(cd ct:KG)(sl:Array (Option KG)):Prop:=K.lookup f=some ⟨oc,od,.func (J4 nm qual (fq st) (cW st) (aG st) .none kV dc pm an cd ct),sl⟩
structure wf(P:KP)(w:KO)(K:J1)(mg:cF)(base:KR)(k:Nat)(N:aK)(qual:Str)(st:KL)(f:KI)(B:bN):Prop where
 h:∀(cdv:KG)(A:KY)(outer:List Env)(s:KN)(H:Hp)(E:XK),ik k (A.deeper (Kp qual (aG st) s.heap.objs.size f cdv))->K9 (model P w) (A.deeper (Kp qual (aG st) s.heap.objs.size f cdv)) (Kp qual (aG st) s.heap.objs.size f cdv) (iy (kI P w) P w K mg base N qual (aG st) f cdv A outer s H E).xe->
  lW (iy (kI P w) P w K mg base N qual (aG st) f cdv A outer s H E) (cW st) B
theorem wf.ok{P:KP}{w:KO}{K:J1}{mg:cF}{base:KR}{k:Nat}{N:aK}{qual:Str}{st:KL}{f:KI}{B:bN}(h:wf P w K mg base k N qual st f B):BodyOk P w K mg base k N qual st f B:=⟨λcdv A outer s H E hr hp=>(h.h cdv A outer s H E hr hp).h⟩
section
variable{X:Cx}{x:Str}{pos:Pos}
theorem xw(i:Nat)(hN:X.N[i]?=some x:=by rfl)(hv:Dc X.env.scope x:=by first|exact Or.inl rfl|exact Or.inr (Or.inl rfl)|exact Or.inr (Or.inr rfl))(hd:(x==("__debug__":Str))=false:=by decide)(hcd:(x==("__classdict__":Str))=false:=by decide):XE X (.Name x pos) (aa i):=yE (xv i hN hv hd hcd)
theorem xi{a b:KJ}{fa fb:FX}(ha:XE X a fa)(hb:XE X b fb)(hs:iS b:=by exact λ_ _=>rfl):XE X (.Subscript a b pos) (f2 bb fa fb):=B8 ha hb hs
theorem xs(i:Nat){e:KJ}{f:FX}{pos':Pos}(hN:X.N.Nodup)(he:XE X e f)(hi:X.N[i]?=some x:=by rfl)(hx:Loc X.env.scope x:=by first|exact Or.inl rfl|exact Or.inr rfl)(hs:swapsWith e (some (.Name x pos')) pos.line X.env=pure false:=by rfl)(hf:X.fn x=true\/X.env.scope.names.lookup x=some .local:=by first|exact .inl rfl|exact .inr rfl|assumption):XS X (.Assign [.Name x pos'] e pos) (cq i f):=yW hN hi hx he hs hf
end
noncomputable def F5:aK->Bool
 |[]=>true
 |x::r=>!(r.contains x)&&F5 r
theorem nU{l:aK}(h:F5 l=true):l.Nodup:=by
 induction l with
 |nil=>exact HQ
 |cons x r ih=>
  simp only[F5,HB,IK]at h;exact List.nodup_cons.mpr ⟨λm=>by rw[List.contains_iff_mem.mpr m]at h;exact absurd h.1 (by decide),ih h.2⟩
noncomputable def yj:KJ->aK
 |.Name x _=>[x]
 |.Tuple es _ _=>es.filterMap λe=>match e with
  |.Name x _=>some x
  |_=>none
 |_=>[]
noncomputable def ux(N:aK):c7->aK->aK
 |[],_=>[]
 |some j::r,t=>N.getD j ""::ux N r t
 |none::r,x::t=>x::ux N r t
 |none::r,[]=>""::ux N r []
section
variable{X:Cx}{elt tg iter:KJ}{ifs:aY}{scope:KZ}{ix:c7}{G:aL}{g:GF}{C:aZ}{Fe:FX}{i:Nat}{y:Str}{lpos py pos:Pos}
theorem xl(hc:X.calm=true)(tk:j8 ix g)(hi:XI X tg iter G)(hb:lY X scope (ux X.N ix (yj tg)) tg elt ifs g C Fe)(ok:fH X.env.scope.names X.N scope (ux X.N ix (yj tg)) ix=true:=by rfl)(hs:∀x,Lf iter X.env x=pure x:=by intro _;rfl):XE X (.ListComp elt [⟨tg,iter,ifs,0⟩] scope pos) (fP ix G g C Fe):=Cb hc (.of ok) tk hi hb hs
theorem GO(hc:X.calm=true)(tk:j8 ix g)(hi:XI X tg iter G)(hb:lY X scope (ux X.N ix (yj tg)) tg elt ifs g C Fe)(ok:fH X.env.scope.names X.N scope (ux X.N ix (yj tg)) ix=true:=by rfl)(hs:∀x,Lf iter X.env x=pure x:=by intro _;rfl):XN X (.ListComp elt [⟨tg,iter,ifs,0⟩] scope pos) (fP ix G g C Fe):=CU hc (.of ok) tk hi hb hs
theorem GX(hN:X.N.Nodup)(hc:X.calm=true)(tk:j8 ix g)(hi:XI X tg iter G)(hb:lY X scope (ux X.N ix (yj tg)) tg elt ifs g C Fe)(hi':X.N[i]?=some y:=by rfl)(hx:Loc X.env.scope y:=by first|exact Or.inl rfl|exact Or.inr rfl)(ok:fH X.env.scope.names X.N scope (ux X.N ix (yj tg)) ix=true:=by rfl)(hsw:swapsWith (.ListComp elt [⟨tg,iter,ifs,0⟩] scope lpos) (some (.Name y py)) pos.line X.env=pure true:=by rfl)(hs:∀x,Lf iter X.env x=pure x:=by intro _;rfl)(hf:X.fn y=true\/X.env.scope.names.lookup y=some .local:=by first|exact .inl rfl|exact .inr rfl|assumption):XS X (.Assign [.Name y py] (.ListComp elt [⟨tg,iter,ifs,0⟩] scope lpos) pos) (cq i (fP ix G g C Fe)):=Cr hN hi' hx hc (.of ok) tk hi hb hsw hs hf
theorem GW{dp:Pos}(hN:X.N.Nodup)(hc:X.calm=true)(hi:XI X tg iter G)(hb:∀cl C' fp s H E,XG (aR X scope (ux X.N [none] (yj tg)) cl C' fp s H E) tg (gN 0))(hi':X.N[i]?=some y:=by rfl)(hx:Loc X.env.scope y:=by first|exact Or.inl rfl|exact Or.inr rfl)(ok:fH X.env.scope.names X.N scope (ux X.N [none] (yj tg)) [none]=true:=by rfl)(hsw:swapsWith (.ListComp (.Dict [] [] dp) [⟨tg,iter,[],0⟩] scope lpos) (some (.Name y py)) pos.line X.env=pure true:=by rfl)(hs:∀x,Lf iter X.env x=pure x:=by intro _;rfl)(hf:X.fn y=true\/X.env.scope.names.lookup y=some .local:=by first|exact .inl rfl|exact .inr rfl|assumption):XS X (.Assign [.Name y py] (.ListComp (.Dict [] [] dp) [⟨tg,iter,[],0⟩] scope lpos) pos) (gu i G):=⟨TG.El hN hi' hx hc (.of ok) hi.h (λcl C' fp s H E=>(hb cl C' fp s H E).h) hsw hs hf⟩
theorem GD(hN:X.N.Nodup)(hc:X.calm=true)(tk:j8 ix g)(hi:XI X tg iter G)(hb:lY X scope (ux X.N ix (yj tg)) tg elt ifs g C Fe)(hi':X.N[i]?=some y:=by rfl)(hx:Loc X.env.scope y:=by first|exact Or.inl rfl|exact Or.inr rfl)(ok:fH X.env.scope.names X.N scope (ux X.N ix (yj tg)) ix=true:=by rfl)(hsw:swapsWith (.ListComp elt [⟨tg,iter,ifs,0⟩] scope lpos) (some (.Name y py)) pos.line X.env=pure true:=by rfl)(hs:∀x,Lf iter X.env x=pure x:=by intro _;rfl)(hf:X.fn y=true\/X.env.scope.names.lookup y=some .local:=by first|exact .inl rfl|exact .inr rfl|assumption):XS X (.Assign [.Name y py] (.ListComp elt [⟨tg,iter,ifs,0⟩] scope lpos) pos) (pN i (fP ix G g C Fe)):=vm hN hi' hx hc (.of ok) tk hi hb hsw hs hf
end
structure U where
 P:KP
 w:KO
 K:J1
 mg:cF
 base:KR
 cL:KI
 T:KI
noncomputable abbrev Ca(u:U)(k:Nat)(x:Str)(ps:aK)(g:List D->R D):Prop:=Callee u.P u.w u.K u.mg u.base k x ps g
noncomputable def Df(u:U)(x:Str)(st:KL):Prop:=∃f fd,zg u.K x x st f fd/\u.mg x=some (.ref f)
noncomputable def Bd(x qual:Str)(st:KL)(ps:aK):Prop:=∀us:aC,us.length=ps.length->∀(kV doc pm:KG)(an:Option KI)(cdv ct:KG),bindArgs (J4 x qual (fq st) (cW st) (aG st) .none kV doc pm an cdv ct) ⟨us,[]⟩=pure (ps.zip us)
theorem zg.bd{K:J1}{x qual:Str}{st:KL}{f:KI}{fd:Lp}{ps:aK}(F:zg K x qual st f fd)(h:Bd x qual st ps):Binds K fd ps []:=F.binds λkV doc pm an cdv ct us e=>h us e kV doc pm an cdv ct
section
variable{u:U}{x c m qual:Str}{st:KL}{ps:aK}{k:Nat}{B:bN}
theorem GN(M:aK)(d:Df u x st)(b:Bd x x st ps)(sc:fm (ps++M) ps (aG st))(h:(ps++M).Nodup->∀f,wf u.P u.w u.K u.mg u.base k (ps++M) x st f B):Ca u (k+1) x ps (bz B ps.length (ps++M).length):=by
 obtain⟨f,fd,F,e⟩:=d;exact u5 F (zg.bd F b) e sc (h sc.nd f).ok
theorem GP(M:aK){f:KI}{fd:Lp}(F:zg u.K x x st f fd)(sc:fm (ps++M) ps (aG st))(h:(ps++M).Nodup->wf u.P u.w u.K u.mg u.base k (ps++M) x st f B):j9 u.P u.w u.K u.mg u.base (kI u.P u.w) (k+1) f fd ps (AA u.K ps.length (bz B ps.length (ps++M).length)):=sK F sc (h sc.nd).ok
end
noncomputable def KD(K:J1)(x:Str)(st:KL):Prop:=∃f oc od kV dc pm an cd ct sl,J8 K KU x=some (some (.ref f))/\Lk K f x x st oc od kV dc pm an cd ct sl/\J5 K cd x=true/\J7 K (.ref f)=true
theorem KD.mk{K:J1}{x:Str}{st:KL}{f:KI}{oc:KG}{od:Option KI}{kV dc pm:KG}{an:Option KI}{cd ct:KG}{sl:Array (Option KG)}(a:J8 K KU x=some (some (.ref f)))(l:Lk K f x x st oc od kV dc pm an cd ct sl)(c:J5 K cd x=true)(k:J7 K (.ref f)=true):KD K x st:=⟨f,oc,od,kV,dc,pm,an,cd,ct,sl,a,l,c,k⟩
noncomputable def KDs(K:J1):List (Str×KL)->Prop
 |[]=>True
 |p::r=>KD K p.1 p.2/\KDs K r
theorem KDs.mk{K:J1}{x:Str}{st:KL}{r:List (Str×KL)}(h:KD K x st)(t:KDs K r):KDs K ((x,st)::r):=⟨h,t⟩
noncomputable def FR(u:U)(Z:Prop):List (Str×KL)->Prop
 |[]=>Z
 |p::r=>FR u Z r/\Df u p.1 p.2
noncomputable def KZs(K:J1):aK->Prop
 |[]=>True
 |x::r=>J8 K KU x=some none/\KZs K r
theorem KZs.mk{K:J1}{x:Str}{r:aK}(h:J8 K KU x=some none)(t:KZs K r):KZs K (x::r):=⟨h,t⟩
noncomputable def Zs(u:U):aK->Prop
 |[]=>True
 |x::r=>Zs u r/\u.mg x=none
section
variable{u:U}{h:KR}
theorem FR.of{Z:Prop}(X:u.K.In h)(G:h.Ns KU u.mg)(z:Z):∀{l:List (Str×KL)},KDs u.K l->FR u Z l
 |[],_=>z
 |_::_,h=>by
  obtain⟨⟨_,_,_,_,_,_,_,_,_,_,a,l,c,k⟩,r⟩:=h;exact⟨FR.of X G z r,_,_,wX l c k,PySem.W.mg_of X G a⟩
theorem Zs.of(X:u.K.In h)(G:h.Ns KU u.mg):∀{l:aK},KZs u.K l->Zs u l
 |[],_=>trivial
 |_::_,⟨a,r⟩=>⟨Zs.of X G r,PySem.W.mg_none_of X G a⟩
end
theorem yV{us:aC}{n:Nat}(h:us.length=n+1):∃a r,us=a::r/\r.length=n:=by
 cases us with
 |nil=>cases h
 |cons a r=>exact⟨a,r,rfl,Nat.succ.inj h⟩
theorem DR{us:aC}(h:us.length=1):∃a,us=[a]:=List.length_eq_one_iff.mp h
theorem Du{us:aC}(h:us.length=2):∃a b,us=[a,b]:=by
 obtain⟨a,r,rfl,k⟩:=yV h;obtain⟨b,rfl⟩:=DR k;exact⟨a,b,rfl⟩
theorem DV{us:aC}(h:us.length=3):∃a b c,us=[a,b,c]:=by
 obtain⟨a,r,rfl,k⟩:=yV h;obtain⟨b,c,rfl⟩:=Du k;exact⟨a,b,c,rfl⟩
theorem En{us:aC}(h:us.length=4):∃a b c d,us=[a,b,c,d]:=by
 obtain⟨a,r,rfl,k⟩:=yV h;obtain⟨b,c,d,rfl⟩:=DV k;exact⟨a,b,c,d,rfl⟩
theorem Gc{us:aC}(h:us.length=5):∃a b c d e,us=[a,b,c,d,e]:=by
 obtain⟨a,r,rfl,k⟩:=yV h;obtain⟨b,c,d,e,rfl⟩:=En k;exact⟨a,b,c,d,e,rfl⟩
end TX
namespace TG
open L2
instance(priority:=low) noTabs:aj:=⟨λ_=>True,λ_ _=>trivial,λ_ _ _=>trivial⟩
open PySem PySem.Spec L2
theorem nr{α:Sort _}{a b:α}(h:a=b):a=b:=h
theorem dH{α β:Type}(a:α)(f:α->R β):Except.bind (Except.ok a:R α) f=f a:=nr rfl
theorem mB{α β:Type}(x:Option Ex)(f:α->R β):Except.bind (Except.error x:R α) f=.error x:=nr rfl
theorem m7{α:Type}(a:α)(k:Ks)(ρ:af)(f:α->R D):me (.ok a) k ρ f=f a:=nr rfl
theorem nF{α:Type}(x:Ex)(k:Ks)(ρ:af)(f:α->R D):me (.error (some x)) k ρ f=k.ex x ρ:=nr rfl
theorem eT{α:Type}(a:α):sZ (.ok a:R α)=.ok a:=nr rfl
theorem de{α:Type}(a:α):rO (some a)=.ok a:=nr rfl
theorem ge_0(d:D)(ρ:af):lT (some (.val d)::ρ) 0=.ok d:=rfl
theorem uF(x:Option S)(ρ:af)(i:Nat):lT (x::ρ) (i+1)=lT ρ i:=rfl
theorem js(i:Nat)(ρ:af):aa i ρ=lT ρ i:=rfl
theorem uf(d:D)(ρ:af):fC d ρ=.ok d:=rfl
theorem jP(ρ:af):ak ρ=.ok []:=rfl
theorem gI(f:FX)(g:aL)(ρ:af):ae f g ρ=(f ρ).bind λx=>(g ρ).bind λxs=>.ok (x::xs):=rfl
theorem jj(g:aL)(ρ:af):dj g ρ=(g ρ).bind λxs=>rO (fS xs):=rfl
theorem jl(g:aL)(ρ:af):j7 g ρ=(g ρ).bind λxs=>rO (iN xs):=rfl
theorem t7(g:D->aQ)(f:FX)(ρ:af):f1 g f ρ=(f ρ).bind λa=>rO (g a):=rfl
theorem uw(g:D->D->aQ)(f h:FX)(ρ:af):f2 g f h ρ=(f ρ).bind λa=>(h ρ).bind λb=>rO (g a b):=rfl
theorem t6(f:FX)(ρ:af):fB f ρ=(f ρ).bind λd=>rO (Fm d):=rfl
theorem ud(g:List D->aQ)(f:aL)(ρ:af):fL g f ρ=(f ρ).bind λds=>rO (g ds):=rfl
theorem uh(g:List D->R D)(f:aL)(ρ:af):fR g f ρ=(f ρ).bind g:=nr rfl
theorem je(f:aZ)(ρ:af):lQ f ρ=(f ρ).bind λb=>.ok (!b):=rfl
theorem jD(f g:aZ)(ρ:af):FH f g ρ=(f ρ).bind λb=>if b then g ρ else .ok false:=rfl
theorem mI(f g:aZ)(ρ:af):yi f g ρ=(f ρ).bind λb=>if b then .ok true else g ρ:=rfl
theorem eQ(f:FX)(ρ:af):dU f ρ=(f ρ).bind λd=>rO (truth d):=rfl
theorem gY(f g:FX)(ρ:af):Eh f g ρ=(f ρ).bind λd=>qT d (g ρ):=rfl
theorem jK(f g:FX)(ρ:af):Fz f g ρ=(f ρ).bind λd=>Ef d (g ρ):=rfl
theorem gE(f:FX)(ρ:af):Es f ρ=(f ρ).bind λa=>rO (CC a):=rfl
theorem ni(t:aZ)(f g:FX)(ρ:af):GI t f g ρ=(t ρ).bind λc=>if c then f ρ else g ρ:=rfl
theorem jv(T:String)(f:FX)(ρ:af):qi T f ρ=(f ρ).bind λa=>rO (xk T a):=rfl
theorem jR(f:FX)(ρ:af):FJ f ρ=(f ρ).bind λa=>.ok (.bl (isNon a)):=rfl
theorem gF(f:FX)(ρ:af):DX f ρ=(f ρ).bind λa=>.ok (.bl (!isNon a)):=rfl
theorem jM(f:FX)(ρ:af):vE f ρ=(f ρ).bind λa=>rO (B7 a):=rfl
theorem eO(f:FX)(ρ:af):Cw f ρ=(f ρ).bind λa=>rO (wO a):=rfl
theorem jN(f:FX)(ρ:af):Fl f ρ=(f ρ).bind λa=>rO (CY a):=rfl
theorem eY(g g':D->D->aQ)(fa fb fc:FX)(ρ:af):Bp g g' fa fb fc ρ=(fa ρ).bind λx=>(fb ρ).bind λy=>(rO (g x y)).bind λz=>qT z ((fc ρ).bind λw=>rO (g' y w)):=rfl
theorem eU(f:FX)(ρ:af):cT f ρ=(f ρ).bind λd=>rO (lh d):=rfl
theorem dr(f:aL)(ρ:af):b6 f ρ=(f ρ).bind λds=>rO (kB ds):=rfl
theorem dy(f:aL)(ρ:af):yp f ρ=(f ρ).bind λds=>rO (tK ds):=rfl
theorem jS(f:aL)(ρ:af):Fd f ρ=(f ρ).bind λds=>rO (Ea ds):=rfl
theorem gM(f:aL)(ρ:af):qW f ρ=(f ρ).bind λds=>rO (AB ds):=rfl
theorem jm(z:Str):GC (.str z)=some z:=rfl
theorem dq(ρ:af):i6 ρ=.ok none:=rfl
theorem hU(f:FX)(ρ:af):kR f ρ=(f ρ).bind λd=>rO (rz d):=rfl
theorem dZ(f:FX)(l h:af->R bP)(ρ:af):jC f l h ρ=(f ρ).bind λa=>(l ρ).bind λlo=>(h ρ).bind λhi=>rO (lD a lo hi):=rfl
theorem hV(ρ:af):ca ρ=.ok true:=rfl
theorem gZ(k:Ks)(ρ:af):cj k ρ=k.nx ρ:=nr rfl
theorem hJ(A B:bN)(k:Ks)(ρ:af):bg A B k ρ=A {k with nx:=B k} ρ:=nr rfl
theorem gX(f:FX)(k:Ks)(ρ:af):cx f k ρ=me (f ρ) k ρ .ok:=nr rfl
theorem eF(k:Ks)(ρ:af):DB k ρ=.ok .non:=nr rfl
theorem jd(c:aZ)(A B:bN)(k:Ks)(ρ:af):jb c A B k ρ=me (c ρ) k ρ λb=>if b then A k ρ else B k ρ:=nr rfl
theorem gV(i:Nat)(f:FX)(k:Ks)(ρ:af):cq i f k ρ=me (f ρ) k ρ λd=>k.nx (setV i d ρ):=nr rfl
theorem eZ(is:aP)(F:bN)(k:Ks)(ρ:af):fQ is F k ρ=F k (kill is ρ):=nr rfl
theorem g9(G:aL)(g:GF)(B:bN)(k:Ks)(ρ:af):vh G g B k ρ=me (G ρ) k ρ λds=>fO g B k ds ρ:=nr rfl
theorem vi(d:D)(x:Option S)(ρ:af):setV 0 d (x::ρ)=some (.val d)::ρ:=rfl
theorem tW(i:Nat)(d:D)(x:Option S)(ρ:af):setV (i+1) d (x::ρ)=x::setV i d ρ:=rfl
theorem jT(ρ:af):kill [] ρ=ρ:=rfl
theorem g8(i:Nat)(is:aP)(ρ:af):kill (i::is) ρ=kill is (ρ.set i none):=rfl
theorem rj(B:bN)(n:Nat)(a:D):bz B 1 n [a]=B K0 (env0 n [a]):=nr rfl
theorem oz(B:bN)(n:Nat)(a b:D):bz B 2 n [a,b]=B K0 (env0 n [a,b]):=nr rfl
theorem iz(B:bN)(n:Nat)(a b c:D):bz B 3 n [a,b,c]=B K0 (env0 n [a,b,c]):=nr rfl
theorem AZ(B:bN)(n:Nat)(a b c d:D):bz B 4 n [a,b,c,d]=B K0 (env0 n [a,b,c,d]):=nr rfl
theorem BI(B:bN)(n:Nat)(a b c d e:D):bz B 5 n [a,b,c,d,e]=B K0 (env0 n [a,b,c,d,e]):=nr rfl
theorem jk(ρ:af):inB [] ρ=[]:=rfl
theorem gP(ix:c7)(ρ:af):inB (none::ix) ρ=none::inB ix ρ:=rfl
noncomputable def pick(ρ:af)(i:Nat):Option S:=match ρ[i]? with
 |some (some (.val d))=>some (.val d)
 |_=>none
theorem g7(i:Nat)(ix:c7)(ρ:af):inB (some i::ix) ρ=pick ρ i::inB ix ρ:=rfl
theorem uX(d:D)(ρ:af):pick (some (.val d)::ρ) 0=some (.val d):=rfl
theorem uD(x:Option S)(ρ:af)(i:Nat):pick (x::ρ) (i+1)=pick ρ i:=rfl
theorem gQ(i:Nat)(f:FX)(k:Ks)(ρ:af):pN i f k ρ=me (f ρ) k ρ λd=>k.nx (ρ.set i (some (.own d))):=nr rfl
theorem gO(i:Nat)(F:bN)(k:Ks)(ρ:af):yZ i F k ρ=F k (frz i ρ):=nr rfl
theorem vk(d:D)(ρ:af):frz 0 (some (.own d)::ρ)=some (.val d)::ρ:=rfl
theorem nH(d:D)(ρ:af):frz 0 (some (.val d)::ρ)=some (.val d)::ρ:=rfl
theorem va(i:Nat)(x:Option S)(ρ:af):frz (i+1) (x::ρ)=x::frz i ρ:=by
 unfold frz;rw[Jw];split<;>rename_i h
 ·rw[h];rfl
 ·rfl
theorem Bq(i:Nat)(u:List D->List D->ii)(f:aL)(k:Ks)(ρ:af){xs:List D}(h:ρ[i]?=some (some (.own (.lst xs)))):sO i u f k ρ=me (f ρ) k ρ λds=>(rO (u xs ds)).bind λys=>k.nx (ρ.set i (some (.own (.lst ys)))):=by
 unfold sO;rw[h]
theorem A7{xs:List D}{y:D}(h:xs.length<100000):i9 xs [y]=some (xs++[y]):=by
 show(if small (xs.length+1)then some (xs++[y])else none)=_;rw[bW `o];rfl
theorem jF(i j:Int):dX (.int i) (.int j)=some (.int (i+j)):=nr rfl
theorem jL(i j:Int):TG.CG (.int i) (.int j)=some (.int (i-j)):=nr rfl
theorem mX(i j:Int):GR (.int i) (.int j)=some (.bl (decide (i<j))):=nr rfl
theorem ju(i j:Int):rT (.int i) (.int j)=some (.bl (decide (i<j))):=nr rfl
theorem jh(x y:Str):rT (.str x) (.str y)=some (.bl (decide (x.cps.toList<y.cps.toList))):=nr rfl
theorem jp(c d:Bool):FZ (.bl c) (.bl d)=some (.bl (c==d)):=nr rfl
theorem dm(c d:Bool):Ak (.bl c) (.bl d)=some (.bl (!(c==d))):=nr rfl
theorem nB(i j:Int):GU (.int i) (.int j)=some (.bl (decide (i<=j))):=nr rfl
theorem mi(i j:Int):By (.int i) (.int j)=some (.bl (decide (j<i))):=nr rfl
theorem mU(i j:Int):GJ (.int i) (.int j)=some (.bl (decide (j<=i))):=nr rfl
theorem jO(i:Int):B7 (.int i)=some (.int (-i)):=nr rfl
theorem x3{i j:Int}(h:0<j):bU (.int i) (.int j)=some (.int (i%j)):=by
 show(if decide (0<j)then some (D.int (i%j))else none)=_;rw[decide_eq_true h];rfl
theorem lN{i j:Int}(h:0<j)(h':j<10^200):c6 (.int i) (.int j)=some (.int (i/j)):=by
 show(if decide (0<j/\j<10^200)then some (D.int (i/j))else none)=_;rw[decide_eq_true ⟨h,h'⟩];rfl
theorem oH{i j:Int}(h:-(2^64)<i)(h':i<2^64):j6 (.int i) (.int j)=some (.int (i*j)):=by
 show(if decide ((-(2^64)<i/\i<2^64)\/(-(2^64)<j/\j<2^64))then some (D.int (i*j))else none)=_;rw[decide_eq_true (.inl ⟨h,h'⟩)];rfl
theorem sR{i j:Int}(h:-(2^64)<j)(h':j<2^64):j6 (.int i) (.int j)=some (.int (i*j)):=by
 show(if decide ((-(2^64)<i/\i<2^64)\/(-(2^64)<j/\j<2^64))then some (D.int (i*j))else none)=_;rw[decide_eq_true (.inr ⟨h,h'⟩)];rfl
theorem xB(i:Int)(n:Nat)(h:n<=1000000)(h':i.natAbs<2^64):o8 (.int i) (.int n)=some (.int (i^n)):=by
 show(if decide (0<=(n:Int)/\(n:Int)<=1000000/\i.natAbs<2^64)then some (D.int (i^(n:Int).toNat))else none)=_;rw[decide_eq_true ⟨by omega,by omega,h'⟩];rfl
theorem eW(i j:Int):uU (.int i) (.int j)=some (.bl (i==j)):=by unfold uU pyEq;rfl
theorem eE(i j:Str):uU (.str i) (.str j)=some (.bl (i==j)):=by unfold uU pyEq;rfl
theorem d8(i j:Bool):uU (.bl i) (.bl j)=some (.bl (i==j)):=by unfold uU pyEq;rfl
theorem d7(i j:Int):ka (.int i) (.int j)=some (.bl (!(i==j))):=by unfold ka pyEq;rfl
theorem eS(i j:Str):ka (.str i) (.str j)=some (.bl (!(i==j))):=by unfold ka pyEq;rfl
theorem ez(i j:Bool):ka (.bl i) (.bl j)=some (.bl (!(i==j))):=by unfold ka pyEq;rfl
theorem BH{α:Type}(xs:List α)(n:Nat):iC xs (n:Int)=xs[n]?:=by
 unfold iC za;rw[if_pos `o];by_cases h:n<xs.length
 ·rw[if_pos `o];rfl
 ·rw[if_neg `o,JO `o];rfl
theorem tV{α:Type}(a:α)(xs:List α):iC (a::xs) 0=some a:=BH (a::xs) 0
theorem tX{α:Type}(a:α)(xs:List α)(n:Nat):iC (a::xs) ((n+1:Nat):Int)=iC xs (n:Int):=by
 rw[BH,BH,Jw]
theorem FD(xs:List D)(i:Int):bb (.tup xs) (.int i)=iC xs i:=nr rfl
theorem D7(xs:List D)(i:Int):bb (.lst xs) (.int i)=iC xs i:=nr rfl
theorem lq(a:D)(xs:List D):bb (.tup (a::xs)) (.int 0)=some a:=tV a xs
theorem nS(a b:D)(xs:List D):bb (.tup (a::b::xs)) (.int 1)=some b:=(tX a _ 0).trans (tV b xs)
theorem m8(a b c:D)(xs:List D):bb (.tup (a::b::c::xs)) (.int 2)=some c:=(tX a _ 1).trans ((tX b _ 0).trans (tV c xs))
theorem ir(a:D)(xs:List D):bb (.lst (a::xs)) (.int 0)=some a:=tV a xs
theorem iZ(a b:D)(xs:List D):bb (.lst (a::b::xs)) (.int 1)=some b:=(tX a _ 0).trans (tV b xs)
theorem lr(a b c:D)(xs:List D):bb (.lst (a::b::c::xs)) (.int 2)=some c:=(tX a _ 1).trans ((tX b _ 0).trans (tV c xs))
theorem eD(xs:List D):gb [.lst xs]=some (.int xs.length):=nr rfl
theorem eB(xs:List D):gb [.tup xs]=some (.int xs.length):=nr rfl
theorem cO(xs:List D):dW [.lst xs]=some (.tup xs):=nr rfl
theorem cK(xs:List D):dW [.tup xs]=some (.tup xs):=nr rfl
theorem jB(b:Bool):Fm (.bl b)=some b:=nr rfl
theorem du(i:Int):rz (.int i)=some (some i):=nr rfl
theorem cM(b:Bool):truth (.bl b)=some b:=nr rfl
theorem cN(xs:List D):truth (.tup xs)=some (!xs.isEmpty):=nr rfl
theorem cV(xs:List D):truth (.lst xs)=some (!xs.isEmpty):=nr rfl
theorem jG(i j:Int):Dj [.int i,.int j]=some (.int (if j>i then j else i)):=nr rfl
theorem jy(i j:Int):Ei [.int i,.int j]=some (.int (if j<i then j else i)):=nr rfl
theorem cJ(xs:List D):lh (.lst xs)=some xs:=nr rfl
theorem cI(xs:List D):lh (.tup xs)=some xs:=nr rfl
theorem dY(k:R D):qT (.bl true) k=k:=nr rfl
theorem eX(k:R D):qT (.bl false) k=.ok (.bl false):=nr rfl
theorem ic(k:R D):Ef (.bl true) k=.ok (.bl true):=nr rfl
theorem ie(k:R D):Ef (.bl false) k=k:=nr rfl
theorem d9(a b:Bool):qT (.bl a) (.ok (.bl b))=.ok (.bl (a&&b)):=by cases a<;>rfl
theorem ig(a b:Bool):Ef (.bl a) (.ok (.bl b))=.ok (.bl (a||b)):=by cases a<;>rfl
theorem jI(b:Bool):CC (.bl b)=some (.bl (!b)):=nr rfl
theorem jQ(xs:List D):CY (.lst xs)=some (.lst xs.reverse):=nr rfl
theorem eR(n:Nat)(h:n<2^62):kB [.int n]=some (bi 0 n):=by
 show(if okR (n:Int)then some (bi 0 ((n:Int).toNat))else none)=_
 have:okR (n:Int)=true:=decide_eq_true ⟨by omega,by omega⟩
 rw[this];rfl
theorem lJ{xs:List D}(h:xs.length<=100000):fS xs=some (.tup xs):=by unfold fS;rw[bW h];rfl
theorem k8{xs:List D}(h:xs.length<=100000):iN xs=some (.lst xs):=by unfold iN;rw[bW h];rfl
theorem oW(xs ys:List D)(h:xs.length+ys.length<=100000):dX (.lst xs) (.lst ys)=some (.lst (xs++ys)):=by
 show(if small (xs.length+ys.length)then some (D.lst (xs++ys))else none)=_;rw[bW h];rfl
theorem yc(xs ys:List D)(h:xs.length+ys.length<=100000):dX (.tup xs) (.tup ys)=some (.tup (xs++ys)):=by
 show(if small (xs.length+ys.length)then some (D.tup (xs++ys))else none)=_;rw[bW h];rfl
theorem gU(xs:List D)(lo hi:bP):lD (.lst xs) lo hi=some (.lst (cutD xs lo hi)):=nr rfl
theorem gL(xs:List D)(lo hi:bP):lD (.tup xs) lo hi=some (.tup (cutD xs lo hi)):=nr rfl
theorem dG{ix:c7}{G:aL}{g:GF}{C:aZ}{Fe:FX}{ρ:af}{ds r:List D}(h1:G ρ=.ok ds)(h2:ds.length<=100000)(h3:qH (inB ix ρ) g C Fe ds=.ok r):fP ix G g C Fe ρ=.ok (.lst r):=by
 unfold fP;rw[h1,dH,bW h2,h3];rfl
theorem fA{α:Type}{ρ:af}{g:GF}{C:aZ}{Fe:FX}(mk:α->D)(p:α->Bool)(v:α->D):∀xs:List α,(∀a∈xs,∃ρ1,g (mk a) ρ=some ρ1/\C ρ1=.ok (p a)/\Fe ρ1=.ok (v a))->
  qH ρ g C Fe (xs.map mk)=.ok ((xs.filter p).map v)
 |[],_=>rfl
 |a::xs,h=>by
  obtain⟨ρ1,h1,h2,h3⟩:=h a G9;rw[HF,kN,h1,de,dH,h2,eT,dH,h3,eT,dH,fA mk p v xs λb hb=>h b (Ha _ hb)];cases e:p a with
  |true=>rw[if_pos rfl,IE e];rfl
  |false=>rw[if_neg Hg,IG (by simp[e])]
theorem oC{α:Type}{ρ:af}{g:GF}{C:aZ}{Fe:FX}(mk:α->D)(v:α->D)(xs:List α)(h:∀a∈xs,∃ρ1,g (mk a) ρ=some ρ1/\C ρ1=.ok true/\Fe ρ1=.ok (v a)):qH ρ g C Fe (xs.map mk)=.ok (xs.map v):=by
 rw[fA mk (λ_=>true) v xs h,List.filter_eq_self.mpr λ_ _=>rfl]
theorem lx{ρ:af}{g:GF}{C:aZ}{Fe:FX}(P:D->Prop):∀ds:List D,(∀d∈ds,∃ρ1 v,g d ρ=some ρ1/\C ρ1=.ok true/\Fe ρ1=.ok v/\P v)->∃vs:List D,vs.length=ds.length/\(∀v∈vs,P v)/\qH ρ g C Fe ds=.ok vs
 |[],_=>⟨[],rfl,(λ_ h=>nomatch h),rfl⟩
 |d::ds,h=>by
  obtain⟨ρ1,w,h1,h2,h3,h4⟩:=h d G9;obtain⟨ws,e1,e2,e3⟩:=lx P ds λd' hd=>h d' (Ha _ hd);refine⟨w::ws,by rw[HK,HK,e1],λw' hw=>?_,?_⟩
  ·rcases List.mem_cons.mp hw with z|z
   ·rw[z];exact h4
   ·exact e2 w' z
  ·rw[kN,h1,de,dH,h2,eT,dH,h3,eT,dH,e3];rfl
theorem sA{g:GF}{B:bN}{k:Ks}(Iv:Nat->af->Prop):∀(ds:List D)(i:Nat)(ρ:af),(∀j d ρ (k':Ks),i<=j->ds[j-i]?=some d->Iv j ρ->∃ρ1 ρ2,g d ρ=some ρ1/\Iv (j+1) ρ2/\B k' ρ1=k'.nx ρ2)->Iv i ρ->∃ρ',Iv (i+ds.length) ρ'/\fO g B k ds ρ=k.nx ρ'
 |[],i,ρ,_,h=>⟨ρ,h,rfl⟩
 |d::ds,i,ρ,st,h=>by
  obtain⟨ρ1,ρ2,e1,h2,e2⟩:=st i d ρ ⟨fO g B k ds,k.nx,fO g B k ds,k.ex⟩ (Hi _) (by rw[JI];rfl) h;obtain⟨ρ',h3,e3⟩:=sA (g:=g) (B:=B) (k:=k) Iv ds (i+1) ρ2 (λj d' ρ k' hj hd=>st j d' ρ k' `o (by rw[show j-i=(j-(i+1))+1 by omega,Jw];exact hd)) h2;refine⟨ρ',?_,?_⟩
  ·rw[HK]
   have:i+(ds.length+1)=i+1+ds.length:=(by omega);rw[this];exact h3
  ·show((rO (g d ρ)).bind λρ1=>B ⟨fO g B k ds,k.nx,fO g B k ds,k.ex⟩ ρ1)=_;rw[e1,de,dH,e2];exact e3
theorem oI{g:GF}{B:bN}{k:Ks}{ds:List D}{ρ:af}{Q:R D->Prop}(Iv:Nat->af->Prop)(st:∀i d ρ (k':Ks),ds[i]?=some d->Iv i ρ->∃ρ1 ρ2,g d ρ=some ρ1/\Iv (i+1) ρ2/\B k' ρ1=k'.nx ρ2)(h:Iv 0 ρ)(q:∀ρ',Iv ds.length ρ'->Q (k.nx ρ')):Q (fO g B k ds ρ):=by
 obtain⟨ρ',h1,e⟩:=sA (k:=k) Iv ds 0 ρ (λj d ρ k' _ hd=>st j d ρ k' hd) h;rw[e];rw[IY]at h1;exact q ρ' h1
theorem my{α:Type}{xs:List α}{i:Nat}{a:α}(h:xs[i]?=some a):i<xs.length:=by
 rcases Nat.lt_or_ge i xs.length with z|z
 ·exact z
 ·rw[JO z]at h;cases h
theorem oF{α β:Type}(f:α->β)(xs:List α)(i:Int):iC (xs.map f) i=(iC xs i).map f:=by
 unfold iC;rw[Hx];cases za xs.length i with
 |none=>rfl
 |some j=>simp
theorem lL{α:Type}{xs:List α}{k:Nat}(h:k<xs.length):iC xs (k:Int)=some xs[k]:=by
 unfold iC za;rw[if_pos `o,if_pos `o];simp[h]
theorem tL{α:Type}{xs:List α}{i:Int}(h0:0<=i)(h:i<xs.length):iC xs i=some (xs[i.toNat]'`o):=by
 have e:i=((i.toNat:Nat):Int):=by omega
 conv=>lhs;rw[e]
 exact lL `o
noncomputable def Au:bN:=bg (jb (fB (f2 rT (aa 1) (fL gb (ae (aa 0) ak)))) (cx (f2 bb (aa 0) (aa 1))) cj) (cx (fC (.int 0)))
theorem tJ(ns:List Int)(k:Nat):bz Au 2 2 [.lst (ns.map .int),.int k]=.ok (.int (ns.getD k 0)):=by
 show(if decide ((k:Int)<((ns.map D.int).length:Int))then me (rO (iC (ns.map D.int) (k:Int))) _ _ .ok else .ok (.int 0))=_;rw[Hx];by_cases h:k<ns.length
 ·rw[if_pos (by simpa using h),oF,lL h,Option.map_some,Jp,Ia h];rfl
 ·rw[if_neg (by simpa using h),Jp,JO `o];rfl
theorem Aa(x y:Str):(x++y).length=x.length+y.length:=by
 show(x.cps++y.cps).size=_;rw[Array.size_append];rfl
theorem x8(x y:Str)(h:x.length<=1000)(h':y.length<=1000):dX (.str x) (.str y)=some (.str (x++y)):=by
 show(if small (x.length+y.length)then some (D.str (x++y))else none)=_;rw[bW `o];rfl
theorem se(x:Str)(h:x.length<=1000)(i:Int)(h0:0<=i)(h1:i<x.length):∃y:Str,y.length=1/\bb (.str x) (.int i)=some (.str y):=by
 have hl:x.cps.toList.length=x.length:=by simp[Str.length]
 have hi:i<x.cps.toList.length:=by omega
 refine⟨⟨#[x.cps.toList[i.toNat]'`o]⟩,rfl,?_⟩;show(if small x.length then(iC x.cps.toList i).bind λc=>some (D.str ⟨#[c]⟩)else none)=_;rw[bW `o,if_pos rfl,tL h0 hi];rfl
theorem iB{lo:Int}{n:Nat}{d:D}(h:d∈bi lo n):∃k:Nat,k<n/\d=.int (lo+k):=by
 unfold bi at h;obtain⟨k,h1,h2⟩:=List.mem_map.mp h;exact⟨k,List.mem_range.mp h1,h2.symm⟩
theorem cm(lo:Int)(n:Nat):(bi lo n).length=n:=by unfold bi;rw[Hx,Il]
theorem zc{α β:Type}(f:α->β)(xs:List α)(lo hi:bP):cutD (xs.map f) lo hi=(cutD xs lo hi).map f:=by
 unfold cutD;rw[Hx,<-Jz,<-Jy]
theorem CN{α:Type}(xs:List α)(m:Nat):cutD xs none (some (m:Int))=xs.take m:=by
 unfold cutD;rw[HT.Dn,HT.Ez,HY,Im];rcases Nat.le_total m xs.length with h|h
 ·rw[Nat.min_eq_left h]
 ·rw[Nat.min_eq_right h,IL h,IL (Hi _)]
theorem dE(q:ay):cG (.tup (q.map ax))=some q:=bV q
theorem C7(n:Nat)(c:aZ)(B:bN)(k:Ks)(ρ:af):oA n c B k ρ=cB c B k n ρ:=nr rfl
theorem Bc(c:aZ)(B:bN)(k:Ks)(n:Nat)(ρ:af):cB c B k (n+1) ρ=me (c ρ) k ρ λb=>if b then B ⟨cB c B k n,k.nx,cB c B k n,k.ex⟩ ρ else k.nx ρ:=nr rfl
local macro_rules
 |`(tactic| simp! only[$xs,*])=>`(tactic| simp only[dH,mB,m7,nF,eT,de,ge_0,uF,js,uf,jP,gI,jj,jl,t7,uw,t6,ud,uh,je,jD,mI,eQ,gY,jK,gE,ni,jv,jR,gF,jM,eO,jN,eY,eU,dr,dy,jS,gM,dq,hU,dZ,hV,gZ,hJ,gX,eF,jd,gV,eZ,g9,gQ,gO,vk,nH,va,vi,tW,jT,g8,jk,gP,g7,uX,uD,JU,JV,HF,HE,HW,Ih,K0,env0,List.replicate,JW,Hl,IY,Nat.reduceAdd,Nat.reduceSub,HK,HL,jF,jL,mX,ju,jh,jp,dm,jm,nB,mi,mU,jO,eW,eE,d8,d7,eS,ez,lq,nS,m8,ir,iZ,lr,eD,eB,cO,cK,jB,du,cM,cN,cV,jG,jy,cJ,cI,dY,eX,ic,ie,d9,ig,jI,jQ,gU,gL,gN,if_true,if_false,IJ,II,HS,$xs,*])
theorem Gn:fS []=some (.tup []):=nr rfl
theorem EV(a:D):iN [a]=some (.lst [a]):=nr rfl
theorem F6(a b:D):iN [a,b]=some (.lst [a,b]):=nr rfl
inductive F2{α β:Type}(R:α->β->Prop):List α->List β->Prop where
 |nil:F2 R [] []
 |cons {a:α} {b:β} {as:List α} {bs:List β} (h:R a b) (t:F2 R as bs):F2 R (a::as) (b::bs)
end TG
namespace TD
open PySem PySem.Spec L2 TG TX
noncomputable def aW:bN:=bg (jb (fB (f2 rT (aa 1) (fL gb (ae (aa 0) ak)))) (cx (f2 bb (aa 0) (aa 1))) cj) (cx (fC (.int 0)))
end TD
namespace TD
open PySem PySem.Spec L2 TG
local macro_rules
 |`(tactic| simp! only[$xs,*])=>`(tactic| simp only[dH,mB,m7,nF,eT,de,ge_0,uF,js,uf,jP,gI,jj,jl,t7,uw,t6,ud,uh,je,jD,mI,eQ,gY,jK,gE,ni,jv,jR,gF,jM,eO,jN,eY,eU,dr,dy,jS,gM,dq,hU,dZ,hV,gZ,hJ,gX,eF,jd,gV,eZ,g9,gQ,gO,vk,nH,va,vi,tW,jT,g8,jk,gP,g7,uX,uD,JU,JV,HF,HE,HW,Ih,K0,env0,List.replicate,JW,Hl,IY,Nat.reduceAdd,Nat.reduceSub,HK,HL,jF,jL,mX,ju,jh,jp,dm,jm,nB,mi,mU,jO,eW,eE,d8,d7,eS,ez,lq,nS,m8,ir,iZ,lr,eD,eB,cO,cK,jB,du,cM,cN,cV,jG,jy,cJ,cI,dY,eX,ic,ie,d9,ig,jI,jQ,gU,gL,gN,if_true,if_false,IJ,II,HS,$xs,*])
local macro_rules
 |`(tactic| simp! only[$xs,*])=>`(tactic| simp only[dH,mB,m7,nF,eT,de,ge_0,uF,js,uf,jP,gI,jj,jl,t7,uw,t6,ud,uh,je,jD,mI,eQ,gY,jK,gE,ni,jv,jR,gF,jM,eO,jN,eY,eU,dr,dy,jS,gM,dq,hU,dZ,hV,gZ,hJ,gX,eF,jd,gV,eZ,g9,gQ,gO,vk,nH,va,vi,tW,jT,g8,jk,gP,g7,uX,uD,JU,JV,HF,HE,HW,Ih,K0,env0,List.replicate,JW,Hl,IY,Nat.reduceAdd,Nat.reduceSub,HK,HL,jF,jL,mX,ju,jh,jp,dm,jm,nB,mi,mU,jO,eW,eE,d8,d7,eS,ez,lq,nS,m8,ir,iZ,lr,eD,eB,cO,cK,jB,du,cM,cN,cV,jG,jy,cJ,cI,dY,eX,ic,ie,d9,ig,jI,jQ,gU,gL,gN,if_true,if_false,IJ,II,HS,$xs,*])
end TD
namespace T4
open PySem PySem.Spec L2 TG TD
local macro_rules
 |`(tactic| simp! only[$xs,*])=>`(tactic| simp only[dH,mB,m7,nF,eT,de,ge_0,uF,js,uf,jP,gI,jj,jl,t7,uw,t6,ud,uh,je,jD,mI,eQ,gY,jK,gE,ni,jv,jR,gF,jM,eO,jN,eY,eU,dr,dy,jS,gM,dq,hU,dZ,hV,gZ,hJ,gX,eF,jd,gV,eZ,g9,gQ,gO,vk,nH,va,vi,tW,jT,g8,jk,gP,g7,uX,uD,JU,JV,HF,HE,HW,Ih,K0,env0,List.replicate,JW,Hl,IY,Nat.reduceAdd,Nat.reduceSub,HK,HL,jF,jL,mX,ju,jh,jp,dm,jm,nB,mi,mU,jO,eW,eE,d8,d7,eS,ez,lq,nS,m8,ir,iZ,lr,eD,eB,cO,cK,jB,du,cM,cN,cV,jG,jy,cJ,cI,dY,eX,ic,ie,d9,ig,jI,jQ,gU,gL,gN,if_true,if_false,IJ,II,HS,$xs,*])
local macro_rules
 |`(tactic| simp! only[$xs,*])=>`(tactic| simp only[dH,mB,m7,nF,eT,de,ge_0,uF,js,uf,jP,gI,jj,jl,t7,uw,t6,ud,uh,je,jD,mI,eQ,gY,jK,gE,ni,jv,jR,gF,jM,eO,jN,eY,eU,dr,dy,jS,gM,dq,hU,dZ,hV,gZ,hJ,gX,eF,jd,gV,eZ,g9,gQ,gO,vk,nH,va,vi,tW,jT,g8,jk,gP,g7,uX,uD,JU,JV,HF,HE,HW,Ih,K0,env0,List.replicate,JW,Hl,IY,Nat.reduceAdd,Nat.reduceSub,HK,HL,jF,jL,mX,ju,jh,jp,dm,jm,nB,mi,mU,jO,eW,eE,d8,d7,eS,ez,lq,nS,m8,ir,iZ,lr,eD,eB,cO,cK,jB,du,cM,cN,cV,jG,jy,cJ,cI,dY,eX,ic,ie,d9,ig,jI,jQ,gU,gL,gN,if_true,if_false,IJ,II,HS,$xs,*])
theorem pZ:∀{p q:ay},p.map ax=q.map ax->p=q:=λ{p q} h=>by
 have:=congrArg keysOf h
 rw[bV,bV]at this;exact Option.some.inj this
section
open Classical
variable(m:Nat)
noncomputable def Gx(acc:List (List D))(r:List D):List (List D):=if r.take m∈acc then acc else acc++[r.take m]
noncomputable def fs(t:List (List D)):List (List D):=t.foldl (Gx m) []
noncomputable def gp(t:List (List D))(f:List D):List (List D):=(t.filter λr=>decide (r.take m=f)).map (List.drop m)
noncomputable def flat(t:List (List D)):List (List D):=(fs m t).flatMap λf=>(gp m t f).map (f++·)
end
open Classical in
theorem mS(al:bo)(q:ay)(v:D):(cQ al q v).map (·.1)=if q∈al.map (·.1)then al.map (·.1)else al.map (·.1)++[q]:=by
 have e:(al.any λp=>decide (p.1=q))=true↔q∈al.map (·.1):=by
  rw[JT,JN];simp only[decide_eq_true_eq]
 unfold cQ;by_cases h:q∈al.map (·.1)
 ·rw[if_pos (e.mpr h),if_pos h,Jq];refine Ii λp _=>?_;show(if p.1=q then(p.1,v)else p).1=p.1;split<;>rfl
 ·rw[if_neg λz=>h (e.mp z),if_neg h,Ij];rfl
theorem qo{al:bo}{q:ay}{v:D}{p:List Key×D}(h:p∈cQ al q v):p∈al\/p=(q,v):=by
 unfold cQ at h;split at h
 ·obtain⟨a,ha,e⟩:=List.mem_map.mp h;by_cases z:a.1=q
  ·rw[if_pos z]at e;exact .inr (by rw[<-e,z])
  ·rw[if_neg z]at e;exact .inl (by rw[<-e];exact ha)
 ·rcases List.mem_append.mp h with z|z
  ·exact .inl z
  ·exact .inr (List.mem_singleton.mp z)
theorem yw{al:bo}(q:ay)(v:D)(h:(al.map (·.1)).Nodup):((cQ al q v).map (·.1)).Nodup:=by
 rw[mS];split
 ·exact h
 ·rename_i z;exact List.nodup_append.mpr ⟨h,by simp,λa ha b hb e=>by
   rw[List.mem_singleton.mp hb]at e;rw[e]at ha;exact z ha⟩
theorem vD(al:bo)(q:ay)(v:D):(cQ al q v).length<=al.length+1:=by
 have:=congrArg List.length (mS al q v)
 rw[Hx]at this;rw[this];split<;>simp
theorem sv(al:bo):o5 (encK al) (al.map (·.2))=some al:=by
 cases al with
 |nil=>rfl
 |cons p al=>exact dD (p::al)
theorem pf(al:bo):dP [aT al]=some (.lst (encK al)):=by
 show(o5 (encK al) (al.map (·.2))).bind _=_;rw[sv];rfl
end T4
namespace Tk10
open PySem PySem.Spec L2 TG TX TD
noncomputable def top(i:Nat):KL:=PySem.Challenge.pw_twoglass_k10_changes_of_two_tables.main.body.getD i (.Pass ⟨0,0,0,0⟩)
noncomputable def bM:bN:=bg (jb (yi (lQ (dU (qi "tuple" (aa 0)))) (fB (f2 ka (fL gb (ae (aa 0) ak)) (fL gb (ae (aa 1) ak))))) (cx (fC (.bl false))) cj) (bg (vh (b6 (ae (fL gb (ae (aa 1) ak)) ak)) (gN 2) (bg (jb (yi (lQ (dU (qi "tuple" (f2 bb (aa 0) (aa 2))))) (yi (fB (f2 ka (fL gb (ae (f2 bb (aa 0) (aa 2)) ak)) (fC (.int 3)))) (fB (f2 ka (f2 bb (aa 0) (aa 2)) (f2 bb (aa 1) (aa 2)))))) (cx (fC (.bl false))) cj) (bg (jb (lQ (dU (qi "tuple" (f2 bb (f2 bb (aa 0) (aa 2)) (fC (.int 0)))))) (cx (fC (.bl false))) cj) (fQ [2] cj)))) (cx (fC (.bl true))))
noncomputable def ck:bN:=bg (pN 2 (j7 ak)) (bg (vh (cT (fL dM (ae (f2 dX (fL dP (ae (aa 0) ak)) (fP [none,some 0] (ja (aa 1)) (gN 0) (fB (f2 cf (aa 0) (aa 1))) (aa 0))) ak))) (gN 3) (bg (jb (fB (f2 cf (aa 3) (aa 0))) (sO 2 i9 (ae (dj (ae (aa 3) (ae (fC .non) (ae (f2 dg (aa 1) (aa 3)) ak)))) ak)) (jb (fB (f2 cf (aa 3) (aa 1))) (sO 2 i9 (ae (dj (ae (aa 3) (ae (f2 dg (aa 0) (aa 3)) (ae (fC .non) ak)))) ak)) (jb (fB (f2 ka (f2 dg (aa 0) (aa 3)) (f2 dg (aa 1) (aa 3)))) (sO 2 i9 (ae (dj (ae (aa 3) (ae (f2 dg (aa 0) (aa 3)) (ae (f2 dg (aa 1) (aa 3)) ak)))) ak)) cj))) (fQ [3] cj))) (yZ 2 (cx (aa 2))))
noncomputable def eJ:bN:=cx (fL dW (ae (fP [none] (cT (aa 0)) (gN 0) (fB (f2 ka (f2 bb (aa 0) (fC (.int 1))) (f2 bb (aa 0) (fC (.int 2))))) (aa 0)) ak))
noncomputable def fg:bN:=cx (fL fZ (ae (fP [none,some 0] (cT (aa 1)) (gN 0) ca (dj (ae (jC (aa 0) i6 (kR (aa 1))) (ae (aa 0) ak)))) ak))
noncomputable def bI:bN:=bg (cq 3 (fR (bz fg 2 2) (ae (aa 0) (ae (aa 1) ak)))) (bg (cq 4 (fR (bz fg 2 2) (ae (aa 0) (ae (aa 2) ak)))) (bg (cq 5 (f1 eK (f2 dX (fL dP (ae (aa 3) ak)) (fL dP (ae (aa 4) ak))))) (cx (fR (bz eJ 1 1) (ae (fP [none,some 3,some 4] (cT (aa 5)) (gN 0) ca (dj (ae (aa 0) (ae (fV (aa 1) (aa 0)) (ae (fV (aa 2) (aa 0)) ak))))) ak)))))
noncomputable def bZ:bN:=cx (fL dW (ae (fP [none,some 0] (cT (fL dM (ae (fL dP (ae (aa 0) ak)) ak))) (gN 0) ca (f2 dg (aa 1) (aa 0))) ak))
noncomputable def bK:bN:=bg (cq 2 (fC (.str "abcdefghijklmnopqrstuvwxyz"))) (bg (cq 3 (f2 bb (aa 2) (f2 bU (aa 1) (fC (.int 26))))) (bg (cq 4 (f2 bb (aa 2) (f2 bU (f2 dX (f2 dX (aa 1) (fC (.int 1))) (f2 bU (f2 c6 (aa 1) (fC (.int 26))) (fC (.int 25)))) (fC (.int 26))))) (bg (cq 5 (fC (.str ""))) (bg (cq 0 (f2 dX (aa 0) (fC (.int 1)))) (fQ [1,2] (bg (oA 200 (fB (f2 By (aa 0) (fC (.int 1)))) (bg (cq 5 (f2 dX (f2 bb (j7 (ae (aa 3) (ae (aa 4) ak))) (f2 bU (aa 0) (fC (.int 2)))) (aa 5))) (cq 0 (f2 c6 (aa 0) (fC (.int 2)))))) (cx (aa 5))))))))
noncomputable def aF:bN:=bg (jb (fB (f2 uU (aa 0) (fC (.int 0)))) (cx (f2 dX (f2 j6 (f2 CG (f2 j6 (aa 1) (fC (.int 7919))) (f2 j6 (fC (.int 5)) (fC (.int 7919)))) (f2 bb (j7 (ae (fC (.int 1)) (ae (vE (fC (.int 1))) (ae (f2 o8 (fC (.int 10)) (fC (.int 54))) (ae (vE (f2 o8 (fC (.int 10)) (fC (.int 54)))) ak))))) (f2 bU (aa 2) (fC (.int 4))))) (f2 bU (f2 c6 (aa 2) (fC (.int 4))) (f2 o8 (fC (.int 10)) (fC (.int 50)))))) cj) (bg (jb (fB (f2 uU (aa 0) (fC (.int 1)))) (cx (fR (bz bK 2 6) (ae (aa 1) (ae (aa 2) ak)))) cj) (cx (fL dW (ae (fP [none,some 2] (b6 (ae (f2 bU (aa 1) (fC (.int 4))) ak)) (gN 0) ca (dj (ae (aa 0) (ae (fR (bz bK 2 6) (ae (aa 0) (ae (aa 1) ak))) ak)))) ak))))
noncomputable def bF:bN:=bg (cq 3 (j7 (ae (aa 0) ak))) (bg (jb (fB (f2 By (aa 1) (fC (.int 1)))) (cq 3 (j7 (ae (f2 bU (aa 0) (fC (.int 3))) (ae (f2 c6 (aa 0) (fC (.int 3))) ak)))) cj) (bg (jb (fB (f2 By (aa 1) (fC (.int 2)))) (cq 3 (j7 (ae (f2 bU (aa 0) (fC (.int 2))) (ae (f2 bU (f2 c6 (aa 0) (fC (.int 2))) (fC (.int 3))) (ae (f2 c6 (aa 0) (fC (.int 6))) ak))))) cj) (cx (fL dW (ae (fP [none,some 2,some 3] (b6 (ae (aa 1) ak)) (gN 0) ca (fR (bz aF 3 3) (ae (f2 bU (f2 c6 (aa 1) (f2 dX (aa 0) (fC (.int 2)))) (fC (.int 2))) (ae (f2 bb (aa 2) (aa 0)) (ae (aa 1) ak))))) ak)))))
noncomputable def cu:bN:=cx (f2 dX (fR (bz bF 3 4) (ae (aa 0) (ae (aa 2) (ae (aa 4) ak)))) (fL dW (ae (fP [none,some 4,some 1] (b6 (ae (aa 3) ak)) (gN 0) ca (fR (bz aF 3 3) (ae (f2 bU (f2 dX (f2 c6 (aa 1) (fC (.int 7))) (aa 0)) (fC (.int 3))) (ae (aa 2) (ae (aa 1) ak))))) ak)))
noncomputable def bE:bN:=bg (gu 4 (b6 (ae (aa 3) ak))) (bg (cq 5 (f2 c6 (fR (bz aW 2 2) (ae (aa 0) (ae (fC (.int 0)) ak))) (fC (.int 16)))) (bg (vh (cT (jC (aa 0) (kR (fC (.int 1))) (kR (fC (.int 241))))) (gN 6) (bg (cq 7 (f2 bU (f2 c6 (aa 6) (aa 3)) (fC (.int 20)))) (bg (cq 8 (fR (bz bF 3 4) (ae (aa 7) (ae (aa 1) (ae (aa 5) ak))))) (bg (jb (fB (f2 uU (f2 bU (f2 c6 (aa 6) (f2 j6 (fC (.int 20)) (aa 3))) (fC (.int 4))) (fC (.int 0)))) (fN 4 gq (f2 bU (aa 6) (aa 3)) (aa 8) (fC .non)) (fN 4 f6 (f2 bU (aa 6) (aa 3)) (aa 8) (fR (bz cu 5 5) (ae (aa 7) (ae (f2 bU (f2 c6 (aa 6) (f2 j6 (fC (.int 80)) (aa 3))) (fC (.int 5))) (ae (aa 1) (ae (aa 2) (ae (aa 5) ak)))))))) (fQ [6,7,8] cj))))) (jf 4 (cx (aa 4)))))
noncomputable def jW:bN:=bg (cq 1 (f2 dX (fC (.int 1)) (f2 bU (fR (bz aW 2 2) (ae (aa 0) (ae (fC (.int 0)) ak))) (fC (.int 3))))) (bg (cq 2 (f2 bU (f2 c6 (fR (bz aW 2 2) (ae (aa 0) (ae (fC (.int 0)) ak))) (fC (.int 3))) (fC (.int 4)))) (bg (zp (fR (bz bE 4 9) (ae (aa 0) (ae (aa 1) (ae (aa 2) (ae (fC (.int 2)) ak))))) (EB 2 (wv [3,4]))) (bg (cq 5 (dj (ae (fR (bz bZ 1 1) (ae (aa 3) ak)) (ae (fR (bz bZ 1 1) (ae (aa 4) ak)) ak)))) (bg (jb (lQ (dU (fR (bz bM 2 3) (ae (fR (bz bI 3 6) (ae (aa 1) (ae (f2 bb (aa 5) (fC (.int 0))) (ae (f2 bb (aa 5) (fC (.int 1))) ak)))) (ae (fR (bz ck 2 4) (ae (aa 3) (ae (aa 4) ak))) ak))))) (cx (fC (.bl false))) cj) (bg (jb (lQ (dU (fR (bz bM 2 3) (ae (fR (bz bI 3 6) (ae (aa 1) (ae (f2 bb (aa 5) (fC (.int 1))) (ae (f2 bb (aa 5) (fC (.int 0))) ak)))) (ae (fR (bz ck 2 4) (ae (aa 4) (ae (aa 3) ak))) ak))))) (cx (fC (.bl false))) cj) (bg (jb (yi (fB (f2 ka (fR (bz bI 3 6) (ae (aa 1) (ae (f2 bb (aa 5) (fC (.int 0))) (ae (f2 bb (aa 5) (fC (.int 0))) ak)))) (dj ak))) (fB (f2 ka (fR (bz bI 3 6) (ae (aa 1) (ae (dj ak) (ae (dj ak) ak)))) (dj ak)))) (cx (fC (.bl false))) cj) (cx (fR (bz bM 2 3) (ae (fR (bz bI 3 6) (ae (aa 1) (ae (f2 bb (aa 5) (fC (.int 0))) (ae (f2 bb (aa 5) (fC (.int 1))) ak)))) (ae (fR (bz ck 2 4) (ae (aa 3) (ae (aa 4) ak))) ak))))))))))
set_option hygiene false
local macro_rules|`(tactic|ktr_call $p $e)=>`(tactic|((with_reducible show $p);refine $e))
local macro_rules|`(tactic|walk_at "A")=>`(tactic|first|ktr_call (lW _ _ (bg _ _)) (um ?_ ?_)|ktr_call (lW _ _ (fQ _ _)) (uT _ ?_)|ktr_call (lW _ _ (yZ _ _)) (wL _ ?_)|ktr_call (lW _ _ (jf _ _)) (qX _ ?_)|ktr_call (lW _ _ cj) vM|refine wj ?_)
local macro_rules|`(tactic|walk_at "B")=>`(tactic|first|ktr_call (XS _ _ (cq _ (fP _ _ _ _ _))) (GX (by first|assumption|exact nU rfl) rfl (by first|exact gJ rfl|exact fw rfl) ?_ ?_)|ktr_call (XS _ _ (cq _ _)) (xs _ (by first|assumption|exact nU rfl) ?_)|ktr_call (XS _ _ (cx _)) (yI ?_)|ktr_call (XS _ _ (jb _ _ _)) (Cp ?_ ?_ ?_)|ktr_call (XS _ _ cj) xu|ktr_call (XS _ _ cj) zu|ktr_call (XS _ _ (vh _ _ _)) (yH hp rfl ?_ ?_ ?_)|ktr_call (XS _ _ (sO _ i9 _)) (BJ PySem.F.slot_list_append PySem.F.type_list_append mY vc (xv _) ?_)|ktr_call (XS _ _ (fN _ f6 _ _ _)) (vb hr.units (xv _) ?_ ?_ ?_ (fun _ _=>rfl))|ktr_call (XS _ _ (fN _ gq _ _ _)) (uA hr.units (xv _) ?_ ?_ ?_ (fun _ _=>rfl))|ktr_call (XS _ _ (zp _ _)) (ym ?_ ?_)|ktr_call (XS _ _ (oA _ _ _)) (ug _ hp ?_ ?_)|ktr_call (XS _ _ (pN _ (fP _ _ _ _ _))) (GD (by first|assumption|exact nU rfl) rfl (by first|exact gJ rfl|exact fw rfl) ?_ ?_)|ktr_call (XS _ _ (pN _ _)) (zE (by first|assumption|exact nU rfl) rfl (by first|exact Or.inl rfl|exact Or.inr rfl) ?_)|ktr_call (XS _ _ (gu _ _)) (GW (by first|assumption|exact nU rfl) rfl ?_ (fun _ _ _ _ _ _=>?_)))
local macro_rules|`(tactic|walk_at "C")=>`(tactic|first|ktr_call (XT _ _ (fB (f2 ka _ _))) (iQ (yd hr.units) bQ ?_ ?_ (gz _))|ktr_call (XT _ _ (lQ _)) (yo ?_)|ktr_call (XT _ _ (dU _)) (uG ?_)|ktr_call (XT _ _ (yi _ _)) (GB ?_)|ktr_call (XT _ _ (fB (f2 uU _ _))) (iQ (yg hr.units) bQ ?_ ?_ (gz _))|ktr_call (XT _ _ (fB (f2 By _ _))) (iQ AD nu ?_ ?_ (gz _))|ktr_call (XT _ _ (fB (f2 cf _ _))) (iQ (nc hr.units) bQ ?_ ?_ rfl)|ktr_call (XT _ _ (fB (f2 rT _ _))) (iQ (wq hr.units) bQ ?_ ?_ (gz _)))
local macro_rules|`(tactic|walk_at "F")=>`(tactic|first|ktr_call (XI _ _ _ (cT _)) (y9 ?_)|ktr_call (XI _ _ _ (b6 _)) (rP rfl (by walk_at "a") ?_)|ktr_call (XI _ _ _ (ja _)) (wI ?_))
local macro_rules|`(tactic|walk_at "L")=>`(tactic|first|ktr_call (XN _ _ (j7 _)) (zv ?_)|ktr_call (XN _ _ (fP _ _ _ _ _)) (GO rfl (by first|exact gJ rfl|exact fw rfl) ?_ ?_)|ktr_call (XN _ _ (fL fZ _)) (vO rfl hr.units rfl (by walk_at "a") Kr ?_))
local macro_rules|`(tactic|walk_at "M")=>`(tactic|first|ktr_call (XE _ _ (aa _)) (xw _)|ktr_call (XE _ _ (fC .non)) yr|ktr_call (XE _ _ (fC (.int _))) z8|ktr_call (XE _ _ (fR _ _)) (rH (by walk_at "a") (by first|exact Ce|walk_at "a") hr ‹0› ?_)|ktr_call (XE _ _ (f2 bb _ _)) (xi ?_ ?_)|ktr_call (XE _ _ (f2 bU _ _)) (hZ BM C4 ?_ ?_)|ktr_call (XE _ _ (f2 c6 _ _)) (hZ vB B9 ?_ ?_)|ktr_call (XE _ _ (dj _)) (y8 ?_)|ktr_call (XE _ _ (f2 dX _ _)) (hZ Ac bQ ?_ ?_)|ktr_call (XE _ _ (fP _ _ _ _ _)) (xl rfl (by first|exact gJ rfl|exact fw rfl) ?_ ?_)|ktr_call (XE _ _ (fC (.bl _))) BA|ktr_call (XE _ _ (f2 ka _ _)) (i5 (yd hr.units) bQ ?_ ?_ (gz _))|ktr_call (XE _ _ (f2 dg _ _)) (zm hr.units ?_ ?_ (fun _ _=>rfl))|ktr_call (XE _ _ (j7 _)) (Ag ?_)|ktr_call (XE _ _ (f2 j6 _ _)) (hZ BO BR ?_ ?_)|ktr_call (XE _ _ (fL dW _)) (iA qz rfl (by walk_at "a") Kt ?_)|ktr_call (XE _ _ (fL gb _)) (mQ uL rfl (by walk_at "a") PySem.boot_len ?_)|ktr_call (XE _ _ (fL dP _)) (iA (qL rfl) rfl (by walk_at "a") PyProof.Rows.boot_list ?_)|ktr_call (XE _ _ (f2 o8 _ _)) (hZ B3 BV ?_ ?_)|ktr_call (XE _ _ (f2 uU _ _)) (i5 (yg hr.units) bQ ?_ ?_ (gz _))|ktr_call (XE _ _ (f2 By _ _)) (i5 AD nu ?_ ?_ (gz _))|ktr_call (XE _ _ (f2 cf _ _)) (i5 (nc hr.units) bQ ?_ ?_ rfl)|ktr_call (XE _ _ (qi "tuple" _)) (Ab qQ rfl (by walk_at "a") rfl (by walk_at "a") Kt ?_)|ktr_call (XE _ _ (fC (.str _))) yG|ktr_call (XE _ _ (vE _)) (yJ ?_)|ktr_call (XE _ _ (jC _ _ _)) (u9 ?_ ?_ ?_)|ktr_call (XE _ _ (fL dM _)) (mQ oS rfl (by walk_at "a") iL ?_)|ktr_call (XE _ _ (fV _ _)) (uE hr.units ?_ ?_)|ktr_call (XE _ _ (f2 CG _ _)) (hZ Bu BK ?_ ?_)|ktr_call (XE _ _ (f1 eK _)) (pE rfl hr.units rfl (by walk_at "a") rfl (by walk_at "a") ?_)|ktr_call (XE _ _ (fL fZ _)) (iA (rB rfl hr.units) rfl (by walk_at "a") Kr ?_)|ktr_call (XE _ _ (f2 rT _ _)) (i5 (wq hr.units) bQ ?_ ?_ (gz _)))
local macro_rules|`(tactic|walk_at "d")=>`(tactic|((first|((with_reducible show XE _ _ _);walk_at "M")|((with_reducible show XA _ _ _);first|ktr_call (XA _ _ (ae _ _)) (xr ?_ ?_)|ktr_call (XA _ _ ak) zn)|((with_reducible show XS _ _ _);walk_at "B")|((with_reducible show lW _ _ _);walk_at "A")|((with_reducible show XT _ _ _);walk_at "C")|((with_reducible show XI _ _ _ _);walk_at "F")|((with_reducible show XW _ _ _);first|ktr_call (XW _ _ (yi _ _)) (C3 ?_ ?_)|refine yQ ?_)|((with_reducible show XG _ _ _);first|ktr_call (XG _ _ (gN _)) (vz (by first|assumption|exact nU rfl) rfl (by first|exact Or.inl rfl|exact Or.inr rfl))|ktr_call (XG _ _ (EB _ _)) (wc rfl ?_))|((with_reducible show BW _ _ _);first|ktr_call (BW _ _ (wv (_ :: _))) (uR ?_ ?_)|ktr_call (BW _ _ (wv [])) w8)|((with_reducible show XO _ _ _);first|ktr_call (XO _ _ i6) wM|ktr_call (XO _ _ (kR _)) (vy ?_))|((with_reducible show Dh _ _ _);first|ktr_call (Dh _ _ ca) v7|refine ww ?_)|((with_reducible show lY _ _ _ _ _ _ _ _ _);first|refine ⟨fun _ _ _ _ _ _=>⟨?_, ?_, ?_⟩⟩)|((with_reducible show XN _ _ _);walk_at "L"))<;>walk_at "d"))
local macro_rules | `(tactic| walk_at "a") => `(tactic| first | assumption | exact q.2 | exact q.1.2 | exact q.1.1.2 | exact q.1.1.1.2 | exact q.1.1.1.1.2 | exact q.1.1.1.1.1.2 | exact q.1.1.1.1.1.1.2 | exact q.1.1.1.1.1.1.1.2 | (replace q := q.1.1.1.1.1.1.1.1; walk_at "a") | exact q.1 | exact q.1.1 | exact q.1.1.1 | exact q.1.1.1.1 | exact q.1.1.1.1.1 | exact q.1.1.1.1.1.1 | exact q.1.1.1.1.1.1.1)
local macro_rules | `(tactic| walk_at "b") => `(tactic| (intro us hl _ _ _ _ _ _; first | (obtain ⟨a, rfl⟩ := DR hl; rfl) | (obtain ⟨a, b, rfl⟩ := Du hl; rfl) | (obtain ⟨a, b, c, rfl⟩ := DV hl; rfl) | (obtain ⟨a, b, c, d, rfl⟩ := En hl; rfl) | (obtain ⟨a, b, c, d, e, rfl⟩ := Gc hl; rfl)))
local macro_rules | `(tactic| walk_at "m") => `(tactic| ((· walk_at "a"); (· walk_at "b"); (· exact ⟨rfl, rfl, rfl, by decide +kernel, rfl, by decide +kernel, by decide +kernel⟩); first | refine fun nd f => ⟨fun cdv A outer s H E hr hp => ?_⟩ | intro nd f A outer s H E hr hp))
local macro_rules | `(tactic| ktn_call $m $b:ident) => `(tactic| (apply GN $m; walk_at "m"; unfold $b; walk_at "d"))
section
variable{u:U}
noncomputable def Q0(u:U):Prop:=(FR u (Zs u ["isinstance","tuple","len","range","sorted","list","dict","set"]) [("_law_right",top 14),("_law_due",top 13),("unlike",top 4),("by_key",top 1),("changes",top 3),("_law_table",top 12),("_law_word",top 7),("_law_value",top 8),("_law_key",top 9),("_law_row",top 10),("_law_cell_at",top 6),("_law_tables",top 11)])
noncomputable def Q1(u:U):Prop:=Q0 u/\Ca u 1 "_law_right" ["_law_found","_law_due_here"] (bz bM 2 3)
theorem e1(q:Q0 u):Q1 u:=⟨q,(by ktn_call ["_law_k"] bM)⟩
noncomputable def Q2(u:U):Prop:=Q1 u/\Ca u 1 "_law_due" ["_law_old","_law_new"] (bz ck 2 4)
theorem e2(q:Q1 u):Q2 u:=⟨q,(by ktn_call ["_law_due_here","_law_key_here"] ck)⟩
noncomputable def Q3(u:U):Prop:=Q2 u/\Ca u 1 "unlike" ["triples"] (bz eJ 1 1)
theorem e3(q:Q2 u):Q3 u:=⟨q,(by ktn_call [] eJ)⟩
noncomputable def Q4(u:U):Prop:=Q3 u/\Ca u 1 "by_key" ["many","rows"] (bz fg 2 2)
theorem e4(q:Q3 u):Q4 u:=⟨q,(by ktn_call [] fg)⟩
noncomputable def Q5(u:U):Prop:=Q4 u/\Ca u 2 "changes" ["many","old","new"] (bz bI 3 6)
theorem e5(q:Q4 u):Q5 u:=⟨q,(by ktn_call ["before","after","keys"] bI)⟩
noncomputable def Q6(u:U):Prop:=Q5 u/\Ca u 1 "_law_table" ["_law_rows"] (bz bZ 1 1)
theorem e6(q:Q5 u):Q6 u:=⟨q,(by ktn_call [] bZ)⟩
noncomputable def Q7(u:U):Prop:=Q6 u/\Ca u 1 "_law_word" ["_law_d","_law_cell"] (bz bK 2 6)
theorem e7(q:Q6 u):Q7 u:=⟨q,(by ktn_call ["_law_letters","_law_one","_law_other","_law_word_here"] bK)⟩
noncomputable def Q8(u:U):Prop:=Q7 u/\Ca u 2 "_law_value" ["_law_kind","_law_d","_law_cell"] (bz aF 3 3)
theorem e8(q:Q7 u):Q8 u:=⟨q,(by ktn_call [] aF)⟩
noncomputable def Q9(u:U):Prop:=Q8 u/\Ca u 3 "_law_key" ["_law_p","_law_many","_law_cell"] (bz bF 3 4)
theorem e9(q:Q8 u):Q9 u:=⟨q,(by ktn_call ["_law_digits"] bF)⟩
noncomputable def F9(u:U):Prop:=Q9 u/\Ca u 4 "_law_row" ["_law_p","_law_w","_law_many","_law_rest","_law_cell"] (bz cu 5 5)
theorem e10(q:Q9 u):F9 u:=⟨q,(by ktn_call [] cu)⟩
noncomputable def Fk(u:U):Prop:=F9 u/\Ca u 1 "_law_cell_at" ["_law_script","_law_k"] (bz aW 2 2)
theorem FK(q:F9 u):Fk u:=⟨q,(by ktn_call [] aW)⟩
noncomputable def Gu(u:U):Prop:=Fk u/\Ca u 5 "_law_tables" ["_law_script","_law_many","_law_rest","_law_count"] (bz bE 4 9)
theorem GK(q:Fk u):Gu u:=⟨q,(by ktn_call ["_law_rows","_law_cell","_law_one","_law_p","_law_key_here"] bE)⟩
theorem D9{f:KI}{fd:Lp}(F:zg u.K "law" "law" (top 15) f fd)(q:Gu u):j9 u.P u.w u.K u.mg u.base (kI u.P u.w) 6 f fd ["_law_script"] (AA u.K 1 (bz jW 1 6)):=by
 refine GP ["_law_many","_law_rest","_law_old","_law_new","_law_handed"] F ?_ ?_
 ·exact⟨rfl,rfl,rfl,by decide +kernel,rfl,by decide +kernel,by decide +kernel⟩
 refine λnd=>⟨λcdv A outer s H E hr hp=>?_⟩
 unfold jW;walk_at "d"
set_option hygiene true
end
theorem all_mk{l:J6}{w:KO}{K:J1}{h:KR}{mg:cF}{fa:KI}(X:K.In h)(G:h.Ns KU mg)(hfa:mg "law"=some (.ref fa)){f0:KI}
  (a0:J8 K KU "law"=some (some (.ref f0)))
  (l0:Lk K f0 "law" "law" (top 15) oc0 od0 kV0 dc0 pm0 an0 cd0 ct0 sl0)
  (c0:J5 K cd0 "law"=true)
  (k0:J7 K (.ref f0)=true)
  (dd0:KDs K [("_law_right",top 14),("_law_due",top 13),("unlike",top 4),("by_key",top 1),("changes",top 3),("_law_table",top 12),("_law_word",top 7),("_law_value",top 8),("_law_key",top 9),("_law_row",top 10),("_law_cell_at",top 6),("_law_tables",top 11)])
  (zz:KZs K ["isinstance","tuple","len","range","sorted","list","dict","set"]):
  ∃fd:Lp,(∀(s:KN)(v:KG),Lq s fd ⟨[v],[]⟩ [("_law_script",v)])/\∀base:KR,K.In base->base.Ns KU mg->j9 l.prog w K mg base (kI l.prog w) 6 fa fd ["_law_script"] (AA K 1 (bz jW 1 6)):=by
 have e:=hfa.symm.trans (PySem.W.mg_of X G a0);cases e;have F0:=wX (st:=(top 15)) l0 c0 k0;refine⟨J4 "law" "law" (fq (top 15)) (cW (top 15)) (aG (top 15)) .none kV0 dc0 pm0 an0 cd0 ct0,λs v=>.of_eq rfl,λbase _ _=>?_⟩
 let u:U:=⟨l.prog,w,K,mg,base,(0:Nat),(0:Nat)⟩
 have q0:Q0 u:=(FR.of X G (Zs.of X G zz) dd0)
 exact D9 (u:=u) F0 (GK (FK (e10 (e9 (e8 (e7 (e6 (e5 (e4 (e3 (e2 (e1 q0))))))))))))
theorem walk{l:J6}{q:KP}{loose:aK}{XP:(cF)->KR->Prop}{YP:KO->KR->Prop}{d:DefRec}{K:Params->J1}(hn:l.most=some 63)(hdf:d.params.defaults=[])
  (hY:∀(w:KO)(h:KR),YP w h->(K w.params).In h)
  (F:∀ (w:KO) (mg:cF) (fa:KI) (h:KR),(K w.params).In h->h.Ns KU mg->mg d.name=some (.ref fa) ->
   ∃fd:Lp,(∀(s:KN)(u:KG),Lq s fd ⟨[u],[]⟩ [("_law_script",u)])/\∀base:KR,(K w.params).In base->base.Ns KU mg->j9 l.prog w (K w.params) mg base (kI l.prog w) 6 fa fd ["_law_script"] (AA (K w.params) 1 (bz jW 1 6)))
  (math:∀ns:List Int,ns.length<=63->bz jW 1 6 [.lst (ns.map .int)]=.ok (.bl true)):PySem.W.WalkO q loose XP YP l.row.toRowW d [] (λf vs=>PySem.call f vs):=
 L2.EQ (n:=63) (k:=6) (x:="_law_script") (CX:=λw=>kI l.prog w) (sp:=λw=>AA (K w.params) 1 (bz jW 1 6)) hn (by decide) hdf ⟨rfl,by decide,by decide⟩ hY F
  (λw H a ns hl _ hS=>⟨[],[.lst (ns.map .int)],rfl,⟨trivial,λa h=>nomatch h⟩,by rw[yy];exact aI.mpr ⟨.ref a,[],rfl,bn.mpr ⟨a,_,rfl,hS,mw ns⟩,bB.mpr rfl⟩,by rw[math ns hl];exact λv H' _ d=>gf.mp d⟩) λ_ _ _ _ _ z=>by obtain⟨_,_,_,_,_,_,_,_,_,_,_,_,_,_,z⟩:=z;exact z
end Tk10
namespace Tk10
open PySem PySem.Spec L2 TG TD T4
local macro_rules|`(‹$x›)=>do if x.raw.isOfKind `num then Lean.Macro.throwUnsupported else `(some (S.val $x))
local macro_rules
 |`(tactic| simp! only[$xs,*])=>`(tactic| simp only[dH,mB,m7,nF,eT,de,ge_0,uF,js,uf,jP,gI,jj,jl,t7,uw,t6,ud,uh,je,jD,mI,eQ,gY,jK,gE,ni,jv,jR,gF,jM,eO,jN,eY,eU,dr,dy,jS,gM,dq,hU,dZ,hV,gZ,hJ,gX,eF,jd,gV,eZ,g9,gQ,gO,vk,nH,va,vi,tW,jT,g8,jk,gP,g7,uX,uD,JU,JV,HF,HE,HW,Ih,K0,env0,List.replicate,JW,Hl,IY,Nat.reduceAdd,Nat.reduceSub,HK,HL,jF,jL,mX,ju,jh,jp,dm,jm,nB,mi,mU,jO,eW,eE,d8,d7,eS,ez,lq,nS,m8,ir,iZ,lr,eD,eB,cO,cK,jB,du,cM,cN,cV,jG,jy,cJ,cI,dY,eX,ic,ie,d9,ig,jI,jQ,gU,gL,gN,if_true,if_false,IJ,II,HS,$xs,*])
theorem gm(j:Int)(h:0<j:=by decide):∀i:Int,bU (.int i) (.int j)=some (.int (i%j)):=λi=>x3 (i:=i) h
theorem gd(j:Int)(h:0<j:=by decide)(h':j<10^200:=by decide):∀i:Int,c6 (.int i) (.int j)=some (.int (i/j)):=λi=>lN (i:=i) h h'
noncomputable def Ok(n:Nat)(d:D):Prop:=pl d=true/\lf d=true/\bR n d=true
theorem jw(n:Nat)(i:Int):Ok n (.int i):=⟨by unfold pl;rfl,by unfold lf;rfl,by cases n<;>(unfold bR;rfl)⟩
theorem oV(n:Nat)(x:Str):Ok n (.str x):=⟨by unfold pl;rfl,by unfold lf;rfl,by cases n<;>(unfold bR;rfl)⟩
theorem Bn(n:Nat):Ok n .non:=⟨by unfold pl;rfl,by unfold lf;rfl,by cases n<;>(unfold bR;rfl)⟩
theorem tQ:∀{xs:List D},(∀x∈xs,lf x=true)->Dd xs=true
 |[],_=>by unfold Dd;rfl
 |x::xs,h=>by
  unfold Dd;rw[HB];exact⟨h x G9,tQ λy hy=>h y (Ha _ hy)⟩
theorem jz{n:Nat}{xs:List D}(h:∀x∈xs,Ok n x):Ok (n+1) (.tup xs):=
 ⟨by unfold pl;exact vN λx hx=>(h x hx).1,by unfold lf;exact tQ λx hx=>(h x hx).2.1,by unfold bR;exact List.all_eq_true.mpr λx hx=>(h x hx).2.2⟩
theorem rp:∀{n:Nat}{d:D},bR n d=true->bR (n+1) d=true
 |n,.non,_=>by unfold bR;rfl
 |n,.bl _,_=>by unfold bR;rfl
 |n,.int _,_=>by unfold bR;rfl
 |n,.str _,_=>by unfold bR;rfl
 |0,.tup _,h=>by unfold bR at h;cases h
 |0,.lst _,h=>by unfold bR at h;cases h
 |n+1,.tup xs,h=>by
  unfold bR at h ⊢;exact List.all_eq_true.mpr λx hx=>rp (List.all_eq_true.mp h x hx)
 |n+1,.lst xs,h=>by
  unfold bR at h ⊢;exact List.all_eq_true.mpr λx hx=>rp (List.all_eq_true.mp h x hx)
 |n,.dct _ _,h=>by cases n<;>(unfold bR at h;cases h)
 |n,.obj _ _ _,h=>by cases n<;>(unfold bR at h;cases h)
 |n,.exc _ _ _,h=>by cases n<;>(unfold bR at h;cases h)
theorem Ok.up{n:Nat}{d:D}(h:Ok n d):Ok (n+1) d:=⟨h.1,h.2.1,rp h.2.2⟩
theorem CZ(n:Nat)(q:ay):Ok (n+1) (.tup (q.map ax)):=jz λx hx=>by
 obtain⟨k,_,rfl⟩:=List.mem_map.mp hx;cases k with
 |inl i=>exact jw n i
 |inr z=>exact oV n z
theorem wW{a b:D}(ha:Ok 8 a)(hb:Ok 8 b):ka a b=some (.bl (!pyEq a b)):=by
 unfold ka;rw[ha.1,hb.1,ha.2.2];rfl
theorem zG(a b:Str)(a1:a.length=1)(b1:b.length=1):∀(m n d:Nat)(w:Str),d<2^m->m<=n->w.length+m<=900->∃(w':Str)(d':Int),w'.length<=w.length+m/\∀K:Ks,
  cB (fB (f2 By (aa 0) (fC (.int 1)))) (bg (cq 5 (f2 dX (f2 bb (j7 (ae (aa 3) (ae (aa 4) ak))) (f2 bU (aa 0) (fC (.int 2)))) (aa 5))) (cq 0 (f2 c6 (aa 0) (fC (.int 2))))) K (n+1) [‹.int d›,none,none,‹.str a›,‹.str b›,‹.str w›]=K.nx [‹.int d'›,none,none,‹.str a›,‹.str b›,‹.str w'›]:=by
 intro m
 induction m with
 |zero=>
  intro n d w h1 h2 h3
  have:d=0:=by omega
  subst this;refine⟨w,0,Hi _,λK=>?_⟩;have hd:decide ((1:Int)<((0:Nat):Int))=false:=by decide
  simp! only[Bc,hd];rfl
 |succ m ih=>
  intro n d w h1 h2 h3;by_cases h:1<d
  ·obtain⟨n,rfl⟩:∃n',n=n'+1:=⟨n-1,by omega⟩
   have hd:decide ((1:Int)<(d:Int))=true:=decide_eq_true `o;obtain⟨y,y1,hy⟩:∃y:Str,y.length=1/\bb (.lst [.str a,.str b]) (.int ((d:Int)%2))=some (.str y):=by
    rcases(show(d:Int)%2=0\/(d:Int)%2=1 by omega)with e|e
    ·rw[e];exact⟨a,a1,ir _ _⟩
    ·rw[e];exact⟨b,b1,iZ _ _ _⟩
   have ad:=x8 y w `o `o;have l2:=Aa y w;have p2:2^(m+1)=2*2^m:=(by rw[Nat.pow_succ,Nat.mul_comm]);have p3:d/2<2^m:=(by omega);obtain⟨w',d',q1,q2⟩:=ih n (d/2) (y++w) p3 `o `o;have e2:((d/2:Nat):Int)=(d:Int)/2:=(by omega);rw[e2]at q2;refine⟨w',d',by omega,λK=>?_⟩;have ml:iN [.str a,.str b]=some (.lst [.str a,.str b]):=k8 (by simp);rw[Bc];simp! only[hd,gm 2,gd 2,ml,hy,ad,q2]
  ·refine⟨w,d,by omega,λK=>?_⟩;have hd:decide ((1:Int)<(d:Int))=false:=decide_eq_false `o;simp! only[Bc,hd]
theorem tS(d:Nat)(c:Int)(h:d<500):∃w:Str,bz bK 2 6 [.int d,.int c]=.ok (.str w):=by
 have l26:("abcdefghijklmnopqrstuvwxyz":Str).length=26:=by decide +kernel
 obtain⟨a,a1,ha⟩:=se "abcdefghijklmnopqrstuvwxyz" (by rw[l26];decide) (c%26) `o (by rw[l26];omega);obtain⟨b,b1,hb⟩:=se "abcdefghijklmnopqrstuvwxyz" (by rw[l26];decide) ((c+1+c/26%25)%26) `o (by rw[l26];omega);have l0:("":Str).length=0:=by decide +kernel
 obtain⟨w,d',_,q⟩:=zG a b a1 b1 9 199 (d+1) "" `o `o (by rw[l0];omega);have e1:((d+1:Nat):Int)=(d:Int)+1:=by omega
 rw[e1]at q;refine⟨w,?_⟩;rw[oz];unfold bK;simp! only[gm 26,gm 25,gd 26,ha,hb,TG.C7,q]
theorem Dl(d c:Int)(h0:0<=d)(h1:d<500):∃i:Int,bz aF 3 3 [.int 0,.int d,.int c]=.ok (.int i):=by
 have p54:=xB 10 54 (by decide) (by decide);have p50:=xB 10 50 (by decide) (by decide);obtain⟨x,hx⟩:∃x:Int,bb (.lst [.int 1,.int (-1),.int (10^54),.int (-10^54)]) (.int (c%4))=some (.int x):=by
  rw[D7,show([.int 1,.int (-1),.int (10^54),.int (-10^54)]:List D)=([1,-1,10^54,-10^54]:List Int).map .int from rfl,oF,tL `o (by show c%4<4;omega)];exact⟨_,rfl⟩
 have ml:iN [.int 1,.int (-1),.int (10^54),.int (-10^54)]=some (.lst [.int 1,.int (-1),.int (10^54),.int (-10^54)]):=k8 (by simp);have m1:=sR (i:=d) (j:=7919) (by decide) (by decide);have m2:=sR (i:=5) (j:=7919) (by decide) (by decide);have m3:=oH (i:=d*7919-5*7919) (j:=x) `o `o;have z0:((0:Int)==0)=true:=rfl;refine⟨(d*7919-5*7919)*x+c/4%10^50,?_⟩;rw[iz];unfold aF;have g50:=gm (10^50) (by decide) (c/4);have p54':o8 (.int 10) (.int 54)=some (.int (10^54)):=p54;have p50':o8 (.int 10) (.int 50)=some (.int (10^50)):=p50;generalize (10:Int)^54=P at *;generalize (10:Int)^50=Q at *;simp! only[z0,p54',p50',gm 4,gd 4,ml,hx,m1,m2,m3,g50]
theorem Ee(d:Nat)(c:Int)(h:d<500):∃w:Str,bz aF 3 3 [.int 1,.int d,.int c]=.ok (.str w):=by
 obtain⟨w,hw⟩:=tS d c h;have z0:((1:Int)==0)=false:=rfl;have z1:((1:Int)==1)=true:=rfl;refine⟨w,?_⟩;rw[iz];unfold aF;simp! only[z0,z1,hw]
theorem Gi(d c:Int):∃v:D,bz aF 3 3 [.int 2,.int d,.int c]=.ok v/\Ok 2 v:=by
 have z0:((2:Int)==0)=false:=rfl;have z1:((2:Int)==1)=false:=rfl;obtain⟨n,en,hn⟩:∃n:Nat,d%4=(n:Int)/\n<4:=⟨(d%4).toNat,by omega,by omega⟩
 have rg:=eR n `o;obtain⟨vs,vl,vp,hv⟩:=lx (ρ:=[none,‹.int c›]) (g:=gN 0) (C:=ca) (Fe:=dj (ae (aa 0) (ae (fR (bz bK 2 6) (ae (aa 0) (ae (aa 1) ak))) ak))) (λv=>Ok 1 v) (bi 0 n) λx hx=>by
  obtain⟨k,hk,rfl⟩:=iB hx;obtain⟨w,hw⟩:=tS k c `o;have e0:(0:Int)+(k:Int)=(k:Int):=by omega
  rw[e0];have mt:fS [.int k,.str w]=some (.tup [.int k,.str w]):=lJ (by simp);refine⟨[‹.int k›,‹.int c›],.tup [.int k,.str w],rfl,rfl,?_,jz λx hx=>?_⟩
  ·simp! only[hw,mt]
  ·rcases List.mem_cons.mp hx with z|hx
   ·rw[z];exact jw _ _
   ·rw[List.mem_singleton.mp hx];exact oV _ _
 rw[cm]at vl;have lc:fP [none,some 2] (b6 (ae (f2 bU (aa 1) (fC (.int 4))) ak)) (gN 0) ca (dj (ae (aa 0) (ae (fR (bz bK 2 6) (ae (aa 0) (ae (aa 1) ak))) ak))) [‹.int 2›,‹.int d›,‹.int c›]=.ok (.lst vs):=dG (ds:=bi 0 n) (by simp! only[gm 4,en,rg]) (by rw[cm];omega) hv;refine⟨.tup vs,?_,jz vp⟩;rw[iz];unfold aF;simp! only[z0,z1,lc]
theorem Cm(κ:Int)(k0:0<=κ)(k2:κ<3)(d:Nat)(c:Int)(h:d<500):∃v:D,bz aF 3 3 [.int κ,.int d,.int c]=.ok v/\Ok 2 v:=by
 rcases(show κ=0\/κ=1\/κ=2 by omega)with e|e|e
 ·obtain⟨i,hi⟩:=Dl d c `o `o;rw[e];exact⟨_,hi,jw _ _⟩
 ·obtain⟨w,hw⟩:=Ee d c h;rw[e];exact⟨_,hw,oV _ _⟩
 ·rw[e];exact Gi d c
theorem yF(κ:Int)(k0:0<=κ)(k1:κ<2)(d:Nat)(c:Int)(h:d<500):∃k:Key,bz aF 3 3 [.int κ,.int d,.int c]=.ok (ax k)/\∀{σ:bq}{r:List D},Sh σ r->Sh ((κ==0)::σ) (ax k::r):=by
 rcases(show κ=0\/κ=1 by omega)with e|e
 ·obtain⟨i,hi⟩:=Dl d c `o `o;rw[e];exact⟨.inl i,hi,λh=>.int i h⟩
 ·obtain⟨w,hw⟩:=Ee d c h;rw[e];exact⟨.inr w,hw,λh=>.str w h⟩
noncomputable def sg(m:Nat)(c:Int):bq:=([c/2%2==0,c/3%2==0,c/4%2==0]:bq).take m
noncomputable abbrev fK:FX:=fR (bz aF 3 3) (ae (f2 bU (f2 c6 (aa 1) (f2 dX (aa 0) (fC (.int 2)))) (fC (.int 2))) (ae (f2 bb (aa 2) (aa 0)) (ae (aa 1) ak)))
theorem Ct(c:Int)(L:List D)(k:Int)(k0:0<=k)(k3:k<3)(d:Nat)(hd:d<500)(e:bb (.lst L) (.int k)=some (.int d)):∃q:Key,fK [‹.int k›,‹.int c›,‹.lst L›]=.ok (ax q)/\∀{σ:bq}{r:List D},Sh σ r->Sh ((c/(k+2)%2==0)::σ) (ax q::r):=by
 obtain⟨q,hq,s⟩:=yF (c/(k+2)%2) `o `o d c hd;have dv:=lN (i:=c) (j:=k+2) `o (JX (show k+2<5 by omega) (by decide));refine⟨q,?_,s⟩;unfold fK;simp! only[dv,gm 2,e,hq]
theorem A6(m:Nat)(m1:1<=m)(m3:m<=3)(c:Int)(x:Option S)(ds:aP)(hl:ds.length=m)(hd:∀d∈ds,d<500):∃q:ay,fP [none,some 2,some 3] (b6 (ae (aa 1) ak)) (gN 0) ca fK [x,‹.int m›,‹.int c›,‹.lst (ds.map λ(d:Nat)=>.int d)›]=.ok (.lst (q.map ax))/\Sh (sg m c) (q.map ax):=by
 have rg:=eR m `o;have fin:∀r:List D,qH [none,‹.int c›,‹.lst (ds.map λ(d:Nat)=>.int d)›] (gN 0) ca fK (bi 0 m)=.ok r->fP [none,some 2,some 3] (b6 (ae (aa 1) ak)) (gN 0) ca fK [x,‹.int m›,‹.int c›,‹.lst (ds.map λ(d:Nat)=>.int d)›]=.ok (.lst r):=λr h=>dG (ds:=bi 0 m) (by simp! only[rg]) (by rw[cm];omega) h;have E:=λ(k:Int)(k0:0<=k)(k3:k<3)(d:Nat)(hd':d<500)(e:bb (.lst (ds.map λ(d:Nat)=>.int d)) (.int k)=some (.int d))=>Ct c _ k k0 k3 d hd' e;rcases(show m=1\/m=2\/m=3 by omega)with e|e|e
 ·subst e;obtain⟨a,rfl⟩:=List.length_eq_one_iff.mp hl;obtain⟨q0,h0,s0⟩:=E 0 (by decide) (by decide) a (hd a (by simp)) (ir _ _);refine⟨[q0],fin _ ?_,s0 .nil⟩;rw[show bi 0 1=[.int 0]from rfl];generalize fK=F at h0 ⊢;simp! only[qH,eT]at h0 ⊢;simp! only[h0]
 ·subst e;obtain⟨a,b,rfl⟩:∃a b,ds=[a,b]:=by
   rcases ds with _|⟨a,_|⟨b,_|⟨d,r⟩⟩⟩<;>first|exact⟨_,_,rfl⟩|(exfalso;simp at hl)
  obtain⟨q0,h0,s0⟩:=E 0 (by decide) (by decide) a (hd a (by simp)) (ir _ _);obtain⟨q1,h1,s1⟩:=E 1 (by decide) (by decide) b (hd b (by simp)) (iZ _ _ _);refine⟨[q0,q1],fin _ ?_,s0 (s1 .nil)⟩;rw[show bi 0 2=[.int 0,.int 1]from rfl];generalize fK=F at h0 h1 ⊢;simp! only[qH,eT]at h0 h1 ⊢;simp! only[h0,h1]
 ·subst e;obtain⟨a,b,d,rfl⟩:∃a b d,ds=[a,b,d]:=by
   rcases ds with _|⟨a,_|⟨b,_|⟨d,_|⟨e,r⟩⟩⟩⟩<;>first|exact⟨_,_,_,rfl⟩|(exfalso;simp at hl)
  obtain⟨q0,h0,s0⟩:=E 0 (by decide) (by decide) a (hd a (by simp)) (ir _ _);obtain⟨q1,h1,s1⟩:=E 1 (by decide) (by decide) b (hd b (by simp)) (iZ _ _ _);obtain⟨q2,h2,s2⟩:=E 2 (by decide) (by decide) d (hd d (by simp)) (lr _ _ _ _);refine⟨[q0,q1,q2],fin _ ?_,s0 (s1 (s2 .nil))⟩;rw[show bi 0 3=[.int 0,.int 1,.int 2]from rfl];generalize fK=F at h0 h1 h2 ⊢;simp! only[qH,eT]at h0 h1 h2 ⊢;simp! only[h0,h1,h2]
theorem CT(p:Nat)(hp:p<20)(m:Nat)(m1:1<=m)(m3:m<=3)(c:Int):∃q:ay,bz bF 3 4 [.int p,.int m,.int c]=.ok (.tup (q.map ax))/\Sh (sg m c) (q.map ax):=by
 have EV:=k8 (xs:=[.int p]) (by simp);have F6:=k8 (xs:=[.int ((p:Int)%3),.int ((p:Int)/3)]) (by simp);have ml3:=k8 (xs:=[.int ((p:Int)%2),.int ((p:Int)/2%3),.int ((p:Int)/6)]) (by simp);have L:=A6 m m1 m3 c (‹.int p›);rcases(show m=1\/m=2\/m=3 by omega)with e|e|e
 ·subst e;obtain⟨q,hq,s⟩:=L [p] rfl (by simp;omega);have hq:fP _ _ _ _ _ [_,_,_,‹.lst [.int p]›]=_:=hq;refine⟨q,?_,s⟩;have c1:decide ((1:Int)<((1:Nat):Int))=false:=by decide
  have c2:decide ((2:Int)<((1:Nat):Int))=false:=by decide
  rw[iz];unfold bF;simp! only[EV,c1,c2,hq]
 ·subst e;obtain⟨q,hq,s⟩:=L [p%3,p/3] rfl (by simp;omega);have hq:fP _ _ _ _ _ [_,_,_,‹.lst [.int ((p%3:Nat):Int),.int ((p/3:Nat):Int)]›]=_:=hq;rw[show((p%3:Nat):Int)=(p:Int)%3 by omega,show((p/3:Nat):Int)=(p:Int)/3 by omega]at hq;refine⟨q,?_,s⟩;have c1:decide ((1:Int)<((2:Nat):Int))=true:=by decide
  have c2:decide ((2:Int)<((2:Nat):Int))=false:=by decide
  rw[iz];unfold bF;simp! only[EV,F6,gm 3,gd 3,c1,c2,hq]
 ·subst e;obtain⟨q,hq,s⟩:=L [p%2,p/2%3,p/6] rfl (by simp;omega);have hq:fP _ _ _ _ _ [_,_,_,‹.lst [.int ((p%2:Nat):Int),.int ((p/2%3:Nat):Int),.int ((p/6:Nat):Int)]›]=_:=hq;rw[show((p%2:Nat):Int)=(p:Int)%2 by omega,show((p/2%3:Nat):Int)=(p:Int)/2%3 by omega,show((p/6:Nat):Int)=(p:Int)/6 by omega]at hq;refine⟨q,?_,s⟩;have c1:decide ((1:Int)<((3:Nat):Int))=true:=by decide
  have c2:decide ((2:Int)<((3:Nat):Int))=true:=by decide
  rw[iz];unfold bF;simp! only[EV,F6,ml3,gm 3,gd 3,gm 2,gd 2,gd 6,c1,c2,hq]
theorem Bt(p:Nat)(hp:p<20)(w:Nat)(hw:w<5)(m:Nat)(m1:1<=m)(m3:m<=3)(r:Nat)(r3:r<=3)(c:Int){q:ay}(hq:bz bF 3 4 [.int p,.int m,.int c]=.ok (.tup (q.map ax)))(s:Sh (sg m c) (q.map ax)):∃vs:List D,bz cu 5 5 [.int p,.int w,.int m,.int r,.int c]=.ok (.tup (q.map ax++vs))/\Ok 3 (.tup (q.map ax++vs)):=by
 have rg:=eR r `o;obtain⟨vs,vl,vp,hv⟩:=lx (ρ:=[none,‹.int c›,‹.int w›]) (g:=gN 0) (C:=ca) (Fe:=fR (bz aF 3 3) (ae (f2 bU (f2 dX (f2 c6 (aa 1) (fC (.int 7))) (aa 0)) (fC (.int 3))) (ae (aa 2) (ae (aa 1) ak)))) (λv=>Ok 2 v) (bi 0 r) λx hx=>by
  obtain⟨k,hk,rfl⟩:=iB hx;obtain⟨v,hv,o⟩:=Cm ((c/7+(0+(k:Int)))%3) `o `o w c `o;exact⟨[‹.int (0+(k:Int))›,‹.int c›,‹.int w›],v,rfl,rfl,by simp! only[gd 7,gm 3,hv],o⟩
 rw[cm]at vl;have lc:∀a b:Option S,fP [none,some 4,some 1] (b6 (ae (aa 3) ak)) (gN 0) ca (fR (bz aF 3 3) (ae (f2 bU (f2 dX (f2 c6 (aa 1) (fC (.int 7))) (aa 0)) (fC (.int 3))) (ae (aa 2) (ae (aa 1) ak)))) [a,‹.int w›,b,‹.int r›,‹.int c›]=.ok (.lst vs):=λ_ _=>dG (ds:=bi 0 r) (by simp! only[rg]) (by rw[cm];omega) hv;have ql:(q.map ax).length=(sg m c).length:=s.length;have q3:(sg m c).length<=3:=by unfold sg;rw[Ho];simp;omega
 have ad:=yc (q.map ax) vs `o;refine⟨vs,?_,jz λx hx=>?_⟩
 ·rw[BI];unfold cu;simp! only[hq,lc,ad]
 ·rcases List.mem_append.mp hx with z|z
  ·obtain⟨k,_,rfl⟩:=List.mem_map.mp z;cases k with
   |inl i=>exact jw _ _
   |inr z=>exact oV _ _
  ·exact vp x z
noncomputable abbrev cE:=List (List Key×D)
theorem xf{i:Nat}{G:aL}{k:Ks}{ρ:af}{ds:List D}(h:G ρ=.ok ds)(hn:y6 ρ=true)(hl:ds.length<=100000):gu i G k ρ=k.nx (ρ.set i (some (.nest (.lst (ds.map λ_=>.dct [] []))))):=by
 unfold gu;rw[h];show(if y6 ρ&&small ds.length then _ else _)=_;rw[hn,bW hl];rfl
theorem sC{i:Nat}{u:List D->D->D->D->ii}{fe fk fv:FX}{k:Ks}{ρ:af}{xs ys:List D}{c q v:D}(h:ρ[i]?=some (some (.nest (.lst xs))))(e1:fv ρ=.ok v)(e2:fe ρ=.ok c)(e3:fk ρ=.ok q)(e4:u xs c q v=some ys):fN i u fe fk fv k ρ=k.nx (ρ.set i (some (.nest (.lst ys)))):=by
 unfold fN;rw[h];show(sZ (fv ρ)).bind _=_;rw[e1];show(sZ (fe ρ)).bind _=_;rw[e2];show(sZ (fk ρ)).bind _=_;rw[e3];show(rO (u xs c q v)).bind _=_;rw[e4];rfl
theorem BX(as:List cE)(c:Nat)(al:cE)(hc:as[c]?=some al)(q:ay)(v:D)(hl:al.length<=100000):f6 (as.map aT) (.int (c:Int)) (.tup (q.map ax)) v=some ((as.set c (cQ al q v)).map aT):=by
 show(match(as.map aT)[c]? with
  |some (.dct ks ds)=>(k6 ks ds (.tup (q.map ax)) v).map λal=>(as.map aT).set c (aT al)
  |_=>none)=_
 rw[Ht,hc];show(k6 (encK al) (al.map (·.2)) (.tup (q.map ax)) v).map _=_;unfold k6;rw[dD];show((cG (.tup (q.map ax))).bind _).map _=_;rw[dE];show(if small al.length then some (cQ al q v)else none).map _=_;rw[bW hl,List.map_set];rfl
theorem A8(as:List cE)(c:Nat)(al:cE)(hc:as[c]?=some al)(q:ay)(v:D):gq (as.map aT) (.int (c:Int)) (.tup (q.map ax)) v=some ((as.set c (gC al q)).map aT):=by
 show(match(as.map aT)[c]? with
  |some (.dct ks ds)=>(fE ks ds).bind λal=>(cG (.tup (q.map ax))).map λq=>(as.map aT).set c (aT (gC al q))
  |_=>none)=_
 rw[Ht,hc];show(fE (encK al) (al.map (·.2))).bind _=_;rw[dD];show(cG (.tup (q.map ax))).map _=_;rw[dE,List.map_set];rfl
theorem mW:∀as:List cE,nK (as.map aT)=some as
 |[]=>rfl
 |al::as=>by
  show(fE (encK al) (al.map (·.2))).bind _=_;rw[dD];show(nK (as.map aT)).map _=_;rw[mW as];rfl
theorem xo{i:Nat}{F:bN}{k:Ks}{ρ:af}{as:List cE}(h:ρ[i]?=some (some (.nest (.lst (as.map aT))))):jf i F k ρ=F k (setV i (.lst (as.map bv)) ρ):=by
 unfold jf wo;rw[h];dsimp only;rw[mW]
structure Tb(σ:bq)(n:Nat)(al:cE):Prop where
 sh:∀p∈al,Sh σ (p.1.map ax)/\Ok 3 p.2
 nd:(al.map (·.1)).Nodup
 ln:al.length<=n
 ro:∀p∈al,∃vs:List D,p.2=.tup (p.1.map ax++vs)
theorem Tb.put{σ:bq}{n:Nat}{al:cE}(h:Tb σ n al){q:ay}{v:D}(hq:Sh σ (q.map ax))(hv:Ok 3 v)(hr:∃vs:List D,v=.tup (q.map ax++vs)):Tb σ (n+1) (cQ al q v):=
 ⟨fun p hp=>by
  rcases qo hp with z|z
  ·exact h.sh p z
  ·rw[z];exact⟨hq,hv⟩,yw q v h.nd,G3 (vD al q v) (Nat.succ_le_succ h.ln),λp hp=>by
  rcases qo hp with z|z
  ·exact h.ro p z
  ·rw[z];exact hr⟩
theorem Tb.drop{σ:bq}{n:Nat}{al:cE}(h:Tb σ n al)(q:ay):Tb σ (n+1) (gC al q):=
 ⟨λp hp=>h.sh p (List.mem_filter.mp hp).1,h.nd.sublist (List.Sublist.map _ JA),G3 (JC _ _) (JP h.ln),λp hp=>h.ro p (List.mem_filter.mp hp).1⟩
theorem Tb.up{σ:bq}{n:Nat}{al:cE}(h:Tb σ n al):Tb σ (n+1) al:=⟨h.sh,h.nd,JP h.ln,h.ro⟩
theorem sM{P:cE->Prop}{as:List cE}{c:Nat}{x:cE}(h:∀a∈as,P a)(hx:P x):∀a∈as.set c x,P a:=λa ha=>by
 rcases List.mem_or_eq_of_mem_set ha with z|z
 ·exact h a z
 ·rw[z];exact hx
theorem sP:aW=Au:=rfl
theorem uy(ns:List Int)(m:Nat)(m1:1<=m)(m3:m<=3)(r:Nat)(r3:r<=3)(n:Nat)(n1:1<=n)(n4:n<=4)(hl:ns.length<=63):∃as:List cE,bz bE 4 9 [.lst (ns.map .int),.int m,.int r,.int n]=.ok (.lst (as.map bv))/\as.length=n/\∀al∈as,Tb (sg m (ns.getD 0 0/16)) 63 al:=by
 have rg:=eR n `o;have c0:=tJ ns 0;rw[<-sP]at c0;have c0:bz aW 2 2 [.lst (ns.map .int),.int 0]=.ok (.int (ns.getD 0 0)):=c0;generalize ns.getD 0 0=z at c0 ⊢;obtain⟨B,hB⟩:∃F:bN,F=(bg (cq 7 (f2 bU (f2 c6 (aa 6) (aa 3)) (fC (.int 20)))) (bg (cq 8 (fR (bz bF 3 4) (ae (aa 7) (ae (aa 1) (ae (aa 5) ak))))) (bg (jb (fB (f2 uU (f2 bU (f2 c6 (aa 6) (f2 j6 (fC (.int 20)) (aa 3))) (fC (.int 4))) (fC (.int 0)))) (fN 4 gq (f2 bU (aa 6) (aa 3)) (aa 8) (fC .non)) (fN 4 f6 (f2 bU (aa 6) (aa 3)) (aa 8) (fR (bz cu 5 5) (ae (aa 7) (ae (f2 bU (f2 c6 (aa 6) (f2 j6 (fC (.int 80)) (aa 3))) (fC (.int 5))) (ae (aa 1) (ae (aa 2) (ae (aa 5) ak)))))))) (fQ [6,7,8] cj)))):=⟨_,rfl⟩
 obtain⟨as0,e0,l0,t0⟩:∃as:List cE,(bi 0 n).map (λ_=>D.dct [] [])=as.map aT/\as.length=n/\∀al∈as,Tb (sg m (z/16)) 0 al:=⟨List.replicate n [],by
  rw[List.map_replicate,List.map_const',cm];rfl,Hy,λal ha=>by
  rw[(List.mem_replicate.mp ha).2];exact⟨λp hp=>(nomatch hp),HQ,Hi _,λp hp=>(nomatch hp)⟩⟩
 have nw:∀(k:Ks),gu 4 (b6 (ae (aa 3) ak)) k [‹.lst (ns.map .int)›,‹.int m›,‹.int r›,‹.int n›,none,none,none,none,none]=k.nx [‹.lst (ns.map .int)›,‹.int m›,‹.int r›,‹.int n›,some (.nest (.lst (as0.map aT))),none,none,none,none]:=λk=>by
  rw[xf (ds:=bi 0 n) (by simp! only[rg]) rfl (by rw[cm];omega),e0];rfl
 have fin:∀Q:R D->Prop,(∀as:List cE,as.length=n->(∀al∈as,Tb (sg m (z/16)) 63 al)->Q (.ok (.lst (as.map bv))))->Q (bz bE 4 9 [.lst (ns.map .int),.int m,.int r,.int n]):=λQ hQ=>by
  rw[AZ];unfold bE;rw[<-hB];simp! only[nw,c0,gd 16,zc];refine oI (Q:=Q) (λi ρ=>∃as:List cE,as.length=n/\(∀al∈as,Tb (sg m (z/16)) i al)/\ρ=[‹.lst (ns.map .int)›,‹.int m›,‹.int r›,‹.int n›,some (.nest (.lst (as.map aT))),‹.int (z/16)›,none,none,none]) ?_ ⟨as0,l0,t0,rfl⟩ ?_
  ·rintro i d ρ kk hd ⟨as,al,at',rfl⟩;rw[Ht]at hd;obtain⟨x,hx,rfl⟩:=Option.map_eq_some_iff.mp hd;obtain⟨p,ep,hp⟩:∃p:Nat,x/n%20=(p:Int)/\p<20:=⟨(x/n%20).toNat,by omega,by omega⟩
   obtain⟨w,ew,hw⟩:∃w:Nat,x/(80*n)%5=(w:Int)/\w<5:=⟨(x/(80*n)%5).toNat,by omega,by omega⟩
   have nz:(0:Int)<n:=(by omega);have xm0:=Int.emod_nonneg x (Int.ne_of_gt nz);have xm1:=JG x nz;obtain⟨c,ec,hc⟩:∃c:Nat,x%n=(c:Int)/\c<as.length:=⟨(x%n).toNat,by omega,by omega⟩
   have hc':as[c]?=some as[c]:=Ia hc;have tc:=at' as[c] (IH hc);obtain⟨q,hq,sq⟩:=CT p hp m m1 m3 (z/16);obtain⟨vs,hv,ov⟩:=Bt p hp w hw m m1 m3 r r3 (z/16) hq sq;obtain⟨v,rv⟩:∃v:D,v=.tup (q.map ax++vs):=⟨_,rfl⟩
   rw[<-rv]at hv ov;have big:(400:Int)<10^200:=(by decide);have d1:=lN (i:=x) (j:=n) nz (JX (show(n:Int)<400 by omega) big);have d20:=lN (i:=x) (j:=20*n) `o (JX (show 20*(n:Int)<400 by omega) big);have d80:=lN (i:=x) (j:=80*n) `o (JX (show 80*(n:Int)<400 by omega) big);have mn:=x3 (i:=x) nz;have u20:=oH (i:=20) (j:=n) (by decide) (by decide);have u80:=oH (i:=80) (j:=n) (by decide) (by decide);by_cases e:x/(20*n)%4=0
   ·have eb:(x/(20*n)%4==0)=true:=(by rw[e];rfl);refine⟨_,_,rfl,⟨as.set c (gC as[c] q),by rw[Ip];exact al,sM (λa ha=>(at' a ha).up) (tc.drop q),rfl⟩,?_⟩;have up:=λ(K:Ks)=>sC (i:=4) (u:=gq) (fe:=f2 bU (aa 6) (aa 3)) (fk:=aa 8) (fv:=fC .non) (k:=K) (ρ:=[‹.lst (ns.map .int)›,‹.int m›,‹.int r›,‹.int n›,some (.nest (.lst (as.map aT))),‹.int (z/16)›,‹.int x›,‹.int p›,‹.tup (q.map ax)›]) rfl rfl (by simp! only[mn,ec]) rfl (A8 as c as[c] hc' q .non);rw[hB];simp! only[d1,d20,gm 20,gm 4,u20,ep,hq,eb,up]
   ·have eb:(x/(20*n)%4==0)=false:=beq_eq_false_iff_ne.mpr e;refine⟨_,_,rfl,⟨as.set c (cQ as[c] q v),by rw[Ip];exact al,sM (λa ha=>(at' a ha).up) (tc.put sq ov ⟨vs,rv⟩),rfl⟩,?_⟩;have hi:=my hx;have cl:(cutD ns (some 1) (some 241)).length<=ns.length:=by
     have:=List.Sublist.length_le (show(cutD ns (some 1) (some 241)).Sublist ns from(Hu _ _).trans (Jf _ _))
     exact this
    have up:=λ(K:Ks)=>sC (i:=4) (u:=f6) (fe:=f2 bU (aa 6) (aa 3)) (fk:=aa 8) (fv:=fR (bz cu 5 5) (ae (aa 7) (ae (f2 bU (f2 c6 (aa 6) (f2 j6 (fC (.int 80)) (aa 3))) (fC (.int 5))) (ae (aa 1) (ae (aa 2) (ae (aa 5) ak)))))) (k:=K) (ρ:=[‹.lst (ns.map .int)›,‹.int m›,‹.int r›,‹.int n›,some (.nest (.lst (as.map aT))),‹.int (z/16)›,‹.int x›,‹.int p›,‹.tup (q.map ax)›]) rfl (by simp! only[u80,d80,gm 5,ew,hv]) (by simp! only[mn,ec]) rfl (BX as c as[c] hc' q v (by have:=tc.ln;omega));rw[hB];simp! only[d1,d20,gm 20,gm 4,u20,ep,hq,eb,up]
  ·rintro ρ' ⟨as,al,at',rfl⟩;rw[Hx]at at';have cl:(cutD ns (some 1) (some 241)).length<=ns.length:=List.Sublist.length_le (show(cutD ns (some 1) (some 241)).Sublist ns from(Hu _ _).trans (Jf _ _));have ef:=λ(F:bN)(k:Ks)=>xo (i:=4) (F:=F) (k:=k) (ρ:=[‹.lst (ns.map .int)›,‹.int m›,‹.int r›,‹.int n›,some (.nest (.lst (as.map aT))),‹.int (z/16)›,none,none,none]) (as:=as) rfl;have h:=hQ as al λa ha=>⟨(at' a ha).sh,(at' a ha).nd,by have:=(at' a ha).ln;omega,(at' a ha).ro⟩
   simp! only[ef];exact h
 exact fin (λx=>∃as:List cE,x=.ok (.lst (as.map bv))/\as.length=n/\∀al∈as,Tb (sg m (z/16)) 63 al) λas h1 h2=>⟨as,rfl,h1,h2⟩
noncomputable abbrev kE(q:ay):D:=.tup (q.map ax)
noncomputable abbrev kk(q:ay):List D:=q.map ax
theorem sL(q:ay):∀ks:List ay,j0 bf (kE q) (ks.map kE)=(j0 kk q ks).map kE
 |[]=>rfl
 |k::ks=>by
  show(if kLt (kk q) (kk k)then kE q::kE k::ks.map kE else kE k::j0 bf (kE q) (ks.map kE))=_;rw[show j0 kk q (k::ks)=if kLt (kk q) (kk k)then q::k::ks else k::j0 kk q ks from rfl];split
  ·rfl
  ·rw[sL q ks];rfl
theorem kS:∀ks:List ay,aM bf (ks.map kE)=(aM kk ks).map kE
 |[]=>rfl
 |k::ks=>by
  show j0 bf (kE k) (aM bf (ks.map kE))=_;rw[kS ks,sL];rfl
theorem sr{σ:bq}(h0:σ≠[]){ks:List ay}(nd:ks.Nodup)(hs:∀q∈ks,Sh σ (kk q))(hl:ks.length<1000):jY (ks.map kE)=some (.lst ((aM kk ks).map kE)):=by
 have hx:∀x∈ks.map kE,∃k,x=.tup k/\Sh σ k:=λx hx=>by
  obtain⟨p,hp,rfl⟩:=List.mem_map.mp hx;exact⟨_,rfl,hs p hp⟩
 have pw:(ks.map kE).Pairwise λx y=>bf x≠bf y:=by
  rw[Jo];exact nd.imp λ{a b} ne e=>ne (pZ e)
 have a:qP (ks.map kE):=⟨by rw[Hx];exact hl,σ,h0,hx,pw⟩
 unfold jY;rw[if_pos a,kS]
theorem oJ(al:cE):encK al=(al.map (·.1)).map kE:=by rw[Jq];rfl
theorem oD(al:cE):o5 (.non::encK al) (al.map (·.2))=some al:=dD al
theorem o0(al:cE):dP [bv al]=some (.lst ((al.map (·.1)).map kE)):=by
 show(o5 (.non::encK al) (al.map (·.2))).bind _=_;rw[oD,<-oJ];rfl
theorem x4(al:cE):tq (bv al)=some ((al.map (·.1)).map kE):=by
 show(fE (encK al) (al.map (·.2))).map _=_;rw[dD,<-oJ];rfl
noncomputable def hs(al:cE)(q:ay):Bool:=al.any λp=>decide (p.1=q)
theorem vR{al:cE}{q:ay}:hs al q=true↔q∈al.map (·.1):=by
 unfold hs;rw[JT,JN];simp only[decide_eq_true_eq]
theorem jE(al:cE)(q:ay):cf (kE q) (bv al)=some (.bl (!hs al q)):=by
 show(o5 (.non::encK al) (al.map (·.2))).bind _=_;rw[oD];show(cG (kE q)).map _=_;rw[dE];rfl
noncomputable def gv(al:cE)(q:ay):D:=(fY al q).getD .non
theorem mH{σ:bq}{n:Nat}{al:cE}(h:Tb σ n al)(q:ay):Ok 3 (gv al q):=by
 unfold gv fY;cases e:al.find? λp=>decide (p.1=q)with
 |none=>exact Bn _
 |some p=>exact(h.sh p (JY e)).2
noncomputable abbrev Cg:=List Key×D×D
noncomputable abbrev tr(c:Cg):D:=.tup [kE c.1,c.2.1,c.2.2]
noncomputable def bT(al bl:cE):List (ay):=al.map (·.1)++(bl.map (·.1)).filter λq=>!hs al q
noncomputable def chg(al bl:cE):List Cg:=((aM kk (bT al bl)).filter λq=>!pyEq (gv al q) (gv bl q)).map λq=>(q,gv al q,gv bl q)
theorem kn{al bl:cE}(h1:(al.map (·.1)).Nodup)(h2:(bl.map (·.1)).Nodup):(bT al bl).Nodup:=
 List.nodup_append.mpr ⟨h1,h2.sublist JA,λa ha b hb e=>by
  have:=(List.mem_filter.mp hb).2
  rw[<-e,vR.mpr ha]at this;cases this⟩
theorem qb{al bl:cE}{q:ay}(h:q∈bT al bl):q∈al.map (·.1)\/q∈bl.map (·.1):=by
 rcases List.mem_append.mp h with z|z
 ·exact .inl z
 ·exact .inr (List.mem_filter.mp z).1
theorem kj{σ:bq}{n:Nat}{al bl:cE}(h1:Tb σ n al)(h2:Tb σ n bl):∀q∈bT al bl,Sh σ (kk q):=λq hq=>by
 rcases qb hq with z|z
 ·obtain⟨p,hp,rfl⟩:=List.mem_map.mp z;exact(h1.sh p hp).1
 ·obtain⟨p,hp,rfl⟩:=List.mem_map.mp z;exact(h2.sh p hp).1
theorem lK{σ:bq}{n:Nat}{al bl:cE}(h1:Tb σ n al)(h2:Tb σ n bl):(bT al bl).length<=2*n:=by
 have l1:=h1.ln;have l2:=h2.ln
 have:((bl.map (·.1)).filter λq=>!hs al q).length<=bl.length:=by
  have:=JC (λq=>!hs al q) (bl.map (·.1))
  rw[Hx]at this;exact this
 unfold bT;rw[Hw,Hx];omega
structure Ch(σ:bq)(n:Nat)(cs:List Cg):Prop where
 sh:∀c∈cs,Sh σ (kk c.1)/\Ok 3 c.2.1/\Ok 3 c.2.2
 ln:cs.length<=n
theorem wG{σ:bq}{n:Nat}{al bl:cE}(h1:Tb σ n al)(h2:Tb σ n bl):Ch σ (2*n) (chg al bl):=
 ⟨fun c hc=>by
  obtain⟨q,hq,rfl⟩:=List.mem_map.mp hc;exact⟨kj h1 h2 q ((aE kk _).mem_iff.mp (List.mem_filter.mp hq).1),mH h1 q,mH h2 q⟩,by
  have:=lK h1 h2
  unfold chg;rw[Hx];refine G3 (JC _ _) ?_;rw[(aE kk _).length_eq];exact this⟩
theorem Ek{σ:bq}{n:Nat}{cs:List Cg}(h:Ch σ n cs):∀c∈cs,Ok 4 (tr c):=λc hc=>jz λx hx=>by
 obtain⟨h1,h2,h3⟩:=h.sh c hc;rcases List.mem_cons.mp hx with z|hx
 ·rw[z];exact CZ _ _
 ·rcases List.mem_cons.mp hx with z|hx
  ·rw[z];exact h2
  ·rw[List.mem_singleton.mp hx];exact h3
theorem Ok.le{n m:Nat}(h:n<=m){d:D}(hd:Ok n d):Ok m d:=by
  induction m with
  | zero => have : n = 0 := by omega
            subst this;exact hd
  |succ m ih=>
    by_cases e:n=m+1
    ·subst e;exact hd
    ·exact(ih `o).up
theorem wm{α:Type}(p:α->Bool){xs:List α}{i:Nat}(hi:i<xs.length):(xs.take (i+1)).filter p=(xs.take i).filter p++(if p xs[i]then[xs[i]]else[]):=by
 rw[IW hi,List.filter_append];congr 1;cases h:p xs[i]with
 |true=>rw[IE h];rfl
 |false=>rw[IG (by rw[h];exact Hg)];rfl
theorem sJ{al:cE}{q:ay}(h:hs al q=false):gv al q=.non:=by
 unfold gv fY
 have:al.find? (λp=>decide (p.1=q))=none:=List.find?_eq_none.mpr λp hp e=>by
  have:=List.any_eq_false.mp h p hp
  exact this e
 rw[this];rfl
theorem oM{al:cE}{q:ay}(h:hs al q=true):∃p∈al,p.1=q/\fY al q=some p.2/\gv al q=p.2:=by
 unfold gv fY;cases e:al.find? λp=>decide (p.1=q)with
 |none=>
  obtain⟨p,hp,z⟩:=List.any_eq_true.mp h;exact absurd z (List.find?_eq_none.mp e p hp)
 |some p=>exact⟨p,JY e,of_decide_eq_true (List.find?_some (p:=λ(p:List Key×D)=>decide (p.1=q)) e),rfl,rfl⟩
theorem Am(al:cE)(q:ay):dg (bv al) (kE q)=fY al q:=by
 show(o5 (.non::encK al) (al.map (·.2))).bind _=_;rw[oD];show(cG (kE q)).bind _=_;rw[dE];rfl
theorem kC{al:cE}{q:ay}(h:hs al q=true):dg (bv al) (kE q)=some (gv al q):=by
 obtain⟨p,_,_,e1,e2⟩:=oM h;rw[Am,e1,e2]
theorem sy{fo fk:FX}{ρ:af}{al:cE}{q:ay}(h:fo ρ=.ok (aT al))(e:fk ρ=.ok (kE q)):fV fo fk ρ=.ok (gv al q):=by
 unfold fV;rw[h];show(fk ρ).bind _=_;rw[e];show rO (xM (encK al) (al.map (·.2)) (kE q))=_;unfold xM;rw[sv];show rO ((cG (kE q)).map _)=_;rw[dE];rfl
noncomputable def jX(al:cE):cE:=(aM kk (al.map (·.1))).map λq=>(q,gv al q)
theorem iE(al:cE):(jX al).map (·.1)=aM kk (al.map (·.1)):=by
 unfold jX;rw[Jq];exact List.map_id _
theorem ya(al:cE)(q:ay):hs (jX al) q=hs al q:=by
 refine Bool.eq_iff_iff.mpr ?_;rw[vR,vR,iE,(aE kk _).mem_iff]
theorem Bj(al:cE)(q:ay):gv (jX al) q=gv al q:=by
 cases e:hs al q with
 |false=>rw[sJ e,sJ (by rw[ya];exact e)]
 |true=>
  obtain⟨p,hp,e1,_,e2⟩:=oM (al:=jX al) (q:=q) (by rw[ya];exact e);obtain⟨z,_,rfl⟩:=List.mem_map.mp hp;rw[e2,<-e1]
theorem zB(al:cE):(jX al).length=al.length:=by
 unfold jX;rw[Hx,(aE kk _).length_eq,Hx]
theorem dS{σ:bq}{n:Nat}{al:cE}(h:Tb σ n al):Tb σ n (jX al):=by
 have M:∀p∈jX al,∃p'∈al,p=p':=λp hp=>by
  obtain⟨q,hq,rfl⟩:=List.mem_map.mp hp;obtain⟨p',h1,h2,_,h3⟩:=oM (vR.mpr ((aE kk _).mem_iff.mp hq));exact⟨p',h1,by rw[h3,<-h2]⟩
 refine⟨λp hp=>?_,?_,by rw[zB];exact h.ln,λp hp=>?_⟩
 ·obtain⟨p',h1,rfl⟩:=M p hp;exact h.sh p h1
 ·rw[iE];exact(aE kk _).nodup_iff.mpr h.nd
 ·obtain⟨p',h1,rfl⟩:=M p hp;exact h.ro p h1
theorem pL{σ:bq}(h0:σ≠[]){al:cE}(h:Tb σ 63 al):bz bZ 1 1 [bv al]=.ok (.tup ((jX al).map (·.2))):=by
 have ln:=h.ln;have l1:=o0 al;have so:dM [.lst ((al.map (·.1)).map kE)]=some (.lst ((aM kk (al.map (·.1))).map kE)):=sr h0 h.nd (λq hq=>by
  obtain⟨p,hp,rfl⟩:=List.mem_map.mp hq;exact(h.sh p hp).1) (by rw[Hx];omega)
 have lc:fP [none,some 0] (cT (fL dM (ae (fL dP (ae (aa 0) ak)) ak))) (gN 0) ca (f2 dg (aa 1) (aa 0)) [‹bv al›]=.ok (.lst ((jX al).map (·.2))):=by
  refine dG (ds:=(aM kk (al.map (·.1))).map kE) ?_ (by rw[Hx,(aE kk _).length_eq,Hx];omega) ?_
  ·generalize bv al=Y at l1 ⊢;simp! only[l1,so]
  ·unfold jX;rw[Jq];refine oC kE _ _ λq hq=>⟨[‹kE q›,‹bv al›],rfl,rfl,?_⟩
   have dx:=kC (vR.mpr ((aE kk _).mem_iff.mp hq));generalize bv al=Y at dx ⊢;simp! only[dx];rfl
 rw[rj];unfold bZ;generalize bv al=Y at lc ⊢;simp! only[lc]
theorem qf:∀ps:cE,fz (ps.map λp=>.tup [.tup (p.1.map ax),p.2])=some ps
 |[]=>rfl
 |p::ps=>by
  show(qe (.tup [.tup (p.1.map ax),p.2])).bind (λq=>(fz (ps.map λp=>.tup [.tup (p.1.map ax),p.2])).map (q::·))=_;rw[qf ps];show((cG (.tup (p.1.map ax))).map λk=>(k,p.2)).bind _=_;rw[dE];rfl
theorem sU:∀(f a:cE),((a++f).map (·.1)).Nodup->f.foldl (λal p=>cQ al p.1 p.2) a=a++f
 |[],a,_=>(Hl a).symm
 |p::f,a,h=>by
  have hn:¬(a.any λz=>decide (z.1=p.1))=true:=λz=>by
   rw[Ij]at h;obtain⟨x,hx,e⟩:=List.any_eq_true.mp z;exact(List.nodup_append.mp h).2.2 x.1 (List.mem_map.mpr ⟨x,hx,rfl⟩) p.1 (by simp) (of_decide_eq_true e)
  show f.foldl (λal p=>cQ al p.1 p.2) (cQ a p.1 p.2)=_;have e:cQ a p.1 p.2=a++[p]:=by unfold cQ;rw[if_neg hn]
  rw[e,sU f (a++[p]) (by rw[Iu];exact h),Iu];rfl
theorem vX{σ:bq}{n:Nat}{al:cE}(h:Tb σ n al)(hn:n<=900){m:Nat}(hm:σ.length=m):bz fg 2 2 [.int m,.tup (al.map (·.2))]=.ok (aT al):=by
 have ln:=h.ln;have lc:fP [none,some 0] (cT (aa 1)) (gN 0) ca (dj (ae (jC (aa 0) i6 (kR (aa 1))) (ae (aa 0) ak))) [‹.int m›,‹.tup (al.map (·.2))›]=.ok (.lst (al.map λp=>.tup [.tup (p.1.map ax),p.2])):=by
  refine dG (ds:=al.map (·.2)) (by simp! only[]) (by rw[Hx];omega) ?_;refine oC (λp:List Key×D=>p.2) (λp=>.tup [.tup (p.1.map ax),p.2]) al λp hp=>⟨[‹p.2›,‹.int m›],rfl,rfl,?_⟩
  obtain⟨vs,e⟩:=h.ro p hp;have kl:(p.1.map ax).length=m:=(h.sh p hp).1.length.trans hm;have tk:(p.1.map ax++vs).take m=p.1.map ax:=by rw[<-kl,List.take_left]
  rw[e];have mt:fS [.tup (p.1.map ax),.tup (p.1.map ax++vs)]=some (.tup [.tup (p.1.map ax),.tup (p.1.map ax++vs)]):=lJ (by simp);simp! only[CN,tk,mt]
 have dt:fZ [.lst (al.map λp=>.tup [.tup (p.1.map ax),p.2])]=some (aT al):=by
  show(fz _).bind _=_;rw[qf];show(if small al.length then some (aT (nR al))else none)=_;rw[bW `o,if_pos rfl]
  have:nR al=al:=sU al [] h.nd
  rw[this]
 rw[oz];unfold fg;generalize aT al=Y at dt ⊢;simp! only[lc,dt]
theorem vf(xs:List Cg)(h:∀c∈xs,Ok 3 c.2.1/\Ok 3 c.2.2)(hl:xs.length<=900):bz eJ 1 1 [.lst (xs.map tr)]=.ok (.tup ((xs.filter λc=>!pyEq c.2.1 c.2.2).map tr)):=by
 have lc:fP [none] (cT (aa 0)) (gN 0) (fB (f2 ka (f2 bb (aa 0) (fC (.int 1))) (f2 bb (aa 0) (fC (.int 2))))) (aa 0) [‹.lst (xs.map tr)›]=.ok (.lst ((xs.filter λc=>!pyEq c.2.1 c.2.2).map tr)):=by
  refine dG (ds:=xs.map tr) (by simp! only[]) (by rw[Hx];omega) ?_;refine fA tr (λc=>!pyEq c.2.1 c.2.2) tr xs λc hc=>⟨[‹tr c›],rfl,?_,rfl⟩
  have ne:=wW ((h c hc).1.le (show 3<=8 by decide)) ((h c hc).2.le (show 3<=8 by decide));simp! only[ne]
 rw[rj];unfold eJ;simp! only[lc]
theorem wA{ks:List ay}(nd:ks.Nodup):ks.Pairwise λx y=>kk x≠kk y:=nd.imp λ{a b} ne e=>ne (pZ e)
theorem mD{σ:bq}{xs ys:List ay}(nx:xs.Nodup)(ny:ys.Nodup)(hx:∀q∈xs,Sh σ (kk q))(mem:∀q,q∈xs↔q∈ys):aM kk xs=aM kk ys:=by
 have p:ys.Perm xs:=(JM ny nx).mpr λq=>(mem q).symm;exact lu (σ:=σ) hx (wA nx) (gK (σ:=σ) (λq hq=>hx q ((mem q).mpr hq)) (wA ny)) ((aE kk ys).trans p)
theorem qp:∀ks:List ay,kM (ks.map kE)=some ks
 |[]=>rfl
 |k::ks=>by
  show(cG (kE k)).bind (λk=>(kM (ks.map kE)).map (k::·))=_;rw[qp ks,dE];rfl
theorem oU{al bl:cE}{q:ay}:q∈bT al bl↔q∈al.map (·.1)\/q∈bl.map (·.1):=by
 constructor
 ·exact qb
 ·intro h;by_cases c:q∈al.map (·.1)
  ·exact List.mem_append.mpr (.inl c)
  ·refine List.mem_append.mpr (.inr (List.mem_filter.mpr ⟨h.resolve_left c,?_⟩));cases e:hs al q with
   |false=>rfl
   |true=>exact absurd (vR.mp e) c
theorem ri:∀ks:List ay,(dd ks).length<=ks.length
 |[]=>Hi _
 |k::ks=>by
  unfold dd;split
  ·exact JP (ri ks)
  ·exact Nat.succ_le_succ (ri ks)
theorem zt{σ:bq}(h0:σ≠[]){al bl:cE}(h1:Tb σ 63 al)(h2:Tb σ 63 bl):eK (.lst ((al.map (·.1)++bl.map (·.1)).map kE))=some (.lst ((aM kk (bT al bl)).map kE)):=by
 have l1:=h1.ln;have l2:=h2.ln;have L:(al.map (·.1)++bl.map (·.1)).length<300:=by rw[Hw,Hx,Hx];omega
 have mem:∀q,q∈dd (al.map (·.1)++bl.map (·.1))↔q∈bT al bl:=λq=>by rw[om,oU,List.mem_append]
 have hx:∀q∈dd (al.map (·.1)++bl.map (·.1)),Sh σ (kk q):=λq hq=>kj h1 h2 q ((mem q).mp hq);have nd:=tm (al.map (·.1)++bl.map (·.1));have a:qP ((dd (al.map (·.1)++bl.map (·.1))).map kT):=⟨by rw[Hx];have:=ri (al.map (·.1)++bl.map (·.1));omega,σ,h0,λx hx'=>by
  obtain⟨p,hp,rfl⟩:=List.mem_map.mp hx';exact⟨_,rfl,hx p hp⟩,by rw[Jo];exact wA nd⟩
 have e:=kS (dd (al.map (·.1)++bl.map (·.1)));rw[mD nd (kn h1.nd h2.nd) hx mem]at e;show(kM _).bind _=_;rw[qp];exact(if_pos ⟨L,a⟩).trans (congrArg (λz=>some (D.lst z)) e)
theorem fj{σ:bq}(h0:σ≠[]){al bl:cE}(h1:Tb σ 63 al)(h2:Tb σ 63 bl){m:Nat}(hm:σ.length=m):bz bI 3 6 [.int m,.tup (al.map (·.2)),.tup (bl.map (·.2))]=.ok (.tup ((chg al bl).map tr)):=by
 have l1:=h1.ln;have l2:=h2.ln;have b1:=vX h1 (by decide) hm;have b2:=vX h2 (by decide) hm;have t1:=pf al;have t2:=pf bl;rw[oJ]at t1 t2;have ad:=oW ((al.map (·.1)).map kE) ((bl.map (·.1)).map kE) (by rw[Hx,Hx,Hx,Hx];omega);rw[<-Ij]at ad;have so:=zt h0 h1 h2;have kl:=lK h1 h2;have sl:(aM kk (bT al bl)).length=(bT al bl).length:=(aE kk _).length_eq;have lc:∀a0 a1 a2:Option S,fP [none,some 3,some 4] (cT (aa 5)) (gN 0) ca (dj (ae (aa 0) (ae (fV (aa 1) (aa 0)) (ae (fV (aa 2) (aa 0)) ak)))) [a0,a1,a2,‹aT al›,‹aT bl›,‹.lst ((aM kk (bT al bl)).map kE)›]=.ok (.lst (((aM kk (bT al bl)).map λq=>((q,gv al q,gv bl q):Cg)).map tr)):=λ_ _ _=>by
  refine dG (ds:=(aM kk (bT al bl)).map kE) ?_ (by rw[Hx];omega) ?_
  ·generalize aT al=Y;generalize aT bl=Z;simp! only[]
  ·rw[Jq];refine oC kE _ _ λq hq=>⟨[‹kE q›,‹aT al›,‹aT bl›],rfl,rfl,?_⟩
   have g1:=sy (fo:=aa 1) (fk:=aa 0) (ρ:=[‹kE q›,‹aT al›,‹aT bl›]) (al:=al) (q:=q) rfl rfl;have g2:=sy (fo:=aa 2) (fk:=aa 0) (ρ:=[‹kE q›,‹aT al›,‹aT bl›]) (al:=bl) (q:=q) rfl rfl;have mt:fS [kE q,gv al q,gv bl q]=some (.tup [kE q,gv al q,gv bl q]):=lJ (by simp);generalize aT al=Y at g1 g2 ⊢;generalize aT bl=Z at g1 g2 ⊢;simp! only[g1,g2,mt];rfl
 have un:=vf ((aM kk (bT al bl)).map λq=>((q,gv al q,gv bl q):Cg)) (λc hc=>by
  obtain⟨q,_,rfl⟩:=List.mem_map.mp hc;exact⟨mH h1 q,mH h2 q⟩) (by rw[Hx];omega)
 rw[List.filter_map]at un;have un:bz eJ 1 1 [.lst (((aM kk (bT al bl)).map λq=>((q,gv al q,gv bl q):Cg)).map tr)]=.ok (.tup ((chg al bl).map tr)):=un;rw[iz];unfold bI;generalize aT al=Y at b1 t1 lc;generalize aT bl=Z at b2 t2 lc;simp! only[b1,b2,t1,t2,ad,so,lc,un]
theorem Dx(v:List D):pyEq .non (.tup v)=false:=by unfold pyEq;rfl
theorem Ep(v:List D):pyEq (.tup v) .non=false:=by unfold pyEq;rfl
theorem vA{σ:bq}{n:Nat}{al:cE}(h:Tb σ n al){q:ay}(e:hs al q=true):∃v,gv al q=.tup v:=by
 obtain⟨p,hp,_,_,e2⟩:=oM e;obtain⟨vs,z⟩:=h.ro p hp;exact⟨_,e2.trans z⟩
noncomputable abbrev uB:bN:=(bg (jb (fB (f2 cf (aa 3) (aa 0))) (sO 2 i9 (ae (dj (ae (aa 3) (ae (fC .non) (ae (f2 dg (aa 1) (aa 3)) ak)))) ak)) (jb (fB (f2 cf (aa 3) (aa 1))) (sO 2 i9 (ae (dj (ae (aa 3) (ae (f2 dg (aa 0) (aa 3)) (ae (fC .non) ak)))) ak)) (jb (fB (f2 ka (f2 dg (aa 0) (aa 3)) (f2 dg (aa 1) (aa 3)))) (sO 2 i9 (ae (dj (ae (aa 3) (ae (f2 dg (aa 0) (aa 3)) (ae (f2 dg (aa 1) (aa 3)) ak)))) ak)) cj))) (fQ [3] cj))
theorem B5{σ:bq}{al bl:cE}(h1:Tb σ 63 al)(h2:Tb σ 63 bl){q:ay}(hq:q∈bT al bl)(W:List D)(hW:W.length<=126)(K:Ks):uB K [‹bv al›,‹bv bl›,some (.own (.lst W)),‹kE q›]=K.nx [‹bv al›,‹bv bl›,some (.own (.lst (W++(if !pyEq (gv al q) (gv bl q)then[.tup [kE q,gv al q,gv bl q]]else[])))),none]:=by
 have n1:=jE al q;have n2:=jE bl q;have ap:=λy:D=>A7 (xs:=W) (y:=y) `o;have mt:fS [kE q,gv al q,gv bl q]=some (.tup [kE q,gv al q,gv bl q]):=lJ (by simp);have sm:=λ(A C:D)(f:aL)(K:Ks)=>Bq 2 i9 f K [‹A›,‹C›,some (.own (.lst W)),‹kE q›] (xs:=W) rfl;unfold uB;cases e1:hs al q with
 |false=>
  rw[e1]at n1;have e2:hs bl q=true:=vR.mpr ((oU.mp hq).resolve_left λz=>by rw[vR.mpr z]at e1;cases e1);obtain⟨v,ev⟩:=vA h2 e2;have d2:=kC e2;rw[sJ e1]at mt ⊢;have ne:(!pyEq .non (gv bl q))=true:=by rw[ev,Dx];rfl
  rw[ne];generalize bv al=A at n1 ⊢;generalize bv bl=C at d2 ⊢;simp! only[n1,II,sm,d2,mt,ap,if_true]
 |true=>
  rw[e1]at n1;have d1:=kC e1;cases e2:hs bl q with
  |false=>
   rw[e2]at n2;obtain⟨v,ev⟩:=vA h1 e1;rw[sJ e2]at mt ⊢;have ne:(!pyEq (gv al q) .non)=true:=(by rw[ev,Ep];rfl);rw[ne];generalize bv al=A at n1 d1 ⊢;generalize bv bl=C at n2 ⊢;simp! only[n1,n2,II,IJ,sm,d1,mt,ap,if_true]
  |true=>
   rw[e2]at n2;have d2:=kC e2;have ne:=wW ((mH h1 q).le (show 3<=8 by decide)) ((mH h2 q).le (show 3<=8 by decide));generalize bv al=A at n1 d1 ⊢;generalize bv bl=C at n2 d2 ⊢;cases e:!pyEq (gv al q) (gv bl q)with
   |false=>
    rw[e]at ne;simp! only[n1,n2,IJ,d1,d2,ne,Hl,HS,if_false]
   |true=>
    rw[e]at ne;simp! only[n1,n2,IJ,sm,d1,d2,ne,mt,ap,if_true]
theorem xC{σ:bq}(h0:σ≠[]){al bl:cE}(h1:Tb σ 63 al)(h2:Tb σ 63 bl):bz ck 2 4 [bv al,bv bl]=.ok (.lst ((chg al bl).map tr)):=by
 have kl:=lK h1 h2;have lc:∀x y:Option S,fP [none,some 0] (ja (aa 1)) (gN 0) (fB (f2 cf (aa 0) (aa 1))) (aa 0) [‹bv al›,‹bv bl›,x,y]=.ok (.lst (((bl.map (·.1)).filter λq=>!hs al q).map kE)):=λx y=>by
  refine dG (ds:=(bl.map (·.1)).map kE) ?_ (by rw[Hx,Hx];have:=h2.ln;omega) ?_
  ·unfold ja;show(rO (tq (bv bl)))=_;rw[x4];rfl
  ·refine fA kE (λq=>!hs al q) kE _ λq hq=>⟨[‹kE q›,‹bv al›],rfl,?_,rfl⟩
   have:=jE al q
   generalize bv al=A at this ⊢;simp! only[this]
 have ad:=oW ((al.map (·.1)).map kE) (((bl.map (·.1)).filter λq=>!hs al q).map kE) (by rw[Hx,Hx,Hx];unfold bT at kl;rw[Hw,Hx]at kl;omega);rw[<-Ij,show al.map (·.1)++((bl.map (·.1)).filter λq=>!hs al q)=bT al bl from rfl]at ad;have so:dM [.lst ((bT al bl).map kE)]=some (.lst ((aM kk (bT al bl)).map kE)):=sr h0 (kn h1.nd h2.nd) (kj h1 h2) `o;have sl:(aM kk (bT al bl)).length=(bT al bl).length:=(aE kk _).length_eq;have lf':=o0 al;have ml:iN []=some (.lst []):=nr rfl;rw[oz];unfold ck;rw[show(bg (jb (fB (f2 cf (aa 3) (aa 0))) (sO 2 i9 (ae (dj (ae (aa 3) (ae (fC .non) (ae (f2 dg (aa 1) (aa 3)) ak)))) ak)) (jb (fB (f2 cf (aa 3) (aa 1))) (sO 2 i9 (ae (dj (ae (aa 3) (ae (f2 dg (aa 0) (aa 3)) (ae (fC .non) ak)))) ak)) (jb (fB (f2 ka (f2 dg (aa 0) (aa 3)) (f2 dg (aa 1) (aa 3)))) (sO 2 i9 (ae (dj (ae (aa 3) (ae (f2 dg (aa 0) (aa 3)) (ae (f2 dg (aa 1) (aa 3)) ak)))) ak)) cj))) (fQ [3] cj))=uB from rfl];have us:=λ(q:ay)(hq:q∈bT al bl)=>B5 h1 h2 hq;generalize uB=B at us ⊢;generalize hA:bv al=A at lc lf' us ⊢;generalize hC:bv bl=C at lc us ⊢;simp! only[ml,lc,lf',ad,so];refine oI (Q:=λx=>x=.ok (.lst ((chg al bl).map tr))) (λi ρ=>ρ=[‹A›,‹C›,some (.own (.lst (((((aM kk (bT al bl)).take i).filter λq=>!pyEq (gv al q) (gv bl q)).map λq=>(q,gv al q,gv bl q)).map tr))),none]) ?_ rfl ?_
 ·rintro i d ρ kk' hd rfl;have hi:=my hd;rw[Hx]at hi;rw[Ht]at hd;change Option.map kE (aM kk (bT al bl))[i]?=some d at hd;have hi:i<(aM kk (bT al bl)).length:=hi;rw[Ia hi]at hd;cases hd;have hm:(aM kk (bT al bl))[i]∈bT al bl:=(aE kk _).mem_iff.mp (IH hi);generalize hq:(aM kk (bT al bl))[i]=q at hm;refine⟨_,_,rfl,rfl,?_⟩;have e3:((((aM kk (bT al bl)).take (i+1)).filter λq=>!pyEq (gv al q) (gv bl q)).map λq=>(q,gv al q,gv bl q)).map tr=((((aM kk (bT al bl)).take i).filter λq=>!pyEq (gv al q) (gv bl q)).map λq=>(q,gv al q,gv bl q)).map tr++(if !pyEq (gv al q) (gv bl q)then[.tup [kE q,gv al q,gv bl q]]else[]):=by
   rw[wm _ hi,hq,Ij,Ij];cases !pyEq (gv al q) (gv bl q)<;>rfl
  rw[e3];have ll:(((((aM kk (bT al bl)).take i).filter λq=>!pyEq (gv al q) (gv bl q)).map λq=>(q,gv al q,gv bl q)).map tr).length<=126:=by
   rw[Hx,Hx];refine G3 (JC _ _) ?_;rw[Ho];omega
  exact us q hm _ ll kk'
 ·rintro ρ' rfl;rw[Hx];rw[IL (show(aM kk (bT al bl)).length<=_ from Hi _)];unfold chg;simp! only[]
theorem ko{d:D}(h:Ok 8 d):ka d d=some (.bl false):=by
 rw[wW h h,eN];rfl
theorem pD{σ:bq}{n:Nat}{cs:List Cg}(h:Ch σ n cs)(hn:n<=900):bz bM 2 3 [.tup (cs.map tr),.lst (cs.map tr)]=.ok (.bl true):=by
 have ln:=h.ln;have rg:=eR cs.length `o;have i0:xk "tuple" (.tup (cs.map tr))=some (.bl true):=rfl;have g1:gb [.tup (cs.map tr)]=some (.int cs.length):=by rw[show gb [.tup (cs.map tr)]=some (.int (cs.map tr).length)from rfl,Hx]
 have g2:gb [.lst (cs.map tr)]=some (.int cs.length):=by rw[show gb [.lst (cs.map tr)]=some (.int (cs.map tr).length)from rfl,Hx]
 have n0:=ko (jw 8 cs.length);obtain⟨B,hB⟩:∃F:bN,F=(bg (jb (yi (lQ (dU (qi "tuple" (f2 bb (aa 0) (aa 2))))) (yi (fB (f2 ka (fL gb (ae (f2 bb (aa 0) (aa 2)) ak)) (fC (.int 3)))) (fB (f2 ka (f2 bb (aa 0) (aa 2)) (f2 bb (aa 1) (aa 2)))))) (cx (fC (.bl false))) cj) (bg (jb (lQ (dU (qi "tuple" (f2 bb (f2 bb (aa 0) (aa 2)) (fC (.int 0)))))) (cx (fC (.bl false))) cj) (fQ [2] cj))):=⟨_,rfl⟩
 rw[oz];unfold bM;rw[<-hB];simp! only[i0,g1,g2,n0,rg];refine oI (Q:=λx=>x=.ok (.bl true)) (λi ρ=>ρ=[‹.tup (cs.map tr)›,‹.lst (cs.map tr)›,none]) ?_ rfl ?_
 ·rintro i d ρ kk' hd rfl;obtain⟨k,hk,rfl⟩:=iB (Hv hd);rw[show(0:Int)+(k:Int)=(k:Int)by omega];have ix:iC (cs.map tr) (k:Int)=some (tr cs[k]):=by
   rw[oF,lL hk];rfl
  have ok:=Ek h _ (IH hk);generalize cs[k]=c at ix ok;have n3:=ko (ok.le (show 4<=8 by decide));have i3:xk "tuple" (tr c)=some (.bl true):=rfl;have i4:xk "tuple" (kE c.1)=some (.bl true):=rfl;have g3:gb [tr c]=some (.int 3):=rfl;have n4:=ko (jw 8 3);refine⟨_,_,rfl,rfl,?_⟩;rw[hB];have j1:=FD (cs.map tr) k;have j2:=D7 (cs.map tr) k;rw[ix]at j1 j2;have j3:bb (tr c) (.int 0)=some (kE c.1):=lq _ _;generalize kE c.1=E at j3 i4;generalize tr c=T at j1 j2 j3 i3 g3 n3;simp! only[j1,j2,j3,i3,i4,g3,n3,n4]
 ·rintro ρ' rfl;simp! only[]
theorem DY{m:Nat}(m1:1<=m)(c:Int):sg m c≠[]:=by
 obtain⟨k,rfl⟩:∃k,m=k+1:=⟨m-1,by omega⟩
 unfold sg;rw[HX];exact List.cons_ne_nil _ _
theorem CD{m:Nat}(m3:m<=3)(c:Int):(sg m c).length=m:=by
 unfold sg;rw[Ho]
 simp;omega
theorem su{σ:bq}{n:Nat}{al bl:cE}(h1:Tb σ n al)(h2:Tb σ n bl):chg (jX al) (jX bl)=chg al bl:=by
 have e:aM kk (bT (jX al) (jX bl))=aM kk (bT al bl):=mD (σ:=σ) (kn (dS h1).nd (dS h2).nd) (kn h1.nd h2.nd) (kj (dS h1) (dS h2)) λq=>by
  rw[oU,oU,iE,iE,(aE kk _).mem_iff,(aE kk _).mem_iff]
 unfold chg;rw[e];simp only[Bj]
theorem xX(al:cE):chg al al=[]:=by
 unfold chg;rw[List.filter_eq_nil_iff.mpr λq _=>by rw[eN];exact Hg];rfl
theorem v4(σ:bq)(n:Nat):Tb σ n []:=⟨λp hp=>(nomatch hp),HQ,HP _,λp hp=>(nomatch hp)⟩
theorem math(ns:List Int)(hl:ns.length<=63):bz jW 1 6 [.lst (ns.map .int)]=.ok (.bl true):=by
 have c0:=tJ ns 0;rw[<-sP]at c0;have c0:bz aW 2 2 [.lst (ns.map .int),.int 0]=.ok (.int (ns.getD 0 0)):=c0;obtain⟨m,em,m3⟩:∃m:Nat,1+ns.getD 0 0%3=(m:Int)/\1<=m/\m<=3:=⟨(1+ns.getD 0 0%3).toNat,by omega,by omega,by omega⟩
 obtain⟨r,er,r3⟩:∃r:Nat,ns.getD 0 0/3%4=(r:Int)/\r<=3:=⟨(ns.getD 0 0/3%4).toNat,by omega,by omega⟩
 obtain⟨as,ea,al,at'⟩:=uy ns m m3.1 m3.2 r r3 2 (by decide) (by decide) hl;have h0:=DY m3.1 (ns.getD 0 0/16);have hm:=CD m3.2 (ns.getD 0 0/16);generalize sg m (ns.getD 0 0/16)=σ at h0 hm at';obtain⟨a,b,rfl⟩:∃a b,as=[a,b]:=by
  rcases as with _|⟨a,_|⟨b,_|⟨e,r⟩⟩⟩<;>first|exact⟨_,_,rfl⟩|(exfalso;simp at al)
 have ta:=at' a (by simp);have tb:=at' b (by simp);have q1:=pL h0 ta;have q2:=pL h0 tb;have k1:=fj h0 (dS ta) (dS tb) hm;have k2:=fj h0 (dS tb) (dS ta) hm;have k3:=fj h0 (dS ta) (dS ta) hm;have k4:=fj h0 (v4 σ 63) (v4 σ 63) hm;rw[su ta tb]at k1;rw[su tb ta]at k2;rw[xX]at k3 k4;have k4:bz bI 3 6 [.int m,.tup [],.tup []]=.ok (.tup []):=k4;have k3:bz bI 3 6 [.int m,.tup ((jX a).map (·.2)),.tup ((jX a).map (·.2))]=.ok (.tup []):=k3;have d1:=xC h0 ta tb;have d2:=xC h0 tb ta;have r1:=pD (wG ta tb) (by decide);have r2:=pD (wG tb ta) (by decide);have ne:ka (.tup []) (.tup [])=some (.bl false):=ko (jz (n:=7) λx hx=>(nomatch hx));have Gn:fS []=some (.tup []):=nr rfl;have mt:fS [.tup ((jX a).map (·.2)),.tup ((jX b).map (·.2))]=some (.tup [.tup ((jX a).map (·.2)),.tup ((jX b).map (·.2))]):=lJ (by simp);have ea:bz bE 4 9 [.lst (ns.map .int),.int m,.int r,.int 2]=.ok (.lst [bv a,bv b]):=ea;have un:∀x1 x2:Option S,EB 2 (wv [3,4]) (.lst [bv a,bv b]) [‹.lst (ns.map .int)›,x1,x2,none,none,none]=some [‹.lst (ns.map .int)›,x1,x2,‹bv a›,‹bv b›,none]:=λ_ _=>rfl;have uu:∀(f:FX)(g:GF)(k:Ks)(ρ:af),zp f g k ρ=me (f ρ) k ρ λd=>(rO (g d ρ)).bind k.nx:=λ_ _ _ _=>nr rfl;rw[rj];unfold jW;generalize (jX a).map (·.2)=R1 at *;generalize (jX b).map (·.2)=R2 at *;generalize (chg a b).map tr=C1 at *;generalize (chg b a).map tr=C2 at *;generalize bv a=A1 at *;generalize bv b=A2 at *;simp! only[c0,gm 3,gd 3,gm 4,em,er,ea,uu,un,q1,q2,mt,Gn,k1,k2,k3,k4,d1,d2,r1,r2,ne]
end Tk10
open PySem PySem.W PyProof.Rows
set_option maxRecDepth 100000 in
set_option maxHeartbeats 0 in
theorem PySem.Challenge.cw_twoglass_k10_changes_of_two_tables_holds : PySem.Challenge.rw_twoglass_k10_changes_of_two_tables.Holds := by
  refine hd10 ?_
  k_fill
  refine Tk10.walk (l := PySem.Challenge.rw_twoglass_k10_changes_of_two_tables) rfl rfl (fun w h Y => PySem.W.kIn_of Y) ?F Tk10.math
  case F =>
    intro w mg fa h KX G hmg
    refine' Tk10.all_mk KX G hmg ?a0 ?l0 ?c0 ?k0 ?dd0 ?zz
    case a0|l0|c0|k0 => first|delta TX.Lk;k_is|k_is
    case dd0 => (repeat (refine' TX.KDs.mk (TX.KD.mk ?a ?l ?c ?k) ?_;(case a|l|c|k => first|delta TX.Lk;k_is|k_is)));trivial
    case zz => (repeat (refine TX.KZs.mk (by k_is) ?_));trivial
