import PyProof.Rows.All
import Wide.All
import OpenK.AllK
import Wide.FinOn
import Lean
import PyProof.EqAt
import PyProof.EqKinds
import PyProof.TupleCall
import PySem.Challenge.RW_floodtree_k23_whole_tree_by_lines
set_option Elab.async false
set_option linter.all false
set_option maxRecDepth 100000
set_option bootstrap.genMatcherCode false
set_option genSizeOf false
set_option genInjectivity false
set_option tactic.hygienic false
noncomputable section
open PySem renaming wpAny_bind→Z0,wpAny_pure→Z6,Spec→X7,sizeLine→W3,starEach→V1,sizeLine_eq→V6,Program→U7,SetTable→T1,wpAny_holding→S7,Builtin→R7,wpAny_mono→R8,wpAny_call_entry→Q5,mainGlobals→Q9,mem_of_lookup→P0,bootBuiltins→O1,compareOp→O4,wpAny_truthy_bool→O8,wpAny_newObj_type→O9,codeAny_builtin→N6,sysModules→L5,plainId_quiet→K2,wpAny_callSpecial?_slot→K7,NameKind→J0,wpAny_tryCatch→J2,DictEntry→G1,wpAny_Call_Name_kw→G3,wpAny_typeNameOfWhole_keyiter→F8,wpAny_rule→E4,wpAny_updateSeq→E7,wpAny_seqItems→D8
open PySem.W renaming Frag→Z3,kitOne→O5,fnOf→N0,findIn→M6,keepIn→M7,kia_one→M8,emptyDict→L7,instObj→E3,codeIn→D7
open PySem.Heap renaming get?_push_of_some→Z4,lt_size→Y8,get?_push_size→X0,get?_update_ne→V8,SameBut→T3,get?_update_self→Q7,size_push→K9
open Option.some renaming inj→Z5
open List renaming getElem?_eq_some_iff→Z7,length_map→Z8,getElem?_eq_getElem→Z9,toArray→Y0,mem_cons→Y4,mem_singleton→Y5,size_toArray→Y6,getElem?_append_right→Y7,length_append→Y9,mem_append_right→X1,getElem?_map→X2,append_assoc→X3,range→X5,getElem?_append_left→X9,take_append_drop→W4,map_cons→W5,mem_map→W6,mem_cons_of_mem→W7,pairwise_append→W8,append_nil→W9,mem_of_getElem?→V3,mem_append→V4,length_cons→V9,mem_cons_self→U0,length_range→U1,map_append→U4,map_map→T4,map_congr_left→T6,length_filter_le→T8,mem_filter→S6,replicate→R0,length_take→R5,getElem?_take_of_lt→Q3,getElem?_toArray→Q8,getElem_of_mem→P7,mem_append_left→P8,take_append_getElem→O0,take_length→O6,take_of_length_le→N3,length_set→N5,mem_range→M5,pairwise_map→L9,length_drop→K4,getElem?_set→J3,getElem?_range→J5,lookup→J6,pairwise_iff_getElem→J9,drop_eq_getElem_cons→G0,any_eq_true→G4,any_cons→G6,mem_of_mem_drop→G9,mem_of_mem_take→F7,find?_cons→E6,length_take_le→D0,lookup_cons→D6,getElem?_drop→D9
open Bool renaming false_ne_true→Y3,eq_iff_iff→V5,false_eq_true→Q6,and_eq_true→K5
open PyProof.Rows renaming wpS_bind→X4,wpS_pure→X8,wpS_forRange→N2,callWith_type1→M0,get?_update_seq→J7,IntsAre→F9
open PySem.Obj renaming mapSeq→X6,data_mapFields→N1
open Int renaming toNat_natCast→W0,ofNat_lt→M3,natCast_add→J8
open Array renaming length_toList→V7,getElem?_eq_getElem→U3,getElem?_eq_none→D3
open Nat renaming lt_succ_self→U2,zero_le→U5,le_add_right→U9,not_lt→T5,le_antisymm→T9,lt_succ_of_lt→R4,mul_le_mul_right→R9,add_sub_cancel_left→Q0,le_succ→Q2,min_eq_left→O3,lt_irrefl→O7,le_of_lt_succ→M1,ne_of_gt→M9,le_succ_of_le→L8,not_lt_zero→K3,succ_le_succ→K6,mul_le_mul→J4,lt_or_ge→G8,add_le_add_left→E9,le_of_not_lt→D5
open PySem.Value renaming ref→U6,int→M4,none→K8
open Option renaming map_eq_some_iff→U8
open PySem.F renaming plain_min_loop→T0,plainAttrs_list→S8,slot_dict_keyiterator_next→N4,slot_list_append→N8,type_list_append→N9,entry_min_loop→J1,slot_dict_setdefault→E8
open PySem.PassesOwn renaming never→T2
open PySem.Heap.SameBut renaming update→T7
open PySem.SetTable renaming below→R3
open Ne renaming symm→R6
open PySem.Around renaming under_plainId→Q4
open PySem.SeqAt renaming EqAt→P9
open Int.ofNat renaming inj→N7
open False renaming elim→L6
open PySem.PyData renaming eqvAll→K1
open PySem.Calls renaming spliced_cons→G2,callWith_builtin→D1
open PySem.Str renaming ofString→G7
open Exists renaming elim→F6
open True renaming intro→E5
open PySem.Builtin.Builtins renaming bindParams→D2
open PySem.NameKind renaming free→D4
abbrev ZX:=PySem.Value->PySem.Shared->Prop
abbrev ZW:=List Int
abbrev ZU:=List Nat
abbrev ZT:=List PySem.Value
abbrev ZO:=List (PySem.Addr×PySem.Obj)
abbrev ZN:=PySem.Str->Option PySem.Value
abbrev ZM:=List (List Int)
abbrev ZL:=Nat->Nat
abbrev ZK:=Nat->Nat->Prop
abbrev ZJ:=List PySem.Str
abbrev ZI:=Option Int
abbrev ZH:=List (PySem.Str×Nat)
abbrev ZG:=Int×Int
abbrev ZF:=PySem.Addr->Prop
abbrev ZE:=(List Int)
abbrev ZD:=List (Int×Int)
abbrev ZC:=Nat->Option (Nat×Nat)
abbrev ZA:=List (Option Int)
abbrev Zz:=List PySem.Addr
abbrev Zy:=Array (Int×PySem.Value)
abbrev Zx:=Int->Option (Int×Int)
abbrev Zw:=List (PySem.Str×PySem.Addr)
abbrev Zv:=List (Int×Int×Int)
abbrev Zu:=(Int×Int)
abbrev Zt:=Nat->Prop
abbrev Zs:=Nat->Option Nat
abbrev Zr:=Option PySem.Addr
abbrev Zq:=Nat->Nat->Bool
abbrev Zp:=Array PySem.Value
abbrev Zo:=Option PySem.Value->PySem.Shared->Prop
abbrev Zn:=Array Nat
abbrev Zm:=List (List Nat)
abbrev Zl:=List (Int×List Int)
abbrev Zk:=Nat->List Nat
abbrev Zj:=List (PySem.Str×PySem.Value)
abbrev Zi:=Bool->PySem.Shared->Prop
abbrev Zh:=List PySem.Value->PySem.Shared->Prop
abbrev Zg:=Option (Int×Int)
abbrev Zf:=List (Nat×Nat×Nat)
namespace L2
theorem iu(h:True:=by decide):True:=trivial
theorem a1q(h:True:=by intro _;rfl):True:=trivial
theorem cY(h:True:=by rfl):True:=trivial
theorem a3q(h:True:=by with_unfolding_all rfl):True:=trivial
theorem a4q(h:True:=by trivial):True:=trivial
open PySem PySem.Spec PyProof.Rows
def inClass(s:Stmt)(j:Nat):Stmt:=match s with
 |.ClassDef _ _ _ body _ _ _ _ _ _ _=>body.getD j<|.Pass ⟨0,0,0,0⟩
 |_=>.Pass ⟨0,0,0,0⟩
def cz(s:Stmt):Arguments:=match s with
 |.FunctionDef _ a _ _ _ _ _ _ _ _=>a
 |_=>{posonlyargs:=[],args:=[],vararg:=none,kwonlyargs:=[],kw_defaults:=[],kwarg:=none,defaults:=[]}
def bp(s:Stmt):List Stmt:=match s with
 |.FunctionDef _ _ b _ _ _ _ _ _ _=>b
 |_=>[]
def ah(s:Stmt):Scope:=match s with
 |.FunctionDef _ _ _ _ _ _ sc _ _ _=>sc
 |_=>{kind:=.function,names:=[],isGenerator:=false,isCoroutine:=false}
end L2
namespace Hd
open PySem PySem.W
def odds:List Obj->List Obj
 |[]=>[]
 |[a]=>[a]
 |a ::_ ::l=>a ::odds l
def ofL:Nat->List Obj->BT
 |0,_=>.nil
 |_+1,[]=>.nil
 |n+1,v ::l=>.node v (ofL n<|odds l)<|ofL n<|odds l.tail
def an:Option Value:=some<|.ref 6
def z:Pos:=⟨0,0,0,0⟩
def s0(w:World)(os:OsState):Shared:=⟨boot_heap w.params,Array.mk [],boot_drawn,boot_toks,os⟩
section
variable (p:U7)
def ob(w:World)(os:OsState):List Obj:=((topGo treeTable p w 11 an 12 (s0 w os)<|topStub p).map λr=>r.1.heap.objs.toList).getD []
def sa(w:World)(os:OsState):Shared:=⟨⟨⟨ob p w os⟩,{}⟩,#[],{},187,os⟩
def sb(w:World)(os:OsState):SharedT:=⟨ofL 20<|ob p w os,15,{},#[],{},187,os⟩
def en:Env:={scope:=p.main.scope,locals:=mainNs,globals:=mainNs,cells:=[],code:=.ref 13,frame:=some 14}
def cE:Code:=.body (behindTheImports p)<|en p
abbrev B:List Frame:=[topFrame z]
def rn(M:Nat)(w:World)(os:OsState):=segRunT treeTable p w 11 an 1 M (sb p w os)<|piecesOf (behindTheImports p) (en p) (cE p) z B
variable {q:U7}{l:ZJ}{X:Shared->Bool}{α:Type}{Yf:Shared->α}{Ya:World->α}{N M:Nat}{e:Pos}
theorem fin(w:World)(s:Shared)(c:Code)(e:Pos):topRun treeTable p w 11 an 2 s ⟨doneF .next,c,e,B⟩=some s:=rfl
theorem left(h1:opening p=plainProg p.main.scope.names)(h2:∀s,fenceModules? p s=some s)(h3:Nat.ble 600 N=true)(h4:Nat.ble (12+(1+(M+2))) N=true)(h5:∀w os,topGo treeTable p w 11 an 12 (s0 w os) (topStub p)=some (sa p w os,⟨denote treeTable<|cE p,cE p,z,B⟩))(h6:∀w os,segRun treeTable p w 11 an 1 1 (sa p w os) (blockOf (behindTheImports p) (en p) (cE p) z B)=some (.next,(sb p w os).abs,cE p,z))(h7:∀w os,(rn p M w os).map (λr=>(r.1,r.2.2.1,r.2.2.2,staticsOk (importedModules p.main.body) (boot_heap w.params) r.2.1.abs.heap&&namesBound p r.2.1.abs.heap&&gensDone r.2.1.abs&&laidKept (boot_heap w.params) r.2.1.abs.heap,
   openSeen q l (importedModules p.main.body) X true r.2.1.abs,Yf r.2.1.abs))=some (.next,cE p,e,true,openGood q l,Ya w)):LeftO p q l X Yf Ya N:=λw=>by
 obtain⟨⟨h,gs,d,k,os⟩,e1,e2⟩:=U8.mp<|boot_open h1 h3 h2 w;obtain⟨rfl,rfl,rfl,rfl⟩:h=boot_heap w.params/\gs=Array.mk []/\d=boot_drawn/\k=boot_toks:=by simpa using e2
 obtain⟨⟨f,s,c,e'⟩,r1,r2⟩:=U8.mp<|h7 w os;simp only[Prod.mk.injEq]at r2;obtain⟨rfl,rfl,rfl,r3,r4,r5⟩:=r2;have k1:=piece_app (rest:=[]) (segRun_of r1)<|piece_nil<|fin p w s.abs (cE p) e';rw[W9]at k1;have r:=topRun_mono (N-(12+(1+(M+2)))) _ _ _ _<|go_top (h5 w os)<|piece_block (h6 w os) k1;rw[Nat.add_sub_cancel' (Nat.le_of_ble_eq_true h4)]at r;unfold openEnds;rw[e1];show ((topFrom treeTable p w N _).map _)=_;have t:topFrom treeTable p w N ⟨boot_heap w.params,Array.mk [],boot_drawn,boot_toks,os⟩=some s.abs:=by unfold topFrom;rw[show ((boot_heap w.params).isNs Q9&&(Array.mk []:Array GenState).size==0)=true by kernel_rfl,show (boot_heap w.params).objs.size=11 by kernel_rfl,show (boot_heap w.params).nsMap Q9 "__annotations__"=an by kernel_rfl];show (topRun treeTable p w 11 an N (s0 w os)<|topStub p).bind _=_;rw[r];show (match staticsOk (importedModules p.main.body) (boot_heap w.params) s.abs.heap&&namesBound p s.abs.heap&&gensDone s.abs&&laidKept (boot_heap w.params) s.abs.heap with|true=>some s.abs|false=>none)=_;rw[r3]
 rw[t];show some (_,_)=some (_,_);rw[r4,r5]
theorem run(M:Nat):rn p M=λw os=>PySem.W.Fast.tw10110043849684766642 PySem.W.Fast.tw14364793385576792824 p w 11 an 1 M (sb p w os) (piecesOf (behindTheImports p) (en p) (cE p) z B):=by unfold rn;rw[PySem.W.Fast.te10110043849684766642,PySem.W.Fast.te14364793385576792824]
end
theorem head{l:OpenLaw}{q:U7}{H:Hook}{d:DefRec}{N:Nat}(ws:l.wellSaid=true)(lf:LeftO l.row.prog q [] (λs=>xlAt q [] s&&recOk l.row.records s) H.obs H.val N)(e1:defOf q l.row.name=some (d,[]))(e2:l.row.prog.theDef l.row.name=some (d.params,d.body,d.scope))(e3:kwWritten? d.params.kwonlyargs d.params.kw_defaults=some [])(e4:(!l.row.writes || l.row.records.isEmpty)=true)(e5:(chainsOk q&&opensWell l.row.prog&&(frees l.row.toRowW&&l.row.within.isEmpty))=true)(e6:l.row.prog.bare)(e7:l.row.toRowW.promised)(c:WalkO q [] (XL q []) H.says l.row.toRowW d [] λf vs=>PySem.call f vs):l.Holds :=
 holds_law ws λk=>holds_open lf H.of H.keeps (λs e=>xl_of s (Bool.and_eq_true_iff.mp e).1) XL.keeps e1 e2 e3 (λx e=>recFacts_of (Bool.and_eq_true_iff.mp e).2) e4 k e5 e6 e7 c
end Hd
namespace K23
open PySem PySem.Spec PyProof.Rows L2
def top(i:Nat):Stmt:=PySem.Challenge.pw_floodtree_k23_whole_tree_by_lines.main.body.getD i<|.Pass ⟨0,0,0,0⟩
def dn:Stmt->Str
 |.FunctionDef n ..=>n
 |_=>""
def fo(q:Stmt->Str)(st:Stmt)(c:Nat)(pm:Value):Obj:=⟨.type "function",none,.func<|N0 (dn st) (q st) (cz st) (bp st) (ah st) .none .none .none pm none (.ref c) .none,#[]⟩
def cq(q:Stmt->Str)(st:Stmt)(t l g f a b:Nat)(c d:Value)(e i m:Nat):Obj:=⟨.type "code",none,.fields #[.str (dn st) t,.str (q st) (t+1),.str "/claim/cut.py" (t+2),.int l 0,.int g 0,.int 0 0,.int 0 0,.int f 0,.ref a,.bool true,.int 181 0,.ref b,.none,c,d,.ref e,.int i 0,.int l 0,.str "/claim/cut.py" m],#[]⟩
def fA:=fo dn
def cA(st:Stmt)(t l g a i:Nat):Obj:=cq dn st t l g 3 a (a+1) (.ref<|a+2) (.ref<|a+3) (a+4) i<|i+1
def cB(st:Stmt)(t l g a i:Nat):Obj:=cq dn st t l g 3 a (a+1) .none .none (a+2) i<|i+1
def ne(P:Params)(n:Str)(t:Nat)(v:Value):G1:=⟨PyData.keyHash P n,.str n t,v⟩
def d3_0(P:Params):List G1:=[ne P "__name__" 165 (.str "law_floodtree_k23_whole_tree_by_lines" 447),ne P "__doc__" 166 .none,ne P "__package__" 167 .none,ne P "__loader__" 168 (.builtin "__main__.__loader__#opaque"),ne P "__spec__" 169 .none,ne P "__annotations__" 170 (.ref 6),ne P "__builtins__" 171 (.ref 4),ne P "__file__" 173 (.str "/claim/cut.py" 172)]
def d3_8(P:Params):List G1:=[ne P "__cached__" 174 .none,ne P "_wall" 193 (.ref 21),ne P "size_of" 203 (.ref 28),ne P "neighbours" 218 (.ref 35),ne P "height_of" 227 (.ref 42),ne P "all_cells" 235 (.ref 49),ne P "order_key" 243 (.ref 56),ne P "comes_before" 252 (.ref 63)]
def d3_16(P:Params):List G1:=[ne P "earliest_of" 261 (.ref 70),ne P "in_order" 269 (.ref 77),ne P "Meetings" 322 (.ref 111),ne P "Water" 375 (.ref 149),ne P "water_over" 386 (.ref 160),ne P "tree_of" 392 (.ref 165),ne P "fall_of" 405 (.ref 172),ne P "falls_of" 411 (.ref 177)]
def d3_24(P:Params):List G1:=[ne P "basins_of" 417 (.ref 182),ne P "pairs_at" 423 (.ref 187),ne P "lines_of" 429 (.ref 192),ne P "bottoms_by_cell" 440 (.ref 199),ne P "tree_by_lines" 446 (.ref 204),ne P "_law_cell_at" 456 (.ref 211),ne P "_law_number" 468 (.ref 218),ne P "_law_height" 480 (.ref 225)]
def d3_32(P:Params):List G1:=[ne P "_law_digits" 491 (.ref 232),ne P "_law_floor" 497 (.ref 237),ne P "_law_keys" 503 (.ref 242),ne P "_law_near" 521 (.ref 249),ne P "_law_whole" 529 (.ref 256),ne P "_law_numbers" 539 (.ref 263),ne P "_law_tuples" 549 (.ref 270),ne P "_law_tree" 555 (.ref 275)]
def d3_40(P:Params):List G1:=[ne P "_law_other_order" 568 (.ref 282),ne P "law" 574 (.ref 287)]
def d110_0(P:Params):List G1:=[ne P "__module__" 279 (.str "floodtree.lakes" 270),ne P "__firstlineno__" 283 (.int 33 282),ne P "__init__" 291 (.ref 91),ne P "living" 300 (.ref 98),ne P "let_meet" 306 (.ref 103),ne P "tree" 312 (.ref 108),ne P "__static_attributes__" 315 (.ref 109),ne P "__dict__" 317 (.ref 112)]
def d110_8(P:Params):List G1:=[ne P "__weakref__" 319 (.ref 113),ne P "__doc__" 320 .none]
def d148_0(P:Params):List G1:=[ne P "__module__" 330 (.str "floodtree.lakes" 270),ne P "__firstlineno__" 334 (.int 55 333),ne P "__init__" 340 (.ref 127),ne P "start_now" 348 (.ref 134),ne P "homes_around" 354 (.ref 139),ne P "let_come" 363 (.ref 146),ne P "__static_attributes__" 368 (.ref 147),ne P "__dict__" 370 (.ref 150)]
def d148_8(P:Params):List G1:=[ne P "__weakref__" 372 (.ref 151),ne P "__doc__" 373 .none]
def pm0:Value:=.str "floodtree.cells" 194
def yc:Value:=.str "floodtree.lakes" 270
def Cq:Value:=.str "floodtree.basins" 393
def yd:Value:=.str "law_floodtree_k23_whole_tree_by_lines" 447
def fK(P:Params):Z3:=(nat_lit 3,⟨(.type "dict"),none,.dict ((d3_0 P)++(d3_8 P)++(d3_16 P)++(d3_24 P)++(d3_32 P)++(d3_40 P)).toArray 42,#[]⟩) ::
 (nat_lit 27,cA (top 2) 196 5 1 22 201) ::
 (nat_lit 28,fA (top 2) 27 pm0) ::
 (nat_lit 34,cA (top 3) 204 8 3 29 216) ::
 (nat_lit 35,fA (top 3) 34 pm0) ::
 (nat_lit 41,cA (top 4) 219 18 2 36 225) ::
 (nat_lit 42,fA (top 4) 41 pm0) ::
 (nat_lit 48,cA (top 5) 228 21 1 43 233) ::
 (nat_lit 49,fA (top 5) 48 pm0) ::
 (nat_lit 55,cA (top 6) 236 24 2 50 241) ::
 (nat_lit 56,fA (top 6) 55 pm0) ::
 (nat_lit 62,cA (top 7) 244 26 3 57 250) ::
 (nat_lit 63,fA (top 7) 62 pm0) ::
 (nat_lit 69,cA (top 8) 253 28 2 64 259) ::
 (nat_lit 70,fA (top 8) 69 pm0) ::
 (nat_lit 76,cA (top 9) 262 30 1 71 267) ::
 (nat_lit 77,fA (top 9) 76 pm0) ::
 (nat_lit 90,cq (λx=>"Meetings.__init__") (inClass (top 11) 0) 284 35 2 3 85 86 (.ref 87) (.ref 88) 89 289 290) ::
 (nat_lit 91,fo (λx=>"Meetings.__init__") (inClass (top 11) 0) 90 yc) ::
 (nat_lit 97,cq (λx=>"Meetings.living") (inClass (top 11) 1) 292 39 2 3 92 93 (.ref 94) (.ref 95) 96 298 299) ::
 (nat_lit 98,fo (λx=>"Meetings.living") (inClass (top 11) 1) 97 yc) ::
 (nat_lit 102,cq (λx=>"Meetings.let_meet") (inClass (top 11) 2) 301 45 3 3 99 100 .none .none 101 304 305) ::
 (nat_lit 103,fo (λx=>"Meetings.let_meet") (inClass (top 11) 2) 102 yc) ::
 (nat_lit 107,cq (λx=>"Meetings.tree") (inClass (top 11) 3) 307 53 2 3 104 105 .none .none 106 310 311) ::
 (nat_lit 108,fo (λx=>"Meetings.tree") (inClass (top 11) 3) 107 yc) ::
 (nat_lit 110,⟨(.type "dict"),none,.dict ((d110_0 P)++(d110_8 P)).toArray 4,#[]⟩) ::
 (nat_lit 111,⟨(.type "type"),none,.cls ⟨"Meetings",[(.type "object")],[(.ref 111),(.type "object")],110,"Meetings",true,[],[],false,none,false⟩,#[none,none,(some<|.str "Meetings" 272),(some<|.str "Meetings" 280),(some<|.builtin "object.__new__"),(some<|.bool true)]⟩) ::
 (nat_lit 126,cq (λx=>"Water.__init__") (inClass (top 12) 0) 335 57 3 3 123 124 .none .none 125 338 339) ::
 (nat_lit 127,fo (λx=>"Water.__init__") (inClass (top 12) 0) 126 yc) ::
 (nat_lit 138,cq (λx=>"Water.homes_around") (inClass (top 12) 2) 349 66 2 3 135 136 .none .none 137 352 353) ::
 (nat_lit 139,fo (λx=>"Water.homes_around") (inClass (top 12) 2) 138 yc) ::
 (nat_lit 145,cq (λx=>"Water.let_come") (inClass (top 12) 3) 355 70 2 3 140 141 (.ref 142) (.ref 143) 144 361 362) ::
 (nat_lit 146,fo (λx=>"Water.let_come") (inClass (top 12) 3) 145 yc) ::
 (nat_lit 148,⟨(.type "dict"),none,.dict ((d148_0 P)++(d148_8 P)).toArray 4,#[]⟩) ::
 (nat_lit 149,⟨(.type "type"),none,.cls ⟨"Water",[(.type "object")],[(.ref 149),(.type "object")],148,"Water",true,[],[],false,none,false⟩,#[none,none,(some<|.str "Water" 323),(some<|.str "Water" 331),(some<|.builtin "object.__new__"),(some<|.bool true)]⟩) ::
 (nat_lit 159,cA (top 13) 376 73 3 154 384) ::
 (nat_lit 160,fA (top 13) 159 yc) ::
 (nat_lit 164,cB (top 14) 387 78 2 161 390) ::
 (nat_lit 165,fA (top 14) 164 yc) ::
 (nat_lit 171,cA (top 16) 395 83 3 166 403) ::
 (nat_lit 172,fA (top 16) 171 Cq) ::
 (nat_lit 176,cB (top 17) 406 87 2 173 409) ::
 (nat_lit 177,fA (top 17) 176 Cq) ::
 (nat_lit 181,cB (top 18) 412 89 2 178 415) ::
 (nat_lit 182,fA (top 18) 181 Cq) ::
 (nat_lit 186,cB (top 19) 418 95 4 183 421) ::
 (nat_lit 187,fA (top 19) 186 Cq) ::
 (nat_lit 191,cB (top 20) 424 100 2 188 427) ::
 (nat_lit 192,fA (top 20) 191 Cq) ::
 (nat_lit 198,cA (top 21) 430 107 1 193 438) ::
 (nat_lit 199,fA (top 21) 198 Cq) ::
 (nat_lit 203,cB (top 22) 441 112 3 200 444) ::
 (nat_lit 204,fA (top 22) 203 Cq) ::
 (nat_lit 210,cA (top 24) 449 121 2 205 454) ::
 (nat_lit 211,fA (top 24) 210 yd) ::
 (nat_lit 217,cA (top 25) 457 125 3 212 466) ::
 (nat_lit 218,fA (top 25) 217 yd) ::
 (nat_lit 224,cA (top 26) 469 130 5 219 478) ::
 (nat_lit 225,fA (top 26) 224 yd) ::
 (nat_lit 231,cA (top 27) 481 137 3 226 489) ::
 (nat_lit 232,fA (top 27) 231 yd) ::
 (nat_lit 236,cB (top 28) 492 143 2 233 495) ::
 (nat_lit 237,fA (top 28) 236 yd) ::
 (nat_lit 241,cB (top 29) 498 161 1 238 501) ::
 (nat_lit 242,fA (top 29) 241 yd) ::
 (nat_lit 248,cA (top 30) 504 166 3 243 519) ::
 (nat_lit 249,fA (top 30) 248 yd) ::
 (nat_lit 255,cA (top 31) 522 177 2 250 527) ::
 (nat_lit 256,fA (top 31) 255 yd) ::
 (nat_lit 262,cA (top 32) 530 181 2 257 537) ::
 (nat_lit 263,fA (top 32) 262 yd) ::
 (nat_lit 269,cA (top 33) 540 188 2 264 547) ::
 (nat_lit 270,fA (top 33) 269 yd) ::
 (nat_lit 274,cB (top 34) 550 195 2 271 553) ::
 (nat_lit 275,fA (top 34) 274 yd) ::
 (nat_lit 281,cA (top 35) 556 213 3 276 566) ::
 (nat_lit 282,fA (top 35) 281 yd) ::
 (nat_lit 286,cB (top 36) 569 223 1 283 572) ::
 (nat_lit 287,fA (top 36) 286 yd) :: []
theorem left:PySem.W.LeftO PySem.Challenge.pw_floodtree_k23_whole_tree_by_lines (PySem.W.view PySem.Challenge.pw_floodtree_k23_whole_tree_by_lines [0,2,3,4,5,6,7,8,9,11,12,13,14,16,17,18,19,20,21,22,24,25,26,27,28,29,30,31,32,33,34,35,36]) [] (λs=>PySem.W.xlAt (PySem.W.view PySem.Challenge.pw_floodtree_k23_whole_tree_by_lines [0,2,3,4,5,6,7,8,9,11,12,13,14,16,17,18,19,20,21,22,24,25,26,27,28,29,30,31,32,33,34,35,36]) [] s&&PySem.W.recOk PySem.Challenge.rw_floodtree_k23_whole_tree_by_lines.row.records s) (PySem.W.Hook.obs<|PySem.W.kmHook fK [3,27,28,34,35,41,42,48,49,55,56,62,63,69,70,76,77,90,91,97,98,102,103,107,108,110,111,126,127,138,139,145,146,148,149,159,160,164,165,171,172,176,177,181,182,186,187,191,192,198,199,203,204,210,211,217,218,224,225,231,232,236,237,241,242,248,249,255,256,262,263,269,270,274,275,281,282,286,287] (λx=>by kernel_rfl) [65,72]) (PySem.W.Hook.val<|PySem.W.kmHook fK [3,27,28,34,35,41,42,48,49,55,56,62,63,69,70,76,77,90,91,97,98,102,103,107,108,110,111,126,127,138,139,145,146,148,149,159,160,164,165,171,172,176,177,181,182,186,187,191,192,198,199,203,204,210,211,217,218,224,225,231,232,236,237,241,242,248,249,255,256,262,263,269,270,274,275,281,282,286,287] (λx=>by kernel_rfl) [65,72]) 20000:=by
 refine Hd.left (M:=10000) (e:=⟨223,0,240,90⟩) _ ?_ (λx=>?_) rfl rfl (λx x=>?_) (λx x=>?_) ?h
 case h =>
  rw[Hd.run,PySem.W.Fast.te4187177175401517315];intro w os;kernel_rfl
 all_goals kernel_rfl
end K23
theorem cf{a b c:Nat}(h:a<b)(k:b<=c):a<c:=Nat.lt_of_lt_of_le h k
theorem eU{a b c:Nat}(h:a<=b)(k:b<c):a<c:=Nat.lt_of_le_of_lt h k
theorem bM{a b:Nat}(h:a=b):a<=b:=Nat.le_of_eq h
theorem aR{a b c:Nat}(h:a<=b)(k:b<=c):a<=c:=Nat.le_trans h k
theorem ci{a b:Nat}(h:a<b):a<=b:=Nat.le_of_lt h
theorem bi(n:Nat):n<=n:=Nat.le_refl n
theorem dB{a b:Nat}(h:a<b):a≠b:=Nat.ne_of_lt h
theorem hU{a b c:Nat}(h:a<b)(k:b<c):a<c:=Nat.lt_trans h k
theorem sH{α β γ:Type}(x:Option α)(f:α->Option β)(g:β->Option γ):(x.bind f).bind g=x.bind λy=>(f y).bind g:=Option.bind_assoc x f g
theorem cT{α β:Type}(a:α)(f:α->Option β):(some a).bind f=f a:=rfl
theorem uS{p q:Prop}{Q:Prop}(h:p/\q)(f:p->q->Q):Q:=f h.1 h.2
theorem zI{p q r:Prop}{Q:Prop}(h:p/\q/\r)(f:p->q->r->Q):Q:=f h.1 h.2.1 h.2.2
theorem oq04{p q r s:Prop}{Q:Prop}(h:p/\q/\r/\s)(f:p->q->r->s->Q):Q:=f h.1 h.2.1 h.2.2.1 h.2.2.2
theorem dI{A:Type}{p:A->Prop}{Q:Prop}(h:∃a,p a)(f:∀a,p a->Q):Q:=h.elim λa h=>f a h
theorem aU{A:Type}{p q:A->Prop}{Q:Prop}(h:∃a,p a/\q a)(f:∀a,p a->q a->Q):Q:=h.elim λa h=>f a h.1 h.2
theorem cM{A:Type}{p q r:A->Prop}{Q:Prop}(h:∃a,p a/\q a/\r a)(f:∀a,p a->q a->r a->Q):Q:=h.elim λa h=>f a h.1 h.2.1 h.2.2
theorem lS{A:Type}{p q r s:A->Prop}{Q:Prop}(h:∃a,p a/\q a/\r a/\s a)(f:∀a,p a->q a->r a->s a->Q):Q:=h.elim λa h=>f a h.1 h.2.1 h.2.2.1 h.2.2.2
theorem oq15{A:Type}{p q r s t:A->Prop}{Q:Prop}(h:∃a,p a/\q a/\r a/\s a/\t a)(f:∀a,p a->q a->r a->s a->t a->Q):Q:=h.elim λa h=>f a h.1 h.2.1 h.2.2.1 h.2.2.2.1 h.2.2.2.2
theorem oq21{A B:Type}{p:A->B->Prop}{Q:Prop}(h:∃a b,p a b)(f:∀a b,p a b->Q):Q:=h.elim λa h=>h.elim λb h=>f a b h
theorem iD{A B:Type}{p q r:A->B->Prop}{Q:Prop}(h:∃a b,p a b/\q a b/\r a b)(f:∀a b,p a b->q a b->r a b->Q):Q:=h.elim λa h=>h.elim λb h=>f a b h.1 h.2.1 h.2.2
theorem oq24{A B:Type}{p q r s:A->B->Prop}{Q:Prop}(h:∃a b,p a b/\q a b/\r a b/\s a b)(f:∀a b,p a b->q a b->r a b->s a b->Q):Q:=h.elim λa h=>h.elim λb h=>f a b h.1 h.2.1 h.2.2.1 h.2.2.2
theorem oq25{A B:Type}{p q r s t:A->B->Prop}{Q:Prop}(h:∃a b,p a b/\q a b/\r a b/\s a b/\t a b)(f:∀a b,p a b->q a b->r a b->s a b->t a b->Q):Q:=h.elim λa h=>h.elim λb h=>f a b h.1 h.2.1 h.2.2.1 h.2.2.2.1 h.2.2.2.2
theorem oq26{A B:Type}{p q r s t u:A->B->Prop}{Q:Prop}(h:∃a b,p a b/\q a b/\r a b/\s a b/\t a b/\u a b)(f:∀a b,p a b->q a b->r a b->s a b->t a b->u a b->Q):Q:=h.elim λa h=>h.elim λb h=>f a b h.1 h.2.1 h.2.2.1 h.2.2.2.1 h.2.2.2.2.1 h.2.2.2.2.2
theorem oq32{A B C:Type}{p q:A->B->C->Prop}{Q:Prop}(h:∃a b c,p a b c/\q a b c)(f:∀a b c,p a b c->q a b c->Q):Q:=h.elim λa h=>h.elim λb h=>h.elim λc h=>f a b c h.1 h.2
theorem oq33{A B C:Type}{p q r:A->B->C->Prop}{Q:Prop}(h:∃a b c,p a b c/\q a b c/\r a b c)(f:∀a b c,p a b c->q a b c->r a b c->Q):Q:=h.elim λa h=>h.elim λb h=>h.elim λc h=>f a b c h.1 h.2.1 h.2.2
theorem sI{A B C:Type}{p q r s:A->B->C->Prop}{Q:Prop}(h:∃a b c,p a b c/\q a b c/\r a b c/\s a b c)(f:∀a b c,p a b c->q a b c->r a b c->s a b c->Q):Q:=h.elim λa h=>h.elim λb h=>h.elim λc h=>f a b c h.1 h.2.1 h.2.2.1 h.2.2.2
theorem oq37{A B C:Type}{p q r s t u v:A->B->C->Prop}{Q:Prop}(h:∃a b c,p a b c/\q a b c/\r a b c/\s a b c/\t a b c/\u a b c/\v a b c)(f:∀a b c,p a b c->q a b c->r a b c->s a b c->t a b c->u a b c->v a b c->Q):Q:=h.elim λa h=>h.elim λb h=>h.elim λc h=>f a b c h.1 h.2.1 h.2.2.1 h.2.2.2.1 h.2.2.2.2.1 h.2.2.2.2.2.1 h.2.2.2.2.2.2
theorem oq42{A B C D:Type}{p q:A->B->C->D->Prop}{Q:Prop}(h:∃a b c d,p a b c d/\q a b c d)(f:∀a b c d,p a b c d->q a b c d->Q):Q:=h.elim λa h=>h.elim λb h=>h.elim λc h=>h.elim λd h=>f a b c d h.1 h.2
theorem oq44{A B C D:Type}{p q r s:A->B->C->D->Prop}{Q:Prop}(h:∃a b c d,p a b c d/\q a b c d/\r a b c d/\s a b c d)(f:∀a b c d,p a b c d->q a b c d->r a b c d->s a b c d->Q):Q:=h.elim λa h=>h.elim λb h=>h.elim λc h=>h.elim λd h=>f a b c d h.1 h.2.1 h.2.2.1 h.2.2.2
theorem oq45{A B C D:Type}{p q r s t:A->B->C->D->Prop}{Q:Prop}(h:∃a b c d,p a b c d/\q a b c d/\r a b c d/\s a b c d/\t a b c d)(f:∀a b c d,p a b c d->q a b c d->r a b c d->s a b c d->t a b c d->Q):Q:=h.elim λa h=>h.elim λb h=>h.elim λc h=>h.elim λd h=>f a b c d h.1 h.2.1 h.2.2.1 h.2.2.2.1 h.2.2.2.2
theorem oq46{A B C D:Type}{p q r s t u:A->B->C->D->Prop}{Q:Prop}(h:∃a b c d,p a b c d/\q a b c d/\r a b c d/\s a b c d/\t a b c d/\u a b c d)(f:∀a b c d,p a b c d->q a b c d->r a b c d->s a b c d->t a b c d->u a b c d->Q):Q:=h.elim λa h=>h.elim λb h=>h.elim λc h=>h.elim λd h=>f a b c d h.1 h.2.1 h.2.2.1 h.2.2.2.1 h.2.2.2.2.1 h.2.2.2.2.2
theorem oq72{A B C D E G I:Type}{p q:A->B->C->D->E->G->I->Prop}{Q:Prop}(h:∃a b c d e g i,p a b c d e g i/\q a b c d e g i)(f:∀a b c d e g i,p a b c d e g i->q a b c d e g i->Q):Q:=h.elim λa h=>h.elim λb h=>h.elim λc h=>h.elim λd h=>h.elim λe h=>h.elim λg h=>h.elim λi h=>f a b c d e g i h.1 h.2
theorem qD{p q r:Prop}(h0:p)(h1:q)(h2:r):p/\q/\r:=⟨h0,h1,h2⟩
theorem qE{p q r s:Prop}(h0:p)(h1:q)(h2:r)(h3:s):p/\q/\r/\s:=⟨h0,h1,h2,h3⟩
theorem aB{A:Type}{p q:A->Prop}(a:A)(h0:p a)(h1:q a):∃a,p a/\q a:=⟨a,h0,h1⟩
theorem cZ{A:Type}{p q r:A->Prop}(a:A)(h0:p a)(h1:q a)(h2:r a):∃a,p a/\q a/\r a:=⟨a,h0,h1,h2⟩
theorem jc{A:Type}{p q r s:A->Prop}(a:A)(h0:p a)(h1:q a)(h2:r a)(h3:s a):∃a,p a/\q a/\r a/\s a:=⟨a,h0,h1,h2,h3⟩
theorem da{A B:Type}{p q r:A->B->Prop}(a:A)(b:B)(h0:p a b)(h1:q a b)(h2:r a b):∃a b,p a b/\q a b/\r a b:=⟨a,b,h0,h1,h2⟩
theorem ye{A B:Type}{p q r s t:A->B->Prop}(a:A)(b:B)(h0:p a b)(h1:q a b)(h2:r a b)(h3:s a b)(h4:t a b):∃a b,p a b/\q a b/\r a b/\s a b/\t a b:=⟨a,b,h0,h1,h2,h3,h4⟩
theorem oi79{A B C D E G I:Type}{p q r s t u v w x:A->B->C->D->E->G->I->Prop}(a:A)(b:B)(c:C)(d:D)(e:E)(g:G)(i:I)(h0:p a b c d e g i)(h1:q a b c d e g i)(h2:r a b c d e g i)(h3:s a b c d e g i)(h4:t a b c d e g i)(h5:u a b c d e g i)(h6:v a b c d e g i)(h7:w a b c d e g i)(h8:x a b c d e g i):∃a b c d e g i,p a b c d e g i/\q a b c d e g i/\r a b c d e g i/\s a b c d e g i/\t a b c d e g i/\u a b c d e g i/\v a b c d e g i/\w a b c d e g i/\x a b c d e g i:=⟨a,b,c,d,e,g,i,h0,h1,h2,h3,h4,h5,h6,h7,h8⟩
namespace L2
open PySem PySem.Spec PyProof.Rows
abbrev Key:=Sum Int Str
def pQ:Key->Value->Bool
 |.inl k,v=>Value.isInt k v
 |.inr x,v=>Value.isStrOf x v
def keyH(w:World):Key->Int
 |.inl k=>hashInt k
 |.inr x=>hashStr w x
theorem bP:∀{k:Key} {v:Value},pQ k v=true->(∃i t,k=Sum.inl i/\v=M4 i t)\/(∃x t,k=Sum.inr x/\v=Value.str x t):=λ{k v} h=>by
 cases k with
 |inl i=>exact dI (Value.isInt_shape (k:=i) (v:=v) h) λt e=>.inl ⟨i,t,rfl,e⟩
 |inr x=>exact dI (Value.isStrOf_shape (x:=x) (v:=v) h) λt e=>.inr ⟨x,t,rfl,e⟩
theorem yf(i:Int)(t:Tok):pQ (.inl i) (.int i t)=true:=by simp[pQ,Value.isInt]
theorem yg(x:Str)(t:Tok):pQ (.inr x) (.str x t)=true:=by simp[pQ,Value.isStrOf]
theorem key_ll(a b:Int):decide ((Sum.inl a:Key)=Sum.inl b)=(a==b):=by
 by_cases e:a=b
 ·subst e;simp
 ·have h:¬ (Sum.inl a:Key)=Sum.inl b:=λq=>e<|Sum.inl.inj q;rw[decide_eq_false h];exact(beq_eq_false_iff_ne.mpr e).symm
theorem key_rr(a b:Str):decide ((Sum.inr a:Key)=Sum.inr b)=decide (a=b):=by
 by_cases e:a=b
 ·subst e;simp
 ·have h:¬ (Sum.inr a:Key)=Sum.inr b:=λq=>e<|Sum.inr.inj q;rw[decide_eq_false h,decide_eq_false e]
theorem key_lr(a:Int)(b:Str):decide ((Sum.inl a:Key)=Sum.inr b)=false:=decide_eq_false λq=>nomatch q
theorem key_rl(a:Str)(b:Int):decide ((Sum.inr a:Key)=Sum.inl b)=false:=decide_eq_false λq=>nomatch q
def bX(prog:U7)(w:World):PySem.KeyKind prog w Key where
 is:=pQ
 hash:=keyH w
 inj:=λv a b ha hb=>by
  rcases bP ha with ⟨i,t,rfl,rfl⟩|⟨x,t,rfl,rfl⟩
  ·rcases bP hb with ⟨j,u,rfl,e⟩|⟨y,u,rfl,e⟩
   ·injection e with e1 _;rw[e1]
   ·exact nomatch e
  ·rcases bP hb with ⟨j,u,rfl,e⟩|⟨y,u,rfl,e⟩
   ·exact nomatch e
   ·injection e with e1 _;rw[e1]
 byValue:=λk v h=>by rcases bP h with ⟨i,t,rfl,rfl⟩|⟨x,t,rfl,rfl⟩<;>rfl
 pyHash:=λhv h=>by
  rcases bP hv with ⟨i,t,rfl,rfl⟩|⟨x,t,rfl,rfl⟩
  ·exact wpAny_pyHash_int h
  ·exact wpAny_pyHash_str h
 eqBool:=λhu hv h=>by
  rcases bP hu with ⟨i,t,rfl,rfl⟩|⟨x,t,rfl,rfl⟩
  ·rcases bP hv with ⟨j,u,rfl,rfl⟩|⟨y,u,rfl,rfl⟩
   ·rw[key_ll]at h;exact wpAny_eqBool_int h
   ·rw[key_lr]at h;exact P9.int_str i t y u _ _ _ _ h
  ·rcases bP hv with ⟨j,u,rfl,rfl⟩|⟨y,u,rfl,rfl⟩
   ·rw[key_rl]at h;exact P9.str_int x t j u _ _ _ _ h
   ·rw[key_rr]at h;exact wpAny_eqBool_str h
 «strs»:=λk x t v h=>by
  rcases bP h with ⟨i,u,rfl,e⟩|⟨y,u,rfl,e⟩
  ·exact nomatch e
  ·injection e with e1 _;subst e1;cases v<;>rfl
theorem sJ(prog:U7)(w:World)(i:Int)(t:Tok):(bX prog w).is (.inl i) (.int i t)=true:=yf i t
theorem sK(prog:U7)(w:World)(x:Str)(t:Tok):(bX prog w).is (.inr x) (.str x t)=true:=yg x t
end L2
namespace L2
open PySem PySem.Spec PyProof.Rows
set_option genInjectivity true in
inductive V where
 |non|bl (b:Bool)|int (i:Int)|str (x:Str)|byt (b:Array UInt8)|flt (b:UInt64)|ref (a:Addr)|ty (n:String)
 deriving DecidableEq
def RelV:V->Value->Prop
 |.non,u=>u=K8
 |.bl b,u=>u=Value.bool b
 |.int i,u=>∃t,u=M4 i t
 |.str x,u=>∃t,u=Value.str x t
 |.byt b,u=>∃t,u=Value.bytes b t
 |.flt b,u=>∃t,u=Value.float b t
 |.ref a,u=>u=U6 a
 |.ty n,u=>u=Value.type n
abbrev aM:List V->List Value->Prop:=Paired RelV
theorem aM.length(r:aM xs us):xs.length=us.length:=Paired.length r
theorem aM.get:∀{xs:List V} {us:ZT} {i:Nat} {x:V},aM xs us->xs[i]?=some x->∃u,us[i]?=some u/\RelV x u:=by
 intro xs us i x p;induction p generalizing i with
 |nil=>exact λe=>nomatch e
 |cons r t ih =>
  cases i with
  |zero=>exact λe=>aB _ rfl<|Z5 e▸r
  |succ i=>exact λe=>ih (i:=i) e
theorem aM.set(r:RelV x u):∀{xs:List V} {us:ZT} (i:Nat),aM xs us->aM (xs.set i x) (us.set i u):=by
 intro xs us i p;induction p generalizing i with
 |nil=>exact .nil
 |cons q t ih =>
  cases i with
  |zero=>exact .cons r t
  |succ i=>exact .cons q<|ih i
theorem aM.append:∀{xs ys:List V} {us ws:ZT},aM xs us->aM ys ws->aM (xs++ys) (us++ws):=λp s=>by
 induction p with
 |nil=>exact s
 |cons r _ ih=>exact .cons r ih
theorem aM.take:∀{xs:List V} {us:ZT} (n:Nat),aM xs us->aM (xs.take n) (us.take n):=by
 intro xs us n p;induction p generalizing n with
 |nil=>cases n<;>exact .nil
 |cons r t ih =>
  cases n with
  |zero=>exact .nil
  |succ n=>exact .cons r<|ih n
theorem aM.drop:∀{xs:List V} {us:ZT} (n:Nat),aM xs us->aM (xs.drop n) (us.drop n):=by
 intro xs us n p;induction p generalizing n with
 |nil=>cases n<;>exact .nil
 |cons r t ih =>
  cases n with
  |zero=>exact .cons r t
  |succ n=>exact ih n
def hV:Option V->Option Value->Prop
 |some v,some u=>RelV v u
 |none,none=>True
 |_,_=>False
def KV{κ:Type}:List (κ×V)->List (κ×Value)->Prop:=Paired λ(p:κ×V) (q:κ×Value)=>p.1=q.1/\RelV p.2 q.2
def kV:Key->V
 |.inl i=>.int i
 |.inr x=>.str x
inductive HO where
 |lst (xs:List V)
 |tup (xs:List V)
 |dK (kvs:List (Key×V))|dT (kvs:List (List Key×V))
 |set (S:Int->Bool) (n:Nat)
 |ins (C dx:Addr) (fs:List (Str×V))
 |own (x:Addr)
 |xd (fs:List (Str×V))
 |met (f x:Addr)
 |rng (lo hi:Int)
 |frz (o:Obj) (u:HO)
 |tbl (ps:Zp)
 |ext (φ:Heap->Prop)
abbrev Hp:=Addr->Option HO
def aD(H:Hp)(a:Addr)(o:HO):Hp:=λb=>if b=a then some o else H b
theorem af:aD H a o a=some o:=by unfold aD;rw[if_pos rfl]
theorem ak(h:b≠a):aD H a o b=H b:=by unfold aD;rw[if_neg h]
theorem upd_upd:aD (aD H a o) a u=aD H a u:=by funext b;unfold aD;split<;>rfl
theorem ne_of{H:Hp}(h:H a=some o)(h':H b=some u)(d:o≠u):a≠b:=by intro e;subst e;rw[h]at h';exact d<|Z5 h'
theorem ai{H:Hp}(h:H a=some o)(h':H b=none):a≠b:=by intro e;subst e;rw[h]at h';cases h'
section
variable (P:U7)(w:World)
def bn(H:Hp)(h:Heap)(a:Addr):HO->Prop
 |.lst xs=>xs.length<=W3/\∃(its:ZT) (n:Nat),aM xs its/\h.get? a=some {cls:=.type "list",data:=.seq its.toArray n}
 |.tup xs=>xs.length<=W3/\∃its:List Value,aM xs its/\IsTup h a its.toArray
 |.dK kvs=>kvs.length<=W3/\(a==L5)=false/\∃vs,KV kvs vs/\h.DictOf (bX P w) a vs
 |.dT kvs=>kvs.length<=W3/\(a==L5)=false/\∃xs:List (List Key×Addr×Value),
   Paired (λ(p:List Key×V) (q:List Key×Addr×Value)=>p.1=q.1/\H q.2.1=some (.tup<|p.1.map kV)/\RelV p.2 q.2.2) kvs xs /\
   ∃o es ep,h.get? a=some o/\o.ExactDict/\o.data=.dict es ep/\es.toList=xs.map (entryOfKey<|tupleKind<|bX P w)/\(xs.map (·.1)).Nodup
 |.set S n=>h.SetOf (intKind P w) a S n
 |.ins C dx fs=>H dx=some (.own a)/\fs.length<=1000/\dx≠a/\h.get? a=some (E3 C dx) /\
   ∃mA,h.Ns1 dx mA/\(∀f,hV (fs.lookup f) (mA f))/\PySem.Within mA (fs.map (·.1))
 |.own _=>∃o,h.get? a=some o
 |.xd fs=>∃mA,h.Ns1 a mA/\∀f,hV (fs.lookup f) (mA f)
 |.rng lo hi=>∃t u v,h.get? a=some {cls:=.type "range",data:=.fields #[.int lo t,.int hi u,.int 1 v]}
 |.frz o u=>h.get? a=some o/\bn H h a u
 |.tbl ps=>h.get? a=some {cls:=.none,data:=.fields ps}
 |.met f x=>h.get? a=some (PySem.W.methodObj (.ref f)<|.ref x)
 |.ext φ=>φ h/\(∃o,h.get? a=some o)/\∀h1 h2:Heap,φ h1->(∀o,h1.get? a=some o->h2.get? a=some o)->φ h2
def jE(H:Hp)(h:Heap):Prop:=∀a o,H a=some o->bn P w H h a o
end
section
variable {P:U7}{w:World}{H H':Hp}{h h':Heap}{a:Addr}{o:HO}
theorem bn.lt(x:bn P w H h a o):a<h.objs.size:=by
 cases o with
 |lst xs=>obtain⟨_,_,_,_,e⟩:=x;exact Y8 e
 |tup xs=>obtain⟨_,_,_,p⟩:=x;exact p.lt
 |dK kvs=>obtain⟨_,_,_,_,o,_,_,e,_⟩:=x;exact Y8 e
 |dT kvs=>obtain⟨_,_,_,_,o,_,_,e,_⟩:=x;exact Y8 e
 |set S n=>obtain⟨o,_,_,_,e,_⟩:=x;exact Y8 e
 |ins C dx fs=>obtain⟨_,_,_,e,_⟩:=x;exact Y8 e
 |own y=>obtain⟨_,e⟩:=x;exact Y8 e
 |xd fs=>obtain⟨_,⟨_,_,_,e,_⟩,_⟩:=x;exact Y8 e
 |rng lo hi=>obtain⟨_,_,_,e⟩:=x;exact Y8 e
 |frz ob u=>obtain⟨e,_⟩:=x;exact Y8 e
 |tbl ps=>exact Y8 (show h.get? a=some _ from x)
 |met f y=>exact Y8 (show h.get? a=some _ from x)
 |ext φ=>obtain⟨_,⟨_,e⟩,_⟩:=x;exact Y8 e
theorem Paired.mapP{α β:Type}{F G:α->β->Prop}:∀{l₁:List α} {l₂:List β},Paired F l₁ l₂->(∀a b,F a b->G a b)->Paired G l₁ l₂:=λp f=>by
 induction p with
 |nil=>exact .nil
 |cons r _ ih=>exact .cons (f _ _ r) ih
theorem bn.stay(x:bn P w H h a o)(k:∀b u,(b=a\/H b=some (.own a))->h.get? b=some u->h'.get? b=some u)(ho:∀b,H b=some (.own a)->H' b=some (.own a))(ht:∀b xs,H b=some (.tup xs)->H' b=some (.tup xs)):bn P w H' h' a o:=by
 induction o with
 |lst xs=>obtain⟨z,its,n,r,e⟩:=x;exact⟨z,its,n,r,k _ _ (.inl rfl) e⟩
 |tup xs=>obtain⟨z,its,r,ob,e,c⟩:=x;exact⟨z,its,r,ob,k _ _ (.inl rfl) e,c⟩
 |dK kvs=>obtain⟨z,y,vs,r,ob,es,ep,e,c⟩:=x;exact⟨z,y,vs,r,ob,es,ep,k _ _ (.inl rfl) e,c⟩
 |dT kvs =>obtain⟨z,y,xs,r,ob,es,ep,e,c⟩:=x;exact⟨z,y,xs,Paired.mapP r λp q z=>⟨z.1,ht _ _ z.2.1,z.2.2⟩,ob,es,ep,k _ _ (.inl rfl) e,c⟩
 |set S n=>obtain⟨ob,es,ep,t,e,c⟩:=x;exact⟨ob,es,ep,t,k _ _ (.inl rfl) e,c⟩
 |ins C dx fs =>obtain⟨d,z,ne,e,mA,⟨od,es,ep,e2,c⟩,r⟩:=x;exact⟨ho _ d,z,ne,k _ _ (.inl rfl) e,mA,⟨od,es,ep,k _ _ (.inr d) e2,c⟩,r⟩
 |own y=>obtain⟨ob,e⟩:=x;exact⟨ob,k _ _ (.inl rfl) e⟩
 |xd fs=>obtain⟨mA,⟨od,es,ep,e,c⟩,r⟩:=x;exact⟨mA,⟨od,es,ep,k _ _ (.inl rfl) e,c⟩,r⟩
 |rng lo hi=>obtain⟨t,u,v,e⟩:=x;exact⟨t,u,v,k _ _ (.inl rfl) e⟩
 |frz ob u ih=>obtain⟨e,q⟩:=x;exact⟨k _ _ (.inl rfl) e,ih q⟩
 |tbl ps =>have e:h.get? a=some {cls:=.none,data:=.fields ps}:=x;show h'.get? a=some {cls:=.none,data:=.fields ps};exact k a _ (.inl rfl) e
 |met f y =>have e:h.get? a=some (PySem.W.methodObj (.ref f)<|.ref y):=x;show h'.get? a=some (PySem.W.methodObj (.ref f)<|.ref y);exact k a _ (.inl rfl) e
 |ext φ=>obtain⟨p,⟨o,e⟩,st⟩:=x;exact⟨st _ _ p λo q=>k _ _ (.inl rfl) q,⟨o,k _ _ (.inl rfl) e⟩,st⟩
theorem jE.lt(x:jE P w H h)(e:H a=some o):a<h.objs.size:=(x a o e).lt
theorem jE.fresh(x:jE P w H h)(e:h.objs.size<=a):H a=none:=by
 cases q:H a with
 |none=>rfl
 |some u=>exact absurd (cf (x.lt q) e)<|O7 _
theorem jE.kept(x:jE P w H h)(k:∀b u,h.get? b=some u->h'.get? b=some u):jE P w H h':=λa o e =>
 (x a o e).stay (λb u c q=>k b u q) (λc q=>q) λc c q=>q
theorem jE.laid(x:jE P w H h)(k:∀b u,h.get? b=some u->h'.get? b=some u)(hp:h.objs.size<=a)(new:bn P w (aD H a o) h' a o):jE P w (aD H a o) h':=λb u e=>by
 have hn:=x.fresh hp;by_cases hb:b=a
 ·subst hb;rw[af]at e;cases e;exact new
 ·rw[ak hb]at e;exact(x b u e).stay (λc v i q=>k c v q) (λc q=>by rw[ak (ai q hn)];exact q) λc xs q=>by rw[ak (ai q hn)];exact q
end
def Rd(H:Hp)(a:Addr)(u:HO):Prop:=H a=some u\/∃o,H a=some (.frz o u)
theorem Rd.of(h:H a=some u):Rd H a u:=.inl h
theorem Rd.ok(r:Rd H a u)(x:jE P w H h):bn P w H h a u:=by
 rcases r with r|⟨o,r⟩
 ·exact x a u r
 ·obtain⟨_,q⟩:=x a _ r;exact q
def Mut:Option HO->Prop
 |some (.lst _)=>True
 |some (.dK _)=>True
 |some (.dT _)=>True
 |some (.set _ _)=>True
 |some (.ins _ _ _)=>True
 |some (.ext _)=>True
 |_=>False
section
variable {P:U7}{w:World}{H:Hp}{h h':Heap}{x e:Addr}{o':HO}
theorem jE.write(ok:jE P w H h)(mu:Mut (H x))(he:e=x\/H e=some (.own x))(k:∀b u,b≠e->h.get? b=some u->h'.get? b=some u)(heo:∃u,h'.get? e=some u)(new:bn P w (aD H x o') h' x o'):jE P w (aD H x o') h':=λb u q=>by
 have nown:∀c y,H c=some (.own y)->c≠x:=λc y r z=>by subst z;rw[r]at mu;exact mu
 have ntup:∀c xs,H c=some (.tup xs)->c≠x:=λc xs r z=>by subst z;rw[r]at mu;exact mu
 by_cases hb:b=x
 ·subst hb;rw[af]at q;cases q;exact new
 ·rw[ak hb]at q;by_cases hbe:b=e
  ·have q':H b=some (.own x):=by
    rcases he with z|z
    ·exact absurd (hbe.trans z) hb
    ·rw[hbe];exact z
   rw[q]at q';cases q';obtain⟨v,hv⟩:=heo;exact⟨v,by rw[hbe];exact hv⟩
  ·refine(ok b u q).stay (λc v hc r=>k c v ?_ r) (λc r=>by rw[ak (nown c b r)];exact r) λc xs r=>by rw[ak (ntup c xs r)];exact r
   rcases hc with rfl|hc
   ·exact hbe
   ·rintro rfl;rcases he with z|z
    ·exact nown c b hc z
    ·rw[hc]at z;cases z;exact hb rfl
end
structure Un(fs ex:Zz)(H H':Hp)(h h':Heap):Prop where
 keep:∀b o,h.get? b=some o->H b=none->b∉fs->b∉ex->h'.get? b=some o
 slot:∀b o,h.get? b=some o->H b=none->b∈fs->b∉ex->∃sl,h'.get? b=some {o with slots:=sl}
 free:∀b o,h.get? b=some o->H b=none->b∉ex->H' b=none
 there:∀b o,h.get? b=some o->b∉ex->∃o',h'.get? b=some o'
 tups:∀b xs,H b=some (.tup xs)->H' b=some (.tup xs)
 frzs:∀b o u,H b=some (.frz o u)->H' b=some (.frz o u)
 tbls:∀b ps,H b=some (.tbl ps)->∃more,H' b=some (.tbl<|ps++more)
section
variable {fs ex:Zz}{H H1:Hp}{h h1 h':Heap}{a x e:Addr}{o:HO}
theorem Un.any(u:Un fs ex H H1 h h1)(q:h.get? b=some ob)(n:H b=none)(hx:b∉ex):∃sl,h1.get? b=some {ob with slots:=sl}:=by
 by_cases hb:b∈fs
 ·exact u.slot b ob q n hb hx
 ·exact⟨ob.slots,u.keep b ob q n hb hx⟩
theorem Un.kept(k:∀b u,h.get? b=some u->h'.get? b=some u):Un fs ex H H h h' :=
 ⟨λb ob q x x x=>k b ob q,λb ob q x x x=>⟨ob.slots,k b ob q⟩,λx x x n x=>n,λb ob q x=>⟨ob,k b ob q⟩,λx x q=>q,λx x x q=>q,λx ps q=>⟨#[],by rw[q];simp⟩⟩
theorem Un.refl:Un fs ex H H h h:=Un.kept λx x q=>q
theorem Un.laid(k:∀b u,h.get? b=some u->h'.get? b=some u)(hp:h.objs.size<=a)(hn:H a=none):Un fs ex H (aD H a o) h h' where
 keep:=λb u q x x x=>k b u q
 slot:=λb u q x x x=>⟨u.slots,k b u q⟩
 free:=λb u q n x=>by rw[ak (dB<|cf (Y8 q) hp)];exact n
 there:=λb u q x=>⟨u,k b u q⟩
 tups:=λb xs q=>by rw[ak (ai q hn)];exact q
 frzs:=λb u xs q=>by rw[ak (ai q hn)];exact q
 tbls:=λb ps q=>⟨#[],by rw[ak (ai q hn),q];simp⟩
theorem Un.write(mu:Mut (H x))(he:e=x\/H e=some (.own x))(k:∀b u,b≠e->h.get? b=some u->h'.get? b=some u)(heo:∃u,h'.get? e=some u):Un fs ex H (aD H x o) h h':=by
 have hx:∀b,H b=none->b≠x:=λb n z=>by subst z;rw[n]at mu;exact mu
 have hb:∀b,H b=none->b≠e:=λb n z=>by
  subst z;rcases he with r|r
  ·exact hx b n r
  ·rw[n]at r;cases r
 have hm:∀b u,H b=some u->¬ Mut (some u)->b≠x:=λb u q nm z=>by subst z;rw[q]at mu;exact nm mu
 refine⟨λb u q n a a=>k b u (hb b n) q,λb u q n a a=>⟨u.slots,k b u (hb b n) q⟩,λb u q n a=>by rw[ak (hx b n)];exact n,λb u q a=>?_,
  λb xs q=>by rw[ak (hm b _ q λz=>z)];exact q,λb u xs q=>by rw[ak (hm b _ q λz=>z)];exact q,λb ps q=>⟨#[],by rw[ak (hm b _ q λz=>z),q];simp⟩⟩
 by_cases hbe:b=e
 ·subst hbe;exact heo
 ·exact⟨u,k b u hbe q⟩
end
def trk(h:Heap)(H:Hp):List Addr:=(X5 h.objs.size).filter λa=>(H a).isSome
def qF(h:Heap)(H:Hp):Heap:=PySem.W.hideAll h<|trk h H
theorem yh(h:Heap)(H:Hp):(qF h H).objs.size=h.objs.size:=PySem.W.hideAll_size _ _
theorem mO(e:h.get? b=some o)(n:H b=none):(qF h H).get? b=some o :=
 PySem.W.hideAll_get _ e λhm=>by have q:(H b).isSome=true:=(S6.mp hm).2;rw[n]at q;simp at q
theorem of_hidT(e:(qF h H).get? b=some o):h.get? b=some o/\H b=none:=by
 have e':h.get? b=some o:=PySem.W.of_hideAll (trk h H) e;refine⟨e',?_⟩;cases q:H b with
 |none=>rfl
 |some x =>have hm:b∈trk h H:=S6.mpr ⟨M5.mpr<|Y8 e',by simp[q]⟩;have z:(qF h H).get? b=none:=PySem.W.hideAll_none (trk h H) hm;rw[z]at e;cases e
end L2
namespace L2
open PySem PySem.Spec PyProof.Rows
structure Mod(K:Z3)(mg:ZN)(base:Heap):Prop where
 kin:K.In base
 glob:base.Ns Q9 mg
 blt:∃mb,base.Ns builtinsNs mb/\∀x:Str,x≠"__name__"->mb x=O1 x
 nolimit:base.NoLimit
structure Cx where
 prog:U7
 w:World
 K:Z3
 mg:Str->Option Value
 base:Heap
 A:Around
 N:List Str
 s₀:Shared
 H₀:Hp
 env:Env
 outer:List Env
 stack:List Env
 ex:List Addr
 fn:Str->Bool
 calm:Bool
 pn:List (Addr×Obj)
 xe:Value->Shared->Prop
def zG(l:List Env):List Addr:=l.filterMap (·.frame)
abbrev Cx.fs(X:Cx):List Addr:=zG X.outer
def Vis(sc:Scope)(x:Str):Prop:=sc.names.lookup x=some .local\/sc.names.lookup x=some .cell\/sc.names.lookup x=some .free
def Loc(sc:Scope)(x:Str):Prop:=sc.names.lookup x=some .local\/sc.names.lookup x=some .cell
def Look(env:Env)(h:Heap)(m:ZN)(x:Str)(u:Value):Prop :=
 (env.kindOf x=some .local/\m x=some u)\/((env.kindOf x=some .cell\/env.kindOf x=some .free)/\∃c,env.cells.lookup x=some c/\h.IsCell c (some u))
structure Cx.Ok(X:Cx):Prop where
 mod:Mod X.K X.mg X.base
 kind:X.env.scope.kind=.function
 glob:X.env.globals=Q9
 blt:X.env.builtins=builtinsNs
 above:X.s₀.heap.objs.size<=X.env.locals
 inj:∀x y c,X.env.cells.lookup x=some c->X.env.cells.lookup y=some c->x=y
 has:∀x,(X.env.kindOf x=some .cell\/X.env.kindOf x=some .free)->∃c,X.env.cells.lookup x=some c
 cab:∀x c,X.fn x=true->X.env.cells.lookup x=some c->X.s₀.heap.objs.size<=c
 hd:X.calm=true->X.A.handled=none
 frames:X.A.frames=some X.stack
 stk:X.stack=X.outer\/(X.stack=X.env ::X.outer/\X.env.frame=some X.env.locals)
 exf:∀b∈X.ex,b≠X.env.locals/\∀x c,X.env.cells.lookup x=some c->c≠b
 bs:∀b o,X.base.get? b=some o->X.s₀.heap.get? b=some o/\X.H₀ b=none
 bsz:X.base.objs.size<=X.s₀.heap.objs.size
 noex:∀b o,X.base.get? b=some o->b∉X.ex
 exfs:∀b∈X.ex,b∉X.fs
 funs:X.s₀.heap.FunFrames X.base X.outer
 frf:∀b∈X.fs,X.H₀ b=none
structure Inv(X:Cx)(ZY:ZO)(σ:List (Option V))(H:Hp)(s:Shared):Prop where
 ok:X.Ok
 os:s.os=X.s₀.os
 bare:AllBare s.gens
 base:Un X.fs X.ex X.H₀ H X.s₀.heap s.heap
 loc:∃m,s.heap.Ns X.env.locals m/\∀(i:Nat) (x:Str) (v:V),X.N[i]?=some x->σ[i]?=some (some v)->Vis X.env.scope x->∃u,RelV v u/\Look X.env s.heap m x u
 cell:∀x c,X.env.cells.lookup x=some c->∃v,s.heap.IsCell c v
 free:H X.env.locals=none
 freeC:∀x c,X.env.cells.lookup x=some c->H c=none
 pin:∀p∈X.pn++ZY,s.heap.get? p.1=some p.2/\H p.1=none/\p.1≠X.env.locals/\p.1∉X.fs/\∀v,p.2.data≠.cell v
 hok:jE X.prog X.w H s.heap
 len:σ.length=X.N.length
section
variable {X:Cx}{ZY:ZO}{σ:List (Option V)}{H H':Hp}{s:Shared}{h':Heap}
theorem Cx.Ok.nofr(ok:X.Ok)(e:X.base.get? b=some o):b∉X.fs:=λhb=>by have:=(ok.funs.mem hb).1;rw[e]at this;cases this
theorem Inv.bs(I:Inv X ZY σ H s):∀b o,X.base.get? b=some o->s.heap.get? b=some o/\H b=none:=λb o e =>
 ⟨I.base.keep b o (I.ok.bs b o e).1 (I.ok.bs b o e).2 (I.ok.nofr e) (I.ok.noex b o e),I.base.free b o (I.ok.bs b o e).1 (I.ok.bs b o e).2 (I.ok.noex b o e)⟩
theorem Inv.bk(I:Inv X ZY σ H s):∀b o,X.base.get? b=some o->s.heap.get? b=some o:=λb o e=>(I.bs b o e).1
theorem Inv.mod(I:Inv X ZY σ H s):Mod X.K X.mg X.base:=I.ok.mod
theorem Inv.kIn(I:Inv X ZY σ H s):X.K.In s.heap:=I.ok.mod.kin.keeps I.bk
theorem Inv.nolimit(I:Inv X ZY σ H s):s.heap.NoLimit:=I.ok.mod.nolimit.keeps I.bk
theorem Inv.lt(I:Inv X ZY σ H s):X.env.locals<s.heap.objs.size:=aU I.loc λx hn x=>hn.lt
theorem Inv.sz(I:Inv X ZY σ H s):X.s₀.heap.objs.size<=s.heap.objs.size:=aR I.ok.above<|ci I.lt
theorem Inv.nofs(I:Inv X ZY σ H s){a:Addr}(h:s.heap.objs.size<=a):a∉X.fs:=λhb=>by obtain⟨_,o,ho,_⟩:=I.ok.funs.mem hb;exact absurd (cf (Y8 ho)<|aR I.sz h)<|O7 _
theorem Inv.cne(I:Inv X ZY σ H s):∀x c,X.env.cells.lookup x=some c->c≠X.env.locals:=λx c e z=>by obtain⟨v,o,ho,hd⟩:=I.cell x c e;obtain⟨m,⟨o',es,ep,ho',hd',_⟩,_⟩:=I.loc;rw[z,ho']at ho;cases ho;rw[hd']at hd;cases hd
theorem Inv.funs(I:Inv X ZY σ H s):s.heap.FunFrames X.base X.outer:=by
 have all:∀(l:List Env),(∀b∈zG l,b∈X.fs)->X.s₀.heap.FunFrames X.base l->s.heap.FunFrames X.base l:=by
  intro l;induction l with
  |nil=>intro _ _;trivial
  |cons env r ih =>intro hs hl;obtain⟨hk,⟨L,o,hf,hn,ho,hd⟩,hr⟩:=hl;have hL:L∈X.fs:=hs L (by unfold zG;rw[List.filterMap_cons,hf];exact U0);obtain⟨sl,e⟩:=I.base.slot L o ho (I.ok.frf L hL) hL λz=>I.ok.exfs L z hL;exact⟨hk,⟨L,_,hf,hn,e,hd⟩,ih (λb hb=>hs b (by unfold zG;rw[List.filterMap_cons,hf];exact W7 _ hb)) hr⟩
 exact all X.outer (λx hb=>hb) I.ok.funs
theorem Inv.stack(I:Inv X ZY σ H s):s.heap.FunFrames X.base X.stack:=by
 rcases I.ok.stk with e|⟨e,hf⟩
 ·rw[e];exact I.funs
 ·rw[e];obtain⟨m,hn,_⟩:=I.loc;refine .cons (by rw[I.ok.kind];decide) hf hn ?_ I.funs;exact Heap.get?_none_of_le<|aR I.ok.bsz I.ok.above
theorem Inv.stkSub(I:Inv X ZY σ H s):∀b∈zG X.stack,b∈X.env.locals ::X.fs:=λb hb=>by
 rcases I.ok.stk with e|⟨e,hf⟩
 ·rw[e]at hb;exact W7 _ hb
 ·rw[e]at hb;unfold zG at hb;rw[List.filterMap_cons,hf]at hb;exact hb
theorem Inv.stkFree(I:Inv X ZY σ H s):∀b∈zG X.stack,H b=none:=λb hb=>by
 rcases Y4.mp (I.stkSub b hb) with e|hb
 ·rw[e];exact I.free
 ·obtain⟨_,o,ho,_⟩:=I.ok.funs.mem hb;exact I.base.free b o ho (I.ok.frf b hb) λz=>I.ok.exfs b z hb
theorem Inv.step{ch:Zz}(I:Inv X ZY σ H s)(hch:∀b∈ch,(b∈X.ex\/X.s₀.heap.objs.size<=b)/\b≠X.env.locals/\(∀x c,X.env.cells.lookup x=some c->c≠b)/\∀p∈X.pn++ZY,p.1≠b)(keep:∀b o,b≠X.env.locals->b∉X.fs->b∉ch->s.heap.get? b=some o->H b=none->h'.get? b=some o)(slot:∀b o,b≠X.env.locals->b∈X.fs->b∉ch->s.heap.get? b=some o->H b=none->∃sl,h'.get? b=some {o with slots:=sl})(free:∀b o,b∉ch->s.heap.get? b=some o->H b=none->H' b=none)(there:∀b o,b∉ch->s.heap.get? b=some o->∃o',h'.get? b=some o')(tups:∀b xs,H b=some (.tup xs)->H' b=some (.tup xs))(frzs:∀b o u,H b=some (.frz o u)->H' b=some (.frz o u))(tbls:∀b ps,H b=some (.tbl ps)->∃more,H' b=some (.tbl<|ps++more))(ns:∀m,s.heap.Ns X.env.locals m->h'.Ns X.env.locals m)(hok:jE X.prog X.w H' h')(hg:AllBare g'):
  Inv X ZY σ H' {s with heap:=h',gens:=g',drawn:=d',toks:=t'}:=by
 have neL:∀b o,X.s₀.heap.get? b=some o->b≠X.env.locals:=λb o e=>dB<|cf (Y8 e) I.ok.above;have neC:∀b o,X.s₀.heap.get? b=some o->b∉X.ex->b∉ch:=λb o e hx hb=>by
  rcases(hch b hb).1 with z|z
  ·exact hx z
  ·exact absurd (cf (Y8 e) z)<|O7 _
 have cellK:∀x c,X.env.cells.lookup x=some c->∀v,s.heap.IsCell c v->h'.IsCell c v:=λx c e v ⟨o,ho,hd⟩=>by
  have nch:c∉ch:=λz=>(hch c z).2.2.1 x c e rfl;by_cases hc:c∈X.fs
  ·obtain⟨sl,q⟩:=slot c o (I.cne x c e) hc nch ho<|I.freeC x c e;exact⟨_,q,hd⟩
  ·exact⟨o,keep c o (I.cne x c e) hc nch ho<|I.freeC x c e,hd⟩
 refine⟨I.ok,I.os,hg,⟨λb o e n hb hx=>?_,λb o e n hb hx=>?_,λb o e n hx=>?_,λb o e hx=>?_,λb xs e=>tups b xs<|I.base.tups b xs e,λb o xs e=>frzs b o xs<|I.base.frzs b o xs e,λb ps e=>?_⟩,?_,λx c e=>?_,?_,λx c e=>?_,λp hp=>?_,hok,I.len⟩
 ·exact keep b o (neL b o e) hb (neC b o e hx) (I.base.keep b o e n hb hx)<|I.base.free b o e n hx
 ·obtain⟨sl,e1⟩:=I.base.slot b o e n hb hx;obtain⟨sl',e2⟩:=slot b _ (neL b o e) hb (neC b o e hx) e1<|I.base.free b o e n hx;exact⟨sl',e2⟩
 ·obtain⟨o',e1⟩:=I.base.there b o e hx;exact free b o' (neC b o e hx) e1<|I.base.free b o e n hx
 ·obtain⟨o',e1⟩:=I.base.there b o e hx;exact there b o' (neC b o e hx) e1
 ·obtain⟨m1,e1⟩:=I.base.tbls b ps e;obtain⟨m2,e2⟩:=tbls b _ e1;exact⟨m1++m2,by rw[e2,Array.append_assoc]⟩
 ·obtain⟨m,hn,hl⟩:=I.loc;refine⟨m,ns m hn,λi x v e1 e2 e3=>?_⟩;obtain⟨u,r,l⟩:=hl i x v e1 e2 e3;refine⟨u,r,?_⟩;rcases l with l|⟨k,c,e,z⟩
  ·exact .inl l
  ·exact .inr ⟨k,c,e,cellK x c e _ z⟩
 ·obtain⟨v,z⟩:=I.cell x c e;exact⟨v,cellK x c e v z⟩
 ·obtain⟨m,⟨o,_,_,ho,_⟩,_⟩:=I.loc;exact free _ o (λz=>(hch _ z).2.1 rfl) ho I.free
 ·obtain⟨v,o,ho,hd⟩:=I.cell x c e;exact free c o (λz=>(hch c z).2.2.1 x c e rfl) ho<|I.freeC x c e
 ·obtain⟨e,n,ne,nf,d⟩:=I.pin p hp;have nch:p.1∉ch:=λz=>(hch p.1 z).2.2.2 p hp rfl;exact⟨keep p.1 p.2 ne nf nch e n,free p.1 p.2 nch e n,ne,nf,d⟩
theorem Inv.un(I:Inv X ZY σ H s)(u:Un X.fs [] H H' s.heap h')(hok:jE X.prog X.w H' h'):Inv X ZY σ H' {s with heap:=h',toks:=t'}:=by
 obtain⟨m,⟨o,es,ep,ho,r⟩,_⟩:=id I.loc;obtain⟨sl,hL⟩:=u.any ho I.free (by simp);exact I.step (g':=s.gens) (d':=s.drawn) (ch:=[]) (λx z=>nomatch z) (λb o x hb x e n=>u.keep b o e n hb (by simp)) (λb o x hb x e n=>u.slot b o e n hb (by simp)) (λb o x e n=>u.free b o e n (by simp)) (λb o x e=>u.there b o e (by simp)) u.tups u.frzs u.tbls (λm' hm=>by obtain⟨o',es',ep',ho',r'⟩:=hm;rw[ho]at ho';cases ho';exact⟨_,es',ep',hL,r'⟩) hok I.bare
theorem Inv.call(I:Inv X ZY σ H s)(u:Un (zG X.stack) ch H H' s.heap h')(hok:jE X.prog X.w H' h')(hg:AllBare g')(hch:∀b∈ch,(b∈X.ex\/X.s₀.heap.objs.size<=b)/\b≠X.env.locals/\(∀x c,X.env.cells.lookup x=some c->c≠b)/\∀p∈X.pn++ZY,p.1≠b):
  Inv X ZY σ H' {s with heap:=h',gens:=g',drawn:=d',toks:=t'}:=by
 obtain⟨m,⟨o,es,ep,ho,r⟩,_⟩:=id I.loc;obtain⟨sl,hL⟩:=u.any ho I.free λz=>(hch _ z).2.1 rfl;exact I.step (ch:=ch) hch (λb o hL hb hc e n=>u.keep b o e n (λz=>(Y4.mp<|I.stkSub b z).elim hL hb) hc) (λb o a a hc e n=>u.any e n hc) (λb o hc e n=>u.free b o e n hc) (λb o hc e=>u.there b o e hc) u.tups u.frzs u.tbls (λm' hm=>by obtain⟨o',es',ep',ho',r'⟩:=hm;rw[ho]at ho';cases ho';exact⟨_,es',ep',hL,r'⟩) hok hg
theorem Inv.turned(I:Inv X ZY σ H s)(k:∀b o,b≠it->s.heap.get? b=some o->h'.get? b=some o)(hn:H it=none)(hL:it≠X.env.locals)(h1:it∈X.ex\/X.s₀.heap.objs.size<=it)(h2:∀x c,X.env.cells.lookup x=some c->c≠it)(h3:∀p∈X.pn++ZY,p.1≠it):Inv X ZY σ H {s with heap:=h',toks:=t'}:=by
 have nit:∀b u,H b=some u->b≠it:=λb u e z=>by rw[z,hn]at e;cases e
 refine I.step (g':=s.gens) (d':=s.drawn) (ch:=[it]) (λb hb=>?_) (λb o a a hc e a=>k b o (λz=>hc (by simp[z])) e) (λb o a a hc e a=>⟨o.slots,k b o (λz=>hc (by simp[z])) e⟩) (λa a a a n=>n)
  (λb o hc e=>⟨o,k b o (λz=>hc (by simp[z])) e⟩) (λa a e=>e) (λa a a e=>e) (λb ps e=>⟨#[],by rw[e];simp⟩) (λm hm=>?_) (λb u e=>?_) I.bare
 ·have e:b=it:=by simpa using hb
  subst e;exact⟨h1,hL,h2,h3⟩
 ·obtain⟨o,es,ep,ho,r⟩:=hm;exact⟨o,es,ep,k _ o (R6 hL) ho,r⟩
 ·refine(I.hok b u e).stay (λc v hc q=>k c v ?_ q) (λa q=>q) λa a q=>q;rcases hc with z|z
  ·rw[z];exact nit b u e
  ·exact nit c _ z
theorem Inv.tok(I:Inv X ZY σ H s)(t:Nat):Inv X ZY σ H {s with toks:=t}:=I.un (h':=s.heap) (t':=t) Un.refl I.hok
theorem Inv.kept(I:Inv X ZY σ H s)(k:∀b u,s.heap.get? b=some u->h'.get? b=some u):Inv X ZY σ H {s with heap:=h',toks:=t'}:=I.un (Un.kept k)<|I.hok.kept k
theorem Inv.laid{a:Addr}(I:Inv X ZY σ H s)(k:∀b u,s.heap.get? b=some u->h'.get? b=some u)(hp:s.heap.objs.size<=a)(new:bn X.prog X.w (aD H a o) h' a o):
  Inv X ZY σ (aD H a o) {s with heap:=h',toks:=t'}:=I.un (Un.laid k hp<|I.hok.fresh hp)<|I.hok.laid k hp new
theorem Inv.write(I:Inv X ZY σ H s)(mu:Mut (H x))(he:e=x\/H e=some (.own x))(k:∀b u,b≠e->s.heap.get? b=some u->h'.get? b=some u)(heo:∃u,h'.get? e=some u)(new:bn X.prog X.w (aD H x o) h' x o):Inv X ZY σ (aD H x o) {s with heap:=h',toks:=t'}:=I.un (Un.write mu he k heo)<|I.hok.write mu he k heo new
theorem Inv.weak(I:Inv X ZY σ H s)(hl:σ'.length=σ.length)(w:∀(i:Nat) v,σ'[i]?=some (some v)->σ[i]?=some (some v)):Inv X ZY σ' H s :=
 ⟨I.ok,I.os,I.bare,I.base,aU I.loc λm hn hl'=>⟨m,hn,λi x v e1 e2 e3=>hl' i x v e1 (w i v e2) e3⟩,I.cell,I.free,I.freeC,I.pin,I.hok,hl.trans I.len⟩
theorem Inv.pins_of(I:Inv X ZY σ H s)(h:∀p∈pins',s.heap.get? p.1=some p.2/\H p.1=none/\p.1≠X.env.locals/\p.1∉X.fs/\∀v,p.2.data≠.cell v):Inv X pins' σ H s :=
 ⟨I.ok,I.os,I.bare,I.base,I.loc,I.cell,I.free,I.freeC,λp hp=>(V4.mp hp).elim (λz=>I.pin p<|P8 _ z) (h p),I.hok,I.len⟩
theorem sL{N:ZJ}(hN:N.Nodup){i j:Nat}(a:N[i]?=some x)(b:N[j]?=some x):i=j:=by obtain⟨h1,e1⟩:=Z7.mp a;obtain⟨h2,e2⟩:=Z7.mp b;exact(List.getElem_inj hN).mp (e1.trans e2.symm)
theorem pR{M:Model}{A:Around}{E:ZX}{i:Nat}{x:Str}{v:V}{u:Value}{Q:Unit->Shared->Prop}(I:Inv X ZY σ H s)(hN:X.N.Nodup)(hi:X.N[i]?=some x)(hx:Loc X.env.scope x)(r:RelV v u)(h:∀s',Inv X ZY (σ.set i<|some v) H s'->(∃a,T3 a s.heap s'.heap/\(a=X.env.locals\/X.env.cells.lookup x=some a))->Q () s')(hf:X.fn x=true\/X.env.scope.names.lookup x=some .local:=by first|exact .inl rfl|exact .inr rfl|assumption):wpAny M A (storeName X.env x u) Q E s:=by
 obtain⟨m,hn,hl⟩:=id I.loc;have hcls:(X.env.scope.kind==.class || (X.env.scope.kind==.module&&X.env.locals != X.env.globals))=false:=by rw[I.ok.kind];rfl
 have hiσ:i<σ.length:=by rw[I.len];exact(Z7.mp hi).1
 have cne:=I.cne;have tracked:∀{a:Addr} {h':Heap},(∃o,s.heap.get? a=some o/\H a=none)->T3 a s.heap h'->jE X.prog X.w H h':=λ{a h'} ha hs b ob e=>by
  obtain⟨_,_,hfree⟩:=ha;refine(I.hok b ob e).stay (λc w' hc q=>(hs.2 c ?_).trans q) (λt q=>q) λt t q=>q;rintro rfl;rcases hc with rfl|hc
  ·rw[hfree]at e;cases e
  ·rw[hfree]at hc;cases hc
 rcases hx with hk|hk
 ·refine wpAny_storeName_local hk hn (λh' hn' hs=>?_) hcls;obtain⟨oL,_,_,hoL,_⟩:=id hn;refine h _ ⟨I.ok,I.os,I.bare,⟨λb o e n hb hx=>?_,λb o e n hb hx=>?_,I.base.free,λb o e hx=>?_,I.base.tups,I.base.frzs,I.base.tbls⟩,⟨_,hn',λj y v' e1 e2 e3=>?_⟩,λy c e=>?_,I.free,I.freeC,λp hp=>?_,tracked ⟨oL,hoL,I.free⟩ hs,by simpa using I.len⟩ ⟨_,hs,.inl rfl⟩
  ·exact(hs.2 b<|dB<|cf (Y8 e) I.ok.above).trans (I.base.keep b o e n hb hx)
  ·obtain⟨sl,e1⟩:=I.base.slot b o e n hb hx;exact⟨sl,(hs.2 b<|dB<|cf (Y8 e) I.ok.above).trans e1⟩
  ·obtain⟨o',e1⟩:=I.base.there b o e hx;exact⟨o',(hs.2 b<|dB<|cf (Y8 e) I.ok.above).trans e1⟩
  ·by_cases hj:j=i
   ·subst hj;rw[hi]at e1;cases e1;rw[List.getElem?_set_self hiσ]at e2;cases e2;exact⟨u,r,.inl ⟨hk,by simp⟩⟩
   ·rw[List.getElem?_set_ne (R6 hj)]at e2;obtain⟨u',r',q⟩:=hl j y v' e1 e2 e3;refine⟨u',r',?_⟩;rcases q with ⟨k,e⟩|⟨k,c,e,z⟩
    ·refine .inl ⟨k,?_⟩;have:y≠x:=λe=>hj<|sL hN e1<|e▸hi;simp[this,e]
    ·exact .inr ⟨k,c,e,z.sameBut hs<|cne y c e⟩
  ·obtain⟨w',z⟩:=I.cell y c e;exact⟨w',z.sameBut hs<|cne y c e⟩
  ·obtain⟨e,n,ne,nf,d⟩:=I.pin p hp;exact⟨(hs.2 p.1 ne).trans e,n,ne,nf,d⟩
 ·have hfn:X.fn x=true:=by
   rcases hf with z|z
   ·exact z
   ·rw[z]at hk;cases hk
  obtain⟨c,hc⟩:=I.ok.has x<|.inl hk;obtain⟨w',z⟩:=I.cell x c hc;refine wpAny_storeName_cell I.ok.kind hk hc z λh' hc' hs=>?_;obtain⟨oc,hoc,hocd⟩:=id z;refine h {s with heap:=h'} ⟨I.ok,I.os,I.bare,⟨λb o e n hb hx=>?_,λb o e n hb hx=>?_,I.base.free,λb o e hx=>?_,I.base.tups,I.base.frzs,I.base.tbls⟩,⟨m,hn.sameBut hs<|R6<|cne x c hc,λj y v' e1 e2 e3=>?_⟩,λy c' e=>?_,I.free,I.freeC,λp hp=>?_,tracked ⟨oc,hoc,I.freeC x c hc⟩ hs,by simpa using I.len⟩ ⟨c,hs,.inr hc⟩
  ·exact(hs.2 b<|dB<|cf (Y8 e)<|I.ok.cab x c hfn hc).trans (I.base.keep b o e n hb hx)
  ·obtain⟨sl,e1⟩:=I.base.slot b o e n hb hx;exact⟨sl,(hs.2 b<|dB<|cf (Y8 e)<|I.ok.cab x c hfn hc).trans e1⟩
  ·obtain⟨o',e1⟩:=I.base.there b o e hx;exact⟨o',(hs.2 b<|dB<|cf (Y8 e)<|I.ok.cab x c hfn hc).trans e1⟩
  ·by_cases hj:j=i
   ·subst hj;rw[hi]at e1;cases e1;rw[List.getElem?_set_self hiσ]at e2;cases e2;exact⟨u,r,.inr ⟨.inl hk,c,hc,hc'⟩⟩
   ·rw[List.getElem?_set_ne (R6 hj)]at e2;obtain⟨u',r',q⟩:=hl j y v' e1 e2 e3;refine⟨u',r',?_⟩;rcases q with q|⟨k,c',e,z'⟩
    ·exact .inl q
    ·refine .inr ⟨k,c',e,z'.sameBut hs ?_⟩;rintro rfl;exact hj<|sL hN e1<|I.ok.inj _ _ _ e hc▸hi
  ·by_cases hcc:c'=c
   ·subst hcc;exact⟨_,hc'⟩
   ·obtain⟨w2,z2⟩:=I.cell y c' e;exact⟨w2,z2.sameBut hs hcc⟩
  ·obtain⟨e,n,ne,nf,d⟩:=I.pin p hp;refine⟨(hs.2 p.1 ?_).trans e,n,ne,nf,d⟩;intro q;rw[q,hoc]at e;have q':oc=p.2:=Z5 e;exact d w' (by rw[<- q'];exact hocd)
theorem jF{M:Model}{A:Around}{E:ZX}{i:Nat}{x:Str}{v:V}{u:Value}{Q:Unit->Shared->Prop}(I:Inv X ZY σ H s)(hN:X.N.Nodup)(hi:X.N[i]?=some x)(hx:Loc X.env.scope x)(r:RelV v u)(h:∀s',Inv X ZY (σ.set i<|some v) H s'->Q () s')(hf:X.fn x=true\/X.env.scope.names.lookup x=some .local:=by first|exact .inl rfl|exact .inr rfl|assumption):wpAny M A (storeName X.env x u) Q E s :=
 pR I hN hi hx r (λs' I' a=>h s' I') hf
theorem Inv.call'(I:Inv X ZY σ H s)(ho:s'.os=s.os)(u:Un (zG X.stack) ch H H' s.heap s'.heap)(hok:jE X.prog X.w H' s'.heap)(hg:AllBare s'.gens)(hch:∀b∈ch,(b∈X.ex\/X.s₀.heap.objs.size<=b)/\b≠X.env.locals/\(∀x c,X.env.cells.lookup x=some c->c≠b)/\∀p∈X.pn++ZY,p.1≠b):Inv X ZY σ H' s':=by obtain⟨h',g',d',t',o'⟩:=s';have e:o'=s.os:=ho;subst e;exact I.call (g':=g') (t':=t') (d':=d') u hok hg hch
end
abbrev XK:=Value->Option Addr->Hp->Prop
abbrev St:=List<|Option V
abbrev VK:=V->Hp->Prop
abbrev TE:=St->Hp->VK->Prop
abbrev TT:=St->Hp->(Bool->Hp->Prop)->Prop
abbrev TA:=St->Hp->(List V->Hp->Prop)->Prop
structure Ends where
 nx:St->Hp->Prop
 rt:VK
 bk:St->Hp->Prop:=λx x=>False
 ct:St->Hp->Prop:=λx x=>False
abbrev TS:=Ends->St->Hp->Prop
def EP(X:Cx)(ZY:ZO)(σ:St)(Q:VK)(u:Value)(s':Shared):Prop:=∃v H',Inv X ZY σ H' s'/\RelV v u/\Q v H'
def TP(X:Cx)(ZY:ZO)(σ:St)(Q:Bool->Hp->Prop)(b:Bool)(s':Shared):Prop:=∃H',Inv X ZY σ H' s'/\Q b H'
def AP(X:Cx)(ZY:ZO)(σ:St)(Q:List V->Hp->Prop)(us:ZT)(s':Shared):Prop:=∃vs H',Inv X ZY σ H' s'/\aM vs us/\Q vs H'
def SP(X:Cx)(ZY:ZO)(D:Ends)(f:Flow)(s':Shared):Prop :=
 match f with
 |.next=>∃σ' H',Inv X ZY σ' H' s'/\D.nx σ' H'
 |.brk=>∃σ' H',Inv X ZY σ' H' s'/\D.bk σ' H'
 |.cont=>∃σ' H',Inv X ZY σ' H' s'/\D.ct σ' H'
 |.ret u=>∃v σ' H',Inv X ZY σ' H' s'/\RelV v u/\D.rt v H'
def PE(X:Cx)(e:Expr)(t:TE):Prop :=
 ∀(ZY:ZO) (s:Shared) (σ:St) (H:Hp) (Q:VK),Inv X ZY σ H s->t σ H Q->wpAny (model X.prog X.w) X.A (eval e X.env) (EP X ZY σ Q) X.xe s
def PT(X:Cx)(e:Expr)(t:TT):Prop :=
 ∀(ZY:ZO) (s:Shared) (σ:St) (H:Hp) (Q:Bool->Hp->Prop),Inv X ZY σ H s->t σ H Q->wpAny (model X.prog X.w) X.A (isTrue e X.env<|eval e X.env) (TP X ZY σ Q) X.xe s
def PW(X:Cx)(e:Expr)(t:TT):Prop :=
 ∀(whole:Sem Value) (ZY:ZO) (s:Shared) (σ:St) (H:Hp) (Q:Bool->Hp->Prop),Inv X ZY σ H s->t σ H Q->wpAny (model X.prog X.w) X.A (isTrue e X.env whole) (TP X ZY σ Q) X.xe s
theorem PW.pt(h:PW X e t):PT X e t:=h _
def PA(X:Cx)(es:List Expr)(t:TA):Prop :=
 ∀(pos:Pos) (ZY:ZO) (s:Shared) (σ:St) (H:Hp) (Q:List V->Hp->Prop),Inv X ZY σ H s->t σ H Q->wpAny (model X.prog X.w) X.A (spliced<|backTo pos<|V1 es X.env) (AP X ZY σ Q) X.xe s
def PS(X:Cx)(st:Stmt)(t:TS):Prop :=
 ∀(ZY:ZO) (s:Shared) (σ:St) (H:Hp) (D:Ends),Inv X ZY σ H s->t D σ H->wpAny (model X.prog X.w) X.A (exec st X.env) (SP X ZY D) X.xe s
def mP(X:Cx)(st:List Stmt)(t:TS):Prop :=
 ∀(ZY:ZO) (s:Shared) (σ:St) (H:Hp) (D:Ends),Inv X ZY σ H s->t D σ H->wpAny (model X.prog X.w) X.A (execs st X.env) (SP X ZY D) X.xe s
theorem bu{α:Type}{t:Sem α}{Q Q':α->Shared->Prop}{E:ZX}(h:wpAny M A t Q E s)(hQ:∀a s,Q a s->Q' a s):wpAny M A t Q' E s:=R8 h hQ λb b x=>x
end L2
namespace L2
open PySem PySem.Spec PyProof.Rows
section
variable {X:Cx}
def bF(i:Nat):TE:=λσ H Q=>∃v,σ[i]?=some (some v)/\Q v H
def tC(v:V):TE:=λx H Q=>Q v H
theorem pe_var{i:Nat}{x:Str}{pos:Pos}(hN:X.N[i]?=some x)(hv:Vis X.env.scope x)(hd:autoParam ((x==("__debug__":Str))=false) L2.iu._auto_1)(hcd:autoParam ((x==("__classdict__":Str))=false) L2.iu._auto_1):PE X (.Name x pos) (bF i):=by
 intro ZY s σ H Q I h;obtain⟨v,e,h⟩:=h;obtain⟨m,hn,hl⟩:=I.loc;obtain⟨u,r,l⟩:=hl i x v hN e hv;have fin:EP X ZY σ Q u s:=⟨v,H,I,r,h⟩;rcases l with ⟨hk,hm⟩|⟨hk,c,hc,hcell⟩
 ·exact wpAny_Name (wpAny_loadName_local I.ok.kind hk hn hm fin) hd
 ·rcases hk with hk|hk
  ·exact wpAny_Name (wpAny_loadName_cell I.ok.kind hk hc hcell fin) hd
  ·exact wpAny_Name (wpAny_loadName_free I.ok.kind hk hc hcell fin hcd) hd
theorem aj{i j pos}:PE X (.Constant (.int i) j pos) (tC<|.int i):=λx x x H x I h=>wpAny_Constant_int ⟨.int i,H,I.tok _,⟨_,rfl⟩,h⟩
theorem lj{b j pos}:PE X (.Constant (.bool b) j pos) (tC<|.bl b):=λx x x H x I h=>Constant_bool ⟨.bl b,H,I,rfl,h⟩
theorem eO{j pos}:PE X (.Constant .none j pos) (tC .non):=λx x x H x I h=>Constant_none ⟨.non,H,I,rfl,h⟩
def Gl(X:Cx)(x:Str):Prop:=X.env.kindOf x=some .globalImplicit
theorem wC{E:ZX}{ZY:ZO}{s:Shared}{σ:St}{H:Hp}{x:Str}{u:Value}{pos:Pos}{Q:ZX}(I:Inv X ZY σ H s)(hg:Gl X x)(hm:X.mg x=some u)(h:Q u s)(hd:autoParam ((x==("__debug__":Str))=false) L2.iu._auto_1):wpAny (model X.prog X.w) X.A (eval (.Name x pos) X.env) Q E s :=
 Calls.Name_function_global I.ok.kind hg (Calls.loadGlobal_global (by rw[I.ok.glob];exact I.mod.glob.keeps I.bk) hm h) hd
theorem gB{E:ZX}{ZY:ZO}{s:Shared}{σ:St}{H:Hp}{x:Str}{u:Value}{pos:Pos}{Q:ZX}(I:Inv X ZY σ H s)(hg:Gl X x)(hm:X.mg x=none)(hv:O1 x=some u)(h:Q u s)(hn:autoParam (x≠"__name__") L2.iu._auto_1)(hd:autoParam ((x==("__debug__":Str))=false) L2.iu._auto_1):wpAny (model X.prog X.w) X.A (eval (.Name x pos) X.env) Q E s:=by obtain⟨mb,h1,h2⟩:=I.mod.blt;exact Calls.Name_function_global I.ok.kind hg (Calls.loadGlobal_builtin (by rw[I.ok.glob];exact I.mod.glob.keeps I.bk) hm (by rw[I.ok.blt];exact h1.keeps I.bk) ((h2 x hn).trans hv) h) hd
theorem jG{x:Str}{v:V}{u:Value}{pos:Pos}(hg:Gl X x)(hm:X.mg x=none)(hv:O1 x=some u)(r:RelV v u)(hn:autoParam (x≠"__name__") L2.iu._auto_1)(hd:autoParam ((x==("__debug__":Str))=false) L2.iu._auto_1):PE X (.Name x pos) (tC v) :=
 λc c c H c I h=>gB I hg hm hv ⟨v,H,I,r,h⟩ hn hd
variable {a b:Expr}{ta tb:TE}{pos:Pos}
def PC(X:Cx)(op:CmpOp)(a b:Expr)(t:TE):Prop :=
 ∀(ZY:ZO) (s:Shared) (σ:St) (H:Hp) (Q:VK),Inv X ZY σ H s->t σ H Q ->
  wpAny (model X.prog X.w) X.A (eval a X.env) (λv s₁=>wpAny (model X.prog X.w) X.A (eval b X.env) (λu s₂=>wpAny (model X.prog X.w) X.A (O4 op v u) (EP X ZY σ Q) X.xe s₂) X.xe s₁) X.xe s
def tB(t:TE):TT:=λσ H Q=>t σ H λx H1=>∃c,x=.bl c/\Q c H1
theorem zJ{op:CmpOp}{t:TE}(h:PC X op a b t)(h1:behindInMarks op b=false:=by first|exact nobehind _ (by decide) (by decide)|rfl):PT X (.Compare a [op] [b] pos) (tB t):=by intro ZY s σ H Q I hw;refine wpAny_isTrue_Compare1 (bu (h ZY s σ H _ I hw) λv s1 h1=>bu h1 λu s2 h2=>bu h2 λc s3 ⟨x,H1,I1,r1,q1⟩=>?_) h1;obtain⟨d,rfl,q⟩:=q1;cases r1;exact O8 ⟨H1,I1,q⟩
theorem gC{e:Expr}{t:TE}(h:PE X e t)(he:autoParam (∀whole,isTrue e X.env whole=(do let v <- whole;standAt e.pos;holding [v] (truthy v))) L2.a1q._auto_1):PT X e (tB t):=by intro ZY s σ H Q I hw;refine isTrue_plain (bu (h ZY s σ H _ I hw) λv s1 ⟨x,H1,I1,r1,q1⟩=>?_)<|he _;obtain⟨d,rfl,q⟩:=q1;cases r1;exact O8 ⟨H1,I1,q⟩
variable {tA tB':TT}{rest:List Expr}
def tAnd(t u:TT):TT:=λσ H Q=>t σ H λc H1=>if c=true then u σ H1 Q else Q false H1
def tOr(t u:TT):TT:=λσ H Q=>t σ H λc H1=>if c=true then Q true H1 else u σ H1 Q
def tNot(t:TT):TT:=λσ H Q=>t σ H λc H1=>Q (!c) H1
theorem wD(ha:PT X a tA):PW X (.BoolOp .And [a] pos) tA:=by
 intro wh ZY s σ H Q I h;refine isTrue_and (bu (ha ZY s σ H Q I h) λc s1 e=>?_);cases c with
 |true=>exact isTrue_and_nil e
 |false=>exact e
theorem mQ(ha:PT X a tA):PW X (.BoolOp .Or [a] pos) tA:=by
 intro wh ZY s σ H Q I h;refine isTrue_or (bu (ha ZY s σ H Q I h) λc s1 e=>?_);cases c with
 |false=>exact isTrue_or_nil e
 |true=>exact e
theorem uT(ha:PT X a tA)(hb:PW X (.BoolOp .And (b ::rest) pos) tB'):PW X (.BoolOp .And (a ::b ::rest) pos) (tAnd tA tB'):=by
 intro wh ZY s σ H Q I h;refine isTrue_and (bu (ha ZY s σ H _ I h) λc s1 ⟨H1,I1,q1⟩=>?_);cases c with
 |true=>exact hb wh ZY s1 σ H1 Q I1 q1
 |false=>exact⟨H1,I1,q1⟩
theorem sM(ha:PT X a tA)(hb:PW X (.BoolOp .Or (b ::rest) pos) tB'):PW X (.BoolOp .Or (a ::b ::rest) pos) (tOr tA tB'):=by
 intro wh ZY s σ H Q I h;refine isTrue_or (bu (ha ZY s σ H _ I h) λc s1 ⟨H1,I1,q1⟩=>?_);cases c with
 |true=>exact⟨H1,I1,q1⟩
 |false=>exact hb wh ZY s1 σ H1 Q I1 q1
theorem jo(ha:PT X a tA):PT X (.UnaryOp .Not a pos) (tNot tA):=by intro ZY s σ H Q I h;exact isTrue_not<|ha ZY s σ H (λc H1=>Q (!c) H1) I h
def zK(ta tb:TE):TE:=λσ H Q=>ta σ H λx H1=>∃c,x=.bl c/\if c=true then tb σ H1 Q else Q (.bl false) H1
def tNotV(ta:TE):TE:=λσ H Q=>ta σ H λx H1=>∃c,x=.bl c/\Q (.bl<|!c) H1
theorem zL{op}(h:PE X a t):PE X (.BoolOp op [a] pos) t:=λZY s σ H Q I hw=>BoolOp_one<|h ZY s σ H Q I hw
theorem uU(ha:PE X a ta)(hb:PE X (.BoolOp .And (b ::rest) pos) tb):PE X (.BoolOp .And (a ::b ::rest) pos) (zK ta tb):=by
 intro ZY s σ H Q I h;refine BoolOp_and (bu (ha ZY s σ H _ I h) λv s1 ⟨x,H1,I1,r1,q1⟩=>?_);obtain⟨c,rfl,q1⟩:=q1;cases r1;refine O8 ?_;cases c with
 |true=>exact hb ZY s1 σ H1 Q I1 q1
 |false=>exact⟨.bl false,H1,I1,rfl,q1⟩
theorem pe_not(ha:PE X a ta):PE X (.UnaryOp .Not a pos) (tNotV ta):=by intro ZY s σ H Q I h;refine UnaryOp_ (bu (ha ZY s σ H _ I h) λv s1 ⟨x,H1,I1,r1,q1⟩=>?_);obtain⟨c,rfl,q1⟩:=q1;cases r1;exact not_of<|O8 ⟨.bl<|!c,H1,I1,rfl,q1⟩
def tIf(t:TT)(ta tb:TE):TE:=λσ H Q=>t σ H λc H1=>if c=true then ta σ H1 Q else tb σ H1 Q
theorem iE(hc:PT X c tA)(ha:PE X a ta)(hb:PE X b tb):PE X (.IfExp c a b pos) (tIf tA ta tb):=by
 intro ZY s σ H Q I h;refine wpAny_IfExp (bu (hc ZY s σ H _ I h) λd s1 ⟨H1,I1,q1⟩=>?_);cases d with
 |true=>exact ha ZY s1 σ H1 Q I1 q1
 |false=>exact hb ZY s1 σ H1 Q I1 q1
end
end L2
namespace L2
open PySem PySem.Spec PyProof.Rows
def cD(K:Z3)(H:Hp)(a:Addr)(xs:List V):Prop :=
 Rd H a (.lst xs) \/
  ∃(o:Obj) (its:Zp) (n:Nat),K.lookup a=some o/\o.cls=.type "list"/\o.dict=none/\o.data=.seq its n/\its.size<=W3/\aM xs its.toList
def jp(K:Z3)(H:Hp)(a:Addr)(xs:List V):Prop :=
 Rd H a (.tup xs) \/
  ∃(o:Obj) (its:Zp) (n:Nat),K.lookup a=some o/\o.cls=.type "tuple"/\o.data=.seq its n/\its.size<=W3/\aM xs its.toList
def absV:Value->Option V
 |.none=>some .non
 |.bool b=>some<|.bl b
 |.int i _=>some<|.int i
 |.str x _=>some<|.str x
 |.bytes b _=>some<|.byt b
 |.float b _=>some<|.flt b
 |.ref a=>some<|.ref a
 |.type n=>some<|.ty n
 |_=>none
theorem RelV.abs(r:RelV x u):absV u=some x:=by
 cases x with
 |non=>cases r;rfl
 |bl _=>cases r;rfl
 |int _=>obtain⟨t,rfl⟩:=r;rfl
 |str _=>obtain⟨t,rfl⟩:=r;rfl
 |byt _=>obtain⟨t,rfl⟩:=r;rfl
 |flt _=>obtain⟨t,rfl⟩:=r;rfl
 |ref _=>cases r;rfl
 |ty _=>cases r;rfl
theorem RelV.inj(r:RelV x u)(q:RelV y u):x=y:=Z5<|r.abs.symm.trans q.abs
theorem aM.inj:∀{xs ys:List V} {us:ZT},aM xs us->aM ys us->xs=ys:=λ{xs ys us} p q=>by
 induction p generalizing ys with
 |nil=>cases q;rfl
 |cons r t ih =>
  cases q with
  |cons r' t'=>rw[r.inj r',ih t']
section
variable {X:Cx}{ZY:ZO}{σ:St}{H:Hp}{s:Shared}{a:Addr}{xs ys:List V}
theorem cD.of{K:Z3}(h:H a=some (.lst xs)):cD K H a xs:=.inl<|.inl h
theorem jp.of{K:Z3}(h:H a=some (.tup xs)):jp K H a xs:=.inl<|.inl h
theorem Inv.list(I:Inv X ZY σ H s)(h:cD X.K H a xs):∃its:List Value,aM xs its/\PlainL s.heap a its.toArray/\xs.length<=W3:=by
 rcases h with h|⟨o,its,n,hk,hc,hd,hs,hz,r⟩
 ·obtain⟨z,its,n,r,e⟩:=h.ok I.hok;exact⟨its,r,⟨_,n,e,rfl,rfl,rfl⟩,z⟩
 ·refine⟨its.toList,r,⟨o,n,I.kIn a o hk,hc,hd,by simpa using hs⟩,?_⟩;have e:=r.length;simp only[V7]at e;lia
theorem Inv.tuple(I:Inv X ZY σ H s)(h:jp X.K H a xs):∃its:List Value,aM xs its/\IsTup s.heap a its.toArray/\xs.length<=W3:=by
 rcases h with h|⟨o,its,n,hk,hc,hs,hz,r⟩
 ·obtain⟨z,its,r,p⟩:=h.ok I.hok;exact⟨its,r,p,z⟩
 ·refine⟨its.toList,r,⟨o,I.kIn a o hk,hc,n,by simpa using hs⟩,?_⟩;have e:=r.length;simp only[V7]at e;omega
theorem Inv.list_inj(I:Inv X ZY σ H s)(h:cD X.K H a xs)(h':cD X.K H a ys):xs=ys:=by
 obtain⟨its,r,⟨o,n,e,_,_,d⟩,_⟩:=I.list h;obtain⟨its',r',⟨o',n',e',_,_,d'⟩,_⟩:=I.list h';rw[e]at e';cases e';rw[d]at d';injection d' with d1 _;have:its=its':=by simpa using congrArg Array.toList d1
 subst this;exact r.inj r'
end
abbrev Cx.wish(X:Cx)(E:ZX):Cx:={X with xe:=E}
abbrev Cx.nox(X:Cx):Cx:=X.wish λx x=>False
theorem Cx.Ok.wish{X:Cx}(ok:X.Ok)(E:ZX):(X.wish E).Ok :=
 ⟨ok.mod,ok.kind,ok.glob,ok.blt,ok.above,ok.inj,ok.has,ok.cab,ok.hd,ok.frames,ok.stk,ok.exf,ok.bs,ok.bsz,ok.noex,ok.exfs,ok.funs,ok.frf⟩
theorem Cx.Ok.unwish{X:Cx}{E:ZX}(ok:(X.wish E).Ok):X.Ok :=
 ⟨ok.mod,ok.kind,ok.glob,ok.blt,ok.above,ok.inj,ok.has,ok.cab,ok.hd,ok.frames,ok.stk,ok.exf,ok.bs,ok.bsz,ok.noex,ok.exfs,ok.funs,ok.frf⟩
section
variable {X:Cx}{ZY:ZO}{σ:St}{H:Hp}{s:Shared}{E:ZX}
theorem Inv.wish(I:Inv X ZY σ H s)(E:ZX):Inv (X.wish E) ZY σ H s:=⟨I.ok.wish E,I.os,I.bare,I.base,I.loc,I.cell,I.free,I.freeC,I.pin,I.hok,I.len⟩
theorem Inv.unwish(I:Inv (X.wish E) ZY σ H s):Inv X ZY σ H s:=⟨I.ok.unwish,I.os,I.bare,I.base,I.loc,I.cell,I.free,I.freeC,I.pin,I.hok,I.len⟩
theorem SP.unwish(h:SP (X.wish E) ZY D f s'):SP X ZY D f s':=by
 cases f with
 |next=>obtain⟨σ',H',I,q⟩:=h;exact⟨σ',H',I.unwish,q⟩
 |brk=>obtain⟨σ',H',I,q⟩:=h;exact⟨σ',H',I.unwish,q⟩
 |cont=>obtain⟨σ',H',I,q⟩:=h;exact⟨σ',H',I.unwish,q⟩
 |ret u=>obtain⟨v,σ',H',I,r,q⟩:=h;exact⟨v,σ',H',I.unwish,r,q⟩
theorem mP.nox{st:List Stmt}(h:mP X.nox st t):mP X st t:=λZY s σ H D I hw =>
 R8 (h ZY s σ H D (I.wish _) hw) (λx x q=>q.unwish) λx x z=>L6 z
end
section
variable {X:Cx}{st:Stmt}{rest:List Stmt}{t u:TS}{e:Expr}{te:TE}{pos:Pos}
def mR:TS:=λD σ H=>D.nx σ H
def bW(t u:TS):TS:=λD σ H=>t {D with nx:=u D} σ H
theorem bv:mP X [] mR:=λx x σ H x I h=>wpAny_execs_nil ⟨σ,H,I,h⟩
theorem ae(h1:PS X st t)(h2:mP X rest u):mP X (st ::rest) (bW t u):=by
 intro ZY s σ H D I h;refine wpAny_execs_cons (bu (h1 ZY s σ H {D with nx:=u D} I h) λf s1 q=>?_);cases f with
 |next =>obtain⟨σ',H',I',q⟩:=q;exact h2 ZY s1 σ' H' D I' q
 |ret v=>exact q
 |brk=>exact q
 |cont=>exact q
theorem ao(h1:PS X st t):mP X [st] t:=by
 intro ZY s σ H D I h;refine wpAny_execs_cons (bu (h1 ZY s σ H D I h) λf s1 q=>?_);cases f with
 |next=>exact wpAny_execs_nil q
 |ret v=>exact q
 |brk=>exact q
 |cont=>exact q
def wF:TS:=λD σ H=>D.ct σ H
theorem sN:PS X (.Continue pos) wF:=λx x σ H x I h=>wpAny_Continue ⟨σ,H,I,h⟩
theorem Inv.quiet{σ:St}(I:Inv X ZY σ H s):interactive X.env=false:=by simp[interactive,I.ok.kind]
def lq(te:TE):TS:=λD σ H=>te σ H λx H1=>D.nx σ H1
theorem dh(he:PE X e te)(hs:autoParam (swapsWith e none pos.line X.env=pure false) L2.cY._auto_1):PS X (.Expr e pos) (lq te):=by intro ZY s σ H D I h;exact wpAny_Expr_any (bu (he ZY s σ H _ I h) λv s1 ⟨x,H1,I1,r1,q1⟩=>⟨σ,H1,I1,q1⟩) I.quiet hs
def mS(te:TE):TS:=λD σ H=>te σ H D.rt
theorem aG(he:PE X e te):PS X (.Return (some e) pos) (mS te):=by intro ZY s σ H D I h;exact wpAny_Return_some (bu (he ZY s σ H _ I h) λv s1 ⟨x,H1,I1,r1,q1⟩=>⟨x,σ,H1,I1,r1,q1⟩)
def tIfS(c:TT)(t u:TS):TS:=λD σ H=>c σ H λb H1=>if b=true then t D σ H1 else u D σ H1
theorem dC(hc:PT X c tc)(ha:mP X a t)(hb:mP X b u):PS X (.If c a b pos) (tIfS tc t u):=by
 intro ZY s σ H D I h;refine wpAny_If (bu (hc ZY s σ H _ I h) λd s1 ⟨H1,I1,q1⟩=>?_);cases d with
 |true=>exact ha ZY s1 σ H1 D I1 q1
 |false=>exact hb ZY s1 σ H1 D I1 q1
end
abbrev TG:=V->St->Hp->(St->Hp->Prop)->Prop
abbrev TGs:=List V->St->Hp->(St->Hp->Prop)->Prop
def PG(X:Cx)(target:Expr)(t:TG):Prop :=
 ∀(ZY:ZO) (s:Shared) (σ:St) (H:Hp) (v:V) (u:Value) (Q:St->Hp->Prop),Inv X ZY σ H s->RelV v u->t v σ H Q ->
  wpAny (model X.prog X.w) X.A (assign target X.env u) (λx s'=>∃σ' H',Inv X ZY σ' H' s'/\Q σ' H') X.xe s
def PGs(X:Cx)(ts:List Expr)(t:TGs):Prop :=
 ∀(ZY:ZO) (s:Shared) (σ:St) (H:Hp) (vs:List V) (us:ZT) (Q:St->Hp->Prop),Inv X ZY σ H s->aM vs us->t vs σ H Q ->
  wpAny (model X.prog X.w) X.A (assignInOrder ((assignEach ts X.env).map (·.2)) us) (λx s'=>∃σ' H',Inv X ZY σ' H' s'/\Q σ' H') X.xe s
abbrev TSet:=V->V->V->Hp->(Hp->Prop)->Prop
def PSet(X:Cx)(t:TSet):Prop :=
 ∀(ZY:ZO) (s:Shared) (σ:St) (H:Hp) (o i v:V) (ov iv u:Value) (Q:Hp->Prop),Inv X ZY σ H s->RelV o ov->RelV i iv->RelV v u->t o i v H Q ->
  wpAny (model X.prog X.w) X.A (setItem ov iv u) (λx s'=>∃H',Inv X ZY σ H' s'/\Q H') X.xe s
section
variable {X:Cx}{pos:Pos}
def db(i:Nat):TG:=λv σ H Q=>Q (σ.set i<|some v) H
theorem pg_name{i:Nat}{x:Str}(hN:X.N.Nodup)(hi:X.N[i]?=some x)(hx:Loc X.env.scope x)(hf:X.fn x=true\/X.env.scope.names.lookup x=some .local:=by first|exact .inl rfl|exact .inr rfl|assumption):PG X (.Name x pos) (db i):=by intro ZY s σ H v u Q I r h;exact wpAny_assign_Name<|jF I hN hi hx r (λs' I'=>⟨_,H,I',h⟩) hf
def gNil:TGs:=λvs σ H Q=>vs=[]/\Q σ H
def jH(t:TG)(u:TGs):TGs:=λvs σ H Q=>∃v r,vs=v ::r/\t v σ H λσ' H'=>u r σ' H' Q
theorem jI:PGs X [] gNil:=by intro ZY s σ H vs us Q I r h;obtain⟨e,h⟩:=h;subst e;cases r;exact assignInOrder_nil ⟨σ,H,I,h⟩
theorem cG{e:Expr}{es:List Expr}{t:TG}{u:TGs}(h1:PG X e t)(h2:PGs X es u)(hs:autoParam ((assignEach (e ::es) X.env).map (·.2)=assign e X.env ::(assignEach es X.env).map (·.2)) L2.cY._auto_1):PGs X (e ::es) (jH t u):=by
 intro ZY s σ H vs us Q I r h;obtain⟨v,vr,e1,h⟩:=h;subst e1;cases r with
 |cons r rr =>rw[hs];refine assignInOrder_cons (bu (h1 ZY s σ H _ _ _ I r h) λ_ s1 ⟨σ1,H1,I1,q1⟩=>?_);exact h2 ZY s1 σ1 H1 _ _ Q I1 rr q1
def zM(K:Z3)(n:Nat)(t:TGs):TG:=λv σ H Q=>∃a xs,v=.ref a/\jp K H a xs/\xs.length=n/\t xs σ H Q
theorem pg_tup{es:List Expr}{k:Nat}{t:TGs}{n:Nat}(hc:X.calm=true)(h:PGs X es t)(hn:autoParam ((assignEach es X.env).length=n) L2.cY._auto_1)(hst:autoParam ((assignEach es X.env).findIdx? (·.1)=none) L2.cY._auto_1):PG X (.Tuple es k pos) (zM X.K n t):=by intro ZY s σ H v u Q I r hw;obtain⟨a,xs,e1,hq,hl,hw⟩:=hw;subst e1;cases r;obtain⟨its,rv,ht,hz⟩:=I.tuple hq;refine assign_Tuple_tuple (I.ok.hd hc) ht (by simp[hn,<- hl,rv.length]) hst λh' hx=>?_;have I1:Inv X ZY σ H {s with heap:=h'}:=I.kept (t':=s.toks) λb o e=>hx b o (dB<|Y8 e) e;exact h ZY _ σ H xs _ Q I1 (by simpa using rv) hw
def gSub(to ti:TE)(t:TSet):TG:=λv σ H Q=>to σ H λo H1=>ti σ H1 λi H2=>t o i v H2 λH3=>Q σ H3
theorem uV{o i:Expr}{to ti:TE}{t:TSet}(ho:PE X o to)(hi:PE X i ti)(hs:PSet X t)(ha:∀v,assign (.Subscript o i pos) X.env v=(do
   let ov <- holding [v] (eval o X.env)
   let iv <- holding [v,ov] (eval i X.env)
   standAt pos
   holding [v,ov,iv] (setItem ov iv v)
   release [v,ov,iv] []):=by intro _;rfl):PG X (.Subscript o i pos) (gSub to ti t):=by
 intro ZY s σ H v u Q I r h;rw[ha];refine Z0<|S7 (bu (ho ZY s σ H _ I h) λov s1 ⟨x,H1,I1,r1,q1⟩=>?_);refine Z0<|S7 (bu (hi ZY s1 σ H1 _ I1 q1) λiv s2 ⟨y,H2,I2,r2,q2⟩=>?_);refine Z0<|wpAny_standAt<|Z0<|S7 (bu (hs ZY s2 σ H2 x y v ov iv u _ I2 r1 r2 r q2) λ_ s3 ⟨H3,I3,q3⟩=>?_);exact wpAny_release ⟨σ,H3,I3,q3⟩
def jJ(te:TE)(g:TG):TS:=λD σ H=>te σ H λx H1=>g x σ H1 D.nx
theorem uW{tg e:Expr}{te:TE}{g:TG}(he:PE X e te)(hg:PG X tg g)(hs:autoParam (swapsWithSole [tg] e pos.line X.env=pure false) L2.cY._auto_1)(hw:autoParam (swappedStores [tg] e X.env=pure none) L2.cY._auto_1)(h1:autoParam ((assignEach [tg] X.env).map (·.2)=[assign tg X.env]) L2.cY._auto_1):PS X (.Assign [tg] e pos) (jJ te g):=by intro ZY s σ H D I h;refine wpAny_Assign_stores (bu (he ZY s σ H _ I h) λv s1 ⟨x,H1,I1,r1,q1⟩=>?_) hs hw;rw[h1];exact bu (hg ZY s1 σ H1 x v _ I1 r1 q1) λa s2 q=>q
theorem zN{i:Nat}{x:Str}{e:Expr}{te:TE}{pos':Pos}(hN:X.N.Nodup)(hi:X.N[i]?=some x)(hx:Loc X.env.scope x)(he:PE X e te)(hs:autoParam (swapsWith e (some<|.Name x pos') pos.line X.env=pure false) L2.cY._auto_1)(hf:X.fn x=true\/X.env.scope.names.lookup x=some .local:=by first|exact .inl rfl|exact .inr rfl|assumption):
  PS X (.Assign [.Name x pos'] e pos) (jJ te<|db i):=by
 intro ZY s σ H D I h;refine wpAny_Assign_Name (bu (he ZY s σ H _ I h) λv s1 ⟨y,H1,I1,r1,q1⟩=>?_) hs;exact jF I1 hN hi hx r1 (λs2 I2=>⟨_,H1,I2,q1⟩) hf
def tPar(i j:Nat)(ta:TA):TS:=λD σ H=>ta σ H λvs H1=>∃v w,vs=[v,w]/\D.nx ((σ.set i<|some v).set j (some w)) H1
theorem zO{i j:Nat}{x y:Str}{a b:Expr}{ta:TA}{px py pt:Pos}{kt k2 pt2}(hc:X.calm=true)(hN:X.N.Nodup)(hi:X.N[i]?=some x)(hj:X.N[j]?=some y)(hij:i≠j)(hx:X.env.scope.names.lookup x=some .local)(hy:X.env.scope.names.lookup y=some .local)(ha:PA X [a,b] ta)(hw:swappedStores [.Tuple [.Name x px,.Name y py] kt pt] (.Tuple [a,b] k2 pt2) X.env=pure (some [x,y]))(hs:autoParam (swapsWithSole [.Tuple [.Name x px,.Name y py] kt pt] (.Tuple [a,b] k2 pt2) pos.line X.env=pure false) L2.cY._auto_1):
  PS X (.Assign [.Tuple [.Name x px,.Name y py] kt pt] (.Tuple [a,b] k2 pt2) pos) (tPar i j ta):=by
 intro ZY s σ H D I h;rw[exec_Assign_arm];refine Z0<|wpAny_standAt ?_;rw[hs];refine Z0<|Z6 ?_;rw[if_neg (by decide)];refine Z0<|Tuple_ (bu (ha _ ZY s σ H _ I h) λus s1 ⟨vs,H1,I1,r1,q1⟩=>?_);obtain⟨v,w,e1,q1⟩:=q1;subst e1;obtain⟨u1,u2,rfl,rv,rw'⟩:∃u1 u2,us=[u1,u2]/\RelV v u1/\RelV w u2:=by
  cases r1 with
  |cons p q =>
   cases q with
   |cons p' q' =>cases q';exact⟨_,_,rfl,p,p'⟩
 refine O9 ?_ (by show 2<=W3;decide);have I2:Inv X ZY σ H1 {s1 with heap:=s1.heap.push {cls:=.type "tuple",data:=.seq [u1,u2].toArray}}:=I1.kept (t':=s1.toks) λb o e=>Z4 _ e;rw[hw];refine Z0<|Z6 ?_;show wpAny (model X.prog X.w) X.A (do rule "assign.swapped-stores";let items <- unpackItems (.ref s1.heap.objs.size) 2 none;assignInOrder [λv=>bindName X.env y v,λv=>bindName X.env x v] items.reverse;pure Flow.next) _ _ _;refine Z0<|E4<|Z0 (unpackItems_tuple (items:=#[u1,u2]) (I.ok.hd hc) (IsTup.new s1.heap _) λh' hx'=>?_);have I3:=I2.kept (h':=h') (t':=s1.toks) λb o e=>hx' b o (dB<|Y8 e) e;show wpAny _ _ (assignInOrder [λv=>bindName X.env y v,λv=>bindName X.env x v] [u2,u1] >>= λc=>pure Flow.next) _ _ _;refine Z0<|assignInOrder_cons<|wpAny_bindName<|jF I3 hN hj (.inl hy) rw' (λs2 I4=>?_)<|.inr hy;refine assignInOrder_cons<|wpAny_bindName<|jF I4 hN hi (.inl hx) rv (λs3 I5=>assignInOrder_nil<|Z6 ?_)<|.inr hx;rw[List.set_comm _ _ (R6 hij)]at I5;exact⟨_,H1,I5,q1⟩
end
section
variable {X:Cx}{pos:Pos}
def zP(c:TT)(tb:TS):TS:=λD σ H=>∃W:Nat->St->Hp->Prop,(∃m,W m σ H)/\∀m σ H,W m σ H ->
 c σ H λb H1=>if b=true then ∃N:St->Hp->Prop,(∀σ' H',N σ' H'->∃m',m'<m/\W m' σ' H')/\tb {D with nx:=N,ct:=N,bk:=D.nx} σ H1 else D.nx σ H1
theorem zQ(hp:PassesOwn (model X.prog X.w) X.A X.env X.xe)(hc:PT X c tc)(hb:mP X body tb):PS X (.While c body [] pos) (zP tc tb):=by
 intro ZY s σ H D I h;obtain⟨W,⟨m0,w0⟩,turn⟩:=h;refine wpAny_While<|codeAny_whileLoop (λn s'=>∃σ' H',Inv X ZY σ' H' s'/\W n σ' H') ?_ m0 ⟨σ,H,I,w0⟩;rintro n s1 ⟨σ1,H1,I1,w1⟩;refine wpAny_passesOwn hp (bu (hc ZY s1 σ1 H1 _ I1<|turn n σ1 H1 w1) λb s2 ⟨H2,I2,q2⟩=>?_);cases b with
 |true =>
  obtain⟨N,hN,q2⟩:=q2;rw[if_pos rfl];refine wpAny_passesOwn hp (bu (hb ZY s2 σ1 H2 _ I2 q2) λf s3 q3=>?_);cases f with
  |next =>obtain⟨σ3,H3,I3,n3⟩:=q3;obtain⟨m',hm,w3⟩:=hN σ3 H3 n3;exact⟨m',hm,σ3,H3,I3,w3⟩
  |cont =>obtain⟨σ3,H3,I3,n3⟩:=q3;obtain⟨m',hm,w3⟩:=hN σ3 H3 n3;exact⟨m',hm,σ3,H3,I3,w3⟩
  |brk=>exact q3
  |ret v=>exact q3
 |false =>rw[if_neg Y3];exact wpAny_execs_nil ⟨σ1,H2,I2,q2⟩
end
structure It where
 go:Nat->Hp->Prop
 yld:Nat->Hp->V->Hp->Prop
 stop:Nat->Hp->Prop
def jK(X:Cx)(ZY:ZO)(H:Hp)(b:Addr):Prop :=
 H b=none/\b≠X.env.locals/\b∉X.fs/\(b∈X.ex\/X.s₀.heap.objs.size<=b)/\(∀x c,X.env.cells.lookup x=some c->c≠b)/\∀p∈X.pn++ZY,p.1≠b
theorem Inv.fpOk{σ:St}{b:Addr}(I:Inv X ZY σ H s)(hb:s.heap.objs.size<=b)(hn:H' b=none):jK X ZY H' b:=by
 refine⟨hn,M9<|cf I.lt hb,I.nofs hb,.inr<|aR I.sz hb,λx c e z=>?_,λp hp z=>?_⟩
 ·obtain⟨v,q⟩:=I.cell x c e;exact absurd (cf q.lt (by rw[z];exact hb))<|O7 _
 ·exact absurd (cf (Y8 (I.pin p hp).1) (by rw[z];exact hb))<|O7 _
structure Turn(P:U7)(w:World)(K:Z3)(tg:Expr)(J:It)(fp:Zz)(it:Addr)(tn:Nat->Heap->Prop):Prop where
 mem:it∈fp
 obj:∀i h,tn i h->∀b∈fp,∃o,h.get? b=some o/\∀v,o.data≠.cell v
 keep:∀i h h',tn i h->(∀b∈fp,∀o,h.get? b=some o->h'.get? b=some o)->tn i h'
 item:∀(X:Cx),X.prog=P->X.w=w->X.K=K->X.calm=true->∀(i:Nat) (ZY:ZO) (s:Shared) (σ:St) (H:Hp) (E:ZX),Inv X ZY σ H s->(∀b∈fp,jK X ZY H b)->tn i s.heap->J.go i H ->
  wpAny (model P w) X.A (pyNext<|.ref it) (λr s1=>∃u,r=some u /\
   wpAny (model P w) X.A (letOwnedTupleGo tg (.ref it) u) (λa s2=>∃x H',Inv X ZY σ H' s2/\RelV x u/\J.yld i H x H'/\tn (i+1) s2.heap/\∀b∈fp,H' b=none) E s1) E s
 done:∀(X:Cx),X.prog=P->X.w=w->X.K=K->X.calm=true->∀(i:Nat) (ZY:ZO) (s:Shared) (σ:St) (H:Hp) (E:ZX),Inv X ZY σ H s->(∀b∈fp,jK X ZY H b)->tn i s.heap->J.stop i H ->
  wpAny (model P w) X.A (pyNext<|.ref it) (λr s1=>r=none/\Inv X ZY σ H s1) E s
 self:∀(A:Around) (i:Nat) (s:Shared) (Q:ZX) (E:ZX),tn i s.heap->Q (.ref it) s->wpAny (model P w) A (pyIter<|.ref it) Q E s
abbrev TI:=St->Hp->(It->Hp->Prop)->Prop
def PIE(X:Cx)(ZY:ZO)(σ:St)(tg:Expr)(R:It->Hp->Prop)(itv:Value)(s2:Shared):Prop :=
 ∃(it:Addr) (fp:Zz) (tn:Nat->Heap->Prop) (J:It) (H':Hp),itv=.ref it/\Inv X ZY σ H' s2/\Turn X.prog X.w X.K tg J fp it tn/\tn 0 s2.heap/\(∀b∈fp,jK X ZY H' b)/\R J H'
def PI(X:Cx)(tg iter:Expr)(wi:TI):Prop :=
 ∀(ZY:ZO) (s:Shared) (σ:St) (H:Hp) (R:It->Hp->Prop),Inv X ZY σ H s->wi σ H R ->
  wpAny (model X.prog X.w) X.A (eval iter X.env) (λv s1=>wpAny (model X.prog X.w) X.A (pyIter v) (PIE X ZY σ tg R) X.xe s1) X.xe s
theorem go_of{E:ZX}{Q:Unit->Shared->Prop}(ho:s.heap.get? it=some o)(hc:o.cls=.type n)(hd:o.data=.fields vs)(hn:["enumerate","zip","dict_itemiterator","dict_reverseitemiterator","odict_iterator","itertools.zip_longest","itertools.pairwise"].contains n=false)(hQ:Q () s):wpAny M A (letOwnedTupleGo tg (.ref it) u) Q E s:=by
  unfold letOwnedTupleGo;cases tg<;>first
    |exact Z6 hQ
    | (cases u <;> first
        |exact Z6 hQ
        | (refine Z0 (wpAny_load ho ?_)
           rw[hc,hd];show wpAny M A (if (["enumerate","zip","dict_itemiterator","dict_reverseitemiterator","odict_iterator","itertools.zip_longest","itertools.pairwise"].contains n&&vs[0]?==some (rawInt _))=true then _ else _) Q E s;rw[if_neg (by intro h;rw[hn,Bool.false_and]at h;cases h)];exact Z6 hQ))
def Itl(K:Z3)(a:Addr):It :=
 ⟨λi H=>∃xs x,cD K H a xs/\xs[i]?=some x,λi H x H'=>H'=H/\∀xs,cD K H a xs->xs[i]?=some x,λi H=>∃xs,cD K H a xs/\xs.length<=i⟩
def Itr(lo:Int)(n:Nat):It:=⟨λi a=>i<n,λi H x H'=>H'=H/\x=.int (lo+i),λi a=>n<=i⟩
theorem yi{K:Z3}(a it:Addr):Turn P w K tg (Itl K a) [it] it (λi h=>h.IsListIter it a i) where
 mem:=by simp
 obj:=λi h st b hb=>by
  have e:b=it:=by simpa using hb
  subst e;obtain⟨o,e,c,d⟩:=st;exact⟨o,e,λv z=>by rw[d]at z;cases z⟩
 keep:=λi h h' st k=>st.at λo e=>k it (by simp) o e
 item:=by intro X hP hw hK hc i ZY s σ H E I hf st hg;subst hP hw hK;obtain⟨xs,x,hq,hx⟩:=hg;obtain⟨its,rv,p,hz⟩:=I.list hq;obtain⟨u,hu,ru⟩:=rv.get hx;obtain⟨f0,f1,f2,f3,f4,f5⟩:=hf it (by simp);refine wpAny_pyNext_list_item st p.isList (x:=u) (by simpa using hu) λh' st' sb=>?_;have I1:Inv X ZY σ H {s with heap:=h'}:=I.turned (t':=s.toks) (λb o hb e=>(sb.2 b hb).trans e) f0 f1 f3 f4 f5;obtain⟨o,e,c,d⟩:=id st';exact⟨u,rfl,go_of (s:={s with heap:=h'}) e c d (by decide) ⟨x,H,I1,ru,⟨rfl,λys hy=>by rw[I.list_inj hy hq];exact hx⟩,st',λb hb=>(hf b hb).1⟩⟩
 done:=by intro X hP hw hK hc i ZY s σ H E I hf st hg;subst hP hw hK;obtain⟨xs,hq,hx⟩:=hg;obtain⟨its,rv,p,hz⟩:=I.list hq;obtain⟨f0,f1,f2,f3,f4,f5⟩:=hf it (by simp);have hl:=rv.length;exact wpAny_pyNext_list_end (I.ok.hd hc) st p.isList (by simp;lia) λh' eb=>⟨rfl,I.turned (t':=s.toks) (λb o hb e=>eb b o hb e) f0 f1 f3 f4 f5⟩
 self:=λy y y y y st h=>wpAny_pyIter_listiter st h
theorem uX{K:Z3}(it:Addr)(lo:Int)(n:Nat):Turn P w K tg (Itr lo n) [it] it (λi h=>IsRangeIter h it (lo+(i:Nat)*1) ((n:Int)-(i:Nat)) 1) where
 mem:=by simp
 obj:=λi h st b hb=>by
  have e:b=it:=by simpa using hb
  subst e;exact⟨_,st,λv z=>by have z':Data.fields _=Data.cell v:=z;cases z'⟩
 keep:=λi h h' st k=>k it (by simp) _ st
 item:=by intro X hP hw hK hc i ZY s σ H E I hf st hg;subst hP hw hK;obtain⟨f0,f1,f2,f3,f4,f5⟩:=hf it (by simp);have W:=Walks.range (prog:=X.prog) (w:=X.w) (I.ok.hd hc) it lo 1 n;refine W.item i s _ _ hg st λv h' tk hv st' kk=>?_;obtain⟨t,rfl⟩:=hv;have I1:Inv X ZY σ H {s with heap:=h',toks:=tk}:=I.turned (λb o hb e=>kk b o (by simpa using hb) e) f0 f1 f3 f4 f5;refine⟨_,rfl,go_of (s:={s with heap:=h',toks:=tk}) (n:="range_iterator") st' rfl rfl (by decide) ⟨.int<|lo+i,H,I1,⟨t,?_⟩,⟨rfl,rfl⟩,st',λb hb=>(hf b hb).1⟩⟩;rw[Int.mul_one]
 done:=by intro X hP hw hK hc i ZY s σ H E I hf st hg;subst hP hw hK;obtain⟨f0,f1,f2,f3,f4,f5⟩:=hf it (by simp);exact wpAny_pyNext_range_end (I.ok.hd hc) st (by have:n<=i:=hg;lia) λh' eb=>⟨rfl,I.turned (t':=s.toks) (λb o hb e=>eb b o hb e) f0 f1 f3 f4 f5⟩
 self:=λx x x x x st h=>wpAny_pyIter_rangeiter st h
end L2
namespace L2
open PySem PySem.Spec PyProof.Rows
section
variable {X:Cx}{tg:Expr}
def mT(K:Z3)(tl:TE):TI:=λσ H R=>tl σ H λx H1=>∃a,x=.ref a/\(∃xs,cD K H1 a xs)/\R (Itl K a) H1
theorem pi_list(hl:PE X l tl):PI X tg l (mT X.K tl):=by
 intro ZY s σ H R I h;refine bu (hl ZY s σ H _ I h) λv s1 ⟨x,H1,I1,r1,q1⟩=>?_;obtain⟨a,rfl,⟨xs,hq⟩,q⟩:=q1;cases r1;obtain⟨its,rv,p,hz⟩:=I1.list hq;refine wpAny_pyIter_list p.isList ?_;refine⟨s1.heap.objs.size,[s1.heap.objs.size],_,_,H1,rfl,I1.kept (t':=s1.toks) λb o e=>Z4 _ e,yi a _,⟨_,X0 _ rfl,rfl,rfl⟩,λb hb=>?_,q⟩;have e:b=s1.heap.objs.size:=by simpa using hb
 subst e;exact I1.fpOk (bi _)<|I1.hok.fresh<|bi _
theorem sO{σ:St}{R:It->Hp->Prop}{E:ZX}{lo hi:Int}(I:Inv X ZY σ H s)(h1:-(2^62)<=lo)(h2:lo<2^62)(h3:-(2^62)<=hi)(h4:hi<2^62)(q:R (Itr lo (hi-lo).toNat) H):wpAny (model X.prog X.w) X.A (pyIter<|.ref s.heap.objs.size) (PIE X ZY σ tg R) E {s with heap:=s.heap.push {cls:=.type "range",data:=.fields #[.int lo t,.int hi u,.int 1 v]},toks:=tk}:=by
 refine wpAny_pyIter_range (IsRange.new ..) (small_one h1 h2 h3 h4) ?_;have I1:Inv X ZY σ H {s with heap:=s.heap.push {cls:=.type "range",data:=.fields #[.int lo t,.int hi u,.int 1 v]},toks:=tk}:=I.kept λb o e=>Z4 _ e;refine⟨(s.heap.push {cls:=.type "range",data:=.fields #[.int lo t,.int hi u,.int 1 v]}).objs.size,[(s.heap.push {cls:=.type "range",data:=.fields #[.int lo t,.int hi u,.int 1 v]}).objs.size],_,_,H,rfl,
  I1.kept (t':=tk) λb o e=>Z4 _ e,uX _ lo (hi-lo).toNat,?_,λb hb=>?_,q⟩
 ·have e1:lo+((0:Nat):Int)*1=lo:=by simp
  have e2:(((hi-lo).toNat:Nat):Int)-((0:Nat):Int)=R7.Range.rangeSize lo hi 1:=by rw[rangeSize_one];split<;>lia
  show IsRangeIter _ _ (lo+((0:Nat):Int)*1) ((((hi-lo).toNat:Nat):Int)-((0:Nat):Int)) 1;rw[e1,e2];exact X0 _ rfl
 ·have e:b=(s.heap.push {cls:=.type "range",data:=.fields #[.int lo t,.int hi u,.int 1 v]}).objs.size:=by simpa using hb
  subst e;exact I1.fpOk (bi _)<|I1.hok.fresh<|bi _
def iRng1(ta:TA):TI:=λσ H R=>ta σ H λvs H1=>∃j:Int,vs=[.int j]/\-(2^62)<=j/\j<2^62/\R (Itr 0 j.toNat) H1
def iRng2(ta:TA):TI:=λσ H R=>ta σ H λvs H1=>∃i j:Int,vs=[.int i,.int j]/\(-(2^62)<=i/\i<2^62/\-(2^62)<=j/\j<2^62)/\R (Itr i (j-i).toNat) H1
theorem fq{a:Expr}{ta:TA}{p pos:Pos}(hg:Gl X "range")(hm:X.mg "range"=none)(ha:PA X [a] ta)(hs:autoParam (V1 [a] X.env=[(false,eval a X.env)]) L2.cY._auto_1):PI X tg (.Call (.Name "range" p) [a] [] pos) (iRng1 ta):=by
 intro ZY s σ H R I h;refine Call_<|gB I hg hm boot_range<|M0 (bu (ha pos ZY s σ H _ I h) λus s1 ⟨vs,H1,I1,r1,j,e,q1,q2,q⟩=>?_) hs rfl;subst e;cases r1 with
 |cons r rr =>cases rr;obtain⟨t,rfl⟩:=r;exact call_range_1<|sO I1 (by lia) (by lia) q1 q2 (by simpa using q)
theorem pT{a b:Expr}{ta:TA}{p pos:Pos}(hg:Gl X "range")(hm:X.mg "range"=none)(ha:PA X [a,b] ta)(hs:autoParam (V1 [a,b] X.env=[(false,eval a X.env),(false,eval b X.env)]) L2.cY._auto_1)(hs2:autoParam (V1 [b] X.env=[(false,eval b X.env)]) L2.cY._auto_1):
  PI X tg (.Call (.Name "range" p) [a,b] [] pos) (iRng2 ta):=by
 intro ZY s σ H R I h;refine Call_<|gB I hg hm boot_range<|M0 (bu (ha pos ZY s σ H _ I h) λus s1 ⟨vs,H1,I1,r1,i,j,e,⟨q1,q2,q3,q4⟩,q⟩=>?_) (by rw[hs,hs2]) (by rw[hs2];rfl);subst e;cases r1 with
 |cons r rr =>
  cases rr with
  |cons r' rr =>cases rr;obtain⟨t,rfl⟩:=r;obtain⟨t',rfl⟩:=r';exact call_range_2<|sO I1 q1 q2 q3 q4 q
def sP(wi:TI)(g:TG)(tb:TS):TS:=λD σ H=>wi σ H λJ H1=>∃W:Nat->Nat->St->Hp->Prop,(∃m,W 0 m σ H1)/\∀i m σ H,W i m σ H ->
 (J.stop i H/\D.nx σ H)\/(J.go i H/\∃N:St->Hp->Prop,(∀σ' H',N σ' H'->∃m',m'<m/\W (i+1) m' σ' H')/\∀x H',J.yld i H x H'->g x σ H' λσ2 H2=>tb {D with nx:=N,ct:=N,bk:=D.nx} σ2 H2)
def mU(fp:Zz)(h:Heap):List (Addr×Obj):=fp.filterMap λb=>(h.get? b).map λo=>(b,o)
theorem hW(hb:b∈fp)(e:h.get? b=some o):(b,o)∈mU fp h:=List.mem_filterMap.mpr ⟨b,hb,by rw[e];rfl⟩
theorem yj(hp:p∈mU fp h):p.1∈fp/\h.get? p.1=some p.2:=by
 obtain⟨b,hb,e⟩:=List.mem_filterMap.mp hp;cases q:h.get? b with
 |none=>rw[q]at e;cases e
 |some o =>rw[q]at e;have e':(b,o)=p:=Z5 e;subst e';exact⟨hb,q⟩
theorem Inv.pinned{σ:St}(I:Inv X ZY σ H s)(hf:∀b∈fp,jK X ZY H b)(ho:∀b∈fp,∃o,s.heap.get? b=some o/\∀v,o.data≠.cell v):Inv X (ZY++mU fp s.heap) σ H s :=
 I.pins_of λp hp=>(V4.mp hp).elim (λz=>I.pin p<|X1 _ z) λz=>by obtain⟨hb,e⟩:=yj z;obtain⟨f0,f1,f2,_⟩:=hf p.1 hb;obtain⟨o,e',d⟩:=ho p.1 hb;rw[e]at e';cases e';exact⟨e,f0,f1,f2,d⟩
theorem Inv.unpinned{σ:St}(I:Inv X (ZY++pl) σ H s):Inv X ZY σ H s:=I.pins_of λp hp=>I.pin p<|X1 _<|P8 _ hp
theorem bZ{iter:Expr}{body:List Stmt}{wi:TI}{g:TG}{tb:TS}{pos:Pos}(hp:PassesOwn (model X.prog X.w) X.A X.env X.xe)(hc:X.calm=true)(hi:PI X tg iter wi)(hg:PG X tg g)(hb:mP X body tb)(hs:autoParam (∀x,foldedSetIterable iter X.env x=pure x) L2.a1q._auto_1):PS X (.For tg iter body [] pos) (sP wi g tb):=by
 intro ZY s σ H D I h;refine wpAny_For (bu (hi ZY s σ H _ I h) λv s1 h1=>bu h1 λitv s2 h2=>?_) hs;obtain⟨it,fp,tn,J,H2,rfl,I2,T,st2,f2,W,⟨m0,w0⟩,turn⟩:=h2;have stat:∀{H':Hp},(∀b∈fp,H' b=none)->∀b∈fp,jK X ZY H' b:=λhn b hb=>⟨hn b hb,(f2 b hb).2⟩;refine codeAny_forLoop_any (λn s'=>∃i σ' H',Inv X ZY σ' H' s'/\tn i s'.heap/\(∀b∈fp,H' b=none)/\W i n σ' H') ?_ m0 ⟨0,σ,H2,I2,st2,λb hb=>(f2 b hb).1,w0⟩;rintro n s3 ⟨i,σ3,H3,I3,st3,fr3,w3⟩;rcases turn i n σ3 H3 w3 with zr|zr
 ·obtain⟨stop,qn⟩:=zr;refine wpAny_passesOwn hp (bu (T.done X rfl rfl rfl hc i ZY s3 σ3 H3 X.xe I3 (stat fr3) st3 stop) λr s4 ⟨hr,I4⟩=>?_);subst hr;exact wpAny_execs_nil ⟨σ3,H3,I4,qn⟩
 ·obtain⟨go,N,hN,step⟩:=zr;refine wpAny_passesOwn hp (bu (T.item X rfl rfl rfl hc i ZY s3 σ3 H3 X.xe I3 (stat fr3) st3 go) λr s4 ⟨u,hr,h4⟩=>?_);subst hr;refine wpAny_passesOwn hp (bu h4 λ_ s5 ⟨x,H5,I5,r5,y5,st5,fr5⟩=>?_);have I5':=I5.pinned (stat fr5)<|T.obj _ _ st5;refine wpAny_passesOwn hp (bu (hg _ s5 σ3 H5 x u _ I5' r5<|step x H5 y5) λ_ s6 ⟨σ6,H6,I6,q6⟩=>?_);refine wpAny_passesOwn hp (bu (hb _ s6 σ6 H6 _ I6 q6) λf s7 q7=>?_);have again:∀{σ7:St} {H7:Hp},Inv X (ZY++mU fp s5.heap) σ7 H7 s7->N σ7 H7->∃m,m<n/\∃i σ' H',Inv X ZY σ' H' s7/\tn i s7.heap/\(∀b∈fp,H' b=none)/\W i m σ' H':=λ{σ7 H7} I7 n7=>by obtain⟨m',hm,w7⟩:=hN σ7 H7 n7;refine⟨m',hm,i+1,σ7,H7,I7.unpinned,T.keep _ _ _ st5 λb hb o e=>(I7.pin (b,o)<|X1 _<|X1 _<|hW hb e).1,λb hb=>?_,w7⟩;obtain⟨o,e,d⟩:=T.obj _ _ st5 b hb;exact(I7.pin (b,o)<|X1 _<|X1 _<|hW hb e).2.1
  cases f with
  |next=>obtain⟨σ7,H7,I7,n7⟩:=q7;exact again I7 n7
  |cont=>obtain⟨σ7,H7,I7,n7⟩:=q7;exact again I7 n7
  |brk=>obtain⟨σ7,H7,I7,q7⟩:=q7;exact⟨σ7,H7,I7.unpinned,q7⟩
  |ret v=>obtain⟨x7,σ7,H7,I7,r7,q7⟩:=q7;exact⟨x7,σ7,H7,I7.unpinned,r7,q7⟩
end
end L2
namespace L2
open PySem PySem.Spec PyProof.Rows
abbrev R2:=V->V->Hp->VK->Prop
def jg(X:Cx)(f:Value->Value->Sem Value)(r:R2):Prop :=
 ∀(ZY:ZO) (s:Shared) (σ:St) (H:Hp) (x y:V) (v u:Value) (Q:VK),Inv X ZY σ H s->RelV x v->RelV y u->r x y H Q ->
  wpAny (model X.prog X.w) X.A (f v u) (EP X ZY σ Q) X.xe s
def UnR(X:Cx)(f:Value->Sem Value)(r:V->Hp->VK->Prop):Prop :=
 ∀(ZY:ZO) (s:Shared) (σ:St) (H:Hp) (x:V) (v:Value) (Q:VK),Inv X ZY σ H s->RelV x v->r x H Q ->
  wpAny (model X.prog X.w) X.A (f v) (EP X ZY σ Q) X.xe s
def dR(X:Cx)(f:Value)(r:List V->Hp->VK->Prop):Prop :=
 ∀(ZY:ZO) (s:Shared) (σ:St) (H:Hp) (xs:List V) (us:ZT) (Q:VK),Inv X ZY σ H s->aM xs us->r xs H Q ->
  wpAny (model X.prog X.w) X.A (call f us) (EP X ZY σ Q) X.xe s
def TruR(X:Cx)(r:V->Hp->(Bool->Hp->Prop)->Prop):Prop :=
 ∀(ZY:ZO) (s:Shared) (σ:St) (H:Hp) (x:V) (v:Value) (Q:Bool->Hp->Prop),Inv X ZY σ H s->RelV x v->r x H Q ->
  wpAny (model X.prog X.w) X.A (truthy v) (TP X ZY σ Q) X.xe s
def iw(r:R2)(ta tb:TE):TE:=λσ H Q=>ta σ H λx H1=>tb σ H1 λy H2=>r x y H2 Q
def tUn(r:V->Hp->VK->Prop)(ta:TE):TE:=λσ H Q=>ta σ H λx H1=>r x H1 Q
def rI(C:Int->Int->Prop)(g:Int->Int->V):R2:=λx y H Q=>∃i j,x=.int i/\y=.int j/\C i j/\Q (g i j) H
def uO(g:Int->Int->V):R2:=λx y H Q=>∃i j,x=.int i/\y=.int j/\Q (g i j) H
def rU(g:Int->V):V->Hp->VK->Prop:=λx H Q=>∃i,x=.int i/\Q (g i) H
section
variable {X:Cx}{a b:Expr}{ta tb:TE}{pos:Pos}
theorem binT(ha:PE X a ta)(hb:PE X b tb){σ:St}{R:V->V->Hp->Prop}(I:Inv X ZY σ H s)(h:ta σ H λx H1=>tb σ H1 λy H2=>R x y H2){Q:ZX}{f:Value->Value->Sem Value}(hf:∀v u s2 x y H2,Inv X ZY σ H2 s2->RelV x v->RelV y u->R x y H2->wpAny (model X.prog X.w) X.A (f v u) Q X.xe s2):
  wpAny (model X.prog X.w) X.A (eval a X.env) (λv s₁=>wpAny (model X.prog X.w) X.A (eval b X.env) (λu s₂=>wpAny (model X.prog X.w) X.A (f v u) Q X.xe s₂) X.xe s₁) X.xe s:=by
 refine bu (ha ZY s σ H _ I h) λv s1 ⟨x,H1,I1,r1,q1⟩=>?_;refine bu (hb ZY s1 σ H1 _ I1 q1) λu s2 ⟨y,H2,I2,r2,q2⟩=>?_;exact hf v u s2 x y H2 I2 r1 r2 q2
theorem ax(ho:jg X (binaryOp op) r)(ha:PE X a ta)(hb:PE X b tb):PE X (.BinOp a op b pos) (iw r ta tb):=by intro ZY s σ H Q I h;exact wpAny_BinOp (binT ha hb I h λv u s2 x y H2 I2 rx ry q=>ho ZY s2 σ H2 x y v u Q I2 rx ry q)
theorem pe_un{r:V->Hp->VK->Prop}(ho:UnR X (unaryOp op) r)(ha:PE X a ta):PE X (.UnaryOp op a pos) (tUn r ta):=by intro ZY s σ H Q I h;exact UnaryOp_ (bu (ha ZY s σ H _ I h) λv s1 ⟨x,H1,I1,r1,q1⟩=>ho ZY s1 σ H1 x v Q I1 r1 q1)
theorem opI{f:Value->Value->Sem Value}{C:Int->Int->Prop}{g:Int->Int->Int}(rule:∀(i j:Int) (t u:Tok) (s:Shared) (Q:ZX) (E:ZX),C i j->Q (.int (g i j) s.toks) {s with toks:=s.toks+1}->wpAny (model X.prog X.w) X.A (f (.int i t)<|.int j u) Q E s):
  jg X f (rI C λi j=>.int<|g i j):=by
 intro ZY s σ H x y v u Q I rx ry h;obtain⟨i,j,rfl,rfl,hc,q⟩:=h;obtain⟨t,rfl⟩:=rx;obtain⟨t',rfl⟩:=ry;exact rule i j t t' s _ _ hc ⟨.int<|g i j,H,I.tok _,⟨_,rfl⟩,q⟩
theorem opI0{f:Value->Value->Sem Value}{g:Int->Int->Int}(rule:∀(i j:Int) (t u:Tok) (s:Shared) (Q:ZX) (E:ZX),Q (.int (g i j) s.toks) {s with toks:=s.toks+1}->wpAny (model X.prog X.w) X.A (f (.int i t)<|.int j u) Q E s):
  jg X f (uO λi j=>.int<|g i j):=by
 intro ZY s σ H x y v u Q I rx ry h;obtain⟨i,j,rfl,rfl,q⟩:=h;obtain⟨t,rfl⟩:=rx;obtain⟨t',rfl⟩:=ry;exact rule i j t t' s _ _ ⟨.int<|g i j,H,I.tok _,⟨_,rfl⟩,q⟩
theorem opB0{f:Value->Value->Sem Value}{g:Int->Int->Bool}(rule:∀(i j:Int) (t u:Tok) (s:Shared) (Q:ZX) (E:ZX),Q (.bool<|g i j) s->wpAny (model X.prog X.w) X.A (f (.int i t)<|.int j u) Q E s):
  jg X f (uO λi j=>.bl<|g i j):=by
 intro ZY s σ H x y v u Q I rx ry h;obtain⟨i,j,rfl,rfl,q⟩:=h;obtain⟨t,rfl⟩:=rx;obtain⟨t',rfl⟩:=ry;exact rule i j t t' s _ _ ⟨.bl<|g i j,H,I,rfl,q⟩
def CPow(i j:Int):Prop:=0<=j/\j<=1000000/\i.natAbs<2^64
def yk(i j:Int):Prop:=(-(2^64)<i/\i<2^64)\/(-(2^64)<j/\j<2^64)
theorem yk.ok(h:yk i j):IntMulOk i j:=by
 rcases h with ⟨h1,h2⟩|⟨h1,h2⟩
 ·exact .of_left<|intBits_le_64 h1 h2
 ·exact .of_right<|intBits_le_64 h1 h2
theorem aV:jg X (binaryOp .Add) (uO λi j=>.int<|i+j):=opI0 λx x x x x x x q=>add_int q
theorem kL:jg X (binaryOp .Sub) (uO λi j=>.int<|i-j):=opI0 λx x x x x x x q=>sub_int q
theorem cp:jg X (binaryOp .Mult) (rI yk λi j=>.int<|i*j):=opI λx x x x x x x hc q=>mul_int q hc.ok
theorem cr:jg X (binaryOp .Mod) (rI (λx j=>0<j) λi j=>.int<|i%j):=opI λi j x x x x x hc q=>by have h1:(0:Int)<j:=hc;exact mod_int' (by lia) (by rw[Int.fmod_eq_emod_of_nonneg i (by lia)];exact q)
theorem qG:jg X (binaryOp .Pow) (rI CPow λi j=>.int<|i^j.toNat):=opI λx x x x x x x hc q=>pow_int_small hc.1 hc.2.1 hc.2.2 q
theorem unI{f:Value->Sem Value}{g:Int->Int}(rule:∀(i:Int) (t:Tok) (s:Shared) (Q:ZX) (E:ZX),Q (.int (g i) s.toks) {s with toks:=s.toks+1}->wpAny (model X.prog X.w) X.A (f<|.int i t) Q E s):
  UnR X f (rU λi=>.int<|g i):=by
 intro ZY s σ H x v Q I rx h;obtain⟨i,rfl,q⟩:=h;obtain⟨t,rfl⟩:=rx;exact rule i t s _ _ ⟨.int<|g i,H,I.tok _,⟨_,rfl⟩,q⟩
theorem zR:UnR X (unaryOp .USub) (rU λi=>.int<|-i):=unI λx x x x x q=>neg_int q
end
def sQ:V->V->Bool
 |.non,.non=>true|.non,.int _=>true|.int _,.non=>true|.non,.bl _=>true|.bl _,.non=>true|.non,.str _=>true|.str _,.non=>true
 |.int _,.int _=>true|.bl _,.bl _=>true|.str _,.str _=>true|.byt _,.byt _=>true
 |.int _,.str _=>true|.str _,.int _=>true|.bl _,.str _=>true|.str _,.bl _=>true
 |_,_=>false
def rEq:R2:=λx y H Q=>sQ x y=true/\Q (.bl<|decide<|x=y) H
def rNe:R2:=λx y H Q=>sQ x y=true/\Q (.bl<|!decide (x=y)) H
theorem wG:decide (V.int i=V.int j)=(i==j):=by rw[V5];simp
theorem zS:decide (V.bl i=V.bl j)=(i==j):=by rw[V5];simp
theorem wH:decide (V.str i=V.str j)=(i==j):=by rw[V5];simp
theorem wI:decide (V.byt i=V.byt j)=(i.toList==j.toList):=by rw[V5];cases i;cases j;simp
section
variable {X:Cx}{a b c:Expr}{ta tb tc:TE}{pos:Pos}
theorem b7{σ:St}(I:Inv X ZY σ H s)(q:Q (.bl k) H)(e:k=k'):EP X ZY σ Q (.bool k') s:=by subst e;exact⟨.bl k,H,I,rfl,q⟩
theorem iF:jg X (O4 .Eq) rEq:=by
 intro ZY s σ H x y v u Q I rx ry h;obtain⟨hs,q⟩:=h;cases x with
 |non =>
  cases rx;cases y with
  |non=>cases ry;exact PySem.EqNone.eq_none_none<|b7 I q (by simp)
  |bl j=>cases ry;exact PySem.EqNone.eq_none_bool<|b7 I q (by simp)
  |int j=>obtain⟨t',rfl⟩:=ry;exact PySem.EqNone.eq_none_int<|b7 I q (by simp)
  |str j=>obtain⟨t',rfl⟩:=ry;exact PySem.EqNone.eq_none_str<|b7 I q (by simp)
  |_=>exact absurd (show false=true from hs) Y3
 |bl i =>
  cases rx;cases y with
  |non=>cases ry;exact PySem.EqNone.eq_bool_none<|b7 I q (by simp)
  |bl j=>cases ry;exact eq_bool<|b7 I q zS
  |str j=>obtain⟨t',rfl⟩:=ry;exact PySem.EqMixed.eq_bool_str<|b7 I q (by simp)
  |_=>exact absurd (show false=true from hs) Y3
 |int i =>
  obtain⟨t,rfl⟩:=rx;cases y with
  |non=>cases ry;exact PySem.EqNone.eq_int_none<|b7 I q (by simp)
  |int j=>obtain⟨t',rfl⟩:=ry;exact eq_int<|b7 I q wG
  |str j=>obtain⟨t',rfl⟩:=ry;exact PySem.EqMixed.eq_int_str<|b7 I q (by simp)
  |_=>exact absurd (show false=true from hs) Y3
 |str i =>
  obtain⟨t,rfl⟩:=rx;cases y with
  |non=>cases ry;exact PySem.EqNone.eq_str_none<|b7 I q (by simp)
  |bl j=>cases ry;exact PySem.EqMixed.eq_str_bool<|b7 I q (by simp)
  |int j=>obtain⟨t',rfl⟩:=ry;exact PySem.EqMixed.eq_str_int<|b7 I q (by simp)
  |str j=>obtain⟨t',rfl⟩:=ry;exact eq_str<|b7 I q wH
  |_=>exact absurd (show false=true from hs) Y3
 |byt i =>
  obtain⟨t,rfl⟩:=rx;cases y with
  |byt j=>obtain⟨t',rfl⟩:=ry;exact PySem.W.eq_bytes<|b7 I q wI
  |_=>exact absurd (show false=true from hs) Y3
 |_=>cases y<;>exact absurd (show false=true from hs) Y3
theorem lu:jg X (O4 .NotEq) rNe:=by
 intro ZY s σ H x y v u Q I rx ry h;obtain⟨hs,q⟩:=h;cases x with
 |non =>
  cases rx;cases y with
  |non=>cases ry;exact PySem.EqNone.ne_none_none<|b7 I q (by simp)
  |bl j=>cases ry;exact PySem.EqNone.ne_none_bool<|b7 I q (by simp)
  |int j=>obtain⟨t',rfl⟩:=ry;exact PySem.EqNone.ne_none_int<|b7 I q (by simp)
  |str j=>obtain⟨t',rfl⟩:=ry;exact PySem.EqNone.ne_none_str<|b7 I q (by simp)
  |_=>exact absurd (show false=true from hs) Y3
 |bl i =>
  cases rx;cases y with
  |non=>cases ry;exact PySem.EqNone.ne_bool_none<|b7 I q (by simp)
  |bl j=>cases ry;exact ne_bool<|b7 I q<|congrArg not zS
  |str j=>obtain⟨t',rfl⟩:=ry;exact PySem.EqMixed.ne_bool_str<|b7 I q (by simp)
  |_=>exact absurd (show false=true from hs) Y3
 |int i =>
  obtain⟨t,rfl⟩:=rx;cases y with
  |non=>cases ry;exact PySem.EqNone.ne_int_none<|b7 I q (by simp)
  |int j=>obtain⟨t',rfl⟩:=ry;exact ne_int<|b7 I q<|congrArg not wG
  |str j=>obtain⟨t',rfl⟩:=ry;exact PySem.EqMixed.ne_int_str<|b7 I q (by simp)
  |_=>exact absurd (show false=true from hs) Y3
 |str i =>
  obtain⟨t,rfl⟩:=rx;cases y with
  |non=>cases ry;exact PySem.EqNone.ne_str_none<|b7 I q (by simp)
  |bl j=>cases ry;exact PySem.EqMixed.ne_str_bool<|b7 I q (by simp)
  |int j=>obtain⟨t',rfl⟩:=ry;exact PySem.EqMixed.ne_str_int<|b7 I q (by simp)
  |str j=>obtain⟨t',rfl⟩:=ry;exact ne_str<|b7 I q<|congrArg not wH
  |_=>exact absurd (show false=true from hs) Y3
 |byt i =>
  obtain⟨t,rfl⟩:=rx;cases y with
  |byt j=>obtain⟨t',rfl⟩:=ry;exact PySem.W.ne_bytes<|b7 I q<|congrArg not wI
  |_=>exact absurd (show false=true from hs) Y3
 |_=>cases y<;>exact absurd (show false=true from hs) Y3
theorem wJ:jg X (O4 .Lt) (uO λi j=>.bl<|decide<|i<j):=opB0 λx x x x x x x q=>lt_int q
theorem zT:jg X (O4 .LtE) (uO λi j=>.bl<|decide<|i<=j):=opB0 λx x x x x x x q=>le_int q
theorem op_gt:jg X (O4 .Gt) (uO λi j=>.bl<|decide<|j<i):=opB0 λx x x x x x x q=>gt_int q
theorem uY:jg X (O4 .Is) (λx y H Q=>y=.non/\Q (.bl<|decide<|x=.non) H):=by
 intro ZY s σ H x y v u Q I rx ry h;obtain⟨rfl,q⟩:=h;cases ry;refine is_none_gen<|b7 I q ?_;cases x<;>first
  |(cases rx;rfl)
  |(obtain⟨t,rfl⟩:=rx;rfl)
theorem wK:jg X (O4 .IsNot) (λx y H Q=>y=.non/\Q (.bl<|!decide (x=.non)) H):=by
 intro ZY s σ H x y v u Q I rx ry h;obtain⟨rfl,q⟩:=h;cases ry;refine isnot_none_gen<|b7 I q ?_;cases x<;>first
  |(cases rx;rfl)
  |(obtain⟨t,rfl⟩:=rx;rfl)
theorem b8(b:Expr){op:CmpOp}(h:autoParam (op≠.In) L2.iu._auto_1)(h2:autoParam (op≠.NotIn) L2.iu._auto_1):behindInMarks op b=false:=by
 have e1:(op==CmpOp.In)=false:=by cases op<;>first|rfl|exact absurd rfl h
 have e2:(op==CmpOp.NotIn)=false:=by cases op<;>first|rfl|exact absurd rfl h2
 cases b<;>simp[behindInMarks,e1,e2]
theorem fY(ho:jg X (O4 op) r)(ha:PE X a ta)(hb:PE X b tb)(hm:behindInMarks op b=false):PE X (.Compare a [op] [b] pos) (iw r ta tb):=by intro ZY s σ H Q I h;exact wpAny_Compare1 (binT ha hb I h λv u s2 x y H2 I2 rx ry q=>ho ZY s2 σ H2 x y v u Q I2 rx ry q) hm
def zU(t:TE):TT:=λσ H Q=>t σ H λx H'=>∃k,x=.bl k/\Q k H'
theorem b9(ho:jg X (O4 op) r)(ha:PE X a ta)(hb:PE X b tb)(hm:behindInMarks op b=false):PT X (.Compare a [op] [b] pos) (zU<|iw r ta tb):=by
 intro ZY s σ H Q I h;refine wpAny_isTrue_Compare1 (bu (ha ZY s σ H _ I h) λv s1 ⟨x,H1,I1,r1,q1⟩=>bu (hb ZY s1 σ H1 _ I1 q1) λu s2 ⟨y,H2,I2,r2,q2⟩=>
  bu (ho ZY s2 σ H2 x y v u _ I2 r1 r2 q2) λc s3 ⟨z,H3,I3,r3,k,e,q3⟩=>?_) hm
 subst e;cases r3;exact O8 ⟨H3,I3,q3⟩
def qH(r r':R2)(ta tb tc:TE):TE:=λσ H Q=>ta σ H λx H1=>tb σ H1 λy H2=>r x y H2 λz H3=>∃k,z=.bl k /\
 (if k=true then tc σ H3 λw' H4=>r' y w' H4 Q else Q (.bl false) H3)
theorem sR{op op':CmpOp}{r r':R2}(ho:jg X (O4 op) r)(ho':jg X (O4 op') r')(ha:PE X a ta)(hb:PE X b tb)(hc:PE X c tc)(hm:autoParam (lastMarks [op,op'] [b,c]=false) L2.a3q._auto_1):PE X (.Compare a [op,op'] [b,c] pos) (qH r r' ta tb tc):=by
 intro ZY s σ H Q I h;refine Compare_chain (bu (ha ZY s σ H _ I h) λv s1 ⟨x,H1,I1,r1,q1⟩=>chain_link (bu (hb ZY s1 σ H1 _ I1 q1) λu s2 ⟨y,H2,I2,r2,q2⟩=>
  bu (ho ZY s2 σ H2 x y v u _ I2 r1 r2 q2) λd s3 ⟨z,H3,I3,r3,k,e,q3⟩=>?_)) hm
 subst e;cases r3;refine O8 ?_;cases k with
 |false=>exact ite_ff ⟨.bl false,H3,I3,rfl,q3⟩
 |true=>exact ite_tt<|chain_last (bu (hc ZY s3 σ H3 _ I3 q3) λw' s4 ⟨z',H4,I4,r4,q4⟩=>ho' ZY s4 σ H4 y z' u w' Q I4 r2 r4 q4)
theorem zV{op op':CmpOp}{r r':R2}(ho:jg X (O4 op) r)(ho':jg X (O4 op') r')(ha:PE X a ta)(hb:PE X b tb)(hc:PE X c tc)(hm:autoParam (lastMarks [op,op'] [b,c]=false) L2.a3q._auto_1):PT X (.Compare a [op,op'] [b,c] pos) (zU<|qH r r' ta tb tc):=by
 intro ZY s σ H Q I h;refine isTrue_chain (bu (ha ZY s σ H _ I h) λv s1 ⟨x,H1,I1,r1,q1⟩=>test_link (bu (hb ZY s1 σ H1 _ I1 q1) λu s2 ⟨y,H2,I2,r2,q2⟩=>
  bu (ho ZY s2 σ H2 x y v u _ I2 r1 r2 q2) λd s3 ⟨z,H3,I3,r3,k,e,q3⟩=>?_)) hm
 subst e;cases r3;refine O8 ?_;cases k with
 |false =>obtain⟨k',e',q'⟩:=q3;cases e';exact ite_ff ⟨H3,I3,q'⟩
 |true =>refine ite_tt<|test_last (bu (hc ZY s3 σ H3 _ I3 q3) λw' s4 ⟨z',H4,I4,r4,q4⟩=>bu (ho' ZY s4 σ H4 y z' u w' _ I4 r2 r4 q4) λd' s5 ⟨z2,H5,I5,r5,k2,e2,q5⟩=>?_);subst e2;cases r5;exact O8 ⟨H5,I5,q5⟩
def TruV(K:Z3)(x:V)(H:Hp)(k:Bool):Prop :=
 match x with
 |.non=>k=false
 |.bl b=>k=b
 |.int i=>k=(i != 0)
 |.str y=>y.length<=W3/\k=((y.length:Int) != 0)
 |.byt y=>y.size<=W3/\k=((y.size:Int) != 0)
 |.ref p=>(∃xs,cD K H p xs/\k=!xs.isEmpty)\/(∃xs,jp K H p xs/\k=!xs.isEmpty)\/∃kvs,H p=some (.dK kvs)/\k=!kvs.isEmpty
 |_=>False
theorem uZ{κ:Type}{kvs:List (κ×V)}{vs:List (κ×Value)}(r:KV kvs vs):(!vs.isEmpty)=!kvs.isEmpty:=by cases r<;>rfl
theorem mV(r:aM xs its):(!its.toArray.isEmpty)=!xs.isEmpty:=by cases r<;>simp
theorem mW:(W3:Nat)<2^63:=by rw[V6];decide
theorem tru_ok:TruR X (λx H Q=>∃k,TruV X.K x H k/\Q k H):=by
 intro ZY s σ H x v Q I rx h;obtain⟨k,e,q⟩:=h;have hl:=mW;have hs:W3=16777216:=V6;cases x with
 |non =>cases rx;have e':k=false:=e;subst e';exact truthy_none ⟨H,I,q⟩
 |bl b =>cases rx;have e':k=b:=e;subst e';exact O8 ⟨H,I,q⟩
 |int i =>obtain⟨t,rfl⟩:=rx;have e':k=(i != 0):=e;subst e';exact PySem.P.truthy_int ⟨H,I,q⟩
 |str y =>obtain⟨t,rfl⟩:=rx;obtain⟨hy,rfl⟩:=show y.length<=W3/\k=((y.length:Int) != 0) from e;exact PySem.P.truthy_str (by lia) ⟨H,I.tok _,q⟩
 |byt y =>obtain⟨t,rfl⟩:=rx;obtain⟨hy,rfl⟩:=show y.size<=W3/\k=((y.size:Int) != 0) from e;exact PySem.W.truthy_bytes (by lia) ⟨H,I.tok _,q⟩
 |ref p =>
  cases rx;have e':(∃xs,cD X.K H p xs/\k=!xs.isEmpty)\/(∃xs,jp X.K H p xs/\k=!xs.isEmpty)\/∃kvs,H p=some (.dK kvs)/\k=!kvs.isEmpty:=e;rcases e' with ⟨xs,hx,e'⟩|⟨xs,hx,e'⟩|⟨kvs,hx,e'⟩
  ·subst e';obtain⟨its,r,pl,hz⟩:=I.list hx;have hlen:=r.length;exact wpAny_truthy_list pl.isList (by simp only[Y6];lia) ⟨H,I.tok _,by rw[mV r];exact q⟩
  ·subst e';obtain⟨its,r,pl,hz⟩:=I.tuple hx;have hlen:=r.length;exact truthy_tuple pl (by simp only[Y6];lia) ⟨H,I.tok _,by rw[mV r];exact q⟩
  ·subst e';obtain⟨hz,hS,vs,r,m⟩:=show kvs.length<=W3/\(p==L5)=false/\∃vs,KV kvs vs/\s.heap.DictOf (bX X.prog X.w) p vs from I.hok p _ hx;have hlen:kvs.length=vs.length:=Paired.length r;exact wpAny_truthy_dict hS m (by lia) ⟨H,I.tok _,by rw[uZ r];exact q⟩
 |_=>exact(show False from e).elim
theorem zW(ha:PE X a ta)(he:∀whole,isTrue a X.env whole=(do let v <- whole;standAt a.pos;holding [v] (truthy v))):
  PT X a (λσ H Q=>ta σ H λx H'=>∃k,TruV X.K x H' k/\Q k H'):=by
 intro ZY s σ H Q I h;exact isTrue_plain (bu (ha ZY s σ H _ I h) λv s1 ⟨x,H1,I1,r1,q1⟩=>tru_ok ZY s1 σ H1 x v Q I1 r1 q1)<|he _
theorem vals1(r:aM [x] us):∃u,us=[u]/\RelV x u:=by
 cases r with
 |cons r1 r2=>cases r2;exact⟨_,rfl,r1⟩
theorem vals2(r:aM [x,y] us):∃u w',us=[u,w']/\RelV x u/\RelV y w':=by
 cases r with
 |cons r1 r2 =>
  cases r2 with
  |cons r3 r4=>cases r4;exact⟨_,_,rfl,r1,r3⟩
theorem mX:dR X (.builtin "abs") (λxs H Q=>∃i,xs=[.int i]/\Q (.int (if i<0 then -i else i)) H):=by intro ZY s σ H xs us Q I r h;obtain⟨i,rfl,q⟩:=h;obtain⟨u,rfl,t,rfl⟩:=vals1 r;exact call_abs_int λu tk=>⟨.int (if i<0 then -i else i),H,I.tok _,⟨_,rfl⟩,q⟩
theorem gK(hc:X.calm=true):dR X (.builtin "max") (λxs H Q=>∃i j,xs=[.int i,.int j]/\Q (.int (if j > i then j else i)) H):=by
 intro ZY s σ H xs us Q I r h;obtain⟨i,j,rfl,q⟩:=h;obtain⟨u,w',rfl,⟨t,rfl⟩,⟨t',rfl⟩⟩:=vals2 r;refine max_two_ints (I.ok.hd hc) λh' tk k=>⟨_,H,I.kept k,?_,q⟩;by_cases hj:j > i
 ·rw[if_pos hj,if_pos hj];exact⟨_,rfl⟩
 ·rw[if_neg hj,if_neg hj];exact⟨_,rfl⟩
theorem ft(hc:X.calm=true):dR X (.builtin "min") (λxs H Q=>∃i j,xs=[.int i,.int j]/\Q (.int (if j<i then j else i)) H):=by
 intro ZY s σ H xs us Q I r h;obtain⟨i,j,rfl,q⟩:=h;obtain⟨u,w',rfl,⟨t,rfl⟩,⟨t',rfl⟩⟩:=vals2 r;refine min_two_ints (I.ok.hd hc) λh' tk k=>⟨_,H,I.kept k,?_,q⟩;by_cases hj:j<i
 ·rw[if_pos hj,if_pos hj];exact⟨_,rfl⟩
 ·rw[if_neg hj,if_neg hj];exact⟨_,rfl⟩
theorem pU:dR X (.type "int") (λxs H Q=>(∃i,xs=[.int i]/\Q (.int i) H)\/∃k,xs=[.bl k]/\Q (.int (if k then 1 else 0)) H):=by
 intro ZY s σ H xs us Q I r h;rcases h with ⟨i,rfl,q⟩|⟨k,rfl,q⟩
 ·obtain⟨u,rfl,t,rfl⟩:=vals1 r;exact call_int_int ⟨.int i,H,I,⟨_,rfl⟩,q⟩
 ·obtain⟨u,rfl,r1⟩:=vals1 r;cases r1;exact call_int_bool ⟨.int (if k then 1 else 0),H,I.tok _,⟨_,rfl⟩,q⟩
end
end L2
namespace L2
open PySem PySem.Spec PyProof.Rows
structure ObjM(h:Heap)(x dx C:Addr)(mA:ZN):Prop where
 obj:h.get? x=some (E3 C dx)
 ns:h.Ns1 dx mA
 ne:dx≠x
set_option tactic.hygienic true in
theorem yl{h:Heap}{mA:ZN}(n:h.Ns1 dx mA):∃od,h.get? dx=some od/\∀name,PySem.W.lookIn name od=some (mA name):=by
 obtain⟨o,es,ep,ho,hd,hk,_,hm⟩:=n;refine⟨o,ho,λname=>?_⟩;have e:=hm name;unfold nsFind findBy at e;rw[<- Array.find?_toList]at e;unfold PySem.W.lookIn;rw[hd];dsimp only;split
 ·rename_i y q;rw[q]at e;exact congrArg some e
 ·rename_i q;rw[q]at e;have a:es.toList.any (·.refKey)=false:=by rw[List.any_eq_false];intro y hy;obtain⟨z,t,hkey⟩:=hk y<|Array.mem_toList_iff.mp hy;simp[G1.refKey,hkey]
  have a':¬ es.toList.any (·.refKey)=true:=by rw[a];exact Y3
  rw[if_neg a'];exact congrArg some e
theorem ObjM.look{mA:ZN}(I:ObjM h x dx C mA):∃od,PySem.W.InstAt h x (E3 C dx) C (some od)/\∀name,PySem.W.lookIn name od=some (mA name) :=
 let ⟨od,ho,hl⟩:=yl I.ns
 ⟨od,⟨I.obj,rfl,rfl,ho⟩,hl⟩
section
variable {prog:U7}{w:World}{A:Around}{E:ZX}{s:Shared}{K:Z3}{x dx C f:Addr}{mA:ZN}{name:Str}{v:Value}
theorem get_map{Q:ZX}(X:K.In s.heap)(I:ObjM s.heap x dx C mA)(hg:PySem.W.plainGet K C name=true)(hh:PySem.W.hasDictIn K C=true)(ha:M6 K (.ref C) name=some none)(hv:mA name=some v)(hv':PySem.W.handedIn v=true)(h:Q v {s with toks:=s.toks+1}):
  wpAny (model prog w) A (getAttr (.ref x) name expr) Q E s:=by
 obtain⟨od,J,hl⟩:=I.look;exact PySem.W.get_value X J (PySem.W.plainGet_of hg).1 (PySem.W.findObj_own hh ha rfl (by rw[hl,hv])) hv' h
theorem zX{Q:Value×List Value->Shared->Prop}(X:K.In s.heap)(I:ObjM s.heap x dx C mA)(hg:PySem.W.plainGet K C name=true)(hf:M6 K (.ref C) name=some (some<|.ref f))(ht:PySem.W.isFn K (.ref f)=true)(hv:mA name=none)(h:Q (.ref f,[.ref x]) s):
  wpAny (model prog w) A (getMethod (.ref x) name pl) Q E s:=by
 obtain⟨od,J,hl⟩:=I.look;exact PySem.W.method_fn X J (PySem.W.plainGet_of hg).1 (PySem.W.plainGet_of hg).2 hf (beq_iff_eq.mp ht) (by show (PySem.W.lookIn name od).map (·.isSome)=some false;rw[hl,hv];rfl) h
theorem set_map{Q:Unit->Shared->Prop}(X:K.In s.heap)(I:ObjM s.heap x dx C mA)(hs:M6 K (.ref C) "__setattr__"=some (some<|.builtin "object.__setattr__"))(hp:PySem.W.plainOver K C=true)(ht:PySem.W.takerIn K C name=some none)(hh:PySem.W.hasDictIn K C=true)(hw:PySem.Within mA ns)(hsz:ns.length<=W3)(h:∀h',ObjM h' x dx C (λy=>if y=name then some v else mA y)->T3 dx s.heap h'->Q () {s with heap:=h',toks:=s.toks+2}):
  wpAny (model prog w) A (setAttr (.ref x) name v) Q E s:=by
 obtain⟨od,J,hl⟩:=I.look;refine PySem.W.set_plain X J hs (PySem.W.osa_open (s:={s with toks:=s.toks+1}) (r:=none) X J hp ht λb=>?_);obtain⟨cd,hc,hd'⟩:=PySem.W.any_some hh;have hx:s.heap.get? x=some ⟨.ref C,some dx,.plain,#[]⟩:=I.obj;refine Z0<|Z6<|Z0<|Z0<|wpAny_loadPart hx<|Z0<|PySem.W.Looks.here (s:={s with toks:=s.toks+1}) (PySem.W.looks_clsIn X hc) ?_;rw[hd'];refine Z6 (a:=some dx)<|Z0<|Z6<|Z0 ?_;refine wpAny_nsSet1 (s:={s with toks:=s.toks+1}) I.ns λh' hn2 hs2=>?_;obtain⟨oD,esD,epD,hoD,hdD,hcD⟩:=hn2.count<|PySem.Within.cons name v hw;refine Z0<|wpAny_lookBehind hoD (by rw[hdD];exact pastItsLine_dict<|aR hcD (by rw[V9];lia)) ?_;exact Z6<|h _ ⟨(hs2.2 _<|R6 I.ne).trans I.obj,hn2,I.ne⟩ hs2
theorem zY{R:Result->Shared->Prop}(X:K.In s.heap)(hm:PySem.W.makesIn K C=true)(hi:M6 K (.ref C) "__init__"=some (some<|.ref f))(hf:PySem.W.typeIn K (.ref f)=some (.type "function"))(h:codeAny (model prog w) (A.under<|.builtin "type.__call__" ⟨.ref C ::vs,kw⟩) (.call (.ref f) ⟨.ref (s.heap.objs.size+1) ::vs,kw⟩) (PySem.W.InitBack (s.heap.objs.size+1) R)
   {s with heap:=(s.heap.push L7).push (E3 C s.heap.objs.size)}):
  codeAny (model prog w) A (.call (.ref C) ⟨vs,kw⟩) R s:=by
 obtain⟨hh,g,d,t,os⟩:=s;exact PySem.W.make_core (PySem.W.makes_of X hm) (PySem.W.looks_findIn X hi) (λself=>PySem.W.bind_fn X self hf) (.inl rfl) h
end
def eP(f:Str)(v:V):List (Str×V)->List (Str×V)
 |[]=>[(f,v)]
 |(g,x) ::r=>if g=f then (g,v) ::r else (g,x) ::eP f v r
theorem sS(f g:Str)(v:V):∀fs:List (Str×V),(eP f v fs).lookup g=if g=f then some v else fs.lookup g:=by
 intro fs;induction fs with
 |nil =>
  show J6 g [(f,v)]=_;by_cases h:g=f
  ·have hb:(g==f)=true:=beq_iff_eq.mpr h;simp only[J6,hb,if_pos h]
  ·have hb:(g==f)=false:=beq_eq_false_iff_ne.mpr h;simp only[J6,hb,if_neg h]
 |cons p r ih =>
  cases p with|mk k x=>?_;rw[show eP f v ((k,x) ::r)=(if k=f then (k,v) ::r else (k,x) ::eP f v r) from rfl];by_cases hk:k=f
  ·rw[if_pos hk];by_cases h:g=k
   ·have hb:(g==k)=true:=beq_iff_eq.mpr h;simp only[J6,hb,if_pos (h.trans hk)]
   ·have hb:(g==k)=false:=beq_eq_false_iff_ne.mpr h;simp only[J6,hb,if_neg fun e:g=f=>h<|e.trans hk.symm]
  ·rw[if_neg hk];by_cases h:g=k
   ·have hb:(g==k)=true:=beq_iff_eq.mpr h;simp only[J6,hb,if_neg fun e:g=f=>hk<|h.symm.trans e]
   ·have hb:(g==k)=false:=beq_eq_false_iff_ne.mpr h;simp only[J6,hb];exact ih
theorem pX(f:Str)(v:V):∀fs:List (Str×V),f∈(eP f v fs).map (·.1)/\∀g,g∈fs.map (·.1)->g∈(eP f v fs).map (·.1):=by
 intro fs;induction fs with
 |nil=>exact⟨U0,λg h=>nomatch h⟩
 |cons p r ih =>
  cases p with|mk k x=>?_;obtain⟨i1,i2⟩:=ih;rw[show eP f v ((k,x) ::r)=(if k=f then (k,v) ::r else (k,x) ::eP f v r) from rfl];by_cases hk:k=f
  ·rw[if_pos hk];subst hk;exact⟨by simp,λg h=>by simpa using h⟩
  ·rw[if_neg hk];refine⟨?_,λg h=>?_⟩
   ·rw[W5];exact W7 _ i1
   ·rw[W5]at h ⊢;rcases Y4.mp h with e|e
    ·exact Y4.mpr<|.inl e
    ·exact W7 _<|i2 g e
theorem sT(f:Str)(v:V):∀fs:List (Str×V),(eP f v fs).length<=fs.length+1:=by
 intro fs;induction fs with
 |nil=>exact bi _
 |cons p r ih =>
  cases p with|mk k x=>?_;rw[show eP f v ((k,x) ::r)=(if k=f then (k,v) ::r else (k,x) ::eP f v r) from rfl];by_cases hk:k=f
  ·rw[if_pos hk,V9,V9];lia
  ·rw[if_neg hk,V9,V9];lia
theorem hV.some_of(r:hV (some v) o):∃u,o=some u/\RelV v u:=by
 cases o with
 |none=>exact(show False from r).elim
 |some u=>exact⟨u,rfl,r⟩
theorem hV.none_of(r:hV none o):o=none:=by
 cases o with
 |none=>rfl
 |some u=>exact(show False from r).elim
theorem ym(r:RelV v u):PySem.W.handedIn u=true:=by
 cases v with
 |non=>cases (show u=K8 from r);rfl
 |bl b=>cases (show u=Value.bool b from r);rfl
 |int i=>obtain⟨t,e⟩:=(show ∃t,u=M4 i t from r);cases e;rfl
 |str x=>obtain⟨t,e⟩:=(show ∃t,u=Value.str x t from r);cases e;rfl
 |byt b=>obtain⟨t,e⟩:=(show ∃t,u=Value.bytes b t from r);cases e;rfl
 |flt b=>obtain⟨t,e⟩:=(show ∃t,u=Value.float b t from r);cases e;rfl
 |ref a=>cases (show u=U6 a from r);rfl
 |ty n=>cases (show u=Value.type n from r);rfl
section
variable {P:U7}{w:World}{H:Hp}{h:Heap}{a C dx:Addr}{fs:List (Str×V)}
theorem mf(hok:jE P w H h)(e:H a=some (.ins C dx fs)):∃mA,ObjM h a dx C mA/\(∀f,hV (fs.lookup f) (mA f))/\PySem.Within mA (fs.map (·.1))/\fs.length<=1000/\H dx=some (.own a):=by obtain⟨d,z,ne,ob,mA,n,r,q⟩:=(show bn P w H h a (.ins C dx fs) from hok a _ e);exact⟨mA,⟨ob,n,ne⟩,r,q,z,d⟩
end
structure Cls(K:Z3)(C:Addr):Prop where
 pg:PySem.W.plainGet K C Str.empty=true
 hd:PySem.W.hasDictIn K C=true
 po:PySem.W.plainOver K C=true
 sa:M6 K (.ref C) "__setattr__"=some (some<|.builtin "object.__setattr__")
theorem Cls.get{K:Z3}(c:Cls K C)(f:Str):PySem.W.plainGet K C f=true:=c.pg
def dr(K:Z3)(C:Addr)(f:Str):Prop:=M6 K (.ref C) f=some none
theorem dr.taker{K:Z3}(n:dr K C f):PySem.W.takerIn K C f=some none:=by unfold PySem.W.takerIn;rw[show M6 K (.ref C) f=some none from n];rfl
structure Meth(K:Z3)(C:Addr)(m:Str)(f:Addr):Prop where
 at_:M6 K (.ref C) m=some (some<|.ref f)
 fn:PySem.W.isFn K (.ref f)=true
 kp:M7 K (.ref f)=true
section
variable {X:Cx}{ZY:ZO}{σ:St}{H:Hp}{s:Shared}{a C dx:Addr}{fs:List (Str×V)}{f:Str}{v:V}{A:Around}{E:ZX}
theorem v5{Q:ZX}(I:Inv X ZY σ H s)(e:H a=some (.ins C dx fs))(c:Cls X.K C)(n:dr X.K C f)(l:fs.lookup f=some v)(h:∀u s',Inv X ZY σ H s'->RelV v u->Q u s'):wpAny (model X.prog X.w) A (getAttr (.ref a) f b) Q E s:=by obtain⟨mA,O,r,_,_,_⟩:=mf I.hok e;obtain⟨u,hu,ru⟩:=hV.some_of (v:=v) (o:=mA f) (by rw[<- l];exact r f);exact get_map I.kIn O (c.get f) c.hd n hu (ym ru)<|h u _ (I.tok _) ru
theorem v6{Q:Value×List Value->Shared->Prop}(I:Inv X ZY σ H s)(e:H a=some (.ins C dx fs))(c:Cls X.K C)(k:Meth X.K C m g)(l:fs.lookup m=none)(h:Q (.ref g,[.ref a]) s):wpAny (model X.prog X.w) A (getMethod (.ref a) m pl) Q E s:=by obtain⟨mA,O,r,_,_,_⟩:=mf I.hok e;have hn:mA m=none:=hV.none_of (by rw[<- l];exact r m);exact zX I.kIn O (c.get m) k.at_ k.fn hn h
theorem v7{Q:Unit->Shared->Prop}(I:Inv X ZY σ H s)(e:H a=some (.ins C dx fs))(c:Cls X.K C)(n:dr X.K C f)(hl:fs.length<1000)(ry:RelV y u)(h:∀s',Inv X ZY σ (aD H a<|.ins C dx<|eP f y fs) s'->Q () s'):wpAny (model X.prog X.w) A (setAttr (.ref a) f u) Q E s:=by
 obtain⟨mA,O,r,wi,_,ho⟩:=mf I.hok e;have hz:(fs.map (·.1)).length<=W3:=by rw[Z8,V6];lia
 refine set_map I.kIn O c.sa c.po n.taker c.hd wi hz λh' O' sb=>h _ ?_;have hd:∃o,h'.get? dx=some o:=oq32 O'.ns λo i i e' i=>⟨o,e'⟩;refine I.write (x:=a) (e:=dx) (by rw[e];exact E5) (.inr ho) (λb q hb z=>(sb.2 b hb).trans z) hd ?_;refine⟨by rw[ak O.ne];exact ho,?_,O.ne,O'.obj,_,O'.ns,λg=>?_,λg hg=>?_⟩
 ·have:=sT f y fs;lia
 ·show hV ((eP f y fs).lookup g) (if g=f then some u else mA g);rw[sS];by_cases q:g=f
  ·rw[if_pos q,if_pos q];exact ry
  ·rw[if_neg q,if_neg q];exact r g
 ·by_cases q:g=f
  ·rw[q];exact(pX f y fs).1
  ·refine(pX f y fs).2 g (wi g λz=>hg ?_);show (if g=f then some u else mA g)=none;rw[if_neg q];exact z
theorem Inv.made(I:Inv X ZY σ H s):Inv X ZY σ (aD (aD H s.heap.objs.size<|.own<|s.heap.objs.size+1) (s.heap.objs.size+1)<|.ins C s.heap.objs.size [])
  {s with heap:=(s.heap.push L7).push (E3 C s.heap.objs.size)}:=by
 have e1:(s.heap.push L7).get? s.heap.objs.size=some L7:=X0 s.heap rfl;have e2:((s.heap.push L7).push (E3 C s.heap.objs.size)).get? (s.heap.objs.size+1)=some (E3 C s.heap.objs.size):=by
  have:=X0 (s.heap.push L7) (o:=E3 C s.heap.objs.size) rfl
  rwa [K9]at this
 have e3:(s.heap.push L7).Ns s.heap.objs.size (λx=>none):=⟨L7,#[],_,e1,rfl,(λe he=>absurd he (by simp)),λx=>rfl⟩;have I1:=I.laid (a:=s.heap.objs.size) (o:=.own<|s.heap.objs.size+1) (h':=s.heap.push L7) (t':=s.toks) (λb u q=>Z4 _ q) (bi _) ⟨_,e1⟩;refine I1.laid (a:=s.heap.objs.size+1) (o:=.ins C s.heap.objs.size []) (t':=s.toks) (λb u q=>Z4 _ q) (bM<|K9 _ _) ?_;have ne:s.heap.objs.size≠s.heap.objs.size+1:=dB<|U2 _;refine⟨by rw[ak ne,af],U5 _,ne,e2,λx=>none,(Heap.Ns1.of_empty e3).at λo q=>Z4 _ q,λx=>E5,λy hy=>absurd rfl hy⟩
theorem attr_of{Q:ZX}(hb:attributeBase e f env (eval e env)=eval e env)(h:wpAny (model prog w) A (eval e env) (λo s₁=>wpAny (model prog w) A (getAttr o f true) Q E s₁) E s):wpAny (model prog w) A (eval (.Attribute e f pos) env) Q E s :=
 Attribute_any_ h (by rw[arm_eval_Attribute,hb])
end
def lT(K:Z3)(ta:TE)(f:Str):TE:=λσ H Q=>ta σ H λx H1=>∃a C dx fs v,x=.ref a/\H1 a=some (.ins C dx fs)/\Cls K C/\dr K C f/\fs.lookup f=some v/\Q v H1
def sU(K:Z3)(ta tv:TE)(f:Str):TS:=λD σ H=>tv σ H λy H1=>ta σ H1 λx H2=>∃a C dx fs,x=.ref a/\H2 a=some (.ins C dx fs)/\Cls K C/\dr K C f/\fs.length<1000 /\
 D.nx σ (aD H2 a<|.ins C dx<|eP f y fs)
section
variable {X:Cx}{o e value:Expr}{f:Str}{pos pos':Pos}{ta tv:TE}
theorem pe_fld(he:PE X e ta)(hb:attributeBase e f X.env (eval e X.env)=eval e X.env):PE X (.Attribute e f pos) (lT X.K ta f):=by intro ZY s σ H Q I h;refine attr_of hb (bu (he ZY s σ H _ I h) λu s1 ⟨x,H1,I1,rx,a,C,dx,fs,v,ex,ea,c,n,l,q⟩=>?_);subst ex;obtain rfl:u=U6 a:=rx;exact v5 I1 ea c n l λu' s2 I2 ru=>⟨v,H1,I2,ru,q⟩
theorem kN(ha:PE X o ta)(hv:PE X value tv)(hs:swapsWith value (some<|.Attribute o f pos') pos.line X.env=pure false):PS X (.Assign [.Attribute o f pos'] value pos) (sU X.K ta tv f):=by intro ZY s σ H D I h;refine plainObj_wpAny_Assign_Attribute (bu (hv ZY s σ H _ I h) λu s1 ⟨y,H1,I1,ry,q⟩=>bu (ha ZY s1 σ H1 _ I1 q) λov s2 ⟨x,H2,I2,rx,a,C,dx,fs,ex,ea,c,n,l,q2⟩=>?_) hs;subst ex;obtain rfl:ov=U6 a:=rx;exact v7 I2 ea c n l ry λs3 I3=>⟨σ,_,I3,q2⟩
end
section
variable {X:Cx}{ZY:ZO}{σ:St}{H:Hp}{s:Shared}{A:Around}{E:ZX}{Q:ZX}{c:Value}{b:Bool}
inductive TyOf(K:Z3)(H:Hp):V->Value->Prop where
 |non:TyOf K H .non (.type "NoneType")
 |bl (x:Bool):TyOf K H (.bl x) (.type "bool")
 |int (i:Int):TyOf K H (.int i) (.type "int")
 |str (x:Str):TyOf K H (.str x) (.type "str")
 |flt (x:UInt64):TyOf K H (.flt x) (.type "float")
 |lst {a:Addr} {xs:List V} (e:H a=some (.lst xs)):TyOf K H (.ref a) (.type "list")
 |frz {a:Addr} {o:Obj} {xs:List V} (e:H a=some (.frz o<|.lst xs)):TyOf K H (.ref a) (.type "list")
 |tup {a:Addr} {xs:List V} (e:H a=some (.tup xs)):TyOf K H (.ref a) (.type "tuple")
 |dK {a:Addr} {kvs:List (Key×V)} (e:H a=some (.dK kvs)):TyOf K H (.ref a) (.type "dict")
 |dT {a:Addr} {kvs:List (List Key×V)} (e:H a=some (.dT kvs)):TyOf K H (.ref a) (.type "dict")
 |ins {a C dx:Addr} {fs:List (Str×V)} (e:H a=some (.ins C dx fs)) (cl:Cls K C) (ha:M6 K (.ref C) "__class__"=some (some<|.builtin "object.__class__"))
   (hn:PySem.W.specialIn K (.builtin "object.__class__") "__get__"=some (some<|.builtin "getset_descriptor.__get__")) (htk:PySem.W.takesIn K (.builtin "object.__class__")=some true)
   (hm:PySem.W.mroIn K C (.type "object")=some true):TyOf K H (.ref a) (.ref C)
theorem yn(I:Inv X ZY σ H s)(rx:RelV x u)(ty:TyOf X.K H x t)(e:O5 X.K t c=some b)(h:∀tk,Q (.bool b) {s with toks:=tk}):
  wpAny (model X.prog X.w) A (call (.builtin "isinstance") [u,c]) Q E s:=by
 cases ty with
 |non=>cases (show u=K8 from rx);exact M8 PySem.W.kitx_none I.kIn E5 e (λz=>nomatch z) h
 |bl y=>cases (show u=Value.bool y from rx);exact M8 PySem.W.kitx_bool I.kIn E5 e (λz=>nomatch z) h
 |int i=>obtain⟨t,q⟩:=(show ∃t,u=M4 i t from rx);cases q;exact M8 PySem.W.kitx_int I.kIn E5 e (λz=>nomatch z) h
 |str y=>obtain⟨t,q⟩:=(show ∃t,u=Value.str y t from rx);cases q;exact M8 PySem.W.kitx_str I.kIn E5 e (λz=>nomatch z) h
 |flt y=>obtain⟨t,q⟩:=(show ∃t,u=Value.float y t from rx);cases q;exact M8 PySem.W.kitx_float I.kIn E5 e (λz=>nomatch z) h
 |@lst a xs ea =>cases (show u=U6 a from rx);obtain⟨_,_,n,_,h1⟩:=(show bn X.prog X.w H s.heap a (.lst xs) from I.hok a _ ea);exact M8 PySem.W.kitx_list I.kIn ⟨_,h1,rfl⟩ e (λz=>nomatch z) h
 |@frz a ob xs ea =>cases (show u=U6 a from rx);obtain⟨_,_,_,n,_,h1⟩:=(show bn X.prog X.w H s.heap a (.frz ob<|.lst xs) from I.hok a _ ea);exact M8 PySem.W.kitx_list I.kIn ⟨_,h1,rfl⟩ e (λz=>nomatch z) h
 |@tup a xs ea =>cases (show u=U6 a from rx);obtain⟨_,_,_,p⟩:=(show bn X.prog X.w H s.heap a (.tup xs) from I.hok a _ ea);obtain⟨o,h1,h2,_⟩:=p;exact M8 PySem.W.kitx_tuple I.kIn ⟨o,h1,h2⟩ e (λz=>nomatch z) h
 |@dK a kvs ea =>cases (show u=U6 a from rx);obtain⟨_,_,vs,_,p⟩:=(show bn X.prog X.w H s.heap a (.dK kvs) from I.hok a _ ea);obtain⟨o,es,ep,h1,h2,_⟩:=p;exact M8 PySem.W.kitx_dict I.kIn ⟨o,h1,h2.1⟩ e (λz=>nomatch z) h
 |@dT a kvs ea =>cases (show u=U6 a from rx);obtain⟨_,_,xs,_,o,es,ep,h1,h2,_⟩:=(show bn X.prog X.w H s.heap a (.dT kvs) from I.hok a _ ea);exact M8 PySem.W.kitx_dict I.kIn ⟨o,h1,h2.1⟩ e (λz=>nomatch z) h
 |@ins a C dx fs ea cl ha hn htk hm =>cases (show u=U6 a from rx);obtain⟨mA,O,_⟩:=mf I.hok ea;obtain⟨od,J,_⟩:=O.look;exact M8 (PySem.W.kitx_own (cl.get _) cl.hd ha hn htk hm) I.kIn J e (λz=>nomatch z) h
end
end L2
namespace L2
open PySem PySem.Spec PyProof.Rows
structure Room(k:Nat)(A:Around):Prop where
 hd:A.handled=none
 dp:A.depth+3*k+5<recursionLimit
 un:A.units+16*k+200<cLine
theorem Room.mono(r:Room k A)(h:j<=k):Room j A:=⟨r.hd,by have:=r.dp;lia,by have:=r.un;lia⟩
theorem Room.deeper(r:Room (k+1) A)(env:Env):Room k (A.deeper env) :=
 ⟨r.hd,by have:=r.dp;show A.depth+1+3*k+5<_;lia,by have:=r.un;show A.units+3+16*k+200<_;lia⟩
theorem Room.in1(r:Room (k+1) A):Room k A.in1 :=
 ⟨r.hd,by have:=r.dp;show A.depth+3*k+5<_;lia,by have:=r.un;show A.units+1+16*k+200<_;lia⟩
theorem v8{A:Around}:(A.under<|.builtin "type.__call__" ⟨.ref C ::us,kw⟩).depth=A.depth+1:=by
 first|rfl|simp[Around.under,Code.weight,Code.isCreation,Code.isGuard,Code.isCaller,Code.frames,Code.isFrame,guardIds]
theorem va{A:Around}:(A.under<|.builtin "type.__call__" ⟨.ref C ::us,kw⟩).units=A.units+1:=by
 first|rfl|simp[Around.under,Code.cUnits,Code.frames,Code.isFrame]
theorem Room.make(r:Room (k+1) A)(C:Addr)(us:ZT)(kw:Zj):Room k (A.under<|.builtin "type.__call__" ⟨.ref C ::us,kw⟩) :=
 ⟨r.hd,by have:=r.dp;rw[v8];omega,by have:=r.un;rw[va];omega⟩
theorem Room.depth(r:Room k A):A.depth<recursionLimit:=by have:=r.dp;omega
theorem Room.units(r:Room k A):A.units+64<cLine:=by have:=r.un;lia
def cH:TA:=λx H Q=>Q [] H
def aY(ta:TE)(tr:TA):TA:=λσ H Q=>ta σ H λx H1=>tr σ H1 λxs H2=>Q (x ::xs) H2
section
variable {X:Cx}{e:Expr}{es:List Expr}{te:TE}{t:TA}{pos:Pos}
theorem aa:PA X [] cH:=λx x x x H Q I h=>Calls.spliced_nil ⟨[],H,I,.nil,h⟩
theorem a7(ha:PE X e te)(hr:PA X es t)(hs:autoParam (V1 (e ::es) X.env=(false,eval e X.env) ::V1 es X.env) L2.cY._auto_1):PA X (e ::es) (aY te t):=by intro pos ZY s σ H Q I h;rw[hs];show wpAny _ _ (spliced ((false,eval e X.env) ::backTo pos (V1 es X.env))) _ _ s;refine G2 (bu (ha ZY s σ H _ I h) λu s1 ⟨x,H1,I1,r1,q1⟩=>?_);exact bu (hr pos ZY s1 σ H1 _ I1 q1) λus s2 ⟨xs,H2,I2,r2,q2⟩=>⟨x ::xs,H2,I2,.cons r1 r2,q2⟩
def tTup(t:TA):TE:=λσ H Q=>t σ H λxs H1=>xs.length<=W3/\∀p,H1 p=none->Q (.ref p) (aD H1 p<|.tup xs)
def yo(t:TA):TE:=λσ H Q=>t σ H λxs H1=>xs.length<=W3/\∀p,H1 p=none->Q (.ref p) (aD H1 p<|.lst xs)
theorem fE{x1}(h:PA X es t):PE X (.Tuple es x1 pos) (tTup t):=by intro ZY s σ H Q I hq;refine wpAny_Tuple_spliced (bu (h pos ZY s σ H _ I hq) λus s1 ⟨xs,H1,I1,r,z,q⟩=>⟨by rw[<- r.length];exact z,?_⟩);have hf:H1 s1.heap.objs.size=none:=I1.hok.fresh<|bi _;refine⟨.ref s1.heap.objs.size,aD H1 s1.heap.objs.size<|.tup xs,I1.laid (t':=s1.toks) (λb u e=>Z4 _ e) (bi _) ?_,rfl,q _ hf⟩;exact⟨z,us,r,⟨_,X0 _ rfl,rfl,_,rfl⟩⟩
theorem bG(h:PA X es t):PE X (.List es pos) (yo t):=by intro ZY s σ H Q I hq;refine wpAny_List_spliced (bu (h pos ZY s σ H _ I hq) λus s1 ⟨xs,H1,I1,r,z,q⟩=>⟨by rw[<- r.length];exact z,?_⟩);have hf:H1 s1.heap.objs.size=none:=I1.hok.fresh<|bi _;refine⟨.ref s1.heap.objs.size,aD H1 s1.heap.objs.size<|.lst xs,I1.laid (t':=s1.toks) (λb u e=>Z4 _ e) (bi _) ?_,rfl,q _ hf⟩;exact⟨z,us,0,r,X0 _ rfl⟩
end
abbrev Sp:=List V->Hp->VK->XK->Prop
abbrev CXT:=List Env->Hp->Shared->XK->Value->Shared->Prop
structure Env0(P:U7)(w:World)(K:Z3)(mg:ZN)(base:Heap)(A:Around)(outer:List Env)(s:Shared)(H:Hp):Prop where
 frames:A.frames=some outer
 mod:Mod K mg base
 bs:∀b o,base.get? b=some o->s.heap.get? b=some o/\H b=none
 bsz:base.objs.size<=s.heap.objs.size
 funs:s.heap.FunFrames base outer
 frf:∀b∈zG outer,H b=none
 hok:jE P w H s.heap
 bare:AllBare s.gens
def CE(outer:List Env)(P:U7)(w:World)(H:Hp)(s:Shared)(Q:VK)(u:Value)(s':Shared):Prop :=
 ∃v H',s'.os=s.os/\AllBare s'.gens/\Un (zG outer) [] H H' s.heap s'.heap/\jE P w H' s'.heap/\RelV v u/\Q v H'
def CR(CX:CXT)(outer:List Env)(P:U7)(w:World)(H:Hp)(s:Shared)(Q:VK)(E:XK)(r:Result)(s':Shared):Prop :=
 match r with
 |.ok (.ret u)=>CE outer P w H s Q u s'
 |.ok _=>False
 |.error e=>CX outer H s E e s'
structure FnOk(P:U7)(w:World)(K:Z3)(mg:ZN)(base:Heap)(CX:CXT)(k:Nat)(f:Addr)(fd:FuncData)(ps:ZJ)(sp:Sp):Prop where
 len:∀vs H Q E,sp vs H Q E->vs.length=ps.length
 run:∀(A:Around) (outer:List Env) (s:Shared) (H:Hp) (args:Args) (us:ZT) (vs:List V) (Q:VK) (E:XK),Room k A->Env0 P w K mg base A outer s H->BindsTo s fd args (ps.zip us)->aM vs us->sp vs H Q E ->
  codeAny (model P w) A (.call (.ref f) args) (CR CX outer P w H s Q E) s
theorem Env0.make{K:Z3}{mg:ZN}(e:Env0 P w K mg base A outer s H)(C:Addr)(us:ZT)(kw:Zj):
  Env0 P w K mg base (A.under<|.builtin "type.__call__" ⟨.ref C ::us,kw⟩) outer s H:=⟨by first|exact e.frames|(simpa [Around.under,Code.envs,Code.isFrame,pushEnvs] using e.frames),e.mod,e.bs,e.bsz,e.funs,e.frf,e.hok,e.bare⟩
section
variable {X:Cx}{ZY:ZO}{σ:St}{H:Hp}{s s':Shared}
theorem Inv.env0(I:Inv X ZY σ H s):Env0 X.prog X.w X.K X.mg X.base X.A X.stack s H :=
 ⟨I.ok.frames,I.ok.mod,I.bs,aR I.ok.bsz I.sz,I.stack,I.stkFree,I.hok,I.bare⟩
theorem Inv.after(I:Inv X ZY σ H s)(h:CE X.stack X.prog X.w H s Q u s'):EP X ZY σ Q u s':=by obtain⟨v,H',os,bare,un,hok,r,q⟩:=h;obtain⟨hh,g,d,t,os'⟩:=s';obtain rfl:os'=s.os:=os;exact⟨v,H',I.call (h':=hh) (g':=g) (d':=d) (t':=t) (ch:=[]) un hok bare λb z=>absurd z (by simp),r,q⟩
end
def pY(sp:Sp)(dvs:List V)(E:XK)(t:TA):TE:=λσ H Q=>t σ H λvs H1=>sp (vs++dvs) H1 Q E
def mY(C:Addr)(m:Str)(sp:Sp)(dvs:List V)(E:XK)(ta:TE)(t:TA):TE:=λσ H Q=>ta σ H λx H1=>∃a dx fs,x=.ref a/\H1 a=some (.ins C dx fs)/\fs.lookup m=none /\
 t σ H1 λvs H2=>sp (x ::(vs++dvs)) H2 Q E
def sV(C:Addr)(sp:Sp)(dvs:List V)(E:XK)(t:TA):TE:=λσ H Q=>t σ H λvs H1=>∀x dx,H1 x=none->H1 dx=none->dx≠x ->
 sp (.ref x ::(vs++dvs)) (aD (aD H1 dx<|.own x) x<|.ins C dx []) (λv H2=>v=.non/\Q (.ref x) H2) E
def Binds(K:Z3)(fd:FuncData)(ps:ZJ)(ds:ZT):Prop :=
 ∀(s:Shared) (us:ZT),K.In s.heap->(us++ds).length=ps.length->BindsTo s fd ⟨us,[]⟩ (ps.zip<|us++ds)
theorem Binds.all{K:Z3}(h:∀us:List Value,us.length=ps.length->bindArgs fd ⟨us,[]⟩=pure (ps.zip us)):Binds K fd ps []:=λs us x hl=>by rw[W9]at hl ⊢;exact .of_eq<|h us hl
def kO(CX:CXT)(X:Cx)(E:XK):Prop:=∀(ZY:ZO) (σ:St) (H:Hp) (s:Shared) (e:Value) (s':Shared),Inv X ZY σ H s->CX X.stack H s E e s'->X.xe e s'
section
variable {X:Cx}{CX:CXT}{k:Nat}{f C:Addr}{fd:FuncData}{ps:ZJ}{sp:Sp}{dvs:List V}{ds:ZT}{E:XK}{x m:Str}{p pos apos:Pos}{e o:Expr}{es:List Expr}{ta:TE}{t:TA}
theorem zZ{σ:St}(F:FnOk X.prog X.w X.K X.mg X.base CX k f fd ps sp)(hr:Room k X.A)(hb:Binds X.K fd ps ds)(hd:aM dvs ds)(hx:kO CX X E)(I:Inv X ZY σ H s)(r:aM vs us)(h:sp (vs++dvs) H Q E):wpAny (model X.prog X.w) X.A (call (.ref f) us) (EP X ZY σ Q) X.xe s:=by
 have r2:aM (vs++dvs) (us++ds):=r.append hd;have hl:(us++ds).length=ps.length:=by rw[<- r2.length];exact F.len _ _ _ _ h
 refine wpAny_call (codeAny_mono (F.run X.A X.stack s H ⟨us,[]⟩ (us++ds) (vs++dvs) Q E hr I.env0 (hb s us I.kIn hl) r2 h) λr s' hq=>?_);cases r with
 |error e=>exact hx ZY σ H s e s' I hq
 |ok fl =>
  cases fl with
  |ret u=>exact I.after hq
  |next=>exact L6 hq
  |brk=>exact L6 hq
  |cont=>exact L6 hq
theorem pe_call(F:FnOk X.prog X.w X.K X.mg X.base CX k f fd ps sp)(hr:Room k X.A)(hg:Gl X x)(hm:X.mg x=some (.ref f))(hk:M7 X.K (.ref f)=true)(hb:Binds X.K fd ps ds)(hd:aM dvs ds)(hx:kO CX X E)(ha:PA X (e ::es) t)(hdb:autoParam ((x==("__debug__":Str))=false) L2.iu._auto_1)(he:autoParam (V1 (e ::es) X.env=(false,eval e X.env) ::V1 es X.env) L2.cY._auto_1)(hpl:autoParam ((backTo pos<|V1 es X.env).any (·.1)=false) L2.cY._auto_1):
  PE X (.Call (.Name x p) (e ::es) [] pos) (pY sp dvs E t):=by
 intro ZY s σ H Q I h;refine G3<|wC I hg hm ?_ hdb;refine PySem.W.callWith_K (h₀:=X.base) I.ok.mod.kin hk (bu (ha pos ZY s σ H _ I h) λus s1 ⟨vs,H1,I1,r,q⟩=>⟨I1.kIn,?_⟩) he hpl;exact zZ F hr hb hd hx I1 r q
theorem pe_meth{pl:Sem Bool}(he:PE X o ta)(c:Cls X.K C)(hm:Meth X.K C m f)(F:FnOk X.prog X.w X.K X.mg X.base CX k f fd ps sp)(hr:Room k X.A)(hb:Binds X.K fd ps ds)(hd:aM dvs ds)(hx:kO CX X E)(ha:PA X (e ::es) t)(hst:autoParam (V1 (e ::es) X.env=(false,eval e X.env) ::V1 es X.env) L2.cY._auto_1)(hpl:autoParam ((backTo pos<|V1 es X.env).any (·.1)=false) L2.cY._auto_1)(ht:eval (.Call (.Attribute o m apos) (e ::es) [] pos) X.env=(do
   let ov <- eval o X.env
   standAt apos.atName
   let (f,first) <- holding [ov] (getMethod ov m pl)
   callWith pos f first (backTo pos<|V1 (e ::es) X.env) (backToKw pos<|keywordEach [] X.env)):=by rfl):
  PE X (.Call (.Attribute o m apos) (e ::es) [] pos) (mY C m sp dvs E ta t):=by
 intro ZY s σ H Q I h;refine PySem.W.methodCall_KW (pl:=pl) (bu (he ZY s σ H _ I h) λu s1 ⟨x,H1,I1,rx,a,dx,fs,ex,ea,l,q⟩=>?_) ht;subst ex;obtain rfl:u=U6 a:=rx;refine v6 I1 ea c hm l ?_;refine PySem.W.callWith_K (first:=[.ref a]) (h₀:=X.base) I.ok.mod.kin hm.kp (bu (ha pos ZY s1 σ H1 _ I1 q) λus s2 ⟨vs,H2,I2,r,q2⟩=>⟨I2.kIn,?_⟩) hst hpl;exact zZ (us:=.ref a ::us) (vs:=.ref a ::vs) F hr hb hd hx I2 (.cons rfl r) q2
structure Mk(K:Z3)(C f:Addr):Prop where
 makes:PySem.W.makesIn K C=true
 init:M6 K (.ref C) "__init__"=some (some<|.ref f)
 fn:PySem.W.isFn K (.ref f)=true
 kp:M7 K (.ref C)=true
theorem A0{σ:St}(M:Mk X.K C f)(F:FnOk X.prog X.w X.K X.mg X.base CX k f fd ps sp)(hr:Room (k+1) X.A)(hb:Binds X.K fd ps ds)(hd:aM dvs ds)(hx:kO CX X E)(I:Inv X ZY σ H s)(r:aM vs us)(h:∀x dx,H x=none->H dx=none->dx≠x->sp (.ref x ::(vs++dvs)) (aD (aD H dx<|.own x) x<|.ins C dx []) (λv H2=>v=.non/\Q (.ref x) H2) E):
  wpAny (model X.prog X.w) X.A (call (.ref C) us) (EP X ZY σ Q) X.xe s:=by
 have hq:=h (s.heap.objs.size+1) s.heap.objs.size (I.hok.fresh<|Q2 _) (I.hok.fresh<|bi _)<|dB<|U2 _;have I2:=Inv.made (C:=C) I;have r2:aM (V.ref (s.heap.objs.size+1) ::(vs++dvs)) (U6 (s.heap.objs.size+1) ::(us++ds)):=.cons rfl<|r.append hd;have hl:(U6 (s.heap.objs.size+1) ::us++ds).length=ps.length:=by have e:=r2.length;rw[F.len _ _ _ _ hq]at e;exact e.symm
 refine wpAny_call (zY (f:=f) I.kIn M.makes M.init (beq_iff_eq.mp M.fn) (codeAny_mono (F.run _ X.stack _ _ ⟨U6 (s.heap.objs.size+1) ::us,[]⟩ (U6 (s.heap.objs.size+1) ::(us++ds)) _ _ E (hr.make C us [])
  (I2.env0.make C us []) (hb _ (U6 (s.heap.objs.size+1) ::us) I2.kIn hl) r2 hq) λr s' hq'=>?_))
 cases r with
 |error e=>exact hx ZY σ _ _ e s' I2 hq'
 |ok fl =>
  cases fl with
  |ret u =>obtain⟨v,H',I3,rv,rfl,q3⟩:=I2.after hq';exact⟨rv,⟨V.ref<|s.heap.objs.size+1,H',I3,rfl,q3⟩⟩
  |next=>exact L6 hq'
  |brk=>exact L6 hq'
  |cont=>exact L6 hq'
theorem pe_make(M:Mk X.K C f)(F:FnOk X.prog X.w X.K X.mg X.base CX k f fd ps sp)(hr:Room (k+1) X.A)(hg:Gl X x)(hm:X.mg x=some (.ref C))(hb:Binds X.K fd ps ds)(hd:aM dvs ds)(hx:kO CX X E)(ha:PA X (e ::es) t)(hdb:autoParam ((x==("__debug__":Str))=false) L2.iu._auto_1)(he:autoParam (V1 (e ::es) X.env=(false,eval e X.env) ::V1 es X.env) L2.cY._auto_1)(hpl:autoParam ((backTo pos<|V1 es X.env).any (·.1)=false) L2.cY._auto_1):
  PE X (.Call (.Name x p) (e ::es) [] pos) (sV C sp dvs E t):=by
 intro ZY s σ H Q I h;refine G3<|wC I hg hm ?_ hdb;refine PySem.W.callWith_K (h₀:=X.base) I.ok.mod.kin M.kp (bu (ha pos ZY s σ H _ I h) λus s1 ⟨vs,H1,I1,r,q⟩=>⟨I1.kIn,?_⟩) he hpl;exact A0 M F hr hb hd hx I1 r q
end
structure FnScope(N P:ZJ)(sc:Scope):Prop where
 kind:sc.kind=.function
 co:sc.isCoroutine=false
 gen:sc.isGenerator=false
 nd:N.Nodup
 pre:N.take P.length=P
 par:∀x∈P,sc.names.lookup x=some .local\/sc.names.lookup x=some .cell
 nofree:∀y∈sc.names,y.2≠.free
theorem yp{kindOf:Str->Option J0}:∀{binds:Zj} {m:ZN},(∀v,(x,v)∉binds)->bindL kindOf binds m x=m x:=by
 intro binds;induction binds with
 |nil=>exact λa=>rfl
 |cons y r ih =>intro m h;cases y with|mk n v=>?_;unfold bindL;rw[ih λw hw=>h w<|W7 _ hw];have e:x≠n:=λz=>h v<|z▸U0;split<;>first|rfl|exact if_neg e
theorem yq{kindOf:Str->Option J0}:∀{binds:Zj} {m:ZN},(∀v,(x,v)∉binds)->bindC kindOf binds m x=m x:=by
 intro binds;induction binds with
 |nil=>exact λa=>rfl
 |cons y r ih =>intro m h;cases y with|mk n v=>?_;unfold bindC;rw[ih λw hw=>h w<|W7 _ hw];have e:x≠n:=λz=>h v<|z▸U0;split<;>first|rfl|exact if_neg e
theorem yr{kindOf:Str->Option J0}:∀{P:ZJ} {vs:ZT} {i:Nat} {m:ZN},P.Nodup->P[i]?=some x->vs[i]?=some v->kindOf x=some .local ->
  bindL kindOf (P.zip vs) m x=some v:=by
 intro P;induction P with
 |nil=>exact λa h=>nomatch h
 |cons p P ih =>
  intro vs i m nd h1 h2 hk;cases vs with|nil=>exact nomatch h2|cons w vs=>?_;show bindL kindOf ((p,w) ::P.zip vs) m x=_;unfold bindL;cases i with
  |zero =>have e1:p=x:=Z5 h1;rw[<- e1,yp λv hv=>(List.nodup_cons.mp nd).1 (List.of_mem_zip hv).1,if_pos (e1▸hk)];exact(if_pos rfl).trans h2
  |succ i=>exact ih (i:=i) (List.nodup_cons.mp nd).2 h1 h2 hk
theorem yt{kindOf:Str->Option J0}:∀{P:ZJ} {vs:ZT} {i:Nat} {m:ZN},P.Nodup->P[i]?=some x->vs[i]?=some v->kindOf x≠some .local ->
  bindC kindOf (P.zip vs) m x=some v:=by
 intro P;induction P with
 |nil=>exact λa h=>nomatch h
 |cons p P ih =>
  intro vs i m nd h1 h2 hk;cases vs with|nil=>exact nomatch h2|cons w vs=>?_;show bindC kindOf ((p,w) ::P.zip vs) m x=_;unfold bindC;cases i with
  |zero =>have e1:p=x:=Z5 h1;rw[<- e1,yq λv hv=>(List.nodup_cons.mp nd).1 (List.of_mem_zip hv).1,if_neg (e1▸hk)];exact(if_pos rfl).trans h2
  |succ i=>exact ih (i:=i) (List.nodup_cons.mp nd).2 h1 h2 hk
def start(N:ZJ)(vs:List V):St:=vs.map some++R0 (N.length-vs.length) none
def lV(CX:CXT)(P:U7)(w:World)(K:Z3)(mg:ZN)(base:Heap)(N:ZJ)(qual:Str)(scope:Scope)(f:Addr)(cd:Value)(A:Around)(outer:List Env)(s:Shared)(H:Hp)(E:XK):Cx where
 prog:=P
 w:=w
 K:=K
 mg:=mg
 base:=base
 A:=A.deeper (envOfC qual scope s.heap.objs.size f cd)
 N:=N
 s₀:=s
 H₀:=H
 env:=envOfC qual scope s.heap.objs.size f cd
 outer:=outer
 stack:=envOfC qual scope s.heap.objs.size f cd ::outer
 ex:=[]
 calm:=true
 fn:=λx=>true
 pn:=[]
 xe:=λe s'=>wpAny (model P w) (A.deeper<|envOfC qual scope s.heap.objs.size f cd) (leaving (envOfC qual scope s.heap.objs.size f cd) e) (λx s''=>CX outer H s E e s'') (λe' s''=>CX outer H s E e' s'') s'
theorem sW{sc:Scope}(h:sc.names.lookup x=some .cell):∃c,(cellsFrom n sc.names []).lookup x=some c:=by have q:=PySem.W.cellsFrom_some sc.names n []<|.inl h;exact Option.isSome_iff_exists.mp q
theorem yu{K:Z3}{mg:ZN}(S:FnScope N ps scope)(hd:A.handled=none)(e0:Env0 P w K mg base A outer s H)(hl:vs.length=ps.length)(r:aM vs us)(x:InCallC s s.heap.objs.size (bindL (envOfC qual scope s.heap.objs.size f cd).kindOf (ps.zip us) λt=>none) (cellsFrom (s.heap.objs.size+1) scope.names []) (bindC (envOfC qual scope s.heap.objs.size f cd).kindOf (ps.zip us) λt=>none) s1):
  Inv (lV CX P w K mg base N qual scope f cd A outer s H E) [] (start N vs) H s1:=by
 have hpl:ps.length<=N.length:=by have:=congrArg List.length S.pre;rw[R5]at this;lia
 obtain⟨h1,tk,rfl,hk⟩:=x.done;have noA:∀b:Addr,b∉(lV CX P w K mg base N qual scope f cd A outer s H E).ex:=λb z=>absurd (show b∈([]:List Addr) from z) (by simp);refine⟨⟨e0.mod,S.kind,rfl,rfl,bi _,λy z c h1 h2=>?_,λy hy=>?_,λy c t h=>?_,λt=>hd,Around.frames_deeper e0.frames,.inr ⟨rfl,rfl⟩,λb z=>absurd z<|noA b,e0.bs,e0.bsz,λb t t=>noA b,λb z=>absurd z<|noA b,e0.funs,e0.frf⟩,
  rfl,e0.bare,Un.kept hk,⟨_,x.toInCall.ns,λi y v h1 h2 h3=>?_⟩,λy c h=>⟨_,x.cell y c h⟩,e0.hok.fresh<|bi _,λy c h=>?_,λp hp=>absurd (show p∈([]:List (Addr×Obj)) from hp) (by simp),e0.hok.kept hk,?_⟩
 ·exact name_of_addr x.apart (P0 h1)<|P0 h2
 ·have hy:scope.names.lookup y=some .cell\/scope.names.lookup y=some .free:=hy;rcases hy with hy|hy
  ·exact sW hy
  ·exact absurd rfl<|S.nofree _<|P0 hy
 ·exact ci<|x.above y c<|P0 h
 ·have hi:i<vs.length:=by
   unfold start at h2;by_cases hi:i<vs.length
   ·exact hi
   ·rw[Y7 (by simpa using hi)]at h2;rw[List.getElem?_replicate]at h2;split at h2<;>cases h2
  have ha:vs[i]?=some v:=by
   unfold start at h2;rw[X9 (by simpa using hi),X2]at h2;cases e:vs[i]? with
   |none=>rw[e]at h2;cases h2
   |some a=>rw[e]at h2;cases h2;rfl
  obtain⟨u,hu,rv⟩:=r.get ha;have hp:ps[i]?=some y:=by rw[<- S.pre,Q3 (by lia)];exact h1
  have ndP:ps.Nodup:=by rw[<- S.pre];exact S.nd.sublist<|List.take_sublist _ _
  refine⟨u,rv,?_⟩;rcases S.par y (V3 hp) with k|k
  ·exact .inl ⟨k,yr ndP hp hu k⟩
  ·obtain⟨c,e⟩:=sW (n:=s.heap.objs.size+1) k;refine .inr ⟨.inl k,c,e,?_⟩;have q:=x.cell y c e;rw[yt ndP hp hu (by show scope.names.lookup y≠_;rw[k];decide)]at q;exact q
 ·exact e0.hok.fresh<|ci<|x.above y c<|P0 h
 ·unfold start;show _=N.length;rw[Y9,Z8,List.length_replicate];lia
theorem fn_of{K:Z3}{mg:ZN}{dV kV doc pm ZP ct oc:Value}(lk:K.lookup f=some ⟨oc,od,.func<|N0 name qual params body scope dV kV doc pm an ZP ct,osl⟩)(hcd:D7 K ZP qual=true)(S:FnScope N ps scope)(len:∀vs H Q E,sp vs H Q E->vs.length=ps.length)(hbody:∀(A:Around) (outer:List Env) (s:Shared) (H:Hp) (vs:List V) (Q:VK) (E:XK),Room k (A.deeper<|envOfC qual scope s.heap.objs.size f ZP)->sp vs H Q E ->
   ∃t,mP (lV CX P w K mg base N qual scope f ZP A outer s H E) body t/\t {nx:=λa H'=>Q .non H',rt:=Q} (start N vs) H):
  FnOk P w K mg base CX (k+1) f (N0 name qual params body scope dV kV doc pm an ZP ct) ps sp:=by
 refine⟨len,λA outer s H args us vs Q E hr e0 hb r hsp=>?_⟩;have hl:=len _ _ _ _ hsp;have KX:K.In s.heap:=e0.mod.kin.keeps λb o e=>(e0.bs b o e).1;have lim:s.heap.NoLimit:=e0.mod.nolimit.keeps λb o e=>(e0.bs b o e).1;have hkind:∀y∈ps.zip us,scope.names.lookup y.1=some .local\/(scope.names.lookup y.1=some .cell/\((cellsFrom (s.heap.objs.size+1) scope.names []).lookup y.1).isSome=true):=λ⟨n,v⟩ hy=>by
  rcases S.par n (List.of_mem_zip hy).1 with q|q
  ·exact .inl q
  ·exact .inr ⟨q,PySem.W.cellsFrom_some _ _ _<|.inl q⟩
 refine codeAny_call_function hr.depth (KX _ _ lk) rfl S.co S.gen rfl (PySem.W.codeRec_of KX hcd)<|hb _ _ _ _ ?_;refine wpAny_newFunctionEnv_cells S.kind hkind λenv he s1 x=>?_;subst he;refine⟨lim.keeps x.toInCall.keep,codeAny_func ?_⟩;obtain⟨t,ht,hq⟩:=hbody A outer s H vs Q E (hr.deeper _) hsp;have I:Inv (lV CX P w K mg base N qual scope f ZP A outer s H E) [] (start N vs) H s1:=yu S hr.hd e0 hl r x;refine R8 (ht [] s1 (start N vs) H _ I hq) (λfl s' hs=>?_) λe s' hs=>hs;have fin:∀{σ':St} {H':Hp} {v:V} {u:Value},Inv (lV CX P w K mg base N qual scope f ZP A outer s H E) [] σ' H' s'->RelV v u->Q v H'->CE outer P w H s Q u s' :=
  λ{σ' H' v u} J rv q=>⟨v,H',J.os,J.bare,J.base,J.hok,rv,q⟩
 cases fl with
 |ret u =>obtain⟨v,σ',H',J,rv,q⟩:=hs;exact fin J rv q
 |next =>obtain⟨σ',H',J,q⟩:=hs;exact fin (v:=V.non) (u:=K8) J rfl q
 |brk =>obtain⟨_,_,_,q⟩:=hs;exact L6 q
 |cont =>obtain⟨_,_,_,q⟩:=hs;exact L6 q
end L2
namespace L2
open PySem PySem.Spec PyProof.Rows
section
variable {X:Cx}{x:Str}{p pos:Pos}{e:Expr}{es:List Expr}{t:TA}{id T:String}{r:List V->Hp->VK->Prop}
def uP(r:List V->Hp->VK->Prop)(t:TA):TE:=λσ H Q=>t σ H λvs H1=>r vs H1 Q
theorem aC(hc:dR X (.builtin id) r)(hg:Gl X x)(hm:X.mg x=none)(hv:O1 x=some (.builtin id))(ha:PA X (e ::es) t)(hn:autoParam (x≠"__name__") L2.iu._auto_1)(hdb:autoParam ((x==("__debug__":Str))=false) L2.iu._auto_1)(he:autoParam (V1 (e ::es) X.env=(false,eval e X.env) ::V1 es X.env) L2.cY._auto_1)(hpl:autoParam ((backTo pos<|V1 es X.env).any (·.1)=false) L2.cY._auto_1):PE X (.Call (.Name x p) (e ::es) [] pos) (uP r t):=by intro ZY s σ H Q I h;refine G3<|gB I hg hm hv ?_ hn hdb;exact PyProof.Rows.callWith_builtin1 (bu (ha pos ZY s σ H _ I h) λus s1 ⟨vs,H1,I1,r1,q1⟩=>hc ZY s1 σ H1 vs us Q I1 r1 q1) he hpl
theorem c5(hc:dR X (.type T) r)(hg:Gl X x)(hm:X.mg x=none)(hv:O1 x=some (.type T))(ha:PA X (e ::es) t)(hn:autoParam (x≠"__name__") L2.iu._auto_1)(hdb:autoParam ((x==("__debug__":Str))=false) L2.iu._auto_1)(he:autoParam (V1 (e ::es) X.env=(false,eval e X.env) ::V1 es X.env) L2.cY._auto_1)(hpl:autoParam ((backTo pos<|V1 es X.env).any (·.1)=false) L2.cY._auto_1):PE X (.Call (.Name x p) (e ::es) [] pos) (uP r t):=by intro ZY s σ H Q I h;refine G3<|gB I hg hm hv ?_ hn hdb;exact M0 (bu (ha pos ZY s σ H _ I h) λus s1 ⟨vs,H1,I1,r1,q1⟩=>hc ZY s1 σ H1 vs us Q I1 r1 q1) he hpl
end
end L2
namespace HT
open PySem PyProof.Rows
def lexLt:List Int->List Int->Bool
 |[],[]=>false
 |[],_ ::_=>true
 |_ ::_,[]=>false
 |x ::xs,y ::ys=>if x=y then lexLt xs ys else decide (x<y)
theorem vc(x y:Int)(xs ys:ZW):lexLt (x ::xs) (y ::ys)=if x=y then lexLt xs ys else decide (x<y):=rfl
theorem oZ:lexLt [] []=false:=rfl
theorem mZ(y:Int)(ys:ZW):lexLt [] (y ::ys)=true:=rfl
theorem n6(x:Int)(xs:ZW):lexLt (x ::xs) []=false:=rfl
theorem A1(A:Around)(s:Shared)(a:Int)(t:Tok)(c:Int)(u:Tok):∃e,P9 A s (.int a t) (.int c u) e/\(e=true↔a=c) :=
 ⟨(a==c),P9.int_int a t c u,by simp⟩
theorem A2(A:Around)(s:Shared)(a:Int)(t:Tok)(c:Int)(u:Tok)(prog:U7)(w:World)(E:ZX)(Q:ZX)(h:Q (.bool<|decide<|a<c) s):
  wpAny (model prog w) A (richCompare .Lt (.int a t)<|.int c u) Q E s :=
 (PyProof.Rows.lt_int h:wpAny (model prog w) A (O4 .Lt (.int a t)<|.int c u) Q E s)
section
open PySem.SeqAt
open PySem.AutoSeq1 (wpAny_loadPart')
open PySem.MeetsSeq PySem.MeetsSeq2 PySem.MeetsSeq3
theorem p6(l b:Addr)(items items2:Zp)(n n2:Nat)(dd dd2:Zr)(sl sl2:Array (Option Value))(ns ms:ZW)(hi:F9 items.toList ns)(hj:F9 items2.toList ms):
  Meets (R7.«tuple.__lt__» ⟨[.ref l,.ref b],[]⟩)
   (λi R s=>s.heap.get? l=some {cls:=.type "tuple",dict:=dd,data:=.seq items n,slots:=sl}/\s.heap.get? b=some {cls:=.type "tuple",dict:=dd2,data:=.seq items2 n2,slots:=sl2} /\
    R (.ok<|.ret<|.bool<|lexLt ns ms) s) :=
 .of_wp λprog w A R s h=>by
  obtain⟨hp,g,d,tk,os⟩:=s;obtain⟨hl,hb,h⟩:=h;have f2:=AutoSeq1.sub_tuple_tuple;have z1:items.size=ns.length:=by rw[<- hi.length];simp
  have z2:items2.size=ms.length:=by rw[<- hj.length];simp
  wp_walk using wpAny_loadPart' hl,wpAny_loadPart' hb,wpAny_forIn_list _ (λrest b s'=>b.1=none/\s'=⟨hp,g,d,tk,os⟩/\∃(vs ws:ZT) (ns' ms':ZW),rest=vs.zip ws /\
   F9 vs ns'/\F9 ws ms'/\ns'.length+items2.size=ms'.length+items.size/\R (.ok<|.ret<|.bool<|lexLt ns' ms') ⟨hp,g,d,tk,os⟩) _
  case turn =>
   rintro⟨y,x⟩ rest b s' ⟨hb',rfl,vs,ws,ns',ms',hz,hvi,hwi,hlen,hR⟩;cases hvi with
   |nil=>rw[List.zip_nil_left]at hz;cases hz
   |cons a t hvi' =>
    cases hwi with
    |nil=>rw[List.zip_nil_right]at hz;cases hz
    |cons c u hwi' =>
     rw[List.zip_cons_cons]at hz;injection hz with hyx hrest;injection hyx with hy hx;subst hy hx;rw[vc]at hR;simp only[V9]at hlen;obtain⟨e,he,hiff⟩:=A1 A.in1 ⟨hp,g,d,tk,os⟩ a t c u;refine Z0<|he prog w _ _ ?_;cases e with
     |true =>
      rw[if_pos (hiff.mp rfl)]at hR
      wp_walk
      exact⟨rfl,rfl,_,_,_,_,hrest,hvi',hwi',by lia,hR⟩
     |false =>
      rw[if_neg λq=>absurd (hiff.mpr q) Y3]at hR;have hri:=A2 A.in1 ⟨hp,g,d,tk,os⟩ a t c u prog w
      wp_walk using hri
      exact⟨_,rfl,by simpa using hR⟩
  case fin =>
   rintro⟨b1,b2⟩ s' ⟨hb',rfl,vs,ws,ns',ms',hz,hvi,hwi,hlen,hR⟩;simp only at hb';subst hb';have hv:lexLt ns' ms'=decide (items.size<items2.size):=by
    cases hvi with
    |nil =>
     cases hwi with
     |nil =>simp only[List.length_nil]at hlen;rw[oZ];exact(decide_eq_false (by lia)).symm
     |cons c u hw =>simp only[List.length_nil,V9]at hlen;rw[mZ];exact(decide_eq_true (by lia)).symm
    |cons a t hv =>
     cases hwi with
     |nil =>simp only[List.length_nil,V9]at hlen;rw[n6];exact(decide_eq_false (by lia)).symm
     |cons c u hw =>rw[List.zip_cons_cons]at hz;cases hz
   rw[hv]at hR
   wp_walk
   exact⟨_,rfl,by simpa [R7.Tuple.tupleCompareSizes] using hR⟩
  case h =>
   exact⟨rfl,rfl,items.toList,items2.toList,ns,ms,rfl,hi,hj,by lia,h⟩
end
section
variable {prog:U7}{w:World}{A:Around}{E:ZX}{s:Shared}
theorem jq{Q:ZX}(hl:IsTup s.heap l items)(hb:IsTup s.heap b items2)(hi:F9 items.toList ns)(hj:F9 items2.toList ms)(hu:A.units<cLine)(h:Q (.bool<|lexLt ns ms) s):wpAny (model prog w) A (O4 .Lt (.ref l)<|.ref b) Q E s:=by
 obtain⟨⟨cls,dd,data,sl⟩,ho,hc,n,hd⟩:=id hl;obtain⟨⟨cls2,dd2,data2,sl2⟩,ho2,hc2,n2,hd2⟩:=id hb;simp only at hc hd hc2 hd2;subst hc hd hc2 hd2;exact richCompare_meets_room (op:=.Lt) ⟨_,ho,rfl⟩ ⟨_,ho2,rfl⟩ PySem.F.slot_tuple_lt PySem.F.entry_tuple_lt (PySem.F.args_tuple_lt_2 _ _) (p6 l b items items2 n n2 dd dd2 sl sl2 ns ms hi hj)
  ⟨ho,ho2,show Value.bool (lexLt ns ms)≠Value.notImplemented/\Q (.bool<|lexLt ns ms) s from ⟨(λx=>nomatch x),h⟩⟩ hu
theorem cat_tup{Q:ZX}(ht:IsTup s.heap t vs.toArray)(hb:IsTup s.heap b ws.toArray)(hv:vs≠[])(h1:ws=[]->Q (.ref t) s)(h2:ws≠[]->Q (.ref s.heap.objs.size) {s with heap:=s.heap.push {cls:=.type "tuple",data:=.seq (vs++ws).toArray}})(hsz:vs.length+ws.length<=W3):wpAny (model prog w) A (binaryOp .Add (.ref t)<|.ref b) Q E s:=by
 obtain⟨⟨cls,dd,data,sl⟩,ho,hc,n,hd⟩:=id ht;obtain⟨⟨cls2,dd2,data2,sl2⟩,ho2,hc2,n2,hd2⟩:=id hb;simp only at hc hd hc2 hd2;subst hc hd hc2 hd2;have e:vs.toArray++ws.toArray=(vs++ws).toArray:=by simp
 by_cases hw:ws=[]
 ·exact concat_meets ⟨_,ho,rfl⟩ ⟨_,ho2,rfl⟩ noFill_tuple_add seq_tuple_add PySem.F.slot_tuple_add PySem.F.entry_tuple_add (PySem.F.args_tuple_add_2 _ _)
   (tuple_addW1 t b vs.toArray ws.toArray n n2 dd dd2 sl sl2 (by simpa using hv) (by simp[hw])) ⟨ho,ho2,h1 hw⟩
 ·refine concat_meets ⟨_,ho,rfl⟩ ⟨_,ho2,rfl⟩ noFill_tuple_add seq_tuple_add PySem.F.slot_tuple_add PySem.F.entry_tuple_add (PySem.F.args_tuple_add_2 _ _)
   (tuple_addW2 t b vs.toArray ws.toArray n n2 dd dd2 sl sl2 (by simpa using hv) (by simpa using hw) (by rw[Y6,Y6];exact hsz)) ⟨ho,ho2,?_⟩
  rw[e];exact h2 hw
def pZ(n d:Nat):Option Int->Nat
 |none=>d
 |some v=>if v<0 then (v+(n:Int)).toNat else min v.toNat n
theorem sX(n d:Nat):pZ n d none=d:=rfl
theorem mi(n d k:Nat):pZ n d (some (k:Int))=min k n:=by show (if (k:Int)<0 then ((k:Int)+(n:Int)).toNat else min (k:Int).toNat n)=min k n;rw[if_neg (by lia),W0]
end
end HT
namespace L2
open PySem PySem.Spec PyProof.Rows
abbrev TO:=St->Hp->(Option Int->Hp->Prop)->Prop
def PO(X:Cx)(e:Option Expr)(t:TO):Prop :=
 ∀(ZY:ZO) (s:Shared) (σ:St) (H:Hp) (Q:Option Int->Hp->Prop),Inv X ZY σ H s->t σ H Q ->
  wpAny (model X.prog X.w) X.A (evalPart e X.env) (λu s'=>∃o H',Inv X ZY σ H' s'/\IsPart u o/\Q o H') X.xe s
def wL:TO:=λx H Q=>Q none H
def tPart(t:TE):TO:=λσ H Q=>t σ H λx H1=>∃i,x=.int i/\Q (some i) H1
theorem intsAre_of:∀{us:ZT},aM (ns.map V.int) us->F9 us ns:=by
 induction ns with
 |nil=>intro us r;rw[List.map_nil]at r;cases r;exact .nil
 |cons n ns ih =>
  intro us r;rw[W5]at r;cases r with
  |cons r1 r2 =>obtain⟨t,rfl⟩:=r1;exact .cons n t<|ih r2
section
variable {X:Cx}{e:Expr}{te:TE}{lo hi:Option Expr}{tl th:TO}{pos p2:Pos}
theorem wM:PO X none wL:=by intro ZY s σ H Q I h;rw[evalPart_none];exact Z6 ⟨none,H,I,.none,h⟩
theorem j1(h:PE X e te):PO X (some e) (tPart te):=by intro ZY s σ H Q I hw;rw[evalPart_some];refine bu (h ZY s σ H _ I hw) λu s1 ⟨x,H1,I1,r1,q1⟩=>?_;obtain⟨i,rfl,q⟩:=q1;obtain⟨t,rfl⟩:=r1;exact⟨some i,H1,I1,.int i t,q⟩
def SlR(X:Cx)(r:V->Option Int->Option Int->Hp->VK->Prop):Prop :=
 ∀(ZY:ZO) (s:Shared) (σ:St) (H:Hp) (x:V) (v vl vu:Value) (lo hi:ZI) (sl:Addr) (Q:VK),Inv X ZY σ H s->RelV x v->s.heap.IsSliceOf sl vl vu .none->IsPart vl lo->IsPart vu hi->r x lo hi H Q ->
  ∃T id,typeLookup (.type T) "__getitem__"=pure (some<|.builtin id)/\s.TypeIs v T/\wpAny (model X.prog X.w) X.A (getItem v<|.ref sl) (EP X ZY σ Q) X.xe s
def tSl(r:V->Option Int->Option Int->Hp->VK->Prop)(te:TE)(tl th:TO):TE:=λσ H Q=>te σ H λx H1=>tl σ H1 λl H2=>th σ H2 λu H3=>r x l u H3 Q
theorem jL{r:V->Option Int->Option Int->Hp->VK->Prop}(hr:SlR X r)(he:PE X e te)(hl:PO X lo tl)(hu:PO X hi th):PE X (.Subscript e (.Slice lo hi none p2) pos) (tSl r te tl th):=by intro ZY s σ H Q I h;refine Subscript_ (bu (he ZY s σ H _ I h) λv s1 ⟨x,H1,I1,r1,q1⟩=>?_);refine wpAny_Slice (bu (hl ZY s1 σ H1 _ I1 q1) λvl s2 ⟨l,H2,I2,pl,q2⟩=>bu (hu ZY s2 σ H2 _ I2 q2) λvu s3 ⟨u,H3,I3,pu,q3⟩=>?_);rw[evalPart_none];refine Z6 ?_;have I4:Inv X ZY σ H3 {s3 with heap:=s3.heap.push {cls:=.type "slice",data:=.fields #[vl,vu,.none]}}:=I3.kept (t':=s3.toks) λb ob q=>Z4 _ q;obtain⟨T,id,hT,ht,hg⟩:=hr ZY {s3 with heap:=s3.heap.push {cls:=.type "slice",data:=.fields #[vl,vu,.none]}} σ H3 x v vl vu l u s3.heap.objs.size Q I4 r1 (Heap.IsSliceOf.new ..) pl pu q3;show wpAny (model X.prog X.w) X.A (subscriptTail e (.Slice lo hi none p2) v<|.ref s3.heap.objs.size) (EP X ZY σ Q) X.xe {s3 with heap:=s3.heap.push {cls:=.type "slice",data:=.fields #[vl,vu,.none]}};exact tail_any (ops:=[.ref s3.heap.objs.size,v]) ht hT hg (by with_unfolding_all rfl)
def yv(xs:List V)(lo hi:ZI):List V:=(xs.drop<|HT.pZ xs.length 0 lo).take (HT.pZ xs.length xs.length hi-HT.pZ xs.length 0 lo)
theorem sY(xs:List V)(lo hi:ZI):(yv xs lo hi).length<=xs.length:=by unfold yv;rw[R5,K4];omega
def rLtT(K:Z3):R2:=λx y H Q=>∃a b ns ms,x=.ref a/\y=.ref b/\jp K H a (ns.map V.int)/\jp K H b (ms.map V.int)/\Q (.bl<|HT.lexLt ns ms) H
theorem op_ltT(hu:X.A.units<cLine):jg X (O4 .Lt) (rLtT X.K):=by intro ZY s σ H x y v u Q I rx ry h;obtain⟨a,b,ns,ms,rfl,rfl,ha,hb,q⟩:=h;cases rx;cases ry;obtain⟨its,r1,p1,_⟩:=I.tuple ha;obtain⟨its2,r2,p2,_⟩:=I.tuple hb;have i1:F9 its.toArray.toList ns:=intsAre_of r1;have i2:F9 its2.toArray.toList ms:=intsAre_of r2;exact HT.jq p1 p2 i1 i2 hu ⟨.bl<|HT.lexLt ns ms,H,I,rfl,q⟩
def qa(K:Z3):R2:=λx y H Q=>∃a b xs ys,x=.ref a/\y=.ref b/\jp K H a xs/\jp K H b ys/\xs≠[]/\xs.length+ys.length<=W3 /\
 (ys=[]->Q (.ref a) H)/\(ys≠[]->∀p,H p=none->Q (.ref p) (aD H p<|.tup<|xs++ys))
theorem aM.nil_iff(r:aM xs us):us=[]↔xs=[]:=by
 cases r with
 |nil=>simp
 |cons _ _=>simp
theorem op_catT:jg X (binaryOp .Add) (qa X.K):=by intro ZY s σ H x y v u Q I rx ry h;obtain⟨a,b,xs,ys,rfl,rfl,ha,hb,hx,hz,q1,q2⟩:=h;cases rx;cases ry;obtain⟨its,r1,p1,_⟩:=I.tuple ha;obtain⟨its2,r2,p2,_⟩:=I.tuple hb;refine HT.cat_tup p1 p2 (λz=>hx<|r1.nil_iff.mp z) (λz=>⟨.ref a,H,I,rfl,q1<|r2.nil_iff.mp z⟩) (λz=>?_) (by rw[<- r1.length,<- r2.length];exact hz);refine⟨.ref s.heap.objs.size,_,I.laid (t':=s.toks) (o:=.tup<|xs++ys) (λb ob q=>Z4 _ q) (bi _) ?_,rfl,q2 (λw=>z<|r2.nil_iff.mpr w) _<|I.hok.fresh<|bi _⟩;exact⟨by rw[Y9];exact hz,_,r1.append r2,IsTup.new _ _⟩
end
end L2
namespace L2
open PySem PySem.Spec PyProof.Rows
def sG(n:Nat)(i:Int):Option Nat:=if 0<=i then (if i<n then some i.toNat else none) else if -(n:Int)<=i then some (i+n).toNat else none
def atI{α:Type}(xs:List α)(i:Int):Option α:=(sG xs.length i).bind λj=>xs[j]?
theorem wN(h:sG n i=some j):seqIndex? i n=some j/\j<n/\-(n:Int)<=i/\i<n:=by
 unfold sG at h;by_cases h0:0<=i
 ·rw[if_pos h0]at h;by_cases h1:i<n
  ·rw[if_pos h1]at h;have e:i.toNat=j:=Z5 h;exact⟨by rw[seqIndex_of h0 h1,e],by lia,by lia,h1⟩
  ·rw[if_neg h1]at h;cases h
 ·rw[if_neg h0]at h;by_cases h1:-(n:Int)<=i
  ·rw[if_pos h1]at h;have e:(i+n).toNat=j:=Z5 h;exact⟨by rw[seqIndex_neg (by lia) h1,e],by lia,h1,by lia⟩
  ·rw[if_neg h1]at h;cases h
theorem wO{α:Type}{xs:List α}{v:α}(h:atI xs i=some v):∃j,seqIndex? i xs.length=some j/\xs[j]?=some v/\j<xs.length/\-(xs.length:Int)<=i/\i<xs.length:=by
 unfold atI at h;cases e:sG xs.length i with
 |none=>rw[e]at h;cases h
 |some j =>rw[e]at h;obtain⟨h1,h2,h3,h4⟩:=wN e;exact⟨j,h1,h,h2,h3,h4⟩
def PlainIx(b:Expr):Prop:=∀o i,subscripted b false o i=operate [o,i] (getItem o i)
def IxR(X:Cx)(r:R2):Prop :=
 ∀(value slice:Expr) (ZY:ZO) (s:Shared) (σ:St) (H:Hp) (x y:V) (v u:Value) (Q:VK),Inv X ZY σ H s->RelV x v->RelV y u->r x y H Q ->
  subscripted slice false v u=operate [v,u] (getItem v u)->wpAny (model X.prog X.w) X.A (subscriptTail value slice v u) (EP X ZY σ Q) X.xe s
def MtR(X:Cx)(id:String)(r:V->List V->Hp->VK->Prop):Prop :=
 ∀(ZY:ZO) (s:Shared) (σ:St) (H:Hp) (x:V) (xs:List V) (v:Value) (us:ZT) (Q:VK),Inv X ZY σ H s->RelV x v->aM xs us->r x xs H Q ->
  wpAny (model X.prog X.w) X.A (call (.builtin id) (v ::us)) (EP X ZY σ Q) X.xe s
section
variable {X:Cx}{a b:Expr}{ta tb:TE}{pos:Pos}
theorem bf(hr:IxR X r)(ha:PE X a ta)(hb:PE X b tb)(hs:PlainIx b):PE X (.Subscript a b pos) (iw r ta tb):=by intro ZY s σ H Q I h;exact Subscript_ (binT ha hb I h λv u s2 x y H2 I2 rx ry q=>hr a b ZY s2 σ H2 x y v u Q I2 rx ry q<|hs _ _)
def yw(K:Z3):R2:=λx y H Q=>∃p xs i v,x=.ref p/\y=.int i/\cD K H p xs/\atI xs i=some v/\Q v H
def yx(K:Z3):R2:=λx y H Q=>∃p xs i v,x=.ref p/\y=.int i/\jp K H p xs/\atI xs i=some v/\Q v H
theorem ix_list:IxR X (yw X.K):=by
 intro value slice ZY s σ H x y v u Q I rx ry h hs;obtain⟨p,xs,i,z,rfl,rfl,hq,he,q⟩:=h;cases rx;obtain⟨t,rfl⟩:=ry;obtain⟨its,r,pl,hz⟩:=I.list hq;obtain⟨j,h1,h2,h3,h4,h5⟩:=wO he;obtain⟨w,ew,rw'⟩:=r.get h2;have hl:=r.length;have hn:=mW;have fin:EP X ZY σ Q w s:=⟨z,H,I,rw',q⟩;by_cases h0:0<=i
 ·have hj:i.toNat=j:=by rw[seqIndex_of h0 h5]at h1;exact Z5 h1
  exact item_listR pl.isList h0 (by lia) (by rw[hj];simpa using ew) fin hs
 ·have hj:(i+(its.toArray.size:Int)).toNat=j:=by rw[seqIndex_neg (by lia) h4]at h1;rw[Y6,<- hl];exact Z5 h1
  exact subscriptTail_builtinR (x:=w) pl.isList.typeIs slot_list_getitem.lookup
   (wpAny_getItem_list_neg (Q:=λr s'=>r=w/\EP X ZY σ Q r s') pl.isList (by lia) (by rw[Y6]<;>lia) (by lia) (by rw[hj];simpa using ew) ⟨rfl,fin⟩) hs
theorem ix_tup:IxR X (yx X.K):=by
 intro value slice ZY s σ H x y v u Q I rx ry h hs;obtain⟨p,xs,i,z,rfl,rfl,hq,he,q⟩:=h;cases rx;obtain⟨t,rfl⟩:=ry;obtain⟨its,r,pl,hz⟩:=I.tuple hq;obtain⟨j,h1,h2,h3,h4,h5⟩:=wO he;obtain⟨w,ew,rw'⟩:=r.get h2;have hl:=r.length;have hn:=mW;have fin:EP X ZY σ Q w s:=⟨z,H,I,rw',q⟩;exact subscriptTail_builtinR (x:=w) pl.typeIs slot_tuple_getitem.lookup
  (getItem_tuple (j:=j) (Q:=λr s'=>r=w/\EP X ZY σ Q r s') pl (by lia) (by lia) (by rw[Y6,<- hl];exact h1) (by simpa using ew) ⟨rfl,fin⟩) hs
theorem vd(its:ZT)(n j:Nat)(u:Value):X6 (·.setIfInBounds j u) {cls:=.type "list",data:=.seq its.toArray n}={cls:=.type "list",data:=.seq (its.set j u).toArray n}:=by simp[X6]
theorem Inv.lst{σ:St}(I:Inv X ZY σ H s)(h:H p=some (.lst xs)):
  ∃(its:ZT) (n:Nat),aM xs its/\s.heap.get? p=some {cls:=.type "list",data:=.seq its.toArray n}/\xs.length<=W3:=by
 obtain⟨z,its,n,r,e⟩:=I.hok p _ h;exact⟨its,n,r,e,z⟩
theorem Inv.lstUpd{σ:St}{its its':ZT}{f:Obj->Obj}(I:Inv X ZY σ H s)(h:H p=some (.lst xs))(ho:s.heap.get? p=some {cls:=.type "list",data:=.seq its.toArray n})(hf:f {cls:=.type "list",data:=.seq its.toArray n}={cls:=.type "list",data:=.seq its'.toArray n'})(r:aM ys its')(hz:ys.length<=W3)(t:Nat):
  Inv X ZY σ (aD H p<|.lst ys) {s with heap:=s.heap.update p f,toks:=t}:=by
 have e:(s.heap.update p f).get? p=some {cls:=.type "list",data:=.seq its'.toArray n'}:=by rw[Q7 f ho (by rw[hf]<;>rfl),hf]
 refine I.write (x:=p) (e:=p) (by rw[h];trivial) (.inl rfl) (λb u hb q=>(Heap.get?_update_other _ _<|R6 hb).trans q) ⟨_,e⟩ ?_;exact⟨hz,its',n',r,e⟩
def wQ:V->V->V->Hp->(Hp->Prop)->Prop:=λo i v H Q=>∃p xs k j,o=.ref p/\i=.int k/\H p=some (.lst xs)/\sG xs.length k=some j/\Q (aD H p<|.lst<|xs.set j v)
theorem set_list:PSet X wQ:=by
 intro ZY s σ H o i v ov iv u Q I ro ri rv h;obtain⟨p,xs,k,j,rfl,rfl,hp,hj,q⟩:=h;cases ro;obtain⟨t,rfl⟩:=ri;obtain⟨its,n,r,ho,hz⟩:=I.lst hp;obtain⟨h1,h2,h3,h4⟩:=wN hj;have hl:=r.length;have hn:=mW;have I':Inv X ZY σ (aD H p<|.lst<|xs.set j v) {s with heap:=s.heap.update p (X6 (·.setIfInBounds j u))} :=
  I.lstUpd hp ho (vd its n j u) (r.set rv j) (by rw[N5];exact hz) s.toks
 by_cases h0:0<=k
 ·have hk:k.toNat=j:=by rw[seqIndex_of h0 h4]at h1;exact Z5 h1
  exact PySem.W.ki_setAt ho h0 (by lia) (by rw[Y6,<- hl];exact h4) (by rw[hk];exact⟨_,I',q⟩)
 ·have hk:(k+(its.toArray.size:Int)).toNat=j:=by rw[seqIndex_neg (by lia) h3]at h1;rw[Y6,<- hl];exact Z5 h1
  exact PySem.W.ki_setBack ho (by lia) (by rw[Y6,<- hl];exact h3) (by lia) (by rw[hk];exact⟨_,I',q⟩)
theorem qI(lo hi:ZI)(n:Nat):(sliceBounds lo hi none n).1=((HT.pZ n 0 lo:Nat):Int)/\(sliceBounds lo hi none n).2.1=((HT.pZ n n hi:Nat):Int)/\(sliceBounds lo hi none n).2.2=1:=by
 refine⟨?_,?_,rfl⟩
 ·cases lo with
  |none=>simp[sliceBounds,HT.pZ]
  |some i =>
   simp only[sliceBounds,HT.pZ,Option.getD_none,show (1:Int) > 0 by decide,if_true];by_cases h:i<0
   ·simp only[h,if_true]<;>lia
   ·simp only[h,if_false]<;>lia
 ·cases hi with
  |none=>simp[sliceBounds,HT.pZ]
  |some i =>
   simp only[sliceBounds,HT.pZ,Option.getD_none,show (1:Int) > 0 by decide,if_true];by_cases h:i<0
   ·simp only[h,if_true]<;>lia
   ·simp only[h,if_false]<;>lia
theorem p7(its:ZT)(lo hi:ZI):slicePick its.toArray lo hi none=((its.drop<|HT.pZ its.length 0 lo).take (HT.pZ its.length its.length hi-HT.pZ its.length 0 lo)).toArray:=by obtain⟨h1,h2,h3⟩:=qI lo hi its.toArray.size;unfold slicePick;rw[h1,h2,h3];simp only[sliceRange_one,pick_run,Y6]<;>rfl
def rSlL(K:Z3):V->Option Int->Option Int->Hp->VK->Prop:=λx lo hi H Q=>∃a xs,x=.ref a/\cD K H a xs/\∀p,H p=none->Q (.ref p) (aD H p<|.lst<|yv xs lo hi)
theorem sl_list:SlR X (rSlL X.K):=by intro ZY s σ H x v vl vu lo hi sl Q I rx hs pl pu h;obtain⟨a,xs,rfl,hx,q⟩:=h;cases rx;obtain⟨its,r,ht,hz⟩:=I.list hx;have hlen:=r.length;refine⟨"list",_,slot_list_getitem.lookup,ht.isList.typeIs,?_⟩;refine wpAny_getItem_list_slice ht.isList hs pl pu .none (by simp) ?_ (by rw[Y6]<;>lia);rw[p7,<- hlen];refine⟨.ref s.heap.objs.size,_,I.laid (t':=s.toks) (o:=.lst<|yv xs lo hi) (λb ob q=>Z4 _ q) (bi _) ?_,rfl,q _<|I.hok.fresh<|bi _⟩;exact⟨aR (sY xs lo hi) hz,_,0,(r.drop<|HT.pZ xs.length 0 lo).take (HT.pZ xs.length xs.length hi-HT.pZ xs.length 0 lo),X0 _ rfl⟩
def jh:V->Bool
 |.non=>true
 |.bl _=>true
 |.int _=>true
 |.str _=>true
 |_=>false
def A3:V->V->Bool
 |.non,.non=>true
 |.bl a,.bl b=>a==b
 |.bl a,.int b=>(if a then 1 else 0)==b
 |.int a,.bl b=>a==(if b then 1 else 0)
 |.int a,.int b=>a==b
 |.str a,.str b=>a==b
 |_,_=>false
theorem eqAt_V(ry:RelV y u)(rx:RelV x v)(fy:jh y=true)(fx:jh x=true):P9 A s u v (A3 y x):=by
 cases y with
 |non =>
  cases ry;cases x with
  |non=>cases rx;exact P9.same _
  |bl b=>cases rx;exact P9.none_bool b
  |int b=>obtain⟨t,rfl⟩:=rx;exact P9.none_int b t
  |str b=>obtain⟨t,rfl⟩:=rx;exact P9.none_str b t
  |_=>exact absurd (show false=true from fx) Y3
 |bl a =>
  cases ry;cases x with
  |non=>cases rx;exact P9.bool_none a
  |bl b=>cases rx;exact P9.bool_bool a b
  |int b=>obtain⟨t,rfl⟩:=rx;exact P9.bool_int a b t
  |str b=>obtain⟨t,rfl⟩:=rx;exact P9.bool_str a b t
  |_=>exact absurd (show false=true from fx) Y3
 |int a =>
  obtain⟨t',rfl⟩:=ry;cases x with
  |non=>cases rx;exact P9.int_none a t'
  |bl b=>cases rx;exact P9.int_bool a t' b
  |int b=>obtain⟨t,rfl⟩:=rx;exact P9.int_int a t' b t
  |str b=>obtain⟨t,rfl⟩:=rx;exact P9.int_str a t' b t
  |_=>exact absurd (show false=true from fx) Y3
 |str a =>
  obtain⟨t',rfl⟩:=ry;cases x with
  |non=>cases rx;exact P9.str_none a t'
  |bl b=>cases rx;exact P9.str_bool a t' b
  |int b=>obtain⟨t,rfl⟩:=rx;exact P9.str_int a t' b t
  |str b=>obtain⟨t,rfl⟩:=rx;exact P9.str_str a t' b t
  |_=>exact absurd (show false=true from fx) Y3
 |_=>exact absurd (show false=true from fy) Y3
def eqU(x:V)(u:Value):Bool:=match u with
 |.none=>A3 .non x
 |.bool b=>A3 (.bl b) x
 |.int i _=>A3 (.int i) x
 |.str z _=>A3 (.str z) x
 |_=>false
theorem A4(r:RelV y u)(f:jh y=true):eqU x u=A3 y x:=by
 cases y with
 |non=>cases r;rfl
 |bl b=>cases r;rfl
 |int i=>obtain⟨t,rfl⟩:=r;rfl
 |str z=>obtain⟨t,rfl⟩:=r;rfl
 |_=>exact absurd (show false=true from f) Y3
theorem wR:∀{xs:List V} {us:ZT},aM xs us->xs.all jh=true->us.any (eqU x)=xs.any λy=>A3 y x:=λp f=>by
 induction p with
 |nil=>rfl
 |cons r t ih =>rw[List.all_cons,K5]at f;rw[G6,G6,A4 r f.1,ih f.2]
theorem sZ(rx:RelV x v)(fx:jh x=true):∀{xs:List V} {us:ZT},aM xs us->xs.all jh=true->∀u∈us,P9 A s u v (eqU x u):=by
 intro xs us p;induction p with
 |nil=>exact λa u hu=>nomatch hu
 |cons r t ih =>
  intro f u' hu;rw[List.all_cons,K5]at f;rcases Y4.mp hu with z|hu
  ·rw[z,A4 r f.1];exact eqAt_V r rx f.1 fx
  ·exact ih f.2 u' hu
def inV(x:V)(xs:List V):Bool:=xs.any λy=>A3 y x
def rIn(K:Z3)(neg:Bool):R2:=λx y H Q=>∃p xs,y=.ref p/\(cD K H p xs\/jp K H p xs)/\jh x=true/\xs.all jh=true/\Q (.bl (if neg then !inV x xs else inV x xs)) H
theorem yy:jg X (O4 .In) (rIn X.K false):=by
 intro ZY s σ H x y v u Q I rx ry h;obtain⟨p,xs,rfl,hq,fx,fs,q⟩:=h;cases ry;rcases hq with hq|hq
 ·obtain⟨its,r,pl,hz⟩:=I.list hq;refine SeqAt.in_listAt (eqU x) pl.isList (λw hw=>sZ rx fx r fs w (by simpa using hw)) ⟨.bl _,H,I,rfl,?_⟩;rw[show its.toArray.any (eqU x)=its.any (eqU x) by simp,wR r fs];exact q
 ·obtain⟨its,r,pl,hz⟩:=I.tuple hq;refine SeqAt.in_tupleAt (eqU x) pl (λw hw=>sZ rx fx r fs w (by simpa using hw)) ⟨.bl _,H,I,rfl,?_⟩;rw[show its.toArray.any (eqU x)=its.any (eqU x) by simp,wR r fs];exact q
theorem qJ:dR X (.builtin "len") (λxs H Q=>∃p ys,xs=[.ref p]/\(cD X.K H p ys\/jp X.K H p ys)/\Q (.int ys.length) H):=by
 intro ZY s σ H xs us Q I r h;obtain⟨p,ys,rfl,hq,q⟩:=h;obtain⟨u,rfl,rx⟩:=vals1 r;cases rx;have hn:=mW;rcases hq with hq|hq
 ·obtain⟨its,r',pl,hz⟩:=I.list hq;have hlen:=r'.length;exact Calls.call_len_list pl.isList (by simp only[Y6]<;>lia) ⟨.int ys.length,H,I.tok _,⟨s.toks+1,by rw[Y6,hlen]⟩,q⟩
 ·obtain⟨its,r',pl,hz⟩:=I.tuple hq;have hlen:=r'.length;exact len_tuple pl (by simp only[Y6]<;>lia) ⟨.int ys.length,H,I.tok _,⟨s.toks+1,by rw[Y6,hlen]⟩,q⟩
theorem qK:dR X (.type "list") (λxs H Q=>∃p ys,xs=[.ref p]/\(cD X.K H p ys\/jp X.K H p ys)/\∀l,H l=none->Q (.ref l) (aD H l<|.lst ys)):=by
 intro ZY s σ H xs us Q I r h;obtain⟨p,ys,rfl,hq,q⟩:=h;obtain⟨u,rfl,rx⟩:=vals1 r;cases rx;have fin:∀(its:ZT),aM ys its->ys.length<=W3->∀(h':Heap) (c':Nat),(∀b o',s.heap.get? b=some o'->h'.get? b=some o') ->
   h'.get? s.heap.objs.size=some {cls:=.type "list",dict:=none,data:=.seq its.toArray c',slots:=#[]}->EP X ZY σ Q (.ref s.heap.objs.size) {s with heap:=h'}:=λits r' hz h' c' kp e =>
  ⟨.ref s.heap.objs.size,_,I.laid (t':=s.toks) kp (bi _) (show bn X.prog X.w _ h' _ (.lst ys) from ⟨hz,its,c',r',e⟩),rfl,q _<|I.hok.fresh<|bi _⟩
 rcases hq with hq|hq
 ·obtain⟨its,r',pl,hz⟩:=I.list hq;have hlen:=r'.length;obtain⟨o,ho,hc,n,hd⟩:=pl.isList;exact call_list_seq p (.inl rfl) ho hc hd (λh' c' kp e=>fin its r' hz h' c' kp e) (by simp only[Y6]<;>omega)
 ·obtain⟨its,r',pl,hz⟩:=I.tuple hq;have hlen:=r'.length;obtain⟨o,ho,hc,n,hd⟩:=pl;exact call_list_seq p (.inr rfl) ho hc hd (λh' c' kp e=>fin its r' hz h' c' kp e) (by simp only[Y6]<;>omega)
def tyV(K:Z3)(T:String)(x:V)(H:Hp):Prop:=match x with
 |.str _=>T="str"
 |.int _=>T="int"
 |.ref p=>(T="list"/\∃xs,cD K H p xs)\/(T="tuple"/\∃o,K.lookup p=some o/\o.cls=.type "tuple"/\o.dict=none) \/
   (T="dict"/\((∃kvs,H p=some (.dK kvs))\/∃kvs,H p=some (.dT kvs)))\/(T="set"/\∃S n,H p=some (.set S n))
 |_=>False
theorem A5{σ:St}(I:Inv X ZY σ H s)(r:RelV x v)(ty:tyV X.K T x H):
  s.TypeIs v T/\∀a,v=.ref a->∃ob,s.heap.get? a=some ob/\ob.dict=none:=by
 cases x with
 |str z =>obtain⟨t,rfl⟩:=r;cases (show T="str" from ty);exact⟨typeIs_str s z t,λb e=>nomatch e⟩
 |int i =>obtain⟨t,rfl⟩:=r;cases (show T="int" from ty);exact⟨typeIs_int s i t,λb e=>nomatch e⟩
 |ref p =>
  cases r;rcases ty with ⟨rfl,xs,hq⟩|⟨rfl,o,hk,hc,hd⟩|⟨rfl,hk⟩|⟨rfl,S,n,hk⟩
  ·obtain⟨its,_,pl,_⟩:=I.list hq;refine⟨pl.isList.typeIs,λa e=>?_⟩;cases e;obtain⟨o,n,e,c,hd,_⟩:=pl;exact⟨o,e,hd⟩
  ·refine⟨⟨o,I.kIn p o hk,hc⟩,λa e=>?_⟩;cases e;exact⟨o,I.kIn _ o hk,hd⟩
  ·have z:∃o,s.heap.get? p=some o/\o.ExactDict:=by
    rcases hk with ⟨kvs,hk⟩|⟨kvs,hk⟩
    ·obtain⟨_,_,_,_,o,_,_,e,ex,_⟩:=I.hok p _ hk;exact⟨o,e,ex⟩
    ·obtain⟨_,_,_,_,o,_,_,e,ex,_⟩:=I.hok p _ hk;exact⟨o,e,ex⟩
   obtain⟨o,e,ex⟩:=z;refine⟨⟨o,e,ex.1⟩,λa e2=>?_⟩;cases e2;exact⟨o,e,ex.2.1⟩
  ·obtain⟨o,_,_,_,e,ex,_⟩:=I.hok p _ hk;refine⟨⟨o,e,ex.1⟩,λa e2=>?_⟩;cases e2;exact⟨o,e,ex.2.1⟩
 |_=>exact L6 ty
def tBM0(K:Z3)(T:String)(r:V->List V->Hp->VK->Prop)(to:TE):TE:=λσ H Q=>to σ H λx H1=>tyV K T x H1/\r x [] H1 Q
def tBM(K:Z3)(T:String)(r:V->List V->Hp->VK->Prop)(to:TE)(t:TA):TE:=λσ H Q=>to σ H λx H1=>tyV K T x H1/\t σ H1 λxs H2=>r x xs H2 Q
variable {o e:Expr}{es:List Expr}{to:TE}{t:TA}{name:Str}{apos cpos:Pos}{T id:String}{r:V->List V->Hp->VK->Prop}
theorem pe_bm0(pa:PlainAttrs T)(slot:Slot T name id)(hty:typeOf (.builtin id)=pure (.type "method_descriptor"))(hm:MtR X id r)(ho:PE X o to)(hbase:autoParam (attributeBase o name X.env (eval o X.env)=eval o X.env) L2.cY._auto_1)(hline:autoParam ((apos.endLine==cpos.line)=true) L2.cY._auto_1):PE X (.Call (.Attribute o name apos) [] [] cpos) (tBM0 X.K T r to):=by intro ZY s σ H Q I h;refine wpAny_Call_method0_late hbase hline (bu (ho ZY s σ H _ I h) λv s1 ⟨x,H1,I1,r1,ty,q1⟩=>?_);obtain⟨h1,h2⟩:=A5 I1 r1 ty;exact⟨T,id,pa,slot,hty,h1,h2,D1 rfl<|PySem.evalArgs_none<|hm ZY s1 σ H1 x [] v [] Q I1 r1 .nil q1⟩
theorem pe_bm(pa:PlainAttrs T)(slot:Slot T name id)(hty:typeOf (.builtin id)=pure (.type "method_descriptor"))(hm:MtR X id r)(ho:PE X o to)(ha:PA X (e ::es) t)(hbase:autoParam (attributeBase o name X.env (eval o X.env)=eval o X.env) L2.cY._auto_1)(hfew:((backTo cpos<|V1 (e ::es) X.env).all (λx=>!x.1)&&(backToKw cpos<|keywordEach [] X.env).all (λx=>x.1.isSome)
  &&decide ((e ::es).length+([]:List Keyword).length+(if ([]:List Keyword).isEmpty then 0 else 1)<30))=true:=by rfl)(hline:autoParam ((apos.endLine==cpos.line)=true) L2.cY._auto_1)(hs:autoParam (V1 (e ::es) X.env=(false,eval e X.env) ::V1 es X.env) L2.cY._auto_1)(hplain:autoParam ((backTo cpos<|V1 es X.env).any (·.1)=false) L2.cY._auto_1):
  PE X (.Call (.Attribute o name apos) (e ::es) [] cpos) (tBM X.K T r to t):=by
 intro ZY s σ H Q I h;refine wpAny_Call_method_late hbase hfew hline rfl (bu (ho ZY s σ H _ I h) λv s1 ⟨x,H1,I1,r1,ty,q1⟩=>?_);obtain⟨h1,h2⟩:=A5 I1 r1 ty;refine⟨T,id,pa,slot,hty,h1,h2,?_⟩;have hA:=ha cpos ZY s1 σ H1 _ I1 q1;rw[hs]at hA ⊢;refine D1 (by show (false || (backTo cpos<|V1 es X.env).any (·.1))=false;rw[hplain]<;>rfl)<|Calls.evalArgs_plain ?_;exact bu hA λus s2 ⟨vs,H2,I2,r2,q2⟩=>hm ZY s2 σ H2 x vs v us Q I2 r1 r2 q2
end
end L2
namespace L2
open PySem PySem.Spec PyProof.Rows
def MtM(X:Cx)(id:String)(r:V->List V->Hp->VK->Prop):Prop :=
 ∀(ZY:ZO) (s:Shared) (σ:St) (H:Hp) (x:V) (xs:List V) (v:Value) (us:ZT) (Q:VK),Inv X ZY σ H s->RelV x v->aM xs us->r x xs H Q ->
  wpAny (model X.prog X.w) X.A (call (.builtin id) (v ::us)) (EP X ZY σ Q) X.xe s
theorem aM.one:∀{x:V} {us:ZT},aM [x] us->∃u,us=[u]/\RelV x u:=λp=>by
 cases p with
 |cons r t=>cases t;exact⟨_,rfl,r⟩
theorem aM.zero:∀{us:ZT},aM [] us->us=[]
 |_,.nil=>rfl
theorem aM.dropLast(h:aM xs us):aM xs.dropLast us.dropLast:=by
 induction h with
 |nil=>exact .nil
 |cons r t ih =>
  cases t with
  |nil=>exact .nil
  |cons q t'=>exact .cons r ih
theorem aM.eraseIdx:∀{xs:List V} {us:ZT} (i:Nat),aM xs us->aM (xs.eraseIdx i) (us.eraseIdx i):=by
 intro xs us i p;induction p generalizing i with
 |nil=>exact .nil
 |cons r t ih =>
  cases i with
  |zero=>exact t
  |succ i=>exact .cons r<|ih i
theorem qb{α:Type}:∀(l:List α) (i:Nat),(l.eraseIdx i).length<=l.length
 |[],_=>bi _
 |_ ::_,0=>Q2 _
 |_ ::r,i+1=>K6<|qb r i
section
variable {X:Cx}{ZY:ZO}{σ:St}{H:Hp}{s:Shared}{l:Addr}{xs ys:List V}
theorem Inv.lset{its its':ZT}{f:Array Value->Array Value}(I:Inv X ZY σ H s)(hH:H l=some (.lst xs))(e:s.heap.get? l=some {cls:=.type "list",data:=.seq its.toArray n})(hf:f its.toArray=its'.toArray)(hv:aM ys its')(hz:ys.length<=W3):
  Inv X ZY σ (aD H l<|.lst ys) {s with heap:=s.heap.update l<|X6 f,toks:=t'}:=by
 have q:=PySem.IsL.update e f;rw[hf]at q;refine I.write (x:=l) (e:=l) (by rw[hH];exact trivial) (.inl rfl) (λb' u hb hu=>(Heap.get?_update_other s.heap (X6 f)<|R6 hb).trans hu) ⟨_,q⟩ ?_;exact⟨hz,its',_,hv,q⟩
theorem Inv.lnew(I:Inv X ZY σ H s)(hv:aM ys its)(hz:ys.length<=W3):
  Inv X ZY σ (aD H s.heap.objs.size<|.lst ys) {s with heap:=s.heap.push {cls:=.type "list",data:=.seq its.toArray},toks:=t'} :=
 I.laid (λx x q=>Z4 _ q) (bi _) ⟨hz,its,0,hv,X0 _ rfl⟩
theorem Inv.fresh(I:Inv X ZY σ H s):H s.heap.objs.size=none:=I.hok.fresh<|bi _
theorem Inv.lstM(I:Inv X ZY σ H s)(hH:H l=some (.lst xs)):xs.length<=W3/\∃(its:ZT) (n:Nat),aM xs its/\xs.length=its.length/\s.heap.get? l=some {cls:=.type "list",data:=.seq its.toArray n}:=by obtain⟨z,its,n,r,e⟩:=I.hok l _ hH;exact⟨z,its,n,r,r.length,e⟩
theorem A6(h:n<=W3):R7.List.listTooLong n=false:=by unfold R7.List.listTooLong;exact decide_eq_false (by lia)
end
section
variable {X:Cx}
def qL:V->List V->Hp->VK->Prop:=λx vs H Q=>∃l xs y,x=.ref l/\vs=[y]/\H l=some (.lst xs)/\xs.length<W3/\Q .non (aD H l<|.lst<|xs++[y])
theorem dD:MtM X "list.append" qL:=by
 intro ZY s σ H x vs v us Q I rx rv h;obtain⟨l,xs,y,rfl,rfl,hH,hz,q⟩:=h;cases rx;obtain⟨u,rfl,ru⟩:=rv.one;obtain⟨z,its,n,r,hl,e⟩:=I.lstM hH;refine call_meets F.slot_list_append ⟨_,e,rfl⟩ F.entry_list_append (F.args_list_append_2 _ _) (PySem.list_append l its.toArray n u (by rw[Y6];lia)) ⟨e,?_⟩;refine⟨.non,_,I.lset (its':=its++[u]) hH e (by simp) (r.append<|.cons ru .nil) ?_,rfl,q⟩;rw[Y9,List.length_singleton];lia
def wU:V->List V->Hp->VK->Prop:=λx vs H Q=>∃l b xs zs,x=.ref l/\vs=[.ref b]/\H l=some (.lst xs)/\H b=some (.lst zs)/\xs.length+zs.length<=W3/\Q .non (aD H l<|.lst<|xs++zs)
theorem yz:MtM X "list.extend" wU:=by
 intro ZY s σ H x vs v us Q I rx rv h;obtain⟨l,b,xs,zs,rfl,rfl,hH,hB,hz,q⟩:=h;cases rx;obtain⟨u,rfl,ru⟩:=rv.one;cases ru;obtain⟨z,its,n,r,hl,e⟩:=I.lstM hH;obtain⟨z2,its2,n2,r2,hl2,e2⟩:=I.lstM hB;have hsz:its.toArray.size+its2.toArray.size<=W3:=by rw[Y6,Y6];lia
 have hlong:¬ (!its.toArray.isEmpty&&R7.List.listTooLong (its.toArray.size+its2.toArray.size))=true:=by rw[A6 hsz,Bool.and_false];exact Y3
 refine call_meets F.slot_list_extend ⟨_,e,rfl⟩ F.entry_list_extend (F.args_list_extend_2 _ _)
  (AutoSeq1.list_extend_list_list_0 l its.toArray n b its2.toArray n2 hlong (by rw[Y6];lia) (by lia)) ⟨e,e2,?_⟩
 refine⟨.non,_,I.lset (its':=its++its2) hH e (by simp) (r.append r2) ?_,rfl,q⟩;rw[Y9];lia
def A7:V->List V->Hp->VK->Prop:=λx vs H Q=>∃l xs i k y,x=.ref l/\vs=[.int i]/\H l=some (.lst xs)/\-(2^63)<=i/\i<2^63/\seqIndex? i xs.length=some k/\xs[k]?=some y/\Q y (aD H l<|.lst<|xs.eraseIdx k)
theorem t5:MtM X "list.pop" A7:=by
 intro ZY s σ H x vs v us Q I rx rv h;obtain⟨l,xs,i,k,y,rfl,rfl,hH,h1,h2,hk,hy,q⟩:=h;cases rx;obtain⟨u,rfl,ru⟩:=rv.one;obtain⟨t,rfl⟩:=ru;obtain⟨z,its,n,r,hl,e⟩:=I.lstM hH;obtain⟨w,hw,rw'⟩:=r.get hy;refine call_meets F.slot_list_pop ⟨_,e,rfl⟩ F.entry_list_pop (F.args_list_pop_2 _ _)
  (MeetsSeq.list_pop_at l its.toArray n i t k w (fitsIndex_both h1 h2) (by rw[Y6,<- hl];exact hk) (by rw[<- Array.getElem?_toList];exact hw) (by rw[Y6];lia)) ⟨e,?_⟩
 refine⟨y,_,I.lset (its':=its.eraseIdx k) hH e ?_ (r.eraseIdx k) ?_,rw',q⟩
 ·show its.toArray.eraseIdxIfInBounds k=(its.eraseIdx k).toArray;rw[List.eraseIdxIfInBounds_toArray]
 ·have:=qb xs k;lia
def A8:V->List V->Hp->VK->Prop:=λx vs H Q=>∃l xs,x=.ref l/\vs=[]/\H l=some (.lst xs)/\Q .non (aD H l<|.lst [])
theorem A9:MtM X "list.clear" A8:=by
 intro ZY s σ H x vs v us Q I rx rv h;obtain⟨l,xs,rfl,rfl,hH,q⟩:=h;cases rx;have hus:=rv.zero;subst hus;obtain⟨z,its,n,r,hl,e⟩:=I.lstM hH;refine call_meets F.slot_list_clear ⟨_,e,rfl⟩ F.entry_list_clear (F.args_list_clear_1 _) (AutoSeq1.list_clear_list_0 l its.toArray n (by rw[Y6];omega)) ⟨e,?_⟩;exact⟨.non,_,I.lset (its':=[]) (ys:=[]) hH e rfl .nil<|U5 _,rfl,q⟩
end
section
set_option maxRecDepth 100000 in
end
end L2
namespace L2
open PySem PySem.Spec PyProof.Rows
section
variable {κ:Type}[DecidableEq κ]
def cU(kvs:List (κ×V))(k:κ):Option V:=(kvs.find? λkv=>decide<|kv.1=k).map (·.2)
def putK(kvs:List (κ×V))(k:κ)(v:V):List (κ×V) :=
 if (kvs.any λkv=>decide<|kv.1=k)=true then kvs.map (λkv=>if kv.1=k then (kv.1,v) else kv) else kvs++[(k,v)]
theorem fF{r:List (κ×V)}{k:κ}(e:p.1=k):cU (p ::r) k=some p.2:=by simp[cU,E6,e]
theorem fG{r:List (κ×V)}{k:κ}(e:¬ p.1=k):cU (p ::r) k=cU r k:=by simp[cU,E6,e]
theorem Aa(k:κ):∀kvs:List (κ×V),(kvs.any λkv=>decide<|kv.1=k)=(cU kvs k).isSome:=by
 intro kvs;induction kvs with
 |nil=>rfl
 |cons p r ih =>
  rw[G6];by_cases e:p.1=k
  ·simp only[fF e,decide_eq_true e,Bool.true_or,Option.isSome_some]
  ·rw[fG e,decide_eq_false e,Bool.false_or];exact ih
theorem fZ(kvs:List (κ×V))(k:κ)(v:V):(putK kvs k v).length<=kvs.length+1:=by
 unfold putK;split
 ·rw[Z8];lia
 ·rw[Y9,V9,List.length_nil];lia
theorem hV.isSome_eq(r:hV o u):o.isSome=u.isSome:=by
 cases o with
 |none=>cases u with
  |none=>rfl
  |some _=>exact(show False from r).elim
 |some _=>cases u with
  |none=>exact(show False from r).elim
  |some _=>rfl
theorem hV.getD(r:hV o u)(rd:RelV d d'):RelV (o.getD d) (u.getD d'):=by
 cases o with
 |none=>cases u with
  |none=>exact rd
  |some _=>exact(show False from r).elim
 |some _=>cases u with
  |none=>exact(show False from r).elim
  |some _=>exact r
theorem KV.val(r:KV kvs vs)(k:κ):hV (cU kvs k) (valueAt vs k):=by
 unfold KV at r;induction r with
 |nil=>exact E5
 |@cons p q ps qs h t ih =>
  obtain⟨h1,h2⟩:=h;by_cases e:p.1=k
  ·have e':q.1=k:=h1.symm.trans e;have b:valueAt (q ::qs) k=some q.2:=by simp[valueAt,E6,e']
   rw[fF e,b];exact h2
  ·have e':¬ q.1=k:=λz=>e<|h1.trans z;have b:valueAt (q ::qs) k=valueAt qs k:=by simp[valueAt,E6,e']
   rw[fG e,b];exact ih
theorem KV.any(r:KV kvs vs)(k:κ):(kvs.any λkv=>decide<|kv.1=k)=vs.any λkv=>decide (kv.1=k):=by
 unfold KV at r;induction r with
 |nil=>rfl
 |cons h t ih=>rw[G6,G6,ih,h.1]
theorem KV.repl(r:KV kvs vs)(k:κ)(ry:RelV y u):
  KV (kvs.map λkv=>if kv.1=k then (kv.1,y) else kv) (vs.map λkv=>if kv.1=k then (kv.1,u) else kv):=by
 unfold KV at r ⊢;induction r with
 |nil=>exact .nil
 |@cons p q ps qs h t ih =>
  rw[W5,W5];refine .cons ?_ ih;obtain⟨h1,h2⟩:=h;by_cases e:p.1=k
  ·rw[if_pos e,if_pos (h1.symm.trans e)];exact⟨h1,ry⟩
  ·rw[if_neg e,if_neg λz=>e<|h1.trans z];exact⟨h1,h2⟩
theorem KV.put(r:KV kvs vs)(k:κ)(ry:RelV y u):KV (putK kvs k y) (stored vs k u):=by
 unfold putK stored;rw[r.any k];by_cases e:(vs.any λkv=>decide<|kv.1=k)=true
 ·rw[if_pos e,if_pos e];exact r.repl k ry
 ·rw[if_neg e,if_neg e];exact Paired.snoc r ⟨rfl,ry⟩
theorem KV.length{vs:List (κ×Value)}(r:KV kvs vs):kvs.length=vs.length:=Paired.length r
end
theorem qc(r:RelV (kV k) u):(bX P w).is k u=true:=by
 cases k with
 |inl i=>obtain⟨t,rfl⟩:=(show ∃t,u=M4 i t from r);exact sJ P w i t
 |inr x=>obtain⟨t,rfl⟩:=(show ∃t,u=Value.str x t from r);exact sK P w x t
theorem yA:∀{ks:List Key} {us:ZT},aM (ks.map kV) us->ItemsAre (bX P w) ks us:=by
 intro ks;induction ks with
 |nil=>intro us r;rw[List.map_nil]at r;cases r;exact .nil
 |cons k ks ih =>
  intro us r;rw[W5]at r;cases r with
  |cons h t=>exact .cons (qc h)<|ih t
abbrev KT(H:Hp):List (List Key×V)->List (List Key×Addr×Value)->Prop:=Paired λp q=>p.1=q.1/\H q.2.1=some (.tup<|p.1.map kV)/\RelV p.2 q.2.2
theorem KT.val(r:KT H kvs xs)(k:List Key):hV (cU kvs k) ((atKey xs k).map (·.2)):=by
 induction r with
 |nil=>exact E5
 |@cons p q ps qs h t ih =>
  obtain⟨h1,_,h2⟩:=h;by_cases e:p.1=k
  ·have e':q.1=k:=h1.symm.trans e;have b:atKey (q ::qs) k=some q.2:=by simp[atKey,E6,e']
   rw[fF e,b];exact h2
  ·have e':¬ q.1=k:=λz=>e<|h1.trans z;have b:atKey (q ::qs) k=atKey qs k:=by simp[atKey,E6,e']
   rw[fG e,b];exact ih
theorem KT.repl(r:KT H kvs xs)(k:List Key)(ry:RelV y u):
  KT H (kvs.map λkv=>if kv.1=k then (kv.1,y) else kv) (xs.map<|putAt k u):=by
 induction r with
 |nil=>exact .nil
 |@cons p q ps qs h t ih =>
  rw[W5,W5];refine .cons ?_ ih;obtain⟨h1,h2,h3⟩:=h;unfold putAt;by_cases e:p.1=k
  ·rw[if_pos e,if_pos (h1.symm.trans e)];exact⟨h1,h2,ry⟩
  ·rw[if_neg e,if_neg λz=>e<|h1.trans z];exact⟨h1,h2,h3⟩
theorem KT.put(r:KT H kvs xs)(k:List Key)(hb:H b=some (.tup<|k.map kV))(ry:RelV y u):
  KT H (putK kvs k y) (storedH xs k b u):=by
 have e:(kvs.any λkv=>decide<|kv.1=k)=(atKey xs k).isSome:=by rw[Aa,(r.val k).isSome_eq,Option.isSome_map]
 unfold putK storedH;rw[e];by_cases q:(atKey xs k).isSome=true
 ·rw[if_pos q,if_pos q];exact r.repl k ry
 ·rw[if_neg q,if_neg q];exact Paired.snoc r ⟨rfl,hb,ry⟩
theorem KT.keeps(r:KT H kvs xs)(ht:∀b ys,H b=some (.tup ys)->H' b=some (.tup ys)):KT H' kvs xs :=
 Paired.mapP r λx x z=>⟨z.1,ht _ _ z.2.1,z.2.2⟩
section
variable {P:U7}{w:World}{H:Hp}{h:Heap}{a:Addr}
theorem rd_of(ok:jE P w H h)(e:Rd H a u):bn P w H h a u:=e.ok ok
theorem qd(ok:jE P w H h)(e:Rd H a (.dK kvs)):kvs.length<=W3/\(a==L5)=false/\∃vs,KV kvs vs/\h.DictOf (bX P w) a vs :=
 show bn P w H h a (.dK kvs) from rd_of ok e
theorem dk_of(ok:jE P w H h)(e:H a=some (.dK kvs)):kvs.length<=W3/\(a==L5)=false/\∃vs,KV kvs vs/\h.DictOf (bX P w) a vs:=qd ok<|.inl e
theorem kP(ok:jE P w H h)(e:H a=some (.tup<|ks.map kV)):(tupleKind<|bX P w).is h ks a:=by obtain⟨_,its,r,o,h1,h2,n,h3⟩:=(show bn P w H h a (.tup<|ks.map kV) from ok a _ e);exact⟨o,its.toArray,n,h1,h2,h3,by simpa using yA r⟩
theorem qf(ok:jE P w H h)(e:Rd H a (.dT kvs)):kvs.length<=W3/\(a==L5)=false /\
  ∃xs,KT H kvs xs/\h.DictOfH (tupleKind<|bX P w) a xs:=by
 obtain⟨z,y,xs,r,o,es,ep,h1,h2,h3,h4,h5⟩:=(show bn P w H h a (.dT kvs) from rd_of ok e);refine⟨z,y,xs,r,o,es,ep,h1,h2,h3,h4,λx hx=>?_,h5⟩;have all:∀{l:List (List Key×V)} {m:List (List Key×Addr×Value)},KT H l m->∀x∈m,(tupleKind<|bX P w).is h x.1 x.2.1:=by
  intro l m q;induction q with
  |nil=>intro x hx;exact nomatch hx
  |@cons p q ps qs hq t ih =>
   intro x hx;rcases Y4.mp hx with e|hx
   ·subst e;exact kP ok (by rw[<- hq.1];exact hq.2.1)
   ·exact ih x hx
 exact all r x hx
theorem Ab(ok:jE P w H h)(e:H a=some (.dT kvs)):kvs.length<=W3/\(a==L5)=false /\
  ∃xs,KT H kvs xs/\h.DictOfH (tupleKind<|bX P w) a xs:=qf ok<|.inl e
end
def p8(H:Hp)(a:Addr)(y:V)(r:Option V):Prop :=
 (∃kvs k,Rd H a (.dK kvs)/\y=kV k/\r=cU kvs k)\/∃kvs k b,Rd H a (.dT kvs)/\y=.ref b/\H b=some (.tup<|k.map kV)/\r=cU kvs k
def Ac(H:Hp)(a:Addr)(y v:V)(H':Hp):Prop :=
 (∃kvs k,H a=some (.dK kvs)/\y=kV k/\kvs.length<W3/\H'=aD H a (.dK<|putK kvs k v)) \/
 ∃kvs k b,H a=some (.dT kvs)/\y=.ref b/\H b=some (.tup<|k.map kV)/\kvs.length<W3/\H'=aD H a (.dT<|putK kvs k v)
theorem Ac.k{k:Key}(e:H a=some (.dK kvs))(hl:kvs.length<W3):Ac H a (kV k) v (aD H a<|.dK<|putK kvs k v):=.inl ⟨kvs,k,e,rfl,hl,rfl⟩
section
variable {X:Cx}{ZY:ZO}{σ:St}{H:Hp}{s:Shared}{a:Addr}{y v:V}{u r:Value}{o:Option V}{A:Around}{E:ZX}
theorem Inv.big(I:Inv X ZY σ H s):L5<s.heap.objs.size:=by have h:Q9<s.heap.objs.size:=(I.mod.glob.keeps I.bk).lt;exact hU (by decide) h
theorem yB{Q:ZX}(hu:A.units+1<cLine)(I:Inv X ZY σ H s)(g:p8 H a y (some v))(ry:RelV y u)(h:∀w' s',Inv X ZY σ H s'->RelV v w'->Q w' s'):
  wpAny (model X.prog X.w) A (getItem (.ref a) u) Q E s:=by
 rcases g with ⟨kvs,k,e,ey,l⟩|⟨kvs,k,b,e,ey,eb,l⟩
 ·subst ey;obtain⟨z,hd,vs,rel,dd⟩:=qd I.hok e;obtain⟨w',hw,rw'⟩:=hV.some_of (v:=v) (o:=valueAt vs k) (by rw[l];exact rel.val k);exact wpAny_getItem_of (qc ry) dd.mapOf hw<|h w' _ (I.tok _) rw'
 ·subst ey;cases (show u=U6 b from ry);obtain⟨z,hd,xs,rel,dd⟩:=qf I.hok e;obtain⟨w',hw,rw'⟩:=hV.some_of (v:=v) (o:=(atKey xs k).map (·.2)) (by rw[l];exact rel.val k);obtain⟨p,hp,hp2⟩:=U8.mp hw;refine wpAny_getItem_heap (tupleKind_room_in1 hu) (kP I.hok eb) dd hp ?_;rw[hp2];exact h w' _ (I.tok _) rw'
theorem d_in{Q:ZX}(hu:A.units+1<cLine)(I:Inv X ZY σ H s)(g:p8 H a y o)(ry:RelV y u)(h:∀s',Inv X ZY σ H s'->Q (.bool o.isSome) s'):
  wpAny (model X.prog X.w) A (O4 .In u<|.ref a) Q E s:=by
 rcases g with ⟨kvs,k,e,ey,l⟩|⟨kvs,k,b,e,ey,eb,l⟩
 ·subst ey;obtain⟨z,hd,vs,rel,dd⟩:=qd I.hok e;refine wpAny_in_of (qc ry) hd dd.mapOf ?_;rw[<- (rel.val k).isSome_eq,<- l];exact h _<|I.tok _
 ·subst ey;cases (show u=U6 b from ry);obtain⟨z,hd,xs,rel,dd⟩:=qf I.hok e;refine wpAny_in_heap (tupleKind_room_in1 hu) (kP I.hok eb) hd dd ?_;have q:=(rel.val k).isSome_eq;rw[Option.isSome_map]at q;rw[<- q,<- l];exact h _<|I.tok _
theorem mj(I:Inv X ZY σ H s)(mu:Mut (H a))(hs:T3 a s.heap h')(he:∃q,h'.get? a=some q)(new:bn X.prog X.w (aD H a ob) h' a ob):
  Inv X ZY σ (aD H a ob) {s with heap:=h',toks:=t'} :=
 I.write (x:=a) (e:=a) mu (.inl rfl) (λb q hb z=>(hs.2 b hb).trans z) he new
theorem Ad(z:kvs.length<=W3)(hd:(a==L5)=false)(rel:KV kvs vs)(dd:h'.DictOf (bX P w) a vs):
  bn P w H' h' a (.dK kvs):=⟨z,hd,vs,rel,dd⟩
theorem yC{Q:Unit->Shared->Prop}(hu:A.units+1<cLine)(I:Inv X ZY σ H s)(g:Ac H a y v H')(ry:RelV y u)(rv:RelV v r)(h:∀s',Inv X ZY σ H' s'->Q () s'):
  wpAny (model X.prog X.w) A (setItem (.ref a) u r) Q E s:=by
 rcases g with ⟨kvs,k,e,ey,l,eH⟩|⟨kvs,k,b,e,ey,eb,l,eH⟩
 ·subst ey eH;obtain⟨z,hd,vs,rel,dd⟩:=dk_of I.hok e;have hz:vs.length<=W3:=by rw[<- rel.length];exact z
  have hl:(putK kvs k v).length<=W3:=by have:=fZ kvs k v;lia
  refine wpAny_setItem_pairs (hsz:=hz) (qc ry) dd λh' dd' hs=>h _ ?_;have he:∃q,h'.get? a=some q:=oq32 dd' λq x x hq x=>⟨q,hq⟩;exact mj I (by rw[e];exact E5) hs he<|Ad hl hd (rel.put k rv) dd'
 ·subst ey eH;cases (show u=U6 b from ry);obtain⟨z,hd,xs,rel,dd⟩:=Ab I.hok e;have hz:xs.length<=W3:=by rw[<- Paired.length rel];exact z
  have hl:(putK kvs k v).length<=W3:=by have:=fZ kvs k v;lia
  refine wpAny_setItem_heap (hsz:=hz) (tupleKind_room_in1 hu) (kP I.hok eb) dd λh' dd' hs=>h _ ?_;obtain⟨q,es,ep,hq,h2,h3,h4,_,h5⟩:=dd';refine mj I (by rw[e];exact E5) hs ⟨q,hq⟩ ⟨hl,hd,_,(rel.put k eb rv).keeps λc ys ec=>?_,q,es,ep,hq,h2,h3,h4,h5⟩;rw[ak (ne_of ec e λz=>nomatch z)];exact ec
end
def NoSl(i:Expr):Prop:=∀ov iv,subscripted i false ov iv=operate [ov,iv] (getItem ov iv)
theorem subD_of{E:ZX}{T id:String}{Q:ZX}(hl:typeLookup (.type T) "__getitem__"=pure (some<|.builtin id))(hs:NoSl slice)(h:wpAny (model prog w) A (eval value env) (λo s₁=>wpAny (model prog w) A (eval slice env) (λi s₂=>s₂.TypeIs o T/\wpAny (model prog w) A (getItem o i) Q E s₂) E s₁) E s):
  wpAny (model prog w) A (eval (.Subscript value slice pos) env) Q E s:=by
 refine Subscript_ (R8 h (λo s₁ h₁=>R8 h₁ (λi s₂ h₂=>?_) λa a x=>x) λa a x=>x);obtain⟨hT,h₂⟩:=h₂;unfold subscriptTail;refine Z0 ?_;rw[getitemInPython_of_ne hT.not_modules];refine Z0<|wpAny_specialOf hT hl ?_;have fin:wpAny (model prog w) A (subscripted slice false o i) (λr s₃=>wpAny (model prog w) A (letTemporaryGo value o r >>= λa=>pure r) Q E s₃) E s₂:=by rw[hs o i];exact wpAny_operating (R8 h₂ (λr s₃ h₃=>Z0<|wpAny_letTemporaryGo<|Z6 h₃) λa a x=>x)
 first
  |exact Z6<|Z0 fin
  |exact Z0<|Z6<|Z0 fin
  |exact Z0 fin
theorem t6{σ:St}(I:Inv X ZY σ H s)(g:p8 H a y o):s.TypeIs (.ref a) "dict":=by
 rcases g with ⟨kvs,k,e,_,_⟩|⟨kvs,k,b,e,_,_,_⟩
 ·obtain⟨_,_,vs,_,dd⟩:=qd I.hok e;exact dd.typeIs
 ·obtain⟨_,_,xs,_,dd⟩:=qf I.hok e;exact dd.typeIs
def Ae(td ty:TE):TE:=λσ H Q=>td σ H λx H1=>ty σ H1 λy H2=>∃a v,x=.ref a/\p8 H2 a y (some v)/\Q v H2
def tDIn(ty td:TE):TE:=λσ H Q=>ty σ H λy H1=>td σ H1 λx H2=>∃a o,x=.ref a/\p8 H2 a y o/\Q (.bl o.isSome) H2
def Af(td ty tv:TE):TS:=λD σ H=>tv σ H λv H1=>td σ H1 λx H2=>ty σ H2 λy H3=>∃a H4,x=.ref a/\Ac H3 a y v H4/\D.nx σ H4
section
variable {X:Cx}{o i value:Expr}{pos pos':Pos}{td ty tv:TE}
theorem jM(hu:X.A.units+1<cLine)(ho:PE X o td)(hi:PE X i ty)(hs:NoSl i):PE X (.Subscript o i pos) (Ae td ty):=by intro ZY s σ H Q I h;refine subD_of PySem.F.slot_dict_getitem.lookup hs (bu (ho ZY s σ H _ I h) λu s1 ⟨x,H1,I1,rx,q1⟩=>bu (hi ZY s1 σ H1 _ I1 q1) λiv s2 ⟨y,H2,I2,ry,a,v,ex,g,q2⟩=>?_);subst ex;obtain rfl:u=U6 a:=rx;exact⟨t6 I2 g,yB hu I2 g ry λw' s3 I3 rw'=>⟨v,H2,I3,rw',q2⟩⟩
theorem Ag(hu:X.A.units+1<cLine)(hi:PE X i ty)(ho:PE X o td):PC X .In i o (tDIn ty td):=by intro ZY s σ H Q I h;refine bu (hi ZY s σ H _ I h) λiv s1 ⟨y,H1,I1,ry,q1⟩=>bu (ho ZY s1 σ H1 _ I1 q1) λu s2 ⟨x,H2,I2,rx,a,ov,ex,g,q2⟩=>?_;subst ex;obtain rfl:u=U6 a:=rx;exact d_in hu I2 g ry λs3 I3=>⟨.bl ov.isSome,H2,I3,rfl,q2⟩
theorem qM(hu:X.A.units+1<cLine)(ho:PE X o td)(hi:PE X i ty)(hv:PE X value tv)(hs:swapsWith value (some<|.Subscript o i pos') pos.line X.env=pure false):
  PS X (.Assign [.Subscript o i pos'] value pos) (Af td ty tv):=by
 intro ZY s σ H D I h;refine wpAny_Assign_Subscript (bu (hv ZY s σ H _ I h) λr s1 ⟨v,H1,I1,rv,q1⟩=>bu (ho ZY s1 σ H1 _ I1 q1) λu s2 ⟨x,H2,I2,rx,q2⟩=>bu (hi ZY s2 σ H2 _ I2 q2) λiv s3 ⟨y,H3,I3,ry,a,H4,ex,g,q3⟩=>?_) hs;subst ex;obtain rfl:u=U6 a:=rx;exact yC hu I3 g ry rv λs4 I4=>⟨σ,H4,I4,q3⟩
end
theorem Ah(h:Heap)(hb:L5<h.objs.size):bn P w H (h.push {cls:=.type "dict",data:=.dict #[]}) h.objs.size (.dK []) :=
 ⟨U5 _,beq_eq_false_iff_ne.mpr<|R6<|dB hb,[],.nil,Heap.DictOf.new h⟩
theorem Ai(h:Heap)(hb:L5<h.objs.size):bn P w H (h.push {cls:=.type "dict",data:=.dict #[]}) h.objs.size (.dT []) :=
 ⟨U5 _,beq_eq_false_iff_ne.mpr<|R6<|dB hb,[],.nil,_,#[],0,X0 _ rfl,⟨rfl,rfl,rfl⟩,rfl,rfl,List.nodup_nil⟩
def qN:TE:=λx H Q=>∀p,H p=none->Q (.ref p) (aD H p<|.dK [])
def Aj:TE:=λx H Q=>∀p,H p=none->Q (.ref p) (aD H p<|.dT [])
section
variable {X:Cx}{pos:Pos}
theorem jN:PE X (.Dict [] [] pos) qN:=λZY s σ H Q I h =>
 wpAny_Dict_empty ⟨.ref s.heap.objs.size,_,I.laid (a:=s.heap.objs.size) (o:=.dK []) (t':=s.toks) (λx x q=>Z4 _ q) (bi _)<|Ah s.heap I.big,rfl,h _<|I.hok.fresh<|bi _⟩
theorem Ak:PE X (.Dict [] [] pos) Aj:=λZY s σ H Q I h =>
 wpAny_Dict_empty ⟨.ref s.heap.objs.size,_,I.laid (a:=s.heap.objs.size) (o:=.dT []) (t':=s.toks) (λx x q=>Z4 _ q) (bi _)<|Ai s.heap I.big,rfl,h _<|I.hok.fresh<|bi _⟩
end
structure M2(X:Cx)(o:Expr)(m:Str)(apos:Pos)(e f:Expr)(cpos:Pos):Prop where
 base:attributeBase o m X.env (eval o X.env)=eval o X.env
 few:((backTo cpos<|V1 [e,f] X.env).all (λx=>!x.1)&&(backToKw cpos<|keywordEach [] X.env).all (λx=>x.1.isSome)
 &&decide (([e,f]:List Expr).length+([]:List Keyword).length+(if ([]:List Keyword).isEmpty then 0 else 1)<30))=true
 line:(apos.endLine==cpos.line)=true
 trees:backTo cpos (V1 [e,f] X.env)=[(false,eval e X.env),(false,eval f X.env)]
def IsD(H:Hp)(a:Addr):Prop:=(∃kvs,Rd H a (.dK kvs))\/∃kvs,Rd H a (.dT kvs)
theorem ve{σ:St}(I:Inv X ZY σ H s)(d:IsD H a):
  s.TypeIs (.ref a) "dict"/\(∀b,U6 a=.ref b->∃ob,s.heap.get? b=some ob/\ob.dict=none)/\(a==L5)=false:=by
 rcases d with ⟨kvs,e⟩|⟨kvs,e⟩
 ·obtain⟨_,hd,vs,_,dd⟩:=qd I.hok e;refine⟨dd.typeIs,λb q=>?_,hd⟩;cases q;obtain⟨ob,_,_,h1,h2,_⟩:=dd;exact⟨ob,h1,h2.2.1⟩
 ·obtain⟨_,hd,xs,_,dd⟩:=qf I.hok e;refine⟨dd.typeIs,λb q=>?_,hd⟩;cases q;obtain⟨ob,_,_,h1,h2,_⟩:=dd;exact⟨ob,h1,h2.2.1⟩
section
variable {X:Cx}{ZY:ZO}{σ:St}{H:Hp}{s:Shared}{a:Addr}{y d:V}{u r:Value}{o:Option V}{A:Around}{E:ZX}
theorem d_get2{Q:ZX}(hu:A.units+1<cLine)(I:Inv X ZY σ H s)(g:p8 H a y o)(ry:RelV y u)(rd:RelV d r)(h:∀w' s',Inv X ZY σ H s'->RelV (o.getD d) w'->Q w' s'):
  wpAny (model X.prog X.w) A (call (.builtin "dict.get") [.ref a,u,r]) Q E s:=by
 rcases g with ⟨kvs,k,e,ey,l⟩|⟨kvs,k,b,e,ey,eb,l⟩
 ·subst ey;obtain⟨z,hd,vs,rel,dd⟩:=qd I.hok e;refine call_meetsIn PySem.F.slot_dict_get dd.typeIs PySem.F.entry_dict_get (PySem.F.args_dict_get_3 _ _ _) (meets_dict_get_default (bX X.prog X.w) a (qc ry) hd r) ⟨_,dd.mapOf,h _ _ (I.tok _) ?_⟩;rw[l];exact(rel.val k).getD rd
 ·subst ey;cases (show u=U6 b from ry);obtain⟨z,hd,xs,rel,dd⟩:=qf I.hok e;refine call_meetsIn PySem.F.slot_dict_get dd.typeIs PySem.F.entry_dict_get (PySem.F.args_dict_get_3 _ _ _) (meetsH_dict_get_default (tupleKind<|bX X.prog X.w) a b hd r) ⟨tupleKind_room_in1 hu,k,xs,kP I.hok eb,dd,h _ _ (I.tok _) ?_⟩;rw[l];exact(rel.val k).getD rd
end
def Am(td ty tx:TE):TE:=λσ H Q=>td σ H λx H1=>∃a,x=.ref a/\IsD H1 a/\ty σ H1 λy H2=>tx σ H2 λz H3=>∃o,p8 H3 a y o/\Q (o.getD z) H3
section
variable {X:Cx}{o e f:Expr}{apos cpos:Pos}{td ty tx:TE}
theorem t8(hu:X.A.units+1<cLine)(ho:PE X o td)(he:PE X e ty)(hf:PE X f tx)(m:M2 X o "get" apos e f cpos):PE X (.Call (.Attribute o "get" apos) [e,f] [] cpos) (Am td ty tx):=by
 intro ZY s σ H Q I h;refine wpAny_Call_method m.base m.few m.line PySem.F.plainAttrs_dict PySem.F.slot_dict_get PySem.F.type_dict_get (bu (ho ZY s σ H _ I h) λu s1 ⟨x,H1,I1,rx,a,ex,d,q1⟩=>?_);subst ex;obtain rfl:u=U6 a:=rx;obtain⟨t1,t2,_⟩:=ve I1 d;refine⟨t1,t2,?_⟩;rw[m.trees];refine D1 rfl (Calls.evalArgs_plain (G2 (bu (he ZY s1 σ H1 _ I1 q1) λiv s2 ⟨y,H2,I2,ry,q2⟩=>
  G2 (bu (hf ZY s2 σ H2 _ I2 q2) λfv s3 ⟨z,H3,I3,rz,ov,g,q3⟩=>Calls.spliced_nil ?_))))
 exact d_get2 hu I3 g ry rz λw' s4 I4 rw'=>⟨_,H3,I4,rw',q3⟩
end
end L2
namespace Att
open PySem PySem.W PySem.Calls PyProof.Rows
theorem lW:∀(ns:ZW) (vs:ZT),WellAll P h vs (ns.map WData.int)->F9 vs ns:=by
 intro ns;induction ns with
 |nil =>intro vs w;rw[List.map_nil]at w;cases w;exact .nil
 |cons n ns ih =>
  intro vs w;rw[W5]at w;cases w with
  |cons a b =>cases a;exact .cons _ _<|ih _ b
theorem yD{l:OpenLaw}(hn:l.most=some n)(hpre:l.row.toRowW.claim.pre args=true)(hwl:WellAll P h vals args):
  ∃a vs ns,vals=[U6 a]/\args=[WData.list (ns.map WData.int)]/\h.get? a=some {cls:=.type "list",data:=.seq vs.toArray}/\F9 vs ns/\ns.length<=n:=by
 have hsh:WShape.hasAll [] args [.list .int]=true:=(pre_splitW hpre).1;have hc:l.pre.holds [] {args:=args}=true:=(pre_splitW hpre).2;obtain⟨d,r,rfl,h1,h2⟩:=hasAllW_cons hsh;obtain rfl:=hasAllW_nil h2;obtain⟨xs,rfl,h3⟩:=hasW_list h1;obtain⟨ns,rfl⟩:=items_int h3;have hlen:ns.length<=n:=by
  unfold OpenLaw.pre at hc;have h4:(WTm.not<|.lt (.lit<|.int (n:Int))<|.len<|.arg 0).holds [] {args:=[.list (ns.map .int)]}=true:=by have h4:=(holds_andW hc).1;rw[hn]at h4;exact h4
  have h5:=condW_of h4<|w_not<|w_lt w_lit<|w_len_list<|w_arg rfl;rw[Z8]at h5;refine D5 λq=>?_;have q':(n:Int)<((ns.length:Nat):Int):=by omega
  first
   |(rw[decide_eq_true q']at h5;exact absurd h5 (by decide))
   |(simp at h5;omega)
 cases hwl with
 |cons w1 w2 =>
  cases w2;cases w1 with
  |list ho hall=>exact⟨_,_,ns,rfl,rfl,ho,lW ns _ hall,hlen⟩
theorem yE(l:OpenLaw)(args:List WData):l.row.toRowW.claim.post args (.bool true) args=true :=
 postW_of (r:=l.row.toRowW) (X:=(true==true))
  (show WShape.has [] (.bool true) .bool=true by first|rfl|decide|simp[WShape.has,WShape.arms,WShape.armsAll])
  (show (WTm.eq .res<|.lit<|.bool true).value [] {args:=args,res:=some<|.bool true,after:=args}=some (.bool<|true==true) from w_eq_bool (w_res rfl) w_lit) rfl
theorem t9{l:OpenLaw}{XP:(Str->Option Value)->Heap->Prop}{YP:World->Heap->Prop}(hn:l.most=some n)(hdf:d.params.defaults=[])(call:∀(w:World) (s₀ s₁:Shared) (mg mb:ZN) (fa:Addr) (o:Obj) (pm cd doc:Value) (a:Addr) (vs:ZT) (ns:ZW),
   Ground q loose [] XP w s₀ mg mb s₁.heap->YP w s₁.heap ->
   s₁.heap.get? fa=some o->o.data=.func (docDef d.name d.params d.body d.scope pm cd doc)->s₁.heap.CodeRec cd d.name->mg d.name=some (.ref fa) ->
   s₁.heap.get? a=some {cls:=.type "list",data:=.seq vs.toArray}->F9 vs ns->ns.length<=n->s₁.gens=#[] ->
   codeAny (model l.prog w) callerA (.call (.ref fa) ⟨[.ref a],[]⟩) (λr s'=>r=.ok (.ret<|.bool true)/\OldK s₁.heap s'.heap/\s'.os=s₁.os/\AllBare s'.gens) s₁):
  WalkO q loose XP YP l.row.toRowW d [] (λf vs=>PySem.call f vs):=by
 intro w s₀ s₁ mg mb G Y fa o pm cd doc dV kV ho hd hcd hD hmg hg args vals as hpre hlay hrd hwl hlo;obtain rfl:dV=.none:=Dflts.none hD hdf;obtain rfl:kV=.none:=Dflts.noKw hD;obtain⟨a,vs,ns,rfl,rfl,hobj,hints,hlen⟩:=yD hn hpre hwl;refine enter_call (codeAny_mono (call w s₀ s₁ mg mb fa o pm cd doc a vs ns G Y ho (fd_plain hd) hcd hmg hobj hints hlen hg) λr s' hq=>?_);obtain⟨rfl,h2,h3,h4⟩:=hq;exact⟨.inl ⟨.bool true,.bool true,[],rfl,λx=>rfl,.bool true,yE l _,λx=>⟨List.Pairwise.nil,λx hm=>(nomatch hm)⟩⟩,h2,h3,h4⟩
end Att
namespace L2
open PySem PySem.Spec PyProof.Rows
theorem kQ:∀{vs:ZT} {ns:ZW},F9 vs ns->aM (ns.map V.int) vs:=λp=>by
 induction p with
 |nil=>exact .nil
 |cons n t _ ih=>exact .cons ⟨t,rfl⟩ ih
def Only(H:Hp):Prop:=∀b,H b=none\/∃o xs,H b=some (.frz o<|.lst xs)
end L2
namespace L2
open PySem PySem.Spec PyProof.Rows
abbrev uQ:CXT:=λx x x x x x=>False
abbrev E0:XK:=λx x x=>False
theorem An:kO uQ X E0:=λx x x x x x x h=>h.elim
structure Fun(K:Z3)(x qual:Str)(st:Stmt)(f:Addr)(fd:FuncData):Prop where
 ex:∃(oc:Value) (od:Zr) (kV doc pm:Value) (an:Zr) (ZP ct:Value) (osl:Array (Option Value)),
  fd=N0 x qual (cz st) (bp st) (ah st) .none kV doc pm an ZP ct/\K.lookup f=some ⟨oc,od,.func fd,osl⟩/\D7 K ZP qual=true
 kp:M7 K (.ref f)=true
section
variable {P:U7}{w:World}{K:Z3}{mg:ZN}{base:Heap}
theorem Fun.ok{st:Stmt}(F:Fun K x qual st f fd)(S:FnScope N ps (ah st))(len:∀vs H Q E,sp vs H Q E->vs.length=ps.length)(hbody:∀(ZP:Value) (A:Around) (outer:List Env) (s:Shared) (H:Hp) (vs:List V) (Q:VK) (E:XK),Room k (A.deeper<|envOfC qual (ah st) s.heap.objs.size f ZP)->sp vs H Q E ->
   ∃t,mP (lV uQ P w K mg base N qual (ah st) f ZP A outer s H E).nox (bp st) t/\t {nx:=λa H'=>Q .non H',rt:=Q} (start N vs) H):FnOk P w K mg base uQ (k+1) f fd ps sp:=by
 obtain⟨oc,od,kV,doc,pm,an,ZP,ct,osl,rfl,lk,hcd⟩:=F.ex;refine fn_of lk hcd S len λA outer s H vs Q E hr hsp=>?_;obtain⟨t,h,q⟩:=hbody ZP A outer s H vs Q E hr hsp;exact⟨t,h.nox,q⟩
theorem Fun.binds{st:Stmt}(F:Fun K x qual st f fd)(h:∀(kV doc pm:Value) (an:Zr) (ZP ct:Value) (us:ZT),us.length=ps.length->bindArgs (N0 x qual (cz st) (bp st) (ah st) .none kV doc pm an ZP ct) ⟨us,[]⟩=pure (ps.zip us)):Binds K fd ps []:=by obtain⟨oc,od,kV,doc,pm,an,ZP,ct,osl,rfl,lk,hcd⟩:=F.ex;exact .all<|h kV doc pm an ZP ct
theorem i0{st:Stmt}{kV doc pm ZP ct:Value}(l:K.lookup f=some ⟨oc,od,.func<|N0 x qual (cz st) (bp st) (ah st) .none kV doc pm an ZP ct,osl⟩)(c:D7 K ZP qual=true)(k:M7 K (.ref f)=true):Fun K x qual st f (N0 x qual (cz st) (bp st) (ah st) .none kV doc pm an ZP ct):=⟨⟨oc,od,kV,doc,pm,an,ZP,ct,osl,rfl,l,c⟩,k⟩
end
theorem bg(hr:Room k A):A.units+1<cLine:=eU (E9 (by decide:1<=64) _) hr.units
section
variable {X:Cx}
theorem pv(i:Nat){x:Str}{pos:Pos}(hN:autoParam (X.N[i]?=some x) L2.cY._auto_1)(hv:Vis X.env.scope x:=by first|exact Or.inl rfl|exact Or.inr (Or.inl rfl)|exact Or.inr<|Or.inr rfl)(hd:autoParam ((x==("__debug__":Str))=false) L2.iu._auto_1)(hcd:autoParam ((x==("__classdict__":Str))=false) L2.iu._auto_1):PE X (.Name x pos) (bF i):=pe_var hN hv hd hcd
end
def aW(H H':Hp):Prop:=∀b o,H b=some o->H' b=some o
theorem aW.refl(H:Hp):aW H H:=λx x h=>h
theorem aW.trans(a:aW H H1)(b:aW H1 H2):aW H H2:=λc o h=>b c o<|a c o h
theorem aW.free(e:aW H H')(h:H' l=Option.none):H l=Option.none:=by
 cases q:H l with
 |none=>rfl
 |some o =>rw[e l o q]at h;cases h
theorem aW.seq{K:Z3}(e:aW H H')(h:cD K H a xs):cD K H' a xs:=by
 rcases h with (h|⟨o,h⟩)|h
 ·exact .inl<|.inl<|e _ _ h
 ·exact .inl<|.inr ⟨o,e _ _ h⟩
 ·exact .inr h
end L2
set_option maxHeartbeats 1000000
namespace Fl
def mn(i j:Int):Int:=if j<i then j else i
def mx(i j:Int):Int:=if j > i then j else i
def cellAt(ns:ZW)(k:Nat):Int:=ns.getD k 0
theorem mx_le(h1:a<=k)(h2:b<=k):mx a b<=k:=by unfold mx;split<;>assumption
theorem le_mxl(a b:Int):a<=mx a b:=by
 unfold mx;split
 ·exact Int.le_of_lt (by assumption)
 ·exact Int.le_refl _
theorem mn_lel(a b:Int):mn a b<=a:=by
 unfold mn;split
 ·exact Int.le_of_lt (by assumption)
 ·exact Int.le_refl _
theorem n8{i j c:Nat}(hj:j<c):(i*c+j)/c=i/\(i*c+j)%c=j:=by
 have hc:0<c:=by lia
 constructor
 ·rw[Nat.mul_comm,Nat.mul_add_div hc,Nat.div_eq_of_lt hj];lia
 ·rw[Nat.mul_comm,Nat.mul_add_mod,Nat.mod_eq_of_lt hj]
end Fl
namespace Fl
def ng(a b:Int):Int:=if a-b<0 then -(a-b) else a-b
theorem tj(a b:Int):ng a b=ng b a:=by unfold ng;split<;>split<;>lia
def qO(c:Nat)(reach:Int)(x o:Nat):Bool :=
 decide (ng (o/c:Nat) (x/c:Nat)+ng (o%c:Nat) (x%c:Nat)=1\/(reach=8/\ng (o/c:Nat) (x/c:Nat)=1/\ng (o%c:Nat) (x%c:Nat)=1))
def gJ(m c:Nat)(reach:Int)(x:Nat):List Nat:=(X5<|m*c).filter (qO c reach x)
theorem Ao(c:Nat)(reach:Int)(x o:Nat):qO c reach x o=qO c reach o x:=by unfold qO;rw[tj (o/c:Nat),tj (o%c:Nat)]
theorem g8:o∈gJ m c reach x↔o<m*c/\qO c reach x o=true:=by unfold gJ;rw[S6,M5]
theorem jO(m c:Nat)(reach:Int)(x:Nat):(gJ m c reach x).length<=m*c:=by unfold gJ;exact aR (T8 _ _) (by rw[U1];exact bi _)
theorem qg(p:Nat->Bool)(n:Nat):(X5<|n+1).filter p=(X5 n).filter p++(if p n=true then [n] else []):=by
 rw[List.range_succ,List.filter_append];congr 1;by_cases h:p n=true
 ·rw[if_pos h];simp[h]
 ·rw[if_neg h];simp[h]
theorem j2(p:Nat->Bool)(a:Nat):∀(b:Nat),a<=b->(∀i,a<=i->i<b->p i=false)->(X5 b).filter p=(X5 a).filter p:=by
 intro b;induction b with
 |zero=>exact λh x=>Nat.le_zero.mp h▸rfl
 |succ b ih =>
  intro h hp;by_cases e:a=b+1
  ·rw[e]
  ·rw[qg,ih (by lia) λi h1 h2=>hp i h1 (by exact hU h2<|U2 _),hp b (by lia) (by exact U2 _)];simp
theorem Ap(hk:k<c)(reach:Int)(x r:Nat):qO c reach x (r*c+k)=decide (ng (r:Nat) (x/c:Nat)+ng (k:Nat) (x%c:Nat)=1\/(reach=8/\ng (r:Nat) (x/c:Nat)=1/\ng (k:Nat) (x%c:Nat)=1)):=by obtain⟨e1,e2⟩:=n8 (i:=r) hk;unfold qO;rw[e1,e2]
theorem lA(hc:0<c)(h:o/c+1<x/c\/x/c+1<o/c):qO c reach x o=false:=by unfold qO;rw[decide_eq_false_iff_not];unfold ng;split<;>split<;>omega
theorem lB(h:o%c+1<x%c\/x%c+1<o%c):qO c reach x o=false:=by unfold qO;rw[decide_eq_false_iff_not];unfold ng;split<;>split<;>lia
end Fl
namespace Gr
inductive Rch(nb:ZK)(ok:Zt)(x:Nat):Nat->Prop where
 |here:Rch nb ok x x
 |on {y z:Nat}:Rch nb ok x y->nb y z->ok z->Rch nb ok x z
section
variable {nb:ZK}{ok:Zt}{x y z:Nat}
theorem Rch.trans(h:Rch nb ok x y)(h':Rch nb ok y z):Rch nb ok x z:=by
 induction h' with
 |here=>exact h
 |on _ h1 h2 ih=>exact .on ih h1 h2
theorem Rch.ok_(hx:ok x)(h:Rch nb ok x y):ok y:=by
 cases h with
 |here=>exact hx
 |on _ _ h=>exact h
theorem Rch.symm(sy:∀a b,nb a b->nb b a)(hx:ok x)(h:Rch nb ok x y):Rch nb ok y x:=by
 induction h with
 |here=>exact .here
 |on h1 h2 h3 ih=>exact Rch.trans (.on .here (sy _ _ h2)<|h1.ok_ hx) ih
theorem Rch.mono{nb':ZK}{ok':Zt}(h1:∀a b,nb a b->ok b->nb' a b/\ok' b)(h:Rch nb ok x y):Rch nb' ok' x y:=by
 induction h with
 |here=>exact .here
 |on _ h2 h3 ih=>exact .on ih (h1 _ _ h2 h3).1 (h1 _ _ h2 h3).2
end
theorem Aq:∀(n:Nat) {l:ZU},l.Nodup->(∀x∈l,x<n)->l.length<=n:=by
 intro n;induction n with
 |zero =>
  intro l hn h;cases l with
  |nil=>exact bi _
  |cons a l=>exact absurd (h a<|Y4.mpr<|.inl rfl)<|K3 _
 |succ n ih =>
  intro l hn h;have h1:=ih (l:=l.erase n) (hn.erase n) λx hx=>by have:=(hn.mem_erase_iff).mp hx;have:=h x this.2;have:x≠n:=(hn.mem_erase_iff.mp hx).1;lia
  rw[List.length_erase]at h1;split at h1
  ·lia
  ·exact ci<|eU h1<|U2 _
end Gr
namespace Gr
def Lv(n:Nat)(ρ:ZL)(k:Nat)(z:Nat):Prop:=z<n/\ρ z<k
structure Fst(A:ZK)(n:Nat)(ρ:ZL)(k x r:Nat):Prop where
 rch:Rch A (Lv n ρ k) x r
 lv:Lv n ρ k r
 min:∀y,Rch A (Lv n ρ k) x y->ρ r<=ρ y
inductive Liv(par:ZC):Nat->Nat->Prop where
 |root {s:Nat}:par s=none->Liv par s s
 |up {s m e r:Nat}:par s=some (m,e)->Liv par e r->Liv par s r
section
variable {A:ZK}{n:Nat}{ρ:ZL}{k:Nat}{par par':ZC}
theorem Liv.det(h:Liv par s r)(h':Liv par s r'):r=r':=by
 induction h with
 |root e=>cases h' with
  |root=>rfl
  |up e'=>rw[e]at e';cases e'
 |up e _ ih=>cases h' with
  |root e'=>rw[e]at e';cases e'
  |up e' q=>rw[e]at e';cases e';exact ih q
theorem Liv.end_(h:Liv par s r):par r=none:=by
 induction h with
 |root e=>exact e
 |up _ _ ih=>exact ih
theorem Liv.more(hp:∀z,par z≠none->par' z=par z)(h:Liv par s r)(h':Liv par' r r'):Liv par' s r':=by
 induction h with
 |root=>exact h'
 |up e _ ih=>exact .up ((hp _ (by rw[e];exact nofun)).trans e)<|ih h'
theorem Lv.up(h:Lv n ρ k z):Lv n ρ (k+1) z:=⟨h.1,by have:=h.2;exact hU this<|U2 _⟩
theorem Rch.up(h:Rch A (Lv n ρ k) x y):Rch A (Lv n ρ<|k+1) x y:=h.mono λa a h1 h2=>⟨h1,h2.up⟩
theorem Fst.same(inj:∀x y,x<n->y<n->ρ x=ρ y->x=y)(h:Fst A n ρ k x r)(h':Fst A n ρ k x r'):r=r' :=
 inj r r' h.lv.1 h'.lv.1 (T9 (h.min _ h'.rch)<|h'.min _ h.rch)
theorem Fst.of_rch(sy:∀a b,A a b->A b a)(hx:Lv n ρ k x)(h:Rch A (Lv n ρ k) x y)(f:Fst A n ρ k x r):Fst A n ρ k y r :=
 ⟨(h.symm sy hx).trans f.rch,f.lv,λz hz=>f.min z<|h.trans hz⟩
theorem Rch.new(sy:∀a b,A a b->A b a)(inj:∀x y,x<n->y<n->ρ x=ρ y->x=y)(hc:c<n)(hρ:ρ c=k)(hx:Lv n ρ k x)(h:Rch A (Lv n ρ<|k+1) x y):
  Rch A (Lv n ρ k) x y\/∃o,A c o/\Lv n ρ k o/\Rch A (Lv n ρ k) x o/\(y=c\/∃o',A c o'/\Lv n ρ k o'/\Rch A (Lv n ρ k) o' y):=by
 have two:∀{z:Nat},Lv n ρ (k+1) z->Lv n ρ k z\/z=c:=λ{z} h=>by
  by_cases e:ρ z<k
  ·exact .inl ⟨h.1,e⟩
  ·exact .inr<|inj z c h.1 hc (by have:=h.2;exact T9 (aR (M1 this)<|bM hρ.symm)<|aR (bM hρ)<|T5.mp e)
 induction h with
 |here=>exact .inl .here
 |@on y z h1 h2 h3 ih =>
  rcases ih with q|zr1_
  ·rcases two h3 with w|rfl
   ·exact .inl<|.on q h2 w
   ·exact .inr<|jc y (sy _ _ h2) (q.ok_ hx) q<|.inl rfl
  ·obtain⟨o,o1,o2,o3,q⟩:=zr1_;rcases two h3 with w|rfl
   ·rcases q with rfl|zr2_
    ·exact .inr<|jc o o1 o2 o3<|.inr<|cZ z h2 w .here
    ·obtain⟨o',p1,p2,p3⟩:=zr2_;exact .inr<|jc o o1 o2 o3<|.inr<|cZ o' p1 p2<|.on p3 h2 w
   ·exact .inr<|jc o o1 o2 o3<|.inl rfl
theorem Rch.newc(sy:∀a b,A a b->A b a)(inj:∀x y,x<n->y<n->ρ x=ρ y->x=y)(hc:c<n)(hρ:ρ c=k)(h:Rch A (Lv n ρ<|k+1) c y):y=c\/∃o',A c o'/\Lv n ρ k o'/\Rch A (Lv n ρ k) o' y:=by
 have two:∀{z:Nat},Lv n ρ (k+1) z->Lv n ρ k z\/z=c:=λ{z} h=>by
  by_cases e:ρ z<k
  ·exact .inl ⟨h.1,e⟩
  ·exact .inr<|inj z c h.1 hc (by have:=h.2;exact T9 (aR (M1 this)<|bM hρ.symm)<|aR (bM hρ)<|T5.mp e)
 induction h with
 |here=>exact .inl rfl
 |@on y z h1 h2 h3 ih =>
  rcases two h3 with w|rfl
  ·rcases ih with rfl|zr3_
   ·exact .inr<|cZ z h2 w .here
   ·obtain⟨o',p1,p2,p3⟩:=zr3_;exact .inr<|cZ o' p1 p2<|.on p3 h2 w
  ·exact .inl rfl
structure UF(A:ZK)(n:Nat)(ρ:ZL)(k:Nat)(home:Zs)(par:ZC):Prop where
 dom:∀x,home x≠none->Lv n ρ k x
 has:∀x,Lv n ρ k x->∃s,home x=some s
 hm:∀x s,home x=some s->Fst A n ρ (ρ x+1) x s
 own:∀x s,home x=some s->home s=some s
 pr:∀s m e,par s=some (m,e)->home s=some s/\home e=some e/\Lv n ρ k m/\ρ s<ρ m/\Fst A n ρ (ρ m) s s/\Fst A n ρ (ρ m+1) s e/\e≠s
 liv:∀x s,home x=some s->∃r,Liv par s r/\Fst A n ρ k x r
theorem UF.start:UF A n ρ 0 (λx=>none) (λx=>none):=⟨λx h=>absurd rfl h,λx h=>absurd h.2<|K3 _,λx x h=>(nomatch h),λx x h=>(nomatch h),λx x x h=>(nomatch h),λx x h=>(nomatch h)⟩
variable {home home':Zs}
theorem UF.root(u:UF A n ρ k home par)(hs:home s=some s)(h:Liv par s r):home r=some r:=by
 induction h with
 |root=>exact hs
 |up e _ ih=>exact ih (u.pr _ _ _ e).2.1
theorem UF.rk_pr(inj:∀x y,x<n->y<n->ρ x=ρ y->x=y)(u:UF A n ρ k home par)(h:par s=some (m,e)):ρ e<ρ s:=by obtain⟨h1,h2,h3,h4,h5,h6,h7⟩:=u.pr s m e h;have:=h6.min s .here;have ne:ρ e≠ρ s:=λz=>h7<|inj e s h6.lv.1 h5.lv.1 z;lia
theorem UF.alone(sy:∀a b,A a b->A b a)(inj:∀x y,x<n->y<n->ρ x=ρ y->x=y)(u:UF A n ρ k home par)(hc:c<n)(hρ:ρ c=k)(no:∀o,A c o->¬ Lv n ρ k o)(h1:home' c=some c)(h2:∀x,x≠c->home' x=home x):UF A n ρ (k+1) home' par:=by
 have ncl:¬ Lv n ρ k c:=λz=>by have:=z.2;exact T5.mpr (bM hρ.symm) this
 have nec:∀{x s:Nat},home x=some s->x≠c:=λ{x s} h z=>ncl<|u.dom c (by rw[<- z,h];exact nofun);have fc:Fst A n ρ (k+1) c c:=⟨.here,⟨hc,by exact eU (bM hρ)<|U2 _⟩,λy hy=>by
  rcases hy.newc sy inj hc hρ with rfl|zr4_
  ·exact bi _
  ·obtain⟨o,p1,p2,_⟩:=zr4_;exact absurd p2<|no o p1⟩
 refine⟨λx hx=>?_,λx hx=>?_,λx s hx=>?_,λx s hx=>?_,λs m e h=>?_,λx s hx=>?_⟩
 ·by_cases e:x=c
  ·subst e;exact⟨hc,by exact eU (bM hρ)<|U2 _⟩
  ·rw[h2 x e]at hx;exact(u.dom x hx).up
 ·by_cases e:x=c
  ·subst e;exact⟨x,h1⟩
  ·rw[h2 x e];refine u.has x ⟨hx.1,?_⟩;have:ρ x≠k:=λz=>e<|inj x c hx.1 hc (by exact T9 (aR (bM z)<|bM hρ.symm)<|aR (bM hρ)<|bM z.symm);have:=hx.2;lia
 ·by_cases e:x=c
  ·subst e;rw[h1]at hx;cases hx;rw[hρ];exact fc
  ·rw[h2 x e]at hx;exact u.hm x s hx
 ·by_cases e:x=c
  ·subst e;rw[h1]at hx;cases hx;exact h1
  ·rw[h2 x e]at hx;have:=u.own x s hx;rw[h2 s (nec this)];exact this
 ·obtain⟨g1,g2,g3,g4,g5,g6,g7⟩:=u.pr s m e h;exact⟨(by rw[h2 s (nec g1)];exact g1),(by rw[h2 e (nec g2)];exact g2),g3.up,g4,g5,g6,g7⟩
 ·by_cases e:x=c
  ·subst e;rw[h1]at hx;cases hx;refine(aB x (.root ?_) fc);cases q:par x with
   |none=>rfl
   |some p=>exact absurd rfl<|nec (u.pr x p.1 p.2 q).1
  ·rw[h2 x e]at hx;obtain⟨r,l,f⟩:=u.liv x s hx;have lx:=u.dom x (by rw[hx];exact nofun);refine⟨r,l,f.rch.up,f.lv.up,λy hy=>?_⟩;rcases hy.new sy inj hc hρ lx with q|zr5_
   ·exact f.min y q
   ·obtain⟨o,p1,p2,_⟩:=zr5_;exact absurd p2<|no o p1
theorem UF.meet(sy:∀a b,A a b->A b a)(inj:∀x y,x<n->y<n->ρ x=ρ y->x=y)(u:UF A n ρ k home par){met:ZU}(hc:c<n)(hρ:ρ c=k)(m1:∀o s,A c o->home o=some s->∃r,r∈met/\Liv par s r)(m2:∀r,r∈met->∃o s,A c o/\home o=some s/\Liv par s r)(he:elder∈met)(hmin:∀r,r∈met->ρ elder<=ρ r)(h1:home' c=some elder)(h2:∀x,x≠c->home' x=home x)(p1:∀s,s∈met->s≠elder->par' s=some (c,elder))(p2:∀s,¬ (s∈met/\s≠elder)->par' s=par s):UF A n ρ (k+1) home' par':=by
 have ncl:¬ Lv n ρ k c:=λz=>by have:=z.2;exact T5.mpr (bM hρ.symm) this
 have nec:∀{x s:Nat},home x=some s->x≠c:=λ{x s} h z=>ncl<|u.dom c (by rw[<- z,h];exact nofun);have L0:∀o,A c o->Lv n ρ k o->∃r,r∈met/\Fst A n ρ k o r:=λo ho lo=>by obtain⟨s,hs⟩:=u.has o lo;obtain⟨r,g1,g2⟩:=m1 o s ho hs;obtain⟨r',g3,g4⟩:=u.liv o s hs;have:=g2.det g3;subst this;exact(aB r g1 g4)
 have L0':∀r,r∈met->∃o,A c o/\Lv n ρ k o/\Fst A n ρ k o r:=λr hr=>by obtain⟨o,s,g1,g2,g3⟩:=m2 r hr;obtain⟨r',g4,g5⟩:=u.liv o s g2;have:=g3.det g4;subst this;exact(cZ o g1 (u.dom o (by rw[g2];exact nofun)) g5)
 have lc:Lv n ρ (k+1) c:=⟨hc,by exact eU (bM hρ)<|U2 _⟩;have L1:Fst A n ρ (k+1) c elder:=by
  obtain⟨o,g1,g2,g3⟩:=L0' elder he;refine⟨Rch.trans (.on .here g1 g2.up) g3.rch.up,g3.lv.up,λy hy=>?_⟩;rcases hy.newc sy inj hc hρ with rfl|zr6_
  ·have:=g3.lv.2;exact ci<|cf this<|bM hρ.symm
  ·obtain⟨o',q1,q2,q3⟩:=zr6_;obtain⟨r',r1,r2⟩:=L0 o' q1 q2;exact aR (hmin r' r1)<|r2.min y q3
 have L2:∀x r,Lv n ρ k x->Fst A n ρ k x r->r∈met->Fst A n ρ (k+1) x elder:=λx r lx f hr=>by obtain⟨o,g1,g2,g3⟩:=L0' r hr;have xc:Rch A (Lv n ρ<|k+1) x c:=.on ((f.rch.trans<|g3.rch.symm sy g2).up) (sy _ _ g1) lc;exact⟨xc.trans L1.rch,L1.lv,λy hy=>L1.min y<|(xc.symm sy lx.up).trans hy⟩
 have L3:∀x r,Lv n ρ k x->Fst A n ρ k x r->r∉met->Fst A n ρ (k+1) x r:=λx r lx f hr=>by
  refine⟨f.rch.up,f.lv.up,λy hy=>?_⟩;rcases hy.new sy inj hc hρ lx with q|zr7_
  ·exact f.min y q
  ·obtain⟨o,q1,q2,q3,_⟩:=zr7_;obtain⟨r',r1,r2⟩:=L0 o q1 q2;have:=(f.of_rch sy lx q3).same inj r2;exact absurd (this▸r1) hr
 have pn:∀r,r∈met->par r=none:=λr hr=>by obtain⟨o,s,g1,g2,g3⟩:=m2 r hr;exact g3.end_
 have hr:∀r,r∈met->home r=some r:=λr hr=>by obtain⟨o,s,g1,g2,g3⟩:=m2 r hr;exact u.root (u.own o s g2) g3
 have keep:∀z,par z≠none->par' z=par z:=λz hz=>p2 z λq=>hz<|pn z q.1;have le:Liv par' elder elder:=.root<|(p2 elder λq=>q.2 rfl).trans (pn elder he);refine⟨λx hx=>?_,λx hx=>?_,λx s hx=>?_,λx s hx=>?_,λs m e h=>?_,λx s hx=>?_⟩
 ·by_cases e:x=c
  ·subst e;exact lc
  ·rw[h2 x e]at hx;exact(u.dom x hx).up
 ·by_cases e:x=c
  ·subst e;exact⟨elder,h1⟩
  ·rw[h2 x e];refine u.has x ⟨hx.1,?_⟩;have:ρ x≠k:=λz=>e<|inj x c hx.1 hc (by exact T9 (aR (bM z)<|bM hρ.symm)<|aR (bM hρ)<|bM z.symm);have:=hx.2;omega
 ·by_cases e:x=c
  ·subst e;rw[h1]at hx;cases hx;rw[hρ];exact L1
  ·rw[h2 x e]at hx;exact u.hm x s hx
 ·by_cases e:x=c
  ·subst e;rw[h1]at hx;cases hx;rw[h2 _ (nec<|hr _ he)];exact hr _ he
  ·rw[h2 x e]at hx;have:=u.own x s hx;rw[h2 s (nec this)];exact this
 ·by_cases q:s∈met/\s≠elder
  ·rw[p1 s q.1 q.2]at h;cases h;have hs:=hr s q.1;obtain⟨o,g1,g2,g3⟩:=L0' s q.1;have fs:=g3.of_rch sy g2 g3.rch;refine⟨(by rw[h2 s (nec hs)];exact hs),(by rw[h2 _ (nec<|hr _ he)];exact hr _ he),lc,?_,(by rw[hρ];exact fs),(by rw[hρ];exact L2 s s g3.lv fs q.1),(λz=>q.2 z.symm)⟩;have:=g3.lv.2;exact cf this<|bM hρ.symm
  ·rw[p2 s q]at h;obtain⟨g1,g2,g3,g4,g5,g6,g7⟩:=u.pr s m e h;exact⟨(by rw[h2 s (nec g1)];exact g1),(by rw[h2 e (nec g2)];exact g2),g3.up,g4,g5,g6,g7⟩
 ·by_cases e:x=c
  ·subst e;rw[h1]at hx;cases hx;exact(aB _ le L1)
  ·rw[h2 x e]at hx;obtain⟨r,l,f⟩:=u.liv x s hx;have lx:=u.dom x (by rw[hx];exact nofun);by_cases q:r∈met
   ·refine(aB elder (l.more keep ?_)<|L2 x r lx f q);by_cases qe:r=elder
    ·rw[qe];exact le
    ·exact .up (p1 r q qe) le
   ·exact(aB r (l.more keep<|.root<|(p2 r λz=>q z.1).trans l.end_)<|L3 x r lx f q)
end
end Gr
namespace Srt
theorem mid(h:l<r)(h3:r-l<=f+1):l<=(l+r)/2/\(l+r)/2<r/\(l+r)/2-l<=f/\r-((l+r)/2+1)<=f:=by
 have a:l<=(l+r)/2:=(Nat.le_div_iff_mul_le (by decide)).mpr (by rw[Nat.mul_two];exact E9 (ci h) l);have b:(l+r)/2<r:=(Nat.div_lt_iff_lt_mul (by decide)).mpr (by rw[Nat.mul_two];exact Nat.add_lt_add_right h r);have c:r-(l+1)<=f:=by rw[Nat.sub_add_eq];exact Nat.sub_le_of_le_add h3
 refine⟨a,b,aR (Nat.sub_le_sub_right (Nat.le_sub_one_of_lt b) l) ?_,aR (Nat.sub_le_sub_left (K6 a) r) c⟩;rw[Nat.sub_sub,Nat.add_comm];exact c
open PySem PySem.W PyProof.Rows
structure Lin(c:Zq)(n:Nat):Prop where
 irr:∀i,i<n->c i i=false
 tr:∀i j k,i<n->j<n->k<n->c i j=true->c j k=true->c i k=true
 tot:∀i j,i<n->j<n->i≠j->c i j=false->c j i=true
structure Arr(n:Nat)(p:Zn):Prop where
 sz:p.size=n
 pm:p.toList.Perm (X5 n)
abbrev at'(p:Zn)(i:Nat):Nat:=p.getD i 0
def Up(c:Zq)(p:Zn)(k:Nat):Prop:=∀i j,i<j->j<k->c (at' p i) (at' p j)=true
section
variable {c:Zq}{n:Nat}(L:Lin c n)
include L
end
end Srt
namespace L2
open PySem PySem.Spec PyProof.Rows
theorem vg{env:Env}:∀(names:List (Str×J0)) (cs:Zw),(∀y∈names,y.2=.free->∃c,env.cells.lookup y.1=some c) ->
  ∃cl,(forIn names cs λ(x:Str×J0) (r:Zw)=>(match x with
   |(name,kind)=>if (kind==D4)=true then do let a <- cellOf env name;pure (ForInStep.yield ((name,a) ::r)) else pure (ForInStep.yield r):Sem (ForInStep<|List<|Str×Addr)))=pure cl /\
   (∀p∈cl,p∈cs\/env.cells.lookup p.1=some p.2)/\(∀p∈cs,p∈cl)/\∀y∈names,y.2=.free->∃c,(y.1,c)∈cl:=by
 intro names;induction names with
 |nil=>exact λcs b=>(jc cs rfl (λp h=>.inl h) (λp h=>h) λy h=>nomatch h)
 |cons x r ih =>
  intro cs h;cases x with|mk n k=>?_;by_cases hk:k=.free
  ·obtain⟨c,hc⟩:=h (n,k) U0 hk;obtain⟨cl,e,h1,h2,h3⟩:=ih ((n,c) ::cs) λy hy=>h y<|W7 _ hy;refine(jc cl ?_ (λp hp=>?_) (λp hp=>h2 p<|W7 _ hp) λy hy hf=>?_)
   ·rw[List.forIn_cons];have e1:cellOf env n=pure c:=by unfold cellOf;rw[hc]
    simp only[hk,beq_self_eq_true,if_true,e1,pure_bind];exact e
   ·exact(h1 p hp).elim (λz=>(Y4.mp z).elim (λz=>.inr<|z▸hc) .inl) .inr
   ·exact(Y4.mp hy).elim (λz=>⟨c,z▸h2 _ U0⟩) λz=>h3 y z hf
  ·obtain⟨cl,e,h1,h2,h3⟩:=ih cs λy hy=>h y<|W7 _ hy;refine(jc cl ?_ h1 h2 λy hy hf=>?_)
   ·have hb:(k==D4)=false:=by simpa using hk
    rw[List.forIn_cons];simp only[hb,Q6,if_false,pure_bind];exact e
   ·exact(Y4.mp hy).elim (λz=>absurd ((congrArg Prod.snd z).symm.trans hf) hk) λz=>h3 y z hf
theorem p9{β:Type}{c:β}:∀{l:List (Str×β)},(x,c)∈l->∃d,l.lookup x=some d:=by
 intro l;induction l with
 |nil=>exact λh=>nomatch h
 |cons y r ih =>
  intro h;rw[D6];cases hb:x==y.1 with
  |true=>exact⟨y.2,rfl⟩
  |false=>exact(Y4.mp h).elim (λz=>absurd hb (by rw[<- z];simp)) ih
theorem jr(h:∀y∈scope.names,y.2=.free->∃c,env.cells.lookup y.1=some c):
  ∃cl,closureFor scope env=pure cl/\(∀x c,cl.lookup x=some c->env.cells.lookup x=some c)/\∀y∈scope.names,y.2=.free->∃c,cl.lookup y.1=some c:=by
 obtain⟨cl,e,h1,_,h3⟩:=vg (env:=env) scope.names [] h;refine(cZ cl ?_ (λx c hx=>?_) λy hy hf=>?_)
 ·unfold closureFor;show (forIn scope.names [] _ >>= λcs=>pure cs)=pure cl;refine Eq.trans (congrArg (λm=>m >>= λcs=>pure cs) e) ?_;rw[pure_bind]
 ·rcases h1 _ (P0 hx) with z|z
  ·exact nomatch z
  ·exact z
 ·obtain⟨c,hc⟩:=h3 y hy hf;exact p9 hc
theorem jd{env:Env}:∀{names:List (Str×J0)} {x:Str},names.lookup x=some .free->∃k,
  (names.map λ(n,k)=>if (k==D4&&env.scope.kind==.function&&env.kindOf n==some .cell) then (n,J0.cell) else (n,k)).lookup x=some k/\(k=.cell\/k=.free):=by
 intro names x;induction names with
 |nil=>exact λh=>nomatch h
 |cons y r ih =>
  intro h;cases y with|mk n k=>?_;show ∃k',J6 x ((if (k==D4&&env.scope.kind==.function&&env.kindOf n==some .cell)=true then (n,J0.cell) else (n,k)) ::_)=some k'/\_;cases hx:x==n with
  |true =>
   simp only[D6,hx]at h;cases h;by_cases hc:(D4==D4&&env.scope.kind==.function&&env.kindOf n==some .cell)=true
   ·exact(aB .cell (by rw[if_pos hc];simp[D6,hx])<|.inl rfl)
   ·exact(aB .free (by rw[if_neg hc];simp[D6,hx])<|.inr rfl)
  |false =>
   simp only[D6,hx]at h;obtain⟨k',e,hk⟩:=ih h;refine(aB k' ?_ hk);by_cases hc:(k==D4&&env.scope.kind==.function&&env.kindOf n==some .cell)=true
   ·rw[if_pos hc];simp only[D6,hx];exact e
   ·rw[if_neg hc];simp only[D6,hx];exact e
section
variable {prog:U7}{w:World}{A:Around}{R:Result->Shared->Prop}{s:Shared}
theorem qP{elt target iter:Expr}{ifs:List Expr}{scope:Scope}{pos:Pos}{it acc:Value}{env:Env}(I:Nat->Shared->Prop)(turn:∀n s,I n s->wpAny (model prog w) A (pyNext it) (λr s₁=>match r with
   |none=>R (.ok .next) s₁
   |some v=>wpAny (model prog w) A (letOwnedTupleGo target it v) (λa s'=>wpAny (model prog w) A (assign target env v) (λa s₂ =>
     wpAny (model prog w) A (forIn ifs true λc r=>if r=true then do let ok <- isTrue c env (eval c env);pure (ForInStep.yield ok) else pure (ForInStep.yield r)) (λok s₃ =>
      if ok=true then wpAny (model prog w) A (eval elt env) (λx s₄ =>
       wpAny (model prog w) A (call (.builtin "list.append") [acc,x]) (λa s₅=>∃m,m<n/\I m s₅) (λa a=>False) s₄) (λa a=>False) s₃
      else ∃m,m<n/\I m s₃) (λa a=>False) s₂) (λa a=>False) s') (λa a=>False) s₁) (λa a=>False) s)(n:Nat)(h:I n s):codeAny (model prog w) A (.compLoop (.ListComp elt [⟨target,iter,ifs,0⟩] scope pos) 0 it acc env) R s:=by
 refine codeAny_loop rfl I (λn s hI=>?_) n h;show wpAny _ A ((compTurn (.ListComp elt [⟨target,iter,ifs,0⟩] scope pos) 0 it acc env).onRaise (λx=>do noteFrame x env;theTreesLotGoes x)) _ _ s;refine wpAny_noted ?_;rw[compTurn_list];refine Z0<|wpAny_standAt<|Z0 (R8 (turn n s hI) (λr s₁ h₁=>?_) λa a z=>z.elim);cases r with
 |none=>exact Z6 h₁
 |some v =>
  refine Z0 (R8 h₁ (λa s' h'=>?_) λa a z=>z.elim);refine Z0 (R8 h' (λa s₂ h₂=>Z0 (R8 h₂ (λok s₃ h₃=>?_) λa a z=>z.elim)) λa a z=>z.elim);cases ok with
  |false=>exact Z6 ⟨rfl,h₃⟩
  |true =>exact Z0<|Z0 (R8 h₃ (λx s₄ h₄=>Z0 (R8 h₄ (λa s₅ h₅=>Z6<|Z6 ⟨rfl,h₅⟩) λa a z=>z.elim)) λa a z=>z.elim)
end
def dJ(X:Cx)(N':ZJ)(scope:Scope)(cl:Zw)(fp:Zz)(s3:Shared)(H3:Hp):Cx where
 prog:=X.prog
 w:=X.w
 K:=X.K
 mg:=X.mg
 base:=X.base
 A:=X.A
 N:=N'
 s₀:=s3
 H₀:=H3
 env:=compEnvC scope cl s3.heap.objs.size X.env
 outer:=X.stack
 stack:=X.stack
 ex:=fp
 calm:=X.calm
 fn:=λx=>false
 pn:=[]
 xe:=λx x=>False
def tm(X:Cx)(scope:Scope):List (Str×Nat)->Prop
 |[]=>True
 |p ::r=>(X.N[p.2]?=some p.1/\scope.names.lookup p.1=some .free/\(X.env.kindOf p.1=some .cell\/X.env.kindOf p.1=some .free))/\tm X scope r
theorem tm.get:∀{cap:ZH},tm X scope cap->∀p∈cap,X.N[p.2]?=some p.1/\scope.names.lookup p.1=some .free/\(X.env.kindOf p.1=some .cell\/X.env.kindOf p.1=some .free):=by
 intro cap;induction cap with
 |nil=>exact λx p h=>nomatch h
 |cons y r ih=>exact λz p h=>(Y4.mp h).elim (λe=>e▸z.1) (ih z.2 p)
def pc(loc:ZJ)(cap:ZH)(σ:St):St:=loc.map (λx=>none)++cap.map λp=>(σ[p.2]?).join
theorem st0_len:(pc loc cap σ).length=(loc++cap.map (·.1)).length:=by unfold pc;simp
theorem st0_get{i:Nat}(h:(pc loc cap σ)[i]?=some (some v)):∃p,p∈cap/\(loc++cap.map (·.1))[i]?=some p.1/\σ[p.2]?=some (some v):=by
 unfold pc at h;by_cases hi:i<loc.length
 ·rw[X9 (by simpa using hi),X2]at h;cases e:loc[i]? with
  |none=>rw[e]at h;cases h
  |some a=>rw[e]at h;cases h
 ·rw[Y7 (by simpa using hi),X2,Z8]at h;cases e:cap[i-loc.length]? with
  |none=>rw[e]at h;cases h
  |some p =>
   rw[e]at h;have h':(σ[p.2]?).join=some v:=Z5 h;refine(cZ p (V3 e) ?_ ?_)
   ·rw[Y7 (by exact T5.mp hi),X2,e];rfl
   ·cases e2:σ[p.2]? with
    |none=>rw[e2]at h';cases h'
    |some o=>rw[e2]at h';exact congrArg some h'
def Wk:St->St->Prop
 |[],[]=>True
 |none ::r,_ ::t=>Wk r t
 |some v ::r,o ::t=>o=some v/\Wk r t
 |_,_=>False
theorem Wk.len:∀{a b:St},Wk a b->a.length=b.length:=by
 intro a;induction a with
 |nil=>intro b h;cases b with|nil=>rfl|cons=>exact L6 h
 |cons o r ih =>
  intro b h;cases b with
  |nil=>cases o<;>exact L6 h
  |cons o' t=>cases o with|none=>exact congrArg Nat.succ (ih (b:=t) h)|some v=>exact congrArg Nat.succ<|ih (b:=t) h.2
theorem Wk.get:∀{a b:St},Wk a b->∀(i:Nat) (v:V),a[i]?=some (some v)->b[i]?=some (some v):=by
 intro a;induction a with
 |nil=>exact λc i v e=>nomatch e
 |cons o r ih =>
  intro b h i v e;cases b with
  |nil=>cases o<;>exact L6 h
  |cons o' t =>
   cases i with
   |zero=>cases o with|none=>exact nomatch e|some x=>exact(congrArg some h.1).trans e
   |succ i=>cases o with|none=>exact ih (b:=t) h i v e|some x=>exact ih (b:=t) h.2 i v e
def freeOk(ns ms:List (Str×J0)):Bool:=ns.all λy=>match y.2 with
 |.free=>match ms.lookup y.1 with
  |some .cell=>true
  |some .free=>true
  |_=>false
 |_=>true
theorem ni(h:freeOk ns ms=true):∀y∈ns,y.2=.free->ms.lookup y.1=some .cell\/ms.lookup y.1=some .free:=by
 intro y hy hf;have q:=List.all_eq_true.mp h y hy;rw[hf]at q;cases e:ms.lookup y.1 with
 |none=>rw[e]at q;cases q
 |some k =>rw[e]at q;cases k<;>first|exact .inl rfl|exact .inr rfl|cases q
structure CompScope(X:Cx)(loc:ZJ)(cap:ZH)(scope:Scope):Prop where
 kind:scope.kind=.function
 nocell:∀y∈scope.names,y.2≠.cell
 names:∀y∈scope.names,y.2=.local->scope.names.lookup y.1=some .local
 free0:freeOk scope.names X.env.scope.names=true
 cap:tm X scope cap
 xkind:X.env.scope.kind=.function
theorem CompScope.free{cap:ZH}(S:CompScope X loc cap scope):∀y∈scope.names,y.2=.free->X.env.kindOf y.1=some .cell\/X.env.kindOf y.1=some .free:=ni S.free0
section
variable {X:Cx}{ZY:ZO}{σ:St}{H:Hp}{s:Shared}{loc:ZJ}{cap:ZH}{scope:Scope}{cl:Zw}{fp:Zz}
theorem Ar(S:CompScope X loc cap scope)(I:Inv X ZY σ H s)(hcl:∀x c,cl.lookup x=some c->X.env.cells.lookup x=some c)(hcl2:∀y∈scope.names,y.2=.free->∃c,cl.lookup y.1=some c)(hf:∀b∈fp,jK X ZY H b)(hlt:∀b∈fp,b<s.heap.objs.size)(hns:h1.Ns s.heap.objs.size λa=>none)(hk:∀b o,s.heap.get? b=some o->h1.get? b=some o):
  Inv (dJ X (loc++cap.map (·.1)) scope cl fp s H) [] (pc loc cap σ) H {s with heap:=h1}:=by
 have fromK:∀x,(relabel scope X.env).names.lookup x=some .cell\/(relabel scope X.env).names.lookup x=some .free->∃y∈scope.names,y.2=.free/\y.1=x:=by
  intro x hx;have:∃k,(relabel scope X.env).names.lookup x=some k/\(k=.cell\/k=.free):=by
   rcases hx with z|z
   ·exact(aB _ z<|.inl rfl)
   ·exact(aB _ z<|.inr rfl)
  obtain⟨k,e,hk⟩:=this;have hm:=P0 e;obtain⟨y,hy,e2⟩:=W6.mp hm;obtain⟨n,k'⟩:=y;have e3:(if (k'==D4&&X.env.scope.kind==.function&&X.env.kindOf n==some .cell)=true then (n,J0.cell) else (n,k'))=(x,k):=e2;by_cases hc:(k'==D4&&X.env.scope.kind==.function&&X.env.kindOf n==some .cell)=true
  ·rw[if_pos hc]at e3;injection e3 with e4 _;simp only[K5]at hc;exact(cZ (n,k') hy (by simpa using hc.1.1) e4)
  ·rw[if_neg hc]at e3;injection e3 with e4 e5;rcases hk with z|z
   ·rw[z]at e5;exact absurd e5<|S.nocell _ hy
   ·rw[z]at e5;exact(cZ (n,k') hy e5 e4)
 refine⟨⟨I.ok.mod,S.kind,I.ok.glob,I.ok.blt,bi _,λx y c h1 h2=>I.ok.inj x y c (hcl x c h1)<|hcl y c h2,λx hx=>?_,λx c h a=>absurd h (by show ¬ (false=true);decide),I.ok.hd,I.ok.frames,.inl rfl,λb hb=>⟨dB<|hlt b hb,λx c e=>(hf b hb).2.2.2.2.1 x c (hcl x c e)⟩,I.bs,
   aR I.ok.bsz I.sz,λb o e z=>?_,λb hb z=>?_,I.stack,I.stkFree⟩,
  rfl,I.bare,Un.kept hk,(aB _ hns λi x v h1 h2 h3=>?_),λx c e=>?_,I.hok.fresh<|bi _,λx c e=>I.freeC x c<|hcl x c e,λp hp=>absurd (show p∈([]:List (Addr×Obj)) from hp) (by simp),I.hok.kept hk,st0_len⟩
 ·obtain⟨y,hy,hfr,rfl⟩:=fromK x hx;exact hcl2 y hy hfr
 ·
  have hb:=hf b z;rcases hb.2.2.2.1 with q|q
  ·exact I.ok.noex b o e q
  ·exact absurd (cf (Y8 e)<|aR I.ok.bsz q)<|O7 _
 ·have z':=I.stkSub b z;rcases Y4.mp z' with q|q
  ·exact(hf b hb).2.1 q
  ·exact(hf b hb).2.2.1 q
 ·obtain⟨p,hp,e1,e2⟩:=st0_get h2;have e3:x=p.1:=Z5<|h1.symm.trans e1;subst e3;obtain⟨c1,c2,c3⟩:=S.cap.get p hp;obtain⟨m,_,hl⟩:=I.loc;have vis:Vis X.env.scope p.1:=by
   rcases c3 with k|k
   ·exact .inr<|.inl k
   ·exact .inr<|.inr k
  obtain⟨u,r,l⟩:=hl p.2 p.1 v c1 e2 vis;refine(aB u r<|.inr ⟨?_,?_⟩)
  ·obtain⟨k,e,hk⟩:=jd (env:=X.env) c2;rcases hk with z|z
   ·subst z;exact .inl e
   ·subst z;exact .inr e
  ·rcases l with zr2_|zr1_
   ·obtain⟨k,_⟩:=zr2_;rcases c3 with z|z
    ·rw[k]at z;cases z
    ·rw[k]at z;cases z
   ·obtain⟨_,c,e,hc⟩:=zr1_;obtain⟨c',hc'⟩:=hcl2 (p.1,.free) (P0 c2) rfl;have:c'=c:=Z5<|(hcl _ _ hc').symm.trans e;subst this;obtain⟨o,ho,hd⟩:=hc;exact⟨c',hc',o,hk _ o ho,hd⟩
 ·obtain⟨v,o,ho,hd⟩:=I.cell x c<|hcl x c e;exact⟨v,o,hk _ o ho,hd⟩
end
def As(g:TG)(tt:TT)(te:TE)(loc:ZJ)(cap:ZH)(σ:St)(D:Addr)(ys:List V)(N:List V->Hp->Prop)(x:V)(H':Hp):Prop :=
 g x (pc loc cap σ) H' λσ3 H3=>Wk (pc loc cap σ) σ3/\tt σ3 H3 λb H4=>if b=true then te σ3 H4 λv H5=>H5 D=some (.lst ys)/\ys.length<W3/\N (ys++[v]) (aD H5 D<|.lst<|ys++[v]) else N ys H4
def wV(g:TG)(tt:TT)(te:TE)(loc:ZJ)(cap:ZH)(σ:St)(D:Addr)(Q:VK)(J:It)(H1:Hp):Prop :=
 ∃W:Nat->Nat->List V->Hp->Prop,(∃m,W 0 m [] (aD H1 D<|.lst []))/\∀i m ys H2,W i m ys H2->H2 D=some (.lst ys) /\
  ((J.stop i H2/\Q (.ref D) H2)\/(J.go i H2/\∃N:List V->Hp->Prop,(∀ys' H',N ys' H'->∃m',m'<m/\W (i+1) m' ys' H')/\∀x H',J.yld i H2 x H'->As g tt te loc cap σ D ys N x H'))
def wW(wi:TI)(loc:ZJ)(cap:ZH)(g:TG)(tt:TT)(te:TE):TE:=λσ H Q=>wi σ H λJ H1=>∀D,H1 D=none->wV g tt te loc cap σ D Q J H1
def Au:TT:=λx H Q=>Q true H
def vh(X:Cx)(ifs:List Expr)(t:TT):Prop :=
 ∀(ZY:ZO) (s:Shared) (σ:St) (H:Hp) (Q:Bool->Hp->Prop),Inv X ZY σ H s->t σ H Q ->
  wpAny (model X.prog X.w) X.A (forIn ifs true λc r=>if r=true then do let ok <- isTrue c X.env (eval c X.env);pure (ForInStep.yield ok) else pure (ForInStep.yield r)) (TP X ZY σ Q) X.xe s
theorem bQ:vh X [] Au:=λx x x H x I h=>wpAny_tests_nil ⟨H,I,h⟩
theorem gL(hc:PT X c t):vh X [c] t:=λZY s σ H Q I h=>wpAny_tests_one<|hc ZY s σ H Q I h
section
variable {X:Cx}{tg iter elt:Expr}{ifs:List Expr}{scope:Scope}{loc:ZJ}{cap:ZH}{pos:Pos}{wi:TI}{g:TG}{tt:TT}{te:TE}
theorem yF{tn:Nat->Heap->Prop}{RR:Result->Shared->Prop}{W:Nat->Nat->List V->Hp->Prop}{Q:VK}(hc:Y.calm=true)(hx:Y.xe=λa a=>False)(hg:PG Y tg g)(ht:vh Y ifs tt)(he:PE Y elt te)(T:Turn Y.prog Y.w Y.K tg J fp it tn)(st4:tn 0 s4.heap)(I4:Inv Y [] (pc loc cap σ) H3 s4)(f3:∀b∈fp,H3 b=none)(w0:W 0 m0 [] H3)(fpC:∀{H':Hp},(∀b∈fp,H' b=none)->∀b∈fp,jK Y [] H' b)(turn:∀i m ys H2,W i m ys H2->H2 D=some (.lst ys)/\((J.stop i H2/\Q (.ref D) H2)\/(J.go i H2/\∃N:List V->Hp->Prop,(∀ys' H',N ys' H'->∃m',m'<m/\W (i+1) m' ys' H')/\∀x H',J.yld i H2 x H'->As g tt te loc cap σ D ys N x H')))(fin:∀{H':Hp} {s':Shared},Inv Y [] (pc loc cap σ) H' s'->Q (.ref D) H'->RR (.ok .next) s'):
  codeAny (model Y.prog Y.w) Y.A (.compLoop (.ListComp elt [⟨tg,iter,ifs,0⟩] scope pos) 0 (.ref it) (.ref D) Y.env) RR s4:=by
 unfold PG at hg;unfold vh at ht;unfold PE at he;rw[hx]at hg ht he;have ma:=dD (X:=Y);unfold MtM at ma;rw[hx]at ma;refine qP (λn s'=>∃i ys H',Inv Y [] (pc loc cap σ) H' s'/\tn i s'.heap/\(∀b∈fp,H' b=none)/\W i n ys H') ?_ m0 ⟨0,[],H3,I4,st4,f3,w0⟩;rintro n s5 ⟨i,ys,H5,I5,st5,fr5,w5⟩;obtain⟨hd5,alt⟩:=turn i n ys H5 w5;rcases alt with zr4_|zr3_
 ·obtain⟨stop,q⟩:=zr4_;refine bu (T.done Y rfl rfl rfl hc i [] s5 _ H5 (λa a=>False) I5 (fpC fr5) st5 stop) λr s6 ⟨hr,I6⟩=>?_;subst hr;exact fin I6 q
 ·obtain⟨go,N,hN,step⟩:=zr3_;refine bu (T.item Y rfl rfl rfl hc i [] s5 _ H5 (λa a=>False) I5 (fpC fr5) st5 go) λr s6 ⟨u,hr,h6⟩=>?_;subst hr;refine bu h6 λ_ s7 ⟨x,H7,I7,r7,y7,st7,fr7⟩=>?_;have I7':=I7.pinned (fpC fr7)<|T.obj _ _ st7;refine bu (hg _ s7 _ H7 x u _ I7' r7<|step x H7 y7) λ_ s8 ⟨σ8,H8,I8,q8⟩=>?_;obtain⟨wk,q8⟩:=q8;have again:∀{H9:Hp} {s9:Shared} {zs:List V},Inv Y ([]++mU fp s7.heap) σ8 H9 s9->N zs H9->∃m,m<n/\∃i ys H',Inv Y [] (pc loc cap σ) H' s9/\tn i s9.heap/\(∀b∈fp,H' b=none)/\W i m ys H':=λ{H9 s9 zs} I9 n9=>by obtain⟨m',hm,w9⟩:=hN zs H9 n9;refine⟨m',hm,i+1,zs,H9,(I9.weak wk.len wk.get).unpinned,T.keep _ _ _ st7 λb hb o e=>(I9.pin (b,o)<|X1 _<|X1 _<|hW hb e).1,λb hb=>?_,w9⟩;obtain⟨o,e,d⟩:=T.obj _ _ st7 b hb;exact(I9.pin (b,o)<|X1 _<|X1 _<|hW hb e).2.1
  refine bu (ht _ s8 σ8 H8 _ I8 q8) λok s9 ⟨H9,I9,q9⟩=>?_;cases ok with
  |false =>rw[if_neg Y3]at q9 ⊢;exact again I9 q9
  |true =>rw[if_pos rfl]at q9 ⊢;refine bu (he _ s9 σ8 H9 _ I9 q9) λu' s10 ⟨v,H10,I10,r10,hD10,hl10,n10⟩=>?_;refine bu (ma _ s10 σ8 H10 (.ref D) [v] (.ref D) [u'] (λa H11=>N (ys++[v]) H11) I10 rfl (.cons r10 .nil) ⟨_,ys,v,rfl,rfl,hD10,hl10,n10⟩) λ_ s11 ⟨_,H11,I11,_,n11⟩=>?_;exact again I11 n11
theorem nn{σ:St}{tn:Nat->Heap->Prop}{E:ZX}{RR:Value->Addr->Result->Shared->Prop}(hc:X.calm=true)(S:CompScope X loc cap scope)(hg:∀cl fp s3 H3,PG (dJ X (loc++cap.map (·.1)) scope cl fp s3 H3) tg g)(ht:∀cl fp s3 H3,vh (dJ X (loc++cap.map (·.1)) scope cl fp s3 H3) ifs tt)(he:∀cl fp s3 H3,PE (dJ X (loc++cap.map (·.1)) scope cl fp s3 H3) elt te)(hcl:∀x c,cl.lookup x=some c->X.env.cells.lookup x=some c)(hcl2:∀y∈scope.names,y.2=.free->∃c,cl.lookup y.1=some c)(I:Inv X ZY σ H s)(T:Turn X.prog X.w X.K tg J fp it tn)(st:tn 0 s.heap)(hf:∀b∈fp,jK X ZY H b)(h:∀D,H D=none->wV g tt te loc cap σ D Q J H)(hRR:∀D C s' H' m,Inv X ZY σ H' s'->jK X ZY H' C->s'.heap.Ns C m->Q (.ref D) H'->RR (.ref D) C (.ok .next) s'):
  wpAny (model X.prog X.w) X.A (newList []) (λacc s₃=>wpAny (model X.prog X.w) X.A (newFunctionEnv scope X.env.globals cl [] X.env.qual none .none<|some X.env) (λcenv s₄ =>
   codeAny (model X.prog X.w) X.A (.compStart (.ListComp elt [⟨tg,iter,ifs,0⟩] scope pos) 0 (.ref it) acc {cenv with scope:=relabel scope X.env}) (RR acc cenv.locals) s₄) E s₃) E s:=by
 have hlt:∀b∈fp,b<s.heap.objs.size:=λb hb=>aU (T.obj 0 _ st b hb) λo e a=>Y8 e;have hD:H s.heap.objs.size=none:=I.hok.fresh<|bi _;obtain⟨W,⟨m0,w0⟩,turn⟩:=h _ hD;refine O9<|wpAny_newFunctionEnv S.nocell (by intro y hy;simp at hy) (λh₁ hns₁ hsb₁=>?_) S.kind;have hD2:({cls:=.type "list",dict:=none,data:=.seq ([]:List Value).toArray}:Obj)={cls:=.type "list",data:=.seq ([]:List Value).toArray 0}:=rfl;have I3:Inv X ZY σ (aD H s.heap.objs.size<|.lst []) {s with heap:=s.heap.push {cls:=.type "list",dict:=none,data:=.seq ([]:List Value).toArray}} :=
  I.laid (t':=s.toks) (λb o e=>Z4 _ e) (bi _) ⟨U5 _,[],0,.nil,X0 _ rfl⟩
 generalize hS3:({s with heap:=s.heap.push {cls:=.type "list",dict:=none,data:=.seq ([]:List Value).toArray}}:Shared)=s3 at I3 hns₁ hsb₁ ⊢;generalize hH3:aD H s.heap.objs.size (.lst [])=H3 at I3 w0;have sz3:s3.heap.objs.size=s.heap.objs.size+1:=by rw[<- hS3];exact K9 ..
 have fp3:∀b∈fp,jK X ZY H3 b:=λb hb=>by obtain⟨f0,fr⟩:=hf b hb;refine⟨?_,fr⟩;rw[<- hH3,ak (dB<|hlt b hb)];exact f0
 have ltq3:∀b∈fp,b<s3.heap.objs.size:=λb hb=>by rw[sz3];exact R4<|hlt b hb
 have k1:∀b o,s3.heap.get? b=some o->h₁.get? b=some o:=λb o e=>hsb₁.extBut b o (dB<|Y8 e)<|Z4 _ e;have I4:Inv (dJ X (loc++cap.map (·.1)) scope cl fp s3 H3) [] (pc loc cap σ) H3 {s3 with heap:=h₁}:=Ar S I3 hcl hcl2 fp3 ltq3 (by simpa using hns₁) k1;have st4:tn 0 h₁:=T.keep 0 _ _ st λb hb o e=>k1 b o (by rw[<- hS3];exact Z4 _ e);have fpC:∀{H':Hp},(∀b∈fp,H' b=none)->∀b∈fp,jK (dJ X (loc++cap.map (·.1)) scope cl fp s3 H3) [] H' b:=λ{H'} hn b hb =>
  ⟨hn b hb,dB<|ltq3 b hb,λz=>(I4.ok.exfs b hb z),.inl hb,λx c e=>(hf b hb).2.2.2.2.1 x c (hcl x c e),λp hp=>absurd (show p∈([]:List (Addr×Obj)) from hp) (by simp)⟩
 have toks0:({s3 with heap:=h₁,toks:=s3.toks+([]:List (Str×Value)).length}:Shared)={s3 with heap:=h₁}:=rfl;rw[toks0];have fin:∀{H':Hp} {s':Shared} {σ':St},Inv (dJ X (loc++cap.map (·.1)) scope cl fp s3 H3) [] σ' H' s'->Inv X ZY σ H' s':=λ{H' s' σ'} J' =>
  I3.call' J'.os J'.base J'.hok J'.bare λb hb=>by obtain⟨_,f1,f2,f3,f4,f5⟩:=hf b hb;exact(qE f3 f1 f4 f5)
 have loop:codeAny (model X.prog X.w) X.A (.compLoop (.ListComp elt [⟨tg,iter,ifs,0⟩] scope pos) 0 (.ref it) (.ref s.heap.objs.size)<|compEnvC scope cl s3.heap.objs.size X.env) (RR (.ref s.heap.objs.size) s3.heap.objs.size) {s3 with heap:=h₁} :=
  yF (Y:=dJ X (loc++cap.map (·.1)) scope cl fp s3 H3) hc rfl (hg cl fp s3 H3) (ht cl fp s3 H3) (he cl fp s3 H3) T st4 I4 (λb hb=>(fp3 b hb).1) w0 fpC turn λI6 q=>aU I6.loc λm hn a=>hRR _ _ _ _ m (fin I6) (I3.fpOk (bi _) I6.free) hn q
 exact codeAny_compStart_list loop<|T.self _ 0 _ _ _ st4 loop
theorem bR(hc:X.calm=true)(S:CompScope X loc cap scope)(hi:PI X tg iter wi)(hg:∀cl fp s3 H3,PG (dJ X (loc++cap.map (·.1)) scope cl fp s3 H3) tg g)(ht:∀cl fp s3 H3,vh (dJ X (loc++cap.map (·.1)) scope cl fp s3 H3) ifs tt)(he:∀cl fp s3 H3,PE (dJ X (loc++cap.map (·.1)) scope cl fp s3 H3) elt te)(hs:autoParam (∀x,foldedSetIterable iter X.env x=pure x) L2.a1q._auto_1):
  PE X (.ListComp elt [⟨tg,iter,ifs,0⟩] scope pos) (wW wi loc cap g tt te):=by
 intro ZY s σ H Q I h;obtain⟨cl,hcl0,hcl,hcl2⟩:=jr (scope:=scope) (env:=X.env) λy hy hf=>I.ok.has y.1<|S.free y hy hf;rw[eval_ListComp];refine wpAny_comprehension_free (use:=none) rfl hs hcl0 S.kind S.names (bu (hi ZY s σ H _ I h) λv s1 h1=>bu h1 λitv s2 h2=>?_);obtain⟨it,fp,tn,J,H2,rfl,I2,T,st2,f2,R⟩:=h2;refine nn (RR:=λacc C=>compPost (model X.prog X.w) X.A X.xe none (EP X ZY σ Q) acc C) hc S hg ht he hcl hcl2 I2 T st2 f2 R ?_;intro D C s' H' m I' fC hn q;exact⟨m,hn,λh'' hs''=>⟨.ref D,H',I'.turned (t':=s'.toks) (λb o hb e=>(hs''.2 b hb).trans e) fC.1 fC.2.1 fC.2.2.2.1 fC.2.2.2.2.1 fC.2.2.2.2.2,rfl,q⟩⟩
theorem js{i:Nat}{x:Str}{pos' spos:Pos}(hc:X.calm=true)(S:CompScope X loc cap scope)(hN:X.N.Nodup)(hi':X.N[i]?=some x)(hx:Loc X.env.scope x)(hi:PI X tg iter wi)(hg:∀cl fp s3 H3,PG (dJ X (loc++cap.map (·.1)) scope cl fp s3 H3) tg g)(ht:∀cl fp s3 H3,vh (dJ X (loc++cap.map (·.1)) scope cl fp s3 H3) ifs tt)(he:∀cl fp s3 H3,PE (dJ X (loc++cap.map (·.1)) scope cl fp s3 H3) elt te)(hsw:autoParam (swapsWith (.ListComp elt [⟨tg,iter,ifs,0⟩] scope pos) (some<|.Name x pos') spos.line X.env=pure true) L2.cY._auto_1)(hf:X.fn x=true\/X.env.scope.names.lookup x=some .local:=by first|exact .inl rfl|exact .inr rfl|assumption)(hs:autoParam (∀x,foldedSetIterable iter X.env x=pure x) L2.a1q._auto_1):
  PS X (.Assign [.Name x pos'] (.ListComp elt [⟨tg,iter,ifs,0⟩] scope pos) spos) (jJ (wW wi loc cap g tt te)<|db i):=by
 intro ZY s σ H D I h;obtain⟨cl,hcl0,hcl,hcl2⟩:=jr (scope:=scope) (env:=X.env) λy hy hf=>I.ok.has y.1<|S.free y hy hf;rw[exec_Assign_Name_used _ _ _ _ hsw];refine Z0<|wpAny_standAt<|Z0 ?_;show wpAny _ X.A (do let _ <- comprehension (.ListComp elt [⟨tg,iter,ifs,0⟩] scope pos) scope X.env _ (newList []) false (eval iter X.env) (some<|assign (.Name x pos') X.env)) _ _ s;refine Z0 (bu (wpAny_comprehension_free (use:=some<|assign (.Name x pos') X.env) (Q:=λc s'=>SP X ZY D .next s') rfl hs hcl0 S.kind S.names
  (bu (hi ZY s σ H _ I h) λv s1 h1=>bu h1 λitv s2 h2=>?_)) λc s' hq=>Z6<|Z6 hq)
 obtain⟨it,fp,tn,J,H2,rfl,I2,T,st2,f2,R⟩:=h2;refine nn (RR:=λacc C=>compPost (model X.prog X.w) X.A X.xe (some<|assign (.Name x pos') X.env) (λc s'=>SP X ZY D .next s') acc C) hc S hg ht he hcl hcl2 I2 T st2 f2 R ?_;intro D' C s' H' m I' fC hn q;show wpAny _ X.A (assign (.Name x pos') X.env<|.ref D') _ _ s';refine wpAny_assign_Name<|pR I' hN hi' hx (v:=.ref D') rfl (λs'' I'' ⟨a,hsb,ha⟩=>?_) hf;have hCa:C≠a:=by
  rcases ha with z|z
  ·rw[z];exact fC.2.1
  ·exact R6<|fC.2.2.2.2.1 x a z
 refine(aB m (hn.sameBut hsb hCa) λh'' hs''=>⟨_,H',I''.turned (t':=s''.toks) (λb o hb e=>(hs''.2 b hb).trans e) fC.1 fC.2.1 fC.2.2.2.1 fC.2.2.2.2.1 fC.2.2.2.2.2,q⟩)
end
end L2
namespace L2
open PySem PySem.Spec PyProof.Rows
section
variable {X:Cx}{ZY:ZO}{σ:St}{H:Hp}{s:Shared}{h':Heap}
theorem Inv.turnedL{ch:Zz}(I:Inv X ZY σ H s)(hch:∀b∈ch,jK X ZY H b)(k:∀b u,b∉ch->s.heap.get? b=some u->h'.get? b=some u):Inv X ZY σ H {s with heap:=h',toks:=t'}:=by
 have nch:∀b u,H b=some u->b∉ch:=λb u e z=>by rw[(hch b z).1]at e;cases e
 refine I.step (g':=s.gens) (d':=s.drawn) (ch:=ch) (λb hb=>?_) (λb u x x hc e x=>k b u hc e) (λb u x x hc e x=>⟨u.slots,k b u hc e⟩)
  (λb u x x n=>n) (λb u hc e=>⟨u,k b u hc e⟩) (λb xs e=>e) (λb u xs e=>e) (λb ps e=>⟨#[],by rw[e];simp⟩) (λm hm=>?_) (λb u e=>?_) I.bare
 ·have f:=hch b hb;exact(qE f.2.2.2.1 f.2.1 f.2.2.2.2.1 f.2.2.2.2.2)
 ·obtain⟨o,es,ep,ho,r⟩:=hm;exact⟨o,es,ep,k _ o (λz=>(hch _ z).2.1 rfl) ho,r⟩
 ·refine(I.hok b u e).stay (λc v hc q=>k c v ?_ q) (λc q=>q) λc xs q=>q;rcases hc with z|z
  ·rw[z];exact nch b u e
  ·exact nch c _ z
theorem Inv.turnNew{a:Addr}{o:HO}{ch:Zz}{t':Nat}(I:Inv X ZY σ H s)(hch:∀b∈ch,jK X ZY H b)(ha:s.heap.objs.size<=a)(k:∀b u,b∉ch->s.heap.get? b=some u->h'.get? b=some u)(new:bn X.prog X.w (aD H a o) h' a o):Inv X ZY σ (aD H a o) {s with heap:=h',toks:=t'}:=by
 have hn:H a=none:=I.hok.fresh ha;have fa:=I.fpOk ha hn;have hne:∀b u,H b=some u->b≠a:=λb u e=>ai e hn;have nch:∀b u,H b=some u->b∉ch:=λb u e z=>by rw[(hch b z).1]at e;cases e
 refine I.step (g':=s.gens) (d':=s.drawn) (ch:=a ::ch) (λb hb=>?_) (λb u x x hc e x=>k b u (λz=>hc<|W7 _ z) e) (λb u x x hc e x=>⟨u.slots,k b u (λz=>hc<|W7 _ z) e⟩)
  (λb u hc x n=>by rw[ak λz=>hc (by rw[z];exact U0)];exact n) (λb u hc e=>⟨u,k b u (λz=>hc<|W7 _ z) e⟩)
  (λb xs e=>by rw[ak (hne b _ e)];exact e) (λb u xs e=>by rw[ak (hne b _ e)];exact e) (λb ps e=>⟨#[],by rw[ak (hne b _ e),e];simp⟩) (λm hm=>?_) (λb u e=>?_) I.bare
 ·rcases Y4.mp hb with z|z
  ·rw[z];exact(qE fa.2.2.2.1 fa.2.1 fa.2.2.2.2.1 fa.2.2.2.2.2)
  ·have f:=hch b z;exact(qE f.2.2.2.1 f.2.1 f.2.2.2.2.1 f.2.2.2.2.2)
 ·obtain⟨o,es,ep,ho,r⟩:=hm;exact⟨o,es,ep,k _ o (λz=>(hch _ z).2.1 rfl) ho,r⟩
 ·by_cases hb:b=a
  ·subst hb;rw[af]at e;cases e;exact new
  ·rw[ak hb]at e;refine(I.hok b u e).stay (λc v hc q=>k c v ?_ q) (λc q=>by rw[ak (hne c _ q)];exact q) λc xs q=>by rw[ak (hne c _ q)];exact q
   rcases hc with z|z
   ·rw[z];exact nch b u e
   ·exact nch c _ z
end
def Ite(K:Z3)(a:Addr):It :=
 ⟨λi H=>∃xs x,cD K H a xs/\xs[i]?=some x,λi H x H'=>∃p y,x=.ref p/\H p=none/\H'=aD H p (.tup [.int (i:Nat),y])/\∀xs,cD K H a xs->xs[i]?=some y,λi H=>∃xs,cD K H a xs/\xs.length<=i⟩
theorem yG{K:Z3}(a e it:Addr)(hne:e≠it):
  Turn P w K (.Tuple elts x1 pos) (Ite K a) [e,it] e (λi h=>(∃old,IsEnum h e it ((i:Nat):Int) old)/\h.IsListIter it a i) where
 mem:=by simp
 obj:=λi h st b hb=>by
  obtain⟨⟨old,he⟩,hi⟩:=st;have hb':b=e\/b=it:=by simpa using hb
  rcases hb' with z|z
  ·rw[z];exact(aB _ he (λv q=>by have q':Data.fields _=Data.cell v:=q;cases q'))
  ·rw[z];obtain⟨o,e',c,d⟩:=hi;exact(aB o e' (λv q=>by rw[d]at q;cases q))
 keep:=λi h h' st k=>by obtain⟨⟨old,he⟩,hi⟩:=st;exact⟨⟨old,k e (by simp) _ he⟩,hi.at λo q=>k it (by simp) o q⟩
 item:=by
  intro X hP hw hK hc i ZY s σ H E I hf st hg;subst hP hw hK;obtain⟨⟨old,he⟩,hit⟩:=st;obtain⟨xs,x,hq,hx⟩:=hg;obtain⟨its,rv,p,hz⟩:=I.list hq;obtain⟨u,hu,ru⟩:=rv.get hx;refine wpAny_pyNext_enum_item he hit p.isList (x:=u) (by simpa using hu) hne λh1 heo hit1 ht1 hz1 hk1=>?_;refine(aB _ rfl (wpAny_letOwnedTupleGo_enum heo λh2 he2 hs2=>?_));replace hs2:T3 e h1 h2:=hs2;replace he2:IsEnum h2 e it ((i:Int)+1) u:=he2;have hlt:e<s.heap.objs.size:=Y8 he;have hk2:∀b o,b∉[e,it]->s.heap.get? b=some o->h2.get? b=some o:=λb o hb q=>by have b1:b≠e:=λz=>hb (by simp[z]);have b2:b≠it:=λz=>hb (by simp[z]);exact(hs2.2 b b1).trans (hk1 b o b1 b2 q)
  have t2:h2.get? s.heap.objs.size=some {cls:=.type "tuple",data:=.seq #[.int (i:Nat) s.toks,u]}:=(hs2.2 _<|M9 hlt).trans ht1;refine(ye (.ref s.heap.objs.size) _ (I.turnNew (t':=s.toks+1) (ch:=[e,it]) (a:=s.heap.objs.size) (o:=.tup [.int (i:Nat),x]) hf (bi _) hk2 ?_) rfl ⟨_,x,rfl,I.hok.fresh<|bi _,rfl,λys hy=>by rw[I.list_inj hy hq];exact hx⟩ ⟨⟨u,?_⟩,hit1.extBut hs2.extBut<|R6 hne⟩ λb hb=>?_)
  ·exact⟨by show 2<=W3;decide,[.int (i:Nat) s.toks,u],.cons ⟨_,rfl⟩<|.cons ru .nil,⟨_,t2,rfl,_,rfl⟩⟩
  ·have e1:((i+1:Nat):Int)=(i:Int)+1:=by push_cast;rfl
   rw[e1];exact he2
  ·have f:=hf b hb;have hbl:b≠s.heap.objs.size:=by
    have hb':b=e\/b=it:=by simpa using hb
    rcases hb' with z|z
    ·rw[z];exact dB hlt
    ·obtain⟨o,e',_⟩:=hit;rw[z];exact dB<|Y8 e'
   rw[ak hbl];exact f.1
 done:=by intro X hP hw hK hc i ZY s σ H E I hf st hg;subst hP hw hK;obtain⟨⟨old,he⟩,hit⟩:=st;obtain⟨xs,hq,hx⟩:=hg;obtain⟨its,rv,p,hz⟩:=I.list hq;have hl:=rv.length;exact wpAny_pyNext_enum_end (I.ok.hd hc) he hit p.isList (by simp;exact aR (bM hl.symm) hx) λh' eb=>⟨rfl,I.turnedL (t':=s.toks) (ch:=[e,it]) hf λb o hb q=>eb b o (λz=>hb (by simp[z])) q⟩
 self:=λy y y y y st h=>by obtain⟨⟨old,he⟩,_⟩:=st;exact wpAny_pyIter_enum he h
section
variable {X:Cx}{elts:List Expr}{x1:Nat}{tpos:Pos}
def Av(K:Z3)(ta:TA):TI:=λσ H R=>ta σ H λvs H1=>∃a,vs=[.ref a]/\(∃xs,cD K H1 a xs)/\R (Ite K a) H1
theorem pi_enum{a:Expr}{ta:TA}{p pos:Pos}(hg:Gl X "enumerate")(hm:X.mg "enumerate"=none)(ha:PA X [a] ta)(hs:autoParam (V1 [a] X.env=[(false,eval a X.env)]) L2.cY._auto_1):
  PI X (.Tuple elts x1 tpos) (.Call (.Name "enumerate" p) [a] [] pos) (Av X.K ta):=by
 intro ZY s σ H R I h;refine Call_<|gB I hg hm boot_enumerate<|M0 (bu (ha pos ZY s σ H _ I h) λus s1 ⟨vs,H1,I1,r1,q1⟩=>?_) hs rfl;obtain⟨l,rfl,⟨xs,hq⟩,q⟩:=q1;obtain⟨u,rfl,ru⟩:=vals1 r1;cases ru;obtain⟨its,rv,pl,hz⟩:=I1.list hq;refine call_enumerate_list pl.isList λh' he hit hsz hk=>wpAny_pyIter_enum he ?_;have I2:Inv X ZY σ H1 {s1 with heap:=h'}:=I1.kept (t':=s1.toks) hk;refine⟨s1.heap.objs.size+1,[s1.heap.objs.size+1,s1.heap.objs.size],_,_,H1,rfl,I2,yG l _ _<|Nat.succ_ne_self _,⟨⟨_,he⟩,hit⟩,λb hb=>?_,q⟩;have hb':b=s1.heap.objs.size+1\/b=s1.heap.objs.size:=by simpa using hb
 have hle:s1.heap.objs.size<=b:=by
  rcases hb' with z|z
  ·rw[z];exact Q2 _
  ·rw[z];exact bi _
 exact I1.fpOk hle<|I1.hok.fresh hle
end
def Itz(K:Z3)(a b:Addr):It :=
  ⟨λi H=>∃xs ys x y,cD K H a xs/\cD K H b ys/\xs[i]?=some x/\ys[i]?=some y,
   λi H v H'=>∃p x y,v=.ref p/\H p=none/\H'=aD H p (.tup [x,y])/\(∀xs,cD K H a xs->xs[i]?=some x)/\∀ys,cD K H b ys->ys[i]?=some y,
   λi H=>∃xs ys,cD K H a xs/\cD K H b ys/\(xs.length<=i\/ys.length<=i)⟩
theorem Aw{K:Z3}(a b z TI TO i1 i2:Addr)(D:ZipApart z TI TO i1 i2 a b):
  Turn P w K (.Tuple elts x1 pos) (Itz K a b) [z,TI,TO,i1,i2] z (λi h=>IsZip h z TI TO .none/\IsPair h TI (.ref i1) (.ref i2)/\(∃c d,IsPair h TO c d)/\h.IsListIter i1 a i/\h.IsListIter i2 b i) where
 mem:=by simp
 obj:=λi h st c hc=>by
  obtain⟨hz,hTI,⟨c1,d1,hTO⟩,⟨o1,e1,_,d1'⟩,o2,e2,_,d2'⟩:=st;have hc':c=z\/c=TI\/c=TO\/c=i1\/c=i2:=by simpa using hc
  rcases hc' with q|q|q|q|q<;>rw[q]
  ·exact(aB _ hz (λv r=>by have r':Data.fields _=Data.cell v:=r;cases r'))
  ·exact(aB _ hTI (λv r=>by have r':Data.seq _ _=Data.cell v:=r;cases r'))
  ·exact(aB _ hTO (λv r=>by have r':Data.seq _ _=Data.cell v:=r;cases r'))
  ·exact(aB o1 e1 (λv r=>by rw[d1']at r;cases r))
  ·exact(aB o2 e2 (λv r=>by rw[d2']at r;cases r))
 keep:=λi h h' st k=>by obtain⟨hz,hTI,⟨c1,d1,hTO⟩,h1,h2⟩:=st;exact⟨(k z (by simp) _ hz),(k TI (by simp) _ hTI),⟨c1,d1,(k TO (by simp) _ hTO)⟩,(h1.at λo q=>k i1 (by simp) o q),(h2.at λo q=>k i2 (by simp) o q)⟩
 item:=by
  intro X hP hw hK hc i ZY s σ H E I hf st hg;subst hP hw hK;obtain⟨hz,hTI,⟨c1,d1,hTO⟩,h1,h2⟩:=st;obtain⟨xs,ys,x,y,hq1,hq2,hx,hy⟩:=hg;obtain⟨its1,rv1,p1,_⟩:=I.list hq1;obtain⟨its2,rv2,p2,_⟩:=I.list hq2;obtain⟨u1,hu1,ru1⟩:=rv1.get hx;obtain⟨u2,hu2,ru2⟩:=rv2.get hy;refine wpAny_pyNext_zip_item D hz hTI hTO h1 h2 p1.isList p2.isList (x:=u1) (y:=u2) (by simpa using hu1) (by simpa using hu2) λh' a1 a2 a3 a4 a5 a6 hk=>?_;refine(aB _ rfl (wpAny_letOwnedTupleGo_zip a1 λh2' hz2 hs2=>?_));replace hs2:T3 z h' h2':=hs2;replace hz2:IsZip h2' z TI TO .none:=hz2;have hlt:∀c∈[z,TI,TO,i1,i2],c<s.heap.objs.size:=λc hc=>by
   have hc':c=z\/c=TI\/c=TO\/c=i1\/c=i2:=by simpa using hc
   rcases hc' with q|q|q|q|q<;>rw[q]
   ·exact Y8 hz
   ·exact Y8 hTI
   ·exact Y8 hTO
   ·obtain⟨o,e,_⟩:=h1;exact Y8 e
   ·obtain⟨o,e,_⟩:=h2;exact Y8 e
  have hk2:∀c o,c∉[z,TI,TO,i1,i2]->s.heap.get? c=some o->h2'.get? c=some o:=λc o hc q =>
   (hs2.2 c λr=>hc (by simp[r])).trans (hk c o (λr=>hc (by simp[r])) (λr=>hc (by simp[r])) (λr=>hc (by simp[r])) (λr=>hc (by simp[r])) q)
  have t2:h2'.get? s.heap.objs.size=some {cls:=.type "tuple",data:=.seq #[u1,u2]}:=(hs2.2 _<|M9<|hlt z (by simp)).trans a5;refine(ye (.ref s.heap.objs.size) _ (I.turnNew (t':=s.toks) (ch:=[z,TI,TO,i1,i2]) (a:=s.heap.objs.size) (o:=.tup [x,y]) hf (bi _) hk2 ?_) rfl ⟨_,x,y,rfl,I.hok.fresh<|bi _,rfl,λzs hy=>by rw[I.list_inj hy hq1];exact hx,λzs hz=>by rw[I.list_inj hz hq2];exact hy⟩ ⟨hz2,?_,⟨u1,u2,(hs2.2 _ D.TOz).trans a2⟩,a3.extBut hs2.extBut D.i1z,a4.extBut hs2.extBut D.i2z⟩ λc hc=>?_)
  ·exact⟨by show 2<=W3;decide,[u1,u2],.cons ru1<|.cons ru2 .nil,⟨_,t2,rfl,_,rfl⟩⟩
  ·exact(hs2.2 _ D.TIz).trans (hk TI _ D.TIz D.TITO D.TIi1 D.TIi2 hTI)
  ·rw[ak (dB<|hlt c hc)];exact(hf c hc).1
 done:=by
  intro X hP hw hK hc i ZY s σ H E I hf st hg;subst hP hw hK;obtain⟨hz,hTI,⟨c1,d1,hTO⟩,h1,h2⟩:=st;obtain⟨xs,ys,hq1,hq2,hx⟩:=hg;obtain⟨its1,rv1,p1,_⟩:=I.list hq1;obtain⟨its2,rv2,p2,_⟩:=I.list hq2;have l1:=rv1.length;have l2:=rv2.length;refine wpAny_pyNext_zip_end (I.ok.hd hc) D hz hTI hTO h1 h2 p1.isList p2.isList ?_ λh' hk=>⟨rfl,I.turnedL (t':=s.toks) (ch:=[z,TI,TO,i1,i2]) hf λc o hc q =>
   hk c o (λr=>hc (by simp[r])) (λr=>hc (by simp[r])) (λr=>hc (by simp[r])) (λr=>hc (by simp[r])) q⟩
  rcases hx with q|q
  ·exact .inl (by simp;exact aR (bM l1.symm) q)
  ·exact .inr (by simp;exact aR (bM l2.symm) q)
 self:=λt t t t t st h=>wpAny_pyIter_zip st.1 h
section
variable {X:Cx}{elts:List Expr}{x1:Nat}{tpos:Pos}
def iZip(K:Z3)(ta:TA):TI:=λσ H R=>ta σ H λvs H1=>∃a b,vs=[.ref a,.ref b]/\(∃xs,cD K H1 a xs)/\(∃ys,cD K H1 b ys)/\R (Itz K a b) H1
theorem pi_zip{a b:Expr}{ta:TA}{p pos:Pos}(hg:Gl X "zip")(hm:X.mg "zip"=none)(ha:PA X [a,b] ta)(hs:autoParam (V1 [a,b] X.env=[(false,eval a X.env),(false,eval b X.env)]) L2.cY._auto_1)(hs2:autoParam (V1 [b] X.env=[(false,eval b X.env)]) L2.cY._auto_1):
  PI X (.Tuple elts x1 tpos) (.Call (.Name "zip" p) [a,b] [] pos) (iZip X.K ta):=by
 intro ZY s σ H R I h;refine Call_<|gB I hg hm boot_zip<|M0 (bu (ha pos ZY s σ H _ I h) λus s1 ⟨vs,H1,I1,r1,q1⟩=>?_) (by rw[hs,hs2]) (by rw[hs2];rfl);obtain⟨l1,l2,rfl,⟨xs,hq1⟩,⟨ys,hq2⟩,q⟩:=q1;obtain⟨u1,u2,rfl,ru1,ru2⟩:=vals2 r1;cases ru1;cases ru2;obtain⟨its1,rv1,p1,_⟩:=I1.list hq1;obtain⟨its2,rv2,p2,_⟩:=I1.list hq2;have b1:l1<s1.heap.objs.size:=by obtain⟨o,n,e,_⟩:=p1;exact Y8 e
 have b2:l2<s1.heap.objs.size:=by obtain⟨o,n,e,_⟩:=p2;exact Y8 e
 refine call_zip_2 p1.isList p2.isList λh' hz hTI hTO h1 h2 hsz hk=>wpAny_pyIter_zip hz ?_;have I2:Inv X ZY σ H1 {s1 with heap:=h'}:=I1.kept (t':=s1.toks) hk;refine⟨s1.heap.objs.size+4,[s1.heap.objs.size+4,s1.heap.objs.size+2,s1.heap.objs.size+3,s1.heap.objs.size,s1.heap.objs.size+1],_,_,H1,rfl,I2,Aw l1 l2 _ _ _ _ _ ?_,⟨hz,hTI,⟨_,_,hTO⟩,h1,h2⟩,λb hb=>?_,q⟩
 ·constructor<;>first|(intro e;have e':(_:Nat)=(_:Nat):=e;(clear e I2 hk hsz h2 h1 hTO hTI hz b2 b1 p2 rv2 p1 rv1 r1 hq2 q hq1 I1 h I hs2 hs ha hm hg;lia))|exact dB b1|exact dB b2|exact dB (cf b1<|U9 _ _)|exact dB<|cf b2<|U9 _ _
 ·have hb':b=s1.heap.objs.size+4\/b=s1.heap.objs.size+2\/b=s1.heap.objs.size+3\/b=s1.heap.objs.size\/b=s1.heap.objs.size+1:=by simpa using hb
  have hle:s1.heap.objs.size<=b:=by rcases hb' with z|z|z|z|z<;>rw[z]<;>first|exact U9 _ _|exact bi _
  exact I1.fpOk hle<|I1.hok.fresh hle
end
theorem fits(h:-(2^62)<=x)(h':x<=2^62):R7.Range.rangeFitsLong x=true:=by simp only[R7.Range.rangeFitsLong,K5,decide_eq_true_eq];exact⟨Int.le_trans (by decide) h,Int.lt_of_le_of_lt h' (by decide)⟩
end L2
namespace L2
open PySem PySem.Spec PyProof.Rows
mutual
def gM(K:Z3)(H:Hp):PyData->V->Prop
 |.none,v=>v=.non
 |.bool b,v=>v=.bl b
 |.int i,v=>v=.int i
 |.str x,v=>v=.str x
 |.list ds,v=>∃a xs,v=.ref a/\cD K H a xs/\iG K H ds xs
 |.tuple ds,v=>∃a xs,v=.ref a/\jp K H a xs/\iG K H ds xs
 |.dict _,_=>False
def iG(K:Z3)(H:Hp):List PyData->List V->Prop
 |[],xs=>xs=[]
 |d ::ds,xs=>∃x r,xs=x ::r/\gM K H d x/\iG K H ds r
end
section
variable {X:Cx}{ZY:ZO}{σ:St}{H:Hp}{s:Shared}
theorem gM.reads(I:Inv X ZY σ H s):∀{v:V} {u:Value},gM X.K H d v->RelV v u->∃as,Reads s.heap u d as:=by
 refine PyData.rec (motive_1:=λd=>∀{v:V} {u:Value},gM X.K H d v->RelV v u->∃as,Reads s.heap u d as) (motive_2:=λds=>∀{xs:List V} {us:ZT},iG X.K H ds xs->aM xs us->∃as,ReadsAll s.heap us ds as) (motive_3:=λc=>True) (motive_4:=λc=>True)
  ?_ ?_ ?_ ?_ ?_ ?_ (λc c c c h c=>L6 h) ?_ ?_ trivial (λc c c c=>trivial) (λc c c c=>trivial) d
 ·intro v u h r;cases h;cases r;exact⟨_,.none⟩
 ·intro b v u h r;cases h;cases r;exact⟨_,.bool b⟩
 ·intro i v u h r;cases h;refine dI r λt z=>⟨[],?_⟩;rw[z];exact .int i t
 ·intro x v u h r;cases h;refine dI r λt z=>⟨[],?_⟩;rw[z];exact .str x t
 ·intro ds ih v u h r;obtain⟨a,xs,h1,h2,h3⟩:=h;cases h1;cases r;exact aU (I.list h2) λits rv ⟨z,_⟩=>oq24 z λo n e hc c hd=>dI (ih h3 rv) λas q=>⟨_,.list e hc hd (by simpa using q)⟩
 ·intro ds ih v u h r;obtain⟨a,xs,h1,h2,h3⟩:=h;cases h1;cases r;exact aU (I.tuple h2) λits rv ⟨⟨o,e,hc,n,hd⟩,_⟩=>dI (ih h3 rv) λas q=>⟨_,.tuple e hc hd (by simpa using q)⟩
 ·intro xs us h r;cases h;cases r;exact⟨_,.nil⟩
 ·intro d ds ih1 ih2 xs us h r;obtain⟨x,t,h1,h2,h3⟩:=h;cases h1;cases r with
  |cons r1 r2=>exact dI (ih1 h2 r1) λas q1=>dI (ih2 h3 r2) λbs q2=>⟨_,.cons q1 q2⟩
end
section
variable {X:Cx}
def rEqD(K:Z3):R2:=λx y H Q=>∃dx dy,gM K H dx x/\gM K H dy y/\dx.canLay0=true/\dy.canLay0=true/\min dx.depth dy.depth<=60/\Q (.bl<|PyData.eqv dx dy) H
def rNeD(K:Z3):R2:=λx y H Q=>∃dx dy,gM K H dx x/\gM K H dy y/\dx.canLay0=true/\dy.canLay0=true/\min dx.depth dy.depth<=60/\Q (.bl<|!PyData.eqv dx dy) H
theorem op_eqD(hu:X.A.units+64<cLine):jg X (O4 .Eq) (rEqD X.K):=by intro ZY s σ H x y v u Q I rx ry h;obtain⟨dx,dy,h1,h2,c1,c2,dp,q⟩:=h;obtain⟨as,ra⟩:=gM.reads I h1 rx;obtain⟨bs,rb⟩:=gM.reads I h2 ry;exact SeqAt.compareEq_reads ra rb c1 c2 (by lia) ⟨.bl _,H,I,rfl,q⟩
theorem de:jg X (binaryOp .FloorDiv) (rI (λx j=>0<j/\j<2^64) λi j=>.int<|i/j):=opI λi j x x x x x hc q=>by
 have h1:(0:Int)<j:=hc.1;have h2:j<2^64:=hc.2;refine floordiv_int (by exact Int.ne_of_gt h1) (by rw[Int.fdiv_eq_ediv_of_nonneg i (by exact Int.le_of_lt h1)];exact q)<|.inl<|PyProof.noPylong_of_log2 ?_;have h3:j.natAbs≠0:=by omega
 have h4:j.natAbs.log2<64:=(Nat.log2_lt h3).mpr (by omega);exact hU h4 (by decide)
theorem tp:dR X (.builtin "isinstance") (λxs H Q=>∃x t b,xs=[x,.ty T]/\TyOf X.K H x t/\O5 X.K t (.type T)=some b/\Q (.bl b) H):=by intro ZY s σ H xs us Q I r h;obtain⟨x,t,b,rfl,ty,e,q⟩:=h;obtain⟨u,c,rfl,ru,rc⟩:=vals2 r;have rc':c=Value.type T:=rc;subst rc';exact yn I ru ty e λtk=>⟨.bl b,H,I.tok _,rfl,q⟩
end
section
variable {K:Z3}
theorem tq:O5 K (.type "int") (.type "int")=some true:=by with_unfolding_all rfl
theorem qQ:O5 K (.type "int") (.type "bool")=some false:=by with_unfolding_all rfl
theorem tu:O5 K (.type "tuple") (.type "tuple")=some true:=by with_unfolding_all rfl
theorem ji:O5 K (.type "list") (.type "list")=some true:=by with_unfolding_all rfl
end
end L2
namespace L2
open PySem PySem.Spec PyProof.Rows
section
variable {g:TG}{tt:TT}{te:TE}{loc:ZJ}{cap:ZH}{σ:St}{Q:VK}{J:It}{D:Addr}{H:Hp}
theorem comp_it(Pv:Nat->List V->Hp->Prop)(h0:Pv 0 [] (aD H D<|.lst []))(hD:∀i ys H,i<=n->Pv i ys H->H D=some (.lst ys))(go:∀i ys H,i<n->Pv i ys H->J.go i H)(st:∀ys H,Pv n ys H->J.stop n H)(hs:∀i ys H x H',i<n->Pv i ys H->J.yld i H x H'->As g tt te loc cap σ D ys (Pv<|i+1) x H')(hd:∀ys H,Pv n ys H->Q (.ref D) H):wV g tt te loc cap σ D Q J H:=by
 refine⟨λi m ys H=>m=n-i/\i<=n/\Pv i ys H,(cZ n (by simp) (U5 _) h0),?_⟩;rintro i m ys H ⟨rfl,hi,p⟩;refine⟨hD i ys H hi p,?_⟩;by_cases hlt:i<n
 ·exact .inr ⟨go i ys H hlt p,Pv<|i+1,λys' H' p'=>(jc (n-(i+1)) (by omega) rfl hlt p'),λx H' y=>hs i ys H x H' hlt p y⟩
 ·have e:i=n:=by exact T9 hi<|T5.mp hlt
  subst e;exact .inl ⟨st ys H p,hd ys H p⟩
end
def bh(K:Z3)(mg:ZN)(x:Str)(st:Stmt)(ps:ZJ):Prop:=∃f fd,Fun K x x st f fd/\Binds K fd ps []/\mg x=some (.ref f)
def i3(P:U7)(w:World)(K:Z3)(mg:ZN)(base:Heap)(k:Nat)(x:Str)(ps:ZJ)(sp:Sp):Prop :=
 ∃f fd,FnOk P w K mg base uQ k f fd ps sp/\mg x=some (.ref f)/\M7 K (.ref f)=true/\Binds K fd ps []
section
variable {P:U7}{w:World}{K:Z3}{mg:ZN}{base:Heap}
theorem bh.has{st:Stmt}(D:bh K mg x st ps)(S:FnScope N ps (ah st))(len:∀vs H Q E,sp vs H Q E->vs.length=ps.length)(hbody:∀(f:Addr) (ZP:Value) (A:Around) (outer:List Env) (s:Shared) (H:Hp) (vs:List V) (Q:VK) (E:XK),Room k (A.deeper<|envOfC x (ah st) s.heap.objs.size f ZP)->sp vs H Q E ->
   ∃t,mP (lV uQ P w K mg base N x (ah st) f ZP A outer s H E).nox (bp st) t/\t {nx:=λa H'=>Q .non H',rt:=Q} (start N vs) H):i3 P w K mg base (k+1) x ps sp:=by
 obtain⟨f,fd,F,b,hm⟩:=D;exact⟨f,fd,F.ok S len λZP A outer s H vs Q E hr h=>hbody f ZP A outer s H vs Q E hr h,hm,F.kp,b⟩
end
section
variable {X:Cx}{k:Nat}{ps:ZJ}{sp:Sp}{x:Str}{p pos:Pos}{e:Expr}{es:List Expr}{t:TA}
theorem nq(G:i3 X.prog X.w X.K X.mg X.base k x ps sp)(hr:Room k X.A)(hg:Gl X x)(ha:PA X (e ::es) t)(hdb:autoParam ((x==("__debug__":Str))=false) L2.iu._auto_1)(he:autoParam (V1 (e ::es) X.env=(false,eval e X.env) ::V1 es X.env) L2.cY._auto_1)(hpl:autoParam ((backTo pos<|V1 es X.env).any (·.1)=false) L2.cY._auto_1):
  PE X (.Call (.Name x p) (e ::es) [] pos) (pY sp [] E0 t):=by
 obtain⟨f,fd,F,hm,hk,hb⟩:=G;exact pe_call F hr hg hm hk hb .nil An ha hdb he hpl
end
structure Blt(mg:ZN):Prop where
 len:mg "len"=none
 range:mg "range"=none
 enumerate:mg "enumerate"=none
 zip:mg "zip"=none
 min:mg "min"=none
 max:mg "max"=none
 abs:mg "abs"=none
 isinstance:mg "isinstance"=none
 int_:mg "int"=none
 bool_:mg "bool"=none
 list_:mg "list"=none
 tuple_:mg "tuple"=none
 sorted:mg "sorted"=none
 set_:mg "set"=none
theorem cI:O1 "len"=some (.builtin "len"):=by decide +kernel
theorem iH:O1 "min"=some (.builtin "min"):=by decide +kernel
theorem nr:O1 "max"=some (.builtin "max"):=by decide +kernel
theorem vi:O1 "abs"=some (.builtin "abs"):=by decide +kernel
theorem df:O1 "isinstance"=some (.builtin "isinstance"):=by decide +kernel
theorem j3:O1 "sorted"=some (.builtin "sorted"):=by decide +kernel
theorem vj:O1 "int"=some (.type "int"):=by decide +kernel
theorem bo_bool:O1 "bool"=some (.type "bool"):=by decide +kernel
theorem dZ:O1 "list"=some (.type "list"):=by decide +kernel
theorem Ax:O1 "tuple"=some (.type "tuple"):=by decide +kernel
theorem bo_set:O1 "set"=some (.type "set"):=by decide +kernel
abbrev Ints(K:Z3)(H:Hp)(a:Addr)(ns:ZW):Prop:=cD K H a<|ns.map V.int
theorem cJ{α β:Type}{F:α->β->Prop}:∀{l₁:List α} {l₂:List β} {i:Nat} {y:β},Paired F l₁ l₂->l₂[i]?=some y->∃x,l₁[i]?=some x/\F x y:=by
 intro l₁ l₂ i z p;induction p generalizing i with
 |nil=>exact λe=>nomatch e
 |cons r t ih =>
  cases i with
  |zero=>exact λe=>aB _ rfl<|Z5 e▸r
  |succ i=>exact λe=>ih (i:=i) e
theorem g9{α β:Type}{F:α->β->Prop}:∀{l₁:List α} {l₂:List β} {i:Nat} {x:α},Paired F l₁ l₂->l₁[i]?=some x->∃y,l₂[i]?=some y/\F x y:=by
 intro l₁ l₂ i z p;induction p generalizing i with
 |nil=>exact λe=>nomatch e
 |cons r t ih =>
  cases i with
  |zero=>exact λe=>aB _ rfl<|Z5 e▸r
  |succ i=>exact λe=>ih (i:=i) e
theorem def_mk{K:Z3}{mg:ZN}{st:Stmt}{kV doc pm ZP ct:Value}(X:K.In h)(G:h.Ns Q9 mg)(a:PySem.W.nsIn K Q9 x=some (some<|.ref f))(l:K.lookup f=some ⟨oc,od,.func<|N0 x x (cz st) (bp st) (ah st) .none kV doc pm an ZP ct,osl⟩)(c:D7 K ZP x=true)(k:M7 K (.ref f)=true)(hb:∀(kV doc pm:Value) (an:Zr) (ZP ct:Value) (us:ZT),us.length=ps.length->bindArgs (N0 x x (cz st) (bp st) (ah st) .none kV doc pm an ZP ct) ⟨us,[]⟩=pure (ps.zip us)):bh K mg x st ps :=
 ⟨f,_,i0 (st:=st) l c k,(i0 (st:=st) l c k).binds hb,PySem.W.mg_of X G a⟩
theorem aO(h:H p=none):aW H (aD H p o):=λb u e=>by rw[ak (ai e h)];exact e
section
variable {X:Cx}{K:Z3}
theorem jP(h:X.K=K):SlR X (rSlL K):=by subst h;exact sl_list
theorem aL(h:X.K=K):IxR X (yw K):=by subst h;exact ix_list
theorem eA(h:X.K=K):IxR X (yx K):=by subst h;exact ix_tup
theorem op_inK(h:X.K=K):jg X (O4 .In) (rIn K false):=by subst h;exact yy
theorem op_eqDK(h:X.K=K)(hu:X.A.units+64<cLine):jg X (O4 .Eq) (rEqD K):=by subst h;exact op_eqD hu
def rLen(K:Z3):List V->Hp->VK->Prop:=λxs H Q=>∃p ys,xs=[.ref p]/\(cD K H p ys\/jp K H p ys)/\Q (.int ys.length) H
theorem ba(h:X.K=K):dR X (.builtin "len") (rLen K):=by subst h;exact qJ
def qR(K:Z3):List V->Hp->VK->Prop:=λxs H Q=>∃p ys,xs=[.ref p]/\(cD K H p ys\/jp K H p ys)/\∀l,H l=none->Q (.ref l) (aD H l<|.lst ys)
theorem dt(h:X.K=K):dR X (.type "list") (qR K):=by subst h;exact qK
def rIsi(K:Z3)(T:String):List V->Hp->VK->Prop:=λxs H Q=>∃x t b,xs=[x,.ty T]/\TyOf K H x t/\O5 K t (.type T)=some b/\Q (.bl b) H
theorem gN(h:X.K=K):dR X (.builtin "isinstance") (rIsi K T):=by subst h;exact tp
def tTru(K:Z3)(ta:TE):TT:=λσ H Q=>ta σ H λx H'=>∃k,TruV K x H' k/\Q k H'
theorem wX(h:X.K=K)(ha:PE X a ta)(he:∀whole,isTrue a X.env whole=(do let v <- whole;standAt a.pos;holding [v] (truthy v))):PT X a (tTru K ta):=by subst h;exact zW ha he
theorem aH(h:X.K=K)(hl:PE X l tl):PI X tg l (mT K tl):=by subst h;exact pi_list hl
theorem Ay{elts:List Expr}{x1:Nat}{tpos:Pos}{a:Expr}{ta:TA}{p pos:Pos}(h:X.K=K)(hg:Gl X "enumerate")(hm:X.mg "enumerate"=none)(ha:PA X [a] ta)(hs:autoParam (V1 [a] X.env=[(false,eval a X.env)]) L2.cY._auto_1):
  PI X (.Tuple elts x1 tpos) (.Call (.Name "enumerate" p) [a] [] pos) (Av K ta):=by subst h;exact pi_enum hg hm ha hs
theorem wY{elts:List Expr}{x1:Nat}{tpos:Pos}{a b:Expr}{ta:TA}{p pos:Pos}(h:X.K=K)(hg:Gl X "zip")(hm:X.mg "zip"=none)(ha:PA X [a,b] ta)(hs:autoParam (V1 [a,b] X.env=[(false,eval a X.env),(false,eval b X.env)]) L2.cY._auto_1)(hs2:autoParam (V1 [b] X.env=[(false,eval b X.env)]) L2.cY._auto_1):PI X (.Tuple elts x1 tpos) (.Call (.Name "zip" p) [a,b] [] pos) (iZip K ta):=by subst h;exact pi_zip hg hm ha hs hs2
theorem jQ{es:List Expr}{k:Nat}{t:TGs}{n:Nat}{pos:Pos}(h:X.K=K)(hc:X.calm=true)(hs:PGs X es t)(hn:autoParam ((assignEach es X.env).length=n) L2.cY._auto_1)(hst:autoParam ((assignEach es X.env).findIdx? (·.1)=none) L2.cY._auto_1):
  PG X (.Tuple es k pos) (zM K n t):=by subst h;exact pg_tup hc hs hn hst
section
variable {o e:Expr}{es:List Expr}{to:TE}{t:TA}{name:Str}{apos cpos:Pos}{T id:String}{r:V->List V->Hp->VK->Prop}
theorem pe_bm0K(h:X.K=K)(pa:PlainAttrs T)(slot:Slot T name id)(hty:typeOf (.builtin id)=pure (.type "method_descriptor"))(hm:MtR X id r)(ho:PE X o to)(hbase:autoParam (attributeBase o name X.env (eval o X.env)=eval o X.env) L2.cY._auto_1)(hline:autoParam ((apos.endLine==cpos.line)=true) L2.cY._auto_1):PE X (.Call (.Attribute o name apos) [] [] cpos) (tBM0 K T r to):=by subst h;exact pe_bm0 pa slot hty hm ho hbase hline
theorem gD(h:X.K=K)(pa:PlainAttrs T)(slot:Slot T name id)(hty:typeOf (.builtin id)=pure (.type "method_descriptor"))(hm:MtR X id r)(ho:PE X o to)(ha:PA X (e ::es) t)(hbase:autoParam (attributeBase o name X.env (eval o X.env)=eval o X.env) L2.cY._auto_1)(hfew:((backTo cpos<|V1 (e ::es) X.env).all (λx=>!x.1)&&(backToKw cpos<|keywordEach [] X.env).all (λx=>x.1.isSome)
  &&decide ((e ::es).length+([]:List Keyword).length+(if ([]:List Keyword).isEmpty then 0 else 1)<30))=true:=by rfl)(hline:autoParam ((apos.endLine==cpos.line)=true) L2.cY._auto_1)(hs:autoParam (V1 (e ::es) X.env=(false,eval e X.env) ::V1 es X.env) L2.cY._auto_1)(hplain:autoParam ((backTo cpos<|V1 es X.env).any (·.1)=false) L2.cY._auto_1):
  PE X (.Call (.Attribute o name apos) (e ::es) [] cpos) (tBM K T r to t):=by subst h;exact pe_bm pa slot hty hm ho ha hbase hfew hline hs hplain
end
end
class Kon where
 T:List Addr
 Q:Addr->Str
def b0(c:Addr)(q:Str):Heap->Prop:=λh=>h.CodeRec (.ref c) q
def dS:HO->Prop
 |.tbl _=>False
 |_=>True
structure TbG[Kn:Kon](H:Hp):Prop where
 there:∀P∈Kon.T,∃ps,H P=some (.tbl ps)
 good:∀P ps,H P=some (.tbl ps)->TriplesOk ps.toList/\∀pos cv,codeAmong pos ps.toList=some cv->∃c,cv=.ref c/\H c=some (.ext<|b0 c<|Kon.Q P)
structure Sm[Kn:Kon](H H':Hp):Prop where
 kp:∀b o,dS o->H b=some o->H' b=some o
 tb:∀b ps,H b=some (.tbl ps)->∃more,H' b=some (.tbl<|ps++more)
 tg:TbG H->TbG H'
section
variable [Kn:Kon]{H H1 H2 H':Hp}{p:Addr}{o:HO}
theorem Sm.refl(H:Hp):Sm H H:=⟨λx x x h=>h,λx ps h=>⟨#[],by rw[h];simp⟩,λh=>h⟩
theorem Sm.trans(a:Sm H H1)(b:Sm H1 H2):Sm H H2:=⟨λc o n h=>b.kp c o n<|a.kp c o n h,λc ps h=>by obtain⟨m1,e1⟩:=a.tb c ps h;obtain⟨m2,e2⟩:=b.tb c _ e1;exact⟨m1++m2,by rw[e2,Array.append_assoc]⟩,λh=>b.tg<|a.tg h⟩
theorem Sm.some(e:Sm H H'){b:Addr}(h:H b=some o):∃o',H' b=some o':=by
 cases o with
 |tbl ps=>obtain⟨m,q⟩:=e.tb b ps h;exact⟨_,q⟩
 |_=>refine⟨_,e.kp b _ ?_ h⟩;trivial
theorem Sm.free(e:Sm H H')(h:H' l=Option.none):H l=Option.none:=by
 cases q:H l with
 |none=>rfl
 |some o=>obtain⟨o',z⟩:=e.some q;rw[h]at z;cases z
theorem jt{Q:Prop}(q:aD H p o b=some u)(f:b=p->o=u->Q)(g:b≠p->H b=some u->Q):Q:=(Decidable.em<|b=p).elim (λe=>f e<|Z5<|af.symm.trans<|(congrArg (aD H p o) e).symm.trans q) λn=>g n<|(ak n).symm.trans q
theorem bS(n:b≠p)(q:H b=some u):aD H p o b=some u:=(ak n).trans q
theorem TbG.mv(g:TbG H)(k1:∀P ps,H P=some (.tbl ps)->H' P=some (.tbl ps))(k2:∀c q,H c=some (.ext<|b0 c q)->H' c=some (.ext<|b0 c q))(n:∀P ps,H' P=some (.tbl ps)->H P=some (.tbl ps)):TbG H' :=
 ⟨λP hP=>(g.there P hP).imp λps e=>k1 P ps e,λP ps q=>⟨(g.good P ps<|n P ps q).1,λpos cv hc=>((g.good P ps<|n P ps q).2 pos cv hc).imp λc z=>⟨z.1,k2 c _ z.2⟩⟩⟩
theorem qS(e:o=.tbl ps)(n:dS o):False:=by subst e;exact n
theorem TbG.poke(g:TbG H)(n:dS o)(h1:∀q,H p≠some (.ext<|b0 p q))(h2:∀ps,H p≠some (.tbl ps)):TbG (aD H p o):=g.mv (λP ps q=>bS (λz=>h2 ps<|z▸q) q) (λc n q=>bS (λz=>h1 n<|z▸q) q) λP ps q=>jt q (λx e=>(qS e n).elim) λx q=>q
theorem TbG.pokN(g:TbG H)(n:dS o)(h:H p=none):TbG (aD H p o):=g.poke n (λx z=>nomatch h.symm.trans z) λx z=>nomatch h.symm.trans z
theorem vk(h:H p=none)(n:dS o):Sm H (aD H p o):=⟨λx x x q=>bS (ai q h) q,λx ps q=>⟨#[],by rw[Array.append_empty];exact bS (ai q h) q⟩,λg=>g.pokN n h⟩
def NoCode(φ:Heap->Prop):Prop:=∀c q,φ≠b0 c q
def Own:HO->Prop
 |.lst _=>True
 |.dK _=>True
 |.dT _=>True
 |.ext φ=>NoCode φ
 |_=>False
theorem Own.noTbl(h:Own u):dS u:=by cases u<;>first|exact h|trivial
theorem qT(a:Own u)(e:u=.ext (b0 c q)):False:=by subst e;exact a c q rfl
theorem TbG.pokO(g:TbG H)(n:dS o)(h:H p=some u)(a:Own u):TbG (aD H p o):=g.poke n (λx z=>qT a<|Z5<|h.symm.trans z) λx z=>qS (Z5<|h.symm.trans z) a.noTbl
theorem Az(e:Sm H H1)(h0:H p=none)(h:H1 p=some u)(a:Own u)(b:Own u'):Sm H (aD H1 p u'):=⟨λc o n q=>bS (ai q h0)<|e.kp c o n q,λc ps q=>(e.tb c ps q).imp λx z=>bS (ai q h0) z,λg=>(e.tg g).pokO b.noTbl h a⟩
theorem vm(e:Sm H H1)(h0:H p=none)(h:H1 p=some u)(a:Own u):Sm H (λb=>if b=p then Option.none else H1 b):=by have k:∀{c:Addr} {o:HO},H1 c=some o->c≠p->(if c=p then Option.none else H1 c)=some o:=λq n=>(if_neg n).trans q;have ne:∀{c:Addr} {o:HO},H1 c=some o->(u=o->False)->c≠p:=λq n z=>n<|Z5<|h.symm.trans<|z▸q;exact⟨λc o n q=>k (e.kp c o n q)<|ai q h0,λc ps q=>(e.tb c ps q).imp λx z=>k z<|ai q h0,λg=>(e.tg g).mv (λx x q=>k q (ne q λz=>qS z a.noTbl)) (λx x q=>k q (ne q λz=>qT a z)) λP x q=>(Decidable.em<|P=p).elim (λz=>nomatch (if_pos z).symm.trans q) λn=>(if_neg n).symm.trans q⟩
end
def NT(F:Hp):Prop:=∀b ps,F b≠some (.tbl ps)
theorem kR(h:NT F)(n:dS o):NT (aD F p o):=λb ps q=>by
 by_cases e:b=p
 ·subst e;rw[af]at q;cases q;exact n
 ·rw[ak e]at q;exact h b ps q
structure Rp(α:Type) where
 rel:Hp->V->α->Prop
 mono:∀{H H':Hp} {v:V} {a:α},aW H H'->rel H v a->rel H' v a
theorem Paired.imp2{α β:Type}{F G:α->β->Prop}(h:∀a b,F a b->G a b):∀{l:List α} {m:List β},Paired F l m->Paired G l m:=λp=>Paired.mapP p h
theorem Paired.setB{α β:Type}{F:α->β->Prop}{x:α}{y:β}(h:F x y):∀{l:List α} {m:List β} (i:Nat),Paired F l m->Paired F (l.set i x) (m.set i y):=by
 intro l m i p;induction p generalizing i with
 |nil=>exact .nil
 |cons r t ih =>
  cases i with
  |zero=>exact .cons h t
  |succ i=>exact .cons r<|ih i
theorem Paired.app{α β:Type}{F:α->β->Prop}:∀{l l':List α} {m m':List β},Paired F l m->Paired F l' m'->Paired F (l++l') (m++m'):=λp s=>by
 induction p with
 |nil=>exact s
 |cons r _ ih=>exact .cons r ih
theorem Paired.takeB{α β:Type}{F:α->β->Prop}:∀{l:List α} {m:List β} (n:Nat),Paired F l m->Paired F (l.take n) (m.take n):=by
 intro l m n p;induction p generalizing n with
 |nil=>cases n<;>exact .nil
 |cons r t ih =>
  cases n with
  |zero=>exact .nil
  |succ n=>exact .cons r<|ih n
theorem Paired.dropB{α β:Type}{F:α->β->Prop}:∀{l:List α} {m:List β} (n:Nat),Paired F l m->Paired F (l.drop n) (m.drop n):=by
 intro l m n p;induction p generalizing n with
 |nil=>cases n<;>exact .nil
 |cons r t ih =>
  cases n with
  |zero=>exact .cons r t
  |succ n=>exact ih n
theorem Paired.eraseB{α β:Type}{F:α->β->Prop}:∀{l:List α} {m:List β} (n:Nat),Paired F l m->Paired F (l.eraseIdx n) (m.eraseIdx n):=by
 intro l m n p;induction p generalizing n with
 |nil=>exact .nil
 |cons r t ih =>
  cases n with
  |zero=>exact t
  |succ n=>exact .cons r<|ih n
def a8:Rp Int:=⟨λx v a=>v=.int a,λx h=>h⟩
def bq:Rp Bool:=⟨λx v a=>v=.bl a,λx h=>h⟩
def cF{α:Type}(r:Rp α):Rp (Option α):=⟨λH v a=>match a with|none=>v=.non|some x=>r.rel H v x,λ{_ _ _ a} e h=>by
 cases a with
 |none=>exact h
 |some x=>exact r.mono e h⟩
theorem aW.rd(e:aW H H')(h:Rd H a u):Rd H' a u:=by
 rcases h with h|zr1_
 ·exact .inl<|e _ _ h
 ·obtain⟨o,h⟩:=zr1_;exact .inr ⟨o,e _ _ h⟩
def rL{α:Type}(r:Rp α):Rp (List α):=⟨λH v xs=>∃p vs,v=.ref p/\Rd H p (.lst vs)/\Paired (r.rel H) vs xs,λe ⟨p,vs,h1,h2,h3⟩=>(da p vs h1 (e.rd h2)<|Paired.imp2 (λx x q=>r.mono e q) h3)⟩
def rT1{α:Type}(r:Rp α):Rp α:=⟨λH v x=>∃p a,v=.ref p/\H p=some (.tup [a])/\r.rel H a x,λe ⟨p,a,h1,h2,h3⟩=>(da p a h1 (e _ _ h2)<|r.mono e h3)⟩
def eV{α β:Type}(r:Rp α)(s:Rp β):Rp (α×β):=⟨λH v x=>∃p a b,v=.ref p/\H p=some (.tup [a,b])/\r.rel H a x.1/\s.rel H b x.2,
 λe ⟨p,a,b,h1,h2,h3,h4⟩=>⟨p,a,b,h1,e _ _ h2,r.mono e h3,s.mono e h4⟩⟩
def ju{α β γ:Type}(r:Rp α)(s:Rp β)(t:Rp γ):Rp (α×β×γ):=⟨λH v x=>∃p a b c,v=.ref p/\H p=some (.tup [a,b,c])/\r.rel H a x.1/\s.rel H b x.2.1/\t.rel H c x.2.2,
 λe ⟨p,a,b,c,h1,h2,h3,h4,h5⟩=>⟨p,a,b,c,h1,e _ _ h2,r.mono e h3,s.mono e h4,t.mono e h5⟩⟩
abbrev cV{α:Type}(r:Rp α)(H:Hp):Key×V->Int×α->Prop:=λw k=>w.1=.inl k.1/\r.rel H w.2 k.2
def rD{α:Type}(r:Rp α):Rp (List<|Int×α):=⟨λH v kvs=>∃p ws,v=.ref p/\H p=some (.dK ws)/\Paired (cV r H) ws kvs,
 λe ⟨p,ws,h1,h2,h3⟩=>(da p ws h1 (e _ _ h2)<|Paired.imp2 (λx x q=>⟨q.1,r.mono e q.2⟩) h3)⟩
def del(F:Hp)(p:Addr):Hp:=λb=>if b=p then none else F b
theorem cu(h:b≠p):del F p b=F b:=by unfold del;rw[if_neg h]
theorem fI:del F p p=none:=by unfold del;rw[if_pos rfl]
set_option tactic.hygienic true in
theorem eE(h:del F p b=some o):b≠p/\F b=some o:=by
 unfold del at h;split at h
 ·cases h
 ·rename_i q;exact⟨q,h⟩
def Chg:HO->Prop
 |.lst _=>True
 |.dK _=>True
 |.dT _=>True
 |.ins _ _ _=>True
 |_=>False
def Flat{α:Type}(r:Rp α):Prop:=∀{F:Hp} {p:Addr} {o:HO} {v:V} {a:α},F p=some o->Chg o->r.rel F v a->r.rel (del F p) v a
theorem aZ:Flat a8:=λx x h=>h
theorem gb{α:Type}{r:Rp α}(f:Flat r):Flat (cF r):=λ{_ _ _ _ a} h c q=>by
 cases a with
 |none=>exact q
 |some x=>exact f h c q
theorem tup_del(h:F p=some o)(c:Chg o)(q:F a=some (.tup xs)):del F p a=some (.tup xs):=by
 rw[cu]
 ·exact q
 ·rintro rfl;rw[h]at q;cases q;exact c
theorem mq{α β γ:Type}{r:Rp α}{s:Rp β}{t:Rp γ}(f:Flat r)(g:Flat s)(k:Flat t):Flat (ju r s t) :=
 λh c ⟨p,a,b,d,h1,h2,h3,h4,h5⟩=>⟨p,a,b,d,h1,tup_del h c h2,f h c h3,g h c h4,k h c h5⟩
def qU(K:Z3):Rp (List Int):=⟨λH v xs=>∃p vs,v=.ref p/\cD K H p vs/\Paired (a8.rel H) vs xs,λe ⟨p,vs,h1,h2,h3⟩=>(da p vs h1 (e.seq h2)<|Paired.imp2 (λx x q=>a8.mono e q) h3)⟩
structure Sq(K:Z3){α:Type}(rl:Rp (List α))(r:Rp α):Prop where
 get:∀{H v xs},rl.rel H v xs->∃p vs,v=.ref p/\cD K H p vs/\Paired (r.rel H) vs xs
theorem aP{K:Z3}{α:Type}{r:Rp α}:Sq K (rL r) r:=⟨λ⟨p,vs,h1,h2,h3⟩=>(da p vs h1 (.inl h2) h3)⟩
theorem sq_s{K:Z3}:Sq K (qU K) a8:=⟨λh=>h⟩
inductive Slot:Type 1 where
 |any
 |fr {α:Type} (r:Rp α) (a:α)
 |ol {α:Type} (r:Rp α) (φ:ZF) (xs:List α)
 |od {α:Type} (r:Rp α) (φ:ZF) (kvs:List (Int×α))
 |ot {α:Type} (r:Rp α) (kvs:List ((Int×Int)×α))
abbrev vo{α:Type}(r:Rp α)(H:Hp):List Key×V->(Int×Int)×α->Prop:=λw k=>w.1=[.inl k.1.1,.inl k.1.2]/\r.rel H w.2 k.2
structure NwL(H0 F:Hp)(us:List V)(ZZ:ZM):Prop where
 pr:Paired (λv row=>∃q vs,v=.ref q/\F q=some (.lst vs)/\Paired (a8.rel F) vs row) us ZZ
 nd:us.Nodup
 nw:∀q,V.ref q∈us->H0 q=none
theorem NwL.mono(e:aW F F')(h:NwL H0 F us ZZ):NwL H0 F' us ZZ :=
 ⟨Paired.imp2 (λ_ _ ⟨q,vs,h1,h2,h3⟩=>⟨q,vs,h1,e _ _ h2,Paired.imp2 (λx x y=>y) h3⟩) h.pr,h.nd,h.nw⟩
def Slot.own:Slot->Bool
 |.ol _ _ _=>true
 |.od _ _ _=>true
 |.ot _ _=>true
 |_=>false
def lX:Addr->Prop:=λx=>True
def dX(H0 F H:Hp):Slot->Option V->Prop
 |.any,_=>True
 |.fr r a,o=>∃v,o=some v/\r.rel F v a
 |.ol r φ xs,o=>∃p vs,o=some (.ref p)/\φ p/\H0 p=none/\F p=none/\H p=some (.lst vs)/\Paired (r.rel F) vs xs
 |.od r φ kvs,o=>∃p ws,o=some (.ref p)/\φ p/\H0 p=none/\F p=none/\H p=some (.dK ws)/\Paired (cV r F) ws kvs
 |.ot r kvs,o=>∃p ws,o=some (.ref p)/\H0 p=none/\F p=none/\H p=some (.dT ws)/\Paired (vo r F) ws kvs
def Cr:Option HO->Prop
 |none=>True
 |some (.tup _)=>True
 |some _=>False
theorem qh(h:o=none):Cr o:=h▸trivial
theorem vp(z:Cr o)(e:o=some u)(h:Own u):False:=by subst e;cases u<;>first|exact z|exact h
theorem Sm.un[Kn:Kon](e:Sm H H')(h:Cr (H' l)):Cr (H l):=by
 cases q:H l with
 |none=>trivial
 |some o =>
  cases o with
  |tup _=>trivial
  |tbl ps=>obtain⟨m,z⟩:=e.tb l ps q;rw[z]at h;exact h
  |_=>have z:=e.kp l _ (by trivial) q;rw[z]at h;exact h
theorem dM{σ:St}{i:Nat}{B:Type}{q1 q2 q3 q4 q5:Addr->B->Prop}{Q:Prop}(h:∃o,σ[i]?=some o/\∃p w,o=some (V.ref p)/\q1 p w/\q2 p w/\q3 p w/\q4 p w/\q5 p w)(f:∀p w,σ[i]?=some (some<|V.ref p)->q1 p w->q2 p w->q3 p w->q4 p w->q5 p w->Q):Q:=aU h λo a ⟨p,w,e,a1,a2,a3,a4,a5⟩=>f p w (e▸a) a1 a2 a3 a4 a5
structure Fc where
 H0:Hp
 F0:Hp
 L:Hp
structure Fr[Kn:Kon](C:Fc)(F H:Hp):Prop where
 keep:Sm C.H0 H
 low:aW C.L F
 sub:aW F H
 base:∀b o,F b=some o->C.F0 b=some o\/Cr (C.H0 b)
 nt:NT F
 tg:TbG H
structure SR[Kn:Kon](C:Fc)(F:Hp)(Γ:List Slot)(σ:St)(H:Hp):Prop extends Fr C F H where
 len:σ.length=Γ.length
 at_:∀(i:Nat) s,Γ[i]?=some s->∃o,σ[i]?=some o/\dX C.H0 F H s o
 inj:∀(i j:Nat) s t p,Γ[i]?=some s->Γ[j]?=some t->s.own=true->t.own=true->σ[i]?=some (some<|.ref p)->σ[j]?=some (some<|.ref p)->i=j
structure Ext[Kn:Kon](F H F' H':Hp):Prop where
 hh:Sm H H'
 ff:aW F F'
 sub:aW F' H'
 nw:∀b o,F' b=some o->F b=some o\/Cr (H b)
 nt:NT F->NT F'
section
variable [Kn:Kon]
theorem Ext.refl(h:aW F H):Ext F H F H:=⟨Sm.refl _,aW.refl _,h,λx x q=>.inl q,λz=>z⟩
theorem Ext.trans(a:Ext F H F1 H1)(b:Ext F1 H1 F2 H2):Ext F H F2 H2:=⟨a.hh.trans b.hh,a.ff.trans b.ff,b.sub,λc o h=>by
 rcases b.nw c o h with q|q
 ·exact a.nw c o q
 ·exact .inr<|a.hh.un q,λz=>b.nt<|a.nt z⟩
theorem Ext.new{F H:Hp}{p:Addr}{o:HO}(h:aW F H)(hp:H p=none)(n:autoParam (dS o) L2.a4q._auto_1):Ext F H (aD F p o) (aD H p o) :=
 ⟨vk hp n,aO<|h.free hp,λb u q=>by
  by_cases e:b=p
  ·subst e;rw[af]at q ⊢;exact q
  ·rw[ak e]at q ⊢;exact h b u q,λb u q=>by
  by_cases e:b=p
  ·subst e;exact .inr (qh hp)
  ·rw[ak e]at q;exact .inl q,λz=>kR z n⟩
theorem Ext.newH{F H:Hp}{p:Addr}{o:HO}(h:aW F H)(hp:H p=none)(n:autoParam (dS o) L2.a4q._auto_1):Ext F H F (aD H p o):=⟨vk hp n,aW.refl _,h.trans<|aO hp,λx x q=>.inl q,λz=>z⟩
theorem Fr.grow(f:Fr C F H)(e:Ext F H F' H'):Fr C F' H':=⟨f.keep.trans e.hh,f.low.trans e.ff,e.sub,λb o h=>by
 rcases e.nw b o h with q|q
 ·exact f.base b o q
 ·exact .inr<|f.keep.un q,e.nt f.nt,e.hh.tg f.tg⟩
theorem none_of{α:Type _}{o:Option α}(h:∀w,o=some w->False):o=none:=by
 cases o with
 |none=>rfl
 |some w=>exact(h w rfl).elim
theorem dX.mov(h:dX H0 F H s o)(lo:aW F F')(k:∀p u,o=some (.ref p)->s.own=true->F p=none->H p=some u->Own u->F' p=none/\H' p=some u):dX H0 F' H' s o:=by
 cases s with
 |any=>trivial
 |fr r a=>exact aU h λv h1 h2=>aB v h1<|r.mono lo h2
 |ol r φ xs=>exact oq26 h λp vs h1 h0 h2 h3 h4 h5=>uS (k p _ h1 rfl h3 h4 trivial) λa b=>⟨p,vs,h1,h0,h2,a,b,(Paired.imp2 (λx x q=>r.mono lo q) h5)⟩
 |od r φ kvs=>exact oq26 h λp ws h1 h0 h2 h3 h4 h5=>uS (k p _ h1 rfl h3 h4 trivial) λa b=>⟨p,ws,h1,h0,h2,a,b,(Paired.imp2 (λx x q=>⟨q.1,r.mono lo q.2⟩) h5)⟩
 |ot r kvs=>exact oq25 h λp ws h1 h2 h3 h4 h5=>uS (k p _ h1 rfl h3 h4 trivial) λa b=>ye p ws h1 h2 a b<|Paired.imp2 (λx x q=>⟨q.1,r.mono lo q.2⟩) h5
theorem dX.grow(e:Ext F H F' H')(h:dX H0 F H s o):dX H0 F' H' s o:=h.mov e.ff λp x x x h1 h2 hu=>⟨none_of λw q=>(e.nw p w q).elim (λz=>nomatch h1.symm.trans z) λz=>vp z h2 hu,e.hh.kp _ _ hu.noTbl h2⟩
section
variable {C:Fc}{F H F' H':Hp}{Γ:List Slot}{σ:St}
theorem SR.grow(S:SR C F Γ σ H)(e:Ext F H F' H'):SR C F' Γ σ H':=⟨S.toFr.grow e,S.len,λi s h=>by obtain⟨o,h1,h2⟩:=S.at_ i s h;exact(aB o h1<|h2.grow e),S.inj⟩
theorem SR.fr{α:Type}{r:Rp α}{a:α}{i:Nat}(S:SR C F Γ σ H)(h:Γ[i]?=some (.fr r a)):∃v,σ[i]?=some (some v)/\r.rel F v a:=by obtain⟨o,h1,v,rfl,h2⟩:=S.at_ i _ h;exact(aB v h1 h2)
theorem qV{α:Type _}{l:List α}{x:α}(h:i<l.length):(l.set i x)[i]?=some x:=List.getElem?_set_self h
theorem eB{α:Type _}{l:List α}{x:α}(h:i≠j):(l.set i x)[j]?=l[j]?:=List.getElem?_set_ne h
theorem jR{α:Type _}{l:List α}{x y:α}(e:i=j)(hl:i<l.length)(h:(l.set i x)[j]?=some y):x=y:=by subst e;exact Z5<|(qV hl).symm.trans h
theorem gE{α:Type _}{l:List α}{x y:α}{Q:Prop}(h:(l.set i x)[j]?=some y)(f:i=j->x=y->i<l.length->Q)(g:i≠j->l[j]?=some y->Q):Q:=(Decidable.em<|i=j).elim (λe=>have hl:i<l.length:=by rw[e,<- N5];exact(Z7.mp h).1
 f e (jR e hl h) hl) λn=>g n<|(eB n).symm.trans h
theorem SR.pt(i:Nat)(S:SR C F Γ σ H)(fr:Fr C F' H')(k:∀(j:Nat) t,i≠j->Γ[j]?=some t->∃o,σ[j]?=some o/\dX C.H0 F' H' t o)(h:dX C.H0 F' H' s v)(np:s.own=true->∀p,v=some (.ref p)->∀(j:Nat) t,i≠j->Γ[j]?=some t->t.own=true->σ[j]?=some (some<|.ref p)->False):SR C F' (Γ.set i s) (σ.set i v) H':=by
 have lt:i<Γ.length->i<σ.length:=λl=>Nat.lt_of_lt_of_eq l S.len.symm;exact⟨fr,by rw[N5,N5];exact S.len,λj t q=>gE q (λe1 e2 l=>aB v (e1▸qV (lt l))<|e2▸h) λn q=>aU (k j t n q) λo h1 h2=>aB o ((eB n).trans h1) h2,
  λj m a t p q1 q2 o1 o2 e1 e2=>gE q1 (λa1 a2 l=>gE q2 (λb1 x x=>a1.symm.trans b1) λn q2=>(np (a2▸o1) p (jR a1 (lt l) e1) m t n q2 o2<|(eB n).symm.trans e2).elim) λn1 q1=>gE q2 (λb1 b2 l=>(np (b2▸o2) p (jR b1 (lt l) e2) j a n1 q1 o1<|(eB n1).symm.trans e1).elim) λn2 q2=>S.inj j m a t p q1 q2 o1 o2 ((eB n1).symm.trans e1)<|(eB n2).symm.trans e2⟩
theorem wZ{α:Type _}{l:List α}{a:α}(h:l[i]?=some a):l.set i a=l:=by
 apply List.ext_getElem?;intro j;by_cases e:i=j
 ·subst e;rw[qV (Z7.mp h).1,h]
 ·rw[eB e]
theorem SR.pk(S:SR C F Γ σ H)(hi:Γ[i]?=some s)(ho:s'.own=true->s.own=true)(e1:σ[i]?=some o)(fr:Fr C F' H')(k:∀(j:Nat) t,i≠j->Γ[j]?=some t->∃o,σ[j]?=some o/\dX C.H0 F' H' t o)(h:dX C.H0 F' H' s' o):SR C F' (Γ.set i s') σ H' :=
 wZ e1▸S.pt i fr k h λy p z j t n q o2 e2=>n<|S.inj i j s t p hi q (ho y) o2 (z▸e1) e2
theorem SR.mvAt{j:Nat}(S:SR C F Γ σ H)(q:Γ[j]?=some t)(lo:aW F F')(k:∀p u,t.own=true->σ[j]?=some (some<|.ref p)->F p=none->H p=some u->Own u->F' p=none/\H' p=some u):∃o,σ[j]?=some o/\dX C.H0 F' H' t o:=aU (S.at_ j t q) λo h1 h2=>aB o h1 (h2.mov lo λp u e ow f h ou=>k p u ow (e▸h1) f h ou)
theorem SR.oth{i j:Nat}(S:SR C F Γ σ H)(hi:Γ[i]?=some s)(ho:s.own=true)(hp:σ[i]?=some (some<|.ref p))(n:i≠j)(q:Γ[j]?=some t)(o:t.own=true)(e:σ[j]?=some (some<|.ref p')):p'≠p:=λz=>n<|S.inj i j s t p hi q ho o hp<|z▸e
theorem SR.setF{α:Type}{r:Rp α}{a:α}(i:Nat)(S:SR C F Γ σ H)(h:r.rel F v a):SR C F (Γ.set i<|.fr r a) (σ.set i<|some v) H:=S.pt i S.toFr (λj t x q=>S.at_ j t q) ⟨v,rfl,h⟩ λz=>nomatch z
theorem vq(hs:s.own=true)(h:dX H0 F H s (some<|.ref p)):∃u,H p=some u/\Own u:=by
 cases s with
 |any=>cases hs
 |fr r a=>cases hs
 |ol r φ xs=>obtain⟨p',vs,h1,_,_,_,h4,_⟩:=h;cases h1;exact(aB _ h4 trivial)
 |od r φ kvs=>obtain⟨p',vs,h1,_,_,_,h4,_⟩:=h;cases h1;exact(aB _ h4 trivial)
 |ot r kvs=>obtain⟨p',us,h1,_,_,h4,_⟩:=h;cases h1;exact(aB _ h4 trivial)
theorem SR.np{j:Nat}(S:SR C F Γ σ H)(hp:H p=none)(q:Γ[j]?=some t)(o:t.own=true)(e:σ[j]?=some (some<|.ref p)):False:=aU (S.at_ j t q) λo' h1 h2=>aU (vq o<|Z5 (h1.symm.trans e)▸h2) λx z x=>nomatch hp.symm.trans z
theorem xf(hs:s.own=true)(h:dX H0 F (aD H p u) s (some<|.ref p)):Own u:=aU (vq hs h) λx e1 e2=>Z5 (af.symm.trans e1)▸e2
theorem SR.setO(i:Nat)(S:SR C F Γ σ H)(hp:H p=none)(hs:s.own=true)(h:dX C.H0 F (aD H p u) s (some<|.ref p)):SR C F (Γ.set i s) (σ.set i<|some<|.ref p) (aD H p u):=by have e:Ext F H F (aD H p u):=Ext.newH S.sub hp (xf hs h).noTbl;exact S.pt i (S.toFr.grow e) (λj t x q=>(S.grow e).at_ j t q) h λx p' z j t x q o e=>S.np hp q o<|e.trans<|congrArg some z.symm
theorem SR.chg(S:SR C F Γ σ H)(hi:Γ[i]?=some s)(ho:s.own=true)(hp:σ[i]?=some (some<|.ref p))(h0:C.H0 p=none)(hF:F p=none)(hs:s'.own=true)(h:dX C.H0 F (aD H p u) s' (some<|.ref p)):
  SR C F (Γ.set i s') σ (aD H p u):=by
 obtain⟨o,z1,z2⟩:=S.at_ i s hi;obtain⟨u0,hu0,ou0⟩:=vq ho<|Z5 (z1.symm.trans hp)▸z2;have ou:=xf hs h;exact S.pk hi (λx=>ho) hp ⟨Az S.keep h0 hu0 ou0 ou,S.low,λb o q=>bS (ai q hF)<|S.sub b o q,S.base,S.nt,S.tg.pokO ou.noTbl hu0 ou0⟩ (λj t n q=>S.mvAt q (aW.refl _) λp' x o e f hu x=>⟨f,bS (S.oth hi ho hp n q o e) hu⟩) h
end
inductive SubS:Slot->Slot->Prop where
 |any {s:Slot}:SubS s .any
 |rfl {s:Slot}:SubS s s
 |frz {α:Type} {r:Rp α} {φ:ZF} {xs:List α}:SubS (.ol r φ xs) (.fr (rL r) xs)
 |frd {α:Type} {r:Rp α} {φ:ZF} {kvs:List (Int×α)}:SubS (.od r φ kvs) (.fr (rD r) kvs)
 |ttD {α:Type} {r:Rp α} {φ:ZF} {kvs:List (Int×α)}:SubS (.od r φ kvs) (.od r lX kvs)
 |tt {α:Type} {r:Rp α} {φ:ZF} {xs:List α}:SubS (.ol r φ xs) (.ol r lX xs)
inductive SubL:List Slot->List Slot->Prop where
 |nil:SubL [] []
 |cons {s s':Slot} {Γ Γ':List Slot}:SubS s s'->SubL Γ Γ'->SubL (s ::Γ) (s' ::Γ')
theorem aw(h:SubL Γ Γ'):SubL (s ::Γ) (s ::Γ'):=.cons .rfl h
theorem bI(h:SubL Γ Γ'):SubL (s ::Γ) (.any ::Γ'):=.cons .any h
theorem SR.freeze(S:SR C F Γ σ H)(hi:Γ[i]?=some s)(p:Addr)(u:HO)(s':Slot)(hs':s'.own=false)(hs:s.own=true)(e1:σ[i]?=some (some<|.ref p))(e2:C.H0 p=none)(e3:F p=none)(e4:H p=some u)(e5:dX C.H0 (aD F p u) H s' (some<|.ref p))(ou:Own u):SR C (aD F p u) (Γ.set i s') σ H :=
 S.pk hi (λx=>hs) e1 ⟨S.keep,S.low.trans<|aO e3,λb o q=>jt q (λa b=>a▸b▸e4) λx q=>S.sub b o q,λb o q=>jt q (λe x=>.inr<|qh<|e▸e2) λx q=>S.base b o q,kR S.nt ou.noTbl,S.tg⟩ (λj t n q=>S.mvAt q (aO e3) λp' x o e f hu x=>⟨(ak<|S.oth hi hs e1 n q o e).trans f,hu⟩) e5
theorem SR.weak1(S:SR C F Γ σ H)(hi:Γ[i]?=some s)(h:SubS s s'):∃F',aW F F'/\SR C F' (Γ.set i s') σ H:=by
 have stay:∀s',(∀o,dX C.H0 F H s o->dX C.H0 F H s' o)->(s'.own=true->s.own=true)->∃F',aW F F'/\SR C F' (Γ.set i s') σ H:=λs' h1 h2=>aU (S.at_ i s hi) λo z1 z2=>aB F (aW.refl _)<|S.pk hi h2 z1 S.toFr (λj t x q=>S.at_ j t q)<|h1 o z2;cases h with
 |any=>exact stay _ (λx x=>trivial) (λz=>by cases z)
 |rfl=>exact stay _ (λx z=>z) λz=>z
 |tt=>exact stay _ (λ_ ⟨p,vs,a,_,b⟩=>⟨p,vs,a,trivial,b⟩) λz=>z
 |ttD=>exact stay _ (λ_ ⟨p,vs,a,_,b⟩=>⟨p,vs,a,trivial,b⟩) λz=>z
 |frz =>refine dM (S.at_ i _ hi) λp vs h1 h2 h3 h4 h5 h6=>?_;exact(aB _ (aO h4)<|S.freeze hi p _ _ rfl rfl h1 h3 h4 h5 ⟨_,rfl,p,vs,rfl,Rd.of af,Paired.imp2 (λx x z=>Rp.mono _ (aO h4) z) h6⟩ trivial)
 |frd =>refine dM (S.at_ i _ hi) λp vs h1 h2 h3 h4 h5 h6=>?_;exact(aB _ (aO h4)<|S.freeze hi p _ _ rfl rfl h1 h3 h4 h5 ⟨_,rfl,p,vs,rfl,af,Paired.imp2 (λx x z=>⟨z.1,Rp.mono _ (aO h4) z.2⟩) h6⟩ trivial)
theorem SR.weakL(h:SubL Γ Γ'):∀(Δ:List Slot) {F:Hp},SR C F (Δ++Γ) σ H->∃F',aW F F'/\SR C F' (Δ++Γ') σ H:=by
 induction h with
 |nil=>exact λΔ F S=>(aB F (aW.refl _) S)
 |@cons s s' Γ Γ' h1 _ ih =>
  intro Δ F S;obtain⟨F1,e1,S1⟩:=S.weak1 (i:=Δ.length) (s:=s) (s':=s') (by simp) h1;have e:(Δ++s ::Γ).set Δ.length s'=(Δ++[s'])++Γ:=by simp
  rw[e]at S1;obtain⟨F2,e2,S2⟩:=ih (Δ++[s']) S1;exact(aB F2 (e1.trans e2) (by simpa using S2))
theorem SR.weak(S:SR C F Γ σ H)(h:SubL Γ Γ'):∃F',aW F F'/\SR C F' Γ' σ H:=SR.weakL h [] S
theorem SR.lower(S:SR C F Γ σ H):SR {C with L:=F} F Γ σ H:=⟨⟨S.keep,aW.refl _,S.sub,S.base,S.nt,S.tg⟩,S.len,S.at_,S.inj⟩
theorem SR.raise(S:SR {C with L:=F} F1 Γ σ H)(h:aW C.L F):SR C F1 Γ σ H:=⟨⟨S.keep,h.trans S.low,S.sub,S.base,S.nt,S.tg⟩,S.len,S.at_,S.inj⟩
theorem Fr.raise(S:Fr {C with L:=F} F1 H)(h:aW C.L F):Fr C F1 H:=⟨S.keep,h.trans S.low,S.sub,S.base,S.nt,S.tg⟩
end
end L2
namespace Pu
theorem bs{α β:Type}{a:α}{f:α->Option β}:(some a).bind f=f a:=Eq.trans (cT a f)<|Eq.refl _
def jv(i j:Int):Option Int:=if 0<j/\j<2^64 then some (i/j) else none
def fmod(i j:Int):Option Int:=if 0<j then some (i%j) else none
def mul(i j:Int):Option Int:=if (-(2^64)<i/\i<2^64)\/(-(2^64)<j/\j<2^64) then some (i*j) else none
def pow(i j:Int):Option Int:=if 0<=j/\j<=1000000/\i.natAbs<2^64 then some (i^j.toNat) else none
def mn(i j:Int):Int:=if j<i then j else i
def mx(i j:Int):Int:=if j > i then j else i
def ab(i:Int):Int:=if i<0 then -i else i
def ofb(b:Bool):Int:=if b then 1 else 0
abbrev at_{α:Type}(xs:List α)(i:Int):Option α:=L2.atI xs i
def ln{α:Type}(xs:List α):Int:=xs.length
def cut{α:Type}(xs:List α)(lo hi:ZI):List α:=(xs.drop<|HT.pZ xs.length 0 lo).take (HT.pZ xs.length xs.length hi-HT.pZ xs.length 0 lo)
def app{α:Type}(xs:List α)(a:α):Option (List α):=if xs.length<16777216 then some (xs++[a]) else none
def cat{α:Type}(xs ys:List α):Option (List α):=if xs.length+ys.length<=16777216 then some (xs++ys) else none
def nats(n:Nat):List Int:=(X5 n).map λ(i:Nat)=>(i:Int)
def jw(j:Int):Option (List Int):=if -(2^62)<=j/\j<2^62 then some (nats j.toNat) else none
def tw(i j:Int):Option (List Int):=if -(2^62)<=i/\i<2^62/\-(2^62)<=j/\j<2^62 then some ((X5 (j-i).toNat).map λ(k:Nat)=>i+(k:Int)) else none
def qW{α:Type}(xs:List α):List (Int×α):=(xs.zipIdx).map λp=>((p.2:Int),p.1)
def find{α:Type}(kvs:List (Int×α))(k:Int):Option α:=(kvs.find? λkv=>decide<|kv.1=k).map (·.2)
def put{α:Type}(kvs:List (Int×α))(k:Int)(v:α):List (Int×α) :=
 if (kvs.any λkv=>decide<|kv.1=k)=true then kvs.map (λkv=>if kv.1=k then (kv.1,v) else kv) else kvs++[(k,v)]
def qi{β α:Type}(f:β->Option α):List β->Option (List α)
 |[]=>some []
 |x ::xs=>(f x).bind λa=>(qi f xs).bind λas=>some (a ::as)
def c6{β α:Type}(t:β->Option Bool)(f:β->Option α):List β->Option (List α)
 |[]=>some []
 |x ::xs=>(t x).bind λb=>if b=true then (f x).bind λa=>(c6 t f xs).bind λas=>some (a ::as) else c6 t f xs
def comp{β α:Type}(f:β->Option α)(xs:List β):Option (List α):=if xs.length<=16777216 then qi f xs else none
def cw{β α:Type}(t:β->Option Bool)(f:β->Option α)(xs:List β):Option (List α):=if xs.length<=16777216 then c6 t f xs else none
inductive Ctl(S R:Type) where
 |nx (s:S)|bk (s:S)|rt (r:R)
def bB{S β:Type}(f:S->β->Option S):List β->S->Option S
 |[],s=>some s
 |x ::xs,s=>(f s x).bind λs=>bB f xs s
def iB{S R β:Type}(f:S->β->Option (Ctl S R)):List β->S->Option (Ctl S R)
 |[],s=>some<|.nx s
 |x ::xs,s=>(f s x).bind λc=>match c with
  |.nx s=>iB f xs s
  |.bk s=>some<|.nx s
  |.rt r=>some<|.rt r
def zH{S:Type}(t:S->Option Bool)(f:S->Option S):Nat->S->Option S
 |0,_=>none
 |n+1,s=>(t s).bind λb=>if b=true then (f s).bind λs=>zH t f n s else some s
theorem qj{S β:Type}{f:S->β->Option S}{x:β}{xs:List β}{s:S}:bB f (x ::xs) s=(f s x).bind λs=>bB f xs s:=rfl
theorem yH{S R β:Type}{f:S->β->Option (Ctl S R)}{x:β}{xs:List β}{s:S}:iB f (x ::xs) s=(f s x).bind λc=>match c with
  |.nx s=>iB f xs s
  |.bk s=>some<|.nx s
  |.rt r=>some (.rt r):=rfl
theorem tD{S:Type}{t:S->Option Bool}{f:S->Option S}{s:S}:zH t f (n+1) s=(t s).bind λb=>if b=true then (f s).bind λs=>zH t f n s else some s:=rfl
theorem vt{β α:Type}{f:β->Option α}{x:β}{xs:List β}:qi f (x ::xs)=(f x).bind λa=>(qi f xs).bind λas=>some (a ::as):=rfl
def andThen{S R T:Type}(o:Option (Ctl S R))(k:S->Option T)(e:R->T):Option T:=o.bind λc=>match c with
 |.nx s=>k s
 |.bk s=>k s
 |.rt r=>some<|e r
end Pu
namespace L2
section
open PySem PySem.Spec PyProof.Rows
theorem a9{α β:Type}{o:Option α}{f:α->Option β}{b:β}(h:o.bind f=some b):∃a,o=some a/\f a=some b:=by
 cases o with
 |none=>cases h
 |some a=>exact(aB a rfl h)
variable [Kn:Kon]
section
variable (Γ:List Slot){α:Type}
def EV(t:TE)(o:Option α)(r:Rp α):Prop:=∀C F σ H Q a,SR C F Γ σ H->o=some a->(∀v F' H',Ext F H F' H'->r.rel F' v a->Q v H')->t σ H Q
def i4(t:TE)(o:Option (List α))(r:Rp α):Prop:=∀C F σ H Q xs,SR C F Γ σ H->o=some xs->(∀p vs F' H1,Ext F H F' H1->H1 p=none->Paired (r.rel F') vs xs->Q (.ref p) (aD H1 p<|.lst vs))->t σ H Q
def EVD(t:TE)(o:Option (List<|Int×α))(r:Rp α):Prop:=∀C F σ H Q kvs,SR C F Γ σ H->o=some kvs->(∀p ws F' H1,Ext F H F' H1->H1 p=none->Paired (cV r F') ws kvs->Q (.ref p) (aD H1 p<|.dK ws))->t σ H Q
def ET(t:TT)(o:Option Bool):Prop:=∀C F σ H Q b,SR C F Γ σ H->o=some b->(∀F' H',Ext F H F' H'->Q b H')->t σ H Q
structure Walks(J:It)(F:Hp){β:Type}(r:Rp β)(xs:List β):Prop where
 go:∀i H,aW F H->i<xs.length->J.go i H
 stop:∀H,aW F H->J.stop xs.length H
 yld:∀i H x H' F1,aW F H->i<xs.length->J.yld i H x H'->aW F F1->aW F1 H->∃F2 a,xs[i]?=some a/\Ext F1 H F2 H'/\r.rel F2 x a
def IV(t:TI)(o:Option (List α))(r:Rp α):Prop:=∀C F σ H R xs,SR C F Γ σ H->o=some xs->(∀J F' H',Ext F H F' H'->Walks J F' r xs->R J H')->t σ H R
def EO(t:TO)(o:Option (Option Int)):Prop:=∀C F σ H Q a,SR C F Γ σ H->o=some a->(∀F' H',Ext F H F' H'->Q a H')->t σ H Q
end
section
variable {Γ:List Slot}{α β γ:Type}{r:Rp α}{s:Rp β}{ta tb tc:TE}{oa:Option α}{ob:Option β}{K:Z3}
theorem ag(i:Nat)(h:Γ[i]?=some (.fr r a)):EV Γ (bF i) (some a) r:=by intro C F σ H Q a' S e k;cases e;obtain⟨v,h1,h2⟩:=S.fr h;exact⟨v,h1,k v F H (Ext.refl S.sub) h2⟩
theorem ev_c(h:∀F,r.rel F v a):EV Γ (tC v) (some a) r:=by intro C F σ H Q a' S e k;cases e;exact k v F H (Ext.refl S.sub)<|h F
theorem am:EV Γ (tC<|.int n) (some n) a8:=ev_c λx=>rfl
theorem lD:EV Γ (tC<|.bl b) (some b) bq:=ev_c λx=>rfl
theorem i5:EV Γ (tC .non) (some none) (cF r):=ev_c λx=>rfl
theorem EV.cast(h:EV Γ t o r)(e:o'=o):EV Γ t o' r:=e▸h
theorem gc(h:EV Γ t oa r):EV Γ t (oa.bind λa=>some<|some a) (cF r):=by intro C F σ H Q a' S e k;obtain⟨a,e1,e2⟩:=a9 e;cases e2;exact h C F σ H Q a S e1 k
theorem nz(h:EV Γ t o (cF r)):EV Γ t (o.bind λa=>a) r:=by intro C F σ H Q a' S e k;obtain⟨a,e1,rfl⟩:=a9 e;exact h C F σ H Q _ S e1 k
theorem EV.two{q:V->V->Hp->Prop}(ha:EV Γ ta oa r)(hb:EV Γ tb ob s)(S:SR C F Γ σ H)(e1:oa=some a)(e2:ob=some b)(k:∀x y F' H',Ext F H F' H'->r.rel F' x a->s.rel F' y b->q x y H'):ta σ H λx H1=>tb σ H1 λy H2=>q x y H2 :=
 ha C F σ H _ a S e1 λx F1 H1 x1 r1=>hb C F1 σ H1 _ b (S.grow x1) e2 λy F2 H2 x2 r2=>k x y F2 H2 (x1.trans x2) (r.mono x2.ff r1) r2
theorem jS{f:α->β->Option γ}(hR:∀F H x y a b c Q,aW F H->r.rel F x a->s.rel F y b->f a b=some c->(∀v,t.rel F v c->Q v H)->R x y H Q)(ha:EV Γ ta oa r)(hb:EV Γ tb ob s):
  EV Γ (iw R ta tb) (oa.bind λa=>ob.bind λb=>f a b) t:=by
 intro C F σ H Q c S e k;obtain⟨a,e1,e⟩:=a9 e;obtain⟨b,e2,e3⟩:=a9 e;exact EV.two ha hb S e1 e2 λx y F' H' x1 r1 r2=>hR F' H' x y a b c _ x1.sub r1 r2 e3 λv rv=>k v F' H' x1 rv
theorem xg{g:Int->Int->V}{f:Int->Int->γ}(hg:∀H i j,t.rel H (g i j) (f i j))(ha:EV Γ ta ox a8)(hb:EV Γ tb oy a8):EV Γ (iw (uO g) ta tb) (ox.bind λa=>oy.bind λb=>some<|f a b) t :=
 jS (λF H x y a b c Q h r1 r2 e k=>by cases e;exact⟨a,b,r1,r2,k _<|hg F a b⟩) ha hb
theorem ev_i{Cn:Int->Int->Prop}{g:Int->Int->V}{f:Int->Int->Option γ}(hg:∀H i j c,f i j=some c->Cn i j/\t.rel H (g i j) c)(ha:EV Γ ta ox a8)(hb:EV Γ tb oy a8):
  EV Γ (iw (rI Cn g) ta tb) (ox.bind λa=>oy.bind λb=>f a b) t :=
 jS (λF H x y a b c Q h r1 r2 e k=>by obtain⟨h1,h2⟩:=hg F a b c e;exact⟨a,b,r1,r2,h1,k _ h2⟩) ha hb
section
variable {ox oy:ZI}
theorem aX(ha:EV Γ ta ox a8)(hb:EV Γ tb oy a8):EV Γ (iw (uO λi j=>.int<|i+j) ta tb) (ox.bind λa=>oy.bind λb=>some<|a+b) a8:=xg (λx x x=>rfl) ha hb
theorem kT(ha:EV Γ ta ox a8)(hb:EV Γ tb oy a8):EV Γ (iw (uO λi j=>.int<|i-j) ta tb) (ox.bind λa=>oy.bind λb=>some<|a-b) a8:=xg (λx x x=>rfl) ha hb
theorem ev_lt(ha:EV Γ ta ox a8)(hb:EV Γ tb oy a8):EV Γ (iw (uO λi j=>.bl<|decide<|i<j) ta tb) (ox.bind λa=>oy.bind λb=>some<|decide<|a<b) bq:=xg (λx x x=>rfl) ha hb
theorem ev_gt(ha:EV Γ ta ox a8)(hb:EV Γ tb oy a8):EV Γ (iw (uO λi j=>.bl<|decide<|j<i) ta tb) (ox.bind λa=>oy.bind λb=>some<|decide<|b<a) bq:=xg (λx x x=>rfl) ha hb
set_option tactic.hygienic true in
theorem fJ(ha:EV Γ ta ox a8)(hb:EV Γ tb oy a8):EV Γ (iw (rI yk λi j=>.int<|i*j) ta tb) (ox.bind λa=>oy.bind λb=>Pu.mul a b) a8:=ev_i (λx i j c e=>by
 unfold Pu.mul at e;split at e
 ·rename_i h;cases e;exact⟨h,rfl⟩
 ·cases e) ha hb
set_option tactic.hygienic true in
theorem iI(ha:EV Γ ta ox a8)(hb:EV Γ tb oy a8):EV Γ (iw (rI (λx j=>0<j) λi j=>.int<|i%j) ta tb) (ox.bind λa=>oy.bind λb=>Pu.fmod a b) a8:=ev_i (λx i j c e=>by
 unfold Pu.fmod at e;split at e
 ·rename_i h;cases e;exact⟨h,rfl⟩
 ·cases e) ha hb
set_option tactic.hygienic true in
theorem gd(ha:EV Γ ta ox a8)(hb:EV Γ tb oy a8):EV Γ (iw (rI (λx j=>0<j/\j<2^64) λi j=>.int<|i/j) ta tb) (ox.bind λa=>oy.bind λb=>Pu.jv a b) a8:=ev_i (λx i j c e=>by
 unfold Pu.jv at e;split at e
 ·rename_i h;cases e;exact⟨h,rfl⟩
 ·cases e) ha hb
set_option tactic.hygienic true in
theorem ev_pow(ha:EV Γ ta ox a8)(hb:EV Γ tb oy a8):EV Γ (iw (rI CPow λi j=>.int<|i^j.toNat) ta tb) (ox.bind λa=>oy.bind λb=>Pu.pow a b) a8:=ev_i (λx i j c e=>by
 unfold Pu.pow at e;split at e
 ·rename_i h;cases e;exact⟨h,rfl⟩
 ·cases e) ha hb
theorem AA(ha:EV Γ ta ox a8):EV Γ (tUn (rU λi=>.int<|-i) ta) (ox.bind λa=>some<|-a) a8:=by intro C F σ H Q c S e k;obtain⟨a,e1,e⟩:=a9 e;cases e;exact ha C F σ H _ a S e1 λv F' H' x1 r1=>⟨a,r1,k _ F' H' x1 rfl⟩
end
theorem fL{f:α->β->Bool}(hf:∀H x y a b,r.rel H x a->s.rel H y b->sQ x y=true/\decide (x=y)=f a b)(ha:EV Γ ta oa r)(hb:EV Γ tb ob s):EV Γ (iw rEq ta tb) (oa.bind λa=>ob.bind λb=>some<|f a b) bq :=
 jS (λF H x y a b c Q h r1 r2 e k=>by cases e;obtain⟨h1,h2⟩:=hf F x y a b r1 r2;exact⟨h1,by rw[h2];exact k _ rfl⟩) ha hb
theorem iJ{f:α->β->Bool}(hf:∀H x y a b,r.rel H x a->s.rel H y b->sQ x y=true/\decide (x=y)=f a b)(ha:EV Γ ta oa r)(hb:EV Γ tb ob s):EV Γ (iw rNe ta tb) (oa.bind λa=>ob.bind λb=>some<|!f a b) bq :=
 jS (λF H x y a b c Q h r1 r2 e k=>by cases e;obtain⟨h1,h2⟩:=hf F x y a b r1 r2;exact⟨h1,by rw[h2];exact k _ rfl⟩) ha hb
theorem gf(H:Hp)(x y:V)(a b:Int)(h1:a8.rel H x a)(h2:a8.rel H y b):sQ x y=true/\decide (x=y)=decide (a=b):=by cases h1;cases h2;exact⟨rfl,by rw[V5];simp⟩
theorem sc_bb(H:Hp)(x y:V)(a b:Bool)(h1:bq.rel H x a)(h2:bq.rel H y b):sQ x y=true/\decide (x=y)=decide (a=b):=by cases h1;cases h2;exact⟨rfl,by rw[V5];simp⟩
theorem sc_oi(H:Hp)(x y:V)(a:ZI)(b:Int)(h1:(cF a8).rel H x a)(h2:a8.rel H y b):sQ x y=true/\decide (x=y)=decide (a=some b):=by
 cases h2;cases a with
 |none=>cases h1;exact⟨rfl,by rw[V5];simp⟩
 |some i=>cases h1;exact⟨rfl,by rw[V5];simp⟩
theorem sc_oo(H:Hp)(x y:V)(a b:ZI)(h1:(cF a8).rel H x a)(h2:(cF a8).rel H y b):sQ x y=true/\decide (x=y)=decide (a=b):=by
 cases a with
 |none =>
  cases h1;cases b with
  |none=>cases h2;exact⟨rfl,by rw[V5];simp⟩
  |some i=>cases h2;exact⟨rfl,by rw[V5];simp⟩
 |some j =>
  cases h1;cases b with
  |none=>cases h2;exact⟨rfl,by rw[V5];simp⟩
  |some i=>cases h2;exact⟨rfl,by rw[V5];simp⟩
theorem vw(ha:EV Γ ta o (cF r))(hr:∀F a,¬ r.rel F .non a):EV Γ (iw (λx y H Q=>y=.non/\Q (.bl<|decide<|x=.non) H) ta<|tC .non) (o.bind λa=>some a.isNone) bq:=by
 intro C F σ H Q c S e k;obtain⟨a,e1,e⟩:=a9 e;cases e;refine ha C F σ H _ a S e1 λv F' H' x1 r1=>⟨rfl,?_⟩;have:decide (v=.non)=a.isNone:=by
  cases a with
  |none=>cases r1;rfl
  |some x=>exact decide_eq_false λz=>hr F' x (by subst z;exact r1)
 rw[this];exact k _ F' H' x1 rfl
theorem xh(ha:EV Γ ta o (cF r))(hr:∀F a,¬ r.rel F .non a):EV Γ (iw (λx y H Q=>y=.non/\Q (.bl<|!decide (x=.non)) H) ta<|tC .non) (o.bind λa=>some a.isSome) bq:=by
 intro C F σ H Q c S e k;obtain⟨a,e1,e⟩:=a9 e;cases e;refine ha C F σ H _ a S e1 λv F' H' x1 r1=>⟨rfl,?_⟩;have:(!decide (v=.non))=a.isSome:=by
  cases a with
  |none=>cases r1;rfl
  |some x=>show (!decide (v=.non))=true;rw[decide_eq_false λz=>hr F' x (by subst z;exact r1)];rfl
 rw[this];exact k _ F' H' x1 rfl
theorem nA(F:Hp)(a:Int):¬ a8.rel F .non a:=λh=>nomatch h
theorem AB{g g':Int->Int->Bool}(ha:EV Γ ta ox a8)(hb:EV Γ tb oy a8)(hc:EV Γ tc oz a8):
  EV Γ (qH (uO λi j=>.bl<|g i j) (uO λi j=>.bl<|g' i j) ta tb tc) (ox.bind λa=>oy.bind λb=>if g a b=true then oz.bind λc=>some (g' b c) else some false) bq:=by
 intro C F σ H Q d S e k;obtain⟨a,e1,e⟩:=a9 e;obtain⟨b,e2,e⟩:=a9 e;refine EV.two ha hb S e1 e2 λx y F' H' x1 r1 r2=>⟨a,b,r1,r2,g a b,rfl,?_⟩;by_cases h:g a b=true
 ·rw[if_pos h]at e ⊢;obtain⟨c,e3,e⟩:=a9 e;cases e;exact hc C F' σ H' _ c (S.grow x1) e3 λz F2 H2 x2 r3=>⟨b,c,r2,r3,k _ F2 H2 (x1.trans x2) rfl⟩
 ·rw[if_neg h]at e ⊢;cases e;exact k _ F' H' x1 rfl
section
variable {t u:TT}{o o':Option Bool}
theorem cj(h:EV Γ ta o bq):ET Γ (zU ta) o:=λC F σ H Q b S e k=>h C F σ H _ b S e λv F' H' x1 r1=>(aB b r1<|k F' H' x1)
theorem lY(h:EV Γ ta o bq):ET Γ (tB ta) o:=λC F σ H Q b S e k=>h C F σ H _ b S e λv F' H' x1 r1=>(aB b r1<|k F' H' x1)
theorem et_and(h:ET Γ t o)(h':ET Γ u o'):ET Γ (tAnd t u) (o.bind λb=>if b=true then o' else some false):=by
 intro C F σ H Q d S e k;obtain⟨a,e1,e⟩:=a9 e;refine h C F σ H _ a S e1 λF' H' x1=>?_;cases a with
 |true=>exact h' C F' σ H' _ d (S.grow x1) e λF2 H2 x2=>k F2 H2<|x1.trans x2
 |false=>cases e;exact k F' H' x1
theorem AC(h:ET Γ t o)(h':ET Γ u o'):ET Γ (tOr t u) (o.bind λb=>if b=true then some true else o'):=by
 intro C F σ H Q d S e k;obtain⟨a,e1,e⟩:=a9 e;refine h C F σ H _ a S e1 λF' H' x1=>?_;cases a with
 |true=>cases e;exact k F' H' x1
 |false=>exact h' C F' σ H' _ d (S.grow x1) e λF2 H2 x2=>k F2 H2<|x1.trans x2
theorem jx(h:ET Γ t o):ET Γ (tNot t) (o.bind λb=>some<|!b):=by intro C F σ H Q d S e k;obtain⟨a,e1,e⟩:=a9 e;cases e;exact h C F σ H _ a S e1 λF' H' x1=>k F' H' x1
theorem et_true:ET Γ Au (some true):=λC F σ H Q b S e k=>by cases e;exact k F H<|Ext.refl S.sub
theorem xi(sq:Sq K rl r)(h:EV Γ ta ol rl):ET Γ (tTru K ta) (ol.bind λxs=>some<|!xs.isEmpty):=by
 intro C F σ H Q d S e k;obtain⟨a,e1,e⟩:=a9 e;cases e;refine h C F σ H _ a S e1 λv F' H' x1 hv=>?_;obtain⟨p,vs,e2,h2,h3⟩:=sq.get hv;refine(aB (!vs.isEmpty) ?_ ?_)
 ·subst e2;exact .inl<|aB vs (x1.sub.seq h2) rfl
 ·have:(!vs.isEmpty)=!a.isEmpty:=by cases h3<;>rfl
  rw[this];exact k F' H' x1
theorem ev_not(h:EV Γ ta o bq):EV Γ (tNotV ta) (o.bind λb=>some<|!b) bq:=by intro C F σ H Q d S e k;obtain⟨a,e1,e⟩:=a9 e;cases e;exact h C F σ H _ a S e1 λv F' H' x1 r1=>(aB a r1<|k _ F' H' x1 rfl)
theorem ev_and(h:EV Γ ta o bq)(h':EV Γ tb o' bq):EV Γ (zK ta tb) (o.bind λb=>if b=true then o' else some false) bq:=by
 intro C F σ H Q d S e k;obtain⟨a,e1,e⟩:=a9 e;refine h C F σ H _ a S e1 λv F' H' x1 r1=>(aB a r1 ?_);cases a with
 |true=>exact h' C F' σ H' _ d (S.grow x1) e λw F2 H2 x2 r2=>k w F2 H2 (x1.trans x2) r2
 |false=>cases e;exact k _ F' H' x1 rfl
theorem vx(ht:ET Γ t o)(ha:EV Γ ta oa r)(hb:EV Γ tb oa' r):EV Γ (tIf t ta tb) (o.bind λb=>if b=true then oa else oa') r:=by
 intro C F σ H Q d S e k;obtain⟨a,e1,e⟩:=a9 e;refine ht C F σ H _ a S e1 λF' H' x1=>?_;cases a with
 |true=>exact ha C F' σ H' _ d (S.grow x1) e λw F2 H2 x2 r2=>k w F2 H2 (x1.trans x2) r2
 |false=>exact hb C F' σ H' _ d (S.grow x1) e λw F2 H2 x2 r2=>k w F2 H2 (x1.trans x2) r2
end
end
end
section
open PySem PySem.Spec PyProof.Rows
variable [Kn:Kon]
theorem vy{α:Type}{r:V->α->Prop}{xs:List α}{a:α}(p:Paired r vs xs)(h:atI xs i=some a):∃v,atI vs i=some v/\r v a:=by unfold atI at h ⊢;rw[p.length];obtain⟨j,e1,e2⟩:=a9 h;obtain⟨v,h1,h2⟩:=cJ p e2;exact(aB v (by rw[e1];exact h1) h2)
theorem vz{α:Type}{r:V->α->Prop}{xs:List α}{lo hi:ZI}(p:Paired r vs xs):Paired r (yv vs lo hi) (Pu.cut xs lo hi):=by unfold yv Pu.cut;rw[p.length];exact Paired.takeB _<|Paired.dropB _ p
theorem gh{α:Type}{r:Rp α}:∀{ws:List (Key×V)} {kvs:List (Int×α)},Paired (cV r F) ws kvs->(∀a,Pu.find kvs k=some a->∃v,cU ws (.inl k)=some v/\r.rel F v a)/\(Pu.find kvs k=none->cU ws (.inl k)=none):=λp=>by
 induction p with
 |nil=>exact⟨λa h=>(nomatch h),λx=>rfl⟩
 |@cons w kv ws kvs h t ih =>
  obtain⟨e1,e2⟩:=h;by_cases q:kv.1=k
  ·have e3:w.1=Sum.inl k:=by rw[e1,q]
   have ef:Pu.find (kv ::kvs) k=some kv.2:=by unfold Pu.find;rw[List.find?_cons_of_pos (by simpa using q)];rfl
   rw[ef,fF e3];exact⟨λa h=>by cases h;exact(aB _ rfl e2),λh=>(nomatch h)⟩
  ·have e3:¬ w.1=Sum.inl k:=by rw[e1];intro z;exact q<|Sum.inl.inj z
   have ef:Pu.find (kv ::kvs) k=Pu.find kvs k:=by unfold Pu.find;rw[List.find?_cons_of_neg (by simpa using q)]
   rw[ef,fG e3];exact ih
theorem Paired.mapB{α β α' β':Type}{F:α->β->Prop}{G:α'->β'->Prop}{f:α->α'}{g:β->β'}(h:∀a b,F a b->G (f a) (g b)):∀{l:List α} {m:List β},Paired F l m->Paired G (l.map f) (m.map g):=λp=>by
 induction p with
 |nil=>exact .nil
 |cons r _ ih=>exact .cons (h _ _ r) ih
theorem nB{α:Type}{r:Rp α}:∀{ws:List (Key×V)} {kvs:List (Int×α)},Paired (cV r F) ws kvs->(ws.any λkv=>decide<|kv.1=Sum.inl k)=kvs.any λkv=>decide (kv.1=k):=λp=>by
 induction p with
 |nil=>rfl
 |cons h _ ih =>rw[G6,G6,ih,h.1];congr 1;rw[V5];simp
theorem vA{α:Type}{r:Rp α}{a:α}(hv:r.rel F v a){kvs:List (Int×α)}(p:Paired (cV r F) ws kvs):Paired (cV r F) (putK ws (.inl k) v) (Pu.put kvs k a):=by
 unfold putK Pu.put;rw[nB p];split
 ·refine Paired.mapB (λw kv h=>?_) p;by_cases q:kv.1=k
  ·rw[if_pos q,if_pos (by rw[h.1,q])];exact⟨h.1,hv⟩
  ·rw[if_neg q,if_neg (by rw[h.1];intro z;exact q<|Sum.inl.inj z)];exact h
 ·exact Paired.app p<|.cons ⟨rfl,hv⟩ .nil
section
variable {X:Cx}
def AD:R2:=λx y H Q=>∃l b xs zs,x=.ref l/\y=.ref b/\Rd H l (.lst xs)/\Rd H b (.lst zs)/\xs.length+zs.length<=W3/\∀p,H p=none->Q (.ref p) (aD H p<|.lst<|xs++zs)
theorem xj:jg X (binaryOp .Add) AD:=by
 intro ZY s σ H x y v u Q I rx ry h;obtain⟨l,b,xs,zs,rfl,rfl,hH,hB,hz,q⟩:=h;cases rx;cases ry;obtain⟨z,its,n,r,e⟩:=(show bn X.prog X.w H s.heap l (.lst xs) from hH.ok I.hok);obtain⟨z2,its2,n2,r2,e2⟩:=(show bn X.prog X.w H s.heap b (.lst zs) from hB.ok I.hok);have hl:=r.length;have hl2:=r2.length;refine PySem.P.add_list e e2 ?_ (by rw[Y6,Y6];lia);have ea:its.toArray++its2.toArray=(its++its2).toArray:=by simp
 rw[ea];exact⟨.ref _,_,I.lnew (t':=s.toks) (r.append r2) (by rw[Y9];lia),rfl,q _ I.fresh⟩
end
section
variable (Γ:List Slot){α τ:Type}
def EVs(n:Nat)(t:TA)(o:Option (List α))(r:Rp α):Prop:=∀C F σ H Q xs,SR C F Γ σ H->o=some xs->(∀vs F' H',Ext F H F' H'->vs.length=n->Paired (r.rel F') vs xs->Q vs H')->t σ H Q
structure RpA(τ:Type) where
 rel:Hp->List V->τ->Prop
 mono:∀{H H':Hp} {vs:List V} {a:τ},aW H H'->rel H vs a->rel H' vs a
 slots:τ->List Slot
 ok:∀{F:Hp} {vs:List V} {a:τ},rel F vs a->vs.length=(slots a).length/\∀(i:Nat) s,(slots a)[i]?=some s->s.own=false/\∃v,vs[i]?=some v/\∀H0 H,dX H0 F H s (some v)
def ce{α:Type}(r:Rp α):RpA α:=⟨λH vs a=>∃v,vs=[v]/\r.rel H v a,λe ⟨v,h1,h2⟩=>(aB v h1<|r.mono e h2),λa=>[.fr r a],λ{F vs a} zq=>aU zq λv h1 h2=>by
 subst h1;refine⟨rfl,λi s h=>?_⟩
 match i,h with
 |0,h=>cases h;exact⟨rfl,v,rfl,λx x=>⟨v,rfl,h2⟩⟩
 |i+1,h=>simp at h⟩
def aJ{α τ:Type}(r:Rp α)(ra:RpA τ):RpA (α×τ):=⟨λH vs a=>∃v ws,vs=v ::ws/\r.rel H v a.1/\ra.rel H ws a.2,λe ⟨v,ws,h1,h2,h3⟩=>(da v ws h1 (r.mono e h2)<|ra.mono e h3),λa=>.fr r a.1 ::ra.slots a.2,λ{F vs a} zq=>iD zq λv ws h1 h2 h3=>by
 subst h1;obtain⟨l,g⟩:=ra.ok h3;refine⟨by simp[l],λi s h=>?_⟩
 match i,h with
 |0,h=>cases h;exact⟨rfl,v,rfl,λx x=>⟨v,rfl,h2⟩⟩
 |i+1,h=>exact g i s (by simpa using h)⟩
def EA(t:TA)(o:Option τ)(ra:RpA τ):Prop:=∀C F σ H Q a,SR C F Γ σ H->o=some a->(∀vs F' H',Ext F H F' H'->ra.rel F' vs a->Q vs H')->t σ H Q
def qX{γ:Type}(ra:RpA τ)(r:Rp γ)(f:τ->Option γ):Sp:=λvs H Q x=>∃F a c,aW F H/\NT F/\TbG H/\ra.rel F vs a/\f a=some c/\∀v F' H',Ext F H F' H'->r.rel F' v c->Q v H'
def nC{γ:Type}(ra:RpA τ)(r:Rp γ)(f:τ->Option (List γ)):Sp:=λvs H Q x=>∃F a xs,aW F H/\NT F/\TbG H/\ra.rel F vs a/\f a=some xs/\∀p vs F' H1,Ext F H F' H1->H1 p=none->Paired (r.rel F') vs xs->Q (.ref p) (aD H1 p<|.lst vs)
def spD{γ:Type}(ra:RpA τ)(r:Rp γ)(f:τ->Option (List<|Int×γ)):Sp:=λvs H Q x=>∃F a xs,aW F H/\NT F/\TbG H/\ra.rel F vs a/\f a=some xs/\∀p vs F' H1,Ext F H F' H1->H1 p=none->Paired (cV r F') vs xs->Q (.ref p) (aD H1 p<|.dK vs)
end
section
variable {Γ:List Slot}{α β γ τ:Type}{r:Rp α}{s:Rp β}{q:Rp γ}{ta tb:TE}{oa:Option α}{ob:Option β}{K:Z3}{t:TA}{ra:RpA τ}{oτ:Option τ}{oi:ZI}
theorem aA(h:EV Γ ta oa r):EA Γ (aY ta cH) oa (ce r):=λC F σ H Q a S e k=>h C F σ H _ a S e λv F' H' x1 r1=>k _ F' H' x1 ⟨v,rfl,r1⟩
theorem au(h:EV Γ ta oa r)(h':EA Γ t oτ ra):EA Γ (aY ta t) (oa.bind λa=>oτ.bind λb=>some (a,b)) (aJ r ra):=by intro C F σ H Q c S e k;obtain⟨a,e1,e⟩:=a9 e;obtain⟨b,e2,e⟩:=a9 e;cases e;exact h C F σ H _ a S e1 λv F' H' x1 r1=>h' C F' σ H' _ b (S.grow x1) e2 λvs F2 H2 x2 r2=>k _ F2 H2 (x1.trans x2) ⟨v,vs,rfl,r.mono x2.ff r1,r2⟩
theorem aQ{f:τ->Option γ}(h:EA Γ t oτ ra):EV Γ (pY (qX ra q f) [] E0 t) (oτ.bind f) q:=by intro C F σ H Q c S e k;obtain⟨a,e1,e⟩:=a9 e;exact h C F σ H _ a S e1 λvs F' H' x1 r1=>⟨F',a,c,x1.sub,x1.nt S.nt,x1.hh.tg S.tg,by rw[W9];exact r1,e,λv F2 H2 x2 r2=>k v F2 H2 (x1.trans x2) r2⟩
theorem aN{f:τ->Option (List γ)}(h:EA Γ t oτ ra):i4 Γ (pY (nC ra q f) [] E0 t) (oτ.bind f) q:=by intro C F σ H Q c S e k;obtain⟨a,e1,e⟩:=a9 e;exact h C F σ H _ a S e1 λvs F' H' x1 r1=>⟨F',a,c,x1.sub,x1.nt S.nt,x1.hh.tg S.tg,by rw[W9];exact r1,e,λp ws F2 H2 x2 hp r2=>k p ws F2 H2 (x1.trans x2) hp r2⟩
theorem AE{f:τ->Option (List<|Int×γ)}(h:EA Γ t oτ ra):EVD Γ (pY (spD ra q f) [] E0 t) (oτ.bind f) q:=by intro C F σ H Q c S e k;obtain⟨a,e1,e⟩:=a9 e;exact h C F σ H _ a S e1 λvs F' H' x1 r1=>⟨F',a,c,x1.sub,x1.nt S.nt,x1.hh.tg S.tg,by rw[W9];exact r1,e,λp ws F2 H2 x2 hp r2=>k p ws F2 H2 (x1.trans x2) hp r2⟩
theorem i4.ev(h:i4 Γ ta o r):EV Γ ta o (rL r):=λC F σ H Q xs S e k=>h C F σ H Q xs S e λp vs F' H1 x1 hp r1 =>
 k _ _ _ (x1.trans<|Ext.new x1.sub hp) ⟨p,vs,rfl,Rd.of af,Paired.imp2 (λx x z=>r.mono (aO<|x1.sub.free hp) z) r1⟩
theorem EVD.ev(h:EVD Γ ta o r):EV Γ ta o (rD r):=λC F σ H Q xs S e k=>h C F σ H Q xs S e λp vs F' H1 x1 hp r1 =>
 k _ _ _ (x1.trans<|Ext.new x1.sub hp) ⟨p,vs,rfl,af,Paired.imp2 (λx x z=>⟨z.1,r.mono (aO<|x1.sub.free hp) z.2⟩) r1⟩
theorem qY(ha:EV Γ ta oa r):EV Γ (tTup<|aY ta cH) oa (rT1 r):=by intro C F σ H Q a S e1 k;exact ha C F σ H _ a S e1 λx F' H' x1 r1=>⟨by show 1<=W3;decide,λp hp=>k _ _ _ (x1.trans<|Ext.new x1.sub hp) ⟨p,x,rfl,af,r.mono (aO<|x1.sub.free hp) r1⟩⟩
theorem gk(ha:EV Γ ta oa r)(hb:EV Γ tb ob s):EV Γ (tTup<|aY ta<|aY tb cH) (oa.bind λa=>ob.bind λb=>some (a,b)) (eV r s):=by intro C F σ H Q c S e k;obtain⟨a,e1,e⟩:=a9 e;obtain⟨b,e2,e⟩:=a9 e;cases e;exact EV.two (q:=λx y H2=>[x,y].length<=W3/\∀p,H2 p=none->Q (.ref p) (aD H2 p<|.tup [x,y])) ha hb S e1 e2 λx y F' H' x1 r1 r2=>⟨by show 2<=W3;decide,λp hp=>k _ _ _ (x1.trans<|Ext.new x1.sub hp) ⟨p,x,y,rfl,af,r.mono (aO<|x1.sub.free hp) r1,s.mono (aO<|x1.sub.free hp) r2⟩⟩
theorem AF{T:Type}{u:Rp T}{o:Option T}(get:T->γ)(h:EV Γ ta o u)(hg:∀F H v a Q,aW F H->u.rel F v a->(∀w,q.rel F w (get a)->Q w H)->yx K v (.int n) H Q):EV Γ (iw (yx K) ta<|tC<|.int n) (o.bind λp=>some<|get p) q:=by intro C F σ H Q c S e k;obtain⟨a,e1,e⟩:=a9 e;cases e;exact h C F σ H _ a S e1 λv F' H' x1 r1=>hg F' H' v a _ x1.sub r1 λw rw=>k w F' H' x1 rw
theorem xk(h:EV Γ ta o (eV r s)):EV Γ (iw (yx K) ta<|tC<|.int 0) (o.bind λp=>some p.1) r:=AF (·.1) h λF H v a Q sb zq k=>sI zq λp x y e h1 h2 h3=>⟨p,_,_,x,e,rfl,jp.of<|sb _ _ h1,rfl,k x h2⟩
theorem gl(h:EV Γ ta o (eV r s)):EV Γ (iw (yx K) ta<|tC<|.int 1) (o.bind λp=>some p.2) s:=AF (·.2) h λF H v a Q sb zq k=>sI zq λp x y e h1 h2 h3=>⟨p,_,_,y,e,rfl,jp.of<|sb _ _ h1,rfl,k y h3⟩
theorem bJ:EVs Γ 0 cH (some []) r:=λC F σ H Q xs S e k=>by cases e;exact k [] F H (Ext.refl S.sub) rfl .nil
theorem bT(h:EV Γ ta oa r)(h':EVs Γ n t o r):EVs Γ (n+1) (aY ta t) (oa.bind λa=>o.bind λb=>some (a ::b)) r:=by intro C F σ H Q c S e k;obtain⟨a,e1,e⟩:=a9 e;obtain⟨b,e2,e⟩:=a9 e;cases e;exact h C F σ H _ a S e1 λv F' H' x1 r1=>h' C F' σ H' _ b (S.grow x1) e2 λvs F2 H2 x2 l r2=>k _ F2 H2 (x1.trans x2) (by simp[l])<|.cons (r.mono x2.ff r1) r2
theorem bK{n:Nat}{o:Option (List α)}(h:EVs Γ n t o r)(hn:autoParam (n<=16777216) L2.iu._auto_1):i4 Γ (yo t) o r:=λC F σ H Q xs S e k=>h C F σ H _ xs S e λvs F' H' x1 l r1=>⟨by rw[l,V6];exact hn,λp hp=>k p vs F' H' x1 hp r1⟩
theorem bC(sq:Sq K rl r)(h:EV Γ ta o rl)(hi:EV Γ tb oi a8):EV Γ (iw (yw K) ta tb) (o.bind λxs=>oi.bind λi=>Pu.at_ xs i) r :=
 jS (r:=rl) (s:=a8) (λF H x y a b c Q sb hx r2 e3 k=>by obtain⟨p,vs,e,h1,h2⟩:=sq.get hx;obtain⟨v,h3,h4⟩:=vy h2 e3;exact⟨p,vs,b,v,e,r2,sb.seq h1,h3,k v h4⟩) h hi
theorem qZ(h:EV Γ ta o (rD r))(hi:EV Γ tb oi a8):EV Γ (Ae ta tb) (o.bind λxs=>oi.bind λi=>Pu.find xs i) r:=by intro C F σ H Q c S e k;obtain⟨a,e1,e⟩:=a9 e;obtain⟨b,e2,e⟩:=a9 e;refine EV.two (q:=λx y H2=>∃a v,x=.ref a/\p8 H2 a y (some v)/\Q v H2) h hi S e1 e2 λx y F' H' x1 zq r2=>iD zq λp ws e3 h1 h2=>?_;obtain⟨v,h3,h4⟩:=(gh (k:=b) h2).1 c e;exact(da p v e3 (.inl<|da ws (.inl b) (.inl<|x1.sub _ _ h1) r2 h3.symm)<|k v F' H' x1 h4)
theorem AG(hi:EV Γ tb oi a8)(h:EV Γ ta o (rD r)):EV Γ (tDIn tb ta) (oi.bind λi=>o.bind λxs=>some (Pu.find xs i).isSome) bq:=by
 intro C F σ H Q c S e k;obtain⟨b,e2,e⟩:=a9 e;obtain⟨a,e1,e⟩:=a9 e;cases e;refine EV.two (q:=λy x H2=>∃a o,x=.ref a/\p8 H2 a y o/\Q (.bl o.isSome) H2) hi h S e2 e1 λy x F' H' x1 r2 ⟨p,ws,e3,h1,h2⟩=>?_;refine(da p (cU ws<|.inl b) e3 (.inl<|da ws (.inl b) (.inl<|x1.sub _ _ h1) r2 rfl) ?_);have:(cU ws<|.inl b).isSome=(Pu.find a b).isSome:=by
  obtain⟨g1,g2⟩:=gh (k:=b) h2;cases q:Pu.find a b with
  |none=>rw[g2 q];rfl
  |some z=>obtain⟨v,h3,_⟩:=g1 z q;rw[h3];rfl
 rw[this];exact k _ F' H' x1 rfl
set_option tactic.hygienic true in
theorem xl(h:EV Γ ta o (rL r))(h':EV Γ tb o' (rL r)):i4 Γ (iw AD ta tb) (o.bind λxs=>o'.bind λys=>Pu.cat xs ys) r:=by
 intro C F σ H Q c S e k;obtain⟨a,e1,e⟩:=a9 e;obtain⟨b,e2,e⟩:=a9 e;unfold Pu.cat at e;split at e
 ·rename_i hl;cases e;exact EV.two (q:=λx y H2=>AD x y H2 Q) h h' S e1 e2 λx y F' H' x1 zq zp=>iD zq λp vs e3 h1 h2=>iD zp λp' vs' e4 h3 h4=>⟨p,p',vs,vs',e3,e4,x1.sub.rd h1,x1.sub.rd h3,by rw[h2.length,h4.length,V6];exact hl,λp hp=>k p _ F' H' x1 hp<|Paired.app h2 h4⟩
 ·cases e
theorem xm:EO Γ wL (some none):=λC F σ H Q a S e k=>by cases e;exact k F H<|Ext.refl S.sub
theorem j4(h:EV Γ ta oi a8):EO Γ (tPart ta) (oi.bind λi=>some<|some i):=by intro C F σ H Q c S e k;obtain⟨a,e1,e⟩:=a9 e;cases e;exact h C F σ H _ a S e1 λv F' H' x1 r1=>(aB a r1<|k F' H' x1)
theorem mw(sq:Sq K rl r)(h:EV Γ ta o rl)(h1:EO Γ tl ol)(h2:EO Γ th oh):i4 Γ (tSl (rSlL K) ta tl th) (o.bind λxs=>ol.bind λlo=>oh.bind λhi=>some<|Pu.cut xs lo hi) r:=by
 intro C F σ H Q c S e k;obtain⟨a,e1,e⟩:=a9 e;obtain⟨lo,e2,e⟩:=a9 e;obtain⟨hi,e3,e⟩:=a9 e;cases e;refine h C F σ H _ a S e1 λx F1 H1 x1 hx=>?_;obtain⟨p,vs,e4,z1,z2⟩:=sq.get hx;exact h1 C F1 σ H1 _ lo (S.grow x1) e2 λF2 H2 x2=>h2 C F2 σ H2 _ hi ((S.grow x1).grow x2) e3 λF3 H3 x3 =>
  ⟨p,vs,e4,x3.sub.seq<|x3.ff.seq<|x2.ff.seq z1,λp hp=>k p _ F3 H3 ((x1.trans x2).trans x3) hp<|vz<|Paired.imp2 (λx x z=>r.mono (x2.ff.trans x3.ff) z) z2⟩
theorem cK(sq:Sq K rl r)(h:EV Γ ta o rl):EV Γ (uP (rLen K)<|aY ta cH) (o.bind λxs=>some<|Pu.ln xs) a8:=by intro C F σ H Q c S e k;obtain⟨a,e1,e⟩:=a9 e;cases e;refine h C F σ H _ a S e1 λv F' H' x1 hv=>?_;obtain⟨p,vs,e2,h1,h2⟩:=sq.get hv;exact⟨p,vs,by rw[e2],.inl<|x1.sub.seq h1,k _ F' H' x1 (by rw[h2.length];rfl)⟩
theorem iK(sq:Sq K rl r)(h:EV Γ ta o rl):i4 Γ (uP (qR K)<|aY ta cH) o r:=λC F σ H Q xs S e k=>h C F σ H _ xs S e λv F' H' x1 hv=>by obtain⟨p,vs,e2,h1,h2⟩:=sq.get hv;exact⟨p,vs,by rw[e2],.inl<|x1.sub.seq h1,λl hl=>k l vs F' H' x1 hl h2⟩
theorem vB(h:EV Γ ta oi a8):EV Γ (uP (λxs H Q=>∃i,xs=[.int i]/\Q (.int (if i<0 then -i else i)) H)<|aY ta cH) (oi.bind λi=>some<|Pu.ab i) a8:=by intro C F σ H Q c S e k;obtain⟨a,e1,e⟩:=a9 e;cases e;exact h C F σ H _ a S e1 λv F' H' x1 r1=>⟨a,by rw[r1],k _ F' H' x1 rfl⟩
theorem j5(h:EV Γ ta oi a8)(h':EV Γ tb oj a8):EV Γ (uP (λxs H Q=>∃i j,xs=[.int i,.int j]/\Q (.int (if j<i then j else i)) H)<|aY ta<|aY tb cH) (oi.bind λi=>oj.bind λj=>some<|Pu.mn i j) a8:=by intro C F σ H Q c S e k;obtain⟨a,e1,e⟩:=a9 e;obtain⟨b,e2,e⟩:=a9 e;cases e;exact EV.two (q:=λx y H2=>∃i j,[x,y]=[.int i,.int j]/\Q (.int (if j<i then j else i)) H2) h h' S e1 e2 λx y F' H' x1 r1 r2=>⟨a,b,(by rw[r1,r2]),k _ F' H' x1 rfl⟩
theorem jT(h:EV Γ ta oi a8)(h':EV Γ tb oj a8):EV Γ (uP (λxs H Q=>∃i j,xs=[.int i,.int j]/\Q (.int (if j > i then j else i)) H)<|aY ta<|aY tb cH) (oi.bind λi=>oj.bind λj=>some<|Pu.mx i j) a8:=by intro C F σ H Q c S e k;obtain⟨a,e1,e⟩:=a9 e;obtain⟨b,e2,e⟩:=a9 e;cases e;exact EV.two (q:=λx y H2=>∃i j,[x,y]=[.int i,.int j]/\Q (.int (if j > i then j else i)) H2) h h' S e1 e2 λx y F' H' x1 r1 r2=>⟨a,b,(by rw[r1,r2]),k _ F' H' x1 rfl⟩
theorem xn(h:EV Γ ta o bq):EV Γ (uP (λxs H Q=>(∃i,xs=[.int i]/\Q (.int i) H)\/∃k,xs=[.bl k]/\Q (.int (if k then 1 else 0)) H)<|aY ta cH) (o.bind λb=>some<|Pu.ofb b) a8:=by intro C F σ H Q c S e k;obtain⟨a,e1,e⟩:=a9 e;cases e;exact h C F σ H _ a S e1 λv F' H' x1 r1=>.inr<|aB a (by rw[r1])<|k _ F' H' x1 rfl
structure Fe[DecidableEq α](r:Rp α):Prop where
 flat:∀{F v a},r.rel F v a->jh v=true
 eq:∀{F v w a b},r.rel F v a->r.rel F w b->A3 v w=decide (a=b)
theorem fe_int:Fe a8:=⟨λh=>by cases h;rfl,λh h'=>by cases h;cases h';exact(by rw[V5];simp[A3])⟩
theorem yI[DecidableEq α](f:Fe r)(hx:r.rel F x a):∀{vs:List V} {xs:List α},Paired (r.rel F) vs xs->inV x vs=decide (a∈xs)/\vs.all jh=true:=λp=>by
 induction p with
 |nil=>exact⟨by simp[inV],rfl⟩
 |@cons v y vs ys h t ih =>
  obtain⟨i1,i2⟩:=ih;refine⟨?_,by rw[List.all_cons,f.flat h,i2];rfl⟩;have:inV x (v ::vs)=(A3 v x || inV x vs):=rfl;rw[this,i1,f.eq h hx,V5,Bool.or_eq_true,decide_eq_true_eq,decide_eq_true_eq,decide_eq_true_eq,Y4]
  constructor
  ·rintro(z|z)
   ·exact .inl z.symm
   ·exact .inr z
  ·rintro(z|z)
   ·exact .inl z.symm
   ·exact .inr z
theorem ev_inL[DecidableEq α](f:Fe r)(h:EV Γ ta oa r)(h':EV Γ tb o (rL r)):EV Γ (iw (rIn K false) ta tb) (oa.bind λa=>o.bind λxs=>some<|decide<|a∈xs) bq :=
 jS (r:=r) (s:=rL r) (λF H x y a b c Q sb r1 zq e3 k=>iD zq λp vs e h1 h2=>by cases e3;obtain⟨i1,i2⟩:=yI f r1 h2;exact⟨p,vs,e,.inl<|.inl<|sb.rd h1,f.flat r1,i2,by rw[if_neg Y3,i1];exact k _ rfl⟩) h h'
theorem TyOf.same{t:Value}(e:aW F H)(h:TyOf K F v t):TyOf K H v t:=by
 cases h with
 |non=>exact .non
 |bl x=>exact .bl x
 |int i=>exact .int i
 |str x=>exact .str x
 |flt x=>exact .flt x
 |lst h=>exact .lst<|e _ _ h
 |frz h=>exact .frz<|e _ _ h
 |tup h=>exact .tup<|e _ _ h
 |dK h=>exact .dK<|e _ _ h
 |dT h=>exact .dT<|e _ _ h
 |ins h a b c d f=>exact .ins (e _ _ h) a b c d f
theorem nD{f:α->Bool}(h:EV Γ ta oa r)(hf:∀F v a,r.rel F v a->∃t,TyOf K F v t/\O5 K t (.type T)=some (f a)):EV Γ (uP (rIsi K T)<|aY ta<|aY (tC<|.ty T) cH) (oa.bind λa=>some<|f a) bq:=by intro C F σ H Q c S e k;obtain⟨a,e1,e⟩:=a9 e;cases e;refine h C F σ H _ a S e1 λv F' H' x1 r1=>?_;obtain⟨t,h1,h2⟩:=hf F' v a r1;exact⟨v,t,f a,rfl,h1.same x1.sub,h2,k _ F' H' x1 rfl⟩
theorem re:O5 K (.type "NoneType") (.type "int")=some false:=by with_unfolding_all rfl
theorem pe:O5 K (.type "NoneType") (.type "bool")=some false:=by with_unfolding_all rfl
theorem isi_oi(F:Hp)(v:V)(a:ZI)(h:(cF a8).rel F v a):∃t,TyOf K F v t/\O5 K t (.type "int")=some (a.isSome):=by
 cases a with
 |none=>cases h;exact(aB _ .non re)
 |some i=>cases h;exact(aB _ (.int i) tq)
theorem isi_ob(F:Hp)(v:V)(a:ZI)(h:(cF a8).rel F v a):∃t,TyOf K F v t/\O5 K t (.type "bool")=some ((λx=>false) a):=by
 cases a with
 |none=>cases h;exact(aB _ .non pe)
 |some i=>cases h;exact(aB _ (.int i) qQ)
theorem AH(F:Hp)(v:V)(a:List α)(h:(rL r).rel F v a):∃t,TyOf K F v t/\O5 K t (.type "list")=some ((λx=>true) a):=by
 obtain⟨p,vs,rfl,(h|⟨o,h⟩),_⟩:=h
 ·exact(aB _ (.lst h) ji)
 ·exact(aB _ (.frz h) ji)
theorem isi_t3(F:Hp)(v:V)(a:α×β×γ)(h:(ju r s q).rel F v a):∃t,TyOf K F v t/\O5 K t (.type "tuple")=some ((λb=>true) a):=by obtain⟨p,x,y,z,rfl,h,_⟩:=h;exact(aB _ (.tup h) tu)
end
end
section
open PySem PySem.Spec PyProof.Rows
variable [Kn:Kon]
section
variable {Γ:List Slot}{α β γ S R:Type}{r:Rp α}{s:Rp β}{q:Rp γ}{ta tb:TE}{ob:Option β}{K:Z3}{oi:ZI}
theorem eZ{F H F' H':Hp}{p:Addr}{u:HO}(hF:F p=none)(hH:H p=some u)(e:Ext (aD F p u) H F' H')(nu:autoParam (dS u) L2.a4q._auto_1):Ext F H (del F' p) H'/\F' p=some u:=by
 refine⟨⟨e.hh,λb o h=>?_,λb o h=>e.sub b o (eE h).2,λb o h=>?_,λz b ps q=>e.nt (kR z nu) b ps (eE q).2⟩,e.ff p u af⟩
 ·have n:b≠p:=ai h hF;rw[cu n];exact e.ff b o (by rw[ak n];exact h)
 ·obtain⟨n,h⟩:=eE h;rcases e.nw b o h with z|z
  ·rw[ak n]at z;exact .inl z
  ·exact .inr z
theorem SR.borrow{φ:ZF}(S:SR C F Γ σ H)(hi:Γ[i]?=some (.ol r φ xs)):∃p vs,F p=none/\H p=some (.lst vs)/\SR C (aD F p<|.lst vs) (Γ.set i<|.fr (rL r) xs) σ H:=by refine dM (S.at_ i _ hi) λp vs h1 h2 h3 h4 h5 h6=>?_;exact(da p vs h4 h5<|S.freeze hi p _ _ rfl rfl h1 h3 h4 h5 ⟨_,rfl,p,vs,rfl,Rd.of af,Paired.imp2 (λx x z=>Rp.mono _ (aO h4) z) h6⟩ trivial)
theorem SR.borrowD{φ:ZF}(S:SR C F Γ σ H)(hi:Γ[i]?=some (.od r φ kvs)):∃p ws,F p=none/\H p=some (.dK ws)/\SR C (aD F p<|.dK ws) (Γ.set i<|.fr (rD r) kvs) σ H:=by refine dM (S.at_ i _ hi) λp vs h1 h2 h3 h4 h5 h6=>?_;exact(da p vs h4 h5<|S.freeze hi p _ _ rfl rfl h1 h3 h4 h5 ⟨_,rfl,p,vs,rfl,af,Paired.imp2 (λx x z=>⟨z.1,Rp.mono _ (aO h4) z.2⟩) h6⟩ trivial)
abbrev brw(Γ:List Slot)(i:Nat){α:Type}(r:Rp α)(xs:List α):List Slot:=Γ.set i<|.fr (rL r) xs
abbrev brwD(Γ:List Slot)(i:Nat){α:Type}(r:Rp α)(kvs:List (Int×α)):List Slot:=Γ.set i<|.fr (rD r) kvs
theorem vC{φ:ZF}(i:Nat)(hi:Γ[i]?=some (.ol r φ xs))(fl:Flat s)(h:EV (brw Γ i r xs) tb ob s):EV Γ tb ob s:=by intro C F σ H Q b S e k;obtain⟨p,vs,h1,h2,S'⟩:=S.borrow hi;refine h C _ σ H Q b S' e λv F' H' x1 r1=>?_;obtain⟨x2,h3⟩:=eZ h1 h2 x1;exact k v _ H' x2<|fl h3 trivial r1
theorem ev_borD{φ:ZF}(i:Nat)(hi:Γ[i]?=some (.od r φ kvs))(fl:Flat s)(h:EV (brwD Γ i r kvs) tb ob s):EV Γ tb ob s:=by intro C F σ H Q b S e k;obtain⟨p,vs,h1,h2,S'⟩:=S.borrowD hi;refine h C _ σ H Q b S' e λv F' H' x1 r1=>?_;obtain⟨x2,h3⟩:=eZ h1 h2 x1;exact k v _ H' x2<|fl h3 trivial r1
theorem mB{φ:ZF}(i:Nat)(hi:Γ[i]?=some (.ol r φ xs))(fl:Flat s)(h:i4 (brw Γ i r xs) tb o s):i4 Γ tb o s:=by intro C F σ H Q b S e k;obtain⟨p,vs,h1,h2,S'⟩:=S.borrow hi;refine h C _ σ H Q b S' e λv ws F' H' x1 hv r1=>?_;obtain⟨x2,h3⟩:=eZ h1 h2 x1;exact k v ws _ H' x2 hv<|Paired.imp2 (λx x z=>fl h3 trivial z) r1
theorem tE{φ:ZF}(i:Nat)(hi:Γ[i]?=some (.od r φ kvs))(fl:Flat s)(h:i4 (brwD Γ i r kvs) tb o s):i4 Γ tb o s:=by intro C F σ H Q b S e k;obtain⟨p,vs,h1,h2,S'⟩:=S.borrowD hi;refine h C _ σ H Q b S' e λv ws F' H' x1 hv r1=>?_;obtain⟨x2,h3⟩:=eZ h1 h2 x1;exact k v ws _ H' x2 hv<|Paired.imp2 (λx x z=>fl h3 trivial z) r1
theorem AI{φ:ZF}(i:Nat)(hi:Γ[i]?=some (.ol r φ xs))(h:ET (brw Γ i r xs) t o):ET Γ t o:=by intro C F σ H Q b S e k;obtain⟨p,vs,h1,h2,S'⟩:=S.borrow hi;refine h C _ σ H Q b S' e λF' H' x1=>?_;obtain⟨x2,h3⟩:=eZ h1 h2 x1;exact k _ H' x2
theorem aS(sq:Sq K rl r)(h:EV Γ ta o rl):IV Γ (mT K ta) o r:=λC F σ H R xs S e k=>h C F σ H _ xs S e λv F' H' x1 hv=>by
 obtain⟨p,vs,e2,h1,h2⟩:=sq.get hv;exact(cZ p e2 ⟨vs,x1.sub.seq h1⟩ (k _ F' H' x1
  ⟨λi H2 sb hi=>⟨vs,vs[i]'(by rw[h2.length];exact hi),sb.seq h1,by simp⟩,λH2 sb=>⟨vs,sb.seq h1,by rw[h2.length];exact bi _⟩,λi H2 x H3 F1 sb hi zq s1 s2=>uS zq λe3 y=>by subst e3;obtain⟨w,g1,g2⟩:=cJ h2<|Z9 hi;have ex:x=w:=Z5<|(y vs<|sb.seq h1).symm.trans g1;subst ex;exact(da F1 (xs[i]) (Z9 hi) (Ext.refl s2)<|r.mono s1 g2)⟩))
theorem nE{f:Nat->Int}(hj:J=⟨λi a=>i<n,λi H x H'=>H'=H/\x=.int (f i),λi a=>n<=i⟩):Walks J F a8 ((X5 n).map f):=by
 subst hj;refine⟨λi H a hi=>by simpa using hi,λH a=>by simp,λi H2 x H3 F1 sb hi zq s1 s2=>uS zq λe3 y=>?_⟩;subst e3 y;have hi':i<n:=by simpa using hi
 exact(da F1 (f i) (by simp[hi']) (Ext.refl s2) rfl)
set_option tactic.hygienic true in
theorem j6(h:EV Γ ta oi a8):IV Γ (iRng1<|aY ta cH) (oi.bind λj=>Pu.jw j) a8:=by
 intro C F σ H R xs S e k;obtain⟨j,e1,e⟩:=a9 e;unfold Pu.jw at e;split at e
 ·rename_i hb;cases e;refine h C F σ H _ j S e1 λv F' H' x1 r1=>⟨j,by rw[r1],hb.1,hb.2,k _ F' H' x1 ?_⟩;refine nE (f:=λi=>(i:Int)) ?_;unfold Itr;simp
 ·cases e
set_option tactic.hygienic true in
theorem xo(h:EV Γ ta oi a8)(h':EV Γ tb oj a8):IV Γ (iRng2<|aY ta<|aY tb cH) (oi.bind λi=>oj.bind λj=>Pu.tw i j) a8:=by
 intro C F σ H R xs S e k;obtain⟨i,e1,e⟩:=a9 e;obtain⟨j,e2,e⟩:=a9 e;unfold Pu.tw at e;split at e
 ·rename_i hb;cases e;refine EV.two (q:=λx y H2=>∃i j:Int,[x,y]=[.int i,.int j]/\(-(2^62)<=i/\i<2^62/\-(2^62)<=j/\j<2^62)/\R (Itr i (j-i).toNat) H2) h h' S e1 e2 λx y F' H' x1 r1 r2=>(da i j (by rw[r1,r2]) hb<|k _ F' H' x1 ?_);exact nE (f:=λk=>i+(k:Int)) rfl
 ·cases e
theorem iv_enum(sq:Sq K rl r)(h:EV Γ ta o rl):IV Γ (Av K<|aY ta cH) (o.bind λxs=>some<|Pu.qW xs) (eV a8 r):=by
 intro C F σ H R ys S e k;obtain⟨xs,e1,e⟩:=a9 e;cases e;refine h C F σ H _ xs S e1 λv F' H' x1 hv=>?_;obtain⟨p,vs,e2,h1,h2⟩:=sq.get hv;refine⟨p,by rw[e2],⟨vs,x1.sub.seq h1⟩,k _ F' H' x1 ?_⟩;have len:(Pu.qW xs).length=vs.length:=by unfold Pu.qW;simp[h2.length]
 refine⟨λi H2 sb hi=>⟨vs,vs[i]'(by rw[<- len];exact hi),sb.seq h1,by simp⟩,λH2 sb=>⟨vs,sb.seq h1,by rw[len];exact bi _⟩,λi H2 x H3 F1 sb hi y s1 s2=>?_⟩;obtain⟨t,z,e4,ht,e5,hz⟩:=y;subst e4 e5;have hi':i<xs.length:=by rw[<- h2.length,<- len];exact hi
 obtain⟨w,g1,g2⟩:=cJ h2<|Z9 hi';have ex:z=w:=Z5<|(hz vs<|sb.seq h1).symm.trans g1;subst ex;refine⟨_,((i:Int),xs[i]),?_,Ext.new s2 ht,t,_,_,rfl,af,rfl,r.mono (s1.trans<|aO<|s2.free ht) g2⟩;unfold Pu.qW;rw[X2,List.getElem?_zipIdx,Z9 hi'];simp
theorem AJ(h:EV Γ ta o (rL r))(h':EV Γ tb o' (rL s)):IV Γ (iZip K<|aY ta<|aY tb cH) (o.bind λxs=>o'.bind λys=>some<|xs.zip ys) (eV r s):=by
 intro C F σ H R zs S e k;obtain⟨xs,e1,e⟩:=a9 e;obtain⟨ys,e2,e⟩:=a9 e;cases e;refine EV.two (q:=λx y H2=>∃a b,[x,y]=[.ref a,.ref b]/\(∃xs,cD K H2 a xs)/\(∃ys,cD K H2 b ys)/\R (Itz K a b) H2) h h' S e1 e2 λx y F' H' x1 zq zp=>iD zq λp vs e3 h1 h2=>iD zp λp' vs' e4 h3 h4=>⟨p,p',by rw[e3,e4],⟨vs,.inl<|x1.sub.rd h1⟩,⟨vs',.inl<|x1.sub.rd h3⟩,k _ F' H' x1 ?_⟩;have len:(xs.zip ys).length=min vs.length vs'.length:=by simp[h2.length,h4.length]
 refine⟨λi H2 sb hi=>⟨vs,vs',vs[i]'(by lia),vs'[i]'(by lia),.inl<|sb.rd h1,.inl<|sb.rd h3,by simp,by simp⟩,λH2 sb=>⟨vs,vs',.inl<|sb.rd h1,.inl<|sb.rd h3,by lia⟩,λi H2 x H3 F1 sb hi y s1 s2=>?_⟩;obtain⟨t,u,z,e4,ht,e5,hz,hz'⟩:=y;subst e4 e5;have hi1:i<xs.length:=by rw[<- h2.length];lia
 have hi2:i<ys.length:=by rw[<- h4.length];lia
 obtain⟨w,g1,g2⟩:=cJ h2<|Z9 hi1;obtain⟨w',g3,g4⟩:=cJ h4<|Z9 hi2;have ex:u=w:=Z5<|(hz vs<|.inl<|sb.rd h1).symm.trans g1;have ex':z=w':=Z5<|(hz' vs'<|.inl<|sb.rd h3).symm.trans g3;subst ex ex';have e:=s1.trans<|aO (o:=.tup [u,z])<|s2.free ht;refine⟨_,(xs[i],ys[i]),?_,Ext.new s2 ht,t,_,_,rfl,af,r.mono e g2,s.mono e g4⟩;rw[List.getElem?_zip_eq_some];exact⟨Z9 hi1,Z9 hi2⟩
def GV(Γ:List Slot)(m:Nat)(g:TG)(r:Rp α)(Γt:α->List Slot):Prop:=∀C F σ H v x k,SR C F Γ σ H->r.rel F v x->(∀σ',SR C F (Γt x) σ' H->((∀j,j<m->σ[j]?=some none)->Wk σ σ')->k σ' H)->g v σ H k
theorem Wk.refl:∀{a:St},Wk a a:=by
 intro a;induction a with
 |nil=>trivial
 |cons o r ih=>cases o with|none=>exact ih|some v=>exact⟨rfl,ih⟩
theorem Wk.set:∀{a b:St} {i:Nat} {v:V},Wk a b->a[i]?=some none->Wk a (b.set i<|some v):=by
 intro a;induction a with
 |nil=>exact λc e=>nomatch e
 |cons x r ih =>
  intro b i v h e;cases b with
  |nil=>cases x<;>exact h.elim
  |cons o t =>
   cases x with
   |none =>
    cases i with
    |zero=>exact h
    |succ i=>exact ih (b:=t) (i:=i) h e
   |some x =>
    cases i with
    |zero=>exact nomatch e
    |succ i=>exact⟨h.1,ih (b:=t) (i:=i) h.2 e⟩
theorem aI(i:Nat):GV Γ (i+1) (db i) r (λx=>Γ.set i<|.fr r x):=λC F σ H v x k S h q=>q _ (S.setF i h) λz=>Wk.refl.set<|z i (by exact U2 _)
theorem mC(i j:Nat):GV Γ (i+j+1) (zM K 2<|jH (db i)<|jH (db j) gNil) (eV r s) (λx=>(Γ.set i<|.fr r x.1).set j (.fr s x.2)):=λC F σ H v x k S zq q=>sI zq λp a b e h1 h2 h3 =>
 ⟨p,_,e,jp.of<|S.sub _ _ h1,rfl,a,[b],rfl,b,[],rfl,rfl,q _ ((S.setF i h2).setF j h3) λz=>(Wk.refl.set<|z i (by exact Nat.lt_succ_of_le<|U9 _ _)).set (z j (by exact Nat.lt_succ_of_le<|Nat.le_add_left _ _))⟩
theorem gv_trip(i j l:Nat):GV Γ (i+j+l+1) (zM K 3<|jH (db i)<|jH (db j)<|jH (db l) gNil) (ju r s q) (λx=>((Γ.set i<|.fr r x.1).set j (.fr s x.2.1)).set l (.fr q x.2.2)):=λC F σ H v x k S zq q=>oq45 zq λp a b c e h1 h2 h3 h4 =>
 ⟨p,_,e,jp.of<|S.sub _ _ h1,rfl,a,[b,c],rfl,b,[c],rfl,c,[],rfl,rfl,q _ (((S.setF i h2).setF j h3).setF l h4) λz=>((Wk.refl.set<|z i (by lia)).set (z j (by lia))).set (z l (by exact Nat.lt_succ_of_le<|Nat.le_add_left _ _))⟩
def yJ(loc:ZJ)(cap:ZH)(Γ:List Slot):List Slot:=loc.map (λx=>Slot.any)++cap.map λp=>(Γ[p.2]?).getD .any
theorem SR.comp(S:SR C F Γ σ H)(hc:(cap.map (·.2)).Nodup):SR C F (yJ loc cap Γ) (pc loc cap σ) H:=by
 have get:∀(i:Nat) s,(yJ loc cap Γ)[i]?=some s->s=.any\/∃p,loc.length<=i/\cap[i-loc.length]?=some p/\Γ[p.2]?=some s:=λi s h=>by
  unfold yJ at h;by_cases hi:i<loc.length
  ·rw[X9 (by simpa using hi),X2]at h;cases q:loc[i]? with
   |none=>rw[q]at h;cases h
   |some _=>rw[q]at h;cases h;exact .inl rfl
  ·rw[Y7 (by simp;exact T5.mp hi),Z8,X2]at h;cases q:cap[i-loc.length]? with
   |none=>rw[q]at h;cases h
   |some p =>
    rw[q]at h;have h:(Γ[p.2]?).getD .any=s:=by simpa using h
    cases q2:Γ[p.2]? with
    |none=>rw[q2]at h;exact .inl h.symm
    |some s'=>rw[q2]at h;cases h;exact .inr<|cZ p (by exact T5.mp hi) rfl q2
 have stg:∀(i:Nat) p,loc.length<=i->cap[i-loc.length]?=some p->(pc loc cap σ)[i]?=some (σ[p.2]?).join:=λi p hi h=>by unfold pc;rw[Y7 (by simp;exact hi),Z8,X2,h];rfl
 refine⟨S.toFr,by unfold pc yJ;simp,λi s h=>?_,λi j s t p h1 h2 o1 o2 e1 e2=>?_⟩
 ·rcases get i s h with rfl|zr1_
  ·have:i<(pc loc cap σ).length:=by have:=(Z7.mp h).1;unfold yJ at this;unfold pc;simpa using this
   exact(aB _ (Z9 this) trivial)
  ·obtain⟨p,hi,h1,h2⟩:=zr1_;obtain⟨o,h3,h4⟩:=S.at_ _ s h2;exact(aB o (by rw[stg i p hi h1,h3];rfl) h4)
 ·rcases get i s h1 with rfl|⟨p1,hi1,g1,g2⟩
  ·cases o1
  rcases get j t h2 with rfl|⟨p2,hi2,g3,g4⟩
  ·cases o2
  have e3:σ[p1.2]?=some (some<|.ref p):=by obtain⟨o,h3,_⟩:=S.at_ _ s g2;rw[stg i p1 hi1 g1,h3]at e1;rw[h3];exact e1
  have e4:σ[p2.2]?=some (some<|.ref p):=by obtain⟨o,h3,_⟩:=S.at_ _ t g4;rw[stg j p2 hi2 g3,h3]at e2;rw[h3];exact e2
  have e5:=S.inj _ _ s t p g2 g4 o1 o2 e3 e4;have a1:(cap.map (·.2))[i-loc.length]?=some p1.2:=by rw[X2,g1];rfl
  have a2:(cap.map (·.2))[j-loc.length]?=some p1.2:=by rw[X2,g3,e5];rfl
  have l1:=(Z7.mp a1).1;have l2:=(Z7.mp a2).1;have:i-loc.length=j-loc.length:=(List.getElem?_inj l1 hc).mp (a1.trans a2.symm);lia
end
end
end L2
namespace Pu
section
variable {β α:Type}{t:β->Option Bool}{f:β->Option α}
theorem kU:∀(l m:List β),c6 t f (l++m)=(c6 t f l).bind λa=>(c6 t f m).bind λb=>some (a++b):=by
 intro l m;induction l with
 |nil=>cases h:c6 t f m<;>simp[c6,h]
 |cons x l ih =>
  rw[List.cons_append,c6,c6,ih];cases t x with
  |none=>rfl
  |some b =>
   cases b with
   |false=>rfl
   |true =>
    cases f x with
    |none=>rfl
    |some a =>
     cases h1:c6 t f l with
     |none=>rfl
     |some as=>cases h2:c6 t f m<;>rfl
theorem yK:∀{l:List β} {as:List α},c6 t f l=some as->as.length<=l.length:=by
 intro l;induction l with
 |nil=>exact λh=>Z5 h▸bi _
 |cons x l ih =>
  intro as h;rw[c6]at h;obtain⟨b,_,h⟩:=L2.a9 h;cases b with
  |false=>exact L8<|ih h
  |true=>exact aU (L2.a9 h) λa a h=>aU (L2.a9 h) λas' h1 h=>Z5 h▸K6 (ih h1)
theorem AK(h:c6 t f xs=some as)(hx:xs[i]?=some x):∃p b,c6 t f (xs.take i)=some p/\t x=some b/\(b=true->∃c,f x=some c/\c6 t f (xs.take<|i+1)=some (p++[c]))/\(b=false->c6 t f (xs.take<|i+1)=some p):=by
 have hi:=(Z7.mp hx).1;have ex:=(Z7.mp hx).2;have e:xs=xs.take i++(x ::xs.drop (i+1)):=by rw[<- ex,List.getElem_cons_drop,W4]
 rw[e,kU]at h;obtain⟨p,h1,h⟩:=L2.a9 h;obtain⟨w,h2,_⟩:=L2.a9 h;rw[c6]at h2;obtain⟨b,h3,h2⟩:=L2.a9 h2;have et:xs.take (i+1)=xs.take i++[x]:=by rw[<- ex,O0]
 refine⟨p,b,h1,h3,(λhb=>?_),(λhb=>?_)⟩
 ·subst hb;rw[if_pos rfl]at h2;obtain⟨c,h4,_⟩:=L2.a9 h2;exact(aB c h4 (by rw[et,kU,h1];simp[c6,h3,h4]))
 ·subst hb;rw[et,kU,h1];simp[c6,h3]
theorem AL:∀(xs:List β),qi f xs=c6 (λa=>some true) f xs:=by
 intro xs;induction xs with
 |nil=>rfl
 |cons x xs ih=>rw[qi,c6,ih];rfl
end
end Pu
namespace L2
section
open PySem PySem.Spec PyProof.Rows
variable [Kn:Kon]
section
variable {Γ:List Slot}{α β S:Type}{r:Rp α}{rb:Rp β}
set_option tactic.hygienic true in
theorem yL{t:β->Option Bool}{f:β->Option α}{Γt:β->List Slot}(S:SR C F' Γ σ H1)(W:Walks J F' rb xs)(hc:(cap.map (·.2)).Nodup)(hm:m<=loc.length)(hg:GV (yJ loc cap Γ) m g rb Γt)(ht:∀x,ET (Γt x) tt (t x))(he:∀x,EV (Γt x) te (f x) r)(e:Pu.cw t f xs=some as)(k:∀p vs F2 H2,Ext F' H1 F2 H2->H2 p=none->Paired (r.rel F2) vs as->Q (.ref p) (aD H2 p<|.lst vs))(D:Addr)(hD:H1 D=none):wV g tt te loc cap σ D Q J H1:=by
 unfold Pu.cw at e;split at e
 case isFalse=>cases e
 rename_i hl;have sn:∀j,j<m->(pc loc cap σ)[j]?=some none:=λj hj=>by unfold pc;rw[X9 (by simp;exact cf hj hm),X2,Z9 (by exact cf hj hm)];rfl
 refine comp_it (n:=xs.length) (λi ys H2=>∃F1 G p,H2=aD G D (.lst ys)/\G D=none/\Ext F' H1 F1 G/\Pu.c6 t f (xs.take i)=some p/\Paired (r.rel F1) ys p) ⟨F',H1,[],rfl,hD,Ext.refl S.sub,(by rw[List.take_zero];rfl),.nil⟩ ?_ ?_ ?_ ?_ ?_
 ·rintro i ys H2 _ ⟨F1,G,p,rfl,_⟩;exact af
 ·rintro i ys H2 hi ⟨F1,G,p,rfl,hG,x2,_⟩;exact W.go i _ (x2.ff.trans<|x2.sub.trans<|aO hG) hi
 ·rintro ys H2 ⟨F1,G,p,rfl,hG,x2,_⟩;exact W.stop _<|x2.ff.trans<|x2.sub.trans<|aO hG
 ·rintro i ys H2 x H' hi ⟨F1,G,p,rfl,hG,x2,hp,pr⟩ y;have sFH:=x2.sub.trans<|aO (o:=.lst ys) hG;obtain⟨F2,a,ha,x3,ra⟩:=W.yld i _ x H' F1 (x2.ff.trans sFH) hi y x2.ff sFH;have F1D:F1 D=none:=x2.sub.free hG;have noD:∀{A B:Hp},Ext F1 (aD G D<|.lst ys) A B->A D=none:=λ{A B} x=>by
   cases q:A D with
   |none=>rfl
   |some o =>
    rcases x.nw D o q with z|z
    ·rw[F1D]at z;cases z
    ·rw[af]at z;cases z
  have S3:SR C F2 (yJ loc cap Γ) (pc loc cap σ) H':=((((S.grow x2).comp hc).grow (Ext.newH x2.sub hG)).grow x3);have fin:∀{A B:Hp} {zs:List V} {pp:List α},Ext F1 (aD G D<|.lst ys) A B->Pu.c6 t f (xs.take<|i+1)=some pp->Paired (r.rel A) zs pp->∃F1 G p,aD B D (.lst zs)=aD G D (.lst zs)/\G D=none/\Ext F' H1 F1 G/\Pu.c6 t f (xs.take<|i+1)=some p/\Paired (r.rel F1) zs p:=λ{A B zs pp} x hpp pz=>by
   refine⟨A,del B D,pp,?_,fI,⟨vm (x2.hh.trans<|(vk (o:=.lst ys) hG trivial).trans x.hh) hD (x.hh.kp D (.lst ys) trivial af) trivial,x2.ff.trans x.ff,λb o h=>?_,λb o h=>?_,λz=>x.nt<|x2.nt z⟩,hpp,pz⟩
   ·funext b;unfold aD del;split<;>rfl
   ·rw[cu (ai h<|noD x)];exact x.sub b o h
   ·rcases x.nw b o h with z|z
    ·exact x2.nw b o z
    ·have n:b≠D:=by rintro rfl;rw[af]at z;cases z
     rw[ak n]at z;exact .inr<|x2.hh.un z
  obtain⟨p',b,h1,h2,h3,h4⟩:=Pu.AK e ha;rw[hp]at h1;cases h1;refine hg C F2 _ H' x a _ S3 ra λσ' S4 wk=>⟨wk sn,?_⟩;refine ht a C F2 σ' H' _ b S4 h2 λF3 H3 x4=>?_;cases b with
  |false =>
   have hB:H3 D=some (.lst ys):=(x3.trans x4).hh.kp D (.lst ys) trivial af;obtain⟨F5,G5,p5,q1,q2,q3,q4,q5⟩:=fin (x3.trans x4) (h4 rfl)<|Paired.imp2 (λs s z=>r.mono (x3.ff.trans x4.ff) z) pr;refine⟨F5,G5,p5,?_,q2,q3,q4,q5⟩;rw[<- q1];funext b;unfold aD;split
   ·rename_i z;rw[z];exact hB
   ·rfl
  |true =>obtain⟨c,h5,h6⟩:=h3 rfl;refine he a C F3 σ' H3 _ c (S4.grow x4) h5 λv F4 H4 x5 rv=>?_;have x6:=(x3.trans x4).trans x5;refine(qD (x6.hh.kp D (.lst ys) trivial af) ?_<|fin x6 h6<|Paired.app (Paired.imp2 (λs s z=>r.mono x6.ff z) pr)<|.cons rv .nil);have:=Pu.yK hp;rw[pr.length,V6];rw[R5]at this;lia
 ·rintro ys H2 ⟨F1,G,p,rfl,hG,x2,hp,pr⟩;rw[O6,e]at hp;cases hp;exact k D ys F1 G x2 hG pr
theorem du{t:β->Option Bool}{f:β->Option α}{Γt:β->List Slot}(hi:IV Γ wi ox rb)(hc:(cap.map (·.2)).Nodup)(hm:m<=loc.length)(hg:GV (yJ loc cap Γ) m g rb Γt)(ht:∀x,ET (Γt x) tt (t x))(he:∀x,EV (Γt x) te (f x) r):i4 Γ (wW wi loc cap g tt te) (ox.bind λxs=>Pu.cw t f xs) r:=by intro C F σ H Q as S e k;obtain⟨xs,e1,e⟩:=a9 e;exact hi C F σ H _ xs S e1 λJ F' H1 x1 W D hD=>yL (S.grow x1) W hc hm hg ht he e (λp vs F2 H2 x2=>k p vs F2 H2<|x1.trans x2) D hD
theorem bU{f:β->Option α}{Γt:β->List Slot}(hi:IV Γ wi ox rb)(hc:(cap.map (·.2)).Nodup)(hm:m<=loc.length)(hg:GV (yJ loc cap Γ) m g rb Γt)(he:∀x,EV (Γt x) te (f x) r):i4 Γ (wW wi loc cap g Au te) (ox.bind λxs=>Pu.comp f xs) r:=by
 have h:=du (t:=λa=>some true) hi hc hm hg (λa=>et_true) he;have e:(λxs=>Pu.cw (λa=>some true) f xs)=λxs=>Pu.comp f xs:=by funext xs;unfold Pu.cw Pu.comp;rw[Pu.AL]
 rw[e]at h;exact h
end
end
section
open PySem PySem.Spec PyProof.Rows
variable [Kn:Kon]
section
variable {α S T R:Type}
def BV(Γ:List Slot)(t:TS)(o:Option T)(fin:Fc->T->Ends->Prop):Prop:=∀C F σ H D x,SR C F Γ σ H->o=some x->fin C x D->t D σ H
def rg(r:Rp α):Fc->α->Ends->Prop:=λC a D=>∀v F H,Fr C F H->r.rel F v a->D.rt v H
def AM(r:Rp α):Fc->List α->Ends->Prop:=λC xs D=>∀p vs F H,Fr C F H->H p=none->Paired (r.rel F) vs xs->D.rt (.ref p) (aD H p<|.lst vs)
def finD(r:Rp α):Fc->List (Int×α)->Ends->Prop:=λC xs D=>∀p vs F H,Fr C F H->H p=none->Paired (cV r F) vs xs->D.rt (.ref p) (aD H p<|.dK vs)
theorem xp(g:TbG H)(h:H p=some u)(a:Own u):TbG (del H p):=by have ne:∀{c:Addr} {o:HO},H c=some o->(u=o->False)->c≠p:=λq n z=>n<|Z5<|h.symm.trans<|z▸q;exact g.mv (λx x q=>(cu (ne q λz=>qS z a.noTbl)).trans q) (λx x q=>(cu (ne q λz=>qT a z)).trans q) λx x q=>(eE q).2
structure RFin(rf:Fc->R->Ends->Prop):Prop where
 lo:∀{C F x D},aW C.L F->rf C x D->rf {C with L:=F} x D
 en:∀{C x D nx bk ct},rf C x D->rf C x {D with nx:=nx,bk:=bk,ct:=ct}
theorem rfV:RFin (rg r):=⟨λe h v F H f q=>h v F H (f.raise e) q,λh=>h⟩
def yM(Γf:S->List Slot):Fc->S->Ends->Prop:=λC s D=>∀F σ H,SR C F (Γf s) σ H->D.nx σ H/\D.ct σ H
def yN(Γf:S->List Slot)(rf:Fc->R->Ends->Prop):Fc->Pu.Ctl S R->Ends->Prop:=λC c D=>match c with
 |.nx s=>∀F σ H,SR C F (Γf s) σ H->D.nx σ H/\D.ct σ H
 |.bk s=>∀F σ H,SR C F (Γf s) σ H->D.bk σ H
 |.rt r=>rf C r D
def finJ(Γj:S->List Slot):Fc->S->Ends->Prop:=λC s D=>∀F σ H,SR C F (Γj s) σ H->D.nx σ H
end
section
variable {Γ:List Slot}{α β S T R:Type}{r:Rp α}{s:Rp β}{te:TE}{oa:Option α}{u t t':TS}{o o':Option T}{fin:Fc->T->Ends->Prop}
theorem BV.cast(h:BV Γ t o fin)(e:o'=o):BV Γ t o' fin:=e▸h
theorem bb(h:BV Γ (bW t mR) o fin):BV Γ t o fin:=h
theorem gO(h:BV Γ (bW t<|bW t' u) o fin):BV Γ (bW (bW t t') u) o fin:=h
theorem bx(h:BV Γ u o fin):BV Γ (bW mR u) o fin:=h
theorem aE{f:α->Option T}(i:Nat)(he:EV Γ te oa r)(h:∀a,BV (Γ.set i<|.fr r a) u (f a) fin):BV Γ (bW (jJ te<|db i) u) (oa.bind f) fin:=by intro C F σ H D x S e k;obtain⟨a,e1,e⟩:=a9 e;exact he C F σ H _ a S e1 λv F' H' x1 r1=>h a C F' _ H' D x ((S.grow x1).setF i r1) e k
theorem cN{f:List α->Option T}(i:Nat)(he:i4 Γ te ol r)(h:∀a,BV (Γ.set i<|.ol r lX a) u (f a) fin):BV Γ (bW (jJ te<|db i) u) (ol.bind f) fin:=by intro C F σ H D x S e k;obtain⟨a,e1,e⟩:=a9 e;exact he C F σ H _ a S e1 λp vs F' H' x1 hp r1=>h a C F' _ _ D x ((S.grow x1).setO i hp rfl ⟨p,vs,rfl,trivial,(S.grow x1).keep.free hp,x1.sub.free hp,af,r1⟩) e k
theorem xq{f:List (Int×α)->Option T}(i:Nat)(he:EVD Γ te ol r)(h:∀a,BV (Γ.set i<|.od r lX a) u (f a) fin):BV Γ (bW (jJ te<|db i) u) (ol.bind f) fin:=by intro C F σ H D x S e k;obtain⟨a,e1,e⟩:=a9 e;exact he C F σ H _ a S e1 λp vs F' H' x1 hp r1=>h a C F' _ _ D x ((S.grow x1).setO i hp rfl ⟨p,vs,rfl,trivial,(S.grow x1).keep.free hp,x1.sub.free hp,af,r1⟩) e k
theorem dE(hc:ET Γ tt oc)(h1:BV Γ (bW t u) o fin)(h2:BV Γ (bW t' u) o' fin):BV Γ (bW (tIfS tt t t') u) (oc.bind λb=>if b=true then o else o') fin:=by
 intro C F σ H D x S e k;obtain⟨b,e1,e⟩:=a9 e;refine hc C F σ H _ b S e1 λF' H' x1=>?_;cases b with
 |true=>exact h1 C F' σ H' D x (S.grow x1) e k
 |false=>exact h2 C F' σ H' D x (S.grow x1) e k
theorem rj{Γj:S->List Slot}{f:S->Option T}(h1:BV Γ t oj (finJ Γj))(h:∀s,BV (Γj s) u (f s) fin):BV Γ (bW t u) (oj.bind f) fin:=by intro C F σ H D x S e k;obtain⟨s,e1,e⟩:=a9 e;exact h1 C F σ H _ s S e1 λF' σ' H' S'=>h s C F' σ' H' D x S' e k
theorem gP{Γj:S->List Slot}(st:S)(hs:SubL Γ (Γj st)):BV Γ mR (some st) (finJ Γj):=λC F σ H D x S e k=>by cases e;obtain⟨F',_,S'⟩:=S.weak hs;exact k F' σ H S'
theorem bD(he:EV Γ te oa r):BV Γ (mS te) oa (rg r):=λC F σ H D x S e k=>he C F σ H _ x S e λv F' H' x1 r1=>k v F' H' (S.toFr.grow x1) r1
theorem cC(he:i4 Γ te ol r):BV Γ (mS te) ol (AM r):=λC F σ H D x S e k=>he C F σ H _ x S e λp vs F' H' x1 hp r1=>k p vs F' H' (S.toFr.grow x1) hp r1
set_option tactic.hygienic true in
theorem jU{φ:ZF}(i:Nat)(hi:Γ[i]?=some (.ol r φ xs)):BV Γ (mS<|bF i) (some xs) (AM r):=λC F σ H D x S e k=>by
 cases e;refine dM (S.at_ i _ hi) λp vs h1 h2 h3 h4 h5 h6=>?_;refine⟨.ref p,h1,?_⟩;have eH:H=aD (del H p) p (.lst vs):=by
  funext b;unfold aD del;split
  ·rename_i z;rw[z];exact h5
  ·rfl
 rw[eH];have sd:Sm C.H0 (del H p):=vm S.keep h3 h5 trivial;refine k p vs F (del H p) ⟨sd,S.low,λb o h=>?_,S.base,S.nt,xp S.tg h5 trivial⟩ fI h6;rw[cu (ai h h4)];exact S.sub b o h
theorem dN(h:BV Γ (mS te) o fin):BV Γ (bW (mS te) u) o fin:=λC F σ H D x S e k=>h C F σ H D x S e k
theorem xr{Γf:S->List Slot}{rf:Fc->R->Ends->Prop}(h:BV Γ (mS te) oR rf):BV Γ (mS te) (oR.bind λa=>some<|.rt a) (yN Γf rf):=λC F σ H D x S e k=>by obtain⟨a,e1,e⟩:=a9 e;cases e;exact h C F σ H D a S e1 k
theorem bc{Γf:S->List Slot}(st:S)(hs:SubL Γ (Γf st)):BV Γ mR (some st) (yM Γf):=λC F σ H D x S e k=>by cases e;obtain⟨F',_,S'⟩:=S.weak hs;exact(k F' σ H S').1
theorem bv_cont{Γf:S->List Slot}(st:S)(hs:SubL Γ (Γf st)):BV Γ wF (some st) (yM Γf):=λC F σ H D x S e k=>by cases e;obtain⟨F',_,S'⟩:=S.weak hs;exact(k F' σ H S').2
theorem tF{Γf:S->List Slot}{rf:Fc->R->Ends->Prop}(st:S)(hs:SubL Γ (Γf st)):BV Γ mR (some<|.nx st) (yN Γf rf):=λC F σ H D x S e k=>by cases e;obtain⟨F',_,S'⟩:=S.weak hs;exact(k F' σ H S').1
theorem bv_seqC(h:BV Γ wF o fin):BV Γ (bW wF u) o fin:=λC F σ H D x S e k=>h C F σ H D x S e k
end
end
section
open PySem PySem.Spec PyProof.Rows
variable [Kn:Kon]
section
variable {Γ:List Slot}{α β S T R:Type}{r:Rp α}{s:Rp β}{rb:Rp β}{tb te:TE}{oa:Option α}{K:Z3}{oi:ZI}{u t tl:TS}{o o':Option T}{fin:Fc->T->Ends->Prop}
theorem tG{Γf:S->List Slot}{Γt:S->β->List Slot}{body:S->β->Option (Pu.Ctl S R)}{rf:Fc->R->Ends->Prop}{f:S->Option T}{e:R->T}{st:S}(S2:SR C F2 (Γf st) σ H)(e0:Pu.andThen (Pu.iB body xs st) f e=some x)(k:fin C x D)(hw:∀i F3 s' σ H,SR {C with L:=F2} F3 (Γf s') σ H->J.stop xs.length H/\∀hi:i<xs.length,J.go i H/\∀v H',J.yld i H v H'->∃F4,Ext F3 H F4 H'/\rb.rel F4 v xs[i])(hg:∀s,GV (Γf s) m g rb (Γt s))(hb:∀s x,BV (Γt s x) tl (body s x) (yN Γf rf))(hr:RFin rf)(he:∀C x D,fin C (e x) D->rf C x D)(h:∀s,BV (Γf s) u (f s) fin):bW (sP (λa H R=>R J H) g tl) u D σ H:=by
 have L1:aW C.L F2:=S2.low;refine⟨λi m σ H=>∃F3 s',m=xs.length-i/\i<=xs.length/\SR {C with L:=F2} F3 (Γf s') σ H/\Pu.andThen (Pu.iB body (xs.drop i) s') f e=some x,⟨xs.length,F2,st,by simp,U5 _,S2.lower,by rw[List.drop_zero];exact e0⟩,?_⟩;rintro i m σ H ⟨F3,s',rfl,hil,S3,e3⟩;by_cases hlt:i<xs.length
 ·refine .inr ⟨((hw i F3 s' σ H S3).2 hlt).1,λσ' H'=>∃F3 s',i+1<=xs.length/\SR {C with L:=F2} F3 (Γf s') σ' H'/\Pu.andThen (Pu.iB body (xs.drop<|i+1) s') f e=some x,
   λσ' H' ⟨F3,s',h1,h2,h3⟩=>⟨xs.length-(i+1),by omega,F3,s',rfl,h1,h2,h3⟩,λv H' y=>?_⟩
  obtain⟨F4,x4,ra⟩:=((hw i F3 s' σ H S3).2 hlt).2 v H' y;rw[<- List.getElem_cons_drop (h:=hlt),Pu.iB]at e3;unfold Pu.andThen at e3;obtain⟨c1,e4,e5⟩:=a9 e3;obtain⟨c,e6,e7⟩:=a9 e4;refine hg s' _ F4 σ H' v xs[i] _ (S3.grow x4) ra λσ' S4 a=>?_;refine hb s' xs[i] _ F4 σ' H' _ c S4 e6 ?_;cases c with
  |nx s2 =>
   have e8:Pu.andThen (Pu.iB body (xs.drop<|i+1) s2) f e=some x:=by unfold Pu.andThen;rw[show Pu.iB body (xs.drop<|i+1) s2=some c1 from e7];exact e5
   exact λF5 σ5 H5 S5=>⟨⟨F5,s2,hlt,S5,e8⟩,⟨F5,s2,hlt,S5,e8⟩⟩
  |bk s2 =>cases e7;exact λF5 σ5 H5 S5=>h s2 C F5 σ5 H5 D x (S5.raise L1) e5 k
  |rt r2 =>cases e7;cases e5;exact hr.en<|hr.lo L1<|hr.en (nx:=u D) (bk:=D.bk) (ct:=D.ct)<|he C r2 D k
 ·have ei:i=xs.length:=by exact T9 hil<|T5.mp hlt
  subst ei;rw[List.drop_length,Pu.iB]at e3;exact .inl ⟨(hw 0 F3 s' σ H S3).1,h s' C F3 σ H D x (S3.raise L1) e3 k⟩
theorem Walks.at_{C:Fc}(W:Walks J F rb xs)(f2:aW F F2)(S3:SR {C with L:=F2} F3 Γ' σ H):J.stop xs.length H/\∀hi:i<xs.length,J.go i H/\∀v H',J.yld i H v H'->∃F4,Ext F3 H F4 H'/\rb.rel F4 v xs[i]:=by have fH:aW F H:=f2.trans<|S3.low.trans S3.sub;exact⟨W.stop H fH,λhlt=>⟨W.go i H fH hlt,λv H' y=>iD (W.yld i H v H' F3 fH hlt y (f2.trans S3.low) S3.sub) λF4 a ha x4 ra=>⟨F4,x4,(Z7.mp ha).2▸ra⟩⟩⟩
theorem rm{Γf:S->List Slot}{Γt:S->β->List Slot}{body:S->β->Option (Pu.Ctl S R)}{rf:Fc->R->Ends->Prop}{f:S->Option T}{e:R->T}(st:S)(hi:IV Γ wi ox rb)(hs:SubL Γ (Γf st))(hg:∀s,GV (Γf s) m g rb (Γt s))(hb:∀s x,BV (Γt s x) tl (body s x) (yN Γf rf))(hr:RFin rf)(he:∀C x D,fin C (e x) D->rf C x D)(h:∀s,BV (Γf s) u (f s) fin):BV Γ (bW (sP wi g tl) u) (ox.bind λxs=>Pu.andThen (Pu.iB body xs st) f e) fin:=by intro C F σ H D x S0 e0 k;obtain⟨xs,e1,e0⟩:=a9 e0;exact hi C F σ H _ xs S0 e1 λJ F' H1 x1 W=>aU ((S0.grow x1).weak hs) λF2 f2 S2=>tG S2 e0 k (λi F3 s' σ H S3=>W.at_ f2 S3) hg hb hr he h
theorem AN{S β T:Type}{body:S->β->Option S}{f:S->Option T}{e:Empty->T}:∀(xs:List β) (st:S),(Pu.bB body xs st).bind f=Pu.andThen (Pu.iB (λs x=>(body s x).map .nx) xs st) f e:=by
 intro xs;induction xs with
 |nil=>exact λa=>rfl
 |cons x xs ih =>
  intro st;show ((body st x).bind λs=>Pu.bB body xs s).bind f=Pu.andThen (((body st x).map Pu.Ctl.nx).bind _) f e;cases body st x with
  |none=>rfl
  |some s=>exact ih s
theorem bv_nx{Γf:S->List Slot}{o:Option S}{rf:Fc->R->Ends->Prop}(h:BV Γ t o (yM Γf)):BV Γ t (o.map .nx) (yN Γf rf):=λC F σ H D y X e k=>aU (U8.mp e) λz e1 e2=>h C F σ H D z X e1 (by rw[<- e2]at k;exact k)
def rfE:Fc->Empty->Ends->Prop:=λa x a=>x.elim
theorem AO:RFin rfE:=⟨λ{_ _ x _}=>x.elim,λ{_ x _ _ _ _}=>x.elim⟩
theorem bY{Γf:S->List Slot}{Γt:S->β->List Slot}{body:S->β->Option S}{f:S->Option T}(st:S)(hi:IV Γ wi ox rb)(hs:SubL Γ (Γf st))(hg:∀s,GV (Γf s) m g rb (Γt s))(hb:∀s x,BV (Γt s x) tl (body s x) (yM Γf))(h:∀s,BV (Γf s) u (f s) fin):BV Γ (bW (sP wi g tl) u) (ox.bind λxs=>(Pu.bB body xs st).bind f) fin :=
 (rm (rf:=rfE) (e:=Empty.elim) st hi hs hg (λs x=>bv_nx<|hb s x) AO (λa x=>x.elim) h).cast (congrArg ox.bind (funext λxs=>AN xs st))
set_option tactic.hygienic true in
theorem AQ{Γf:Addr->S->List Slot}{Γt:Addr->S->β->List Slot}{body:S->β->Option (Pu.Ctl S R)}{rf:Fc->R->Ends->Prop}{f:S->Option T}{e:R->T}(st:S)(j:Nat){φ:ZF}(hj:Γ[j]?=some (.ol rb φ xs))(hs:∀p,SubL (Γ.set j<|.ol rb (λb=>b=p) xs) (Γf p st))(hjf:∀p s,(Γf p s)[j]?=some (.ol rb (λb=>b=p) xs))(hg:∀p s,GV (Γf p s) m g rb (Γt p s))(hb:∀p s x,BV (Γt p s x) tl (body s x) (yN (Γf p) rf))(hr:RFin rf)(he:∀C x D,fin C (e x) D->rf C x D)(h:∀p s,BV (Γf p s) u (f s) fin):BV Γ (bW (sP (mT K<|bF j) g tl) u) (Pu.andThen (Pu.iB body xs st) f e) fin:=by
 intro C F σ H D x S0 e0 k;refine dM (S0.at_ j _ hj) λp vs h1 h2 h3 h4 h5 h6=>?_;have S1:SR C F (Γ.set j<|.ol rb (λb=>b=p) xs) σ H:=by
  have eH:H=aD H p (.lst vs):=by
   funext b;unfold aD;split
   ·rename_i z;rw[z];exact h5
   ·rfl
  rw[eH];exact S0.chg hj rfl h1 h3 h4 rfl ⟨p,vs,rfl,rfl,h3,h4,af,h6⟩
 obtain⟨F2,f2,S2⟩:=S1.weak<|hs p;refine⟨.ref p,h1,p,rfl,⟨vs,cD.of h5⟩,tG S2 e0 k (λi F3 s' σ H S3=>?_) (hg p) (hb p) hr he<|h p⟩;refine dM (S3.at_ j _<|hjf p s') λp3 vs3 k1 k2 k3 k4 k5 k6=>?_;cases k2;refine⟨⟨vs3,cD.of k5,by rw[k6.length];exact bi _⟩,λhlt=>aU (cJ k6<|Z9 hlt) λw g1 g2=>⟨⟨vs3,w,cD.of k5,g1⟩,λv H' y=>⟨F3,?_⟩⟩⟩;rw[y.1,Z5 ((y.2 vs3<|cD.of k5).symm.trans g1)];exact⟨Ext.refl S3.sub,g2⟩
theorem bv_whS{Γf:S->List Slot}{tf:S->Option Bool}{body:S->Option S}{f:S->Option T}(n:Nat)(st:S)(hs:SubL Γ (Γf st))(ht:∀s,ET (Γf s) tt (tf s))(hb:∀s,BV (Γf s) tl (body s) (yM Γf))(h:∀s,BV (Γf s) u (f s) fin):BV Γ (bW (zP tt tl) u) ((Pu.zH tf body n st).bind f) fin:=by
 intro C F σ H D x S0 e0 k;obtain⟨F2,f2,S2⟩:=S0.weak hs;refine⟨λm σ H=>∃F3 s',SR C F3 (Γf s') σ H/\(Pu.zH tf body m s').bind f=some x,⟨n,F2,st,S2,e0⟩,?_⟩;rintro m σ H ⟨F3,s',S3,e3⟩;cases m with
 |zero=>exact absurd e3 (by simp[Pu.zH])
 |succ m =>
  rw[Pu.zH]at e3;obtain⟨c1,e4,e5⟩:=a9 e3;obtain⟨b,e6,e7⟩:=a9 e4;refine ht s' C F3 σ H _ b S3 e6 λF4 H4 x4=>?_;cases b with
  |false =>rw[if_neg Y3]at e7 ⊢;cases e7;exact h s' C F4 σ H4 D x (S3.grow x4) e5 k
  |true =>rw[if_pos rfl]at e7 ⊢;obtain⟨c,e8,e9⟩:=a9 e7;refine⟨λσ' H'=>∃F3 s',SR C F3 (Γf s') σ' H'/\(Pu.zH tf body m s').bind f=some x,λσ' H' ⟨F3,s',h1,h2⟩=>⟨m,by exact U2 _,F3,s',h1,h2⟩,hb s' C F4 σ H4 _ c (S3.grow x4) e8 ?_⟩;exact λF5 σ5 H5 S5=>⟨⟨F5,c,S5,by rw[e9];exact e5⟩,⟨F5,c,S5,by rw[e9];exact e5⟩⟩
section
variable {φ:ZF}{xs:List α}{kvs:List (Int×α)}
set_option tactic.hygienic true in
theorem gQ{f:List α->Option T}(i:Nat)(hi:Γ[i]?=some (.ol r φ xs))(he:EV Γ te oa r)(h:∀ys,BV (Γ.set i<|.ol r φ ys) u (f ys) fin):BV Γ (bW (lq<|tBM K "list" qL (bF i) (aY te cH)) u) (oa.bind λa=>(Pu.app xs a).bind f) fin:=by
 intro C F σ H D x S e k;obtain⟨a,e1,e⟩:=a9 e;obtain⟨ys,e2,e⟩:=a9 e;refine dM (S.at_ i _ hi) λp vs h1 h2 h3 h4 h5 h6=>?_;refine⟨.ref p,h1,.inl ⟨rfl,vs,cD.of h5⟩,he C F σ H _ a S e1 λv F' H' x1 r1=>?_⟩;have S':=S.grow x1;refine dM (S'.at_ i _ hi) λp' vs' q1 q2 q3 q4 q5 q6=>?_;rw[h1]at q1;cases q1;unfold Pu.app at e2;split at e2
 ·rename_i hl;cases e2;refine⟨p,vs',v,rfl,rfl,q5,by rw[q6.length,V6];exact hl,?_⟩;exact h _ C F' σ _ D x (S'.chg hi rfl h1 q3 q4 rfl ⟨p,_,rfl,q2,q3,q4,af,Paired.app q6<|.cons r1 .nil⟩) e k
 ·cases e2
theorem AR{f:List α->Option T}(i:Nat)(hi:Γ[i]?=some (.ol r φ xs))(h:∀ys,BV (Γ.set i<|.ol r φ ys) u (f ys) fin):BV Γ (bW (lq<|tBM0 K "list" A8 (bF i)) u) (f []) fin:=by intro C F σ H D x S e k;refine dM (S.at_ i _ hi) λp vs h1 h2 h3 h4 h5 h6=>?_;exact⟨.ref p,h1,.inl ⟨rfl,vs,cD.of h5⟩,p,vs,rfl,rfl,h5,h [] C F σ _ D x (S.chg hi rfl h1 h3 h4 rfl ⟨p,_,rfl,h2,h3,h4,af,.nil⟩) e k⟩
def qk(Γ:List Slot)(to:TE)(i:Nat):Prop:=∀C F σ H Q v,SR C F Γ σ H->σ[i]?=some (some v)->Q v H->to σ H Q
theorem rp(i:Nat):qk Γ (bF i) i:=λx x x x x v x h q=>⟨v,h,q⟩
theorem yO{f:List α->Option T}(i:Nat)(ho:qk Γ to i)(hi:Γ[i]?=some (.ol r φ xs))(hk:EV Γ tb oi a8)(he:EV Γ te oa r)(h:∀ys,BV (Γ.set i<|.ol r φ ys) u (f ys) fin):
  BV Γ (bW (jJ te<|gSub to tb wQ) u) (oa.bind λa=>oi.bind λk=>(sG xs.length k).bind λj=>f<|xs.set j a) fin:=by
 intro C F σ H D x S e k;obtain⟨a,e1,e⟩:=a9 e;obtain⟨n,e2,e⟩:=a9 e;obtain⟨j,e3,e⟩:=a9 e;refine he C F σ H _ a S e1 λv F' H' x1 r1=>?_;obtain⟨o,h1,_⟩:=S.at_ i _ hi;obtain⟨p,rfl⟩:∃p,o=some (.ref p):=by obtain⟨o',h1',p,vs,rfl,_⟩:=S.at_ i _ hi;rw[h1]at h1';exact⟨p,Z5 h1'⟩
 refine ho C F' σ H' _ (.ref p) (S.grow x1) h1 (hk C F' σ H' _ n (S.grow x1) e2 λw F2 H2 x2 r2=>?_);have S':=(S.grow x1).grow x2;refine dM (S'.at_ i _ hi) λp' vs' q1 q2 q3 q4 q5 q6=>?_;rw[h1]at q1;cases q1;refine⟨p,vs',n,j,rfl,r2,q5,by rw[q6.length];exact e3,?_⟩;exact h _ C F2 σ _ D x (S'.chg hi rfl h1 q3 q4 rfl ⟨p,_,rfl,q2,q3,q4,af,Paired.setB (r.mono x2.ff r1) j q6⟩) e k
theorem tH{f:List α->Option T}(i:Nat)(hi:Γ[i]?=some (.ol r φ xs))(hk:EV Γ tb oi a8)(he:EV Γ te oa r)(h:∀ys,BV (Γ.set i<|.ol r φ ys) u (f ys) fin):
  BV Γ (bW (jJ te<|gSub (bF i) tb wQ) u) (oa.bind λa=>oi.bind λk=>(sG xs.length k).bind λj=>f<|xs.set j a) fin:=yO i (rp i) hi hk he h
set_option tactic.hygienic true in
theorem xt{f:List (Int×α)->Option T}(i:Nat)(ho:qk Γ to i)(hi:Γ[i]?=some (.od r φ kvs))(hk:EV Γ tb oi a8)(he:EV Γ te oa r)(h:∀ys,BV (Γ.set i<|.od r φ ys) u (f ys) fin):
  BV Γ (bW (Af to tb te) u) (oa.bind λa=>oi.bind λk=>if kvs.length<16777216 then f (Pu.put kvs k a) else none) fin:=by
 intro C F σ H D x S e k;obtain⟨a,e1,e⟩:=a9 e;obtain⟨n,e2,e⟩:=a9 e;split at e
 case isFalse=>cases e
 rename_i hl;refine he C F σ H _ a S e1 λv F' H' x1 r1=>?_;obtain⟨o,h1,p,vs,rfl,_⟩:=S.at_ i _ hi;refine ho C F' σ H' _ (.ref p) (S.grow x1) h1 (hk C F' σ H' _ n (S.grow x1) e2 λw F2 H2 x2 r2=>?_);have S':=(S.grow x1).grow x2;refine dM (S'.at_ i _ hi) λp' vs' q1 q2 q3 q4 q5 q6=>?_;rw[h1]at q1;cases q1;cases r2;refine(da p _ rfl (Ac.k (k:=Sum.inl n) q5 (by rw[q6.length,V6];exact hl)) ?_);exact h _ C F2 σ _ D x (S'.chg hi rfl h1 q3 q4 rfl ⟨p,_,rfl,q2,q3,q4,af,vA (r.mono x2.ff r1) q6⟩) e k
theorem AS{f:List (Int×α)->Option T}(i:Nat)(hi:Γ[i]?=some (.od r φ kvs))(hk:EV Γ tb oi a8)(he:EV Γ te oa r)(h:∀ys,BV (Γ.set i<|.od r φ ys) u (f ys) fin):
  BV Γ (bW (Af (bF i) tb te) u) (oa.bind λa=>oi.bind λk=>if kvs.length<16777216 then f (Pu.put kvs k a) else none) fin:=xt i (rp i) hi hk he h
end
theorem xu:EVD Γ qN (some []) r:=λC F σ H Q kvs S e k=>by cases e;exact λp hp=>k p [] F H (Ext.refl S.sub) hp .nil
end
section
variable {P:U7}{w:World}{K:Z3}{mg:ZN}{base:Heap}{x:Str}{st:Stmt}{N ps:ZJ}{k:Nat}{τ γ:Type}{ra:RpA τ}{r:Rp γ}
theorem SR.begin_(sb:aW F H)(nt:NT F)(tg:TbG H)(h:ra.rel F vs a)(hn:N.length-vs.length=n):SR ⟨H,F,F⟩ F (ra.slots a++R0 n .any) (start N vs) H:=by
 obtain⟨l,g⟩:=ra.ok h;have noown:∀(i:Nat) s,(ra.slots a++R0 n .any)[i]?=some s->s.own=false:=λi s h=>by
  by_cases hi:i<(ra.slots a).length
  ·rw[X9 hi]at h;exact(g i s h).1
  ·rw[Y7 (by exact T5.mp hi)]at h;have:=V3 h;rw[List.mem_replicate]at this;rw[this.2];rfl
 refine⟨⟨Sm.refl _,aW.refl _,sb,λb o h=>.inl h,nt,tg⟩,?_,λi s hs=>?_,λi j s t p h1 h2 o1 o2 x x=>?_⟩
 ·unfold start;rw[Y9,Y9,Z8,List.length_replicate,List.length_replicate,l,<- hn,l]
 ·unfold start;by_cases hi:i<(ra.slots a).length
  ·rw[X9 hi]at hs;obtain⟨_,v,g1,g2⟩:=g i s hs;exact(aB (some v) (by rw[X9 (by simp[l,hi]),X2,g1];rfl)<|g2 H H)
  ·rw[Y7 (by exact T5.mp hi)]at hs;have hm:=V3 hs;rw[List.mem_replicate]at hm;have hlt:=(Z7.mp hs).1;rw[List.length_replicate]at hlt;rw[hm.2];exact(aB none (by rw[Y7 (by simp;exact aR (bM l)<|T5.mp hi),Z8,List.getElem?_replicate,if_pos (by lia)]) trivial)
 ·rw[noown i s h1]at o1;cases o1
abbrev iL(P:U7)(w:World)(K:Z3)(mg:ZN)(base:Heap)(x:Str)(st:Stmt)(N:ZJ)(k:Nat)(G:TS->Prop):Prop :=
 ∀(f:Addr) (ZP:Value) (A:Around) (outer:List Env) (s:Shared) (H:Hp) (E:XK),Room k (A.deeper<|envOfC x (ah st) s.heap.objs.size f ZP)->∃t,mP (lV uQ P w K mg base N x (ah st) f ZP A outer s H E).nox (bp st) t/\G t
theorem bh.pV{f:τ->Option γ}(D:bh K mg x st ps)(S:FnScope N ps (ah st))(hl:∀a,(ra.slots a).length=ps.length)(hn:N.length-ps.length=n)(h:iL P w K mg base x st N k λt=>∀a,BV (ra.slots a++R0 n .any) t (f a) (rg r)):i3 P w K mg base (k+1) x ps (qX ra r f):=by
 refine D.has S (λvs H Q E h=>?_) λfa ZP A outer s H vs Q E hr hsp=>?_
 ·obtain⟨F,a,c,_,_,_,h1,_⟩:=h;rw[(ra.ok h1).1,hl]
 ·obtain⟨t,h1,h2⟩:=h fa ZP A outer s H E hr;obtain⟨F,a,c,sb,nt,tg,hr',hf,q⟩:=hsp;refine(aB t h1<|h2 a _ F _ H _ c (SR.begin_ sb nt tg hr' (by rw[(ra.ok hr').1,hl];exact hn)) hf ?_);exact λv F' H' fr rv=>q v F' H' ⟨fr.keep,fr.low,fr.sub,fr.base,λb=>fr.nt⟩ rv
theorem bh.pL{f:τ->Option (List γ)}(D:bh K mg x st ps)(S:FnScope N ps (ah st))(hl:∀a,(ra.slots a).length=ps.length)(hn:N.length-ps.length=n)(h:iL P w K mg base x st N k λt=>∀a,BV (ra.slots a++R0 n .any) t (f a) (AM r)):i3 P w K mg base (k+1) x ps (nC ra r f):=by
 refine D.has S (λvs H Q E h=>?_) λfa ZP A outer s H vs Q E hr hsp=>?_
 ·obtain⟨F,a,c,_,_,_,h1,_⟩:=h;rw[(ra.ok h1).1,hl]
 ·obtain⟨t,h1,h2⟩:=h fa ZP A outer s H E hr;obtain⟨F,a,c,sb,nt,tg,hr',hf,q⟩:=hsp;refine(aB t h1<|h2 a _ F _ H _ c (SR.begin_ sb nt tg hr' (by rw[(ra.ok hr').1,hl];exact hn)) hf ?_);exact λp vs F' H' fr hp rv=>q p vs F' H' ⟨fr.keep,fr.low,fr.sub,fr.base,λb=>fr.nt⟩ hp rv
theorem bh.pD{f:τ->Option (List<|Int×γ)}(D:bh K mg x st ps)(S:FnScope N ps (ah st))(hl:∀a,(ra.slots a).length=ps.length)(hn:N.length-ps.length=n)(h:iL P w K mg base x st N k λt=>∀a,BV (ra.slots a++R0 n .any) t (f a) (finD r)):i3 P w K mg base (k+1) x ps (spD ra r f):=by
 refine D.has S (λvs H Q E h=>?_) λfa ZP A outer s H vs Q E hr hsp=>?_
 ·obtain⟨F,a,c,_,_,_,h1,_⟩:=h;rw[(ra.ok h1).1,hl]
 ·obtain⟨t,h1,h2⟩:=h fa ZP A outer s H E hr;obtain⟨F,a,c,sb,nt,tg,hr',hf,q⟩:=hsp;refine(aB t h1<|h2 a _ F _ H _ c (SR.begin_ sb nt tg hr' (by rw[(ra.ok hr').1,hl];exact hn)) hf ?_);exact λp vs F' H' fr hp rv=>q p vs F' H' ⟨fr.keep,fr.low,fr.sub,fr.base,λb=>fr.nt⟩ hp rv
end
end
open PySem PySem.Spec PyProof.Rows
structure Dt{α:Type}[DecidableEq α](r:Rp α) where
 dat:α->PyData
 n:Nat
 ok:∀{K:Z3} {H v a},r.rel H v a->gM K H (dat a) v
 lay:∀a,(dat a).canLay0=true
 dep:∀a,(dat a).depth<=n
 eqv:∀a b,PyData.eqv (dat a) (dat b)=decide (a=b)
def tI:Dt a8:=⟨.int,0,λh=>by unfold gM;exact h,λx=>by rw[PyData.canLay0],λx=>by rw[PyData.depth];exact bi _,λa b=>by rw[PyData.eqv,V5];simp⟩
def dOp:Dt (cF a8):=⟨λa=>match a with|none=>.none|some i=>.int i,0,λ{K H v a} h=>by
  cases a with
  |none=>show gM K H PyData.none v;unfold gM;exact h
  |some i=>show gM K H (PyData.int i) v;unfold gM;exact h,
 λa=>by cases a<;>(show PyData.canLay0 _=true;rw[PyData.canLay0]),
 λa=>by cases a<;>(show PyData.depth _<=0;rw[PyData.depth];exact bi _),
 λa b=>by cases a<;>cases b<;>(show PyData.eqv _ _=_;rw[V5];simp[PyData.eqv])⟩
section
variable {α β γ:Type}[DecidableEq α][DecidableEq β][DecidableEq γ]{r:Rp α}{s:Rp β}{q:Rp γ}
theorem AT{K:Z3}(d:Dt r):∀{vs:List V} {xs:List α},Paired (r.rel H) vs xs->iG K H (xs.map d.dat) vs:=λp=>by
 induction p with
 |nil=>unfold iG;rfl
 |cons h _ ih=>rw[W5];unfold iG;exact(da _ _ rfl (d.ok h) ih)
theorem layAll(d:Dt r):∀xs:List α,PyData.canLayAll0 (xs.map d.dat)=true:=by
 intro xs;induction xs with
 |nil=>exact PyData.canLayAll0.eq_1
 |cons x xs ih=>rw[W5,PyData.canLayAll0,ih,d.lay];rfl
theorem depAll(d:Dt r):∀xs:List α,PyData.depthAll (xs.map d.dat)<=d.n:=by
 intro xs;induction xs with
 |nil=>rw[List.map_nil,PyData.depthAll];exact U5 _
 |cons x xs ih=>rw[W5,PyData.depthAll];exact Nat.max_le.mpr ⟨d.dep x,ih⟩
theorem yP(d:Dt r):∀xs ys:List α,K1 (xs.map d.dat) (ys.map d.dat)=decide (xs=ys):=by
 intro xs;induction xs with
 |nil=>intro ys;cases ys<;>simp[K1]
 |cons x xs ih =>intro ys;cases ys with|nil=>simp[K1]|cons y ys=>?_;rw[W5,W5,K1,ih ys,d.eqv];by_cases h:x=y<;>by_cases h':xs=ys<;>simp[h,h']
def dL(d:Dt r):Dt (rL r):=⟨λxs=>.list<|xs.map d.dat,d.n+1,λ{K H v a} h=>by obtain⟨p,vs,rfl,h1,h2⟩:=h;unfold gM;exact(da p vs rfl (.inl h1)<|AT d h2),
 λa=>by rw[PyData.canLay0];exact layAll d a,λa=>by rw[PyData.depth];have:=depAll d a;exact eU this<|U2 _,λa b=>by rw[PyData.eqv];exact yP d a b⟩
def dT3(d:Dt r)(e:Dt s)(f:Dt q):Dt (ju r s q):=⟨λx=>.tuple [d.dat x.1,e.dat x.2.1,f.dat x.2.2],max d.n (max e.n f.n)+1,λ{K H v a} h=>by obtain⟨p,x,y,z,rfl,h1,h2,h3,h4⟩:=h;unfold gM;refine(da p _ rfl (jp.of h1) ?_);unfold iG;refine(da _ _ rfl (d.ok h2) ?_);unfold iG;refine(da _ _ rfl (e.ok h3) ?_);unfold iG;refine(da _ _ rfl (f.ok h4) ?_);unfold iG;rfl,
 λa=>by simp[PyData.canLay0,PyData.canLayAll0,d.lay,e.lay,f.lay],λa=>by have:=d.dep a.1;have:=e.dep a.2.1;have:=f.dep a.2.2;simp[PyData.depth,PyData.depthAll];omega,λa b=>by rw[PyData.eqv,K1,K1,K1,K1,d.eqv,e.eqv,f.eqv,V5];obtain⟨a1,a2,a3⟩:=a;obtain⟨b1,b2,b3⟩:=b;simp⟩
theorem ev_eqD[Kn:Kon]{Γ:List Slot}{K:Z3}{ta tb:TE}{oa ob:Option α}(d:Dt r)(ha:EV Γ ta oa r)(hb:EV Γ tb ob r)(hn:autoParam (d.n<=60) L2.iu._auto_1):EV Γ (iw (rEqD K) ta tb) (oa.bind λa=>ob.bind λb=>some<|decide<|a=b) bq :=
 jS (r:=r) (s:=r) (λF H x y a b c Q sb r1 r2 e k=>by
  cases e;refine⟨_,_,d.ok<|r.mono sb r1,d.ok<|r.mono sb r2,d.lay _,d.lay _,?_,?_⟩
  ·have:=d.dep a;lia
  ·rw[d.eqv];exact k _ rfl) ha hb
theorem rq[Kn:Kon]{Γ:List Slot}{K:Z3}{ta tb:TE}{oa ob:Option α}(d:Dt r)(ha:EV Γ ta oa r)(hb:EV Γ tb ob r)(hn:autoParam (d.n<=60) L2.iu._auto_1):EV Γ (iw (rNeD K) ta tb) (oa.bind λa=>ob.bind λb=>some<|!decide (a=b)) bq :=
 jS (r:=r) (s:=r) (λF H x y a b c Q sb r1 r2 e k=>by
  cases e;refine⟨_,_,d.ok<|r.mono sb r1,d.ok<|r.mono sb r2,d.lay _,d.lay _,?_,?_⟩
  ·have:=d.dep a;omega
  ·rw[d.eqv];exact k _ rfl) ha hb
end
section
variable [Kn:Kon]
section
variable {Γ:List Slot}{α:Type}{r:Rp α}{ta tb tc:TE}{ox:ZI}{n m v:Int}
theorem di(ha:EV Γ ta ox a8)(hb:EV Γ tb (some n) a8)(hn:0<n):EV Γ (iw (rI (λx j=>0<j) λi j=>.int<|i%j) ta tb) (ox.bind λa=>some<|a%n) a8 :=
 (iI ha hb).cast (by unfold Pu.fmod;simp[hn])
theorem nF(ha:EV Γ ta ox a8)(hb:EV Γ tb (some n) a8)(hn:0<n/\n<2^64):EV Γ (iw (rI (λx j=>0<j/\j<2^64) λi j=>.int<|i/j) ta tb) (ox.bind λa=>some<|a/n) a8 :=
 (gd ha hb).cast (by unfold Pu.jv;simp only[cT,if_pos hn])
theorem i6(ha:EV Γ ta ox a8)(hb:EV Γ tb (some n) a8)(hn:-(2^64)<n/\n<2^64):EV Γ (iw (rI yk λi j=>.int<|i*j) ta tb) (ox.bind λa=>some<|a*n) a8 :=
 (fJ ha hb).cast (by
  have e:∀a,Pu.mul a n=some (a*n):=λa=>if_pos<|.inr hn;simp only[cT,e])
theorem nG(ha:EV Γ ta (some n) a8)(hb:EV Γ tb ox a8)(hn:-(2^64)<n/\n<2^64):EV Γ (iw (rI yk λi j=>.int<|i*j) ta tb) (ox.bind λa=>some<|n*a) a8 :=
 (fJ ha hb).cast (by
  have e:∀a,Pu.mul n a=some (n*a):=λa=>if_pos<|.inl hn;simp only[cT,e])
theorem mD(ha:EV Γ ta (some n) a8)(hb:EV Γ tb (some m) a8)(h:Pu.pow n m=some v):EV Γ (iw (rI CPow λi j=>.int<|i^j.toNat) ta tb) (some v) a8 :=
 (ev_pow ha hb).cast (by simp only[cT,h])
section
variable {t u:TT}{a b:Bool}
theorem rA(h:ET Γ t (some a))(h':ET Γ u (some b)):ET Γ (tAnd t u) (some<|a&&b):=by have:=et_and h h';cases a<;>exact this
theorem vD(h:ET Γ t (some a))(h':ET Γ u (some b)):ET Γ (tOr t u) (some (a || b)):=by have:=AC h h';cases a<;>exact this
theorem rB(h:EV Γ ta (some a) bq)(h':EV Γ tb (some b) bq):EV Γ (zK ta tb) (some<|a&&b) bq:=by have:=ev_and h h';cases a<;>exact this
theorem xw(ht:ET Γ t (some a))(ha:EV Γ ta (some x) r)(hb:EV Γ tb (some y) r):EV Γ (tIf t ta tb) (some (if a=true then x else y)) r:=by have:=vx ht ha hb;cases a<;>exact this
theorem kX{g g':Int->Int->Bool}(ha:EV Γ ta (some x) a8)(hb:EV Γ tb (some y) a8)(hc:EV Γ tc (some z) a8):EV Γ (qH (uO λi j=>.bl<|g i j) (uO λi j=>.bl<|g' i j) ta tb tc) (some<|g x y&&g' y z) bq :=
 (AB ha hb hc).cast (by simp only[cT];cases g x y<;>rfl)
end
end
def vE(K:Z3):Sp:=λvs H Q x=>∃(a:Addr) (ns:ZW),vs=[.ref a]/\Ints K H a ns/\ns.length<=63/\TbG H/\∀H',Q (.bl true) H'
theorem paired_ints:∀ns:List Int,Paired (a8.rel H) (ns.map V.int) ns:=by
 intro ns;induction ns with
 |nil=>exact .nil
 |cons _ _ ih=>exact .cons rfl ih
def ntF(H:Hp):Hp:=λb=>match H b with
 |some (.tbl _)=>none
 |x=>x
set_option tactic.hygienic true in
theorem tJ(h:ntF H b=some o):H b=some o/\dS o:=by
 unfold ntF at h;split at h
 ·cases h
 ·rename_i x hx;refine⟨h,?_⟩;cases o with
  |tbl ps=>exact absurd h<|hx ps
  |_=>trivial
set_option tactic.hygienic true in
theorem AU(h:H b=some o)(n:dS o):ntF H b=some o:=by
 unfold ntF;split
 ·rename_i ps e;rw[h]at e;cases e;exact n.elim
 ·exact h
theorem ntF_seq{K:Z3}(h:cD K H a xs):cD K (ntF H) a xs:=by
 rcases h with (h|⟨o,h⟩)|h
 ·exact .inl<|.inl<|AU h trivial
 ·exact .inl<|.inr ⟨o,AU h trivial⟩
 ·exact .inr h
theorem Fun.law{K:Z3}{mg:ZN}{st:Stmt}{fl:List Int->Option Bool}(F:Fun K "law" "law" st f fd)(S:FnScope N [p] (ah st))(hn:N.length-1=n)(hl:∀ns,ns.length<=63->fl ns=some true)(h:iL P w K mg base "law" st N k λt=>∀a,BV ((ce<|qU K).slots a++R0 n .any) t (fl a) (rg bq)):FnOk P w K mg base uQ (k+1) f fd [p] (vE K):=by
 refine F.ok S (λvs H Q E h=>?_) λZP A outer s H vs Q E hr hsp=>?_
 ·obtain⟨a,ns,rfl,_⟩:=h;rfl
 ·obtain⟨t,h1,h2⟩:=h f ZP A outer s H E hr;obtain⟨a,ns,rfl,hS,hlen,tg,q⟩:=hsp;refine(aB t h1<|h2 ns _ (ntF H) _ H _ true (SR.begin_ (ra:=ce<|qU K) (λb o h=>(tJ h).1) (λb ps h=>(tJ h).2) tg ⟨.ref a,rfl,a,_,rfl,ntF_seq hS,paired_ints ns⟩ hn) (hl ns hlen) ?_);intro v F' H' _ rv;cases rv;exact q H'
@[reducible] def kon0:Kon:=⟨[],λx=>""⟩
theorem tbg0(h:Only H):@TbG kon0 H:=@TbG.mk kon0 H (λP hP=>nomatch hP) λP ps e=>by
 rcases h P with z|zr1_
 ·rw[z]at e;cases e
 ·obtain⟨o,xs,z⟩:=zr1_;rw[z]at e;cases e
end
end L2
namespace Pu
def vF(ns:ZW):List Int:=ns.mergeSort λa b=>decide<|a<=b
theorem j7(ns:ZW):(vF ns).Perm ns:=List.mergeSort_perm _ _
theorem tK(ns:ZW):(vF ns).Pairwise (·<=·):=by have h:=List.pairwise_mergeSort (le:=λa b:Int=>decide<|a<=b) (λa b c h1 h2=>by simp at *;exact Int.le_trans h1 h2) (λa b=>by simp;lia) ns;exact h.imp λh=>by simpa using h
def sortI(ns:ZW):Option (List Int):=if ns.length<64 then some (vF ns) else none
def dv(a b:ZG):Bool:=decide<|a.1<b.1\/a.1=b.1/\a.2<b.2
def lZ(a b:ZG):Bool:=decide<|a.1<b.1\/a.1=b.1/\a.2<=b.2
def iM(ps:ZD):List (Int×Int):=ps.mergeSort lZ
theorem cO(ps:ZD):(iM ps).Perm ps:=List.mergeSort_perm _ _
theorem kY(a b c:ZG)(h1:lZ a b=true)(h2:lZ b c=true):lZ a c=true:=by unfold lZ at *;simp only[decide_eq_true_eq]at *;lia
theorem kZ(a b:ZG):(lZ a b || lZ b a)=true:=by unfold lZ;simp only[Bool.or_eq_true,decide_eq_true_eq];lia
theorem iN(ps:ZD):(iM ps).Pairwise λa b=>lZ a b=true:=List.pairwise_mergeSort kY kZ ps
theorem tL(h1:lZ a b=true)(h2:lZ b a=true):a=b:=by
 unfold lZ at *;simp only[decide_eq_true_eq]at *;obtain⟨a1,a2⟩:=a;obtain⟨b1,b2⟩:=b;simp only at *;have e1:a1=b1:=by lia
 have e2:a2=b2:=by lia
 rw[e1,e2]
theorem gm{α:Type}{le:α->α->Prop}(anti:∀a b,le a b->le b a->a=b){l m:List α}(hp:l.Perm m)(hl:l.Pairwise le)(hm:m.Pairwise le):l=m :=
 hp.eq_of_pairwise (λa b x x h1 h2=>anti a b h1 h2) hl hm
end Pu
namespace L2
section
open PySem PySem.Spec PyProof.Rows
variable [Kn:Kon]
theorem rC:∀{vs:ZT},aM (ns.map V.int) vs->F9 vs ns:=by
 induction ns with
 |nil=>intro vs h;cases h;exact .nil
 |cons n ns ih =>
  intro vs h;cases h with
  |cons r t=>obtain⟨k,rfl⟩:=r;exact .cons n k<|ih t
section
variable {X:Cx}{K:Z3}
theorem mE(h:X.K=K)(hu:X.A.units+64<cLine):jg X (O4 .NotEq) (rNeD K):=by subst h;intro ZY s σ H x y v u Q I rx ry h;obtain⟨dx,dy,h1,h2,c1,c2,dp,q⟩:=h;obtain⟨as,ra⟩:=gM.reads I h1 rx;obtain⟨bs,rb⟩:=gM.reads I h2 ry;exact SeqAt.compareNe_reads ra rb c1 c2 (by lia) ⟨.bl _,H,I,rfl,q⟩
end
section
variable {vs:ZT}
open PySem.W
def dU(vs:ZT)(p:Zn):Array Value:=Y0 (p.toList.map λi=>vs.getD i K8)
theorem nH(p:Zn):(dU vs p).size=p.size:=by unfold dU;simp
end
section
variable {X:Cx}
open PySem.W
theorem nI(a b:ZG):HT.lexLt [a.1,a.2] [b.1,b.2]=Pu.dv a b:=by
 unfold Pu.dv HT.lexLt HT.lexLt HT.lexLt;by_cases h:a.1=b.1
 ·rw[if_pos h];by_cases h':a.2=b.2
  ·rw[if_pos h',V5];simp;lia
  ·rw[if_neg h',V5];simp;lia
 ·rw[if_neg h,V5];simp;lia
def i7(h:Heap)(vs:ZT)(ps:ZD):Prop:=Paired (λv p=>∃a o xs n t u,v=U6 a/\h.get? a=some o/\o.cls=.type "tuple"/\o.data=.seq xs n/\xs=#[M4 p.1 t,M4 p.2 u]) vs ps
theorem i7.kept(p:i7 h vs ps)(k:∀b o,h.get? b=some o->h'.get? b=some o):i7 h' vs ps:=Paired.imp2 (λ_ _ ⟨a,o,xs,n,t,u,e1,e2,e3⟩=>⟨a,o,xs,n,t,u,e1,k _ _ e2,e3⟩) p
theorem i7.tups:∀{vs:ZT} {ps:ZD},i7 h vs ps->∃fs,KatTups h vs fs/\fs.length=ps.length/\∀v∈fs,∃i t,v=M4 i t:=λp=>by
 induction p with
 |nil=>exact(cZ ([]) trivial rfl λx h=>nomatch h)
 |cons z r ih =>
  obtain⟨a,o,xs,n,t,u,e1,e2,e3,e4,e5⟩:=z;obtain⟨fs,g1,g2,g3⟩:=ih;subst e1 e5;refine(cZ (_ ::fs) (KatTups.cons e2 e3 e4 rfl g1) (by simp[g2]) λv hv=>?_);rcases Y4.mp hv with rfl|hv
  ·exact⟨_,_,rfl⟩
  ·exact g3 v hv
theorem xy{x y:ZG}(h:x.1=y.1):Pu.dv x y=decide (x.2<y.2):=by unfold Pu.dv;rw[h];simp
theorem vG{x y:ZG}(h:x.1=y.1)(h2:x.2=y.2):Pu.dv x y=false:=by rw[xy h,h2];exact decide_eq_false<|Int.lt_irrefl _
theorem lt2_fst{x y:ZG}(h:x.1≠y.1):Pu.dv x y=decide (x.1<y.1):=by unfold Pu.dv;simp[h]
theorem l4(p:i7 s.heap vs ps){C:Zi}(hi:i<vs.length)(hj:j<vs.length)(h:C (Pu.dv (ps.getD i (0,0))<|ps.getD j (0,0)) s):
  kas_ask prog w A (tuples' true) vs i j C s:=by
 have hl:vs.length=ps.length:=Paired.length p;have at':∀k,k<vs.length->∃a o xs n t u,vs.getD k K8=U6 a/\s.heap.get? a=some o/\o.data=.seq xs n/\xs=#[M4 (ps.getD k (0,0)).1 t,M4 (ps.getD k (0,0)).2 u]:=λk hk=>by
  have zq:=g9 p<|Z9 hk;obtain⟨y,e,a,o,xs,n,t,u,e1,e2,e3,e4,e5⟩:=zq;have h1:vs.getD k K8=vs[k]:=by simp[hk]
  have h2:ps.getD k (0,0)=y:=by simp[e]
  rw[h1,h2];exact⟨a,o,xs,n,t,u,e1,e2,e4,e5⟩
 obtain⟨a,o,xs,n,t,u,e1,e2,e3,e4⟩:=at' i hi;obtain⟨a',o',xs',n',t',u',f1,f2,f3,f4⟩:=at' j hj;unfold kas_ask;rw[e1,f1];generalize ps.getD i (0,0)=x at *;generalize ps.getD j (0,0)=y at *;subst e4 f4;refine kat_lt e2 e3 f2 f3 ?_;refine kat_cons<|wpAny_eqBool_int ?_;have second:x.1=y.1->KatLex prog w A true (decide<|(#[M4 x.1 t,M4 x.2 u]:Array Value).size<(#[M4 y.1 t',M4 y.2 u']:Array Value).size) C [(M4 x.2 u,M4 y.2 u')] 1 s:=λh1=>by
  refine kat_cons<|wpAny_eqBool_int ?_;by_cases h2:x.2=y.2
  ·rw[show (x.2==y.2)=true by simpa using h2];refine kat_yes<|kat_nil ?_;have e:Pu.dv x y=false:=vG h1 h2;rw[e]at h;exact h
  ·rw[show (x.2==y.2)=false by simpa using h2];refine kat_no<|kat_one _ _ ?_;refine lt_int ?_;have e:Pu.dv x y=decide (x.2<y.2):=xy h1;rw[e]at h;exact h
 by_cases h1:x.1=y.1
 ·rw[show (x.1==y.1)=true by simpa using h1];exact kat_yes<|second h1
 ·rw[show (x.1==y.1)=false by simpa using h1];refine kat_no ?_;refine oneLt_int ?_;have e:Pu.dv x y=decide (x.1<y.1):=lt2_fst h1;rw[e]at h;exact h
theorem l5{ps:ZD}(hn:ps.Nodup):Srt.Lin (λi j=>Pu.dv (ps.getD i (0,0))<|ps.getD j (0,0)) ps.length:=by
 refine⟨λi a=>?_,λi j k a a a h1 h2=>?_,λi j hi hj hne h=>?_⟩
 ·unfold Pu.dv;rw[decide_eq_false_iff_not];lia
 ·unfold Pu.dv at *;rw[decide_eq_true_eq]at *;lia
 ·have ne:ps.getD i (0,0)≠ps.getD j (0,0):=by
   intro e;have e1:ps.getD i (0,0)=ps[i]:=by simp[hi]
   have e2:ps.getD j (0,0)=ps[j]:=by simp[hj]
   rw[e1,e2]at e;exact hne<|(List.getElem_inj hn).mp e
  generalize ps.getD i (0,0)=x at *;generalize ps.getD j (0,0)=y at *;unfold Pu.dv at *;rw[decide_eq_false_iff_not]at h;rw[decide_eq_true_eq];obtain⟨x1,x2⟩:=x;obtain⟨y1,y2⟩:=y;have:¬ (x1=y1/\x2=y2):=λz=>ne (by rw[z.1,z.2]);simp only at *;lia
theorem aM.pairs{σ:St}(I:Inv X ZY σ H s):∀{vs:List V} {its:ZT} {ps:ZD},aM vs its->Paired ((eV a8 a8).rel H) vs ps->i7 s.heap its ps:=λ{vs its ps} p0 p1=>by
 induction p0 generalizing ps with
 |nil=>cases p1;exact .nil
 |cons r t ih =>
  cases p1 with
  |cons z q =>
   refine .cons ?_<|ih q;obtain⟨p,a,b,rfl,e2,e3,e4⟩:=z;cases r;cases e3;cases e4;obtain⟨_,its',rv,o,h1,h2,n,h3⟩:=(show bn X.prog X.w H s.heap p (.tup [.int _,.int _]) from I.hok p _ e2);cases rv with
   |cons r1 rv =>
    cases rv with
    |cons r2 rv =>cases rv;obtain⟨t1,rfl⟩:=r1;obtain⟨t2,rfl⟩:=r2;exact⟨p,o,_,n,t1,t2,rfl,h1,h2,h3,rfl⟩
theorem vH(hn:ps.Nodup)(a:Srt.Arr ps.length p)(u:Srt.Up (λi j=>Pu.dv (ps.getD i (0,0))<|ps.getD j (0,0)) p ps.length):p.toList.map (λi=>ps.getD i (0,0))=Pu.iM ps:=by
 have e0:ps=(X5 ps.length).map λi=>ps.getD i (0,0):=by
  apply List.ext_getElem
  ·simp
  ·intro i h1 h2;simp[h1]
 refine Pu.gm (le:=λa b=>Pu.lZ a b=true) (λa b=>Pu.tL) ?_ ?_<|Pu.iN ps
 ·refine List.Perm.trans ?_ (Pu.cO ps).symm;have:=a.pm.map λi=>ps.getD i (0,0);rw[<- e0]at this;exact this
 ·rw[J9];intro i j hi hj hij;have hsz:p.toList.length=ps.length:=by rw[V7];exact a.sz
  rw[Z8]at hi hj;have h:=u i j hij (by exact cf hj<|bM hsz);have g:∀k (hk:k<p.toList.length),Srt.at' p k=p.toList[k]:=λk hk=>by unfold Srt.at';simp at hk;simp[hk]
  rw[g i hi,g j hj]at h;rw[List.getElem_map,List.getElem_map];unfold Pu.dv at h;unfold Pu.lZ;rw[decide_eq_true_eq]at *;omega
end
section
open PySem.W
theorem jV{α β:Type}{F:α->β->Prop}{l:List α}{m:List β}{x:α}{y:β}(p:Paired F l m)(hi:i<l.length):F (l.getD i x) (m.getD i y):=by
 obtain⟨b,e1,e2⟩:=g9 p<|Z9 hi;have h1:l.getD i x=l[i]:=by simp[hi]
 have h2:m.getD i y=b:=by simp[e1]
 rw[h1,h2];exact e2
theorem ck{α β γ:Type}{F:β->γ->Prop}{f:α->β}{g:α->γ}:∀{l:List α},(∀a∈l,F (f a) (g a))->Paired F (l.map f) (l.map g)
 |[],_=>.nil
 |a ::l,h=>.cons (h a<|Y4.mpr<|.inl rfl) (ck λb hb=>h b<|Y4.mpr<|.inr hb)
end
section
theorem fM:∀{vs:List V} {ns:ZW},Paired (a8.rel F) vs ns->vs=ns.map V.int:=λp=>by
 induction p with
 |nil=>rfl
 |cons h _ ih=>rw[W5,<- ih];cases h;rfl
end
end
end L2
namespace Pu
def je(σ:ZW)(k:Int):List Int:=if σ.any (·==k) then σ else σ++[k]
def ded(ns:ZW):List Int:=ns.foldl je []
def mset(ns:ZW):Option (List Int):=if ns.length+1<4096 then some (ded ns) else none
end Pu
namespace L2
section
open PySem PySem.Spec PyProof.Rows
variable [Kn:Kon]
section
variable {Γ:List Slot}{α:Type}{r:Rp α}{ta tb:TE}{K:Z3}{o:Option (List Int)}
theorem ev_ltT2{o o':Zg}(h:EV Γ ta o (eV a8 a8))(h':EV Γ tb o' (eV a8 a8)):EV Γ (iw (rLtT K) ta tb) (o.bind λa=>o'.bind λb=>some<|Pu.dv a b) bq :=
 jS (r:=eV a8 a8) (s:=eV a8 a8) (λF H x y a b c Q sb zq zp e k=>sI zq λp u v e1 h1 h2 h3=>sI zp λp' u' v' e2 h4 h5 h6=>by cases e;cases h2;cases h3;cases h5;cases h6;exact⟨p,p',[a.1,a.2],[b.1,b.2],e1,e2,jp.of<|sb _ _ h1,jp.of<|sb _ _ h4,by rw[nI];exact k _ rfl⟩) h h'
end
end
section
open PySem PySem.Spec PyProof.Rows
variable [Kn:Kon]
section
variable {prog:U7}{w:World}{A:Around}{s:Shared}{vs ks:ZT}{a kS:Addr}
open PySem.W
def iO(prog:U7)(w:World)(A:Around)(f:Value)(kS:Addr)(Fi:Zh):List Value->List Value->Shared->Prop
 |[],ks,s=>Fi ks s
 |x ::r,ks,s=>wpAny (model prog w) A (call f [x]) (λk s1=>(∃e,s1.heap.get? kS=some (seqObj "list" (Y0 ks) e)) /\
   iO prog w A f kS Fi r (ks++[k]) {s1 with heap:=s1.heap.update kS (X6 (·.push k))}) (λa a=>False) s
def i8(prog:U7)(w:World)(A:Around)(a:Addr)(e1:Nat)(kS:Addr)(vs:ZT)(P:PySem.Fin->Shared->Prop)(ks:ZT)(s:Shared):Prop :=
 s.heap.get? a=some (seqObj "list" #[] e1)/\∃(κ:SortKind) (c:Zq),Srt.Lin c vs.length/\(2<=vs.length->∀Q':SortKind->Shared->Prop,Q' κ s->wpAny (model prog w) A (keyKind'<|Y0 ks) Q' (λx x=>False) s) /\
  (∀i j C,i<vs.length->j<vs.length->C (c i j) s->kas_ask prog w A κ ks i j C s) /\
  ∀p,Srt.Arr vs.length p->Srt.Up c p vs.length->P (.done<|.ret .none) {s with heap:=(s.heap.update kS (X6 λx=>#[])).update a (X6 λx=>dU vs p)}
end
end
section
open PySem PySem.Spec PyProof.Rows
variable [Kn:Kon]
def jW(X:Cx)(A:Around)(N':ZJ)(qual:Str)(scope:Scope)(f:Addr)(cd:Value)(cl:Zw)(s:Shared)(H:Hp):Cx where
 prog:=X.prog
 w:=X.w
 K:=X.K
 mg:=X.mg
 base:=X.base
 A:=A.deeper (PySem.W.envX qual scope s.heap.objs.size f cd cl)
 N:=N'
 s₀:=s
 H₀:=H
 env:=PySem.W.envX qual scope s.heap.objs.size f cd cl
 outer:=X.stack
 stack:=PySem.W.envX qual scope s.heap.objs.size f cd cl ::X.stack
 ex:=[]
 fn:=λx=>false
 calm:=true
 pn:=[]
 xe:=λx x=>False
structure LamScope(X:Cx)(x:Str)(cap:ZH)(scope:Scope):Prop where
 kind:scope.kind=.function
 co:scope.isCoroutine=false
 gen:scope.isGenerator=false
 nocell:∀y∈scope.names,y.2≠.cell
 par:scope.names.lookup x=some .local
 free0:freeOk scope.names X.env.scope.names=true
 cap:tm X scope cap
def fN(v:V)(cap:ZH)(σ:St):St:=some v ::cap.map λp=>(σ[p.2]?).join
structure LamCl(X:Cx)(scope:Scope)(cl:Zw):Prop where
 of:∀x c,cl.lookup x=some c->X.env.cells.lookup x=some c
 has:∀y∈scope.names,y.2=.free->∃c,cl.lookup y.1=some c
section
variable {X:Cx}{A:Around}{ZY:ZO}{σ:St}{H:Hp}{s:Shared}{x:Str}{cap:ZH}{scope:Scope}{cl:Zw}{qual:Str}{f:Addr}{cd:Value}
theorem inv_lam(S:LamScope X x cap scope)(C:LamCl X scope cl)(I:Inv X ZY σ H s)(hA:A.frames=some X.stack)(hh:A.handled=none)(r:RelV v u)(hns:h1.Ns s.heap.objs.size λy=>[(x,u)].reverse.lookup y)(hk:∀b o,s.heap.get? b=some o->h1.get? b=some o):
  Inv (jW X A (x ::cap.map (·.1)) qual scope f cd cl s H) [] (fN v cap σ) H {s with heap:=h1,toks:=t'}:=by
 have noA:∀b:Addr,b∉(jW X A (x ::cap.map (·.1)) qual scope f cd cl s H).ex:=λb z=>absurd (show b∈([]:List Addr) from z) (by simp);refine⟨⟨I.ok.mod,S.kind,rfl,rfl,bi _,λy z c h1 h2=>I.ok.inj y z c (C.of y c h1)<|C.of z c h2,λy hy=>?_,λy c h a=>absurd (show (false=true) from h) (by decide),λa=>hh,Around.frames_deeper hA,.inr ⟨rfl,rfl⟩,λb z=>absurd z<|noA b,I.bs,
   aR I.ok.bsz I.sz,λb a a=>noA b,λb z=>absurd z<|noA b,I.stack,I.stkFree⟩,
  rfl,I.bare,Un.kept hk,(aB _ hns λi y z e1 e2 e3=>?_),λy c e=>?_,I.hok.fresh<|bi _,λy c e=>I.freeC y c<|C.of y c e,λp hp=>absurd (show p∈([]:List (Addr×Obj)) from hp) (by simp),I.hok.kept hk,by simp[jW,fN]⟩
 ·have hy:scope.names.lookup y=some .cell\/scope.names.lookup y=some .free:=hy;rcases hy with hy|hy
  ·exact absurd rfl<|S.nocell _<|P0 hy
  ·exact C.has _ (P0 hy) rfl
 ·cases i with
  |zero =>have e1:some x=some y:=e1;have e2:some (some v)=some (some z):=e2;cases e1;cases e2;exact(aB u r<|.inl ⟨S.par,by simp⟩)
  |succ i =>
   have e1:(cap.map (·.1))[i]?=some y:=e1;have e2:(cap.map λp=>(σ[p.2]?).join)[i]?=some (some z):=e2;rw[X2]at e1 e2;cases q:cap[i]? with
   |none=>rw[q]at e1;cases e1
   |some p =>
    rw[q]at e1 e2;have e1:p.1=y:=Z5 e1;have e2:(σ[p.2]?).join=some z:=Z5 e2;subst e1;have e4:σ[p.2]?=some (some z):=by
     cases q2:σ[p.2]? with
     |none=>rw[q2]at e2;cases e2
     |some o=>rw[q2]at e2;exact congrArg some e2
    obtain⟨c1,c2,c3⟩:=S.cap.get p<|V3 q;obtain⟨m,_,hl⟩:=I.loc;have vis:Vis X.env.scope p.1:=by
     rcases c3 with k|k
     ·exact .inr<|.inl k
     ·exact .inr<|.inr k
    obtain⟨u',r',l⟩:=hl p.2 p.1 z c1 e4 vis;refine(aB u' r'<|.inr ⟨.inr c2,?_⟩);rcases l with zr2_|zr1_
    ·obtain⟨k,_⟩:=zr2_;rcases c3 with z|z
     ·rw[k]at z;cases z
     ·rw[k]at z;cases z
    ·obtain⟨_,c,e,hc⟩:=zr1_;obtain⟨c',hc'⟩:=C.has (p.1,.free) (P0 c2) rfl;have:c'=c:=Z5<|(C.of _ _ hc').symm.trans e;subst this;obtain⟨o,ho,hd⟩:=hc;exact⟨c',hc',o,hk _ o ho,hd⟩
 ·obtain⟨v,o,ho,hd⟩:=I.cell y c<|C.of y c e;exact⟨v,o,hk _ o ho,hd⟩
open PySem.W in
theorem rE(S:LamScope X x cap scope)(C:LamCl X scope cl)(I:Inv X ZY σ H s)(ho:s.heap.get? f=some (kla_obj "<lambda>" qual params body scope cl pm c' ctv))(hA:A.frames=some X.stack)(hh:A.handled=none)(hd:A.depth<recursionLimit)(hc:H c'=some (.ext<|b0 c' qual))(hb:∀cl pm cd ct u,bindArgs (kla_fn "<lambda>" qual params body scope cl pm cd ct) ⟨[u],[]⟩=pure [(x,u)])(hp:PE (jW X A (x ::cap.map (·.1)) qual scope f (.ref c') cl s H) body tb)(r:RelV v u)(h:tb (fN v cap σ) H Q):wpAny (model X.prog X.w) A (call (.ref f) [u]) (EP X ZY σ Q) (λa a=>False) s:=by
 have hcd:s.heap.CodeRec (.ref c') qual:=(show bn X.prog X.w H s.heap c' (.ext<|b0 c' qual) from I.hok c' _ hc).1;refine wpAny_call (codeAny_mono (R:=λr s'=>match r with|.ok (.ret u')=>EP X ZY σ Q u' s'|_=>False) (kla_callFunE hd ho rfl S.co S.gen rfl hcd ?_) λr s' hr=>?_)
 ·rw[hb];refine Z6<|wpAny_newFunctionEnv S.nocell (λy hy=>?_) (λh₁ hns hsb=>⟨I.nolimit.fresh _ hsb,?_⟩) S.kind
  ·rw[Y5.mp hy];exact S.par
  have hk₁:∀b o,s.heap.get? b=some o->h₁.get? b=some o:=λb o e=>hsb.extBut b o (dB<|Y8 e)<|Z4 _ e;refine kla_codeExpr (R8 (hp [] _ _ H Q (inv_lam (qual:=qual) (f:=f) (cd:=.ref c') S C I hA hh r hns hk₁) h) (λu' s' he=>?_) λa a z=>z.elim);obtain⟨v',H',J,rv,q⟩:=he;exact I.after ⟨v',H',J.os,J.bare,J.base,J.hok,rv,q⟩
 ·cases r with
  |error e=>exact hr.elim
  |ok fl =>
   cases fl with
   |ret u=>exact hr
   |next=>exact hr.elim
   |brk=>exact hr.elim
   |cont=>exact hr.elim
end
def BM(mg:ZN)(base:Heap):Prop:=∃bm ob,mg "__builtins__"=some (.ref bm)/\bm≠builtinsNs/\base.get? bm=some ob/\ob.cls=.type "module"/\ob.dict=some builtinsNs/\ob.data=.plain
def rG(P:Addr)(H H':Hp):Prop:=H'=H\/∃(ps:Zp) (c:Addr) (pos:Pos),H P=some (.tbl ps)/\codeAmong pos ps.toList=none/\H c=none/\c≠P /\
 H'=aD (aD H P<|.tbl<|ps++#[rawInt pos.line,rawInt pos.col,.ref c]) c (.ext<|b0 c<|Kon.Q P)
set_option tactic.hygienic true in
theorem pf{pos pos':Pos}(l:ZT)(h:TriplesOk l)(hc:codeAmong pos' (l++[rawInt pos.line,rawInt pos.col,c])=some cv):codeAmong pos' l=some cv\/cv=c:=by
 fun_induction TriplesOk l with
 |case1 =>
  simp only[List.nil_append,rawInt,codeAmong]at hc;split at hc
  ·cases hc;exact .inr rfl
  ·cases hc
 |case2 a t b u x rest ih =>
  simp only[List.cons_append,codeAmong]at hc ⊢;split at hc
  ·rename_i z;rw[if_pos z];exact .inl hc
  ·rename_i z;rw[if_neg z];exact ih h hc
 |case3 l h1 h2=>exact h.elim
theorem xA{H:Hp}(hP:H P=some (.tbl ps))(q:H b=some (.tbl qs))(z:b=P):ps=qs:=by subst z;have y:=hP.symm.trans q;cases y;rfl
theorem rG.sm(t:rG P H H'):Sm H H':=by
 rcases t with rfl|⟨ps,c,pos,hP,hnf,hc,hcP,rfl⟩
 ·exact Sm.refl _
 have old:∀b o,b≠P->H b=some o->aD (aD H P<|.tbl<|ps++#[rawInt pos.line,rawInt pos.col,.ref c]) c (.ext<|b0 c<|Kon.Q P) b=some o:=λb o nb q=>by rw[ak (ai q hc),ak nb];exact q
 have atP:aD (aD H P<|.tbl<|ps++#[rawInt pos.line,rawInt pos.col,.ref c]) c (.ext<|b0 c<|Kon.Q P) P=some (.tbl<|ps++#[rawInt pos.line,rawInt pos.col,.ref c]):=by rw[ak (R6 hcP),af]
 refine⟨λb o n q=>old b o (λe=>?_) q,λb qs q=>?_,λg=>⟨λP' hP'=>?_,λP' qs q=>?_⟩⟩
 ·subst e;rw[hP]at q;cases q;exact n
 ·by_cases e:b=P
  ·exact⟨_,by rw[e,<- xA hP q e];exact atP⟩
  ·exact⟨#[],by rw[old b _ e q];simp⟩
 ·obtain⟨qs,e⟩:=g.there P' hP';by_cases e':P'=P
  ·exact⟨_,(congrArg _ e').trans atP⟩
  ·exact⟨qs,old _ _ e' e⟩
 ·by_cases e':P'=P
  ·subst e';rw[atP]at q;cases q;obtain⟨g1,g2⟩:=g.good P' ps hP;have el:(ps++#[rawInt pos.line,rawInt pos.col,U6 c]).toList=ps.toList++[rawInt pos.line,rawInt pos.col,U6 c]:=by simp
   rw[el];refine⟨TriplesOk_snoc _ _ _ _ g1,λpos' cv hcv=>?_⟩;rcases pf _ g1 hcv with z|z
   ·obtain⟨c2,e1,e2⟩:=g2 pos' cv z;exact(aB c2 e1<|old _ _ (λe=>by rw[e,hP]at e2;cases e2) e2)
   ·exact(aB c z af)
  ·have nc:P'≠c:=by rintro rfl;rw[af]at q;cases q
   rw[ak nc,ak e']at q;obtain⟨g1,g2⟩:=g.good P' qs q;exact⟨g1,λpos' cv hcv=>by obtain⟨c2,e1,e2⟩:=g2 pos' cv hcv;exact(aB c2 e1<|old _ _ (λe=>by rw[e,hP]at e2;cases e2) e2)⟩
section
variable {X:Cx}{ZY:ZO}{σ:St}{H:Hp}{s:Shared}{x:Str}{cap:ZH}{scope:Scope}{c P:Addr}{params:Arguments}{body:Expr}{pos:Pos}
open PySem.W in
theorem tab_no{h:Heap}{g P:Addr}{ps:Zp}{o:Obj}{es:Array G1}{ep:Nat}(hP:h.get? P=some (tabObj ps))(e:h.get? g=some o)(hd:o.data=.dict es ep)(q:g=P):False:=by subst q;have z:=(congrArg Obj.data<|Z5<|hP.symm.trans e).trans hd;cases z
open PySem.W in
theorem tab_nc{h:Heap}{g P:Addr}{ps:Zp}{o:Obj}(hP:h.get? P=some (tabObj ps))(e:h.get? g=some o)(hd:o.cls=.type "module")(q:g=P):False:=by subst q;have z:=(congrArg Obj.cls<|Z5<|hP.symm.trans e).trans hd;cases z
theorem dat_no{h:Heap}(e:h.get? g=some o)(e':h.get? b=some ob)(hd:o.data=.dict es ep)(hb:ob.data=.plain)(q:b=g):False:=by subst q;have z:=(hb.symm.trans<|congrArg Obj.data<|Z5<|e'.symm.trans e).trans hd;cases z
theorem Inv.addPin(I:Inv X ZY σ H s)(h1:s.heap.get? f=some o)(h2:H f=none)(h3:f≠X.env.locals)(h4:f∉X.fs)(h5:∀v,o.data≠.cell v):Inv X ((f,o) ::ZY) σ H s :=
 I.pins_of λp hp=>by
  rcases Y4.mp hp with rfl|hp
  ·exact⟨h1,h2,h3,h4,h5⟩
  ·exact I.pin p (X1 _ hp)
open PySem.W in
theorem AV{Q:ZX}(I:Inv X ZY σ H s)(S:LamScope X x cap scope)(tg:TbG H)(hT:P∈Kon.T)(hq:Kon.Q P=X.env.qual++"<lambda>")(hcode:X.env.code=.ref c)(hC:codeHdIn X.K c P=true)(bm:BM X.mg X.base)(hdef:defaultsOf params X.env=([],[]))(h:∀f cl pm c' ctv H' s',Inv X ((f,kla_obj "<lambda>" (Kon.Q P) params body scope cl pm c' ctv) ::ZY) σ H' s'->rG P H H'->H' c'=some (.ext<|b0 c'<|Kon.Q P)->LamCl X scope cl->Q (.ref f) s'):
  wpAny (model X.prog X.w) X.A (eval (.Lambda params body scope pos) X.env) Q X.xe s:=by
 obtain⟨ps,hP⟩:=tg.there P hT;obtain⟨t1,t2⟩:=tg.good P ps hP;have hPo:s.heap.get? P=some (tabObj ps):=(show bn X.prog X.w H s.heap P (.tbl ps) from I.hok P _ hP);obtain⟨cl,hcl,hcl1,hcl2⟩:=jr (scope:=scope) (env:=X.env) λy hy hf=>I.ok.has y.1<|ni S.free0 y hy hf;have CL:LamCl X scope cl:=⟨hcl1,hcl2⟩;have hgs:=I.mod.glob.keeps I.bk;obtain⟨b,ob,b1,b2,b3,b4,b5,b6⟩:=bm;have b3':=I.bk _ _ b3;have hgP:Q9≠P:=λq=>oq33 hgs λo es ep e hd i=>tab_no hPo e hd q;have hbP:b≠P:=λq=>tab_nc hPo b3' b4 q;have hbG:b≠Q9:=λq=>oq33 hgs λo es ep e hd i=>dat_no e b3' hd b6 q;have bat:s.heap.BuiltinsAt X.mg P:=⟨b,ob,b1,b2,hbG,hbP,b3',b4,b5,b6⟩;have CD:=codeHd_of_K I.kIn hC;refine kla_eval hdef ?_;rw[<- hq];cases hf:codeAmong pos ps.toList with
 |some cv =>obtain⟨c',rfl,e2⟩:=t2 pos cv hf;refine kla_makeFunctionHit (mg:=X.mg) hcl I.ok.glob hgs hcode CD hPo t1 hf bat λctv h' tk hk hsz=>?_;have I1:Inv X ZY σ H {s with heap:=h'.push<|kla_obj "<lambda>" (Kon.Q P) params body scope cl ((X.mg "__name__").getD .none) c' ctv,toks:=tk}:=I.kept λb u e=>Z4 _<|hk b u e;exact h h'.objs.size cl ((X.mg "__name__").getD .none) c' ctv H _ (I1.addPin (X0 _ rfl) (I.hok.fresh hsz) (M9<|cf I.lt hsz) (I.nofs hsz) λv z=>nomatch z) (.inl rfl) e2 CL
 |none =>
  refine kla_makeFunction (mg:=X.mg) hcl I.ok.glob hgs hcode CD hPo t1 hf hgP bat λc' ctv h' tk hx hge hlt hrec htb=>?_;have hcn:H c'=none:=I.hok.fresh hge;have hcP:c'≠P:=(ai hP hcn).symm;have hPL:P≠X.env.locals:=ai hP I.free;have hsz:s.heap.objs.size<=h'.objs.size:=ci<|eU hge hlt;have unt:∀b,H b=none->b≠P:=λb n=>(ai hP n).symm;have kp:∀b o,b≠P->s.heap.get? b=some o->(h'.push<|kla_obj "<lambda>" (Kon.Q P) params body scope cl ((X.mg "__name__").getD .none) c' ctv).get? b=some o:=λb o nb e=>Z4 _<|hx b o nb e;have hP2:(h'.push<|kla_obj "<lambda>" (Kon.Q P) params body scope cl ((X.mg "__name__").getD .none) c' ctv).get? P=some (tabObj<|ps++#[rawInt pos.line,rawInt pos.col,.ref c']):=Z4 _ htb;have lkO:∀b o,b≠P->H b=some o->aD (aD H P<|.tbl<|ps++#[rawInt pos.line,rawInt pos.col,.ref c']) c' (.ext<|b0 c'<|Kon.Q P) b=some o:=λb o nb q=>by rw[ak (ai q hcn),ak nb];exact q
  have lkP:aD (aD H P<|.tbl<|ps++#[rawInt pos.line,rawInt pos.col,.ref c']) c' (.ext<|b0 c'<|Kon.Q P) P=some (.tbl<|ps++#[rawInt pos.line,rawInt pos.col,.ref c']):=by rw[ak (R6 hcP),af]
  have I1:Inv X ZY σ (aD (aD H P<|.tbl<|ps++#[rawInt pos.line,rawInt pos.col,.ref c']) c'<|.ext<|b0 c'<|Kon.Q P) {s with heap:=h'.push<|kla_obj "<lambda>" (Kon.Q P) params body scope cl ((X.mg "__name__").getD .none) c' ctv,toks:=tk}:=by
   refine I.step (g':=s.gens) (d':=s.drawn) (ch:=[]) (λi z=>nomatch z) (λb o i i i e n=>kp b o (unt b n) e) (λb o i i i e n=>⟨o.slots,kp b o (unt b n) e⟩) (λb o i e n=>?_) (λb o i e=>?_) (λb xs q=>?_) (λb o u q=>?_) (λb qs q=>?_) (λm hm=>?_) (λa o q=>?_) I.bare
   ·rw[ak (dB<|cf (Y8 e) hge),ak (unt b n)];exact n
   ·by_cases z:b=P
    ·exact⟨_,(congrArg _ z).trans hP2⟩
    ·exact⟨o,kp b o z e⟩
   ·exact lkO b _ (λz=>by rw[z,hP]at q;cases q) q
   ·exact lkO b _ (λz=>by rw[z,hP]at q;cases q) q
   ·by_cases z:b=P
    ·exact⟨_,by rw[z,<- xA hP q z];exact lkP⟩
    ·exact⟨#[],by rw[lkO b _ z q];simp⟩
   ·exact(hm.extBut hx<|R6 hPL).push _
   ·by_cases z:a=c'
    ·subst z;rw[af]at q;cases q;obtain⟨c2,oc,vs,t,e2,hoc,hd,hv⟩:=hrec;cases e2;refine⟨⟨a,oc,vs,t,rfl,Z4 _ hoc,hd,hv⟩,⟨oc,Z4 _ hoc⟩,λh1 h2 zq kk=>oq44 zq λc3 oc3 vs3 t3 e3 z1 z2 z3=>?_⟩;cases e3;exact⟨a,oc3,vs3,t3,rfl,kk _ z1,z2,z3⟩
    ·by_cases z2:a=P
     ·subst z2;rw[lkP]at q;cases q;exact hP2
     ·rw[ak z,ak z2]at q;refine(I.hok a o q).stay (λb u hb e=>kp b u ?_ e) (λb q=>lkO b _ (λz=>by rw[z,hP]at q;cases q) q) λb xs q=>lkO b _ (λz=>by rw[z,hP]at q;cases q) q;rcases hb with rfl|hb
      ·exact z2
      ·intro e;rw[e,hP]at hb;cases hb
  exact h h'.objs.size cl ((X.mg "__name__").getD .none) c' ctv _ _ (I1.addPin (X0 _ rfl) (by rw[ak (M9 hlt),ak (λz=>by rw[z]at hsz;exact absurd (cf (I.hok.lt hP) hsz)<|O7 _)];exact I.hok.fresh hsz) (M9<|cf I.lt hsz) (I.nofs hsz) λv z=>nomatch z)
   (.inr ⟨ps,c',pos,hP,hf,hcn,hcP,rfl⟩) af CL
end
end
end L2
namespace Pu
theorem getD_at{α:Type}{l:List α}{d:α}(h:i<l.length):l.getD i d=l[i]:=by simp[h]
def keysOf(g:Zx):List Int->Option (List<|Int×Int)
 |[]=>some []
 |x ::xs=>(g x).bind λk=>(keysOf g xs).bind λks=>some (k ::ks)
def AW(ns:ZW)(ps:ZD):List Int:=((ps.zip ns).mergeSort λa b=>lZ a.1 b.1).map (·.2)
theorem vI{g:Zx}:∀{ns:ZW} {ps:ZD},keysOf g ns=some ps->ps.length=ns.length:=by
 intro ns;induction ns with
 |nil=>exact λh=>Z5 h▸rfl
 |cons n ns ih=>exact λh=>aU (L2.a9 h) λk x h=>aU (L2.a9 h) λks e h=>Z5 h▸congrArg Nat.succ (ih e)
theorem srtK_of(hl:ps.length=ns.length)(hn:ps.Nodup){ix:ZU}(hi:∀i∈ix,i<ns.length)(h:ix.map (λi=>ps.getD i (0,0))=iM ps):ix.map (λi=>ns.getD i 0)=AW ns ps:=by
 have hz:ix.map (λi=>(ps.zip ns).getD i ((0,0),0))=(ps.zip ns).mergeSort λa b=>lZ a.1 b.1:=by
  have key:((ps.zip ns).mergeSort λa b=>lZ a.1 b.1).map (·.1)=iM ps:=by
   refine gm (le:=λa b=>lZ a b=true) (λa b=>tL) ?_ ?_<|iN ps
   ·refine List.Perm.trans ((List.mergeSort_perm _ _).map _) ?_;rw[show (ps.zip ns).map (·.1)=ps by rw[List.map_fst_zip];exact bM hl];exact(cO ps).symm
   ·rw[L9];exact List.pairwise_mergeSort (λa b c=>kY a.1 b.1 c.1) (λa b=>kZ a.1 b.1)<|ps.zip ns
  have inj:∀a∈ps.zip ns,∀b∈ps.zip ns,a.1=b.1->a=b:=by intro a ha b hb e;obtain⟨i,hi,rfl⟩:=List.mem_iff_getElem.mp ha;obtain⟨j,hj,rfl⟩:=List.mem_iff_getElem.mp hb;simp only[List.getElem_zip]at e ⊢;have:i=j:=(List.getElem_inj hn).mp e;subst this;rfl
  have e1:(ix.map λi=>(ps.zip ns).getD i ((0,0),0)).map (·.1)=((ps.zip ns).mergeSort λa b=>lZ a.1 b.1).map (·.1):=by rw[key,<- h,T4];apply T6;intro i hi';have h1:=hi i hi';show ((ps.zip ns).getD i ((0,0),0)).1=ps.getD i (0,0);rw[getD_at (by simp;lia),getD_at (by exact cf h1<|bM hl.symm)];simp
  have lm:∀(l m:List ((Int×Int)×Int)),(∀a∈l,a∈ps.zip ns)->(∀a∈m,a∈ps.zip ns)->l.map (·.1)=m.map (·.1)->l=m:=by
   intro l;induction l with
   |nil=>intro m _ _ e;cases m with
    |nil=>rfl
    |cons _ _=>cases e
   |cons a l ih=>intro m h1 h2 e;cases m with
    |nil=>cases e
    |cons b m =>rw[W5,W5]at e;injection e with e3 e4;rw[inj a (h1 a (by simp)) b (h2 b (by simp)) e3,ih m (λx hx=>h1 x (by simp[hx])) (λx hx=>h2 x (by simp[hx])) e4]
  refine lm _ _ (λa ha=>?_) (λa ha=>(List.mergeSort_perm _ _).subset ha) e1;obtain⟨i,hi',rfl⟩:=W6.mp ha;have h1:=hi i hi';rw[getD_at (by simp;lia)];exact List.getElem_mem _
 unfold AW;rw[<- hz,T4];apply T6;intro i hi';have h1:=hi i hi';show ns.getD i 0=((ps.zip ns).getD i ((0,0),0)).2;rw[getD_at (l:=ps.zip ns) (by simp;lia),getD_at h1];simp
end Pu
namespace L2
section
open PySem PySem.Spec PyProof.Rows
variable [Kn:Kon]
def nJ(tb:TE)(st:V->St)(fin:List V->Hp->Prop):List V->List V->Hp->Prop
 |[],ks,H=>fin ks H
 |x ::r,ks,H=>tb (st x) H λk H'=>nJ tb st fin r (ks++[k]) H'
def vJ(vs:List V)(Q:VK)(ks:List V)(H:Hp):Prop:=∃ps:List (Int×Int),Paired ((eV a8 a8).rel H) ks ps/\ks.length=vs.length/\ps.Nodup /\
 ∀q (ix:ZU),H q=none->(∀i∈ix,i<vs.length)->ix.map (λi=>ps.getD i (0,0))=Pu.iM ps->Q (.ref q) (aD H q<|.lst (ix.map λi=>vs.getD i .non))
theorem Sm.seq{K:Z3}(e:Sm H H')(h:cD K H a xs):cD K H' a xs:=by
 rcases h with (h|⟨o,h⟩)|h
 ·exact .inl<|.inl<|e.kp _ _ trivial h
 ·exact .inl<|.inr ⟨o,e.kp _ _ trivial h⟩
 ·exact .inr h
section
variable {X:Cx}{A:Around}{ZY:ZO}{σ:St}{H:Hp}{s:Shared}{x:Str}{cap:ZH}{scope:Scope}{cl:Zw}{f:Addr}{cd:Value}
theorem Inv.relist(I:Inv X ((kS,o) ::ZY) σ H s)(hz:X.s₀.heap.objs.size<=kS)(hp:∀p∈X.pn++ZY,p.1≠kS)(hc:∀v,o'.data≠.cell v)(k:∀b ob,b≠kS->s.heap.get? b=some ob->h'.get? b=some ob)(h:h'.get? kS=some o'):
  Inv X ((kS,o') ::ZY) σ H {s with heap:=h'}:=by
 obtain⟨p1,p2,p3,p4,p5⟩:=I.pin (kS,o)<|X1 _<|Y4.mpr<|.inl rfl;have I0:Inv X ZY σ H s:=I.pins_of λp hp=>I.pin p<|X1 _<|Y4.mpr<|.inr hp;have I1:Inv X ZY σ H {s with heap:=h'}:=I0.turned (t':=s.toks) k p2 p3 (.inr hz) (λy c e z=>by obtain⟨v,ob,ho,hd⟩:=I.cell y c e;rw[z]at ho;have:some ob=some o:=ho.symm.trans p1;cases this;exact p5 v hd) hp
 exact I1.addPin h p2 p3 p4 hc
open PySem.W in
theorem AX{body:Expr}{pm ctv:Value}{c':Addr}{qual:Str}{tb:TE}{D kS:Addr}{oD:Obj}{Fi:Zh}{fin:List V->Hp->Prop}(S:LamScope X x cap scope)(C:LamCl X scope cl)(hA:A.frames=some X.stack)(hh:A.handled=none)(hd:A.depth<recursionLimit)(hb:∀cl pm cd ct u,bindArgs (kla_fn "<lambda>" qual params body scope cl pm cd ct) ⟨[u],[]⟩=pure [(x,u)])(hp:∀f cd cl s H,PE (jW X A (x ::cap.map (·.1)) qual scope f cd cl s H) body tb)(hz:X.s₀.heap.objs.size<=kS)(hpn:∀p∈X.pn++((D,oD) ::(f,kla_obj "<lambda>" qual params body scope cl pm c' ctv) ::ZY),p.1≠kS)(hfin:∀(e:Nat) ks kvs H s,Inv X ((kS,seqObj "list" (Y0 kvs) e) ::(D,oD) ::(f,kla_obj "<lambda>" qual params body scope cl pm c' ctv) ::ZY) σ H s->aM ks kvs->fin ks H->Fi kvs s):
  ∀(r:List V) (its:ZT) (ks:List V) (kvs:ZT) (e:Nat) (H:Hp) (s:Shared),Inv X ((kS,seqObj "list" (Y0 kvs) e) ::(D,oD) ::(f,kla_obj "<lambda>" qual params body scope cl pm c' ctv) ::ZY) σ H s ->
   aM r its->aM ks kvs->(nJ (λσ H Q=>H c'=some (.ext<|b0 c' qual)/\tb σ H Q) (λv=>fN v cap σ) fin r ks H)->iO X.prog X.w A (.ref f) kS Fi its kvs s:=λrr its ks kvs e H s I tt rk h=>by
 induction tt generalizing ks kvs e H s with
 |nil=>exact hfin e ks kvs H s I rk h
 |@cons v u _ _ r t ih =>
  obtain⟨h0,h⟩:=h;have po:=I.pin (f,kla_obj "<lambda>" qual params body scope cl pm c' ctv) (by simp);refine R8 (rE S C I po.1 hA hh hd h0 hb (hp _ _ _ _ _) r h) (λk s1 he=>?_) λa a z=>z;obtain⟨kv,H1,I1,rv,q⟩:=he;have pk:=I1.pin (kS,seqObj "list" (Y0 kvs) e) (by simp);refine⟨⟨e,pk.1⟩,?_⟩;have ea:(Y0 kvs).push k=Y0 (kvs++[k]):=by simp
  obtain⟨e2,hn⟩:∃e2,(s1.heap.update kS<|X6 (·.push k)).get? kS=some (seqObj "list" (Y0<|kvs++[k]) e2):=⟨_,by rw[<- ea];exact J7 pk.1 (·.push k)⟩;exact ih _ _ e2 H1 _ (I1.relist hz hpn (λv z=>nomatch z) (λb ob nb q=>by rw[V8 _ _ _ _ nb];exact q) hn) (rk.append<|.cons rv .nil) q
def One(Q1:V->Hp->Prop)(xs:List V)(H:Hp):Prop:=match xs with|[v]=>Q1 v H|_=>False
theorem One.got{Q1:V->Hp->Prop}(r:aM vv us)(q:One Q1 vv H):∃v u,us=[u]/\RelV v u/\Q1 v H:=by
 cases r with
 |nil=>exact q.elim
 |cons a b =>
  cases b with
  |nil=>exact⟨_,_,rfl,a,q⟩
  |cons _ _=>exact q.elim
open PySem.W in
end
end
section
open PySem PySem.Spec PyProof.Rows
variable [Kn:Kon]
theorem rG.ext(t:rG P H H')(sb:aW F H)(nt:NT F):Ext F H F H':=⟨t.sm,aW.refl _,λb o h=>t.sm.kp b o (by
 cases o with
 |tbl ps=>exact absurd h (nt b ps)
 |_=>trivial)<|sb b o h,λx x h=>.inl h,λz=>z⟩
section
variable {Γ:List Slot}{tb:TE}{cap:ZH}
theorem key_ev{g:Zx}{fin:List V->Hp->Prop}(hc:(cap.map (·.2)).Nodup)(hb:∀a,EV ((yJ [x] cap Γ).set 0 (.fr a8 a)) tb (g a) (eV a8 a8))(hfin:∀F H ks,Ext F0 H0 F H->Paired ((eV a8 a8).rel F) ks ps->fin ks H):∀(r:ZW) (ks:List V) (kp pr:ZD) (F H:Hp),SR C F Γ σ H->Ext F0 H0 F H->H c=some (.ext<|b0 c q)->Paired ((eV a8 a8).rel F) ks kp->Pu.keysOf g r=some pr->kp++pr=ps ->
   nJ (λσ H Q=>H c=some (.ext<|b0 c q)/\tb σ H Q) (λv=>fN v cap σ) fin (r.map V.int) ks H:=by
 intro r;induction r with
 |nil=>exact λks kp pr F H S x0 h0 hk e ep=>hfin F H ks x0<|(by rw[<- ep,<- Z5 e,W9]:kp=ps)▸hk
 |cons a r ih =>intro ks kp pr F H S x0 h0 hk e ep;obtain⟨k,e1,e⟩:=a9 e;obtain⟨ks',e2,e⟩:=a9 e;rw[<- Z5 e]at ep;refine⟨h0,hb a C F _ H _ k ((S.comp (loc:=[x]) hc).setF 0 (r:=a8) (a:=a) (v:=.int a) rfl) e1 λv F' H' x1 rv=>?_⟩;exact ih _ (kp++[k]) ks' F' H' (S.grow x1) (x0.trans x1) (x1.hh.kp _ _ trivial h0) (Paired.app (Paired.imp2 (λb b z=>Rp.mono _ x1.ff z) hk)<|.cons rv .nil) e2 (by rw[X3];exact ep)
end
def i9(K:Z3)(mg:ZN)(x:Str)(st:Stmt)(ps:ZJ)(c:Addr):Prop:=∃f fd,Fun K x x st f fd/\Binds K fd ps []/\mg x=some (.ref f)/\fd.code=.ref c
theorem def_mkC{K:Z3}{mg:ZN}{st:Stmt}{kV doc pm ZP ct:Value}(X:K.In h)(G:h.Ns Q9 mg)(a:PySem.W.nsIn K Q9 x=some (some<|.ref f))(l:K.lookup f=some ⟨oc,od,.func<|N0 x x (cz st) (bp st) (ah st) .none kV doc pm an ZP ct,osl⟩)(hcd:D7 K ZP x=true)(k:M7 K (.ref f)=true)(hc:ZP=.ref c)(hb:∀(kV doc pm:Value) (an:Zr) (ZP ct:Value) (us:ZT),us.length=ps.length->bindArgs (N0 x x (cz st) (bp st) (ah st) .none kV doc pm an ZP ct) ⟨us,[]⟩=pure (ps.zip us)):i9 K mg x st ps c :=
 ⟨f,_,i0 (st:=st) l hcd k,(i0 (st:=st) l hcd k).binds hb,PySem.W.mg_of X G a,hc⟩
section
variable {P:U7}{w:World}{K:Z3}{mg:ZN}{base:Heap}{x:Str}{st:Stmt}{N ps:ZJ}{k:Nat}{c:Addr}{τ γ:Type}{ra:RpA τ}{r:Rp γ}
theorem i9.has(D:i9 K mg x st ps c)(S:FnScope N ps (ah st))(len:∀vs H Q E,sp vs H Q E->vs.length=ps.length)(hbody:∀(f:Addr) (A:Around) (outer:List Env) (s:Shared) (H:Hp) (vs:List V) (Q:VK) (E:XK),Room k (A.deeper<|envOfC x (ah st) s.heap.objs.size f<|.ref c)->sp vs H Q E ->
   ∃t,mP (lV uQ P w K mg base N x (ah st) f (.ref c) A outer s H E).nox (bp st) t/\t {nx:=λa H'=>Q .non H',rt:=Q} (start N vs) H):i3 P w K mg base (k+1) x ps sp:=by
 obtain⟨f,fd,F,b,hm,hc⟩:=D;refine⟨f,fd,?_,hm,F.kp,b⟩;obtain⟨oc,od,kV,doc,pm,an,ZP,ct,osl,rfl,lk,hcd⟩:=F.ex;obtain rfl:ZP=.ref c:=hc;refine fn_of lk hcd S len λA outer s H vs Q E hr hsp=>?_;obtain⟨t,h,q⟩:=hbody f A outer s H vs Q E hr hsp;exact(aB t h.nox q)
abbrev xB(P:U7)(w:World)(K:Z3)(mg:ZN)(base:Heap)(x:Str)(st:Stmt)(N:ZJ)(k:Nat)(c:Addr)(G:TS->Prop):Prop :=
 ∀(f:Addr) (A:Around) (outer:List Env) (s:Shared) (H:Hp) (E:XK),Room k (A.deeper<|envOfC x (ah st) s.heap.objs.size f<|.ref c)->∃t,mP (lV uQ P w K mg base N x (ah st) f (.ref c) A outer s H E).nox (bp st) t/\G t
theorem i9.pV{f:τ->Option γ}(D:i9 K mg x st ps c)(S:FnScope N ps (ah st))(hl:∀a,(ra.slots a).length=ps.length)(hn:N.length-ps.length=n)(h:xB P w K mg base x st N k c λt=>∀a,BV (ra.slots a++R0 n .any) t (f a) (rg r)):i3 P w K mg base (k+1) x ps (qX ra r f):=by
 refine D.has S (λvs H Q E h=>?_) λfa A outer s H vs Q E hr hsp=>?_
 ·obtain⟨F,a,c,_,_,_,h1,_⟩:=h;rw[(ra.ok h1).1,hl]
 ·obtain⟨t,h1,h2⟩:=h fa A outer s H E hr;obtain⟨F,a,c,sb,nt,tg,hr',hf,q⟩:=hsp;refine(aB t h1<|h2 a _ F _ H _ c (SR.begin_ sb nt tg hr' (by rw[(ra.ok hr').1,hl];exact hn)) hf ?_);exact λv F' H' fr rv=>q v F' H' ⟨fr.keep,fr.low,fr.sub,fr.base,λb=>fr.nt⟩ rv
theorem i9.pL{f:τ->Option (List γ)}(D:i9 K mg x st ps c)(S:FnScope N ps (ah st))(hl:∀a,(ra.slots a).length=ps.length)(hn:N.length-ps.length=n)(h:xB P w K mg base x st N k c λt=>∀a,BV (ra.slots a++R0 n .any) t (f a) (AM r)):i3 P w K mg base (k+1) x ps (nC ra r f):=by
 refine D.has S (λvs H Q E h=>?_) λfa A outer s H vs Q E hr hsp=>?_
 ·obtain⟨F,a,c,_,_,_,h1,_⟩:=h;rw[(ra.ok h1).1,hl]
 ·obtain⟨t,h1,h2⟩:=h fa A outer s H E hr;obtain⟨F,a,c,sb,nt,tg,hr',hf,q⟩:=hsp;refine(aB t h1<|h2 a _ F _ H _ c (SR.begin_ sb nt tg hr' (by rw[(ra.ok hr').1,hl];exact hn)) hf ?_);exact λp vs F' H' fr hp rv=>q p vs F' H' ⟨fr.keep,fr.low,fr.sub,fr.base,λb=>fr.nt⟩ hp rv
end
end
open PySem PySem.Spec PyProof.Rows
@[reducible] def konL(l:List (Addr×Str)):Kon:=⟨l.map (·.1),λb=>((l.find? λp=>p.1==b).map (·.2)).getD ""⟩
def mF(K:Z3)(T:Zz)(a:Addr)(H:Hp):Prop:=∀b u,H b=some u->(b=a/\K.lookup a=none/\∃o xs,u=.frz o (.lst xs))\/(b∈T/\u=.tbl #[])
theorem yQ[Kn:Kon]{K:Z3}{mg mb:ZN}(KX:K.In s₁.heap)(hns:s₁.heap.Ns Q9 mg)(hb:s₁.heap.Ns builtinsNs mb)(hbb:∀x:Str,x≠"__name__"->mb x=O1 x)(hlim:s₁.heap.NoLimit)(hbm:BM mg s₁.heap)(hg:s₁.gens=#[])(ha:s₁.heap.get? a=some {cls:=.type "list",data:=.seq vs.toArray})(hi:F9 vs ns)(hl:ns.length<=W3)(hr:Room k callerA)(hT:∀P∈Kon.T,s₁.heap.get? P=some (PySem.W.tabObj #[])/\(∃c,PySem.W.codeHdIn K c P=true)/\K.lookup P=none)(F:∀base:Heap,K.In base->base.Ns Q9 mg->BM mg base->FnOk P w K mg base CX k fa fd [x] sp)(hbind:∀(s:Shared) (u:Value),BindsTo s fd ⟨[u],[]⟩ [(x,u)])(hsp:∀H:Hp,TbG H->cD K H a (ns.map V.int)->sp [.ref a] H (λv i=>v=.bl true) λi i i=>False)(hCX:∀H e s',CX [] H s₁ (λi i i=>False) e s'->False):
  codeAny (model P w) callerA (.call (.ref fa) ⟨[.ref a],[]⟩) (λr s'=>r=.ok (.ret<|.bool true)/\OldK s₁.heap s'.heap/\s'.os=s₁.os/\AllBare s'.gens) s₁:=by
 have rv:=kQ hi;have lenV:=hi.length;have aT:a∉Kon.T:=λz=>by have:=(hT a z).1;rw[ha]at this;cases this
 have core:∀H:Hp,mF K Kon.T a H->TbG H->cD K H a (ns.map V.int)->jE P w H s₁.heap ->
   codeAny (model P w) callerA (.call (.ref fa) ⟨[.ref a],[]⟩) (λr s'=>r=.ok (.ret<|.bool true)/\OldK s₁.heap s'.heap/\s'.os=s₁.os/\AllBare s'.gens) s₁:=by
  intro H hA tg hS hok;have free:∀{b:Addr} {o:Obj},s₁.heap.get? b=some o->(∀xs n,o.data≠.seq xs n)->(∀xs,o.data≠.fields xs)->H b=none:=λ{b o} e d1 d2=>by
   cases q:H b with
   |none=>rfl
   |some u =>
    rcases hA b u q with zr2_|zr1_
    ·obtain⟨z,_⟩:=zr2_;rw[z,ha]at e;cases e;exact absurd rfl<|d1 _ _
    ·obtain⟨z,_⟩:=zr1_;rw[(hT b z).1]at e;cases e;exact absurd rfl<|d2 _
  have nsK:∀{b:Addr} {m:ZN},s₁.heap.Ns b m->(qF s₁.heap H).Ns b m:=λ{b m} zq=>oq33 zq λo es ep e d r=>⟨o,es,ep,mO e (free e (λi i z=>by rw[d]at z;cases z) λi z=>by rw[d]at z;cases z),d,r⟩;have hKb:K.In (qF s₁.heap H):=λb o e=>mO (KX b o e) (by
   cases q:H b with
   |none=>rfl
   |some u =>
    rcases hA b u q with zr4_|zr3_
    ·obtain⟨z,z2,_⟩:=zr4_;rw[z,z2]at e;cases e
    ·obtain⟨z,_⟩:=zr3_;rw[(hT b z).2.2]at e;cases e)
  have hM:Mod K mg (qF s₁.heap H):=⟨hKb,nsK hns,(aB mb (nsK hb) hbb),aU hlim λmc h1 h2=>⟨mc,nsK h1,h2⟩⟩;have hB:BM mg (qF s₁.heap H):=by obtain⟨bm,ob,b1,b2,b3,b4,b5,b6⟩:=hbm;exact⟨bm,ob,b1,b2,mO b3 (free b3 (λi i z=>by rw[b6]at z;cases z) λi z=>by rw[b6]at z;cases z),b4,b5,b6⟩
  have e0:Env0 P w K mg (qF s₁.heap H) callerA [] s₁ H:=⟨rfl,hM,λb o e=>of_hidT e,bM<|yh _ _,trivial,λb hb=>absurd (show b∈([]:List Addr) from hb) (by simp),hok,.of_eq hg⟩;refine codeAny_mono ((F _ hKb (nsK hns) hB).run callerA [] s₁ H ⟨[.ref a],[]⟩ [.ref a] [.ref a] _ _ hr e0 (hbind s₁<|.ref a) (.cons rfl .nil) (hsp H tg hS)) λr s' h=>?_;cases r with
  |error e=>exact(hCX H e s' h).elim
  |ok fl =>
   cases fl with
   |next=>exact L6 h
   |brk=>exact L6 h
   |cont=>exact L6 h
   |ret u =>
    obtain⟨v,H',os,bare,un,hok',r',q⟩:=h;have q':v=.bl true:=q;subst q';obtain rfl:u=Value.bool true:=r';have nof:∀b:Addr,b∉zG ([]:List Env):=λb z=>absurd (show b∈([]:List Addr) from z) (by simp);refine(qE rfl ⟨λb o e=>?_,λb o e=>un.there b o e (by simp)⟩ os bare);cases q:H b with
    |none=>exact .inl<|un.keep b o e q (nof b) (by simp)
    |some u =>
     rcases hA b u q with zr6_|zr5_
     ·obtain⟨_,_,ob,xs,rfl⟩:=zr6_;have z2:=un.frzs b ob _ q;obtain⟨e1,_⟩:=hok b _ q;obtain⟨e2,_⟩:=hok' b _ z2;rw[e]at e1;cases e1;exact .inl e2
     ·obtain⟨z,rfl⟩:=zr5_;obtain⟨more,z3⟩:=un.tbls b #[] q;have z4:s'.heap.get? b=some (PySem.W.tabObj<|#[]++more):=(show bn P w H' s'.heap b (.tbl<|#[]++more) from hok' b _ z3);obtain⟨t1,⟨c,t2⟩,_⟩:=hT b z;rw[t1]at e;cases e;exact .inr (.inl ⟨((PySem.W.codeHd_of_K KX t2).tab t1).isCodeTable,rfl,#[],more,rfl,z4⟩)
 classical
 have tgOf:∀H:Hp,(∀P∈Kon.T,H P=some (.tbl #[]))->mF K Kon.T a H->TbG H:=λH h1 h2=>⟨λP hP=>⟨#[],h1 P hP⟩,λP ps e=>by
  rcases h2 P _ e with zr8_|zr7_
  ·obtain⟨_,_,o,xs,z⟩:=zr8_;cases z
  ·obtain⟨_,z⟩:=zr7_;cases z;exact⟨trivial,λpos cv h=>by simp[codeAmong]at h⟩⟩
 cases hk:K.lookup a with
 |some o =>
  have e:=KX a o hk;rw[ha]at e;cases e;have s1:mF K Kon.T a (λb=>if b∈Kon.T then some (.tbl #[]) else none):=λb u z=>by
   by_cases hb:b∈Kon.T
   ·exact .inr ⟨hb,(Z5<|(if_pos hb).symm.trans z).symm⟩
   ·exact nomatch (if_neg hb).symm.trans z
  refine core (λb=>if b∈Kon.T then some (.tbl #[]) else none) s1 (tgOf _ (λP hP=>if_pos hP) s1) (.inr ⟨_,vs.toArray,_,hk,rfl,rfl,rfl,(by rw[Y6,lenV];exact hl),(by simpa using rv)⟩) λb u z=>?_;rcases s1 b u z with zr10_|zr9_
  ·obtain⟨_,z2,_⟩:=zr10_;rw[hk]at z2;cases z2
  ·obtain⟨z1,rfl⟩:=zr9_;exact(hT b z1).1
 |none =>
  have s1:mF K Kon.T a (λb=>if b=a then some (.frz {cls:=.type "list",data:=.seq vs.toArray} (.lst<|ns.map V.int)) else if b∈Kon.T then some (.tbl #[]) else none):=λb u z=>by
   by_cases hb:b=a
   ·exact .inl ⟨hb,hk,_,_,(Z5<|(if_pos hb).symm.trans z).symm⟩
   ·have z:=(if_neg hb).symm.trans z;by_cases hb:b∈Kon.T
    ·exact .inr ⟨hb,(Z5<|(if_pos hb).symm.trans z).symm⟩
    ·exact nomatch (if_neg hb).symm.trans z
  refine core _ s1 (tgOf _ (λP hP=>(if_neg fun z:P=a=>aT<|z▸hP).trans (if_pos hP)) s1) (.inl<|.inr ⟨{cls:=.type "list",data:=.seq vs.toArray},if_pos rfl⟩) λb u z=>?_;by_cases hb:b=a
  ·have z':=(if_pos hb).symm.trans z;cases z';subst hb;exact⟨ha,by rw[Z8];exact hl,vs,_,rv,ha⟩
  ·have z':=(if_neg hb).symm.trans z;by_cases hb:b∈Kon.T
   ·have z':=(if_pos hb).symm.trans z';cases z';exact(hT b hb).1
   ·exact nomatch (if_neg hb).symm.trans z'
theorem AY[Kn:Kon]{l:PySem.W.OpenLaw}{XP:(Str->Option Value)->Heap->Prop}{YP:World->Heap->Prop}{K:Params->Z3}{sp:World->Sp}(hn:l.most=some n)(hn2:n<=W3)(hdf:d.params.defaults=[])(hr:Room k callerA)(hY:∀(w:World) (h:Heap),YP w h->(K w.params).In h/\∀P∈Kon.T,h.get? P=some (PySem.W.tabObj #[]))(hC:∀(w:World),∀P∈Kon.T,(K w.params).lookup P=none)(F:∀(w:World) (mg:ZN) (fa:Addr) (h:Heap),(K w.params).In h->h.Ns Q9 mg->mg d.name=some (.ref fa) ->
   ∃fd:FuncData,(∀(s:Shared) (u:Value),BindsTo s fd ⟨[u],[]⟩ [(x,u)])/\(∀P∈Kon.T,∃c,PySem.W.codeHdIn (K w.params) c P=true) /\
    ∀base:Heap,(K w.params).In base->base.Ns Q9 mg->BM mg base->FnOk l.prog w (K w.params) mg base uQ k fa fd [x] (sp w))(hsp:∀(w:World) (H:Hp) (a:Addr) (ns:ZW),ns.length<=n->TbG H->cD (K w.params) H a (ns.map V.int)->sp w [.ref a] H (λv i=>v=.bl true) λi i i=>False):
  PySem.W.WalkO q loose XP YP l.row.toRowW d [] (λf vs=>PySem.call f vs):=by
 refine Att.t9 hn hdf λw s₀ s₁ mg mb fa o pm cd doc a vs ns G Y ho hd i hmg hobj hints hlen hg=>?_;obtain⟨KX,KT⟩:=hY w _ Y;obtain⟨fd,hb,hcd,hF⟩:=F w mg fa _ KX G.T.g hmg;exact yQ KX G.T.g G.T.b G.T.builtins G.T.nolimit G.T.bmain hg hobj hints (aR hlen hn2) hr (λP hP=>(qD (KT P hP) (hcd P hP)<|hC w P hP)) hF hb (λH tg hS=>hsp w H a ns hlen tg hS) λH e s' z=>z
end L2
namespace Pu
def lrng(j:Int):Option (List Int):=if -(2^62)<=j/\j<2^62/\j.toNat<=16777216 then some (nats j.toNat) else none
end Pu
namespace L2
section
open PySem PySem.Spec PyProof.Rows
variable [Kn:Kon]
structure LamAt(K:Z3)(mg:ZN)(base:Heap)(c P:Addr)(x:Str):Prop where
 bm:BM mg base
 hd:PySem.W.codeHdIn K c P=true
 mem:P∈Kon.T
 nm:Kon.Q P=(x++".<locals>.")++"<lambda>"
section
variable {X:Cx}{a:Expr}{te:TE}{p pos:Pos}
def tRng(te:TE):TE:=λσ H Q=>te σ H λv H1=>∃j:Int,v=.int j/\-(2^62)<=j/\j<2^62/\∀q,H1 q=none->Q (.ref q) (aD H1 q<|.rng 0 j)
theorem pe_rng(he:PE X a te)(hg:Gl X "range")(hm:X.mg "range"=none)(hs:autoParam (V1 [a] X.env=[(false,eval a X.env)]) L2.cY._auto_1):PE X (.Call (.Name "range" p) [a] [] pos) (tRng te):=by
 intro ZY s σ H Q I h;have h1:(aY te cH) σ H λxs H1=>∃j:Int,xs=[.int j]/\-(2^62)<=j/\j<2^62/\∀q,H1 q=none->Q (.ref q) (aD H1 q<|.rng 0 j):=by
  show te σ H λx H1=>∃j:Int,[x]=[.int j]/\-(2^62)<=j/\j<2^62/\∀q,H1 q=none->Q (.ref q) (aD H1 q<|.rng 0 j);have e:(λ(x:V) H1=>∃j:Int,[x]=[.int j]/\-(2^62)<=j/\j<2^62/\∀q,H1 q=none->Q (.ref q) (aD H1 q<|.rng 0 j))=λx H1=>∃j:Int,x=.int j/\-(2^62)<=j/\j<2^62/\∀q,H1 q=none->Q (.ref q) (aD H1 q<|.rng 0 j):=by funext x H1;simp
  rw[e];exact h
 refine G3<|gB I hg hm boot_range<|M0 (bu (a7 he aa hs pos ZY s σ H _ I h1) λus s1 ⟨vs,H1,I1,r1,q1⟩=>?_) hs rfl;obtain⟨j,rfl,q1,q2,q⟩:=q1;cases r1 with
 |cons r rr =>cases rr;obtain⟨t,rfl⟩:=r;exact call_range_1 ⟨.ref _,_,I1.laid (o:=.rng 0 j) (λb o e=>Z4 _ e) (bi _) ⟨_,_,_,X0 _ rfl⟩,rfl,q _<|I1.hok.fresh<|bi _⟩
def AZ:List V->Hp->VK->Prop:=λxs H Q=>∃r j,xs=[.ref r]/\H r=some (.rng 0 j)/\-(2^62)<=j/\j<2^62/\j.toNat<=16777216/\∀q,H q=none->Q (.ref q) (aD H q<|.lst<|(Pu.nats j.toNat).map V.int)
theorem vK(hc:X.calm=true):dR X (.type "list") AZ:=by
 intro ZY s σ H xs us Q I r hh;obtain⟨l,j,rfl,hR,h1,h2,h3,q⟩:=hh;obtain⟨u,rfl,ru⟩:=vals1 r;cases ru;obtain⟨t,u,v,ho⟩:=(show bn X.prog X.w H s.heap l (.rng 0 j) from I.hok l _ hR);refine call_list_range (n:=j.toNat) (I.ok.hd hc) ho (small_one (by lia) (by lia) h1 h2) (by rw[rangeSize_one];split<;>lia) (by lia) λh' tk acc c' hk hD hacc=>?_;have hl:acc.toList.length=j.toNat:=by rw[V7];exact hacc.1
 refine⟨.ref _,_,I.laid (t':=tk) (o:=.lst<|(Pu.nats j.toNat).map V.int) hk (bi _) ⟨?_,acc.toList,c',?_,by rw[hD]⟩,rfl,q _<|I.hok.fresh<|bi _⟩
 ·rw[V6];simp[Pu.nats];lia
 ·refine kQ ?_;have key:∀(l:ZT) (k:Nat),(∀(i:Nat) v,l[i]?=some v->∃t,v=M4 ((k+i:Nat):Int) t)->F9 l ((List.range' k l.length).map λ(i:Nat)=>(i:Int)):=by
   intro l;induction l with
   |nil=>exact λk a=>.nil
   |cons x l ih =>intro k hx;obtain⟨t,rfl⟩:=hx 0 x rfl;rw[V9,List.range'_succ,W5];refine .cons _ t (ih (k+1) λi v e=>?_);obtain⟨t,e2⟩:=hx (i+1) v (by simpa using e);exact⟨t,by rw[e2];congr 2;try lia⟩
  have:=key acc.toList 0 λi v e=>by obtain⟨t,e2⟩:=hacc.2 i v (by rw[<- Array.getElem?_toList];exact e);exact⟨t,by rw[e2];congr 1;try lia⟩
  rw[hl]at this;unfold Pu.nats;rw[List.range_eq_range'];exact this
end
set_option tactic.hygienic true in
theorem tM(h:EV Γ te oi a8):i4 Γ (uP AZ<|aY (tRng te) cH) (oi.bind λj=>Pu.lrng j) a8:=by
 intro C F σ H Q xs S e k;obtain⟨j,e1,e⟩:=a9 e;unfold Pu.lrng at e;split at e
 ·rename_i hh;cases e;refine h C F σ H _ j S e1 λv F' H' x1 r1=>(jc j r1 hh.1 hh.2.1 λq hq=>⟨q,j,rfl,af,hh.1,hh.2.1,hh.2.2,λl hl=>k l _ F' _ (x1.trans<|Ext.newH x1.sub hq) hl<|paired_ints _⟩)
 ·cases e
end
end L2
namespace Pu
def nK(g:Zx):List Int->Int->Int×Int->Option Int
 |[],b,_=>some b
 |x ::xs,b,kb=>(g x).bind λk=>if dv k kb=true then nK g xs x k else nK g xs b kb
def B0(g:Zx):List Int->Option Int
 |[]=>none
 |x ::xs=>(g x).bind λk=>nK g xs x k
end Pu
namespace L2
section
open PySem PySem.Spec PyProof.Rows
variable [Kn:Kon]
def jy(tb:TE)(st:V->St)(sq:Hp->Prop)(Q:VK):List V->V->V->Hp->Prop
 |[],b,_,H=>sq H/\Q b H
 |x ::r,b,kb,H=>sq H/\tb (st x) H λk H'=>∃pk pb,(eV a8 a8).rel H' k pk/\(eV a8 a8).rel H' kb pb/\(if Pu.dv pk pb=true then jy tb st sq Q r x k H' else jy tb st sq Q r b kb H')
def tMinK(K:Z3)(P:Addr)(cap:ZH)(te tb:TE):TE:=λσ H Q=>te σ H λv H1=>∃p x r,v=.ref p/\cD K H1 p (x ::r)/\TbG H1 /\
 ∀H2 c,rG P H1 H2->H2 c=some (.ext<|b0 c<|Kon.Q P)->H2 c=some (.ext<|b0 c<|Kon.Q P)/\tb (fN x cap σ) H2 λk H'=>jy (λσ H Q=>H c=some (.ext<|b0 c<|Kon.Q P)/\tb σ H Q) (λx=>fN x cap σ) (λH=>cD K H p (x ::r)) Q r x k H'
section
variable {X:Cx}{ZY:ZO}{σ:St}{H:Hp}{s:Shared}{x:Str}{cap:ZH}{scope:Scope}{cl:Zw}{f:Addr}{cd:Value}
theorem rH{h:Heap}(h1:h.IsList l its)(h2:h.IsListIter i l' j):l≠i:=λz=>by obtain⟨o,ho,hc,_⟩:=h1;obtain⟨o2,ho2,hc2,_⟩:=h2;rw[z,ho2]at ho;cases ho;rw[hc2]at hc;simp at hc
theorem mG{a:Addr×Obj}{z:Addr}(h:∀p∈A++B,p.1<z)(ha:a.1≠z):∀p∈A++a ::B,p.1≠z:=λp hp=>by
 rcases V4.mp hp with q|q
 ·exact dB<|h p<|P8 _ q
 ·rcases Y4.mp q with q|q
  ·rw[q];exact ha
  ·exact dB<|h p<|X1 _ q
theorem Inv.noc(I:Inv X ZY σ H s)(hm:(a,o)∈X.pn++ZY):∀y c,X.env.cells.lookup y=some c->c≠a:=λy c e z=>by obtain⟨v,ob,ho,hd⟩:=I.cell y c e;obtain⟨q1,_,_,_,q5⟩:=I.pin (a,o) hm;rw[z]at ho;have:some ob=some o:=ho.symm.trans q1;cases this;exact q5 v hd
theorem Inv.swap(I:Inv X (a ::b ::ZY) σ H s):Inv X (b ::a ::ZY) σ H s:=I.pins_of λp hp=>I.pin p (X1 _ (by
 simp only[Y4]at hp ⊢;rcases hp with h|h|h
 ·exact .inr (.inl h)
 ·exact .inl h
 ·exact .inr<|.inr h))
theorem Inv.drop1(I:Inv X (a ::ZY) σ H s):Inv X ZY σ H s:=I.pins_of λp hp=>I.pin p<|X1 _<|Y4.mpr<|.inr hp
theorem Inv.relistT(I:Inv X ((kS,o) ::ZY) σ H s)(hz:X.s₀.heap.objs.size<=kS)(hp:∀p∈X.pn++ZY,p.1≠kS)(hc:∀v,o'.data≠.cell v)(k:∀b ob,b≠kS->s.heap.get? b=some ob->h'.get? b=some ob)(h:h'.get? kS=some o'):
  Inv X ((kS,o') ::ZY) σ H {s with heap:=h',toks:=t'}:=by
 have I1:=(I.relist hz hp hc k h).tok t';exact I1
theorem pair_lt{E:ZX}{Q:ZX}(I:Inv X ZY σ H s)(ra:RelV a u)(rb:RelV b v)(ha:(eV a8 a8).rel H a pa)(hb:(eV a8 a8).rel H b pb)(hu:A.units<cLine)(h:Q (.bool<|Pu.dv pa pb) s):
  wpAny (model X.prog X.w) A (O4 .Lt u v) Q E s:=by
 obtain⟨p,a1,a2,rfl,h1,h2,h3⟩:=ha;obtain⟨p',b1,b2,rfl,h4,h5,h6⟩:=hb;cases ra;cases rb;cases h2;cases h3;cases h5;cases h6;obtain⟨its,r1,p1,_⟩:=I.tuple<|jp.of (K:=X.K) h1;obtain⟨its2,r2,p2,_⟩:=I.tuple<|jp.of (K:=X.K) h4;have i1:F9 its.toArray.toList [pa.1,pa.2]:=intsAre_of (by simpa using r1);have i2:F9 its2.toArray.toList [pb.1,pb.2]:=intsAre_of (by simpa using r2);refine HT.jq p1 p2 i1 i2 hu ?_;rw[nI];exact h
open PySem.W in
theorem min_inv{body:Expr}{pm ctv:Value}{c':Addr}{qual:Str}{tb:TE}{I9 S9 l:Addr}{vs:List V}{Q:VK}{L:ZO}{R:Result->Shared->Prop}(hfL:(f,kla_obj "<lambda>" qual params body scope cl pm c' ctv)∈L)(hR:∀u s',EP X L σ Q u s'->R (.ok<|.ret u) s')(S:LamScope X x cap scope)(C:LamCl X scope cl)(hA:X.A.frames=some X.stack)(hh:X.A.handled=none)(hd:X.A.depth<recursionLimit)(hu:X.A.in1.units<cLine)(hb:∀cl pm cd ct u,bindArgs (kla_fn "<lambda>" qual params body scope cl pm cd ct) ⟨[u],[]⟩=pure [(x,u)])(hp:∀f cd cl s H,PE (jW X X.A.in1 (x ::cap.map (·.1)) qual scope f cd cl s H) body tb)(hzI:X.s₀.heap.objs.size<=I9)(hzS:X.s₀.heap.objs.size<=S9)(hIS:I9<S9)(hpn:∀p∈X.pn++L,p.1<I9):
  ∀(r:List V) (j:Nat) (bV kV:V) (vb kb:Value) (c:Nat) (oI:Obj) (H:Hp) (s:Shared),vs.drop j=r->j<=vs.length ->
   Inv X ((S9,seqObj "list" #[vb,kb] c) ::(I9,oI) ::L) σ H s->s.heap.IsListIter I9 l j->RelV bV vb->RelV kV kb ->
   jy (λσ H Q=>H c'=some (.ext<|b0 c' qual)/\tb σ H Q) (λv=>fN v cap σ) (λH=>cD X.K H l vs) Q r bV kV H ->
   codeAny (model X.prog X.w) X.A (.builtin "min.loop" ⟨[.ref I9,.ref f,.ref S9],[]⟩) R s:=by
 intro r;induction r with
 |nil =>
  intro j bV kV vb kb c oI H s er hj I hit rb rk h;obtain⟨hS,hq⟩:=h;have hjl:j=vs.length:=by have:=congrArg List.length er;simp at this;(clear hq hS rk rb hit I er hpn hIS hzS hzI hp hb hu hd hh hA C S;lia)
  subst hjl;have pS:=I.pin (S9,seqObj "list" #[vb,kb] c) (by simp);have pI:=I.pin (I9,oI) (by simp);obtain⟨its,rv,ht,hz⟩:=I.list hS;have hlI:=rH ht.isList hit;have W:=Walks.list (prog:=X.prog) (w:=X.w) (A:=X.A.in1) hh I9 l hlI its.toArray;have hsz:its.toArray.size=vs.length:=by rw[Y6,<- rv.length]
  refine N6 J1 ?_;rw[Q4 T0 _];show wpAny _ X.A.in1 (seqItems? (.ref S9) >>= _) _ _ _;refine Z0<|D8 pS.1 rfl ?_;show wpAny _ X.A.in1 (tryCatch (pyNext<|.ref I9) _ >>= _) _ _ _;refine Z0<|J2 (W.done _ _ _ ⟨by rw[hsz];exact hit,ht.isList⟩ λh' tk' hk'=>?_);have hk2:∀b o,b≠I9->s.heap.get? b=some o->h'.get? b=some o:=λb o nb e=>hk' b o (by simpa using nb) e;have hS':=hk2 S9 _ (M9 hIS) pS.1;show wpAny _ X.A.in1 (updateSeq S9 (λa=>#[]) >>= _) _ _ _;refine Z0 ?_;refine E7 hS' rfl<|Z0<|wpAny_letGo<|Z6 ?_;have I0:Inv X L σ H s:=I.drop1.drop1;have I1:=I0.turned (t':=tk') hk2 pI.2.1 pI.2.2.1 (.inr hzI) (I.noc (o:=oI) (by simp)) λp hp=>dB<|hpn p hp;have I2:=I1.turned (h':=h'.update S9 (X6 λa=>#[])) (t':=tk') (it:=S9) (λb o nb e=>by rw[V8 _ _ _ _ nb];exact e) pS.2.1 pS.2.2.1 (.inr hzS) (I.noc (o:=seqObj "list" #[vb,kb] c) (by simp)) λp hp=>dB<|hU (hpn p hp) hIS;exact hR _ _ ⟨bV,H,I2,rb,hq⟩
 |cons y r ih =>
  intro j bV kV vb kb c oI H s er hj I hit rb rk h;obtain⟨hS,h0,h⟩:=h;have hjl:j<vs.length:=by have:=congrArg List.length er;simp at this;lia
  have ey:vs[j]?=some y:=by
   have:(vs.drop j)[0]?=some y:=by rw[er];rfl
   rw[D9]at this;simpa using this
  have er':vs.drop (j+1)=r:=by
   have:(vs.drop j).drop 1=r:=by rw[er];rfl
   rw[List.drop_drop]at this;exact this
  have pS:=I.pin (S9,seqObj "list" #[vb,kb] c) (by simp);have pI:=I.pin (I9,oI) (by simp);obtain⟨its,rv,ht,hz⟩:=I.list hS;have hlI:=rH ht.isList hit;have W:=Walks.list (prog:=X.prog) (w:=X.w) (A:=X.A.in1) hh I9 l hlI its.toArray;have hsz:its.toArray.size=vs.length:=by rw[Y6,<- rv.length]
  refine N6 J1 ?_;rw[Q4 T0 _];show wpAny _ X.A.in1 (seqItems? (.ref S9) >>= _) _ _ _;refine Z0<|D8 pS.1 rfl ?_;show wpAny _ X.A.in1 (tryCatch (pyNext<|.ref I9) _ >>= _) _ _ _;refine Z0<|J2 (W.item j _ _ _ (by rw[hsz];exact hjl) ⟨hit,ht.isList⟩ λv h' tk' hP hst' hk'=>?_);have hv:its[j]?=some v:=by simpa using hP
  obtain⟨u9,hu9,ru⟩:=rv.get ey;have:u9=v:=Z5<|hu9.symm.trans hv;subst this;have hk2:∀b o,b≠I9->s.heap.get? b=some o->h'.get? b=some o:=λb o nb e=>hk' b o (by simpa using nb) e;obtain⟨oI',hoI',hoc,hod⟩:=id hst'.1;have I1:=(I.swap.relistT (t':=tk') hzI (mG hpn<|M9 hIS) (λw z=>by rw[hod]at z;cases z) hk2 hoI').swap;show wpAny _ X.A.in1 (tryCatch (holding [u9]<|call (.ref f) [u9]) _ >>= _) _ _ _;have po:=I1.pin _<|X1 _<|.tail _<|.tail _ hfL;refine Z0<|J2<|S7 (R8 (rE (A:=X.A.in1) S C I1 po.1 hA hh hd h0 hb (hp _ _ _ _ _) ru h) (λk s2 he=>?_) λa a z=>z.elim);obtain⟨kv,H2,I2,rkv,pk,pb,g1,g2,g3⟩:=he;have pS2:=I2.pin (S9,seqObj "list" #[vb,kb] c) (by simp);have pI2:=I2.pin (I9,oI') (by simp);have hit2:s2.heap.IsListIter I9 l (j+1):=⟨oI',pI2.1,hoc,hod⟩;show wpAny _ X.A.in1 (tryCatch (holding [u9,k]<|richCompare .Lt k kb >>= _) _ >>= _) _ _ _;refine Z0<|J2<|S7<|Z0<|pair_lt (A:=X.A.in1) I2 rkv rk g1 g2 hu ?_;refine Z0<|S7<|O8 ?_;refine Z0<|wpAny_letGo<|Z6 ?_;cases hb':Pu.dv pk pb with
  |true =>rw[hb',if_pos rfl]at g3;obtain⟨c2,hc2⟩:∃c2,(s2.heap.update S9 (X6 λa=>#[u9,k])).get? S9=some (seqObj "list" #[u9,k] c2):=⟨_,J7 pS2.1 λa=>#[u9,k]⟩;simp only[if_true];refine Z0 ?_;refine E7 pS2.1 rfl<|Z0<|wpAny_letGo ?_;have I3:=I2.relist (o':=seqObj "list" #[u9,k] c2) (h':=s2.heap.update S9 (X6 λa=>#[u9,k])) hzS (mG (λp hp=>hU (hpn p hp) hIS)<|dB hIS) (λw z=>nomatch z) (λb o nb e=>by rw[V8 _ _ _ _ nb];exact e) hc2;have hit3:(s2.heap.update S9 (X6 λa=>#[u9,k])).IsListIter I9 l (j+1):=⟨oI',by rw[V8 _ _ _ _ (dB hIS)];exact pI2.1,hoc,hod⟩;exact Z6 ⟨K2 T0 _,ih (j+1) y kv u9 k c2 oI' H2 _ er' (by exact hjl) I3 hit3 ru rkv g3⟩
  |false =>rw[hb',if_neg Y3]at g3;simp only[Q6,if_false];refine Z0<|wpAny_letGo ?_;exact Z6 ⟨K2 T0 _,ih (j+1) bV kV vb kb c oI' H2 _ er' (by exact hjl) I2 hit2 rb rk g3⟩
open PySem.W in
theorem yR{body:Expr}{pm ctv:Value}{c':Addr}{qual:Str}{tb:TE}{I9 S9 l:Addr}{y:V}{rest:List V}{Q:VK}{oI:Obj}{L:ZO}{R:Result->Shared->Prop}(hfL:(f,kla_obj "<lambda>" qual params body scope cl pm c' ctv)∈L)(hR:∀u s',EP X L σ Q u s'->R (.ok<|.ret u) s')(S:LamScope X x cap scope)(C:LamCl X scope cl)(hA:X.A.frames=some X.stack)(hh:X.A.handled=none)(hd:X.A.depth<recursionLimit)(hu:X.A.in1.units<cLine)(hb:∀cl pm cd ct u,bindArgs (kla_fn "<lambda>" qual params body scope cl pm cd ct) ⟨[u],[]⟩=pure [(x,u)])(hp:∀f cd cl s H,PE (jW X X.A.in1 (x ::cap.map (·.1)) qual scope f cd cl s H) body tb)(hzI:X.s₀.heap.objs.size<=I9)(hzS:X.s₀.heap.objs.size<=S9)(hIS:I9<S9)(hpn:∀p∈X.pn++L,p.1<I9)(I:Inv X ((S9,seqObj "list" #[] 0) ::(I9,oI) ::L) σ H s)(hit:s.heap.IsListIter I9 l 0)(hS:cD X.K H l (y ::rest))(h0:H c'=some (.ext<|b0 c' qual))(q:tb (fN y cap σ) H λkv H3=>jy (λσ H Q=>H c'=some (.ext<|b0 c' qual)/\tb σ H Q) (λv=>fN v cap σ) (λH=>cD X.K H l (y ::rest)) Q rest y kv H3):
  codeAny (model X.prog X.w) X.A (.builtin "min.loop" ⟨[.ref I9,.ref f,.ref S9],[]⟩) R s:=by
 refine cM (I.list hS) λits rv ht hz=>?_;have hlI:=rH ht.isList hit;have W:=Walks.list (prog:=X.prog) (w:=X.w) (A:=X.A.in1) hh I9 l hlI its.toArray;have hsz:0<its.toArray.size:=by rw[Y6,<- rv.length];exact Nat.succ_pos _
 refine N6 J1 ?_;rw[Q4 T0 _];have pS:=I.pin (S9,seqObj "list" #[] 0) (by simp);show wpAny _ X.A.in1 (seqItems? (.ref S9) >>= _) _ _ _;refine Z0<|D8 pS.1 rfl ?_;show wpAny _ X.A.in1 (tryCatch (pyNext<|.ref I9) _ >>= _) _ _ _;refine Z0<|J2 (W.item 0 _ _ _ hsz ⟨hit,ht.isList⟩ λv h' tk' hP hst' hk'=>?_);have hv:its[0]?=some v:=by simpa using hP
 refine aU (rv.get (i:=0) (x:=y) rfl) λu9 hu9 ru=>?_;have:u9=v:=Z5<|hu9.symm.trans hv;subst this;refine cM (id hst'.1) λoI' hoI' hoc hod=>?_;have I6:=(I.swap.relistT (t':=tk') hzI (mG hpn<|M9 hIS) (λw z=>by rw[hod]at z;cases z) (λb o nb e=>hk' b o (by simpa using nb) e) hoI').swap;show wpAny _ X.A.in1 (tryCatch (holding [u9]<|call (.ref f) [u9]) _ >>= _) _ _ _;have po:=I6.pin _<|X1 _<|.tail _<|.tail _ hfL;refine Z0<|J2<|S7 (R8 (rE (A:=X.A.in1) S C I6 po.1 hA hh hd h0 hb (hp _ _ _ _ _) ru q) (λk s3 he=>?_) λa a z=>z.elim);refine iD he λkv H3 I7 rkv g3=>?_;have pS2:=I7.pin (S9,seqObj "list" #[] 0) (by simp);have pI2:=I7.pin (I9,oI') (by simp);refine dI (⟨_,J7 pS2.1 λa=>#[u9,k]⟩:∃c2,(s3.heap.update S9 (X6 λa=>#[u9,k])).get? S9=some (seqObj "list" #[u9,k] c2)) λc2 hc2=>?_;show wpAny _ X.A.in1 (updateSeq S9 (λa=>#[u9,k]) >>= _) _ _ _;refine Z0 ?_;refine E7 pS2.1 rfl ?_;rw[show (toString "min"++toString ".loop":String)="min.loop" by decide];have I8:=I7.relist (o':=seqObj "list" #[u9,k] c2) (h':=s3.heap.update S9 (X6 λa=>#[u9,k])) hzS (mG (λp hp=>hU (hpn p hp) hIS)<|dB hIS) (λw z=>nomatch z) (λb o nb e=>by rw[V8 _ _ _ _ nb];exact e) hc2;exact Z6 ⟨K2 T0 _,min_inv (vs:=y ::rest) hfL hR S C hA hh hd hu hb hp hzI hzS hIS hpn rest 1 y kv u9 k c2 oI' H3 _ rfl (K6<|U5 _) I8 ⟨oI',by rw[V8 _ _ _ _ (dB hIS)];exact pI2.1,hoc,hod⟩ ru rkv g3⟩
open PySem.W in
theorem pe_minK{P c:Addr}{params:Arguments}{body e:Expr}{p pos kpos lpos:Pos}{te tb:TE}(he:PE X e te)(hr:Room 3 X.A)(hm:X.mg "min"=none)(bm:BM X.mg X.base)(hC:codeHdIn X.K c P=true)(hT:P∈Kon.T)(hq:Kon.Q P=X.env.qual++"<lambda>")(hcode:X.env.code=.ref c)(S:LamScope X x cap scope)(hb:∀cl pm cd ct u,bindArgs (kla_fn "<lambda>" (Kon.Q P) params body scope cl pm cd ct) ⟨[u],[]⟩=pure [(x,u)])(hp:∀f cd cl s H,PE (jW X X.A.in1 (x ::cap.map (·.1)) (Kon.Q P) scope f cd cl s H) body tb)(hg:autoParam (Gl X "min") L2.cY._auto_1)(hdef:autoParam (defaultsOf params X.env=([],[])) L2.cY._auto_1)(hst:autoParam (V1 [e] X.env=(false,eval e X.env) ::V1 [] X.env) L2.cY._auto_1)(hpl:autoParam ((backTo pos<|V1 [e] X.env).any (·.1)=false) L2.cY._auto_1):
  PE X (.Call (.Name "min" p) [e] [⟨some "key",.Lambda params body scope lpos,kpos⟩] pos) (tMinK X.K P cap te tb):=by
 intro ZY s σ H Q I h;refine G3<|gB I hg hm iH ?_;refine PyProof.Rows.callWith_kw ?_ (by rw[hst];rfl) hpl;have h1:(aY te cH) σ H (One λv H1=>∃p x r,v=.ref p/\cD X.K H1 p (x ::r)/\TbG H1/\∀H2 c,rG P H1 H2->H2 c=some (.ext<|b0 c<|Kon.Q P)->H2 c=some (.ext<|b0 c<|Kon.Q P)/\tb (fN x cap σ) H2 λk H'=>jy (λσ H Q=>H c=some (.ext<|b0 c<|Kon.Q P)/\tb σ H Q) (λx=>fN x cap σ) (λH=>cD X.K H p (x ::r)) Q r x k H'):=h;refine bu (a7 he aa hst pos ZY s σ H _ I h1) ?_;intro us s1 zq;refine iD zq λvv H1 I1 r q=>?_;show wpAny _ _ (evalAll ((do let v <- eval (.Lambda params body scope lpos) X.env;standAt pos;pure v) :: [])) _ _ s1;refine iD (One.got r q) λv u ZV ru q9=>sI q9 λl y rest ev hS tg q8=>?_;subst ZV;subst ev;clear q9;cases ru;refine wpAny_evalAll_cons<|Z0 (AV (P:=P) I1 S tg hT hq hcode hC bm hdef λf cl pm c' ctv H2 s2 I2 ts hc' CL=>Z0<|wpAny_standAt<|Z6<|wpAny_evalAll_nil ?_);show wpAny _ _ (call (.builtin "min") [.ref l] [(G7 "key",.ref f)]) _ _ s2;refine uS (q8 H2 c' ts hc') λh0 q=>?_;have hS2:=ts.sm.seq hS;refine cM (I2.list hS2) λits rv ht hz=>?_;have hname:(toString "min"++toString ".loop":String)="min.loop":=by decide
 refine kmk_tree PySem.F.kind_min PySem.F.plain_min PySem.F.entry_min (kmk_min_key _ _) ?_;show wpAny _ X.A.in1 (D2 "min" ["key","default"] 0 ⟨[],[(G7 "key",.ref f)]⟩ >>= _) _ _ s2;refine Z0<|wpAny_of_eq (show D2 "min" ["key","default"] 0 ⟨[],[(G7 "key",.ref f)]⟩=pure [some (.ref f),none] from rfl) ?_;refine Z0<|Z6 ?_;refine Z0<|wpAny_pyIter_list ht.isList ?_;refine Z0<|wpAny_newList ?_<|U5 _;rw[hname];generalize hI9:s2.heap.objs.size=I9;have hS9:(s2.heap.push {cls:=.type "list_iterator",data:=.fields #[.ref l,.int 0 0]}).objs.size=I9+1:=by rw[<- hI9];exact size_push' ..
 have gI:((s2.heap.push {cls:=.type "list_iterator",data:=.fields #[.ref l,.int 0 0]}).push (seqObj "list" #[] 0)).get? I9=some {cls:=.type "list_iterator",data:=.fields #[.ref l,.int 0 0]}:=by rw[<- hI9];exact Z4 _<|X0 _ rfl
 have gS:((s2.heap.push {cls:=.type "list_iterator",data:=.fields #[.ref l,.int 0 0]}).push (seqObj "list" #[] 0)).get? (I9+1)=some (seqObj "list" #[] 0):=by rw[<- hS9];exact X0 _ rfl
 refine Z6 ⟨K2 T0 _,?_⟩;rw[hS9];have big:∀b,I9<=b->H2 b=none/\b≠X.env.locals/\b∉X.fs:=λb hb=>(qD (I2.hok.fresh (by exact aR (bM hI9) hb)) (M9<|cf I2.lt (by exact aR (bM hI9) hb))<|I2.nofs (by exact aR (bM hI9) hb));have I3:Inv X ((f,kla_obj "<lambda>" (Kon.Q P) params body scope cl pm c' ctv) ::ZY) σ H2 {s2 with heap:=(s2.heap.push {cls:=.type "list_iterator",data:=.fields #[.ref l,.int 0 0]}).push (seqObj "list" #[] 0)}:=I2.kept (t':=s2.toks) λb o e=>Z4 _<|Z4 _ e;have I4:=I3.addPin (f:=I9) gI (big I9<|bi _).1 (big I9<|bi _).2.1 (big I9<|bi _).2.2 λv z=>nomatch z;have I5:=I4.addPin (f:=I9+1) (o:=seqObj "list" #[] 0) gS (big (I9+1)<|Q2 _).1 (big (I9+1)<|Q2 _).2.1 (big (I9+1)<|Q2 _).2.2 λv z=>nomatch z;have old:∀p∈X.pn++((f,kla_obj "<lambda>" (Kon.Q P) params body scope cl pm c' ctv) ::ZY),p.1<I9:=λp hp=>by rw[<- hI9];exact Y8 (I2.pin p hp).1
 have hzI:X.s₀.heap.objs.size<=I9:=by rw[<- hI9];exact I2.sz
 have hun:X.A.in1.units<cLine:=by have:=hr.un;show X.A.units+1<_;lia
 have hdp:X.A.depth<recursionLimit:=by have:=hr.dp;(clear hun hzI old I5 I4 I3 big gS gI hS9 hI9 hname hz ht rv hS2 q h0 CL hc' ts I2 r tg hS I1 h1 h I hpl hst hdef hg hp hb S hcode hq hT hC bm hm hr he;lia)
 refine yR (y:=y) (rest:=rest) (Q:=Q) (List.Mem.head _) (λu s' zz=>iD zz λv9 H9 I9' r9 q9=>⟨v9,H9,I9'.drop1,r9,q9⟩) S CL I.ok.frames hr.hd hdp hun hb hp hzI (L8 hzI) (U2 _) old I5 ⟨_,gI,rfl,rfl⟩ hS2 h0 q
end
section
variable {Γ:List Slot}{te tb:TE}{K:Z3}{P:Addr}{cap:ZH}
theorem min_ev{g:Zx}(hc:(cap.map (·.2)).Nodup)(hb:∀a,EV ((yJ [x] cap Γ).set 0 (.fr a8 a)) tb (g a) (eV a8 a8))(hfin:∀F H,Ext F0 H0 F H->Q (.int res) H):∀(r:ZW) (b:Int) (kV:V) (kb:ZG) (F H:Hp),SR C F Γ σ H->Ext F0 H0 F H->H c=some (.ext<|b0 c q)->Rd F l (.lst vs)->(eV a8 a8).rel F kV kb->Pu.nK g r b kb=some res ->
   jy (λσ H Q=>H c=some (.ext<|b0 c q)/\tb σ H Q) (λv=>fN v cap σ) (λH=>cD K H l vs) Q (r.map V.int) (.int b) kV H:=by
 intro r;induction r with
 |nil=>exact λb kV kb F H S x0 h0 hl hk e=>⟨.inl<|S.sub.rd hl,Z5 e▸hfin F H x0⟩
 |cons a r ih =>
  intro b kV kb F H S x0 h0 hl hk e;obtain⟨k,e1,e⟩:=a9 e;refine⟨.inl<|S.sub.rd hl,h0,hb a C F _ H _ k ((S.comp (loc:=[x]) hc).setF 0 (r:=a8) (a:=a) (v:=.int a) rfl) e1 λv F' H' x1 rv=>(da k kb (Rp.mono _ x1.sub rv) (Rp.mono _ (x1.ff.trans x1.sub) hk) ?_)⟩;cases hlt:Pu.dv k kb with
  |true =>rw[hlt,if_pos rfl]at e;rw[if_pos rfl];exact ih a v k F' H' (S.grow x1) (x0.trans x1) (x1.hh.kp _ _ trivial h0) (x1.ff.rd hl) rv e
  |false =>rw[hlt,if_neg Y3]at e;rw[if_neg Y3];exact ih b kV kb F' H' (S.grow x1) (x0.trans x1) (x1.hh.kp _ _ trivial h0) (x1.ff.rd hl) (Rp.mono _ x1.ff hk) e
theorem ev_minK{g:Zx}(hc:(cap.map (·.2)).Nodup)(h:EV Γ te o (rL a8))(hb:∀a,EV ((yJ [x] cap Γ).set 0 (.fr a8 a)) tb (g a) (eV a8 a8)):EV Γ (tMinK K P cap te tb) (o.bind λxs=>Pu.B0 g xs) a8:=by
 intro C F σ H Q res S e k;obtain⟨ns,e1,e⟩:=a9 e;refine h C F σ H _ ns S e1 λv F1 H1 x1 ⟨p,vs,e3,h1,h2⟩=>?_;have ev:=fM h2;subst ev;cases ns with
 |nil=>cases e
 |cons a r =>unfold Pu.B0 at e;obtain⟨ka,e2,e⟩:=a9 e;refine⟨p,.int a,r.map V.int,e3,.inl<|x1.sub.rd h1,(S.grow x1).tg,(λH2 c ts h0=>⟨h0,?_⟩)⟩;have x2:=ts.ext (S.grow x1).sub (S.grow x1).nt;have S2:=(S.grow x1).grow x2;refine hb a C F1 _ H2 _ ka ((S2.comp (loc:=[x]) hc).setF 0 (r:=a8) (a:=a) (v:=.int a) rfl) e2 λv F' H' x3 rv=>?_;exact min_ev hc hb (λF H x4=>k _ F H x4 rfl) r a v ka F' H' (S2.grow x3) ((x1.trans x2).trans x3) (x3.hh.kp _ _ trivial h0) (x3.ff.rd h1) rv e
end
end
section
open PySem PySem.Spec PyProof.Rows
abbrev rP:Rp (Option Int×Option Int):=eV (cF a8)<|cF a8
abbrev rF:Rp (List<|List Int):=rL<|rL a8
abbrev bz:=List<|Int×(Option Int×Option Int)
def nL(CM:Addr):Rp (List (List Int)×Addr):=⟨λH v x=>∃m dm vf,v=.ref m/\H m=some (.ins CM dm [("floor",vf),("ended",.ref x.2)])/\rF.rel H vf x.1,
 λe ⟨m,dm,vf,h1,h2,h3⟩=>⟨m,dm,vf,h1,e _ _ h2,rF.mono e h3⟩⟩
def rM(CM:Addr):Rp (List (List Int)×bz):=⟨λH v x=>∃p ws,(nL CM).rel H v (x.1,p)/\H p=some (.dK ws)/\Paired (cV rP H) ws x.2,
 λe ⟨p,ws,h1,h2,h3⟩=>(da p ws ((nL CM).mono e h1) (e _ _ h2)<|Paired.imp2 (λa a q=>⟨q.1,rP.mono e q.2⟩) h3)⟩
def oY(CM CW:Addr):Rp (List (List Int)×Int×Addr×Addr):=⟨λH v x=>∃w dw vf m,v=.ref w/\H w=some (.ins CW dw [("floor",vf),("reach",.int x.2.1),("homes",.ref x.2.2.1),("meetings",.ref m)])/\rF.rel H vf x.1/\(nL CM).rel H (.ref m) (x.1,x.2.2.2),
 λe ⟨w,dw,vf,m,h1,h2,h3,h4⟩=>⟨w,dw,vf,m,h1,e _ _ h2,rF.mono e h3,(nL CM).mono e h4⟩⟩
def rW(CM CW:Addr):Rp (List (List Int)×Int×List (Option Int)×bz):=⟨λH v x=>∃h p vs ws,(oY CM CW).rel H v (x.1,x.2.1,h,p)/\H h=some (.lst vs)/\Paired ((cF a8).rel H) vs x.2.2.1/\H p=some (.dK ws)/\Paired (cV rP H) ws x.2.2.2,
 λe ⟨h,p,vs,ws,h1,h2,h3,h4,h5⟩=>⟨h,p,vs,ws,(oY CM CW).mono e h1,e _ _ h2,(Paired.imp2 (λa a q=>(cF a8).mono e q) h3),e _ _ h4,(Paired.imp2 (λa a q=>⟨q.1,rP.mono e q.2⟩) h5)⟩⟩
structure MK(K:Z3)(CM:Addr):Prop where
 c:Cls K CM
 floor:dr K CM "floor"
 ended:dr K CM "ended"
structure WK(K:Z3)(CW:Addr):Prop where
 c:Cls K CW
 floor:dr K CW "floor"
 reach:dr K CW "reach"
 homes:dr K CW "homes"
 meetings:dr K CW "meetings"
variable [Kn:Kon]
section
variable {Γ:List Slot}{ta:TE}{K:Z3}{CM CW:Addr}
theorem l6{α γ:Type}{r:Rp α}{s:Rp γ}{o:Option α}{g:α->γ}(h:EV Γ ta o r)(hf:∀H v x,r.rel H v x->∃a C dx fs u,v=.ref a/\H a=some (.ins C dx fs)/\Cls K C/\dr K C f/\fs.lookup f=some u/\s.rel H u (g x)):EV Γ (lT K ta f) (o.bind λx=>some<|g x) s:=by intro C F σ H Q c S e k;obtain⟨x,e1,e⟩:=a9 e;cases e;refine h C F σ H _ x S e1 λv F' H' x1 r1=>?_;obtain⟨a,C',dx,fs,u,h1,h2,h3,h4,h5,h6⟩:=hf F' v x r1;exact⟨a,C',dx,fs,u,h1,x1.sub _ _ h2,h3,h4,h5,k u F' H' x1 h6⟩
theorem vL(k:MK K CM)(h:EV Γ ta o (nL CM)):EV Γ (lT K ta "floor") (o.bind λx=>some x.1) rF:=l6 h λH v x ⟨m,dm,vf,h1,h2,h3⟩=>⟨m,CM,dm,_,vf,h1,h2,k.c,k.floor,rfl,h3⟩
theorem l7(k:MK K CM)(h:EV Γ ta o (rM CM)):EV Γ (lT K ta "ended") (o.bind λx=>some x.2) (rD rP):=l6 h λH v x ⟨p,ws,⟨m,dm,vf,h1,h2,h3⟩,h4,h5⟩=>⟨m,CM,dm,_,.ref p,h1,h2,k.c,k.ended,by rfl,p,ws,rfl,h4,h5⟩
theorem yS(k:WK K CW)(h:EV Γ ta o (rW CM CW)):EV Γ (lT K ta "floor") (o.bind λx=>some x.1) rF:=l6 h λH v x ⟨_,_,_,_,⟨m,dm,vf,mm,h1,h2,h3,_⟩,_⟩=>⟨m,CW,dm,_,vf,h1,h2,k.c,k.floor,rfl,h3⟩
theorem yT(k:WK K CW)(h:EV Γ ta o (rW CM CW)):EV Γ (lT K ta "reach") (o.bind λx=>some x.2.1) a8:=l6 h λH v x ⟨_,_,_,_,⟨m,dm,vf,mm,h1,h2,h3,_⟩,_⟩=>⟨m,CW,dm,_,.int x.2.1,h1,h2,k.c,k.reach,by rfl,rfl⟩
theorem l8(k:WK K CW)(h:EV Γ ta o (rW CM CW)):EV Γ (lT K ta "homes") (o.bind λx=>some x.2.2.1) (rL<|cF a8) :=
 l6 h λH v x ⟨hh,p,vs,ws,⟨m,dm,vf,mm,h1,h2,h3,_⟩,h4,h5,_⟩=>⟨m,CW,dm,_,.ref hh,h1,h2,k.c,k.homes,by rfl,hh,vs,rfl,.inl h4,h5⟩
theorem B1(k:WK K CW)(h:EV Γ ta o (rW CM CW)):EV Γ (lT K ta "meetings") (o.bind λx=>some (x.1,x.2.2.2)) (rM CM) :=
 l6 h λH v x ⟨hh,p,vs,ws,⟨m,dm,vf,mm,h1,h2,h3,h6⟩,h4,h5,h7,h8⟩=>⟨m,CW,dm,_,.ref mm,h1,h2,k.c,k.meetings,by rfl,p,ws,h6,h7,h8⟩
def Ob{α:Type}(r:Rp α)(C:Addr)(m:Str):Prop:=∀H v x,r.rel H v x->∃a dx fs,v=.ref a/\H a=some (.ins C dx fs)/\fs.lookup m=none
theorem ob_m{m:Str}(h1:autoParam (("floor"==m)=false) L2.iu._auto_1)(h2:autoParam ((m=="floor")=false) L2.iu._auto_1)(h3:autoParam ((m=="ended")=false) L2.iu._auto_1):Ob (rM CM) CM m:=λH v x ⟨p,ws,⟨a,dm,vf,e1,e2,e3⟩,_⟩=>⟨a,dm,_,e1,e2,by simp[J6,h2,h3]⟩
theorem ob_w{m:Str}(h2:autoParam ((m=="floor")=false) L2.iu._auto_1)(h3:autoParam ((m=="reach")=false) L2.iu._auto_1)(h4:autoParam ((m=="homes")=false) L2.iu._auto_1)(h5:autoParam ((m=="meetings")=false) L2.iu._auto_1):Ob (rW CM CW) CW m:=λH v x ⟨_,_,_,_,⟨a,dm,vf,_,e1,e2,e3⟩,_⟩=>⟨a,dm,_,e1,e2,by simp[J6,h2,h3,h4,h5]⟩
theorem ob_w0{m:Str}(h2:autoParam ((m=="floor")=false) L2.iu._auto_1)(h3:autoParam ((m=="reach")=false) L2.iu._auto_1)(h4:autoParam ((m=="homes")=false) L2.iu._auto_1)(h5:autoParam ((m=="meetings")=false) L2.iu._auto_1):Ob (oY CM CW) CW m:=λH v x ⟨a,dm,vf,_,e1,e2,e3⟩=>⟨a,dm,_,e1,e2,(by simp[J6,h2,h3,h4,h5])⟩
section
variable {α γ τ:Type}{r:Rp α}{q:Rp γ}{ra:RpA τ}{t:TA}{C:Addr}{m:Str}{o:Option α}{oτ:Option τ}
theorem ev_meth{f:α×τ->Option γ}(ob:Ob r C m)(h:EV Γ ta o r)(ha:EA Γ t oτ ra):EV Γ (mY C m (qX (aJ r ra) q f) [] E0 ta t) (o.bind λx=>oτ.bind λa=>f (x,a)) q:=by intro C F σ H Q c S e k;obtain⟨x,e1,e⟩:=a9 e;obtain⟨a,e2,e⟩:=a9 e;refine h C F σ H _ x S e1 λv F' H' x1 r1=>?_;obtain⟨ad,dx,fs,h1,h2,h3⟩:=ob F' v x r1;refine⟨ad,dx,fs,h1,x1.sub _ _ h2,h3,(ha C F' σ H' _ a (S.grow x1) e2 λvs F2 H2 x2 r2=>⟨F2,(x,a),c,x2.sub,x2.nt<|x1.nt S.nt,x2.hh.tg<|x1.hh.tg S.tg,⟨v,vs,by rw[W9],r.mono x2.ff r1,r2⟩,e,λw F3 H3 x3 r3=>k w F3 H3 ((x1.trans x2).trans x3) r3⟩)⟩
theorem nM{f:α×τ->Option (List γ)}(ob:Ob r C m)(h:EV Γ ta o r)(ha:EA Γ t oτ ra):i4 Γ (mY C m (nC (aJ r ra) q f) [] E0 ta t) (o.bind λx=>oτ.bind λa=>f (x,a)) q:=by intro C F σ H Q c S e k;obtain⟨x,e1,e⟩:=a9 e;obtain⟨a,e2,e⟩:=a9 e;refine h C F σ H _ x S e1 λv F' H' x1 r1=>?_;obtain⟨ad,dx,fs,h1,h2,h3⟩:=ob F' v x r1;refine⟨ad,dx,fs,h1,x1.sub _ _ h2,h3,(ha C F' σ H' _ a (S.grow x1) e2 λvs F2 H2 x2 r2=>⟨F2,(x,a),c,x2.sub,x2.nt<|x1.nt S.nt,x2.hh.tg<|x1.hh.tg S.tg,⟨v,vs,by rw[W9],r.mono x2.ff r1,r2⟩,e,λp ws F3 H3 x3 hp r3=>k p ws F3 H3 ((x1.trans x2).trans x3) hp r3⟩)⟩
end
theorem tN{α:Type}{r:Rp α}{o:Option (List<|Int×α)}{oa:Option α}(h:EV Γ ta o (rD r))(hi:EV Γ tb oi a8)(hx:EV Γ tc oa r):EV Γ (Am ta tb tc) (o.bind λd=>oi.bind λk=>oa.bind λx=>some<|(Pu.find d k).getD x) r:=by
 intro C F σ H Q c S e k;obtain⟨d,e1,e⟩:=a9 e;obtain⟨i,e2,e⟩:=a9 e;obtain⟨x,e3,e⟩:=a9 e;cases e;refine h C F σ H _ d S e1 λv F' H' x1 ⟨p,ws,e4,h1,h2⟩=>(cZ p e4 (.inl ⟨ws,.inl<|x1.sub _ _ h1⟩) (hi C F' σ H' _ i (S.grow x1) e2 λy F2 H2 x2 r2=>hx C F2 σ H2 _ x ((S.grow x1).grow x2) e3 λz F3 H3 x3 r3=>?_));have h1':H3 p=some (.dK ws):=x3.sub _ _<|(x2.ff.trans x3.ff) _ _ h1;have h2':Paired (cV r F3) ws d:=Paired.imp2 (λa a q=>⟨q.1,r.mono (x2.ff.trans x3.ff) q.2⟩) h2;refine(aB (cU ws<|.inl i) (.inl<|da ws (.inl i) (.inl h1') r2 rfl)<|k _ F3 H3 ((x1.trans x2).trans x3) ?_);obtain⟨g1,g2⟩:=gh (k:=i) h2';cases q:Pu.find d i with
 |none=>rw[g2 q];exact r3
 |some w=>obtain⟨v,h3,h4⟩:=g1 w q;rw[h3];exact h4
theorem tO{α β γ:Type}{r:Rp α}{s:Rp β}{q:Rp γ}{o:Option α}{o':Option (β×γ)}(h:EV Γ ta o (rT1 r))(h':EV Γ tb o' (eV s q)):EV Γ (iw (qa K) ta tb) (o.bind λa=>o'.bind λb=>some (a,b.1,b.2)) (ju r s q):=by intro C F σ H Q c S e k;obtain⟨a,e1,e⟩:=a9 e;obtain⟨b,e2,e⟩:=a9 e;cases e;refine EV.two (q:=λx y H2=>qa K x y H2 Q) h h' S e1 e2 λx y F' H' x1 zq zp=>iD zq λp u e3 h1 h2=>sI zp λp' v w e4 h3 h4 h5=>⟨p,p',[u],[v,w],e3,e4,jp.of<|x1.sub _ _ h1,jp.of<|x1.sub _ _ h3,by simp,by rw[V6];simp,(λz=>nomatch z),λi q9 hq=>?_⟩;have x2:=Ext.new (o:=.tup [u,v,w]) x1.sub hq;exact k _ _ _ (x1.trans x2) ⟨q9,u,v,w,rfl,af,Rp.mono _ x2.ff h2,Rp.mono _ x2.ff h4,Rp.mono _ x2.ff h5⟩
end
end
section
open PySem PySem.Spec PyProof.Rows
variable [Kn:Kon]
theorem set_same{σ:St}(h:σ[i]?=some v):σ.set i v=σ:=wZ h
section
variable {X:Cx}{ZY:ZO}{σ:St}{H:Hp}{s:Shared}
theorem Inv.ghost(I:Inv X ZY σ H s)(hx:X.N[g]?=some x)(nv:¬ Vis X.env.scope x):Inv X ZY (σ.set g<|some v) H s :=
 ⟨I.ok,I.os,I.bare,I.base,aU I.loc λm hn hl=>(aB m hn (λi y u e1 e2 e3=>by
  by_cases e:g=i
  ·subst e;rw[hx]at e1;cases e1;exact absurd e3 nv
  ·rw[J3,if_neg e]at e2;exact hl i y u e1 e2 e3)),I.cell,I.free,I.freeC,I.pin,I.hok,by rw[N5];exact I.len⟩
theorem j8(h:mP X ss t)(hx:X.N[g]?=some x)(nv:¬ Vis X.env.scope x):mP X ss λD σ H=>∃v,t D (σ.set g<|some v) H :=
 λZY s σ H D I ⟨v,q⟩=>h ZY s _ H D (I.ghost hx nv) q
end
def jX(sc:Scope)(x:Str):Bool:=match sc.names.lookup x with
 |some .local=>false
 |some .cell=>false
 |some .free=>false
 |_=>true
theorem jY(h:jX sc x=true):¬ Vis sc x:=by unfold jX at h;rintro(z|z|z)<;>rw[z]at h<;>cases h
section
variable {C:Fc}{F H:Hp}{Γ:List Slot}{σ:St}
theorem SR.less(S:SR C F Γ σ H)(no:∀(j:Nat) t,Γ[j]?=some t->t.own=false)(hp:C.H0 p=some u)(ou:Own u):SR {C with H0:=del C.H0 p} F Γ σ H:=by
 have own:∀{i:Nat} {s:Slot},Γ[i]?=some s->s.own=true->False:=λh1 o1=>nomatch (no _ _ h1).symm.trans o1;refine⟨⟨⟨λb o n q=>S.keep.kp b o n (eE q).2,λb ps q=>S.keep.tb b ps (eE q).2,λx=>S.tg⟩,S.low,S.sub,λb o h=>(S.base b o h).imp id λz=>?_,S.nt,S.tg⟩,S.len,λi s h=>aU (S.at_ i s h) λo h1 h2=>aB o h1 ?_,λi j s t q h1 h2 o1 o2 x x=>(own h1 o1).elim⟩
 ·show Cr (del C.H0 p b);unfold del;split
  ·trivial
  ·exact z
 ·cases s with
  |any=>trivial
  |fr r a=>exact h2
  |ol r φ xs=>exact(own h rfl).elim
  |od r φ kvs=>exact(own h rfl).elim
  |ot r kvs=>exact(own h rfl).elim
theorem SR.setG(g:Nat)(S:SR C F Γ σ H)(hs:s.own=true)(h:dX C.H0 F H s (some<|.ref p))(np:∀(j:Nat) t,Γ[j]?=some t->t.own=true->σ[j]?≠some (some<|.ref p)):SR C F (Γ.set g s) (σ.set g<|some<|.ref p) H:=S.pt g S.toFr (λj t x q=>S.at_ j t q) h λx p' z j t x q o e=>np j t q o<|e.trans<|congrArg some z.symm
theorem Fr.off(fr:Fr ⟨Hx,F,F⟩ F' H')(e:Hx q=some o)(f:F q=none)(ou:Own o):F' q=none:=none_of λw z=>(fr.base q w z).elim (λy=>nomatch f.symm.trans y) λy=>vp y e ou
theorem Fr.via(S:Fr C F H)(fr:Fr ⟨Hx,F,F⟩ F' H')(d:∀b o,C.H0 b=some o->Hx b=H b):Fr C F' H':=by
 refine⟨⟨λb o n q=>fr.keep.kp b o n<|(d b o q).trans (S.keep.kp b o n q),λb ps q=>dI (S.keep.tb b ps q) λm1 e1=>dI (fr.keep.tb b _<|(d b _ q).trans e1) λm2 e2=>⟨m1++m2,e2.trans (by rw[Array.append_assoc])⟩,λx=>fr.tg⟩,S.low.trans fr.low,fr.sub,λb o q=>(fr.base b o q).elim (S.base b o) λz=>.inr ?_,fr.nt,fr.tg⟩;cases e:C.H0 b with
 |none=>trivial
 |some o=>exact e▸S.keep.un (d b o e▸z)
theorem SR.mut{u u':HO}(S:SR C F Γ σ H)(hg:Γ[g]?=some s)(hs:s.own=true)(hp:σ[g]?=some (some<|.ref p))(h0:C.H0 p=none)(hu:H p=some u)(fr:Fr ⟨del H p,F,F⟩ F' H')(hs':s'.own=true)(h:dX C.H0 F' H' s' (some<|.ref p)):
  SR C F' (Γ.set g s') σ H' :=
 S.pk hg (λx=>hs) hp (S.toFr.via fr λb o e=>cu<|ai e h0) (λj t n q=>S.mvAt q fr.low λp' x o e f hu ou=>have e:=(cu<|S.oth hg hs hp n q o e).trans hu
  ⟨fr.off e f ou,fr.keep.kp p' _ ou.noTbl e⟩) h
end
section
variable {Γ:List Slot}{C:Fc}{F H:Hp}{σ:St}{CM CW p hh:Addr}{i g g1 g2:Nat}{ZZ:ZM}{reach:Int}{ended:bz}{homes:ZA}
theorem SR.borM(S:SR C F Γ σ H)(hi:Γ[i]?=some (.fr (nL CM) (ZZ,p)))(hg:Γ[g]?=some (.od rP (λb=>b=p) ended)):∃ws,F p=none/\H p=some (.dK ws)/\SR C (aD F p<|.dK ws) ((Γ.set g .any).set i (.fr (rM CM) (ZZ,ended))) σ H:=by refine dM (S.at_ g _ hg) λp' ws h1 ZS h3 h4 h5 h6=>?_;subst ZS;obtain⟨v,q1,q2⟩:=S.fr hi;refine(cZ ws h4 h5 ?_);have S1:=S.freeze hg p' _ .any rfl rfl h1 h3 h4 h5 trivial trivial;have S2:=S1.setF (r:=rM CM) (a:=(ZZ,ended)) (v:=v) i ⟨p',ws,(nL CM).mono (aO h4) q2,af,Paired.imp2 (λx x z=>⟨z.1,rP.mono (aO h4) z.2⟩) h6⟩;rw[set_same q1]at S2;exact S2
theorem SR.borW(S:SR C F Γ σ H)(hi:Γ[i]?=some (.fr (oY CM CW) (ZZ,reach,hh,p)))(hg1:Γ[g1]?=some (.ol (cF a8) (λb=>b=hh) homes))(hg2:Γ[g2]?=some (.od rP (λb=>b=p) ended))(hne:g1≠g2):
  ∃vs ws,F hh=none/\H hh=some (.lst vs)/\F p=none/\H p=some (.dK ws)/\p≠hh/\SR C (aD (aD F hh<|.lst vs) p<|.dK ws) (((Γ.set g1 .any).set g2 .any).set i (.fr (rW CM CW) (ZZ,reach,homes,ended))) σ H:=by
 refine dM (S.at_ g1 _ hg1) λp1 vs h1 ZS h3 h4 h5 h6=>?_;subst ZS;obtain⟨v,q1,q2⟩:=S.fr hi;refine dM (S.at_ g2 _ hg2) λp2 ws k1 ZS k3 k4 k5 k6=>?_;subst ZS;have ne:p2≠p1:=by rintro rfl;rw[h5]at k5;cases k5
 have S1:=S.freeze hg1 p1 _ .any rfl rfl h1 h3 h4 h5 trivial trivial;have hg2':(Γ.set g1 .any)[g2]?=some (.od rP (λb=>b=p2) ended):=by rw[eB hne];exact hg2
 have F2:aD F p1 (.lst vs) p2=none:=by rw[ak ne];exact k4
 have S2:=S1.freeze hg2' p2 _ .any rfl rfl k1 k3 F2 k5 trivial trivial;have e1:aW F (aD F p1<|.lst vs):=aO h4;have e2:aW (aD F p1<|.lst vs) (aD (aD F p1<|.lst vs) p2<|.dK ws):=aO F2;refine⟨vs,ws,h4,h5,k4,k5,ne,?_⟩;have S3:=S2.setF (r:=rW CM CW) (a:=(ZZ,reach,homes,ended)) (v:=v) i ⟨p1,p2,vs,ws,(oY CM CW).mono (e1.trans e2) q2,by rw[ak (R6 ne)];exact af,Paired.imp2 (λx x z=>(cF a8).mono (e1.trans e2) z) h6,af,Paired.imp2 (λx x z=>⟨z.1,rP.mono (e1.trans e2) z.2⟩) k6⟩;rw[set_same q1]at S3;exact S3
end
section
variable {Γ:List Slot}{β:Type}{s:Rp β}{tb:TE}{CM CW p hh:Addr}{ZZ:ZM}{reach:Int}{ended:bz}{homes:ZA}
abbrev brwM(Γ:List Slot)(i g:Nat)(CM:Addr)(ZZ:ZM)(ended:bz):List Slot:=(Γ.set g .any).set i (.fr (rM CM) (ZZ,ended))
abbrev brwW(Γ:List Slot)(i g1 g2:Nat)(CM CW:Addr)(ZZ:ZM)(reach:Int)(homes:ZA)(ended:bz):List Slot:=((Γ.set g1 .any).set g2 .any).set i (.fr (rW CM CW) (ZZ,reach,homes,ended))
theorem tP(i g:Nat)(hi:Γ[i]?=some (.fr (nL CM) (ZZ,p)))(hg:Γ[g]?=some (.od rP (λb=>b=p) ended))(fl:Flat s)(h:i4 (brwM Γ i g CM ZZ ended) tb o s):i4 Γ tb o s:=by intro C F σ H Q b S e k;obtain⟨ws,h1,h2,S'⟩:=S.borM hi hg;refine h C _ σ H Q b S' e λv vs F' H' x1 hv r1=>?_;obtain⟨x2,h3⟩:=eZ h1 h2 x1;exact k v vs _ H' x2 hv<|Paired.imp2 (λx x z=>fl h3 trivial z) r1
theorem B2{F H F' H':Hp}{p q:Addr}{u v:HO}(hF:F p=none)(hH:H p=some u)(hF2:F q=none)(hH2:H q=some v)(ne:q≠p)(e:Ext (aD (aD F p u) q v) H F' H')(nu:autoParam (dS u) L2.a4q._auto_1)(nv:autoParam (dS v) L2.a4q._auto_1):Ext F H (del (del F' q) p) H'/\F' q=some v/\del F' q p=some u:=by obtain⟨x1,h1⟩:=eZ (F:=aD F p u) (p:=q) (by rw[ak ne];exact hF2) hH2 e nv;obtain⟨x2,h2⟩:=eZ hF hH x1 nu;exact(qD x2 h1 h2)
theorem B3(i g1 g2:Nat)(hi:Γ[i]?=some (.fr (oY CM CW) (ZZ,reach,hh,p)))(hg1:Γ[g1]?=some (.ol (cF a8) (λb=>b=hh) homes))(hg2:Γ[g2]?=some (.od rP (λb=>b=p) ended))(hne:g1≠g2)(fl:Flat s)(h:i4 (brwW Γ i g1 g2 CM CW ZZ reach homes ended) tb o s):i4 Γ tb o s:=by intro C F σ H Q b S e k;obtain⟨vs,ws,h1,h2,h3,h4,ne,S'⟩:=S.borW hi hg1 hg2 hne;refine h C _ σ H Q b S' e λv us F' H' x1 hv r1=>?_;obtain⟨x2,h5,h6⟩:=B2 h1 h2 h3 h4 ne x1;exact k v us _ H' x2 hv<|Paired.imp2 (λx x z=>fl h6 trivial<|fl h5 trivial z) r1
theorem own_mE{K:Z3}(k:MK K CM)(i g:Nat)(hi:Γ[i]?=some (.fr (nL CM) (ZZ,p)))(hg:Γ[g]?=some (.od rP (λb=>b=p) ended)):qk Γ (lT K (bF i) "ended") g:=λC F σ H Q v S hv q=>by refine dM (S.at_ g _ hg) λp' ws h1 ZS h3 h4 h5 h6=>?_;subst ZS;rw[hv]at h1;cases h1;obtain⟨w,q1,m,dm,vf,rfl,h7,h8⟩:=S.fr hi;exact⟨.ref m,q1,m,CM,dm,_,.ref p',rfl,S.sub _ _ h7,k.c,k.ended,by rfl,q⟩
theorem own_wH{K:Z3}(k:WK K CW)(i g:Nat)(hi:Γ[i]?=some (.fr (oY CM CW) (ZZ,reach,hh,p)))(hg:Γ[g]?=some (.ol (cF a8) (λb=>b=hh) homes)):qk Γ (lT K (bF i) "homes") g:=λC F σ H Q v S hv q=>by refine dM (S.at_ g _ hg) λp' ws h1 ZS h3 h4 h5 h6=>?_;subst ZS;rw[hv]at h1;cases h1;obtain⟨w,q1,m,dm,vf,mm,rfl,h7,h8⟩:=S.fr hi;exact⟨.ref m,q1,m,CW,dm,_,.ref p',rfl,S.sub _ _ h7,k.c,k.homes,by rfl,q⟩
end
end
section
open PySem PySem.Spec PyProof.Rows
variable [Kn:Kon]
def cW(K:Z3)(C:Addr)(m qual:Str)(st:Stmt)(ps:ZJ):Prop:=∃f fd,Fun K m qual st f fd/\Binds K fd ps []/\Meth K C m f
def nN(P:U7)(w:World)(K:Z3)(mg:ZN)(base:Heap)(k:Nat)(C:Addr)(m:Str)(ps:ZJ)(sp:Sp):Prop :=
 ∃f fd,FnOk P w K mg base uQ k f fd ps sp/\Meth K C m f/\Binds K fd ps []
theorem meth_mk{K:Z3}{st:Stmt}{kV doc pm ZP ct:Value}(a:M6 K (.ref C) m=some (some<|.ref f))(l:K.lookup f=some ⟨oc,od,.func<|N0 m qual (cz st) (bp st) (ah st) .none kV doc pm an ZP ct,osl⟩)(c:D7 K ZP qual=true)(k:M7 K (.ref f)=true)(hf:PySem.W.isFn K (.ref f)=true)(hb:∀(kV doc pm:Value) (an:Zr) (ZP ct:Value) (us:ZT),us.length=ps.length->bindArgs (N0 m qual (cz st) (bp st) (ah st) .none kV doc pm an ZP ct) ⟨us,[]⟩=pure (ps.zip us)):cW K C m qual st ps :=
 ⟨f,_,i0 (st:=st) l c k,(i0 (st:=st) l c k).binds hb,⟨a,hf,k⟩⟩
section
variable {P:U7}{w:World}{K:Z3}{mg:ZN}{base:Heap}{m qual:Str}{st:Stmt}{N ps:ZJ}{k:Nat}{C:Addr}{τ γ:Type}{ra:RpA τ}{r:Rp γ}
theorem cW.has(D:cW K C m qual st ps)(S:FnScope N ps (ah st))(len:∀vs H Q E,sp vs H Q E->vs.length=ps.length)(hbody:∀(f:Addr) (ZP:Value) (A:Around) (outer:List Env) (s:Shared) (H:Hp) (vs:List V) (Q:VK) (E:XK),Room k (A.deeper<|envOfC qual (ah st) s.heap.objs.size f ZP)->sp vs H Q E ->
   ∃t,mP (lV uQ P w K mg base N qual (ah st) f ZP A outer s H E).nox (bp st) t/\t {nx:=λx H'=>Q .non H',rt:=Q} (start N vs) H):nN P w K mg base (k+1) C m ps sp:=by
 obtain⟨f,fd,F,b,hm⟩:=D;exact⟨f,fd,F.ok S len λZP A outer s H vs Q E hr h=>hbody f ZP A outer s H vs Q E hr h,hm,b⟩
theorem cW.pV{f:τ->Option γ}(D:cW K C m qual st ps)(S:FnScope N ps (ah st))(hl:∀a,(ra.slots a).length=ps.length)(hn:N.length-ps.length=n)(h:iL P w K mg base qual st N k λt=>∀a,BV (ra.slots a++R0 n .any) t (f a) (rg r)):nN P w K mg base (k+1) C m ps (qX ra r f):=by
 refine D.has S (λvs H Q E h=>?_) λfa ZP A outer s H vs Q E hr hsp=>?_
 ·obtain⟨F,a,c,_,_,_,h1,_⟩:=h;rw[(ra.ok h1).1,hl]
 ·obtain⟨t,h1,h2⟩:=h fa ZP A outer s H E hr;obtain⟨F,a,c,sb,nt,tg,hr',hf,q⟩:=hsp;refine(aB t h1<|h2 a _ F _ H _ c (SR.begin_ sb nt tg hr' (by rw[(ra.ok hr').1,hl];exact hn)) hf ?_);exact λv F' H' fr rv=>q v F' H' ⟨fr.keep,fr.low,fr.sub,fr.base,λx=>fr.nt⟩ rv
theorem cW.pL{f:τ->Option (List γ)}(D:cW K C m qual st ps)(S:FnScope N ps (ah st))(hl:∀a,(ra.slots a).length=ps.length)(hn:N.length-ps.length=n)(h:iL P w K mg base qual st N k λt=>∀a,BV (ra.slots a++R0 n .any) t (f a) (AM r)):nN P w K mg base (k+1) C m ps (nC ra r f):=by
 refine D.has S (λvs H Q E h=>?_) λfa ZP A outer s H vs Q E hr hsp=>?_
 ·obtain⟨F,a,c,_,_,_,h1,_⟩:=h;rw[(ra.ok h1).1,hl]
 ·obtain⟨t,h1,h2⟩:=h fa ZP A outer s H E hr;obtain⟨F,a,c,sb,nt,tg,hr',hf,q⟩:=hsp;refine(aB t h1<|h2 a _ F _ H _ c (SR.begin_ sb nt tg hr' (by rw[(ra.ok hr').1,hl];exact hn)) hf ?_);exact λp vs F' H' fr hp rv=>q p vs F' H' ⟨fr.keep,fr.low,fr.sub,fr.base,λx=>fr.nt⟩ hp rv
theorem fO{X:Cx}{sp:Sp}{ta:TE}{t:TA}{o e:Expr}{es:List Expr}{apos pos:Pos}{pl:Sem Bool}(G:nN X.prog X.w X.K X.mg X.base k C m ps sp)(he:PE X o ta)(c:Cls X.K C)(hr:Room k X.A)(ha:PA X (e ::es) t)(hst:autoParam (V1 (e ::es) X.env=(false,eval e X.env) ::V1 es X.env) L2.cY._auto_1)(hpl:autoParam ((backTo pos<|V1 es X.env).any (·.1)=false) L2.cY._auto_1)(ht:eval (.Call (.Attribute o m apos) (e ::es) [] pos) X.env=(do
   let ov <- eval o X.env
   standAt apos.atName
   let (f,first) <- holding [ov] (getMethod ov m pl)
   callWith pos f first (backTo pos<|V1 (e ::es) X.env) (backToKw pos<|keywordEach [] X.env)):=by rfl):
  PE X (.Call (.Attribute o m apos) (e ::es) [] pos) (mY C m sp [] E0 ta t):=by
 obtain⟨f,fd,F,hm,hb⟩:=G;exact pe_meth he c hm F hr hb .nil An ha hst hpl ht
end
def spM{τ γ:Type}(CM:Addr)(ra:RpA τ)(r:Rp γ)(f:(List (List Int)×bz)×τ->Option (γ×bz)):Sp:=λvs H Q x=>∃F v args ZZ p ws ended a c,vs=v ::args/\aW F H/\NT F/\TbG H/\(nL CM).rel F v (ZZ,p)/\F p=none/\H p=some (.dK ws) /\
 Paired (cV rP F) ws ended/\ra.rel F args a/\f ((ZZ,ended),a)=some c/\∀v' ws' F' H',Fr ⟨del H p,F,F⟩ F' H'->F' p=none->H' p=some (.dK ws')->Paired (cV rP F') ws' c.2->r.rel F' v' c.1->Q v' H'
def finM{γ:Type}(r:Rp γ)(p:Addr):Fc->γ×bz->Ends->Prop:=λC x D=>∀v ws F' H',Fr C F' H'->F' p=none->H' p=some (.dK ws)->Paired (cV rP F') ws x.2->r.rel F' v x.1->D.rt v H'
theorem xC{α:Type _}(l:List α)(a b:α)(n:Nat):(l++R0 (n+1) a).set l.length b=l++b ::R0 n a:=by rw[List.set_append_right _ _ (bi _),Nat.sub_self,List.replicate_succ];rfl
theorem bv_retM{γ:Type}{r:Rp γ}{oa:Option γ}{ended:bz}(g:Nat)(hg:Γ[g]?=some (.od rP (λb=>b=p) ended))(he:EV Γ te oa r):BV Γ (mS te) (oa.bind λa=>some (a,ended)) (finM r p):=λC F σ H D x S e k=>by obtain⟨a,e1,e⟩:=a9 e;cases e;refine he C F σ H _ a S e1 λv F' H' x1 r1=>?_;have S':=S.grow x1;refine dM (S'.at_ g _ hg) λp' ws h1 ZS h3 h4 h5 h6=>?_;subst ZS;exact k v ws F' H' S'.toFr h4 h5 h6 r1
section
variable {P:U7}{w:World}{K:Z3}{mg:ZN}{base:Heap}{m qual:Str}{st:Stmt}{N ps:ZJ}{k:Nat}{CM:Addr}{τ γ:Type}{ra:RpA τ}{r:Rp γ}
theorem cW.pM{f:(List (List Int)×bz)×τ->Option (γ×bz)}(D:cW K CM m qual st ps)(S:FnScope N ps (ah st))(hl:∀a,(ra.slots a).length+1=ps.length)(hn:N.length-ps.length=n+1)(hx:N[ps.length]?=some gx)(nv:jX (ah st) gx=true)(h:iL P w K mg base qual st N k λt=>∀ZZ p ended a,BV ((.fr (nL CM) (ZZ,p) ::ra.slots a)++.od rP (λb=>b=p) ended ::R0 n .any) t (f ((ZZ,ended),a)) (finM r p)):nN P w K mg base (k+1) CM m ps (spM CM ra r f):=by
 refine D.has S (λvs H Q E h=>?_) λfa ZP A outer s H vs Q E hr hsp=>?_
 ·obtain⟨F,v,args,ZZ,p,ws,ended,a,c,rfl,_,_,_,_,_,_,_,h1,_⟩:=h;rw[V9,(ra.ok h1).1,hl]
 ·obtain⟨t,h1,h2⟩:=h fa ZP A outer s H E hr;obtain⟨F,v,args,ZZ,p,ws,ended,a,c,rfl,sb,nt,tg,hm,hp,hH,hw,har,hf,q⟩:=hsp;refine⟨_,j8 (g:=ps.length) h1 hx<|jY nv,.ref p,?_⟩;have lenA:(v ::args).length=ps.length:=by rw[V9,(ra.ok har).1,hl]
  have S0:=SR.begin_ (ra:=aJ (nL CM) ra) (N:=N) (a:=((ZZ,p),a)) (n:=n+1) sb nt tg ⟨v,args,rfl,hm,har⟩ (by rw[lenA];exact hn);have hsl:((aJ (nL CM) ra).slots ((ZZ,p),a)).length=ps.length:=by show (ra.slots a).length+1=_;exact hl a
  have no:∀(j:Nat) t,((aJ (nL CM) ra).slots ((ZZ,p),a)++R0 (n+1) Slot.any)[j]?=some t->t.own=false:=λj t ht=>by
   by_cases hj:j<((aJ (nL CM) ra).slots ((ZZ,p),a)).length
   ·rw[X9 hj]at ht;exact((aJ (nL CM) ra).ok (F:=F) (vs:=v ::args) ⟨v,args,rfl,hm,har⟩).2 j t ht |>.1
   ·rw[Y7 (by exact T5.mp hj)]at ht;have:=V3 ht;rw[List.mem_replicate]at this;rw[this.2];rfl
  have S1:=S0.less (p:=p) no hH trivial;have S2:=S1.setG (p:=p) (s:=.od rP (λb=>b=p) ended) ps.length rfl ⟨p,ws,rfl,rfl,fI,hp,hH,hw⟩ λj t h1 h2=>by rw[no j t h1]at h2;cases h2
  rw[<- hsl,xC,hsl]at S2;refine h2 ZZ p ended a _ F _ H _ c S2 hf ?_;exact λv' ws' F' H' fr g1 g2 g3 g4=>q v' ws' F' H' fr g1 g2 g3 g4
end
def EM{α:Type}(Γ:List Slot)(g:Nat)(p:Addr)(t:TE)(o:Option (α×bz))(r:Rp α):Prop:=∀C F σ H Q x,SR C F Γ σ H->o=some x->(∀v F' H',SR C F' (Γ.set g<|.od rP (λb=>b=p) x.2) σ H'->r.rel F' v x.1->Q v H')->t σ H Q
section
variable {Γ:List Slot}{α τ:Type}{r:Rp α}{ta tb:TE}{oa:Option α}{CM CW p hh:Addr}{ZZ:ZM}{reach:Int}{ended:bz}{g:Nat}{K:Z3}
set_option tactic.hygienic true in
theorem set_get{α:Type _}{l:List α}{x:α}(h:l[i]?=some x):l.set i x=l:=by
 apply List.ext_getElem?;intro j;rw[J3];split
 ·rename_i e;split
  ·rw[<- e];exact h.symm
  ·rename_i q;rw[<- e,(List.getElem?_eq_none_iff).mpr (by exact T5.mp q)]
 ·rfl
theorem em_pure(hg:Γ[g]?=some (.od rP (λb=>b=p) ended))(h:EV Γ ta oa r):EM Γ g p ta (oa.bind λa=>some (a,ended)) r:=λC F σ H Q x S e k=>by obtain⟨a,e1,e⟩:=a9 e;cases e;refine h C F σ H _ a S e1 λv F' H' x1 r1=>k v F' H' ?_ r1;rw[set_get hg];exact S.grow x1
theorem em_if(hc:ET Γ tt oc)(h1:EM Γ g p ta o r)(h2:EM Γ g p tb o' r):EM Γ g p (tIf tt ta tb) (oc.bind λb=>if b=true then o else o') r:=λC F σ H Q x S e k=>by
 obtain⟨b,e1,e⟩:=a9 e;refine hc C F σ H _ b S e1 λF' H' x1=>?_;cases b with
 |true=>exact h1 C F' σ H' Q x (S.grow x1) e k
 |false=>exact h2 C F' σ H' Q x (S.grow x1) e k
theorem em_meth{m:Str}{ra:RpA τ}{t:TA}{oτ:Option τ}{f:(List (List Int)×bz)×τ->Option (α×bz)}(k:WK K CW)(i:Nat)(hi:Γ[i]?=some (.fr (oY CM CW) (ZZ,reach,hh,p)))(hg:Γ[g]?=some (.od rP (λb=>b=p) ended))(ha:EA Γ t oτ ra)(h2:autoParam ((m=="floor")=false) L2.iu._auto_1)(h3:autoParam ((m=="ended")=false) L2.iu._auto_1):EM Γ g p (mY CM m (spM CM ra r f) [] E0 (lT K (bF i) "meetings") t) (oτ.bind λa=>f ((ZZ,ended),a)) r:=λC F σ H Q x S e kk=>by obtain⟨a,e1,e⟩:=a9 e;obtain⟨w,q1,ww,dw,vf,mm,rfl,q2,q3,q4⟩:=S.fr hi;obtain⟨m1,dm,vf2,em,q5,q6⟩:=id q4;cases em;refine⟨.ref ww,q1,ww,CW,dw,_,.ref mm,rfl,S.sub _ _ q2,k.c,k.meetings,by rfl,mm,dm,_,rfl,S.sub _ _ q5,by simp[J6,h2,h3],?_⟩;refine ha C F σ H _ a S e1 λvs F' H' x1 r1=>?_;have S':=S.grow x1;refine dM (S'.at_ g _ hg) λp' ws h1 ZS h3 h4 h5 h6=>?_;subst ZS;refine⟨F',.ref mm,vs,ZZ,p',ws,ended,a,x,by rw[W9],S'.sub,S'.nt,S'.tg,(nL CM).mono x1.ff q4,h4,h5,h6,r1,e,λv' ws' F2 H2 fr g1 g2 g3 g4=>kk v' F2 H2 ?_ g4⟩;exact S'.mut (u':=.dK ws') hg rfl h1 h3 h5 fr rfl ⟨p',ws',rfl,rfl,h3,g1,g2,g3⟩
theorem yU{T:Type}{fin:Fc->T->Ends->Prop}{φ:ZF}{f:List α->bz->Option T}(i:Nat)(hgi:g≠i)(ho:∀e,qk (Γ.set g<|.od rP (λb=>b=p) e) to i)(hi:Γ[i]?=some (.ol r φ xs))(hk:∀e,EV (Γ.set g<|.od rP (λb=>b=p) e) tk oi a8)(he:EM Γ g p te oe r)(h:∀ys e,BV ((Γ.set g<|.od rP (λb=>b=p) e).set i (.ol r φ ys)) u (f ys e) fin):BV Γ (bW (jJ te<|gSub to tk wQ) u) (oe.bind λx=>oi.bind λk=>(sG xs.length k).bind λj=>f (xs.set j x.1) x.2) fin:=by
 intro C F σ H D x S e k;obtain⟨a,e1,e⟩:=a9 e;obtain⟨n,e2,e⟩:=a9 e;obtain⟨j,e3,e⟩:=a9 e;refine he C F σ H _ a S e1 λv F' H' S1 r1=>?_;have hi':(Γ.set g<|.od rP (λb=>b=p) a.2)[i]?=some (.ol r φ xs):=by rw[eB hgi];exact hi
 obtain⟨o,h1,p1,vs1,rfl,_⟩:=S1.at_ i _ hi';refine ho a.2 C F' σ H' _ (.ref p1) S1 h1 (hk a.2 C F' σ H' _ n S1 e2 λw F2 H2 x2 r2=>?_);have S':=S1.grow x2;refine dM (S'.at_ i _ hi') λp' vs' q1 q2 q3 q4 q5 q6=>?_;rw[h1]at q1;cases q1;refine⟨p1,vs',n,j,rfl,r2,q5,by rw[q6.length];exact e3,?_⟩;exact h _ _ C F2 σ _ D x (S'.chg hi' rfl h1 q3 q4 rfl ⟨p1,_,rfl,q2,q3,q4,af,Paired.setB (r.mono x2.ff r1) j q6⟩) e k
end
abbrev Wa:=List (List Int)×Int×List (Option Int)×bz
def spW{τ:Type}(CM CW:Addr)(ra:RpA τ)(f:Wa×τ->Option (List (Option Int)×bz)):Sp:=λvs H Q x=>∃F v args ZZ reach hh p hs ws homes ended a c,vs=v ::args/\aW F H/\NT F/\TbG H/\(oY CM CW).rel F v (ZZ,reach,hh,p)/\F hh=none/\H hh=some (.lst hs)/\Paired ((cF a8).rel F) hs homes /\
 F p=none/\H p=some (.dK ws)/\Paired (cV rP F) ws ended/\ra.rel F args a/\f ((ZZ,reach,homes,ended),a)=some c /\
 ∀hs' ws' F' H',Fr ⟨del (del H hh) p,F,F⟩ F' H'->F' hh=none->H' hh=some (.lst hs')->Paired ((cF a8).rel F') hs' c.1->F' p=none->H' p=some (.dK ws')->Paired (cV rP F') ws' c.2->Q .non H'
def finW(hh p:Addr):Fc->List (Option Int)×bz->Ends->Prop:=λC c D=>∀hs ws F σ H,Fr C F H->F hh=none->H hh=some (.lst hs)->Paired ((cF a8).rel F) hs c.1->F p=none->H p=some (.dK ws)->Paired (cV rP F) ws c.2->D.nx σ H
theorem bv_endW(g1 g2:Nat)(hg1:Γ[g1]?=some (.ol (cF a8) (λb=>b=hh) homes))(hg2:Γ[g2]?=some (.od rP (λb=>b=p) ended)):BV Γ mR (some (homes,ended)) (finW hh p):=λC F σ H D x S e k=>by cases e;refine dM (S.at_ g1 _ hg1) λp1 vs h1 ZS h3 h4 h5 h6=>?_;subst ZS;refine dM (S.at_ g2 _ hg2) λp2 ws k1 ZS k3 k4 k5 k6=>?_;subst ZS;exact k vs ws F σ H S.toFr h4 h5 h6 k4 k5 k6
end
section
open PySem PySem.Spec PyProof.Rows
variable [Kn:Kon]
theorem xD{H:Hp}(h:H a=some o)(k:H b=some o')(n:o≠o'):a≠b:=λe=>n<|Z5<|h.symm.trans<|e▸k
def tGh(g:Nat)(u:TS):TS:=λD σ H=>∃v,u D (σ.set g<|some v) H
theorem vM(g:Nat)(h:mP X ss t)(hx:X.N[g]?=some x)(nv:jX X.env.scope x=true):mP X ss (tGh g t):=j8 h hx<|jY nv
theorem B4{α:Type _}(l:List α)(a b c:α)(n:Nat):((l++R0 (n+2) a).set l.length b).set (l.length+1) c=l++b ::c ::R0 n a:=by
 rw[xC l a b (n+1),List.set_append_right _ _ (Q2 _)];have:l.length+1-l.length=1:=by lia
 rw[this,List.replicate_succ];rfl
section
variable {P:U7}{w:World}{K:Z3}{mg:ZN}{base:Heap}{m qual:Str}{st:Stmt}{N ps:ZJ}{k:Nat}{CM CW:Addr}{τ:Type}{ra:RpA τ}
theorem cW.pW{f:Wa×τ->Option (List (Option Int)×bz)}(D:cW K CW m qual st ps)(S:FnScope N ps (ah st))(hl:∀a,(ra.slots a).length+1=ps.length)(hn:N.length-ps.length=n+2)(hx:N[ps.length]?=some gx)(nvx:jX (ah st) gx=true)(hy:N[ps.length+1]?=some gy)(nvy:jX (ah st) gy=true)(h:iL P w K mg base qual st N k λt=>∀ZZ reach hh p homes ended a,BV ((.fr (oY CM CW) (ZZ,reach,hh,p) ::ra.slots a)++.ol (cF a8) (λb=>b=hh) homes :: .od rP (λb=>b=p) ended ::R0 n .any) t (f ((ZZ,reach,homes,ended),a)) (finW hh p)):nN P w K mg base (k+1) CW m ps (spW CM CW ra f):=by
 refine D.has S (λvs H Q E h=>?_) λfa ZP A outer s H vs Q E hr hsp=>?_
 ·obtain⟨F,v,args,ZZ,reach,hh,p,hs,ws,homes,ended,a,c,rfl,_,_,_,_,_,_,_,_,_,_,h1,_⟩:=h;rw[V9,(ra.ok h1).1,hl]
 ·obtain⟨t,h1,h2⟩:=h fa ZP A outer s H E hr;obtain⟨F,v,args,ZZ,reach,hh,p,hs,ws,homes,ended,a,c,rfl,sb,nt,tg,hm,hF1,hH1,hw1,hp,hH,hw,har,hf,q⟩:=hsp;refine⟨_,j8 (g:=ps.length) (j8 (g:=ps.length+1) h1 hy<|jY nvy) hx<|jY nvx,.ref hh,.ref p,?_⟩;have ne:p≠hh:=xD hH hH1 nofun;have lenA:(v ::args).length=ps.length:=by rw[V9,(ra.ok har).1,hl]
  have S0:=SR.begin_ (ra:=aJ (oY CM CW) ra) (N:=N) (a:=((ZZ,reach,hh,p),a)) (n:=n+2) sb nt tg ⟨v,args,rfl,hm,har⟩ (by rw[lenA];exact hn);have hsl:((aJ (oY CM CW) ra).slots ((ZZ,reach,hh,p),a)).length=ps.length:=by show (ra.slots a).length+1=_;exact hl a
  have no:∀(j:Nat) t,((aJ (oY CM CW) ra).slots ((ZZ,reach,hh,p),a)++R0 (n+2) Slot.any)[j]?=some t->t.own=false:=λj t ht=>by
   by_cases hj:j<((aJ (oY CM CW) ra).slots ((ZZ,reach,hh,p),a)).length
   ·rw[X9 hj]at ht;exact((aJ (oY CM CW) ra).ok (F:=F) (vs:=v ::args) ⟨v,args,rfl,hm,har⟩).2 j t ht |>.1
   ·rw[Y7 (by exact T5.mp hj)]at ht;have:=V3 ht;rw[List.mem_replicate]at this;rw[this.2];rfl
  have S1:=S0.less (p:=hh) no hH1 trivial;have S1':=S1.less (p:=p) no (show del H hh p=some (.dK ws) by rw[cu ne];exact hH) trivial;have S2:=S1'.setG (p:=hh) (s:=.ol (cF a8) (λb=>b=hh) homes) ps.length rfl ⟨hh,hs,rfl,rfl,by show del (del H hh) p hh=none;rw[cu (R6 ne)];exact fI,hF1,hH1,hw1⟩ λj t h1 h2=>nomatch (no j t h1).symm.trans h2;have S3:=S2.setG (p:=p) (s:=.od rP (λb=>b=p) ended) (ps.length+1) rfl ⟨p,ws,rfl,rfl,fI,hp,hH,hw⟩ λj t h1 h2 h3=>gE h1 (λa x l=>ne (V.ref.inj<|Z5<|jR a (Nat.lt_of_lt_of_eq l S1'.len.symm) h3).symm) λx h1=>nomatch (no j t h1).symm.trans h2;rw[<- hsl,B4,hsl]at S3;refine h2 ZZ reach hh p homes ended a _ F _ H _ c S3 hf ?_;exact λhs' ws' F' x H' fr g1 g2 g3 g4 g5 g6=>q hs' ws' F' H' fr g1 g2 g3 g4 g5 g6
end
theorem SR.mut2(S:SR C F Γ σ H)(hne:g1≠g2)(hg1:Γ[g1]?=some s1)(hs1:s1.own=true)(hp1:σ[g1]?=some (some<|.ref hh))(h01:C.H0 hh=none)(hu:H hh=some u)(hg2:Γ[g2]?=some s2)(hs2:s2.own=true)(hp2:σ[g2]?=some (some<|.ref p))(h02:C.H0 p=none)(hv:H p=some v)(fr:Fr ⟨del (del H hh) p,F,F⟩ F' H')(ht1:t1.own=true)(h1:dX C.H0 F' H' t1 (some<|.ref hh))(ht2:t2.own=true)(h2:dX C.H0 F' H' t2 (some<|.ref p)):
  SR C F' ((Γ.set g1 t1).set g2 t2) σ H':=by
 have ow:∀(j:Nat) x,((Γ.set g1 t1).set g2 t2)[j]?=some x->x.own=true->∃y,Γ[j]?=some y/\y.own=true:=λj x q o=>gE q (λe h h=>⟨s2,e▸hg2,hs2⟩) λh q=>gE q (λe h h=>⟨s1,e▸hg1,hs1⟩) λh q=>⟨x,q,o⟩;refine⟨S.toFr.via fr λb o e=>(cu<|ai e h02).trans (cu<|ai e h01),by rw[N5,N5];exact S.len,λj t q=>gE q (λa b h=>aB _ (a▸hp2)<|b▸h2) λn2 q=>gE q (λa b h=>aB _ (a▸hp1)<|b▸h1) λn1 q=>S.mvAt q fr.low λp' h o e f hu ou=>?_,λj k a b p' q1 q2 o1 o2 e1 e2=>(ow j a q1 o1).elim λa' r=>(ow k b q2 o2).elim λb' r'=>S.inj j k a' b' p' r.1 r'.1 r.2 r'.2 e1 e2⟩;have e:=(cu<|S.oth hg2 hs2 hp2 n2 q o e).trans ((cu<|S.oth hg1 hs1 hp1 n1 q o e).trans hu);exact⟨fr.off e f ou,fr.keep.kp p' _ ou.noTbl e⟩
section
variable {Γ:List Slot}{T τ:Type}{CM CW hh p:Addr}{ZZ:ZM}{reach:Int}{homes:ZA}{ended:bz}{u:TS}{fin:Fc->T->Ends->Prop}
theorem bv_come{f:Wa×τ->Option (List (Option Int)×bz)}{gg:List (Option Int)->bz->Option T}(i g1 g2:Nat)(hne:g1≠g2)(hi:Γ[i]?=some (.fr (oY CM CW) (ZZ,reach,hh,p)))(hg1:Γ[g1]?=some (.ol (cF a8) (λb=>b=hh) homes))(hg2:Γ[g2]?=some (.od rP (λb=>b=p) ended))(ha:EA Γ t oτ ra)(h:∀hs es,BV ((Γ.set g1<|.ol (cF a8) (λb=>b=hh) hs).set g2 (.od rP (λb=>b=p) es)) u (gg hs es) fin)(ob:Ob (oY CM CW) CW m):BV Γ (bW (lq<|mY CW m (spW CM CW ra f) [] E0 (bF i) t) u) (oτ.bind λa=>(f ((ZZ,reach,homes,ended),a)).bind λc=>gg c.1 c.2) fin:=by intro C F σ H D x S e k;obtain⟨a,e1,e⟩:=a9 e;obtain⟨c,e2,e⟩:=a9 e;obtain⟨w,q1,q2⟩:=S.fr hi;obtain⟨ad,dx,fs,z1,z2,z3⟩:=ob F w _ q2;refine⟨w,q1,ad,dx,fs,z1,S.sub _ _ z2,z3,ha C F σ H _ a S e1 λvs F' H' x1 r1=>?_⟩;have S':=S.grow x1;refine dM (S'.at_ g1 _ hg1) λp1 hs h1 ZS h3 h4 h5 h6=>?_;subst ZS;refine dM (S'.at_ g2 _ hg2) λp2 ws k1 ZS k3 k4 k5 k6=>?_;subst ZS;refine⟨F',w,vs,ZZ,reach,p1,p2,⟨hs,ws,homes,ended,a,c,(by rw[W9]),S'.sub,S'.nt,S'.tg,(oY CM CW).mono x1.ff q2,h4,h5,h6,k4,k5,k6,r1,⟨e2,λhs' ws' F2 H2 fr m1 m2 m3 m4 m5 m6=>?_⟩⟩⟩;exact h c.1 c.2 C F2 σ H2 D x (S'.mut2 (u:=.lst hs) (v:=.dK ws) hne hg1 rfl h1 h3 h5 hg2 rfl k1 k3 k5 fr rfl ⟨p1,hs',rfl,rfl,h3,m1,m2,m3⟩ rfl ⟨p2,ws',rfl,rfl,k3,m4,m5,m6⟩) e k
theorem bv_retW(i g1 g2:Nat)(hne:g1≠g2)(hi:Γ[i]?=some (.fr (oY CM CW) (ZZ,reach,hh,p)))(hg1:Γ[g1]?=some (.ol (cF a8) (λb=>b=hh) homes))(hg2:Γ[g2]?=some (.od rP (λb=>b=p) ended))(hi2:i≠g1/\i≠g2/\i<Γ.length):BV Γ (mS<|bF i) (some (ZZ,reach,homes,ended)) (rg<|rW CM CW):=λC F σ H D x S e k=>by cases e;obtain⟨vs,ws,_,_,_,_,_,S'⟩:=S.borW hi hg1 hg2 hne;have hi':(((Γ.set g1 .any).set g2 .any).set i (.fr (rW CM CW) (ZZ,reach,homes,ended)))[i]?=some (.fr (rW CM CW) (ZZ,reach,homes,ended)):=qV (by rw[N5,N5];exact hi2.2.2);obtain⟨v,q1,q2⟩:=S'.fr hi';exact⟨v,q1,k v _ H S'.toFr q2⟩
end
def spIM(CM:Addr):Sp:=λvs H Q a=>∃x dx vf,vs=[.ref x,vf]/\H x=some (.ins CM dx [])/\∀p,H p=none->Q .non (aD (aD (aD H x<|.ins CM dx [("floor",vf)]) p<|.dK []) x<|.ins CM dx [("floor",vf),("ended",.ref p)])
theorem init_M{K:Z3}(k:MK K CM)(hN:N.length=2)(h:spIM CM vs H Q E):(bW (sU K (bF 0) (bF 1) "floor")<|sU K (bF 0) qN "ended") {nx:=λa H'=>Q .non H',rt:=Q} (start N vs) H:=by
 obtain⟨x,dx,vf,rfl,hx,q⟩:=h;have es:start N [.ref x,vf]=[some (.ref x),some vf]:=by unfold start;simp[hN]
 rw[es];refine⟨vf,rfl,.ref x,rfl,x,CM,dx,[],rfl,hx,k.c,k.floor,by simp,?_⟩;intro p hp;have np:p≠x:=by rintro rfl;rw[af]at hp;cases hp
 rw[ak np]at hp;refine⟨.ref x,rfl,x,CM,dx,[("floor",vf)],rfl,by rw[ak (R6 np),af];rfl,k.c,k.ended,by simp,?_⟩;exact q p hp
end
section
open PySem PySem.Spec PyProof.Rows
variable [Kn:Kon]
def spIW(CM CW:Addr)(f:List (List Int)->Option (List<|Option Int)):Sp:=λvs H Q a=>∃F x dx vf ZZ reach homes,vs=[.ref x,vf,.int reach]/\aW F H/\NT F/\TbG H/\F x=none/\H x=some (.ins CW dx [])/\rF.rel F vf ZZ/\f ZZ=some homes /\
 ∀h hs m dm p F' H',Fr ⟨del H x,F,F⟩ F' H'->(F' x=none/\F' h=none/\F' m=none/\F' p=none)->(H h=none/\H m=none/\H p=none)->H' x=some (.ins CW dx [("floor",vf),("reach",.int reach),("homes",.ref h),("meetings",.ref m)])->H' h=some (.lst hs) ->
  Paired ((cF a8).rel F') hs homes->H' m=some (.ins CM dm [("floor",vf),("ended",.ref p)])->H' p=some (.dK [])->Q .non H'
theorem TbG.pokI(g:TbG H)(n:dS o)(h:H p=some (.ins C d fs)):TbG (aD H p o):=g.poke n (λx z=>nomatch h.symm.trans z) λx z=>nomatch h.symm.trans z
theorem xE{K:Z3}(e:σ[0]?=some (some<|.ref x))(hx:H x=some (.ins C dx fs))(c:Cls K C)(n:dr K C f)(l:fs.length<1000)(k:D.nx σ (aD H x<|.ins C dx<|eP f y fs)):sU K (bF 0) (λa H Q=>Q y H) f D σ H:=⟨.ref x,e,x,C,dx,fs,rfl,hx,c,n,l,k⟩
theorem Ext.offI(x:Ext F H F' H')(f:F b=none)(h:H b=some (.ins C d fs)):F' b=none:=none_of λw z=>(x.nw b w z).elim (λy=>nomatch f.symm.trans y) λy=>by rw[h]at y;exact y
theorem rJ{σ:St}(h:dX H0 F H s0 o0)(t:∀(i:Nat) s,Γ[i]?=some s->∃o,σ[i]?=some o/\dX H0 F H s o):∀(i:Nat) s,(s0 ::Γ)[i]?=some s->∃o,(o0 ::σ)[i]?=some o/\dX H0 F H s o:=λi s e=>by
 cases i with
 |zero=>cases e;exact⟨_,rfl,h⟩
 |succ i=>exact t i s e
theorem no_own{Γ:List Slot}(h:Γ.all (λs=>!s.own)=true){i:Nat}(e:Γ[i]?=some s)(o:s.own=true):False:=by have z:=List.all_eq_true.mp h s<|V3 e;rw[o]at z;cases z
theorem init_W{K:Z3}(k:WK K CW){f:List (List Int)->Option (List<|Option Int)}(hc:∀ZZ reach,i4 [.any,.fr rF ZZ,.fr a8 reach] tc (f ZZ) (cF a8))(hN:N.length=3)(h:spIW CM CW f vs H Q E):
  (bW (sU K (bF 0) (bF 1) "floor")<|bW (sU K (bF 0) (bF 2) "reach")<|bW (sU K (bF 0) tc "homes")<|sU K (bF 0) (sV CM (spIM CM) [] E0<|aY (bF 1) cH) "meetings") {nx:=λa H'=>Q .non H',rt:=Q} (start N vs) H:=by
 obtain⟨F,x,dx,vf,ZZ,reach,homes,rfl,sb,nt,tg,hFx,hx,hvf,hf,q⟩:=h;have es:start N [.ref x,vf,.int reach]=[some (.ref x),some vf,some (.int reach)]:=by unfold start;simp[hN]
 rw[es];refine aB vf rfl<|xE rfl hx k.c k.floor (by decide) ?_;refine aB (.int reach) rfl<|xE (fs:=[("floor",vf)]) rfl af k.c k.reach (show 1<1000 by decide) ?_;rw[upd_upd];have sb2:aW F (aD H x<|.ins CW dx<|eP "reach" (.int reach) [("floor",vf)]):=λb o e=>by rw[ak (ai e hFx)];exact sb b o e
 have tg2:TbG (aD H x<|.ins CW dx<|eP "reach" (.int reach) [("floor",vf)]):=tg.pokI trivial hx;generalize eH2:aD H x (.ins CW dx<|eP "reach" (.int reach) [("floor",vf)])=H2 at sb2 tg2;have h2x:H2 x=some (.ins CW dx [("floor",vf),("reach",.int reach)]):=by rw[<- eH2,af];rfl
 have h2o:∀b,b≠x->H2 b=H b:=λb n=>by rw[<- eH2,ak n]
 have SS:SR ⟨H2,F,F⟩ F [.any,.fr rF ZZ,.fr a8 reach] [some (.ref x),some vf,some (.int reach)] H2:=by exact⟨⟨Sm.refl _,aW.refl _,sb2,λb o h=>.inl h,nt,tg2⟩,rfl,rJ trivial<|rJ ⟨vf,rfl,hvf⟩<|rJ ⟨_,rfl,rfl⟩ nofun,λi j s t p h1 h2 o1 o2 a a=>(no_own rfl h1 o1).elim⟩
 refine hc ZZ reach _ F _ H2 _ homes SS hf λhh hs F' H3 x1 hp rh=>?_;have h3x:H3 x=some (.ins CW dx [("floor",vf),("reach",.int reach)]):=x1.hh.kp _ _ trivial h2x;have nhx:x≠hh:=ai h3x hp;have F'x:F' x=none:=x1.offI hFx h2x;have F'h:F' hh=none:=x1.sub.free hp;have H2h:H2 hh=none:=x1.hh.free hp;refine xE rfl ((ak nhx).trans h3x) k.c k.homes (show 2<1000 by decide) ?_;have tg3:TbG H3:=x1.hh.tg tg2;have tg4:TbG (aD (aD H3 hh<|.lst hs) x<|.ins CW dx<|eP "homes" (.ref hh) [("floor",vf),("reach",.int reach)]):=by exact(tg3.pokN (p:=hh) (o:=.lst hs) trivial hp).pokI trivial ((ak nhx).trans h3x)
 have h4x':aD (aD H3 hh<|.lst hs) x (.ins CW dx<|eP "homes" (.ref hh) [("floor",vf),("reach",.int reach)]) x=some (.ins CW dx [("floor",vf),("reach",.int reach),("homes",.ref hh)]):=by rw[af];rfl
 have h4h':aD (aD H3 hh<|.lst hs) x (.ins CW dx<|eP "homes" (.ref hh) [("floor",vf),("reach",.int reach)]) hh=some (.lst hs):=by rw[ak (R6 nhx),af]
 have h4o':∀b,b≠x->b≠hh->aD (aD H3 hh<|.lst hs) x (.ins CW dx<|eP "homes" (.ref hh) [("floor",vf),("reach",.int reach)]) b=H3 b:=λb n1 n2=>by rw[ak n1,ak n2]
 generalize aD (aD H3 hh<|.lst hs) x (.ins CW dx<|eP "homes" (.ref hh) [("floor",vf),("reach",.int reach)])=H4 at tg4 h4x' h4h' h4o';refine⟨vf,rfl,λm dm hm hdm hne=>⟨m,dm,vf,rfl,af,λp hp5=>⟨rfl,?_⟩⟩⟩;have mx:m≠x:=(ai h4x' hm).symm;have mh:m≠hh:=(ai h4h' hm).symm;have dmx:dm≠x:=(ai h4x' hdm).symm;have dmh:dm≠hh:=(ai h4h' hdm).symm;have pm:p≠m:=(ai af hp5).symm;rw[ak pm]at hp5;have pdm:p≠dm:=(ai af hp5).symm;rw[ak pdm]at hp5;have px:p≠x:=(ai h4x' hp5).symm;have ph:p≠hh:=(ai h4h' hp5).symm;have tg5:TbG (aD (aD (aD (aD (aD H4 dm<|.own m) m<|.ins CM dm []) m<|.ins CM dm [("floor",vf)]) p<|.dK []) m<|.ins CM dm [("floor",vf),("ended",.ref p)]):=by exact((((tg4.pokN (p:=dm) (o:=.own m) trivial hdm).pokN (p:=m) (o:=.ins CM dm []) trivial ((ak<|R6 hne).trans hm)).pokI (p:=m) (o:=.ins CM dm [("floor",vf)]) trivial af).pokN (p:=p) (o:=.dK []) trivial ((ak pm).trans ((ak pm).trans ((ak pdm).trans hp5)))).pokI (p:=m) (o:=.ins CM dm [("floor",vf),("ended",.ref p)]) trivial ((ak<|R6 pm).trans af)
 have h5o:∀b,b≠m->b≠dm->b≠p->aD (aD (aD (aD (aD H4 dm<|.own m) m<|.ins CM dm []) m<|.ins CM dm [("floor",vf)]) p<|.dK []) m (.ins CM dm [("floor",vf),("ended",.ref p)]) b=H4 b:=λb n1 n2 n3=>by rw[ak n1,ak n3,ak n1,ak n1,ak n2]
 have h5m:aD (aD (aD (aD (aD H4 dm<|.own m) m<|.ins CM dm []) m<|.ins CM dm [("floor",vf)]) p<|.dK []) m (.ins CM dm [("floor",vf),("ended",.ref p)]) m=some (.ins CM dm [("floor",vf),("ended",.ref p)]):=af;have h5p:aD (aD (aD (aD (aD H4 dm<|.own m) m<|.ins CM dm []) m<|.ins CM dm [("floor",vf)]) p<|.dK []) m (.ins CM dm [("floor",vf),("ended",.ref p)]) p=some (.dK []):=by rw[ak pm,af]
 generalize aD (aD (aD (aD (aD H4 dm<|.own m) m<|.ins CM dm []) m<|.ins CM dm [("floor",vf)]) p<|.dK []) m (.ins CM dm [("floor",vf),("ended",.ref p)])=H5 at tg5 h5o h5m h5p;have h5x:H5 x=some (.ins CW dx [("floor",vf),("reach",.int reach),("homes",.ref hh)]):=by rw[h5o x (R6 mx) (R6 dmx) (R6 px)];exact h4x'
 have h5h:H5 hh=some (.lst hs):=by rw[h5o hh (R6 mh) (R6 dmh) (R6 ph)];exact h4h'
 refine xE rfl h5x k.c k.meetings (show 3<1000 by decide) ?_;have tg6:TbG (aD H5 x<|.ins CW dx<|eP "meetings" (.ref m) [("floor",vf),("reach",.int reach),("homes",.ref hh)]):=tg5.pokI trivial h5x;have old:∀b o,b≠x->H3 b=some o->aD H5 x (.ins CW dx<|eP "meetings" (.ref m) [("floor",vf),("reach",.int reach),("homes",.ref hh)]) b=some o:=λb o n e=>by
  have nh:b≠hh:=ai e hp;have e4:H4 b=some o:=by rw[h4o' b n nh];exact e
  rw[ak n,h5o b (ai e4 hm) (ai e4 hdm) (ai e4 hp5)];exact e4
 have F'm:F' m=none:=x1.sub.free<|(h4o' m mx mh).symm.trans hm;have F'p:F' p=none:=x1.sub.free<|(h4o' p px ph).symm.trans hp5;have freeH:∀b,b≠x->b≠hh->H4 b=none->H b=none:=λb n1 n2 e=>by rw[h4o' b n1 n2]at e;rw[<- h2o b n1];exact x1.hh.free e
 refine q hh hs m dm p F' _ ⟨⟨λb o n e=>?_,λb ps e=>?_,λa=>tg6⟩,x1.ff,λb o e=>?_,λb o e=>?_,x1.nt nt,tg6⟩ (qE F'x F'h F'm F'p) (qD (by rw[<- h2o hh (R6 nhx)];exact H2h) (freeH m mx mh hm)<|freeH p px ph hp5) ?_ (by rw[ak (R6 nhx)];exact h5h) rh (by rw[ak mx];exact h5m) (by rw[ak px];exact h5p)
 ·obtain⟨n1,e⟩:=eE e;exact old b o n1<|x1.hh.kp b o n (by rw[h2o b n1];exact e)
 ·obtain⟨n1,e⟩:=eE e;obtain⟨more,e3⟩:=x1.hh.tb b ps (by rw[h2o b n1];exact e);exact⟨more,old b _ n1 e3⟩
 ·exact old b o (ai e F'x)<|x1.sub b o e
 ·rcases x1.nw b o e with z|z
  ·exact .inl z
  ·refine .inr ?_;show Cr (del H x b);by_cases y:b=x
   ·rw[y,fI];trivial
   ·rw[cu y,<- h2o b y];exact z
 ·rw[af];rfl
section
variable {Γ:List Slot}{T:Type}{CM CW:Addr}{u:TS}{fin:Fc->T->Ends->Prop}{f:List (List Int)->Option (List<|Option Int)}
theorem xF{o1 o2 u:HO}{Q:Prop}(z:aD (aD F w o1) m o2 b=some u)(f:b=m->o2=u->Q)(g:b=w->o1=u->Q)(h:b≠w->F b=some u->Q):Q:=jt z f λx z=>jt z g h
theorem B5(fr:Fr ⟨Hx,F1,F1⟩ F' H')(k2:∀b o,H1 b=some o->Hx b=some o)(k3:∀b,b≠w->Cr (Hx b)->Cr (H1 b))(hw:H1 w=none)(hm:H1 m=none)(f1:F' w=none)(f3:F' m=none)(q1:H' w=some o1)(q4:H' m=some o2)(t1:dS o1)(t2:dS o2):Ext F1 H1 (aD (aD F' w o1) m o2) H' :=
 ⟨⟨λb o n z=>fr.keep.kp b o n<|k2 b o z,λb ps z=>fr.keep.tb b ps<|k2 b _ z,λx=>fr.tg⟩,λb o z=>have z:=fr.low b o z
  bS (ai z f3) (bS (ai z f1) z),λb o z=>xF z (λe1 e2=>e1▸e2▸q4) (λe1 e2=>e1▸e2▸q1) λx z=>fr.sub b o z,λb o z=>xF z (λe x=>.inr<|qh<|e▸hm) (λe x=>.inr<|qh<|e▸hw) λn z=>(fr.base b o z).imp id (k3 b n),λx=>kR (kR fr.nt t1) t2⟩
theorem rK{σ:St}(g:Nat)(hl:σ.length=Γ.length)(n:∀(j:Nat) t,Γ[j]?=some t->t.own=true->σ[j]?≠some (some<|.ref b))(h:s.own=true->v≠some (.ref b))(j:Nat)(t:Slot)(z1:(Γ.set g s)[j]?=some t)(z2:t.own=true):(σ.set g v)[j]?≠some (some<|.ref b):=λz3=>gE z1 (λe1 e2 l=>h (e2▸z2)<|jR e1 (Nat.lt_of_lt_of_eq l hl.symm) z3) λnj z1=>n j t z1 z2<|(eB nj).symm.trans z3
theorem bv_make{gg:List (List Int)->Int->List (Option Int)->Option T}(i g1 g2:Nat)(hne:i≠g1/\i≠g2/\g1≠g2/\g1<Γ.length/\g2<Γ.length)(ha:EA Γ t oa (aJ rF<|ce a8))(h:∀ZZ reach hh p homes,BV (((Γ.set i<|.fr (oY CM CW) (ZZ,reach,hh,p)).set g1 (.ol (cF a8) (λb=>b=hh) homes)).set g2 (.od rP (λb=>b=p) [])) u (gg ZZ reach homes) fin):
  BV Γ (bW (jJ (sV CW (spIW CM CW f) [] E0 t)<|db i)<|tGh g1<|tGh g2 u) (oa.bind λa=>(f a.1).bind λhomes=>gg a.1 a.2 homes) fin:=by
 intro C F σ H D x S e k;obtain⟨a,e1,e⟩:=a9 e;obtain⟨homes,e2,e⟩:=a9 e;refine ha C F σ H _ a S e1 λvs F1 H1 x1 r1=>?_;obtain⟨vf,us,rfl,r2,v2,rfl,r3⟩:=r1;cases r3;have S1:=S.grow x1;intro w dx hw hdx nd;have Fw:F1 w=none:=S1.sub.free hw;have Fd:F1 dx=none:=S1.sub.free hdx;refine oi79 F1 w dx vf a.1 a.2 homes rfl (λb o z=>bS (ai z Fw)<|bS (ai z Fd)<|S1.sub b o z) S1.nt ?_ Fw af r2 e2 λhh hs m dm p F' H' fr zf zn q1 q2 q3 q4 q5=>⟨rfl,oq04 zf λf1 f2 f3 f4=>zI zn λn1 n2 n3=>?_⟩
 ·exact(S1.tg.pokN (p:=dx) (o:=.own w) trivial hdx).pokN trivial ((ak<|R6 nd).trans hw)
 have frH:∀b,aD (aD H1 dx<|.own w) w (.ins CW dx []) b=none->H1 b=none/\b≠w:=λb z=>by have bw:b≠w:=(ai af z).symm;have z:=(ak bw).symm.trans z;exact⟨(ak (ai af z).symm).symm.trans z,bw⟩
 obtain⟨n1,hw1⟩:=frH hh n1;obtain⟨n2,hw2⟩:=frH m n2;obtain⟨n3,hw3⟩:=frH p n3;have hm:hh≠m:=xD q2 q4 nofun;have pm:p≠m:=xD q5 q4 nofun;have ph:p≠hh:=xD q5 q2 nofun;have ext:=B5 fr (λb o z=>(cu<|ai z hw).trans (bS (ai z hw)<|bS (ai z hdx) z)) (λb n y=>by
  rw[cu n,ak n]at y;by_cases bd:b=dx
  ·rw[bd,af]at y;exact y.elim
  ·rw[ak bd]at y;exact y) hw n2 f1 f3 q1 q4 trivial trivial
 generalize eF:aD (aD F' w<|.ins CW dx [("floor",vf),("reach",.int a.2),("homes",.ref hh),("meetings",.ref m)]) m (.ins CM dm [("floor",vf),("ended",.ref p)])=F2 at ext;have e3:aW F' F2:=λb o z=>eF▸bS (ai z f3) (bS (ai z f1) z);have rf:=rF.mono e3<|rF.mono fr.low r2;have S2:=S1.grow ext;have S3:=S2.setF (r:=oY CM CW) (a:=(a.1,a.2,hh,p)) (v:=.ref w) i ⟨w,dx,vf,m,rfl,eF▸(ak<|R6 hw2).trans af,rf,m,dm,vf,rfl,eF▸af,rf⟩;have off:∀b,b≠m->b≠w->F' b=none->F2 b=none:=λb n1 n2 z=>eF▸(ak n1).trans ((ak n2).trans z);have S4:=S3.setG (p:=hh) (s:=.ol (cF a8) (λb=>b=hh) homes) g1 rfl ⟨hh,hs,rfl,rfl,S1.keep.free n1,off hh hm hw1 f2,q2,Paired.imp2 (λc c z=>Rp.mono _ e3 z) q3⟩<|rK i S1.len (λj t q o z=>S1.np n1 q o z) nofun;have S5:=S4.setG (p:=p) (s:=.od rP (λb=>b=p) []) g2 rfl ⟨p,[],rfl,rfl,S1.keep.free n3,off p pm hw3 f4,q5,.nil⟩ (rK g1 S3.len (rK i S1.len (λj t q o z=>S1.np n3 q o z) nofun) λc z=>ph (V.ref.inj<|Z5 z).symm);exact⟨.ref hh,.ref p,h a.1 a.2 hh p homes C _ _ H' D x S5 e k⟩
end
end
section
open PySem PySem.Spec PyProof.Rows
variable [Kn:Kon]
def nO(K:Z3)(mg:ZN)(x:Str)(C:Addr)(qual:Str)(st:Stmt)(ps:ZJ):Prop:=∃f fd,Fun K "__init__" qual st f fd/\Binds K fd ps []/\Mk K C f/\mg x=some (.ref C)
def HasI(P:U7)(w:World)(K:Z3)(mg:ZN)(base:Heap)(k:Nat)(x:Str)(C:Addr)(ps:ZJ)(sp:Sp):Prop :=
 ∃f fd,FnOk P w K mg base uQ k f fd ps sp/\Mk K C f/\Binds K fd ps []/\mg x=some (.ref C)
theorem init_mk{K:Z3}{mg:ZN}{st:Stmt}{kV doc pm ZP ct:Value}(X:K.In h)(G:h.Ns Q9 mg)(a:PySem.W.nsIn K Q9 x=some (some<|.ref C))(i:M6 K (.ref C) "__init__"=some (some<|.ref f))(l:K.lookup f=some ⟨oc,od,.func<|N0 "__init__" qual (cz st) (bp st) (ah st) .none kV doc pm an ZP ct,osl⟩)(c:D7 K ZP qual=true)(k:M7 K (.ref f)=true)(hf:PySem.W.isFn K (.ref f)=true)(mk:PySem.W.makesIn K C=true)(kc:M7 K (.ref C)=true)(hb:∀(kV doc pm:Value) (an:Zr) (ZP ct:Value) (us:ZT),us.length=ps.length->bindArgs (N0 "__init__" qual (cz st) (bp st) (ah st) .none kV doc pm an ZP ct) ⟨us,[]⟩=pure (ps.zip us)):nO K mg x C qual st ps :=
 ⟨f,_,i0 (st:=st) l c k,(i0 (st:=st) l c k).binds hb,⟨mk,i,hf,kc⟩,PySem.W.mg_of X G a⟩
section
variable {P:U7}{w:World}{K:Z3}{mg:ZN}{base:Heap}{x qual:Str}{st:Stmt}{N ps:ZJ}{k:Nat}{C:Addr}
theorem nO.has(D:nO K mg x C qual st ps)(S:FnScope N ps (ah st))(len:∀vs H Q E,sp vs H Q E->vs.length=ps.length)(hbody:∀(f:Addr) (ZP:Value) (A:Around) (outer:List Env) (s:Shared) (H:Hp) (vs:List V) (Q:VK) (E:XK),Room k (A.deeper<|envOfC qual (ah st) s.heap.objs.size f ZP)->sp vs H Q E ->
   ∃t,mP (lV uQ P w K mg base N qual (ah st) f ZP A outer s H E).nox (bp st) t/\t {nx:=λa H'=>Q .non H',rt:=Q} (start N vs) H):HasI P w K mg base (k+1) x C ps sp:=by
 obtain⟨f,fd,F,b,hm,hg⟩:=D;exact⟨f,fd,F.ok S len λZP A outer s H vs Q E hr h=>hbody f ZP A outer s H vs Q E hr h,hm,b,hg⟩
theorem nP{X:Cx}{sp:Sp}{t:TA}{e:Expr}{es:List Expr}{p pos:Pos}(G:HasI X.prog X.w X.K X.mg X.base k x C ps sp)(hr:Room (k+1) X.A)(hg:Gl X x)(ha:PA X (e ::es) t)(hdb:autoParam ((x==("__debug__":Str))=false) L2.iu._auto_1)(he:autoParam (V1 (e ::es) X.env=(false,eval e X.env) ::V1 es X.env) L2.cY._auto_1)(hpl:autoParam ((backTo pos<|V1 es X.env).any (·.1)=false) L2.cY._auto_1):PE X (.Call (.Name x p) (e ::es) [] pos) (sV C sp [] E0 t):=by obtain⟨f,fd,F,hm,hb,hg'⟩:=G;exact pe_make hm F hr hg hg' hb .nil An ha hdb he hpl
end
end
section
open PySem PySem.Spec PyProof.Rows
section
variable {X:Cx}{K:Z3}
theorem cP(h:X.K=K)(he:PE X e ta)(hb:attributeBase e f X.env (eval e X.env)=eval e X.env):PE X (.Attribute e f pos) (lT K ta f):=by subst h;exact pe_fld he hb
theorem nQ(h:X.K=K):jg X (binaryOp .Add) (qa K):=by subst h;exact op_catT
end
variable [Kn:Kon]
section
variable {Γ:List Slot}{ta:TE}
theorem i4.cast{α:Type}{r:Rp α}{o o':Option (List α)}(h:i4 Γ ta o r)(e:o'=o):i4 Γ ta o' r:=e▸h
theorem em_some{α:Type}{r:Rp α}{o:Option (α×bz)}(h:EM Γ g p ta o r):EM Γ g p ta (o.bind λx=>some (some x.1,x.2)) (cF r):=λC F σ H Q x S e k=>by obtain⟨y,e1,e⟩:=a9 e;cases e;exact h C F σ H Q y S e1 λv F' H' S' r1=>k v F' H' S' r1
end
section
variable {Γ:List Slot}{α β S T:Type}{r:Rp α}{s:Rp β}{K:Z3}{u tl:TS}{fin:Fc->T->Ends->Prop}
theorem B6{Γf:Addr->S->List Slot}{Γt:Addr->S->α->List Slot}{body:S->α->Option S}{f:S->Option T}(st:S)(j:Nat){φ:ZF}(hj:Γ[j]?=some (.ol r φ xs))(hs:∀p,SubL (Γ.set j<|.ol r (λb=>b=p) xs) (Γf p st))(hjf:∀p s,(Γf p s)[j]?=some (.ol r (λb=>b=p) xs))(hg:∀p s,GV (Γf p s) m g r (Γt p s))(hb:∀p s x,BV (Γt p s x) tl (body s x) (yM<|Γf p))(h:∀p s,BV (Γf p s) u (f s) fin):BV Γ (bW (sP (mT K<|bF j) g tl) u) ((Pu.bB body xs st).bind f) fin :=
 (AQ (rf:=rfE) (e:=Empty.elim) st j hj hs hjf hg (λp s x=>bv_nx<|hb p s x) AO (λa x=>x.elim) h).cast (AN xs st)
end
end
open PySem PySem.Spec PyProof.Rows
section
variable [Kn:Kon]{Γ:List Slot}{ta:TE}{K:Z3}
theorem jj(h:EV Γ ta o (ju a8 (cF a8)<|cF a8)):i4 Γ (uP (qR K)<|aY ta cH) (o.bind λx=>some [some x.1,x.2.1,x.2.2]) (cF a8):=λC F σ H Q xs S e k=>by obtain⟨x,e1,e⟩:=a9 e;cases e;refine h C F σ H _ x S e1 λv F' H' x1 hv=>?_;obtain⟨p,a,b,c,e2,h1,h2,h3,h4⟩:=hv;exact⟨p,[a,b,c],by rw[e2],.inr<|jp.of<|x1.sub _ _ h1,λl hl=>k l [a,b,c] F' H' x1 hl<|.cons h2<|.cons h3<|.cons h4 .nil⟩
end
section
section
variable {α:Type}
theorem vN:∀{us:List α},us.length=1->∃a,us=[a]:=λh=>List.length_eq_one_iff.mp h
theorem vO{us:List α}(h:us.length=2):∃a1 a2,us=[a1,a2]:=by
 cases us with
 |nil=>cases h
 |cons a us =>obtain⟨a2,rfl⟩:=vN<|Nat.succ.inj h;exact⟨a,a2,rfl⟩
theorem B7{us:List α}(h:us.length=3):∃a1 a2 a3,us=[a1,a2,a3]:=by
 cases us with
 |nil=>cases h
 |cons a us =>obtain⟨a2,a3,rfl⟩:=vO<|Nat.succ.inj h;exact⟨a,a2,a3,rfl⟩
theorem B8{us:List α}(h:us.length=4):∃a1 a2 a3 a4,us=[a1,a2,a3,a4]:=by
 cases us with
 |nil=>cases h
 |cons a us =>obtain⟨a2,a3,a4,rfl⟩:=B7<|Nat.succ.inj h;exact⟨a,a2,a3,a4,rfl⟩
theorem len5{us:List α}(h:us.length=5):∃a1 a2 a3 a4 a5,us=[a1,a2,a3,a4,a5]:=by
 cases us with
 |nil=>cases h
 |cons a us =>obtain⟨a2,a3,a4,a5,rfl⟩:=B8<|Nat.succ.inj h;exact⟨a,a2,a3,a4,a5,rfl⟩
end
variable [Kn:Kon]
end
section
variable [Kn:Kon]
def rPin{α:Type}(v0:V)(r:Rp α):Rp α:=⟨λH v a=>v=v0/\r.rel H v a,λe h=>⟨h.1,r.mono e h.2⟩⟩
def rTT:Rp Unit:=⟨λx x x=>True,λx h=>h⟩
end
end L2
namespace Tab
open PySem
structure Rise(t:T1):Prop where
 dum:t.dummies=#[]
 up:t.place.toList.Pairwise (·<·)
theorem pj(f m:Nat)(l:Bool):Rise (.fresh f m l):=⟨rfl,.nil⟩
theorem dj(t:T1)(n:Nat):Rise (t.standIn n):=⟨rfl,by
 show (Array.range n).toList.Pairwise (·<·);rw[Array.toList_range];exact List.pairwise_lt_range⟩
theorem jZ{xs:Zn}(up:xs.toList.Pairwise (·<·))(hk:k<xs.size)(h:i<k):xs[i]'(hU h hk)<xs[k]:=by have:=J9.mp up i k (hU h hk) hk h;simpa using this
theorem tQ(up:xs.toList.Pairwise (·<·)):∀(f lo hi:Nat),lo<=hi->hi<=xs.size->hi-lo<=f ->
  (∀i (h:i<xs.size),i<lo->xs[i]<j)->(∀i (h:i<xs.size),hi<=i->j<=xs[i]) ->
  R3.go xs j f lo hi<=xs.size/\(∀i (h:i<xs.size),i<R3.go xs j f lo hi->xs[i]<j)/\∀i (h:i<xs.size),R3.go xs j f lo hi<=i->j<=xs[i]:=by
 intro f;induction f with
 |zero =>intro lo hi h1 h2 h3 a b;have e:hi=lo:=T9 (Nat.sub_eq_zero_iff_le.mp<|Nat.le_zero.mp h3) h1;subst e;exact⟨h2,a,b⟩
 |succ f ih =>
  intro lo hi h1 h2 h3 a b;unfold R3.go;by_cases hl:lo<hi
  ·rw[if_pos hl];have hm1:lo<=(lo+hi)/2:=by omega
   have hm2:(lo+hi)/2<hi:=by omega
   have hm:(lo+hi)/2<xs.size:=cf hm2 h2;have eg:xs.getD ((lo+hi)/2) j=xs[(lo+hi)/2]:=by simp[Array.getD,hm]
   simp only;rw[eg];by_cases hc:xs[(lo+hi)/2]<j
   ·rw[if_pos hc];refine ih _ _ hm2 h2 (by omega) (λi h hi'=>?_) b;rcases Nat.lt_or_eq_of_le (M1 hi') with q|q
    ·exact hU (jZ up hm q) hc
    ·subst q;exact hc
   ·rw[if_neg hc];refine ih _ _ hm1 (ci hm) (by omega) a λi h hi'=>?_;rcases Nat.lt_or_eq_of_le hi' with q|q
    ·exact aR (D5 hc)<|ci<|jZ up h q
    ·subst q;exact D5 hc
  ·rw[if_neg hl];have e:hi=lo:=T9 (D5 hl) h1;subst e;exact⟨h2,a,b⟩
theorem gn(up:xs.toList.Pairwise (·<·)):
  R3 xs j<=xs.size/\(∀i (h:i<xs.size),i<R3 xs j->xs[i]<j)/\∀i (h:i<xs.size),R3 xs j<=i->j<=xs[i] :=
 tQ up _ _ _ (U5 _) (bi _) (bi _) (λx x h=>absurd h<|K3 _) λi h h'=>absurd h'<|Nat.not_le.mpr h
theorem pA(up:xs.toList.Pairwise (·<·))(hk:k<xs.size):R3 xs (xs[k]+1)=k+1:=by
 obtain⟨h1,h2,h3⟩:=gn (j:=xs[k]+1) up;rcases Nat.lt_trichotomy (R3 xs<|xs[k]+1) (k+1) with q|q|q
 ·exact absurd (h3 k hk<|M1 q)<|Nat.not_succ_le_self _
 ·exact q
 ·have hk':k+1<xs.size:=cf q h1;exact absurd (h2 (k+1) hk' q)<|T5.mpr<|jZ up hk'<|U2 k
theorem pB(up:xs.toList.Pairwise (·<·)):R3 xs 0=0:=by
 obtain⟨h1,h2,_⟩:=gn (j:=0) up;rcases Nat.eq_zero_or_pos (R3 xs 0) with q|q
 ·exact q
 ·exact absurd (h2 0 (cf q h1) q)<|K3 _
theorem lE(h:xs=#[])(j:Nat):T1.has xs j=false:=by subst h;rfl
theorem rN(r:Rise t)(h:t.slot j=.empty):∀x∈t.place.toList,x≠j:=by
 rintro x hx rfl;unfold T1.slot at h;obtain⟨k,hk,e⟩:=P7 hx;have hk':k<t.place.size:=by simpa using hk
 have ek:t.place[k]=x:=by simpa using e
 obtain⟨h1,h2,h3⟩:=gn (j:=x) r.up;have eb:R3 t.place x=k:=by
  rcases Nat.lt_trichotomy (R3 t.place x) k with q|q|q
  ·have:=h3 _ (hU q hk')<|bi _;exact absurd (eU this<|jZ r.up hk' q) (by rw[ek];exact O7 _)
  ·exact q
  ·exact absurd (h2 k hk' q) (by rw[ek];exact O7 _)
 simp only[eb]at h;rw[if_pos (by rw[U3 hk',ek];exact beq_self_eq_true _)]at h;cases h
theorem pC(r:Rise t)(j:Nat):t.slot j≠.dummy:=by
 intro h;unfold T1.slot at h;simp only at h;split at h
 ·cases h
 ·rw[lE r.dum,if_neg Y3]at h;cases h
set_option tactic.hygienic true in
theorem tR(r:Rise t){f:Nat->Int}:∀(n:Nat) (p:T1.Probe) {j:Nat} {d:Option Nat},p.dummy=none->T1.probe.go t f h n p=some (.empty j d)->t.slot j=.empty/\d=none:=by
 intro n;induction n with
 |zero=>intro p j d _ e;cases e
 |succ n ih =>
  intro p j d hp e;unfold T1.probe.go at e;have adv:(t.advance p).dummy=none:=by
   unfold T1.advance;split
   ·exact hp
   ·exact hp
  split at e
  ·rename_i q;cases e;exact⟨q,hp⟩
  ·rename_i q;exact absurd q<|pC r _
  ·split at e
   ·cases e
   ·exact ih _ adv e
set_option tactic.hygienic true in
theorem vP(r:Rise t)(e:t.freeSlot h=some x):t.slot x.1=.empty/\x.2=false:=by
 unfold T1.freeSlot T1.probe at e;split at e
 ·rename_i j d q;obtain⟨q1,rfl⟩:=tR r _ _ rfl q;cases e;exact⟨q1,rfl⟩
 ·cases e
theorem tS(r:Rise t)(h:t.slot j=.empty):Rise (t.put j).1:=by
 refine⟨?_,?_⟩
 ·unfold T1.put;simp only;rw[lE r.dum,if_neg Y3];exact r.dum
 ·unfold T1.put;simp only;rw[T1.toList_insertAt,W8];obtain⟨h1,h2,h3⟩:=gn (j:=j) r.up;have ne:=rN r h;refine⟨r.up.sublist<|List.take_sublist _ _,List.pairwise_cons.mpr ⟨λx hx=>?_,r.up.sublist<|List.drop_sublist _ _⟩,λx hx y hy=>?_⟩
  ·obtain⟨i,hi,e⟩:=P7 hx;rw[List.getElem_drop]at e;have hs:R3 t.place j+i<t.place.size:=by rw[K4,V7]at hi;omega
   have:=h3 _ hs<|U9 _ _;have e':t.place[R3 t.place j+i]=x:=by simpa using e
   rw[e']at this;exact Nat.lt_of_le_of_ne this λz=>ne x (G9 hx) z.symm
  ·have hxj:x<j:=by
    obtain⟨i,hi,e⟩:=P7 hx;rw[List.getElem_take]at e;rw[R5,V7]at hi;have hs:i<t.place.size:=cf hi<|Nat.min_le_right _ _;have:=h2 i hs<|cf hi<|Nat.min_le_left _ _;have e':t.place[i]=x:=by simpa using e
    rw[e']at this;exact this
   rcases Y4.mp hy with q|q
   ·subst q;exact hxj
   ·obtain⟨i,hi,e⟩:=P7 q;rw[List.getElem_drop]at e;have hs:R3 t.place j+i<t.place.size:=by rw[K4,V7]at hi;omega
    have:=h3 _ hs<|U9 _ _;have e':t.place[R3 t.place j+i]=y:=by simpa using e
    rw[e']at this;exact cf hxj this
set_option tactic.hygienic true in
theorem nR(r:Rise t)(es:Zy)(h:Int)(x:Value):Rise (layNew t es h x).2.1/\(layNew t es h x).2.1.led=t.led:=by
 unfold layNew;split
 ·rename_i sl wd q;obtain⟨q1,_⟩:=vP r q;simp only;unfold T1.orStandIn;split
  ·exact⟨tS r q1,rfl⟩
  ·exact⟨dj _ _,rfl⟩
 ·exact⟨dj _ _,rfl⟩
theorem rO(e:T1.laid m f v l p hs=some x):Rise x.1/\x.1.led=l:=by
 unfold T1.laid at e;cases q:T1.layClean m hs with
 |none=>rw[q]at e;cases e
 |some o =>
  rw[q]at e;cases e;refine⟨⟨rfl,?_⟩,rfl⟩;simp only;rw[L9];refine List.Pairwise.filterMap _ (λa a' h b hb b' hb'=>?_)<|List.pairwise_lt_range (n:=m+1);cases q1:o.getD a none with
  |none=>rw[q1]at hb;cases hb
  |some u=>cases q2:o.getD a' none with
   |none=>rw[q2]at hb';cases hb'
   |some u' =>rw[q1]at hb;rw[q2]at hb';cases hb;cases hb';exact h
set_option tactic.hygienic true in
theorem pE(es:Zy)(n:Nat):Rise (relayAll t es n).2.1/\(relayAll t es n).2.1.led=t.led:=by
 unfold relayAll;split
 ·rename_i t' o q;simp only;split
  ·obtain⟨q1,q2⟩:=rO q;exact⟨q1,q2⟩
  ·exact⟨dj _ _,rfl⟩
 ·exact⟨dj _ _,rfl⟩
theorem jk{α:Type}{l:List α}(h:i<l.length):(l[i] ::l.eraseIdx i).Perm l:=by rw[List.eraseIdx_eq_take_drop_succ];exact List.perm_middle.symm.trans (by rw[<- G0 h,W4])
theorem vQ{α:Type}(next:ZL):∀(n k:Nat) (left:List α) (out:Array α),left.length=n->(pickOrder.go next n k left out).toList.Perm (out.toList++left):=by
 intro n;induction n with
 |zero =>intro k left out h;rw[List.length_eq_zero_iff.mp h,W9];exact .rfl
 |succ n ih =>
  intro k left out h;unfold pickOrder.go;have hl:next k%left.length<left.length:=Nat.mod_lt _ (by rw[h];exact Nat.succ_pos n)
  rw[Z9 hl];simp only;refine(ih (k+1) _ _ (by rw[List.length_eraseIdx_of_lt hl,h];rfl)).trans ?_;rw[Array.toList_push,X3,List.singleton_append];exact(jk hl).append_left _
theorem rQ{α:Type}(next:ZL)(xs:Array α):(pickOrder next xs).toList.Perm xs.toList:=by
 have:=vQ next xs.size 0 xs.toList #[] (by simp)
 unfold pickOrder;simpa using this
def cQ:Value->Int
 |.int n _=>n
 |_=>0
structure SetW(prog:U7)(w:World)(o:Obj)(es:Zy)(ep:Nat)(t:T1)(ks:ZW):Prop where
 ex:o.ExactSet
 dat:o.data=.set es ep t
 el:ElemsOf (intKind prog w) es.toList
 pm:(es.toList.map λe=>cQ e.2).Perm ks
 sz:es.size<scanBound
 fit:t.fits es.size=true
 led:t.led=!w.params.followText "set-order"
 ris:Rise t
def eG(prog:U7)(w:World)(h:Heap)(a:Addr)(ks:ZW):Prop:=∃o es ep t,h.get? a=some o/\SetW prog w o es ep t ks
section
variable {prog:U7}{w:World}{A:Around}{E:ZX}{s:Shared}{a:Addr}{ks:ZW}{v:Int}{u:Tok}
theorem eG.stay(x:eG prog w h a ks)(k:∀o,h.get? a=some o->h'.get? a=some o):eG prog w h' a ks :=
 oq42 x λo es ep t h1 h2=>⟨o,es,ep,t,k o h1,h2⟩
theorem ql(h:ElemsOf (intKind prog w) es)(he:e∈es):∃n x,e.2=.int n x:=by obtain⟨⟨k,h1,_⟩,_⟩:=h e he;obtain⟨x,e1⟩:=Value.isInt_shape h1;exact⟨k,x,e1⟩
theorem yV(h:ElemsOf (intKind prog w) es)(k:Int):(∃e∈es,(intKind prog w).is k e.2=true)↔k∈es.map λe=>cQ e.2:=by rw[W6];refine exists_congr λe=>and_congr_right λhe=>?_;obtain⟨n,x,q⟩:=ql h he;rw[q];show (Value.isInt k (.int n x)=true)↔n=k;simp[Value.isInt]
theorem qm{h:Heap}(ho:h.get? a=some o)(x:SetW prog w o es ep t ks)(el:ElemsOf (intKind prog w) es'.toList)(pm:(es'.toList.map λe=>cQ e.2).Perm ls)(sz:es'.size<scanBound)(fit:t'.fits es'.size=true)(led:t'.led=t.led)(r:Rise t'):
  (h.update a<|Obj.putSet es' t').get? a=some {o with data:=.set es' (ep+1) t'}/\SetW prog w {o with data:=.set es' (ep+1) t'} es' (ep+1) t' ls:=by
 have e:=putSet_of es' t' x.dat;have g:=Q7 (Obj.putSet es' t') ho (by rw[e];rfl);rw[e]at g;exact⟨g,x.ex,rfl,el,pm,sz,fit,led.trans x.led,r⟩
theorem nT{b:Bool}{tag:String}{Q:Unit->Shared->Prop}(h:Q () s):wpAny (model prog w) A (match b with|true=>rule tag|false=>pure ()) Q E s:=by
 cases b
 ·exact Z6 h
 ·exact E4 h
theorem vR{Q:Zi}(x:eG prog w s.heap a ks)(room:ks.length+1<scanBound)(q:∀h' b,T3 a s.heap h'->eG prog w h' a (Pu.je ks v)->Q b {s with heap:=h'}):wpAny (model prog w) A (setAddHashed a (.int v u)<|hashInt v) Q E s:=by
 obtain⟨o,es,ep,t,ho,W⟩:=x;have hv:(intKind prog w).is v (.int v u)=true:=by show Value.isInt v (.int v u)=true;simp[Value.isInt]
 have any:(ks.any (·==v)=true)↔∃e∈es.toList,(intKind prog w).is v e.2=true:=by rw[yV W.el,W.pm.mem_iff];simp
 unfold setAddHashed setAddHashedIn;refine S7<|Z0<|wpAny_setState_of ho W.dat W.fit ?_;dsimp only;rw[byScan_of (knd:=intKind prog w) rfl W.sz W.el,if_pos rfl];unfold setAddByScan;refine Z0<|Z0<|E4<|Z0<|wpAny_setScan_of (knd:=intKind prog w) hv ho W.dat W.fit W.el ?_;cases hr:es.toList.findIdx? (λe=>(intKind prog w).is v e.2) with
 |some j =>
  obtain⟨hj,hp,_⟩:=List.findIdx?_eq_some_iff_getElem.mp hr;have e:Pu.je ks v=ks:=by unfold Pu.je;rw[if_pos (any.mpr ⟨_,List.getElem_mem hj,hp⟩)]
  have:=q s.heap false (T3.refl a s.heap) (by rw[e];exact⟨o,es,ep,t,ho,W⟩);exact Z6<|Z6 this
 |none =>
  have e:Pu.je ks v=ks++[v]:=by unfold Pu.je;rw[if_neg];rw[any];rintro⟨z,hz,hp⟩;have:=List.findIdx?_eq_none_iff.mp hr z hz;rw[hp]at this;cases this
  rw[e]at q;dsimp only;have p1:=layNew_perm t es (hashInt v)<|.int v u;have f1:=layNew_fits t es (hashInt v)<|.int v u;obtain⟨r1,l1⟩:=nR W.ris es (hashInt v)<|.int v u;generalize layNew t es (hashInt v) (.int v u)=L at p1 f1 r1 l1 ⊢;obtain⟨es1,t1,wd,gv⟩:=L;dsimp only at p1 f1 r1 l1 ⊢;rw[Array.toList_push]at p1;have el1:ElemsOf (intKind prog w) es1.toList:=(W.el.push (k:=v) hv rfl).perm p1;have yc:(es1.toList.map λe=>cQ e.2).Perm (ks++[v]):=by have:=p1.map λe=>cQ e.2;rw[U4]at this;exact this.trans<|W.pm.append_right _
  have vN:es1.size=ks.length+1:=by
   have:=yc.length_eq
   rwa [Z8,Y9,V7]at this
  have sz1:es1.size<scanBound:=by rw[vN];exact room
  refine Z0<|nT ?_;split
  rotate_left
  all_goals
   try rw[hashByValue_scannable 8 rfl]
   refine Z0<|Z6 ?_;simp only[plainKind,if_true];obtain⟨g1,W1⟩:=qm ho W el1 yc sz1 f1 l1 r1;refine Z0<|wpAny_storeSet_of ho W.dat ?_<|fits_of_scanBound sz1;have k1:=T7 s.heap a<|Obj.putSet es1 t1;split
   ·have p2:=relayAll_perm t1 es1<|T1.grown es1.size;have f2:=relayAll_fits t1 es1<|T1.grown es1.size;obtain⟨r2,l2⟩:=pE (t:=t1) es1<|T1.grown es1.size;generalize relayAll t1 es1 (T1.grown es1.size)=L at p2 f2 r2 l2 ⊢;obtain⟨es2,t2,gw⟩:=L;dsimp only at p2 f2 r2 l2 ⊢;have vO:es2.size=es1.size:=by rw[<- V7,p2.length_eq,V7]
    have sz2:es2.size<scanBound:=by rw[vO];exact sz1
    obtain⟨g2,W2⟩:=qm g1 W1 (el1.perm p2) ((p2.map λe=>cQ e.2).trans yc) sz2 f2 l2 r2;refine Z0<|nT ?_;refine Z0<|wpAny_storeSet_of g1 rfl ?_<|fits_of_scanBound sz2;exact Z6<|Z6<|q _ _ (k1.trans<|T7 _ a _) ⟨_,_,_,_,g2,W2⟩
   ·exact Z6<|Z6<|q _ _ k1 ⟨_,_,_,_,g1,W1⟩
end
theorem bA:Slot "set_iterator" "__next__" "set_iterator.__next__":=.of (owner:="set_iterator") (n:="__next__") (by rw[typeLookup_type,builtinLookup_eq_fast];kernel_rfl) (by decide +kernel) (by decide +kernel) (by decide +kernel) (by first|exact .inl (by decide +kernel)|exact .inr (by decide +kernel)) (by rw[isSubtype_type];kernel_rfl)
theorem nU:Slot "set_iterator" "__iter__" "set_iterator.__iter__":=.of (owner:="set_iterator") (n:="__iter__") (by rw[typeLookup_type,builtinLookup_eq_fast];kernel_rfl) (by decide +kernel) (by decide +kernel) (by decide +kernel) (by first|exact .inl (by decide +kernel)|exact .inr (by decide +kernel)) (by rw[isSubtype_type];kernel_rfl)
theorem ia:entryFor table "set_iterator.__next__"=some R7.«set_iterator.__next__»:=entryFor_of_tree (by kernel_rfl)
theorem vS:entryFor table "set_iterator.__iter__"=some R7.«dict_keyiterator.__iter__»:=entryFor_alias (id':="dict_keyiterator.__iter__") (by kernel_rfl) rfl (by decide +kernel) (by kernel_rfl)
theorem vT:entryFor table "set.__iter__"=some R7.«frozenset.__iter__»:=entryFor_alias (id':="frozenset.__iter__") (by kernel_rfl) rfl (by decide +kernel) (by kernel_rfl)
theorem tT:Manifest.owners.lookup (String.ofList ['r','o','t','a','r','e','t','i','_','t','e','s'].reverse)=some Manifest.sig_set_iterator:=by kernel_rfl
theorem ib(a:Value):argsOk "set_iterator.__next__" ⟨[a],[]⟩:=by unfold argsOk;rw[signature?_of (id:="set_iterator.__next__") (n:=['_','_','t','x','e','n','_','_']) (o:=['r','o','t','a','r','e','t','i','_','t','e','s']) (by kernel_rfl) tT];kernel_rfl
theorem vU(a:Value):argsOk "set_iterator.__iter__" ⟨[a],[]⟩:=by unfold argsOk;rw[signature?_of (id:="set_iterator.__iter__") (n:=['_','_','r','e','t','i','_','_']) (o:=['r','o','t','a','r','e','t','i','_','t','e','s']) (by kernel_rfl) tT];kernel_rfl
def dO(h:Heap)(I a:Addr)(f0:Value)(i n ep:Nat):Prop:=∃o,h.get? I=some o/\o.cls=.type "set_iterator"/\o.data=.fields #[f0,.int i 0,.ref a,.int n 0,.int ep 0]
section
variable {prog:U7}{w:World}{A:Around}{E:ZX}{s:Shared}{a I:Addr}{ks:ZW}{o:Obj}{es:Zy}{ep i n:Nat}{t:T1}{f0:Value}
theorem dO.ty(x:dO s.heap I a f0 i n ep):s.TypeIs (.ref I) "set_iterator":=cM x λo h1 h2 b=>⟨o,h1,h2⟩
theorem dO.stay(x:dO h I a f0 i n ep)(k:∀o,h.get? I=some o->h'.get? I=some o):dO h' I a f0 i n ep:=aU x λo h1 h2=>⟨o,k o h1,h2⟩
theorem nV{Q:ZX}(x:dO s.heap I a f0 i n ep)(q:Q (.ref I) s):wpAny (model prog w) A (pyIter<|.ref I) Q E s:=by refine wpAny_pyIter_slot x.ty nU<|Q5 nU x.ty vS ?_<|vU _;show wpAny _ _ (ret<|.ref I) _ _ s;exact Z6 ⟨_,rfl,_,_,x.ty,bA.lookup,q⟩
def fu(prog:U7)(w:World)(a:Addr)(slot i ep:Nat)(r:Option (Value×Nat))(s:Shared):Prop :=
 ∀(A:Around) (E:ZX) (Q:Option (Value×Nat)->Shared->Prop),Q r s->wpAny (model prog w) A (setNext a slot i ep) Q E s
theorem vV{slot nx:Nat}{Q:Zo}(y:dO s.heap I a (.int slot 0) i n ep)(ho:s.heap.get? a=some o)(W:SetW prog w o es ep t ks)(hn:es.size=n)(nxt:fu prog w a slot i ep (some (x,nx)) s)(q:∀h',dO h' I a (.int nx 0) (i+1) n ep->T3 I s.heap h'->Q (some x) {s with heap:=h'}):wpAny (model prog w) A (pyNext<|.ref I) Q E s:=by obtain⟨ob,h1,h2,h3⟩:=id y;unfold pyNext;refine Z0<|wpAny_attempt<|K7 (name:=G7 "__next__") y.ty bA<|Q5 bA y.ty ia ?_<|ib _;show wpAny _ _ (fieldsOf (.ref I) >>= _) _ _ s;refine Z0<|wpAny_fieldsOf h1 h3 ?_;show wpAny _ _ (setEntries a >>= _) _ _ s;refine Z0<|wpAny_setEntries_of ho W.dat W.fit ?_;rw[if_neg (by rw[hn];simp)];show wpAny _ _ (setNext a slot i ep >>= _) _ _ s;refine Z0<|nxt _ _ _ ?_;dsimp only;refine Z0<|wpAny_setField h1 h3 (by simp) ?_;have u1:=Q7 (Obj.mapFields (·.setIfInBounds 0 (rawInt nx))) h1<|Obj.isFreed_of_fields<|N1 h3 _;have d1:=N1 h3 (·.setIfInBounds 0 (rawInt nx));refine Z0<|wpAny_setField u1 d1 (by simp)<|Z6 ⟨x,rfl,Z6<|q _ ?_<|(T7 ..).trans (T7 ..)⟩;exact⟨_,Q7 _ u1<|Obj.isFreed_of_fields<|N1 d1 _,(Obj.cls_mapFields ..).trans ((Obj.cls_mapFields ..).trans h2),by rw[N1 d1];simp[rawInt]⟩
theorem nX{Q:Zo}{C:Sem PySem.Fin}(hh:A.handled=none)(hC:C=newExc (.type "StopIteration") [] >>= λe=>raiseNew e)(q:∀h',(∀b o,s.heap.get? b=some o->h'.get? b=some o)->Q none {s with heap:=h'}):
  wpAny (model prog w) A.in1 C (λx x=>False) (λe s'=>wpAny (model prog w) A (isInstance e (.type "StopIteration") >>= λb=>if b=true then pure none else throw e) Q E s') s:=by
 subst hC;refine Z0 ?_;unfold newExc newTuple;refine Z0<|O9 ?_ (by size_fits);refine Z0 (m:=firstArgMember _ _)<|wpAny_of_eq (a:=.none) (by first|rfl|(unfold firstArgMember;rfl))<|O9 ?_ (by size_fits);unfold raiseNew;refine Z0<|wpAny_handled ?_;rw[show A.in1.handled=none from hh];refine Z0<|Z6<|wpAny_throw<|Z0 ?_;refine wpAny_isInstance (b:=true) (T:="StopIteration") ⟨_,X0 _ rfl,rfl⟩ isSubtype_stop ?_;exact Z6 (q _ λb o e=>Z4 _<|Z4 _ e)
theorem yW{slot:Nat}{Q:Zo}(hh:A.handled=none)(y:dO s.heap I a (.int slot 0) i n ep)(ho:s.heap.get? a=some o)(W:SetW prog w o es ep t ks)(hn:es.size=n)(nxt:fu prog w a slot i ep none s)(q:∀h',(∀b o,b≠I->s.heap.get? b=some o->h'.get? b=some o)->Q none {s with heap:=h'}):wpAny (model prog w) A (pyNext<|.ref I) Q E s:=by obtain⟨ob,h1,h2,h3⟩:=id y;unfold pyNext;refine Z0<|wpAny_attempt<|K7 (name:=G7 "__next__") y.ty bA<|Q5 bA y.ty ia ?_<|ib _;show wpAny _ _ (fieldsOf (.ref I) >>= _) _ _ s;refine Z0<|wpAny_fieldsOf h1 h3 ?_;show wpAny _ _ (setEntries a >>= _) _ _ s;refine Z0<|wpAny_setEntries_of ho W.dat W.fit ?_;rw[if_neg (by rw[hn];simp)];show wpAny _ _ (setNext a slot i ep >>= _) _ _ s;refine Z0<|nxt _ _ _ ?_;dsimp only;refine Z0<|wpAny_setField h1 h3 (by simp) ?_;refine R8 (nX (s:={s with heap:=s.heap.update I (Obj.mapFields (·.setIfInBounds 2 .none))}) (Q:=Q) (E:=E) hh rfl λh' k=>q h' λb o' hb e=>k b o'<|(T7 s.heap I _).extBut b o' hb e) (λx x z=>z.elim) λe s' z=>?_;exact z
theorem vW{p:Nat}{Q:Zo}(y:dO s.heap I a (.ref T) i n ep)(ho:s.heap.get? a=some o)(W:SetW prog w o es ep t ks)(hn:es.size=n)(hT:s.heap.get? T=some oT)(dT:oT.data=.seq ps m)(hp:ps[i]?=some (.int p tk))(hx:es[p]?=some x)(q:∀h',dO h' I a (.ref T) (i+1) n ep->T3 I s.heap h'->Q (some x.2) {s with heap:=h'}):wpAny (model prog w) A (pyNext<|.ref I) Q E s:=by obtain⟨ob,h1,h2,h3⟩:=id y;unfold pyNext;refine Z0<|wpAny_attempt<|K7 (name:=G7 "__next__") y.ty bA<|Q5 bA y.ty ia ?_<|ib _;show wpAny _ _ (fieldsOf (.ref I) >>= _) _ _ s;refine Z0<|wpAny_fieldsOf h1 h3 ?_;show wpAny _ _ (setEntries a >>= _) _ _ s;refine Z0<|wpAny_setEntries_of ho W.dat W.fit ?_;rw[if_neg (by rw[hn];simp)];show wpAny _ _ (seqItems? (.ref T) >>= _) _ _ s;refine Z0<|D8 hT dT ?_;simp only[W0,hp];refine Z0 ?_;unfold setNextDrawn;refine Z0<|wpAny_setState_of ho W.dat W.fit ?_;dsimp only;rw[if_neg (by simp),hx];refine Z6 ?_;refine Z0<|wpAny_setField h1 h3 (by simp)<|Z6 ⟨_,rfl,Z6<|q _ ?_<|T7 ..⟩;exact⟨_,Q7 _ h1<|Obj.isFreed_of_fields<|N1 h3 _,(Obj.cls_mapFields ..).trans h2,by rw[N1 h3];simp[rawInt]⟩
theorem yX{Q:Zo}(hh:A.handled=none)(y:dO s.heap I a (.ref T) i n ep)(ho:s.heap.get? a=some o)(W:SetW prog w o es ep t ks)(hn:es.size=n)(hT:s.heap.get? T=some oT)(dT:oT.data=.seq ps m)(hp:ps[i]?=none)(q:∀h',(∀b o,b≠I->s.heap.get? b=some o->h'.get? b=some o)->Q none {s with heap:=h'}):wpAny (model prog w) A (pyNext<|.ref I) Q E s:=by obtain⟨ob,h1,h2,h3⟩:=id y;unfold pyNext;refine Z0<|wpAny_attempt<|K7 (name:=G7 "__next__") y.ty bA<|Q5 bA y.ty ia ?_<|ib _;show wpAny _ _ (fieldsOf (.ref I) >>= _) _ _ s;refine Z0<|wpAny_fieldsOf h1 h3 ?_;show wpAny _ _ (setEntries a >>= _) _ _ s;refine Z0<|wpAny_setEntries_of ho W.dat W.fit ?_;rw[if_neg (by rw[hn];simp)];show wpAny _ _ (seqItems? (.ref T) >>= _) _ _ s;refine Z0<|D8 hT dT ?_;simp only[W0,hp];refine Z0<|wpAny_setField h1 h3 (by simp) ?_;have u1:=Q7 (Obj.mapFields (·.setIfInBounds 0 (rawInt 0))) h1<|Obj.isFreed_of_fields<|N1 h3 _;have d1:=N1 h3 (·.setIfInBounds 0 (rawInt 0));refine Z0<|wpAny_setField u1 d1 (by simp) ?_;refine R8 (nX (s:={s with heap:=(s.heap.update I<|Obj.mapFields (·.setIfInBounds 0 (rawInt 0))).update I (Obj.mapFields (·.setIfInBounds 2 .none))}) (Q:=Q) (E:=E) hh rfl λh' k=>q h' λb o' hb e=>k b o'<|((T7 s.heap I _).trans (T7 _ I _)).extBut b o' hb e) (λx x z=>z.elim) λe s' z=>?_;exact z
end
section
variable {prog:U7}{w:World}{A:Around}{E:ZX}{s:Shared}{a I:Addr}{ks:ZW}{o:Obj}{es:Zy}{ep i n:Nat}{t:T1}
theorem ic{Q:Zi}(q:Q (w.params.followText "set-order") s):wpAny (model prog w) A setsByText Q E s:=by unfold setsByText;exact Z0<|wpAny_askSetting<|Z6 q
theorem vX(ho:s.heap.get? a=some o)(W:SetW prog w o es ep t ks)(hb:w.params.followText "set-order"=true):
  fu prog w a slot i ep (((pickOrder (w.params.setOrder a ep) es)[i]?).map λe=>(e.2,slot)) s:=by
 intro A E Q q;unfold setNext;refine Z0<|wpAny_setState_of ho W.dat W.fit ?_;dsimp only;refine Z0<|ic ?_;rw[hb,if_pos rfl,if_neg (by simp)];refine Z0 ?_;unfold setWalk;refine Z0<|wpAny_setState_of ho W.dat W.fit ?_;dsimp only;refine Z0<|ic ?_;rw[hb,if_pos rfl];exact Z0<|wpAny_askSetting<|Z6<|Z6 q
theorem vY(ho:s.heap.get? a=some o)(W:SetW prog w o es ep t ks)(hb:w.params.followText "set-order"=false)(hp:(!t.plain&&decide (es.size > 1))=false)(hk:R3 t.place slot=i)(hi:i<=es.size):
  fu prog w a slot i ep ((es[i]?).map λe=>(e.2,t.place.getD i 0+1)) s:=by
 intro A E Q q;have hl:t.led=true:=by rw[W.led,hb];rfl
 have sz:t.place.size=es.size:=by have:=W.fit;unfold T1.fits at this;simp only[K5,beq_iff_eq]at this;exact this.1
 unfold setNext;refine Z0<|wpAny_setState_of ho W.dat W.fit ?_;dsimp only;refine Z0<|ic ?_;rw[hb,if_neg Y3];show wpAny _ _ (if (!t.plain&&decide (es.size > 1))=true then _ else _) _ _ _;rw[hp,if_neg Y3];show wpAny _ _ ((if (!t.led&&!es.isEmpty)=true then _ else _) >>= _) _ _ _;rw[hl,if_neg (by simp)];refine Z0<|Z6 ?_;refine Z6 ?_;rw[hk];rcases Nat.lt_or_eq_of_le hi with z|z
 ·have z':i<t.place.size:=by rw[sz];exact z
  have g:t.place.getD i 0=t.place[i]:=by simp[Array.getD,z']
  rw[g]at q;rw[U3 z]at q ⊢;rw[U3 z'];exact q
 ·subst z;rw[D3 (bi _)]at q ⊢;exact q
def vZ(ord:Zy)(i:Nat)(v:Value):Prop:=∃e,ord[i]?=some e/\v=e.2
theorem tU(hh:A.handled=none)(hne:a≠I)(W:SetW prog w o es ep t ks)(sl:ZL)(ord:Zy)(hs:ord.size=es.size)(nx:∀i (s:Shared),i<=es.size->s.heap.get? a=some o->fu prog w a (sl i) i ep (ord[i]?.map λe=>(e.2,sl (i+1))) s):
  WalksS prog w A I [I,a] [I] (λx y=>y=x) es.size (vZ ord) (λi s=>dO s.heap I a (.int (sl i) 0) i es.size ep/\s.heap.get? a=some o) where
 sub:=λb hb=>by rw[Y5.mp hb];exact U0
 grefl:=λh=>rfl
 gtrans:=λh h h h1 h2=>h2.trans h1
 frame:=λi s h' h st h k=>⟨st.1.stay λo e=>k I U0 o e,k a (W7 _ U0) _ st.2⟩
 item:=λi s Q E hi st hQ=>by
  have hi':i<ord.size:=by rw[hs];exact hi
  have:=nx i s (ci hi) st.2;rw[U3 hi',Option.map_some]at this;refine vV st.1 st.2 W rfl this λh' y k=>hQ _ _ ⟨_,U3 hi',rfl⟩ ⟨y,k.extBut _ _ hne st.2⟩ ⟨λb o' hb e=>k.extBut b o' (λz=>hb (by rw[z];exact Y5.mpr rfl)) e,rfl,rfl,rfl,bi _⟩
 done:=λs Q E st hQ=>by have:=nx es.size s (bi _) st.2;rw[D3 (bM hs),Option.map_none]at this;exact yW hh st.1 st.2 W rfl this λh' k=>hQ _ ⟨λb o' hb e=>k b o' (λz=>hb (by rw[z];exact Y5.mpr rfl)) e,rfl,rfl,rfl,bi _⟩
 self:=λi s Q E st q=>nV st.1 q
theorem w4{ps:ZU}(hh:A.handled=none)(hne:a≠I)(hnT:T≠I)(W:SetW prog w o es ep t ks)(ord:Zy)(hs:ord.size=es.size)(dT:oT.data=.seq (ps.map λ(p:Nat)=>rawInt p).toArray m)(hps:ps.length=es.size)(hord:∀i (h:i<ps.length),es[ps[i]]?=ord[i]?):
  WalksS prog w A I [I,a,T] [I] (λx y=>y=x) es.size (vZ ord) (λi s=>dO s.heap I a (.ref T) i es.size ep/\s.heap.get? a=some o/\s.heap.get? T=some oT) where
 sub:=λb hb=>by rw[Y5.mp hb];exact U0
 grefl:=λc=>rfl
 gtrans:=λc c c h1 h2=>h2.trans h1
 frame:=λi s h' c st c k=>⟨st.1.stay λo e=>k I U0 o e,k a (W7 _ U0) _ st.2.1,k T (W7 _<|W7 _ U0) _ st.2.2⟩
 item:=λi s Q E hi st hQ=>by
  have hi':i<ord.size:=by rw[hs];exact hi
  have hi2:i<ps.length:=by rw[hps];exact hi
  have e1:(ps.map λ(p:Nat)=>rawInt p).toArray[i]?=some (.int (ps[i]:Nat) 0):=by rw[Q8,X2,Z9 hi2];rfl
  refine vW (x:=ord[i]) st.1 st.2.1 W rfl st.2.2 dT e1 ((hord i hi2).trans (U3 hi')) λh' y k=>hQ _ _ ⟨_,U3 hi',rfl⟩ ⟨y,k.extBut _ _ hne st.2.1,k.extBut _ _ hnT st.2.2⟩ ⟨λb o' hb e=>k.extBut b o' (λz=>hb (by rw[z];exact Y5.mpr rfl)) e,rfl,rfl,rfl,bi _⟩
 done:=λs Q E st hQ=>by refine yX hh st.1 st.2.1 W rfl st.2.2 dT ?_ λh' k=>hQ _ ⟨λb o' hb e=>k b o' (λz=>hb (by rw[z];exact Y5.mpr rfl)) e,rfl,rfl,rfl,bi _⟩;rw[Q8,List.getElem?_eq_none (by rw[Z8,hps];exact bi _)]
 self:=λi s Q E st q=>nV st.1 q
theorem tV{Q:Nat->Shared->Prop}(hn:n≠0)(q:∀i d',i<n->Q i {s with drawn:=d'}):wpAny (model prog w) A (choose src n) Q E s:=by intro Γ p _;unfold choose;rw[Sem.wp_choose];exact⟨hn,q _ _<|Nat.mod_lt _<|Nat.pos_of_ne_zero hn⟩
theorem tW{α:Type}:∀(n:Nat) (xs:List α) (s:Shared) {Q:List α->Shared->Prop},xs.length=n->(∀ys d',ys.Perm xs->Q ys {s with drawn:=d'})->wpAny (model prog w) A (drawOrder n xs) Q E s:=by
 intro n;induction n with
 |zero =>intro xs s Q h q;unfold drawOrder;exact Z6<|q [] s.drawn (by rw[List.length_eq_zero_iff.mp h])
 |succ n ih =>
  intro xs s Q h q;cases xs with
  |nil=>cases h
  |cons x xs =>unfold drawOrder;refine Z0 (tV (by rw[h];exact Nat.succ_ne_zero n) λi d' hi=>?_);rw[Z9 hi];dsimp only;refine Z0 (ih _ _ (by rw[List.length_eraseIdx_of_lt hi,h];rfl) λys d2 hy=>?_);exact Z6<|q _ _<|(hy.cons _).trans (jk hi)
theorem tX{α:Type}[Inhabited α]{es:Array α}:∀{ps:ZU},(∀p∈ps,p<es.size)->ps.filterMap (λp=>es[p]?)=ps.map λp=>es.getD p default
 |[],_=>rfl
 |p ::ps,h=>by have hp:p<es.size:=h p U0;rw[List.filterMap_cons_some (U3 hp),W5,tX λq hq=>h q<|W7 _ hq];simp[Array.getD,hp]
theorem tY{Q:ZX}(hh:A.handled=none)(x:eG prog w s.heap a ks)(q:∀h' d' I fp ord St,(∀b o,s.heap.get? b=some o->h'.get? b=some o)->s.heap.objs.size<=I->(∀b∈fp,b=a\/s.heap.objs.size<=b)->WalksS prog w A I fp [I] (λx y=>y=x) ks.length (vZ ord) St->St 0 {s with heap:=h',drawn:=d'} ->
   ord.size=ks.length->(∀e∈ord.toList,∃n u,e.2=.int n u)->(ord.toList.map λe=>cQ e.2).Perm ks->Q (.ref I) {s with heap:=h',drawn:=d'}):
  wpAny (model prog w) A (pyIter<|.ref a) Q E s:=by
 obtain⟨o,es,ep,t,ho,W⟩:=x;have hT:s.TypeIs (.ref a) "set":=⟨o,ho,W.ex.1⟩;have hal:a<s.heap.objs.size:=Y8 ho;have len:es.size=ks.length:=by
  have:=W.pm.length_eq
  rwa [Z8,V7]at this
 refine wpAny_pyIter_slot hT F.slot_set_iter<|Q5 F.slot_set_iter hT vT ?_<|F.args_set_iter_1 _;unfold R7.«frozenset.__iter__»;refine Z0 (m:=R7.Frozenset.slot0 _ _)<|Z6 ?_;refine Z0 (m:=R7.Frozenset.sizeOf _)<|Z0<|wpAny_setEntries_of ho W.dat W.fit<|Z6 ?_;refine Z0 (m:=setDrawn _) ?_;unfold setDrawn;refine Z0<|wpAny_setState_of ho W.dat W.fit ?_;dsimp only;refine Z0<|ic<|Z6 ?_;have zIs:∀{l:Zy},l.toList.Perm es.toList->∀e∈l.toList,∃n u,e.2=.int n u:=λp e he=>ql W.el<|p.mem_iff.mp he;have pks:∀{l:Zy},l.toList.Perm es.toList->(l.toList.map λe=>cQ e.2).Perm ks:=λp=>(p.map _).trans W.pm;have lks:∀{l:Zy},l.toList.Perm es.toList->l.size=es.size:=λp=>by rw[<- V7,p.length_eq,V7]
 have plainly:∀(sl:ZL) (ord:Zy),sl 0=0->ord.toList.Perm es.toList ->
   (∀i (s:Shared),i<=es.size->s.heap.get? a=some o->fu prog w a (sl i) i ep (ord[i]?.map λe=>(e.2,sl (i+1))) s) ->
   Q (.ref s.heap.objs.size) {s with heap:=s.heap.push {cls:=.type "set_iterator",data:=.fields #[.int 0 0,.int 0 0,.ref a,.int es.size 0,.int ep 0]}}:=by
  intro sl ord h0 hp nx;have hne:a≠s.heap.objs.size:=dB hal;have wk:=tU (A:=A) (I:=s.heap.objs.size) hh hne W sl ord (lks hp) nx;refine q _ s.drawn _ _ ord _ (λb o' e=>Z4 _ e) (bi _) (λb hb=>?_) (len▸wk) ⟨?_,Z4 _ ho⟩ ((lks hp).trans len) (zIs hp)<|pks hp
  ·rcases Y4.mp hb with z|z
   ·exact .inr<|bM z.symm
   ·exact .inl<|Y5.mp z
  ·exact⟨_,X0 _ rfl,rfl,by rw[h0,<- len];rfl⟩
 cases hb:w.params.followText "set-order" with
 |true =>rw[if_neg (by simp)];refine Z0<|Z6 ?_;refine Z0<|wpAny_setEpoch_of ho W.dat W.fit ?_;refine Z0<|O9<|Z6 ⟨_,rfl,"set_iterator",_,⟨_,X0 _ rfl,rfl⟩,bA.lookup,?_⟩;exact plainly (λc=>0) _ rfl (rQ (w.params.setOrder a ep) es) λi s' c h'=>vX h' W hb
 |false =>
  show wpAny _ _ (if (!false&&(!t.plain&&decide (es.size > 1)))=true then _ else _) _ _ _;by_cases hp:(!t.plain&&decide (es.size > 1))=true
  ·rw[if_pos (show (!false&&(!t.plain&&decide (es.size > 1)))=true by rw[hp];rfl)];refine Z0 (tW _ _ _ U1 λps d' hps=>?_);have lps:ps.length=es.size:=hps.length_eq.trans U1;refine Z0<|wpAny_newTuple ?_ (by rw[Z8,lps];exact fits_of_scanBound W.sz);refine Z0<|wpAny_setEpoch_of (Z4 _ ho) W.dat W.fit ?_;refine Z0<|O9<|Z6 ⟨_,rfl,"set_iterator",_,⟨_,X0 _ rfl,rfl⟩,bA.lookup,?_⟩;have lt:∀p∈ps,p<es.size:=λp h=>M5.mp<|hps.mem_iff.mp h;have pm:(ps.filterMap λp=>es[p]?).Perm es.toList:=by
    have:=hps.filterMap λp=>es[p]?
    rwa [filterMap_getElem?_range]at this
   have em:ps.filterMap (λp=>es[p]?)=ps.map λp=>es.getD p default:=tX lt;have hne:a≠(s.heap.push {cls:=.type "tuple",data:=.seq (ps.map λ(p:Nat)=>rawInt p).toArray}).objs.size:=by rw[K9];exact dB<|R4 hal
   have hnT:s.heap.objs.size≠(s.heap.push {cls:=.type "tuple",data:=.seq (ps.map λ(p:Nat)=>rawInt p).toArray}).objs.size:=by rw[K9];exact dB<|U2 _
   have hp':(ps.filterMap λp=>es[p]?).toArray.toList.Perm es.toList:=pm;have wk:=w4 (A:=A) (prog:=prog) (w:=w) (T:=s.heap.objs.size) (oT:={cls:=.type "tuple",data:=.seq (ps.map λ(p:Nat)=>rawInt p).toArray}) (m:=0) hh hne hnT W (ps.filterMap λp=>es[p]?).toArray (lks hp') rfl lps λi h=>by have:=lt _<|List.getElem_mem h;rw[em];simp[Array.getD,this,h]
   refine q _ d' _ _ _ _ (λb o' e=>Z4 _<|Z4 _ e) (by rw[K9];exact Q2 _) (λb hb=>?_) (len▸wk) ⟨?_,Z4 _<|Z4 _ ho,Z4 _<|X0 _ rfl⟩ ((lks hp').trans len) (zIs hp')<|pks hp'
   ·rcases Y4.mp hb with z|z
    ·rw[z,K9];exact .inr<|Q2 _
    ·rcases Y4.mp z with z|z
     ·exact .inl z
     ·exact .inr<|bM (Y5.mp z).symm
   ·exact⟨_,X0 _ rfl,rfl,by rw[<- len];rfl⟩
  ·rw[if_neg (show ¬ ((!false&&(!t.plain&&decide (es.size > 1)))=true) by rw[Bool.not_false,Bool.true_and];exact hp)];refine Z0<|Z6 ?_;refine Z0<|wpAny_setEpoch_of ho W.dat W.fit ?_;refine Z0<|O9<|Z6 ⟨_,rfl,"set_iterator",_,⟨_,X0 _ rfl,rfl⟩,bA.lookup,?_⟩;refine plainly (λi=>if i=0 then 0 else t.place.getD (i-1) 0+1) es rfl .rfl λi s' hi h'=>?_;have sz:t.place.size=es.size:=by have:=W.fit;unfold T1.fits at this;simp only[K5,beq_iff_eq]at this;exact this.1
   have hk:R3 t.place (if i=0 then 0 else t.place.getD (i-1) 0+1)=i:=by
    cases i with
    |zero=>exact pB W.ris.up
    |succ i =>
     have hi':i<t.place.size:=by rw[sz];exact hi
     rw[if_neg (Nat.succ_ne_zero i),Nat.add_sub_cancel,show t.place.getD i 0=t.place[i] by simp[Array.getD,hi']];exact pA W.ris.up hi'
   exact vY h' W hb (Bool.not_eq_true _▸hp) hk hi
end
section
variable {prog:U7}{w:World}{A:Around}{E:ZX}{s:Shared}{a I:Addr}{ks:ZW}
theorem tZ{Q:Zi}(hT:s.TypeIs (.ref a) "set")(q:Q false s):wpAny (model prog w) A (R7.List.listLengthHint<|.ref a) Q E s:=by
 unfold R7.List.listLengthHint;refine Z0<|wpAny_specialOf hT F.slot_set_len.lookup ?_;generalize hid:("set.__len__":String)=id0
 wp_delta
 rw[show splitId id0=some ("set","__len__") from by subst hid;decide +kernel];subst hid;refine Z0<|wpAny_isInstance (b:=true) (T:="set") hT (by rw[isSubtype_type];kernel_rfl) ?_;refine wpAny_ite_split (λz=>absurd z (by decide)) λx=>wpAny_ite_split (λx=>Z0<|wpAny_typeOf hT<|Z6 q) λz=>absurd (by decide +kernel) z
theorem pG{R:Result->Shared->Prop}{L:Addr}{res:Value}{c:Nat}(hh:A.handled=none)(x:eG prog w s.heap a ks)(hLa:L≠a)(hL:s.heap.get? L=some {cls:=.type "list",data:=.seq #[] c})(q:∀h' d' tk acc c',(∀b o,b≠L->s.heap.get? b=some o->h'.get? b=some o)->h'.get? L=some {cls:=.type "list",dict:=none,data:=.seq acc c',slots:=#[]}->(∀v∈acc.toList,∃n u,v=.int n u)->(acc.toList.map cQ).Perm ks->R (.ok<|.ret res) {s with heap:=h',drawn:=d',toks:=tk}):
  wpAny (model prog w) A.in1 (R7.List.listExtendWith (.ref L) (.ref a) res) (λfin s'=>match fin with|.done f=>R (.ok f) s'|.again c'=>c'.quiet=true/\codeAny (model prog w) A c' R s') (λe s'=>R (.error e) s') s:=by
 have hT:s.TypeIs (.ref a) "set":=oq42 x λo h h h h1 h2=>⟨o,h1,h2.ex.1⟩;have hn:ks.length<=W3:=by obtain⟨_,es,_,_,_,W⟩:=x;rw[<- W.pm.length_eq,Z8,V7];exact fits_of_scanBound W.sz
 have same:R7.List.listSameRef (.ref L) (.ref a)=false:=by simp[R7.List.listSameRef,hLa]
 unfold R7.List.listExtendWith;refine Z0<|wpAny_typeOf hT ?_;rw[same];simp only[show (Value.type "set"==Value.type "list")=false by decide,show (Value.type "set"==Value.type "tuple")=false by decide,Bool.or_false,Q6,if_false];refine Z0 (tY (A:=A.in1) hh x λh' d' I fp ord St k hI hfp wk st ho hi hp=>?_);have hT':Shared.TypeIs {s with heap:=h',drawn:=d'} (.ref a) "set":=aU hT λo h1 h2=>⟨o,k a o h1,h2⟩;have hLI:L∉fp:=λz=>by
  rcases hfp L z with z|z
  ·exact hLa z
  ·exact absurd (Y8 hL)<|T5.mpr z
 refine Z0<|S7<|tZ hT' ?_;refine wpAny_ite_split (λh=>?_) λz=>absurd (by decide +kernel) z;have u0:=k _ _ hL;have u1:=Q7 (X6 (·.push .none)) u0 rfl;have u2:=Q7 (X6 (·.pop)) u1 rfl;have oth:∀b o,b≠L->h'.get? b=some o->((h'.update L<|X6 (·.push .none)).update L (X6 (·.pop))).get? b=some o :=
  λb o hb e=>((T7 h' L _).trans (T7 _ L _)).extBut b o hb e
 have st':=wk.frame 0 _ ((h'.update L<|X6 (·.push .none)).update L (X6 (·.pop))) s.toks st (bi _) λb hb o e=>oth b o (λz=>hLI<|z▸hb) e;refine Z0<|E4<|Z0 ?_;refine Z0 (m:=updateSeq L _)<|E7 u0 rfl<|E7 (hz:=by seq_fits) u1 rfl ?_;refine Z6 ⟨K2 F.plain_extend_loop _,codeAny_extend_loopS wk hn L hLI res ks.length 0 _ #[] _ rfl (U5 _) st' u2 (ItemsOf.nil _) λs' acc c' hm hL' hacc=>?_⟩;have el:acc.toList=ord.toList.map (·.2):=by
  apply List.ext_getElem?;intro i;rw[X2,Array.getElem?_toList,Array.getElem?_toList];by_cases hi:i<acc.size
  ·obtain⟨e,h1,h2⟩:=hacc.2 i _<|U3 hi;rw[U3 hi,h1,h2];rfl
  ·rw[D3 (D5 hi),D3 (by rw[ho,<- hacc.1];exact D5 hi)];rfl
 obtain⟨hp',g',d2,tk',os'⟩:=s';have eg:g'=s.gens:=hm.gens;have ed:d2=d':=hm.drawn;have eo:os'=s.os:=hm.os;subst eg ed eo;refine q hp' _ tk' acc c' (λb o hb e=>hm.heap b o (λz=>?_)<|oth b o hb<|k b o e) hL' (λv hv=>?_) ?_
 ·rcases Y4.mp z with z|z
  ·exact hb z
  ·exact absurd (Y8 e) (by rw[Y5.mp z];exact T5.mpr hI)
 ·rw[el]at hv;obtain⟨e,h1,rfl⟩:=W6.mp hv;exact hi e h1
 ·rw[el,T4];exact hp
theorem nY{R:Zh}(hh:A.handled=none)(x:eG prog w s.heap a ks)(q:∀h' d' tk vs,(∀b o,s.heap.get? b=some o->h'.get? b=some o)->(∀v∈vs,∃n u,v=.int n u)->(vs.map cQ).Perm ks->R vs {s with heap:=h',drawn:=d',toks:=tk}):wpAny (model prog w) A (collect<|.ref a) R E s:=by
 have hal:a<s.heap.objs.size:=oq42 x λh h h h h1 h=>Y8 h1;unfold collect;refine Z0<|wpAny_runValue<|N6 F.entry_proto_collect ?_;rw[Q4 F.plain_proto_collect _];show wpAny _ A.in1 (newList [] >>= λl=>again<|.builtin "list.__iadd__" ⟨[l,.ref a],[]⟩) _ _ s;refine Z0<|O9<|Z6 ⟨K2 F.plain_list_iadd _,N6 F.entry_list_iadd ?_⟩;rw[Q4 F.plain_list_iadd _];show wpAny _ A.in1 (R7.List.listExtendWith (.ref s.heap.objs.size) (.ref a)<|.ref s.heap.objs.size) _ _ _;have go:∀(r:Result) (s':Shared),(∃h' d' tk acc c',r=.ok (.ret<|.ref s.heap.objs.size)/\s'={s with heap:=h',drawn:=d',toks:=tk}/\(∀b o,s.heap.get? b=some o->h'.get? b=some o)/\h'.get? s.heap.objs.size=some {cls:=.type "list",dict:=none,data:=.seq acc c',slots:=#[]}/\(∀v∈acc.toList,∃n u,v=.int n u)/\(acc.toList.map cQ).Perm ks) ->
   ∃v,r=.ok (.ret<|.ref v)/\∃acc c',s'.heap.get? v=some {cls:=.type "list",dict:=none,data:=.seq acc c',slots:=#[]}/\R acc.toList s':=by
  rintro r s' ⟨h',d',tk,acc,c',rfl,rfl,k1,k2,k3,k4⟩;exact⟨_,rfl,acc,c',k2,q h' d' tk _ k1 k3 k4⟩
 have key:=pG (A:=A) (s:={s with heap:=s.heap.push {cls:=.type "list",data:=.seq ([]:List Value).toArray}}) (L:=s.heap.objs.size) (res:=.ref s.heap.objs.size) (c:=0)
  (R:=λr s'=>∃h' d' tk acc c',r=.ok (.ret<|.ref s.heap.objs.size)/\s'={s with heap:=h',drawn:=d',toks:=tk}/\(∀b o,s.heap.get? b=some o->h'.get? b=some o)/\h'.get? s.heap.objs.size=some {cls:=.type "list",dict:=none,data:=.seq acc c',slots:=#[]}/\(∀v∈acc.toList,∃n u,v=.int n u)/\(acc.toList.map cQ).Perm ks)
  hh (x.stay λo e=>Z4 _ e) (M9 hal) (X0 _ rfl) λh' d' tk acc c' k1 k2 k3 k4=>⟨h',d',tk,acc,c',rfl,rfl,λb o e=>k1 b o (dB<|Y8 e)<|Z4 _ e,k2,k3,k4⟩
 refine R8 key (λfin s' z=>?_) λe s' z=>?_
 ·cases fin with
  |done f =>obtain⟨h',d',tk,acc,c',e,z⟩:=z;cases e;obtain⟨v,e1,ac,cc,e2,e3⟩:=go _ _ ⟨h',d',tk,acc,c',rfl,z⟩;cases e1;exact Z0<|wpAny_load e2<|Z6 e3
  |again c1 =>refine⟨z.1,codeAny_mono z.2 λr s2 y=>?_⟩;obtain⟨v,rfl,ac,cc,e2,e3⟩:=go _ _ y;exact Z0<|wpAny_load e2<|Z6 e3
 ·obtain⟨_,_,_,_,_,e',_⟩:=z;cases e'
end
open PyProof.Rows
abbrev eC(w:World):Obj:={cls:=.type "set",dict:=none,data:=.set #[] 0 (.fresh 0 0<|!w.params.followText "set-order")}
section
variable {prog:U7}{w:World}{A:Around}{E:ZX}{s:Shared}{a l:Addr}
theorem w6(e:h.get? a=some (eC w)):eG prog w h a [] :=
 ⟨_,#[],0,_,e,⟨rfl,rfl,rfl⟩,rfl,λx h=>by simp at h,.nil,by decide,rfl,rfl,pj _ _ _⟩
theorem u4{q:ZX}(h:q (.ref s.heap.objs.size) {s with heap:=s.heap.push (eC w)}):
  codeAny (model prog w) A (.call (.builtin "set.__new__") ⟨[.type "set",x],[]⟩) (wants q E) s:=by
 refine codeAny_of_tree ?_;show wpAny _ A.in1 (checkBuiltinCall "set.__new__" ⟨[.type "set",x],[]⟩ >>= λa=>again<|.builtin "set.__new__" ⟨[.type "set",x],[]⟩) _ _ s;refine Z0<|wpAny_of_eq (F.newCall_set_1 x)<|Z6 ⟨K2 F.plain_set_new _,N6 F.entry_set_new ?_⟩;rw[Q4 F.plain_set_new _];unfold R7.«set.__new__» R7.Frozenset.newClass;have sub1:=sub_set_self;obtain⟨h0,g0,d0,t0,o0⟩:=s;dsimp only
 wp_walk
 refine wpAny_askSetting<|Z6 ?_;unfold newObj;exact Z0<|wpAny_alloc<|Z6<|Z6 h
theorem u5{R:Result->Shared->Prop}{G:Array GenState->Array GenState->Prop}{P:Nat->Value->Prop}{St:Nat->Shared->Prop}(wk:WalksS prog w A.in1 I fp wr G n P St)(hf:a∉fp)(val:Nat->Int)(hval:∀i v,P i v->∃t,v=.int (val i) t)(hb:n+1<scanBound):
  ∀(k i:Nat) (s:Shared),n-i=k->i<=n->St i s->eG prog w s.heap a (firstMet val i)->(∀s',Moved (a ::wr) G s s'->eG prog w s'.heap a (firstMet val n)->R (.ok<|.ret .none) s') ->
   codeAny (model prog w) A (.builtin "set.update.loop" ⟨[.ref a,.ref I],[]⟩) R s:=by
 have hw:a∉wr:=λz=>hf<|wk.sub _ z;have sb:∀b∈wr,b∈a ::wr:=λb z=>W7 _ z;intro k;induction k with
 |zero =>intro i s hk hi st x q;have e:i=n:=T9 hi<|Nat.sub_eq_zero_iff_le.mp hk;subst e;refine N6 F.entry_set_update_loop ?_;rw[Q4 F.plain_set_update_loop _];show wpAny _ A.in1 (pyNext (.ref I) >>= _) _ _ s;refine Z0 (wk.done s _ _ st λs' hm=>?_);exact Z6<|q s' (hm.mono sb) (x.stay λo e=>hm.heap a o hw e)
 |succ k ih =>
  intro i s hk hi st x q;have hlt:i<n:=Nat.lt_of_sub_eq_succ hk;refine N6 F.entry_set_update_loop ?_;rw[Q4 F.plain_set_update_loop _];show wpAny _ A.in1 (pyNext (.ref I) >>= _) _ _ s;refine Z0 (wk.item i s _ _ hlt st λv s' hP st' hm=>?_);obtain⟨t,rfl⟩:=hval i v hP;show wpAny _ A.in1 (holding [M4 (val i) t] (setAdd a<|.int (val i) t) >>= _) _ _ s';refine Z0<|S7 ?_;unfold setAdd;have hv:(intKind prog w).is (val i) (.int (val i) t)=true:=by show Value.isInt (val i) (.int (val i) t)=true;simp[Value.isInt]
  refine S7<|Z0<|(intKind prog w).pyHash hv ?_;have x':eG prog w s'.heap a (firstMet val i):=x.stay λo e=>hm.heap a o hw e;have room:(firstMet val i).length+1<scanBound:=eU (K6<|aR (firstMet_length_le val i) hi) hb;refine vR (s:={s' with toks:=s'.toks+1}) x' room λh' b sm x2=>?_;have x3:eG prog w h' a (firstMet val<|i+1):=by rw[firstMet_succ];exact x2
  refine Z6 ⟨K2 F.plain_set_update_loop _,ih (i+1) _ (by omega) hlt (wk.frame _ s' _ _ st' (Q2 _) λb hb o e=>?_) x3 λs2 hm2 y=>q s2 (Moved.trans wk.gtrans ((hm.mono sb).then_heap (Q2 _) λb o hb e=>?_) hm2) y⟩
  ·rw[sm.2 b fun z:b=a=>hf<|z▸hb];exact e
  ·rw[sm.2 b fun z:b=a=>hb<|z▸U0];exact e
theorem u6{Q:ZX}(hh:A.handled=none)(hl:s.heap.IsList l items)(hi:F9 items.toList ns)(hb:items.size+1<scanBound)(q:∀(h':Heap) (tk:Nat),eG prog w h' s.heap.objs.size (firstMet (λi=>ns.getD i 0) items.size)->(∀b o,b<s.heap.objs.size->s.heap.get? b=some o->h'.get? b=some o)->Q (.ref s.heap.objs.size) {s with heap:=h',toks:=tk}):
  wpAny (model prog w) A (call (.type "set") [.ref l]) Q E s:=by
 obtain⟨c,tl,f1⟩:=F.called_set.mro;have f2:=F.called_set.made;have f3:=F.called_set.sub;have f4:=F.called_set.notType;have f5:=F.called_set.canCreate;have f6:=F.typeCall_set_1<|.ref l;refine wpAny_call<|codeAny_of_tree ?_;show wpAny _ _ (callAny (.type "set") _) _ _ _;refine Z6 ⟨Code.quiet_builtin _ (by decide +kernel),N6 F.entry_type_call ?_⟩;rw[Around.under_plain (weight_type_call_type "set" [.ref l] []) rfl]
 repeat (any_goals (first|assumption|wp_step))
 refine codeAny_mono (u4 (x:=.ref l) (E:=E) (q:=λob s1=>ob=.ref s.heap.objs.size/\s1={s with heap:=s.heap.push (eC w)}) ⟨rfl,rfl⟩) λr s1 hr=>?_;cases r with
 |error e=>exact hr
 |ok fl =>
  cases fl with
  |ret ob =>
   obtain⟨rfl,rfl⟩:=hr;have g0:(s.heap.push<|eC w).get? s.heap.objs.size=some (eC w):=X0 _ rfl;have hT:Shared.TypeIs {s with heap:=s.heap.push (eC w)} (.ref s.heap.objs.size) "set":=⟨_,g0,rfl⟩;have f7:=F.called_set.init.lookup;have f8:=F.called_set.init.bind (.ref s.heap.objs.size)
   repeat (any_goals (first|assumption|wp_step))
   refine codeAny_mono (codeAny_call_builtin (R:=wants (λr s2=>r=.none/\∃h' tk,s2={s with heap:=h',toks:=tk}/\eG prog w h' s.heap.objs.size (firstMet (λi=>ns.getD i 0) items.size)/\(∀b o,b<s.heap.objs.size->s.heap.get? b=some o->h'.get? b=some o)) E) F.called_set.init.plain F.entry_set_init<|check_set_init_1 hT ?_) λr2 s2 hr2=>?_
   ·obtain⟨ol,hol,hcl,nl,hdl⟩:=hl;obtain⟨ocl,odi,oda,osl⟩:=ol;simp only at hcl hdl;subst hcl hdl;have hol':(s.heap.push<|eC w).get? l=some {cls:=.type "list",dict:=odi,data:=.seq items nl,slots:=osl}:=Z4 _ hol;have l1:(s.heap.push<|eC w).IsList l items:=⟨_,hol',rfl,nl,rfl⟩;have f9:=F.sub_list_set;have fa:=F.sub_list_frozenset;have fb:(Value.type "list"==Value.type "dict")=false:=by decide
    have hlS:l<s.heap.objs.size:=Y8 hol;unfold R7.«set.__init__» noKeywords R7.Frozenset.updateFrom;generalize hPI:pyIter=PI
    wp_walk
    subst hPI;refine wpAny_pyIter_list l1<|Z0<|wpAny_runValue ?_;have hne:l≠(s.heap.push<|eC w).objs.size:=by rw[K9];exact dB<|R4 hlS
    have hSf:s.heap.objs.size∉[(s.heap.push<|eC w).objs.size,l]:=by rw[K9,Y4,Y5];exact λz=>z.elim (λz=>dB (U2 _) z) λz=>M9 hlS z
    have val:∀(i:Nat) (v:Value),items[i]?=some v->∃t,v=.int ((λi=>ns.getD i 0) i) t:=λi v z=>F9.int_at hi i v (by rw[Array.getElem?_toList];exact z);refine u5 ((Walks.list (by rw[A.in1_handled];simp[hh]) _ l hne items).toS) hSf (λi=>ns.getD i 0) val hb (items.size-0) 0 _ rfl (U5 _) ⟨⟨_,X0 _ rfl,rfl,rfl⟩,l1.push _⟩ (w6<|Z4 _ g0) ?_;intro s' hm y;obtain⟨h',g',d',tk',os'⟩:=s';have eg:g'=s.gens:=hm.gens;have ed:d'=s.drawn:=hm.drawn;have eo:os'=s.os:=hm.os;subst eg ed eo;refine Z6<|Z6 ⟨rfl,h',tk',rfl,y,λb o hb e=>hm.heap b o (λz=>?_)<|Z4 _<|Z4 _ e⟩;rcases Y4.mp z with z|z
    ·exact dB hb z
    ·rw[Y5,K9]at z;exact dB (R4 hb) z
   ·cases r2 with
    |error e=>exact hr2
    |ok f2 =>
     cases f2 with
     |ret r =>
      obtain⟨rfl,h',tk,rfl,y1,y2⟩:=hr2
      repeat (any_goals (first|assumption|wp_step))
      exact q _ _ y1 y2
     |_=>exact hr2.elim
  |_=>exact hr.elim
end
end Tab
namespace L2
section
open PySem PySem.Spec PyProof.Rows
variable [Kn:Kon]
section
variable {X:Cx}{K:Z3}
abbrev u7(P:U7)(w:World)(q:Addr)(ks:ZW):HO:=.ext λh=>Tab.eG P w h q ks
def rSetW(P:U7)(w:World)(K:Z3):List V->Hp->VK->Prop:=λxs H Q=>∃p ns,xs=[.ref p]/\cD K H p (ns.map V.int)/\ns.length+1<4096/\∀q,H q=none->Q (.ref q) (aD H q<|u7 P w q<|Pu.ded ns)
theorem yY(h:X.K=K)(hc:X.calm=true):dR X (.type "set") (rSetW X.prog X.w K):=by
 subst h;intro ZY s σ H xs us Q I r hh;obtain⟨p,ns,rfl,hS,hb,q⟩:=hh;obtain⟨u,rfl,ru⟩:=vals1 r;cases ru;obtain⟨its,rv,ht,hz⟩:=I.list hS;have hl:=rv.length;rw[Z8]at hl;have ed:firstMet (λi=>ns.getD i 0) its.toArray.size=Pu.ded ns:=by
  unfold firstMet;have:(X5 its.toArray.size).map (λi=>ns.getD i 0)=ns:=by
   apply List.ext_getElem
   ·simp[hl]
   ·intro i h1 h2;simp[h2]
  rw[this];rfl
 refine Tab.u6 (I.ok.hd hc) ht.isList (by simpa using rC rv) (by simp;have:scanBound=4096:=rfl;omega) λh' tk hset hk=>?_;rw[ed]at hset;exact⟨.ref _,_,I.laid (t':=tk) (o:=u7 X.prog X.w s.heap.objs.size<|Pu.ded ns) (λb ob q=>hk b ob (Y8 q) q) (bi _) ⟨hset,(oq42 hset λo x x x e x=>⟨o,e⟩),λx x z e=>z.stay e⟩,rfl,q _<|I.hok.fresh<|bi _⟩
theorem yZ{σ:St}(I:Inv X ZY σ H s)(d:Drawn):Inv X ZY σ H {s with drawn:=d}:=⟨I.ok,I.os,I.bare,I.base,I.loc,I.cell,I.free,I.freeC,I.pin,I.hok,I.len⟩
def B9(P:U7)(w:World):List V->Hp->VK->Prop:=λxs H Q=>∃p ks,xs=[.ref p]/\H p=some (u7 P w p ks)/\ks.length<64/\∀q,H q=none->Q (.ref q) (aD H q<|.lst<|(Pu.vF ks).map V.int)
theorem ints_of_all:∀{vs:ZT},(∀v∈vs,∃n u,v=M4 n u)->F9 vs (vs.map Tab.cQ)
 |[],_=>.nil
 |v ::vs,h=>by obtain⟨n,u,rfl⟩:=h v U0;exact .cons n u (ints_of_all λw hw=>h w<|W7 _ hw)
theorem w8(hc:X.calm=true):dR X (.builtin "sorted") (B9 X.prog X.w):=by
 intro ZY s σ H xs us Q I r hh;obtain⟨p,ks,rfl,hD,ZQ,q⟩:=hh;obtain⟨u,rfl,ru⟩:=vals1 r;cases ru;have hset:Tab.eG X.prog X.w s.heap p ks:=(show bn X.prog X.w H s.heap p (u7 X.prog X.w p ks) from I.hok p _ hD).1;refine Calls.call_function_entry kind_sorted plain_sorted entry_sorted (args_sorted1 _) ?_;unfold R7.«sorted»;refine Z0 (m:=checkCount "sorted" 1 1 _)<|Z6 ?_;refine Z0 (Tab.nY (A:=X.A.in1) (I.ok.hd hc) hset λh' d' tk vs hk hi hp=>?_);have I1:=yZ (I.kept (t':=tk) hk) d';have hlen:vs.length=ks.length:=by have:=hp.length_eq;rwa [Z8]at this
 have hI:=ints_of_all hi;refine Z0<|wpAny_newList ?_ (by rw[hlen,V6];exact ci<|hU ZQ (by decide));have hoL:(h'.push<|seqObj "list" vs.toArray 0).get? h'.objs.size=some (seqObj "list" vs.toArray 0):=X0 _ rfl;refine Z0 (S7 (Q5 slot_list_sort ⟨_,hoL,rfl⟩ entry_list_sort
  (list_sort_tree (s:={s with heap:=h'.push<|seqObj "list" vs.toArray 0,drawn:=d',toks:=tk}) hoL hI (by exact eU (bM hlen) ZQ) λout ns' a1 a2 a3=>⟨_,rfl,?_⟩) (args_list_sort _)))
 have e:ns'=Pu.vF ks:=PySem.W.ksm_same (a2.trans<|hp.trans (Pu.j7 ks).symm) a3<|Pu.tK ks;subst e;obtain⟨e1,hat1⟩:=sortedHeap_at (out:=out) hoL;refine Z6 ⟨_,rfl,.ref _,_,I1.laid (t':=tk) (o:=.lst<|(Pu.vF ks).map V.int) (λb ob q=>?_) (bi _) ⟨?_,out.toList,e1,kQ a1,hat1⟩,rfl,q _<|I1.hok.fresh<|bi _⟩
 ·have hlt:b<h'.objs.size:=Y8 q;rw[sortedHeap_old (dB hlt) (by rw[size_push'];exact R4 hlt)];exact Z4 _ q
 ·rw[Z8,(Pu.j7 ks).length_eq,V6];exact ci<|hU ZQ (by decide)
end
def rZW(P:U7)(w:World):Rp (List Int):=⟨λH v xs=>∃p,v=.ref p/\H p=some (u7 P w p xs),λe ⟨p,h1,h2⟩=>⟨p,h1,e _ _ h2⟩⟩
section
variable {Γ:List Slot}{ta:TE}{K:Z3}{P:U7}{w:World}{o:Option (List Int)}
set_option tactic.hygienic true in
theorem ev_setW(h:EV Γ ta o (rL a8)):EV Γ (uP (rSetW P w K)<|aY ta cH) (o.bind λxs=>Pu.mset xs) (rZW P w):=by
 intro C F σ H Q c S e k;obtain⟨xs,e1,e⟩:=a9 e;unfold Pu.mset at e;split at e
 ·rename_i hh;cases e;refine h C F σ H _ xs S e1 λv F' H' x1 ⟨p,vs,e3,h1,h2⟩=>⟨p,xs,by rw[e3],?_,hh,λq hq=>k _ _ _ (x1.trans<|Ext.new x1.sub hq) ⟨q,rfl,af⟩⟩;rw[<- fM h2];exact .inl<|x1.sub.rd h1
 ·cases e
set_option tactic.hygienic true in
theorem z6(h:EV Γ ta o (rZW P w)):i4 Γ (uP (B9 P w)<|aY ta cH) (o.bind λns=>Pu.sortI ns) a8:=by
 intro C F σ H Q xs S e k;obtain⟨ns,e1,e⟩:=a9 e;unfold Pu.sortI at e;split at e
 ·rename_i ZQ;cases e;exact h C F σ H _ ns S e1 λv F' H' x1 ⟨p,e2,h1⟩=>⟨p,ns,by rw[e2],x1.sub _ _ h1,ZQ,λq hq=>k q _ F' H' x1 hq<|paired_ints _⟩
 ·cases e
end
end
section
open PySem PySem.Spec PyProof.Rows
abbrev Rd_:=List<|Int×Int
abbrev Dr_:=List<|Int×Option Int
variable [Kn:Kon]
end
end L2
namespace Tim
open PySem PySem.W PyProof.Rows
structure Cx(M:Model)(A:Around)(s:Shared)(κ:SortKind)(f:Nat->Keyed)(T:ZK)(X:Zt):Prop where
 ask:∀i j,X i->X j->∀C:Bool->Prop,(T i j->C true)->(i=j\/T j i->C false)->wpAny M A (keyLt' κ (f i).1 (f j).1) (λb s'=>s'=s/\C b) (λx x=>False) s
 tr:∀{i j k},T i j->T j k->T i k
 irr:∀{i},¬ T i i
abbrev ar(f:Nat->Keyed)(l:ZU):Array Keyed:=Y0<|l.map f
abbrev St(κ:SortKind)(f:Nat->Keyed)(l:ZU)(pd:Array (Nat×Nat×Nat))(g:Nat):SortSt:=SortSt.mk' κ (ar f l) pd g none
section
variable {M:Model}{A:Around}{E:ZX}{s:Shared}{κ:SortKind}{f:Nat->Keyed}{T:ZK}{X:Zt}
theorem ar_get{i x:Nat}(h:l[i]?=some x):(ar f l)[i]?=some (f x):=by show (Y0<|l.map f)[i]?=_;rw[Q8,X2,h];rfl
theorem ua(K:Cx M A s κ f T X){Q:Option Bool->SortSt->Prop}{st:SortSt}(hk:kindOf st=κ)(hi:X i)(hj:X j)(h1:T i j->Q (some true) st)(h0:i=j\/T j i->Q (some false) st):
  wpS M A E s (lt' (f i)<|f j) Q st:=by
 rw[lt'_eq];refine X4<|wpS_get ?_;rw[hk];refine X4<|wpS_lift<|wpAny_attempt (R8 (K.ask i j hi hj (λb=>Q (some b) st) h1 h0) (λb s' z=>⟨z.1,X8 z.2⟩) λx x z=>z.elim)
theorem cL{Q:Keyed->SortSt->Prop}{st:SortSt}(h:l[i]?=some x)(q:Q (f x) st):wpS M A E s (elem' (ar f l) i) Q st:=by rw[elem'_eq,ar_get h];exact X8 q
theorem k0(K:Cx M A s κ f T X){Q:Option Bool->SortSt->Prop}(ha:l[a]?=some i)(hb:l[b]?=some j)(hi:X i)(hj:X j)(h1:T i j->Q (some true) (St κ f l pd g))(h0:i=j\/T j i->Q (some false) (St κ f l pd g)):
  wpS M A E s (ltAt' a b) Q (St κ f l pd g):=by
 rw[ltAt'_eq];refine X4<|wpS_get ?_;show wpS _ _ _ _ (do let x <- elem' (ar f l) a;let y <- elem' (ar f l) b;lt' x y) Q _;exact X4<|cL ha<|X4<|cL hb<|ua K rfl hi hj h1 h0
theorem nZ{R:ZK}{V:ZU}(h:(V.take n).Pairwise R)(hij:i<j)(hj:j<n)(hx:V[i]?=some x)(hy:V[j]?=some y):R x y:=by
 have gx:(V.take n)[i]?=some x:=by rw[Q3 (hU hij hj)];exact hx
 have gy:(V.take n)[j]?=some y:=by rw[Q3 hj];exact hy
 refine F6 (Z7.mp gx) λlx ex=>F6 (Z7.mp gy) λly ey=>?_;rw[<- ex,<- ey];exact J9.mp h i j lx ly hij
theorem rR{R:ZK}(tr:∀i j k,R i j->R j k->R i k){V:ZU}(h:(V.take n).Pairwise R)(h1:1<=n)(hy:V[n-1]?=some y)(hx:V[n]?=some x)(r:R y x):(V.take<|n+1).Pairwise R:=by
 rw[List.take_succ,hx];refine W8.mpr ⟨h,List.pairwise_singleton _ _,λa ha b hb=>?_⟩;rw[Y5.mp hb];refine dI (P7 ha) λk e=>F6 e λhk e=>?_;have hkn:k<n:=cf hk<|D0 _ _;have ga:V[k]?=some a:=by rw[<- Q3 hkn,<- e];exact Z9 hk
 rcases G8 k (n-1) with z|z
 ·exact tr _ _ _ (nZ h z (Nat.sub_lt h1 Nat.one_pos) ga hy) r
 ·have:k=n-1:=by lia
  rw[this,hy]at ga;exact Z5 ga▸r
theorem gp{U V:ZU}:(U++V)[U.length+n]?=V[n]?:=by rw[Y7 (U9 _ _),Q0]
theorem mH{U V:ZU}(h:1<=n):(U++V)[U.length+n-1]?=V[n-1]?:=by rw[Nat.add_sub_assoc h];exact gp
def asc(lo a m:Nat):StateT SortSt Sem (Option (Option Nat)×Nat):=forIn [a:m] ((none,a):Option (Option Nat)×Nat) λx r=>do
 match <- ltAt' (lo+r.2) (lo+r.2-1) with
 |some b=>if b=true then pure (ForInStep.done (none,r.2)) else pure (ForInStep.yield (none,r.2+1))
 |_=>pure<|ForInStep.done (some none,r.2)
theorem Ba{V:ZU}(h:V.Nodup){i j x y:Nat}(hx:V[i]?=some x)(hy:V[j]?=some y)(n:i≠j):x≠y:=λe=>by refine F6 (Z7.mp hx) λlx ex=>F6 (Z7.mp hy) λly ey=>?_;exact n<|(List.getElem_inj h).mp (ex.trans<|e.trans ey.symm)
theorem has{V:ZU}(h:i<V.length):∃x,V[i]?=some x/\x∈V:=⟨V[i],Z9 h,List.getElem_mem h⟩
theorem Bb(K:Cx M A s κ f T X){Q:Option (Option Nat)×Nat->SortSt->Prop}(nd:V.Nodup)(hX:∀x∈V,X x)(h1:1<=a)(ha:a<=V.length)(hp:(V.take a).Pairwise T)(h:∀n,a<=n->n<=V.length->(V.take n).Pairwise T->(n=V.length\/∃x y,V[n]?=some x/\V[n-1]?=some y/\T x y)->Q (none,n) (St κ f (U++V) pd g)):wpS M A E s (asc U.length a V.length) Q (St κ f (U++V) pd g):=by
 unfold asc;refine N2 (I:=λi c st=>c=(none,i)/\st=St κ f (U++V) pd g/\a<=i/\(V.take i).Pairwise T) ?_ ?_ ⟨rfl,rfl,bi _,hp⟩
 ·intro i c st hi1 hi2 z;obtain⟨rfl,rfl,e3,e4⟩:=z;dsimp only;obtain⟨x,hx,mx⟩:=has hi2;obtain⟨y,hy,my⟩:=has (V:=V) (i:=i-1) (by lia);refine X4 (k0 K (gp.trans hx) ((mH (by lia)).trans hy) (hX x mx) (hX y my) (λt=>?_) λt=>?_)
  ·exact X8<|h i e3 (ci hi2) e4<|.inr ⟨x,y,hx,hy,t⟩
  ·refine X8 ⟨rfl,rfl,L8 e3,rR (R:=T) (λb b b=>K.tr) e4 (by lia) hy hx<|t.resolve_left<|Ba nd hx hy (by lia)⟩
 ·intro c st z;obtain⟨e1,e2,e3,e4⟩:=z;rw[Nat.max_eq_right ha]at e1 e4;subst e1;subst e2;exact h _ ha (bi _) e4<|.inl rfl
theorem ub{α:Type}{U V:List α}(hn:n<=V.length):mirror (Y0<|U++V) U.length (U.length+n) ((U.length+n-U.length)/2)=Y0 (U++((V.take n).reverse++V.drop n)):=by
 apply Array.ext_getElem?;intro k;rw[getElem?_mirror_all (by rw[Y6,Y9];lia),Q8,Q8,Q8];have lr:((V.take n).reverse).length=n:=by rw[List.length_reverse,R5,O3 hn]
 by_cases h1:k<U.length
 ·rw[if_neg (by lia),X9 h1,X9 h1]
 ·have e:k=U.length+(k-U.length):=by lia
  generalize k-U.length=d at e;subst e;by_cases h2:d<n
  ·rw[if_pos (by lia),Y7 (by lia),Y7 (by lia),X9 (by rw[lr];lia),List.getElem?_reverse (by rw[R5,O3 hn];lia),R5,O3 hn,Q3 (by lia)];congr 1;lia
  ·rw[if_neg (by lia),Y7 (by lia),Y7 (by lia),Y7 (by rw[lr];lia),lr,D9];congr 1;lia
theorem rev_ok{Q:Unit->SortSt->Prop}(hn:n<=V.length)(h:Q () (St κ f (U++((V.take n).reverse++V.drop n)) pd g)):wpS M A E s (reverseSlice' U.length<|U.length+n) Q (St κ f (U++V) pd g):=by rw[reverseSlice'_eq];refine wpS_modify ?_;have e:=ub (U:=U.map f) (V:=V.map f) (n:=n) (by rw[Z8];exact hn);rw[Z8,<- U4,<- List.map_take,<- List.map_drop,<- List.map_reverse,<- U4,<- U4]at e;show Q () (SortSt.mk' κ (mirror (Y0<|(U++V).map f) U.length (U.length+n)<|(U.length+n-U.length)/2) pd g none);rw[e];exact h
theorem run_ok(K:Cx M A s κ f T X){Q:Option Nat->SortSt->Prop}(nd:V.Nodup)(hX:∀x∈V,X x)(h1:1<=V.length)(h:∀n V',V'.Perm V->1<=n->n<=V.length->(V'.take n).Pairwise T->Q (some n) (St κ f (U++V') pd g)):wpS M A E s (countRun' U.length V.length) Q (St κ f (U++V) pd g):=by
 rw[countRun'_eq];refine X4 (Bb K nd hX (bi 1) h1 ?_ λn n1 n2 n3 n4=>?_)
 ·cases V with
  |nil=>exact .nil
  |cons a V=>exact List.pairwise_singleton _ _
 ·dsimp only;by_cases e:n=V.length
  ·rw[if_pos (by rw[e];exact beq_self_eq_true _)];exact X8<|h n V (.refl _) n1 n2 n3
  ·rw[if_neg λz=>e<|eq_of_beq z];obtain⟨x,y,hx,hy,t⟩:=n4.resolve_left e;have n5:n<V.length:=Nat.lt_of_le_of_ne n2 e;by_cases e2:n > 1
   ·rw[if_pos e2];obtain⟨z,hz,mz⟩:=has (V:=V) (i:=0) (by omega);have tz:T z y:=nZ n3 (by omega) (by omega) hz hy;refine X4 (k0 K (a:=U.length) (b:=U.length+n-1) ((congrArg (λk=>(U++V)[k]?) (Nat.add_zero _).symm).trans (gp.trans hz)) ((mH n1).trans hy) (hX z mz) (hX y<|V3 hy) (λu=>?_) λw=>?_)
    ·exact X8<|h n V (.refl _) n1 n2 n3
    ·exact(w.elim (λq=>K.irr<|q▸tz) λq=>K.irr<|K.tr q tz).elim
   ·rw[if_neg e2];have en:n=1:=by omega
    subst en;refine X4<|wpS_lift<|E4 ⟨rfl,?_⟩;refine X4<|wpS_mono (N2 (I:=λi c st=>c=(none,i,0)/\st=St κ f (U++V) pd g/\2<=i/\(V.take i).Pairwise λa b=>T b a) (Q:=λc st=>∃n,c=(none,n,0)/\st=St κ f (U++V) pd g/\2<=n/\n<=V.length/\(V.take n).Pairwise λa b=>T b a) ?_ ?_ ⟨rfl,rfl,bi _,?_⟩) ?_
    ·intro i c st hi1 hi2 z;obtain⟨rfl,rfl,e3,e4⟩:=z;dsimp only;obtain⟨x,hx,mx⟩:=has hi2;obtain⟨y,hy,my⟩:=has (V:=V) (i:=i-1) (by omega);refine X4 (k0 K (gp.trans hx) ((mH (by omega)).trans hy) (hX x mx) (hX y my) (λt=>?_) λt=>?_)
     ·exact X8 ⟨rfl,rfl,L8 e3,rR (R:=λa b=>T b a) (λu u u p q=>K.tr q p) e4 (by omega) hy hx t⟩
     ·refine X4 (k0 K ((mH (by omega)).trans hy) (gp.trans hx) (hX y my) (hX x mx) (λt=>?_) λt2=>?_)
      ·exact X8 ⟨i,rfl,rfl,e3,ci hi2,e4⟩
      ·exact absurd (t.resolve_left<|Ba nd hx hy (by omega)) λq=>t2.elim (λr=>K.irr<|r▸q) λr=>K.irr<|K.tr q r
    ·intro c st z;obtain⟨e1,e2,e3,e4⟩:=z;rw[Nat.max_eq_right (show 1+1<=V.length by omega)]at e1 e4;exact⟨_,e1,e2,by omega,bi _,e4⟩
    ·exact rR (R:=λa b=>T b a) (n:=1) (λu u u p q=>K.tr q p) (by cases V with
      |nil=>exact .nil
      |cons a V=>exact List.pairwise_singleton _ _) (bi _) hy hx t
    ·intro c st z;obtain⟨n,rfl,rfl,e3,e4,e5⟩:=z;dsimp only;rw[if_neg (O7 0)];refine X4<|rev_ok e4 ?_;have lr:((V.take n).reverse).length=n:=by rw[List.length_reverse,R5,O3 e4]
     have pm:((V.take n).reverse++V.drop n).Perm V:=((List.reverse_perm _).append_right _).trans (by rw[W4]);have ln:=pm.length_eq;rw[<- ln];refine X4 (Bb K (pm.nodup_iff.mpr nd) (λx hx=>hX x<|pm.mem_iff.mp hx) (by omega) (by rw[ln];exact e4) ?_ λm m1 m2 m3 u=>?_)
     ·rw[List.take_left' lr];exact List.pairwise_reverse.mpr e5
     ·exact X8<|h m _ pm (by omega) (by rw[<- ln];exact m2) m3
theorem uc{α:Type}{P Y Z:List α}{x:α}:bubble (Y0<|P++(Y++x ::Z)) (P.length+Y.length) Y.length=Y0 (P++x ::(Y++Z)):=by
 apply Array.ext_getElem?;intro k;rw[getElem?_bubble (by rw[Y6,Y9,Y9,V9];lia) _ (by lia)];simp only[Q8];have top:(P++(Y++x ::Z))[P.length+Y.length]?=some x:=by rw[Y7 (by lia),Y7 (by lia),show P.length+Y.length-P.length-Y.length=0 by lia];rfl
 by_cases h1:k<P.length
 ·rw[if_neg (by lia),if_neg (by lia),X9 h1,X9 h1]
 ·have e:k=P.length+(k-P.length):=by lia
  generalize k-P.length=d at e;subst e;rw[Y7 (l₁:=P) (l₂:=x ::(Y++Z)) (by lia),Q0];cases d with
  |zero=>rw[if_pos (by lia),top];rfl
  |succ d =>
   rw[if_neg (by lia),List.getElem?_cons_succ];by_cases h2:d<Y.length
   ·rw[if_pos (by lia),X9 h2,Y7 (by lia),X9 (by lia)];congr 1;lia
   ·rw[if_neg (by lia),Y7 (by lia),Y7 (by lia),Y7 (by lia),show P.length+(d+1)-P.length-Y.length=(d-Y.length)+1 by lia];rfl
theorem cut_at{V:ZU}(h:k<V.length):∃Y x Z,V=Y++x ::Z/\Y.length=k:=⟨V.take k,V[k],V.drop<|k+1,by rw[<- G0 h,W4],by rw[R5];lia⟩
theorem mv_ok{Q:Unit->SortSt->Prop}(hl:l<=Y.length)(h:Q () (St κ f (U++(Y.take l++x ::(Y.drop l++Z))) pd g)):wpS M A E s (moveDown' (U.length+Y.length)<|U.length+l) Q (St κ f (U++(Y++x ::Z)) pd g):=by
 rw[moveDown'_eq];refine wpS_modify ?_;have e:=uc (P:=U.map f++(Y.take l).map f) (Y:=(Y.drop l).map f) (x:=f x) (Z:=Z.map f);have l1:(U.map f++(Y.take l).map f).length=U.length+l:=by rw[Y9,Z8,Z8,R5];lia
 have l2:((Y.drop l).map f).length=Y.length-l:=by rw[Z8,K4]
 rw[l1,l2,show U.length+l+(Y.length-l)=U.length+Y.length by lia,X3,<- X3 ((Y.take l).map f),<- U4,W4,X3]at e;show Q () (SortSt.mk' κ (bubble (Y0<|(U++(Y++x ::Z)).map f) (U.length+Y.length)<|U.length+Y.length-(U.length+l)) pd g none);rw[show U.length+Y.length-(U.length+l)=Y.length-l by lia];have e2:(U++(Y++x ::Z)).map f=U.map f++(Y.map f++f x ::Z.map f):=by simp only[U4,W5]
 have e3:(U++(Y.take l++x ::(Y.drop l++Z))).map f=U.map f++((Y.take l).map f++f x ::((Y.drop l).map f++Z.map f)):=by simp only[U4,W5]
 rw[e2,e,<- e3];exact h
theorem ins_pw(K:Cx M A s κ f T X){Y Z:ZU}(hl:l<=Y.length)(hp:Y.Pairwise T)(h0:∀j y,j<l->Y[j]?=some y->T y x)(h1:∀j y,l<=j->Y[j]?=some y->T x y):((Y.take l++x ::(Y.drop l++Z)).take (Y.length+1)).Pairwise T:=by
 have e:(Y.take l++x ::(Y.drop l++Z)).take (Y.length+1)=Y.take l++x ::Y.drop l:=by
  have l1:(Y.take l++x ::Y.drop l).length=Y.length+1:=by rw[Y9,V9,R5,K4];lia
  rw[<- List.cons_append,<- X3];exact List.take_left' l1
 have q:=hp;rw[<- W4 l Y]at q;have q:=W8.mp q;rw[e];have a0:∀y∈Y.take l,T y x:=λy hy=>dI (P7 hy) λj z=>F6 z λhj z=>by have hjl:j<l:=cf hj<|D0 _ _;exact h0 j y hjl (by rw[<- Q3 hjl,<- z];exact Z9 hj)
 have a1:∀y∈Y.drop l,T x y:=λy hy=>dI (P7 hy) λj z=>F6 z λhj z=>h1 (l+j) y (U9 _ _) (by rw[<- D9,<- z];exact Z9 hj);refine W8.mpr ⟨q.1,List.pairwise_cons.mpr ⟨a1,q.2.1⟩,λa ha b hb=>?_⟩;rcases Y4.mp hb with z|z
 ·rw[z];exact a0 a ha
 ·exact K.tr (a0 a ha)<|a1 b z
theorem bin_ok(K:Cx M A s κ f T X){Q:Bool->SortSt->Prop}(nd:V.Nodup)(hX:∀x∈V,X x)(h1:1<=ok)(ho:ok<=n)(hn:n<=V.length)(hp:(V.take ok).Pairwise T)(h:∀V',V'.Perm V->(V'.take n).Pairwise T->Q true (St κ f (U++V') pd g)):wpS M A E s (binarySort' U.length n ok) Q (St κ f (U++V) pd g):=by
 rw[binarySort'_eq,Nat.max_eq_left h1];refine X4<|wpS_mono (N2 (I:=λk c st=>c=(none,())/\∃V',st=St κ f (U++V') pd g/\V'.Perm V/\(V'.take k).Pairwise T) (Q:=λc st=>c=(none,())/\∃V',st=St κ f (U++V') pd g/\V'.Perm V/\(V'.take n).Pairwise T) ?_ ?_ ⟨rfl,V,rfl,.refl _,hp⟩) ?_
 ·intro k c st hk1 hk2 z;obtain⟨rfl,z⟩:=z;obtain⟨V',rfl,pm,pk⟩:=z;dsimp only;have kl:k<V'.length:=by rw[pm.length_eq];lia
  obtain⟨Y,x,Z,rfl,rfl⟩:=cut_at kl;have py:Y.Pairwise T:=by rw[List.take_left]at pk;exact pk
  have xx:X x:=hX x<|pm.mem_iff.mp<|X1 _<|.head _;have gx:(Y++x ::Z)[Y.length]?=some x:=by rw[Y7 (bi _),Nat.sub_self];rfl
  have nd':=pm.nodup_iff.mpr nd;refine X4 (wpS_mono (N2 (I:=λi c st=>st=St κ f (U++(Y++x ::Z)) pd g/\∃l r,c=(none,l,r)/\l<=r/\r<=Y.length/\r-l<=Y.length-i/\(∀j y,j<l->Y[j]?=some y->T y x)/\∀j y,r<=j->Y[j]?=some y->T x y)
   (Q:=λc st=>st=St κ f (U++(Y++x ::Z)) pd g/\∃l r,c=(none,l,r)/\l<=Y.length/\(∀j y,j<l->Y[j]?=some y->T y x)/\∀j y,l<=j->Y[j]?=some y->T x y) ?_ ?_ ⟨rfl,0,Y.length,rfl,U5 _,bi _,bi _,λa a z=>absurd z<|K3 _,λj y z w=>absurd (Z7.mp w).1 (T5.mpr z)⟩) ?_)
  ·intro i c st _ hi z;obtain⟨rfl,z⟩:=z;obtain⟨l,r,rfl,z1,z2,z3,z4,z5⟩:=z;dsimp only;by_cases lr:l ≥ r
   ·rw[if_pos lr];have:l=r:=T9 z1 lr;subst this;exact X8 ⟨rfl,l,l,rfl,z2,z4,z5⟩
   ·rw[if_neg lr];have m2:(l+r)/2<r:=by lia
    obtain⟨y,hy,my⟩:=has (V:=Y) (i:=(l+r)/2) (by lia);have gy:(Y++x ::Z)[(l+r)/2]?=some y:=by rw[X9 (by lia)];exact hy
    refine X4 (k0 K (gp.trans gx) (gp.trans gy) xx (hX y<|pm.mem_iff.mp<|P8 _ my) (λt=>?_) λt=>?_)
    ·refine X8 ⟨rfl,l,(l+r)/2,rfl,by lia,by lia,by lia,z4,λj w hj hw=>?_⟩;rcases G8 ((l+r)/2) j with q|q
     ·exact K.tr t<|nZ (n:=Y.length) (by rw[O6];exact py) q (Z7.mp hw).1 hy hw
     ·have:j=(l+r)/2:=by lia
      rw[this,hy]at hw;exact Z5 hw▸t
    ·have t:=t.resolve_left<|Ba nd' gx gy (by lia);refine X8 ⟨rfl,(l+r)/2+1,r,rfl,by lia,by lia,by lia,λj w hj hw=>?_,z5⟩;rcases G8 j ((l+r)/2) with q|q
     ·exact K.tr (nZ (n:=Y.length) (by rw[O6];exact py) q (by lia) hw hy) t
     ·have:j=(l+r)/2:=by lia
      rw[this,hy]at hw;exact Z5 hw▸t
  ·intro c st z;obtain⟨e1,z⟩:=z;obtain⟨l,r,e2,z1,z2,z3,z4,z5⟩:=z;have:l=r:=by lia
   subst this;exact⟨e1,l,l,e2,z2,z4,z5⟩
  ·intro c st z;obtain⟨rfl,z⟩:=z;obtain⟨l,r,rfl,z2,z4,z5⟩:=z;dsimp only;refine X4<|mv_ok z2<|X8 ⟨rfl,_,rfl,?_,ins_pw K z2 py z4 z5⟩;refine List.Perm.trans ?_ pm;have:(Y++x ::Z)=Y.take l++(Y.drop l++x ::Z):=by rw[<- X3,W4]
   rw[this];exact List.Perm.append_left _ List.perm_middle.symm
 ·intro c st z;rw[Nat.max_eq_right ho]at z;exact z
 ·intro c st z;obtain⟨rfl,V',rfl,pm,pk⟩:=z;exact X8<|h V' pm pk
def xG:Bool->Keyed->Array Keyed->Nat->Nat->Nat->StateT SortSt Sem (Option Nat):=sortPriv% PySem.Builtin.gallop
def bey(L:Bool)(k:Keyed)(r:Array Keyed)(b i:Nat):StateT SortSt Sem (Option Bool):=do
 let y <- elem' r (b+i)
 if L then lt' y k else return (<- lt' k y).map (!·)
theorem gal_eq(L:Bool)(k:Keyed)(r:Array Keyed)(b n h:Nat):xG L k r b n h=(do
  let mut u:=0
  let mut v:=1
  let mut p:=0
  let mut q:=0
  let some w <- bey L k r b h|return none
  if w then
   let m:=n-h
   for _ in [0:n] do
    if v ≥ m then break
    let some o <- bey L k r b (h+v)|return none
    if !o then break
    u:=v
    v:=2*v+1
   p:=h+u+1
   q:=h+min v m
  else
   let m:=h+1
   for _ in [0:n] do
    if v ≥ m then break
    let some o <- bey L k r b (h-v)|return none
    if o then break
    u:=v
    v:=2*v+1
   p:=h+1-min v m
   q:=h-u
  for _ in [0:n] do
   if p ≥ q then break
   let m:=p+(q-p)/2
   let some o <- bey L k r b m|return none
   if o then p:=m+1 else q:=m
  return some q):=rfl
theorem rS(K:Cx M A s κ f T X){Q:Option Bool->SortSt->Prop}{st:SortSt}(hk:kindOf st=κ)(hy:X ky)(hx:X x)(g:l[b+i]?=some x)(ne:x≠ky)(h1:T x ky->Q (some true) st)(h0:T ky x->Q (some false) st):
  wpS M A E s (bey L (f ky) (ar f l) b i) Q st:=by
 unfold bey;refine X4<|cL g ?_;cases L with
 |true=>exact ua K hk hx hy h1 λz=>h0<|z.resolve_left ne
 |false=>exact X4 (ua K hk hy hx (λz=>X8<|h0 z) λz=>X8<|h1<|z.resolve_left<|R6 ne)
def gtl(L:Bool)(k:Keyed)(r:Array Keyed)(b n p q:Nat):StateT SortSt Sem (Option Nat):=do
 let mut p:=p
 let mut q:=q
 for _ in [0:n] do
  if p ≥ q then break
  let m:=p+(q-p)/2
  let some o <- bey L k r b m|return none
  if o then p:=m+1 else q:=m
 return some q
theorem halv{u v n i:Nat}(c:¬ u ≥ v)(z2:v<=n)(z3:v-u<=n-i)(hi:i<n):u<=u+(v-u)/2/\u+(v-u)/2+1<=v/\u+(v-u)/2<n/\v-(u+(v-u)/2+1)<=n-(i+1)/\u+(v-u)/2-u<=n-(i+1):=by have hm:(v-u)/2<v-u:=Nat.div_lt_self (Nat.sub_pos_of_lt<|Nat.not_le.mp c) (by decide);generalize (v-u)/2=m at hm ⊢;lia
theorem Bc(K:Cx M A s κ f T X){Q:Option Nat->SortSt->Prop}{st:SortSt}{d:ZL}(hk:kindOf st=κ)(hy:X ky)(hX:∀i,i<n->X (d i))(g:∀i,i<n->l[b+i]?=some (d i))(ne:∀i,i<n->d i≠ky)(mo:∀i j,i<j->j<n->T (d i) (d j))(pq:p<=q)(qn:q<=n)(h0:∀i,i<p->T (d i) ky)(h1:∀i,q<=i->i<n->T ky (d i))(h:∀k,k<=n->(∀i,i<k->T (d i) ky)->(∀i,k<=i->i<n->T ky (d i))->Q (some k) st):wpS M A E s (gtl L (f ky) (ar f l) b n p q) Q st:=by
 unfold gtl;refine X4 (wpS_mono (N2 (I:=λi c st'=>st'=st/\∃u v,c=(none,u,v)/\u<=v/\v<=n/\v-u<=n-i/\(∀i,i<u->T (d i) ky)/\∀i,v<=i->i<n->T ky (d i))
  (Q:=λc st'=>st'=st/\∃u v,c=(none,u,v)/\v<=n/\(∀i,i<v->T (d i) ky)/\∀i,v<=i->i<n->T ky (d i)) ?_ ?_ ⟨rfl,p,q,rfl,pq,qn,aR (Nat.sub_le _ _) qn,h0,h1⟩) ?_)
 ·intro i c st' _ hi z;obtain⟨rfl,z⟩:=z;obtain⟨u,v,rfl,z1,z2,z3,z4,z5⟩:=z;dsimp only;by_cases c:u ≥ v
  ·rw[if_pos c];have:u=v:=T9 z1 c;exact X8 ⟨rfl,u,v,rfl,z2,this▸z4,z5⟩
  ·rw[if_neg c];obtain⟨a1,a2,hm,a4,a5⟩:=halv c z2 z3 hi;refine X4 (rS K hk hy (hX _ hm) (g _ hm) (ne _ hm) (λt=>?_) λt=>?_)
   ·refine X8 ⟨rfl,_,_,rfl,a2,z2,a4,λj hj=>?_,z5⟩;rcases G8 j (u+(v-u)/2) with w|w
    ·exact K.tr (mo _ _ w hm) t
    ·rw[T9 (M1 hj) w];exact t
   ·refine X8 ⟨rfl,_,_,rfl,a1,ci hm,a5,z4,λj hj hn=>?_⟩;rcases G8 (u+(v-u)/2) j with w|w
    ·exact K.tr t<|mo _ _ w hn
    ·rw[T9 w hj];exact t
 ·intro c st' z;obtain⟨e1,z⟩:=z;obtain⟨u,v,e2,z1,z2,z3,z4,z5⟩:=z;have:u=v:=by lia
  exact⟨e1,u,v,e2,z2,this▸z4,z5⟩
 ·intro c st' z;obtain⟨rfl,u,v,rfl,z2,z4,z5⟩:=z;exact X8<|h v z2 z4 z5
theorem rT(K:Cx M A s κ f T X){Q:Option Nat->SortSt->Prop}{st:SortSt}{d:ZL}(hk:kindOf st=κ)(hy:X ky)(hX:∀i,i<n->X (d i))(g:∀i,i<n->l[b+i]?=some (d i))(ne:∀i,i<n->d i≠ky)(mo:∀i j,i<j->j<n->T (d i) (d j))(hh:hint<n)(h:∀k,k<=n->(∀i,i<k->T (d i) ky)->(∀i,k<=i->i<n->T ky (d i))->Q (some k) st):wpS M A E s (xG L (f ky) (ar f l) b n hint) Q st:=by
 rw[gal_eq];refine X4 (rS K hk hy (hX _ hh) (g _ hh) (ne _ hh) (λt=>?_) λt=>?_)
 ·refine X4 (wpS_mono (N2 (I:=λi c st'=>st'=st/\∃u v,c=(none,u,v)/\u<v/\i<v/\u<n-hint/\T (d<|hint+u) ky)
   (Q:=λc st'=>st'=st/\∃u v,c=(none,u,v)/\u<v/\u<n-hint/\T (d<|hint+u) ky/\(v ≥ n-hint\/(v<n-hint/\T ky (d<|hint+v)))) ?_ ?_ ⟨rfl,0,1,rfl,Nat.one_pos,Nat.one_pos,Nat.sub_pos_of_lt hh,t⟩) ?_)
  ·intro i c st' _ hi z;obtain⟨rfl,z⟩:=z;obtain⟨u,v,rfl,z1,z2,z3,z4⟩:=z;dsimp only;by_cases c:v ≥ n-hint
   ·rw[if_pos c];exact X8 ⟨rfl,u,v,rfl,z1,z3,z4,.inl c⟩
   ·rw[if_neg c];have hm:hint+v<n:=by omega
    refine X4 (rS K hk hy (hX _ hm) (g _ hm) (ne _ hm) (λt=>?_) λt=>?_)
    ·exact X8 ⟨rfl,_,_,rfl,by omega,by omega,by omega,t⟩
    ·exact X8 ⟨rfl,u,v,rfl,z1,z3,z4,.inr ⟨by omega,t⟩⟩
  ·intro c st' z;obtain⟨e1,z⟩:=z;obtain⟨u,v,e2,z1,z2,z3,z4⟩:=z;exact⟨e1,u,v,e2,z1,z3,z4,.inl (by omega)⟩
  ·intro c st' z;obtain⟨rfl,z⟩:=z;obtain⟨u,v,rfl,z1,z3,z4,z5⟩:=z;refine Bc (p:=hint+u+1) (q:=hint+min v (n-hint)) K hk hy hX g ne mo (by omega) (by omega) (λj hj=>?_) (λj hj hn=>?_) h
   ·rcases G8 j (hint+u) with w|w
    ·exact K.tr (mo _ _ w (by omega)) z4
    ·rw[show j=hint+u by omega];exact z4
   ·rcases z5 with z5|z5
    ·omega
    ·rcases G8 (hint+v) j with w|w
     ·exact K.tr z5.2<|mo _ _ w hn
     ·rw[show j=hint+v by omega];exact z5.2
 ·refine X4 (wpS_mono (N2 (I:=λi c st'=>st'=st/\∃u v,c=(none,u,v)/\u<v/\i<v/\u<hint+1/\T ky (d<|hint-u))
   (Q:=λc st'=>st'=st/\∃u v,c=(none,u,v)/\u<v/\u<hint+1/\T ky (d<|hint-u)/\(v ≥ hint+1\/(v<hint+1/\T (d<|hint-v) ky))) ?_ ?_ ⟨rfl,0,1,rfl,Nat.one_pos,Nat.one_pos,Nat.succ_pos _,t⟩) ?_)
  ·intro i c st' _ hi z;obtain⟨rfl,z⟩:=z;obtain⟨u,v,rfl,z1,z2,z3,z4⟩:=z;dsimp only;by_cases c:v ≥ hint+1
   ·rw[if_pos c];exact X8 ⟨rfl,u,v,rfl,z1,z3,z4,.inl c⟩
   ·rw[if_neg c];have hm:hint-v<n:=by omega
    refine X4 (rS K hk hy (hX _ hm) (g _ hm) (ne _ hm) (λt=>?_) λt=>?_)
    ·exact X8 ⟨rfl,u,v,rfl,z1,z3,z4,.inr ⟨by omega,t⟩⟩
    ·exact X8 ⟨rfl,_,_,rfl,by omega,by omega,by omega,t⟩
  ·intro c st' z;obtain⟨e1,z⟩:=z;obtain⟨u,v,e2,z1,z2,z3,z4⟩:=z;exact⟨e1,u,v,e2,z1,z3,z4,.inl (by omega)⟩
  ·intro c st' z;obtain⟨rfl,u,v,rfl,z1,z3,z4,z5⟩:=z;refine Bc (p:=hint+1-min v (hint+1)) (q:=hint-u) K hk hy hX g ne mo (by omega) (by omega) (λj hj=>?_) (λj hj hn=>?_) h
   ·rcases z5 with z5|z5
    ·omega
    ·rcases G8 j (hint-v) with w|w
     ·exact K.tr (mo _ _ w (by omega)) z5.2
     ·rw[show j=hint-v by omega];exact z5.2
   ·rcases G8 (hint-u) j with w|w
    ·exact K.tr z4<|mo _ _ w hn
    ·rw[show j=hint-u by omega];exact z4
end
section
variable {M:Model}{A:Around}{E:ZX}{s:Shared}{κ:SortKind}{f:Nat->Keyed}{T:ZK}{X:Zt}
def mlo:Array Keyed->Array Keyed->StateT SortSt Sem (Array Keyed):=sortPriv% PySem.Builtin.mergeLo
def mhi:Array Keyed->Array Keyed->StateT SortSt Sem (Array Keyed):=sortPriv% PySem.Builtin.mergeHi
def smg:Nat->StateT SortSt Sem Unit:=sortPriv% PySem.Builtin.setMinGallop
theorem rV(g:Nat):smg g=modify λz=>SortSt.mk' (kindOf z) (arrOf z) (pendingOf z) g (failedOf z):=rfl
def fA(x y o:Array Keyed)(i j:Nat):Array Keyed:=o++x.extract i x.size++y.extract j y.size
abbrev Z2:=Option (Array Keyed)×Array Keyed×Nat×Nat×Nat×Nat×Nat
def q4(x y:Array Keyed)(i g c d:Nat)(o:Array Keyed)(j:Nat):StateT SortSt Sem (ForInStep Z2):=do
 let z <- elem' x i
 if i+1+1==x.size then pure (.done (some<|fA y x (o.push z) j<|i+1,o.push z,i+1,j,g,c,d))
 else if c<7&&d<7 then pure (.done (none,o.push z,i+1,j,g,c,d)) else pure (.yield (none,o.push z,i+1,j,g,c,d))
def q3(x y:Array Keyed)(i g c d:Nat)(o:Array Keyed)(j:Nat):StateT SortSt Sem (ForInStep Z2):=do
 match <- xG true (<- elem' x i) y j (y.size-j) 0 with
 |some k=>if k > 0 then (if j+k==y.size then pure (.done (some<|fA x y (o++y.extract j (j+k)) i<|j+k,o++y.extract j (j+k),i,j+k,g,c,k)) else q4 x y i g c k (o++y.extract j (j+k)) (j+k)) else q4 x y i g c k o j
 |_=>pure<|.done (some<|fA x y o i j,o,i,j,g,c,d)
def q2(x y:Array Keyed)(j g c d:Nat)(o:Array Keyed)(i:Nat):StateT SortSt Sem (ForInStep Z2):=do
 let z <- elem' y j
 if j+1==y.size then pure (.done (some<|fA x y (o.push z) i<|j+1,o.push z,i,j+1,g,c,d)) else q3 x y i g c d (o.push z) (j+1)
def q1(x y o:Array Keyed)(i j c d g:Nat):StateT SortSt Sem (ForInStep Z2):=do
 smg g
 match <- xG false (<- elem' y j) x i (x.size-i) 0 with
 |some k=>if k > 0 then (if i+k+1==x.size then pure (.done (some<|fA y x (o++x.extract i (i+k)) j<|i+k,o++x.extract i (i+k),i+k,j,g,k,d)) else if i+k==x.size then pure (.done (some<|fA x y (o++x.extract i (i+k)) (i+k) j,o++x.extract i (i+k),i+k,j,g,k,d)) else q2 x y j g k d (o++x.extract i (i+k)) (i+k)) else q2 x y j g k d o i
 |_=>pure<|.done (some<|fA x y o i j,o,i,j,g,c,d)
abbrev Z1:=Option (Array Keyed)×Array Keyed×Nat×Nat×Nat×Nat
def w1(x y:Array Keyed)(g:Nat)(z:Z1):StateT SortSt Sem (ForInStep Z1):=do
 match <- lt' (<- elem' y z.2.2.2.1) (<- elem' x z.2.2.1) with
 |some w =>
  if w=true then do
   let e <- elem' y z.2.2.2.1
   if z.2.2.2.1+1==y.size then pure (.done (some<|fA x y (z.2.1.push e) z.2.2.1<|z.2.2.2.1+1,z.2.1.push e,z.2.2.1,z.2.2.2.1+1,0,z.2.2.2.2.2+1))
   else if z.2.2.2.2.2+1 ≥ g then pure (.done (none,z.2.1.push e,z.2.2.1,z.2.2.2.1+1,0,z.2.2.2.2.2+1)) else pure (.yield (none,z.2.1.push e,z.2.2.1,z.2.2.2.1+1,0,z.2.2.2.2.2+1))
  else do
   let e <- elem' x z.2.2.1
   if z.2.2.1+1+1==x.size then pure (.done (some<|fA y x (z.2.1.push e) z.2.2.2.1<|z.2.2.1+1,z.2.1.push e,z.2.2.1+1,z.2.2.2.1,z.2.2.2.2.1+1,0))
   else if z.2.2.2.2.1+1 ≥ g then pure (.done (none,z.2.1.push e,z.2.2.1+1,z.2.2.2.1,z.2.2.2.2.1+1,0)) else pure (.yield (none,z.2.1.push e,z.2.2.1+1,z.2.2.2.1,z.2.2.2.2.1+1,0))
 |_=>pure<|.done (some<|fA x y z.2.1 z.2.2.1 z.2.2.2.1,z.2.1,z.2.2.1,z.2.2.2.1,z.2.2.2.2.1,z.2.2.2.2.2)
theorem mlo_eq(x y:Array Keyed):mlo x y=(do
  rule "list.sort.merge-lo"
  let mut o:Array Keyed:=#[<- elem' y 0]
  let mut i:=0
  let mut j:=1
  if j==y.size then return fA x y o i j
  if i+1==x.size then return fA y x o j i
  let mut g:=gallopOf (<- get)
  for _ in [0:x.size+y.size] do
   let mut c:=0
   let mut d:=0
   for _ in [0:x.size+y.size] do
    let some w <- lt' (<- elem' y j) (<- elem' x i)|return fA x y o i j
    if w then
     o:=o.push<|<- elem' y j;j:=j+1;d:=d+1;c:=0
     if j==y.size then return fA x y o i j
     if d ≥ g then break
    else
     o:=o.push<|<- elem' x i;i:=i+1;c:=c+1;d:=0
     if i+1==x.size then return fA y x o j i
     if c ≥ g then break
   rule "list.sort.gallop"
   g:=g+1
   for _ in [0:x.size+y.size] do
    if g > 1 then g:=g-1
    smg g
    let some k <- xG false (<- elem' y j) x i (x.size-i) 0|return fA x y o i j
    c:=k
    if k > 0 then
     o:=o++x.extract i (i+k);i:=i+k
     if i+1==x.size then return fA y x o j i
     if i==x.size then return fA x y o i j
    o:=o.push<|<- elem' y j;j:=j+1
    if j==y.size then return fA x y o i j
    let some k <- xG true (<- elem' x i) y j (y.size-j) 0|return fA x y o i j
    d:=k
    if k > 0 then
     o:=o++y.extract j (j+k);j:=j+k
     if j==y.size then return fA x y o i j
    o:=o.push<|<- elem' x i;i:=i+1
    if i+1==x.size then return fA y x o j i
    if c<7&&d<7 then break
   g:=g+1
   smg g
  unsupported "internal:list.sort.merge-bound"):=rfl
theorem jz(x y:ZU):ar f x++ar f y=ar f (x++y):=by show Y0 _++Y0 _=Y0 ((x++y).map f);rw[List.append_toArray,U4]
theorem k7(x:ZU)(a:Nat):(ar f x).push (f a)=ar f (x++[a]):=by show (Y0 _).push _=Y0 ((x++[a]).map f);rw[List.push_toArray,U4];rfl
theorem cR(x:ZU):(ar f x).size=x.length:=by show (Y0<|x.map f).size=_;rw[Y6,Z8]
theorem o4(x:ZU)(i j:Nat):(ar f x).extract i j=ar f ((x.drop i).take (j-i)):=by show (Y0<|x.map f).extract i j=Y0 (((x.drop i).take (j-i)).map f);rw[List.extract_toArray,List.extract_eq_take_drop,List.map_take,List.map_drop]
theorem Bd(x:ZU)(i:Nat):(ar f x).extract i (ar f x).size=ar f (x.drop i):=by rw[o4,cR,N3 (by rw[K4];exact bi _)]
theorem Be(a b o:ZU)(i j:Nat):fA (ar f a) (ar f b) (ar f o) i j=ar f (o++a.drop i++b.drop j):=by unfold fA;rw[Bd,Bd,jz,jz]
structure JJ(T:ZK)(o P R al:ZU):Prop where
 pm:(o++(P++R)).Perm al
 p1:(o++P).Pairwise T
 p2:(o++R).Pairwise T
theorem JJ.flip(h:JJ T o P R al):JJ T o R P al:=⟨(List.Perm.append_left _ List.perm_append_comm).trans h.pm,h.p2,h.p1⟩
theorem JJ.mv(h:JJ T o (U++P) R al)(hu:∀u∈U,∀r∈R,T u r):JJ T (o++U) P R al:=by have p1:=h.p1;rw[<- X3]at p1;have p2:=W8.mp h.p2;have p3:=W8.mp p1;refine⟨by have:=h.pm;simpa only [X3] using this,p1,W8.mpr ⟨p3.1,p2.2.1,λx hx r hr=>?_⟩⟩;exact(V4.mp hx).elim (λz=>p2.2.2 x z r hr) λz=>hu x z r hr
theorem JJ.end(h:JJ T o P R al)(e:R=[]):(o++P++R).Perm al/\(o++P++R).Pairwise T:=by subst e;refine⟨by have:=h.pm;simpa only [W9] using this,by rw[W9];exact h.p1⟩
theorem JJ.last(h:JJ T o P R al)(hu:∀p∈P,∀r∈R,T r p):(o++R++P).Perm al/\(o++R++P).Pairwise T:=by have p1:=W8.mp h.p1;have p2:=W8.mp h.p2;refine⟨by rw[X3];exact h.flip.pm,W8.mpr ⟨h.p2,p1.2.1,λx hx p hp=>?_⟩⟩;exact(V4.mp hx).elim (λz=>p1.2.2 x z p hp) λz=>hu p hp x z
theorem k8{a:ZU}(h:a[i]?=some x):a.drop i=[x]++a.drop (i+1):=by refine F6 (Z7.mp h) λl e=>?_;rw[G0 l,e];rfl
theorem Bf{a:ZU}:a.drop i=(a.drop i).take k++a.drop (i+k):=by rw[<- List.drop_drop,W4]
theorem k9{a:ZU}(h:u∈a.drop i):∃t,a[i+t]?=some u:=dI (P7 h) λt z=>F6 z λht z=>⟨t,by rw[<- D9,<- z];exact Z9 ht⟩
theorem Bg{a:ZU}(h:u∈(a.drop i).take k):∃t,t<k/\a[i+t]?=some u:=dI (P7 h) λt z=>F6 z λht z=>by have tk:t<k:=cf ht<|D0 _ _;exact⟨t,tk,by rw[<- D9,<- Q3 tk,<- z];exact Z9 ht⟩
structure Two(T:ZK)(X:Zt)(a b:ZU):Prop where
 pa:a.Pairwise T
 pb:b.Pairwise T
 xa:∀x∈a,X x
 xb:∀x∈b,X x
 ne:∀x∈a,∀y∈b,x≠y
 la:∀x,a[a.length-1]?=some x->∀y∈b,T y x
 fb:∀y,b[0]?=some y->∀x∈a,T y x
theorem o5{a:ZU}(h:a.Pairwise T){i j x y:Nat}(hij:i<j)(hx:a[i]?=some x)(hy:a[j]?=some y):T x y :=
 nZ (n:=a.length) (by rw[O6];exact h) hij (Z7.mp hy).1 hx hy
theorem jA(K:Cx M A s κ f T X){b:ZU}(h:b.Pairwise T)(hy:b[j]?=some y)(t:T u y):∀r∈b.drop j,T u r:=λr hr=>dI (k9 hr) λk hk=>by
 cases k with
 |zero=>rw[Nat.add_zero,hy]at hk;exact Z5 hk▸t
 |succ k=>exact K.tr t<|o5 h (by lia) hy hk
def Fn(T:ZK)(f:Nat->Keyed)(al:ZU)(r:Array Keyed):Prop:=∃p:List Nat,r=ar f p/\p.Perm al/\p.Pairwise T
def Wn(T:ZK)(f:Nat->Keyed)(a b:ZU)(N:Nat)(o:Array Keyed)(i j:Nat):Prop :=
 ∃o',o=ar f o'/\JJ T o' (a.drop i) (b.drop j) (a++b)/\i+1<a.length/\j<b.length/\N<=i+j
def Wm(T:ZK)(f:Nat->Keyed)(a b:ZU)(N:Nat)(r:Option (Array Keyed))(o:Array Keyed)(i j:Nat):Prop :=
 (∃z,r=some z/\Fn T f (a++b) z)\/(r=none/\Wn T f a b N o i j)
theorem rX(h:JJ T o (a.drop i) (b.drop j) (a++b))(e:j=b.length):Fn T f (a++b) (fA (ar f a) (ar f b) (ar f o) i j) :=
 ⟨_,Be a b o i j,h.end<|List.drop_eq_nil_of_le<|bM e.symm⟩
theorem fn_endA(h:JJ T o (a.drop i) (b.drop j) (a++b))(e:i=a.length):Fn T f (a++b) (fA (ar f a) (ar f b) (ar f o) i j):=by refine⟨_,Be a b o i j,?_⟩;have e':a.drop i=[]:=List.drop_eq_nil_of_le<|bM e.symm;have:=h.flip.end e';rw[e',W9]at this ⊢;exact this
theorem mI(H:Two T X a b)(h:JJ T o (a.drop i) (b.drop j) (a++b))(e:i+1=a.length):Fn T f (a++b) (fA (ar f b) (ar f a) (ar f o) j i):=by refine⟨_,Be b a o j i,h.last λp hp r hr=>?_⟩;obtain⟨t,ht⟩:=k9 hp;have:=(Z7.mp ht).1;refine H.la p ?_ r<|G9 hr;rw[<- ht];congr 1;lia
def P1(T:ZK)(f:Nat->Keyed)(a b:ZU)(N:Nat):ForInStep Z1->Prop
 |.done z=>Wm T f a b N z.1 z.2.1 z.2.2.1 z.2.2.2.1
 |.yield z=>z.1=none/\Wn T f a b N z.2.1 z.2.2.1 z.2.2.2.1
def P2(T:ZK)(f:Nat->Keyed)(a b:ZU)(N:Nat):ForInStep Z2->Prop
 |.done z=>Wm T f a b N z.1 z.2.1 z.2.2.1 z.2.2.2.1
 |.yield z=>z.1=none/\Wn T f a b N z.2.1 z.2.2.1 z.2.2.2.1
theorem w1_ok(K:Cx M A s κ f T X)(H:Two T X a b){st:SortSt}{Q:ForInStep Z1->SortSt->Prop}(hk:kindOf st=κ)(W:Wn T f a b N o i j)(h:∀r,P1 T f a b (N+1) r->Q r st):
  wpS M A E s (w1 (ar f a) (ar f b) g (none,o,i,j,c,d)) Q st:=by
 obtain⟨o',rfl,J,hi,hj,hN⟩:=W;obtain⟨x,hx,mx⟩:=has (V:=a) (i:=i) (by lia);obtain⟨y,hy,my⟩:=has (V:=b) (i:=j) hj;unfold w1;dsimp only;refine X4<|cL hy<|X4<|cL hx<|X4 (ua K hk (H.xb y my) (H.xa x mx) (λt=>?_) λt=>?_)
 ·have J':JJ T (o'++[y]) (a.drop i) (b.drop<|j+1) (a++b):=by have:=J.flip;rw[k8 hy]at this;exact(this.mv λu hu=>by rw[Y5.mp hu];exact jA K H.pa hx t).flip
  refine X4<|cL hy ?_;rw[k7,cR];by_cases e:j+1=b.length
  ·rw[if_pos (by rw[e];exact beq_self_eq_true _)];exact X8<|h _<|.inl ⟨_,rfl,rX J' e⟩
  ·rw[if_neg λz=>e<|eq_of_beq z];have w:Wn T f a b (N+1) (ar f<|o'++[y]) i (j+1):=⟨_,rfl,J',hi,by lia,by lia⟩;by_cases q:d+1 ≥ g
   ·rw[if_pos q];exact X8<|h _<|.inr ⟨rfl,w⟩
   ·rw[if_neg q];exact X8<|h _ ⟨rfl,w⟩
 ·have t:=t.resolve_left<|R6<|H.ne x mx y my;have J':JJ T (o'++[x]) (a.drop<|i+1) (b.drop j) (a++b):=by have:=J;rw[k8 hx]at this;exact this.mv λu hu=>by rw[Y5.mp hu];exact jA K H.pb hy t
  refine X4<|cL hx ?_;rw[k7,cR];by_cases e:i+1+1=a.length
  ·rw[if_pos (by rw[e];exact beq_self_eq_true _)];exact X8<|h _<|.inl ⟨_,rfl,mI H J' e⟩
  ·rw[if_neg λz=>e<|eq_of_beq z];have w:Wn T f a b (N+1) (ar f<|o'++[x]) (i+1) j:=⟨_,rfl,J',by lia,hj,by lia⟩;by_cases q:c+1 ≥ g
   ·rw[if_pos q];exact X8<|h _<|.inr ⟨rfl,w⟩
   ·rw[if_neg q];exact X8<|h _ ⟨rfl,w⟩
theorem q4_ok(K:Cx M A s κ f T X)(H:Two T X a b){st:SortSt}{Q:ForInStep Z2->SortSt->Prop}(J:JJ T o (a.drop i) (b.drop j) (a++b))(hi:i+1<a.length)(hj:j<b.length)(hN:N<=i+j)(hx:a[i]?=some x)(hy:b[j]?=some y)(t:T x y)(h:∀r,P2 T f a b N r->Q r st):
  wpS M A E s (q4 (ar f a) (ar f b) i g c d (ar f o) j) Q st:=by
 unfold q4;have J':JJ T (o++[x]) (a.drop<|i+1) (b.drop j) (a++b):=by have:=J;rw[k8 hx]at this;exact this.mv λu hu=>by rw[Y5.mp hu];exact jA K H.pb hy t
 refine X4<|cL hx ?_;rw[k7,cR];by_cases e:i+1+1=a.length
 ·rw[if_pos (by rw[e];exact beq_self_eq_true _)];exact X8<|h _<|.inl ⟨_,rfl,mI H J' e⟩
 ·rw[if_neg λz=>e<|eq_of_beq z];have w:Wn T f a b N (ar f<|o++[x]) (i+1) j:=⟨_,rfl,J',by omega,hj,by omega⟩;by_cases q:(decide (c<7)&&decide (d<7))=true
  ·rw[if_pos q];exact X8<|h _<|.inr ⟨rfl,w⟩
  ·rw[if_neg q];exact X8<|h _ ⟨rfl,w⟩
theorem dd{a:ZU}(h:t<a.length-i):a[i+t]?=some ((a[i+t]?).getD 0):=by rw[Z9 (by omega)];rfl
theorem Bh{a:ZU}(h:t<a.length-i):(a[i+t]?).getD 0∈a:=V3<|dd h
theorem galR(K:Cx M A s κ f T X){Q:Option Nat->SortSt->Prop}{st:SortSt}(hk:kindOf st=κ)(hy:X ky)(hX:∀x∈a,X x)(ne:∀x∈a,x≠ky)(pa:a.Pairwise T)(hi:i<a.length)(h:∀k,k<=a.length-i->(∀u∈(a.drop i).take k,T u ky)->(∀u,a[i+k]?=some u->T ky u)->Q (some k) st):wpS M A E s (xG L (f ky) (ar f a) i ((ar f a).size-i) 0) Q st:=by
 rw[cR];refine rT K (d:=λt=>(a[i+t]?).getD 0) hk hy (λt ht=>hX _<|Bh ht) (λt ht=>dd ht) (λt ht=>ne _<|Bh ht) (λp q pq hq=>o5 pa (i:=i+p) (j:=i+q) (by lia) (dd (by lia))<|dd hq) (by lia) λk hk' h0 h1=>h k hk' (λu hu=>?_) λu hu=>?_
 ·obtain⟨t,ht,e⟩:=Bg hu;have:=h0 t ht;rw[e]at this;exact this
 ·have:=h1 k (bi _) (by have:=(Z7.mp hu).1;lia);rw[hu]at this;exact this
theorem q3_ok(K:Cx M A s κ f T X)(H:Two T X a b){st:SortSt}{Q:ForInStep Z2->SortSt->Prop}(hk:kindOf st=κ)(J:JJ T o (a.drop i) (b.drop j) (a++b))(hi:i+1<a.length)(hj:j<b.length)(hN:N<=i+j)(h:∀r,P2 T f a b N r->Q r st):
  wpS M A E s (q3 (ar f a) (ar f b) i g c d (ar f o) j) Q st:=by
 unfold q3;obtain⟨x,hx,mx⟩:=has (V:=a) (i:=i) (by lia);refine X4<|cL hx<|X4 (galR K hk (H.xa x mx) H.xb (λy hy=>R6<|H.ne x mx y hy) H.pb hj λk hk' h0 h1=>?_);dsimp only;have J':JJ T (o++(b.drop j).take k) (a.drop i) (b.drop<|j+k) (a++b):=by have:=J.flip;rw[Bf (a:=b) (i:=j) (k:=k)]at this;exact(this.mv λu hu=>jA K H.pa hx<|h0 u hu).flip
 by_cases kz:k > 0
 ·rw[if_pos kz,o4,jz,Q0,cR];by_cases e:j+k=b.length
  ·rw[if_pos (by rw[e];exact beq_self_eq_true _)];exact X8<|h _<|.inl ⟨_,rfl,rX J' e⟩
  ·rw[if_neg λz=>e<|eq_of_beq z];obtain⟨y,hy,my⟩:=has (V:=b) (i:=j+k) (by lia);exact q4_ok K H J' hi (by lia) (by lia) hx hy (h1 y hy) h
 ·rw[if_neg kz];have:k=0:=by lia
  subst this;obtain⟨y,hy,my⟩:=has (V:=b) (i:=j) (by lia);exact q4_ok K H J hi hj hN hx hy (h1 y hy) h
theorem q2_ok(K:Cx M A s κ f T X)(H:Two T X a b){st:SortSt}{Q:ForInStep Z2->SortSt->Prop}(hk:kindOf st=κ)(J:JJ T o (a.drop i) (b.drop j) (a++b))(hi:i+1<a.length)(hj:j<b.length)(hN:N<=i+j)(hx:a[i]?=some x)(hy:b[j]?=some y)(t:T y x)(h:∀r,P2 T f a b N r->Q r st):
  wpS M A E s (q2 (ar f a) (ar f b) j g c d (ar f o) i) Q st:=by
 unfold q2;have J':JJ T (o++[y]) (a.drop i) (b.drop<|j+1) (a++b):=by have:=J.flip;rw[k8 hy]at this;exact(this.mv λu hu=>by rw[Y5.mp hu];exact jA K H.pa hx t).flip
 refine X4<|cL hy ?_;rw[k7,cR];by_cases e:j+1=b.length
 ·rw[if_pos (by rw[e];exact beq_self_eq_true _)];exact X8<|h _<|.inl ⟨_,rfl,rX J' e⟩
 ·rw[if_neg λz=>e<|eq_of_beq z];exact q3_ok K H hk J' hi (by lia) (by lia) h
theorem q1_ok(K:Cx M A s κ f T X)(H:Two T X a b){Q:ForInStep Z2->SortSt->Prop}(W:Wn T f a b N o i j)(h:∀r,P2 T f a b N r->Q r (St κ f l pd g)):
  wpS M A E s (q1 (ar f a) (ar f b) o i j c d g) Q (St κ f l pd g0):=by
 obtain⟨o',rfl,J,hi,hj,hN⟩:=W;unfold q1;rw[rV];refine X4<|wpS_modify ?_;show wpS M A E s _ Q (St κ f l pd g);obtain⟨y,hy,my⟩:=has (V:=b) (i:=j) hj;refine X4<|cL hy<|X4 (galR K rfl (H.xb y my) H.xa (λx hx=>H.ne x hx y my) H.pa (by lia) λk hk' h0 h1=>?_);dsimp only;have J':JJ T (o'++(a.drop i).take k) (a.drop<|i+k) (b.drop j) (a++b):=by have:=J;rw[Bf (a:=a) (i:=i) (k:=k)]at this;exact this.mv λu hu=>jA K H.pb hy<|h0 u hu
 by_cases kz:k > 0
 ·rw[if_pos kz,o4,jz,Q0,cR];by_cases e:i+k+1=a.length
  ·rw[if_pos (by rw[e];exact beq_self_eq_true _)];exact X8<|h _<|.inl ⟨_,rfl,mI H J' e⟩
  ·rw[if_neg λz=>e<|eq_of_beq z];by_cases e2:i+k=a.length
   ·rw[if_pos (by rw[e2];exact beq_self_eq_true _)];exact X8<|h _<|.inl ⟨_,rfl,fn_endA J' e2⟩
   ·rw[if_neg λz=>e2<|eq_of_beq z];obtain⟨x,hx,mx⟩:=has (V:=a) (i:=i+k) (by lia);exact q2_ok K H rfl J' (by lia) hj (by lia) hx hy (h1 x hx) h
 ·rw[if_neg kz];have:k=0:=by lia
  subst this;obtain⟨x,hx,mx⟩:=has (V:=a) (i:=i) (by lia);exact q2_ok K H rfl J hi hj hN hx hy (h1 x hx) h
theorem Wn.le(h:Wn T f a b N o i j)(q:N'<=N):Wn T f a b N' o i j:=oq15 h λo' e J hi hj hN=>⟨o',e,J,hi,hj,aR q hN⟩
theorem Wm.le(h:Wm T f a b N r o i j)(q:N'<=N):Wm T f a b N' r o i j:=h.imp id λz=>⟨z.1,z.2.le q⟩
theorem kd{α:Type}{c:Prop}[Decidable c]{t e:StateT SortSt Sem α}{Q:α->SortSt->Prop}{st:SortSt}(h:c)(k:wpS M A E s t Q st):wpS M A E s (if c then t else e) Q st:=by rw[if_pos h];exact k
theorem ke{α:Type}{c:Prop}[Decidable c]{t e:StateT SortSt Sem α}{Q:α->SortSt->Prop}{st:SortSt}(h:¬ c)(k:wpS M A E s e Q st):wpS M A E s (if c then t else e) Q st:=by rw[if_neg h];exact k
theorem mlo_ok(K:Cx M A s κ f T X)(H:Two T X a b)(ha:1<=a.length)(hb:1<=b.length){Q:Array Keyed->SortSt->Prop}(h:∀r g,Fn T f (a++b) r->Q r (St κ f l pd g)):
  wpS M A E s (mlo (ar f a)<|ar f b) Q (St κ f l pd g0):=by
 rw[mlo_eq];refine X4<|wpS_lift<|E4 ⟨rfl,?_⟩;obtain⟨y,hy,my⟩:=has (V:=b) (i:=0) hb;refine X4<|cL hy ?_;have J:JJ T [y] (a.drop 0) (b.drop 1) (a++b):=by have j0:JJ T [] b a (a++b):=⟨show (b++a).Perm (a++b) from List.perm_append_comm,H.pb,H.pa⟩;have e:b=[y]++b.drop 1:=k8 hy;have j0:JJ T [] ([y]++b.drop 1) a (a++b):=e▸j0;exact(j0.mv λu hu=>by rw[Y5.mp hu];exact H.fb y hy).flip
 have sa:=cR (f:=f) a;have sb:=cR (f:=f) b;by_cases e:1=b.length
 ·exact kd (by rw[sb,<- e];rfl)<|X8<|h _ _<|rX J e
 ·refine ke (λz=>e<|(eq_of_beq z).trans sb) ?_;by_cases e2:0+1=a.length
  ·exact kd (by rw[sa,<- e2];rfl)<|X8<|h _ _<|mI H J e2
  ·refine ke (λz=>e2<|(eq_of_beq z).trans sa) ?_;refine X4<|wpS_get<|X4<|wpS_mono (N2 (I:=λn c st=>(∃g,st=St κ f l pd g)/\c.1=none/\Wn T f a b n c.2.1 c.2.2.1 c.2.2.2.1) (Q:=λc st=>(∃g,st=St κ f l pd g)/\∃z,c.1=some z/\Fn T f (a++b) z) ?_ ?_ ⟨⟨g0,rfl⟩,rfl,[y],rfl,J,show 0+1<a.length by lia,show 1<b.length by lia,U5 _⟩) ?_
   ·intro n c st _ hn z;obtain⟨⟨g1,rfl⟩,e1,W⟩:=z;refine X4<|wpS_mono (N2 (I:=λm c st'=>st'=St κ f l pd g1/\c.1=none/\Wn T f a b (n+m) c.2.1 c.2.2.1 c.2.2.2.1) (Q:=λc st'=>st'=St κ f l pd g1/\Wm T f a b (n+1) c.1 c.2.1 c.2.2.1 c.2.2.2.1) ?_ ?_ ⟨rfl,rfl,W⟩) ?_
    ·intro m c st _ hm z;obtain⟨rfl,e2,W⟩:=z;refine w1_ok (i:=c.2.2.1) (j:=c.2.2.2.1) (c:=c.2.2.2.2.1) (d:=c.2.2.2.2.2) K H rfl W λr p=>?_;cases r with
     |done z=>exact⟨rfl,Wm.le p (by lia)⟩
     |yield z=>exact⟨rfl,p⟩
    ·intro c st z;exact⟨z.1,.inr ⟨z.2.1,z.2.2.le (by lia)⟩⟩
    ·intro c st z;obtain⟨rfl,W⟩:=z;rcases W with W|W
     ·obtain⟨z,e,w⟩:=W;rw[e];exact X8 ⟨⟨_,rfl⟩,z,rfl,w⟩
     ·rw[W.1];refine X4<|wpS_lift<|E4 ⟨rfl,?_⟩;refine X4<|wpS_mono (N2 (I:=λm c st'=>(∃g,st'=St κ f l pd g)/\c.1=none/\Wn T f a b (n+1) c.2.1 c.2.2.1 c.2.2.2.1) (Q:=λc st'=>(∃g,st'=St κ f l pd g)/\Wm T f a b (n+1) c.1 c.2.1 c.2.2.1 c.2.2.2.1) ?_ ?_ ⟨⟨_,rfl⟩,rfl,W.2⟩) ?_
      ·intro m c st _ hm z;obtain⟨⟨g2,rfl⟩,e2,W⟩:=z;by_cases q:c.2.2.2.2.1 > 1
       ·rw[if_pos q];exact q1_ok (i:=c.2.2.1) (j:=c.2.2.2.1) (g:=c.2.2.2.2.1-1) (c:=c.2.2.2.2.2.1) (d:=c.2.2.2.2.2.2) K H W λr p=>by cases r<;>exact⟨⟨_,rfl⟩,p⟩
       ·rw[if_neg q];exact q1_ok (i:=c.2.2.1) (j:=c.2.2.2.1) (g:=c.2.2.2.2.1) (c:=c.2.2.2.2.2.1) (d:=c.2.2.2.2.2.2) K H W λr p=>by cases r<;>exact⟨⟨_,rfl⟩,p⟩
      ·intro c st z;exact⟨z.1,.inr z.2⟩
      ·intro c st z;obtain⟨⟨g2,rfl⟩,W⟩:=z;rcases W with W|W
       ·obtain⟨z,e,w⟩:=W;rw[e];exact X8 ⟨⟨_,rfl⟩,z,rfl,w⟩
       ·rw[W.1];dsimp only;rw[rV];exact X4<|wpS_modify<|X8 ⟨⟨_,rfl⟩,rfl,W.2⟩
   ·intro c st z;obtain⟨eg,e1,o',_,_,w1,w2,w3⟩:=z;rw[sa,sb]at w3;lia
   ·intro c st z;obtain⟨⟨g2,rfl⟩,v,e,w⟩:=z;rw[e];exact X8<|h v g2 w
end
section
variable {M:Model}{A:Around}{E:ZX}{s:Shared}{κ:SortKind}{f:Nat->Keyed}{T:ZK}{X:Zt}
def fB(x y o:Array Keyed)(p q:Nat):Array Keyed:=x.extract 0 p++y.extract 0 q++o.reverse
abbrev Y2:=Option (Array Keyed)×Nat×Nat×Array Keyed×Nat×Nat×Nat
def h4(x y:Array Keyed)(p g c d:Nat)(o:Array Keyed)(q:Nat):StateT SortSt Sem (ForInStep Y2):=do
 let z <- elem' x (p-1)
 if p-1==0 then pure (.done (some<|fB x y (o.push z) (p-1) q,p-1,q,o.push z,g,c,d))
 else if c<7&&d<7 then pure (.done (none,p-1,q,o.push z,g,c,d)) else pure (.yield (none,p-1,q,o.push z,g,c,d))
def h3(x y:Array Keyed)(p g c d:Nat)(o:Array Keyed)(q:Nat):StateT SortSt Sem (ForInStep Y2):=do
 match <- xG true (<- elem' x (p-1)) y 0 q (q-1) with
 |some t=>if q-t > 0 then (if t==1 then pure (.done (some<|fB y x (o++(y.extract t q).reverse) t p,p,t,o++(y.extract t q).reverse,g,c,q-t)) else if t==0 then pure (.done (some<|fB x y (o++(y.extract t q).reverse) p t,p,t,o++(y.extract t q).reverse,g,c,q-t)) else h4 x y p g c (q-t) (o++(y.extract t q).reverse) t) else h4 x y p g c (q-t) o q
 |_=>pure<|.done (some<|fB x y o p q,p,q,o,g,c,d)
def h2(x y:Array Keyed)(q g c d:Nat)(o:Array Keyed)(p:Nat):StateT SortSt Sem (ForInStep Y2):=do
 let z <- elem' y (q-1)
 if q-1==1 then pure (.done (some<|fB y x (o.push z) (q-1) p,p,q-1,o.push z,g,c,d)) else h3 x y p g c d (o.push z) (q-1)
def h1(x y:Array Keyed)(p q:Nat)(o:Array Keyed)(c d g:Nat):StateT SortSt Sem (ForInStep Y2):=do
 smg g
 match <- xG false (<- elem' y (q-1)) x 0 p (p-1) with
 |some t=>if p-t > 0 then (if t==0 then pure (.done (some<|fB x y (o++(x.extract t p).reverse) t q,t,q,o++(x.extract t p).reverse,g,p-t,d)) else h2 x y q g (p-t) d (o++(x.extract t p).reverse) t) else h2 x y q g (p-t) d o p
 |_=>pure<|.done (some<|fB x y o p q,p,q,o,g,c,d)
abbrev Y1:=Option (Array Keyed)×Nat×Nat×Array Keyed×Nat×Nat
def v1(x y:Array Keyed)(g:Nat)(z:Y1):StateT SortSt Sem (ForInStep Y1):=do
 match <- lt' (<- elem' y (z.2.2.1-1)) (<- elem' x (z.2.1-1)) with
 |some w =>
  if w=true then do
   let e <- elem' x (z.2.1-1)
   if z.2.1-1==0 then pure (.done (some<|fB x y (z.2.2.2.1.push e) (z.2.1-1) z.2.2.1,z.2.1-1,z.2.2.1,z.2.2.2.1.push e,z.2.2.2.2.1+1,0))
   else if z.2.2.2.2.1+1 ≥ g then pure (.done (none,z.2.1-1,z.2.2.1,z.2.2.2.1.push e,z.2.2.2.2.1+1,0)) else pure (.yield (none,z.2.1-1,z.2.2.1,z.2.2.2.1.push e,z.2.2.2.2.1+1,0))
  else do
   let e <- elem' y (z.2.2.1-1)
   if z.2.2.1-1==1 then pure (.done (some<|fB y x (z.2.2.2.1.push e) (z.2.2.1-1) z.2.1,z.2.1,z.2.2.1-1,z.2.2.2.1.push e,0,z.2.2.2.2.2+1))
   else if z.2.2.2.2.2+1 ≥ g then pure (.done (none,z.2.1,z.2.2.1-1,z.2.2.2.1.push e,0,z.2.2.2.2.2+1)) else pure (.yield (none,z.2.1,z.2.2.1-1,z.2.2.2.1.push e,0,z.2.2.2.2.2+1))
 |_=>pure<|.done (some<|fB x y z.2.2.2.1 z.2.1 z.2.2.1,z.2.1,z.2.2.1,z.2.2.2.1,z.2.2.2.2.1,z.2.2.2.2.2)
theorem mhi_eq(x y:Array Keyed):mhi x y=(do
  rule "list.sort.merge-hi"
  let mut p:=x.size-1
  let mut q:=y.size
  let mut o:Array Keyed:=#[<- elem' x p]
  if p==0 then return fB x y o p q
  if q==1 then return fB y x o q p
  let mut g:=gallopOf (<- get)
  for _ in [0:x.size+y.size] do
   let mut c:=0
   let mut d:=0
   for _ in [0:x.size+y.size] do
    let some w <- lt' (<- elem' y (q-1)) (<- elem' x (p-1))|return fB x y o p q
    if w then
     p:=p-1;o:=o.push<|<- elem' x p;c:=c+1;d:=0
     if p==0 then return fB x y o p q
     if c ≥ g then break
    else
     q:=q-1;o:=o.push<|<- elem' y q;d:=d+1;c:=0
     if q==1 then return fB y x o q p
     if d ≥ g then break
   rule "list.sort.gallop"
   g:=g+1
   for _ in [0:x.size+y.size] do
    if g > 1 then g:=g-1
    smg g
    let some t <- xG false (<- elem' y (q-1)) x 0 p (p-1)|return fB x y o p q
    let k:=p-t
    c:=k
    if k > 0 then
     o:=o++(x.extract t p).reverse;p:=t
     if p==0 then return fB x y o p q
    q:=q-1;o:=o.push (<- elem' y q)
    if q==1 then return fB y x o q p
    let some t <- xG true (<- elem' x (p-1)) y 0 q (q-1)|return fB x y o p q
    let k:=q-t
    d:=k
    if k > 0 then
     o:=o++(y.extract t q).reverse;q:=t
     if q==1 then return fB y x o q p
     if q==0 then return fB x y o p q
    p:=p-1;o:=o.push (<- elem' x p)
    if p==0 then return fB x y o p q
    if c<7&&d<7 then break
   g:=g+1
   smg g
  unsupported "internal:list.sort.merge-bound"):=rfl
theorem Bi(x:ZU):(ar f x).reverse=ar f x.reverse:=by show (Y0<|x.map f).reverse=Y0 (x.reverse.map f);rw[List.reverse_toArray,List.map_reverse]
theorem kf(x:ZU)(a:Nat):(ar f x.reverse).push (f a)=ar f (a ::x).reverse:=by rw[k7,List.reverse_cons]
theorem Bj(x a:ZU)(t p:Nat):ar f x.reverse++((ar f a).extract t p).reverse=ar f ((a.drop t).take (p-t)++x).reverse:=by rw[o4,Bi,jz,List.reverse_append]
theorem Bk(a b o:ZU)(p q:Nat):fB (ar f a) (ar f b) (ar f o.reverse) p q=ar f (a.take p++b.take q++o):=by unfold fB;rw[o4,o4,jz,Bi,jz,List.reverse_reverse];rfl
structure KK(T:ZK)(P R o al:ZU):Prop where
 pm:((P++R)++o).Perm al
 p1:(P++o).Pairwise T
 p2:(R++o).Pairwise T
theorem KK.flip(h:KK T P R o al):KK T R P o al:=⟨(List.Perm.append_right _ List.perm_append_comm).trans h.pm,h.p2,h.p1⟩
theorem KK.mv(h:KK T (P++U) R o al)(hu:∀u∈U,∀r∈R,T r u):KK T P R (U++o) al:=by
 have p1:=h.p1;rw[X3]at p1;have p2:=W8.mp h.p2;have p3:=W8.mp p1;refine⟨List.Perm.trans ?_ h.pm,p1,W8.mpr ⟨p2.1,p3.2.1,λr hr x hx=>?_⟩⟩
 ·rw[<- X3];refine List.Perm.append_right _ ?_;rw[X3,X3];exact List.Perm.append_left _ List.perm_append_comm
 ·exact(V4.mp hx).elim (λz=>hu x z r hr) λz=>p2.2.2 r hr x z
theorem KK.end(h:KK T P R o al)(e:P=[]):(P++R++o).Perm al/\(P++R++o).Pairwise T:=by subst e;exact⟨h.pm,h.p2⟩
theorem KK.last(h:KK T P R o al)(hu:∀r∈R,∀p∈P,T r p):(R++P++o).Perm al/\(R++P++o).Pairwise T:=by have p1:=W8.mp h.p1;have p2:=W8.mp h.p2;refine⟨h.flip.pm,?_⟩;rw[X3];refine W8.mpr ⟨p2.1,h.p1,λr hr x hx=>?_⟩;exact(V4.mp hx).elim (λz=>hu r hr x z) λz=>p2.2.2 r hr x z
theorem kg{a:ZU}(h:a[p-1]?=some x)(hp:1<=p):a.take p=a.take (p-1)++[x]:=by rw[show p=p-1+1 by lia,List.take_succ,Nat.add_sub_cancel,h];rfl
theorem Bl{a:ZU}(h:t<=p):a.take p=a.take t++(a.drop t).take (p-t):=by
 rw[<- List.drop_take]
 conv=>lhs;rw[<- W4 t (a.take p),List.take_take,O3 h]
theorem o6{a:ZU}(h:u∈a.take k):∃t,t<k/\a[t]?=some u:=dI (P7 h) λt z=>F6 z λht z=>by have tk:t<k:=cf ht<|D0 _ _;exact⟨t,tk,by rw[<- Q3 tk,<- z];exact Z9 ht⟩
theorem rY(K:Cx M A s κ f T X){b:ZU}(h:b.Pairwise T)(hy:b[q-1]?=some y)(t:T y u):∀r∈b.take q,T r u:=λr hr=>aU (o6 hr) λk hk e=>by
 rcases G8 k (q-1) with z|z
 ·exact K.tr (o5 h z e hy) t
 ·rw[show k=q-1 by lia,hy]at e;exact Z5 e▸t
theorem galH(K:Cx M A s κ f T X){Q:Option Nat->SortSt->Prop}{st:SortSt}(hk:kindOf st=κ)(hy:X ky)(hX:∀x∈a,X x)(ne:∀x∈a,x≠ky)(pa:a.Pairwise T)(hp:p<=a.length)(h1:1<=p)(h:∀t,t<=p->(∀u∈a.take t,T u ky)->(∀u∈(a.drop t).take (p-t),T ky u)->Q (some t) st):wpS M A E s (xG L (f ky) (ar f a) 0 p<|p-1) Q st:=by
 have at0:∀i,i<p->a[0+i]?=some ((a[i]?).getD 0):=λi hi=>by rw[Nat.zero_add,Z9 (by lia)];rfl
 have mem:∀i,i<p->(a[i]?).getD 0∈a:=λi hi=>V3<|at0 i hi;refine rT K (d:=λt=>(a[t]?).getD 0) hk hy (λt ht=>hX _<|mem t ht) at0 (λt ht=>ne _<|mem t ht) (λp' q pq hq=>o5 pa (i:=0+p') (j:=0+q) (by lia) (at0 _ (by lia))<|at0 _ hq) (by lia) λt ht h0 h1=>h t ht (λu hu=>?_) λu hu=>?_
 ·obtain⟨i,hi,e⟩:=o6 hu;have:=h0 i hi;rw[e]at this;exact this
 ·obtain⟨i,hi,e⟩:=Bg hu;have:=h1 (t+i) (by lia) (by lia);rw[e]at this;exact this
def Vn(T:ZK)(f:Nat->Keyed)(a b:ZU)(N:Nat)(o:Array Keyed)(p q:Nat):Prop :=
 ∃o',o=ar f o'.reverse/\KK T (a.take p) (b.take q) o' (a++b)/\(1<=p/\p<=a.length)/\(2<=q/\q<=b.length)/\N+p+q<=a.length+b.length
def Vm(T:ZK)(f:Nat->Keyed)(a b:ZU)(N:Nat)(r:Option (Array Keyed))(o:Array Keyed)(i j:Nat):Prop :=
 (∃z,r=some z/\Fn T f (a++b) z)\/(r=none/\Vn T f a b N o i j)
theorem rZ(h:KK T (a.take p) (b.take q) o (a++b))(e:p=0):Fn T f (a++b) (fB (ar f a) (ar f b) (ar f o.reverse) p q):=⟨_,Bk a b o p q,h.end (by rw[e,List.take_zero])⟩
theorem gn_endB(h:KK T (a.take p) (b.take q) o (a++b))(e:q=0):Fn T f (a++b) (fB (ar f a) (ar f b) (ar f o.reverse) p q):=by
 refine⟨_,Bk a b o p q,?_⟩;have e':b.take q=[]:=by rw[e,List.take_zero]
 have:=h.flip.end e';rw[e',W9];rw[e',List.nil_append]at this;exact this
theorem mJ(H:Two T X a b)(h:KK T (a.take p) (b.take q) o (a++b))(e:q=1):Fn T f (a++b) (fB (ar f b) (ar f a) (ar f o.reverse) q p):=by refine⟨_,Bk b a o q p,h.last λr hr x hx=>?_⟩;obtain⟨i,hi,z⟩:=o6 hr;rw[show i=0 by lia]at z;exact H.fb r z x<|F7 hx
def tSq1(T:ZK)(f:Nat->Keyed)(a b:ZU)(N:Nat):ForInStep Y1->Prop
 |.done z=>Vm T f a b N z.1 z.2.2.2.1 z.2.1 z.2.2.1
 |.yield z=>z.1=none/\Vn T f a b N z.2.2.2.1 z.2.1 z.2.2.1
def S2'(T:ZK)(f:Nat->Keyed)(a b:ZU)(N:Nat):ForInStep Y2->Prop
 |.done z=>Vm T f a b N z.1 z.2.2.2.1 z.2.1 z.2.2.1
 |.yield z=>z.1=none/\Vn T f a b N z.2.2.2.1 z.2.1 z.2.2.1
theorem v1_ok(K:Cx M A s κ f T X)(H:Two T X a b){st:SortSt}{Q:ForInStep Y1->SortSt->Prop}(hk:kindOf st=κ)(W:Vn T f a b N o p q)(h:∀r,tSq1 T f a b (N+1) r->Q r st):
  wpS M A E s (v1 (ar f a) (ar f b) g (none,p,q,o,c,d)) Q st:=by
 obtain⟨o',rfl,J,hp,hq,hN⟩:=W;obtain⟨x,hx,mx⟩:=has (V:=a) (i:=p-1) (by lia);obtain⟨y,hy,my⟩:=has (V:=b) (i:=q-1) (by lia);unfold v1;dsimp only;refine X4<|cL hy<|X4<|cL hx<|X4 (ua K hk (H.xb y my) (H.xa x mx) (λt=>?_) λt=>?_)
 ·have J':KK T (a.take<|p-1) (b.take q) ([x]++o') (a++b):=by have:=J;rw[kg hx hp.1]at this;exact this.mv λu hu=>by rw[Y5.mp hu];exact rY K H.pb hy t
  refine X4<|cL hx ?_;rw[kf];by_cases e:p-1=0
  ·rw[if_pos (by rw[e];exact beq_self_eq_true _)];exact X8<|h _<|.inl ⟨_,rfl,rZ J' e⟩
  ·rw[if_neg λz=>e<|eq_of_beq z];have w:Vn T f a b (N+1) (ar f (x ::o').reverse) (p-1) q:=⟨_,rfl,J',by lia,hq,by lia⟩;by_cases q:c+1 ≥ g
   ·rw[if_pos q];exact X8<|h _<|.inr ⟨rfl,w⟩
   ·rw[if_neg q];exact X8<|h _ ⟨rfl,w⟩
 ·have t:=t.resolve_left<|R6<|H.ne x mx y my;have J':KK T (a.take p) (b.take<|q-1) ([y]++o') (a++b):=by have:=J.flip;rw[kg hy (by lia)]at this;exact(this.mv λu hu=>by rw[Y5.mp hu];exact rY K H.pa hx t).flip
  refine X4<|cL hy ?_;rw[kf];by_cases e:q-1=1
  ·rw[if_pos (by rw[e];exact beq_self_eq_true _)];exact X8<|h _<|.inl ⟨_,rfl,mJ H J' e⟩
  ·rw[if_neg λz=>e<|eq_of_beq z];have w:Vn T f a b (N+1) (ar f (y ::o').reverse) p (q-1):=⟨_,rfl,J',hp,by lia,by lia⟩;by_cases q:d+1 ≥ g
   ·rw[if_pos q];exact X8<|h _<|.inr ⟨rfl,w⟩
   ·rw[if_neg q];exact X8<|h _ ⟨rfl,w⟩
theorem h4_ok(K:Cx M A s κ f T X)(H:Two T X a b){st:SortSt}{Q:ForInStep Y2->SortSt->Prop}(J:KK T (a.take p) (b.take q) o (a++b))(hp:1<=p/\p<=a.length)(hq:2<=q/\q<=b.length)(hN:N+p+q<=a.length+b.length)(hx:a[p-1]?=some x)(t:∀u∈b.take q,T u x)(h:∀r,S2' T f a b N r->Q r st):
  wpS M A E s (h4 (ar f a) (ar f b) p g c d (ar f o.reverse) q) Q st:=by
 unfold h4;have J':KK T (a.take<|p-1) (b.take q) ([x]++o) (a++b):=by have:=J;rw[kg hx hp.1]at this;exact this.mv λu hu=>by rw[Y5.mp hu];exact t
 refine X4<|cL hx ?_;rw[kf];by_cases e:p-1=0
 ·rw[if_pos (by rw[e];exact beq_self_eq_true _)];exact X8<|h _<|.inl ⟨_,rfl,rZ J' e⟩
 ·rw[if_neg λz=>e<|eq_of_beq z];have w:Vn T f a b N (ar f (x ::o).reverse) (p-1) q:=⟨_,rfl,J',by omega,hq,by omega⟩;by_cases z:(decide (c<7)&&decide (d<7))=true
  ·rw[if_pos z];exact X8<|h _<|.inr ⟨rfl,w⟩
  ·rw[if_neg z];exact X8<|h _ ⟨rfl,w⟩
theorem h3_ok(K:Cx M A s κ f T X)(H:Two T X a b){st:SortSt}{Q:ForInStep Y2->SortSt->Prop}(hk:kindOf st=κ)(J:KK T (a.take p) (b.take q) o (a++b))(hp:1<=p/\p<=a.length)(hq:2<=q/\q<=b.length)(hN:N+p+q<=a.length+b.length)(h:∀r,S2' T f a b N r->Q r st):
  wpS M A E s (h3 (ar f a) (ar f b) p g c d (ar f o.reverse) q) Q st:=by
 unfold h3;obtain⟨x,hx,mx⟩:=has (V:=a) (i:=p-1) (by lia);refine X4<|cL hx<|X4 (galH K hk (H.xa x mx) H.xb (λy hy=>R6<|H.ne x mx y hy) H.pb hq.2 (by lia) λt ht h0 h1=>?_);dsimp only;have J':KK T (a.take p) (b.take t) ((b.drop t).take (q-t)++o) (a++b):=by have:=J.flip;rw[Bl ht]at this;exact(this.mv λu hu=>rY K H.pa hx<|h1 u hu).flip
 by_cases kz:q-t > 0
 ·rw[if_pos kz,Bj];by_cases e:t=1
  ·rw[if_pos (by rw[e];exact beq_self_eq_true _)];exact X8<|h _<|.inl ⟨_,rfl,mJ H J' e⟩
  ·rw[if_neg λz=>e<|eq_of_beq z];by_cases e2:t=0
   ·rw[if_pos (by rw[e2];exact beq_self_eq_true _)];exact X8<|h _<|.inl ⟨_,rfl,gn_endB J' e2⟩
   ·rw[if_neg λz=>e2<|eq_of_beq z];exact h4_ok K H J' hp (by lia) (by lia) hx h0 h
 ·rw[if_neg kz];have:t=q:=by lia
  subst this;exact h4_ok K H J hp hq hN hx h0 h
theorem h2_ok(K:Cx M A s κ f T X)(H:Two T X a b){st:SortSt}{Q:ForInStep Y2->SortSt->Prop}(hk:kindOf st=κ)(J:KK T (a.take p) (b.take q) o (a++b))(hp:1<=p/\p<=a.length)(hq:2<=q/\q<=b.length)(hN:N+p+q<=a.length+b.length)(hy:b[q-1]?=some y)(t:∀u∈a.take p,T u y)(h:∀r,S2' T f a b N r->Q r st):
  wpS M A E s (h2 (ar f a) (ar f b) q g c d (ar f o.reverse) p) Q st:=by
 unfold h2;have J':KK T (a.take p) (b.take<|q-1) ([y]++o) (a++b):=by have:=J.flip;rw[kg hy (by lia)]at this;exact(this.mv λu hu=>by rw[Y5.mp hu];exact t).flip
 refine X4<|cL hy ?_;rw[kf];by_cases e:q-1=1
 ·rw[if_pos (by rw[e];exact beq_self_eq_true _)];exact X8<|h _<|.inl ⟨_,rfl,mJ H J' e⟩
 ·rw[if_neg λz=>e<|eq_of_beq z];exact h3_ok K H hk J' hp (by lia) (by lia) h
theorem h1_ok(K:Cx M A s κ f T X)(H:Two T X a b){Q:ForInStep Y2->SortSt->Prop}(W:Vn T f a b N o p q)(h:∀r,S2' T f a b N r->Q r (St κ f l pd g)):
  wpS M A E s (h1 (ar f a) (ar f b) p q o c d g) Q (St κ f l pd g0):=by
 obtain⟨o',rfl,J,hp,hq,hN⟩:=W;unfold h1;rw[rV];refine X4<|wpS_modify ?_;show wpS M A E s _ Q (St κ f l pd g);obtain⟨y,hy,my⟩:=has (V:=b) (i:=q-1) (by lia);refine X4<|cL hy<|X4 (galH K rfl (H.xb y my) H.xa (λx hx=>H.ne x hx y my) H.pa hp.2 hp.1 λt ht h0 h1=>?_);dsimp only;have J':KK T (a.take t) (b.take q) ((a.drop t).take (p-t)++o') (a++b):=by have:=J;rw[Bl ht]at this;exact this.mv λu hu=>rY K H.pb hy<|h1 u hu
 by_cases kz:p-t > 0
 ·rw[if_pos kz,Bj];by_cases e:t=0
  ·rw[if_pos (by rw[e];exact beq_self_eq_true _)];exact X8<|h _<|.inl ⟨_,rfl,rZ J' e⟩
  ·rw[if_neg λz=>e<|eq_of_beq z];exact h2_ok K H rfl J' (by lia) hq (by lia) hy h0 h
 ·rw[if_neg kz];have:t=p:=by lia
  subst this;exact h2_ok K H rfl J hp hq hN hy h0 h
theorem Vn.le(h:Vn T f a b N o i j)(q:N'<=N):Vn T f a b N' o i j:=oq15 h λo' e J hi hj hN=>⟨o',e,J,hi,hj,by lia⟩
theorem Vm.le(h:Vm T f a b N r o i j)(q:N'<=N):Vm T f a b N' r o i j:=h.imp id λz=>⟨z.1,z.2.le q⟩
theorem mhi_ok(K:Cx M A s κ f T X)(H:Two T X a b)(ha:1<=a.length)(hb:1<=b.length){Q:Array Keyed->SortSt->Prop}(h:∀r g,Fn T f (a++b) r->Q r (St κ f l pd g)):
  wpS M A E s (mhi (ar f a)<|ar f b) Q (St κ f l pd g0):=by
 rw[mhi_eq];refine X4<|wpS_lift<|E4 ⟨rfl,?_⟩;obtain⟨x,hx,mx⟩:=has (V:=a) (i:=a.length-1) (by lia);have sa:=cR (f:=f) a;have sb:=cR (f:=f) b;have J:KK T (a.take<|a.length-1) (b.take b.length) [x] (a++b):=by have j0:KK T a b [] (a++b):=⟨by rw[W9],by rw[W9];exact H.pa,by rw[W9];exact H.pb⟩;have e:a=a.take (a.length-1)++[x]:=(O6 (l:=a)).symm.trans (kg hx ha);have j0:KK T (a.take (a.length-1)++[x]) b [] (a++b):=e▸j0;rw[O6];exact j0.mv λu hu=>by rw[Y5.mp hu];exact H.la x hx
 refine X4<|cL (x:=x) (by rw[sa,hx]) ?_;by_cases e:a.length-1=0
 ·refine kd (by rw[sa,e];rfl)<|X8 ?_;rw[sa,sb];exact h _ _<|rZ J e
 ·refine ke (λz=>e<|sa▸eq_of_beq z) ?_;by_cases e2:b.length=1
  ·refine kd (by rw[sb,e2];rfl)<|X8 ?_;rw[sa,sb];exact h _ _<|mJ H J e2
  ·have V0:Vn T f a b 0 #[f x] ((ar f a).size-1) (ar f b).size:=by rw[sa,sb];exact⟨[x],rfl,J,show 1<=a.length-1/\a.length-1<=a.length by lia,show 2<=b.length/\b.length<=b.length by lia,show 0+(a.length-1)+b.length<=a.length+b.length by lia⟩
   refine ke (λz=>e2<|sb▸eq_of_beq z) ?_;refine X4<|wpS_get<|X4<|wpS_mono (N2 (I:=λn c st=>(∃g,st=St κ f l pd g)/\c.1=none/\Vn T f a b n c.2.2.2.1 c.2.1 c.2.2.1) (Q:=λc st=>(∃g,st=St κ f l pd g)/\∃z,c.1=some z/\Fn T f (a++b) z) ?_ ?_ ⟨⟨g0,rfl⟩,rfl,V0⟩) ?_
   ·intro n c st _ hn z;obtain⟨⟨g1,rfl⟩,e1,W⟩:=z;refine X4<|wpS_mono (N2 (I:=λm c st'=>st'=St κ f l pd g1/\c.1=none/\Vn T f a b (n+m) c.2.2.2.1 c.2.1 c.2.2.1) (Q:=λc st'=>st'=St κ f l pd g1/\Vm T f a b (n+1) c.1 c.2.2.2.1 c.2.1 c.2.2.1) ?_ ?_ ⟨rfl,rfl,W⟩) ?_
    ·intro m c st _ hm z;obtain⟨rfl,e2,W⟩:=z;refine v1_ok (p:=c.2.1) (q:=c.2.2.1) (c:=c.2.2.2.2.1) (d:=c.2.2.2.2.2) K H rfl W λr p=>?_;cases r with
     |done z=>exact⟨rfl,Vm.le p (by lia)⟩
     |yield z=>exact⟨rfl,p⟩
    ·intro c st z;exact⟨z.1,.inr ⟨z.2.1,z.2.2.le (by lia)⟩⟩
    ·intro c st z;obtain⟨rfl,W⟩:=z;rcases W with W|W
     ·obtain⟨z,e,w⟩:=W;rw[e];exact X8 ⟨⟨_,rfl⟩,z,rfl,w⟩
     ·rw[W.1];refine X4<|wpS_lift<|E4 ⟨rfl,?_⟩;refine X4<|wpS_mono (N2 (I:=λm c st'=>(∃g,st'=St κ f l pd g)/\c.1=none/\Vn T f a b (n+1) c.2.2.2.1 c.2.1 c.2.2.1) (Q:=λc st'=>(∃g,st'=St κ f l pd g)/\Vm T f a b (n+1) c.1 c.2.2.2.1 c.2.1 c.2.2.1) ?_ ?_ ⟨⟨_,rfl⟩,rfl,W.2⟩) ?_
      ·intro m c st _ hm z;obtain⟨⟨g2,rfl⟩,e2,W⟩:=z;by_cases q:c.2.2.2.2.1 > 1
       ·rw[if_pos q];exact h1_ok (p:=c.2.1) (q:=c.2.2.1) (g:=c.2.2.2.2.1-1) (c:=c.2.2.2.2.2.1) (d:=c.2.2.2.2.2.2) K H W λr p=>by cases r<;>exact⟨⟨_,rfl⟩,p⟩
       ·rw[if_neg q];exact h1_ok (p:=c.2.1) (q:=c.2.2.1) (g:=c.2.2.2.2.1) (c:=c.2.2.2.2.2.1) (d:=c.2.2.2.2.2.2) K H W λr p=>by cases r<;>exact⟨⟨_,rfl⟩,p⟩
      ·intro c st z;exact⟨z.1,.inr z.2⟩
      ·intro c st z;obtain⟨⟨g2,rfl⟩,W⟩:=z;rcases W with W|W
       ·obtain⟨z,e,w⟩:=W;rw[e];exact X8 ⟨⟨_,rfl⟩,z,rfl,w⟩
       ·rw[W.1];dsimp only;rw[rV];exact X4<|wpS_modify<|X8 ⟨⟨_,rfl⟩,rfl,W.2⟩
   ·intro c st z;obtain⟨eg,e1,o',_,_,w1,w2,w3⟩:=z;lia
   ·intro c st z;obtain⟨⟨g2,rfl⟩,v,e,w⟩:=z;rw[e];exact X8<|h v g2 w
end
section
variable {M:Model}{A:Around}{E:ZX}{s:Shared}{κ:SortKind}{f:Nat->Keyed}{T:ZK}{X:Zt}
theorem mat_eq(i:Nat):mergeAt' i=(do
  let z <- get
  let (some (sa,na,pw),some (sb,nb,_)):=((pendingOf z)[i]?,(pendingOf z)[i+1]?)|unsupported "internal:list.sort.pending"
  set (SortSt.mk' (kindOf z) (arrOf z) (((pendingOf z).setIfInBounds i (sa,na+nb,pw)).eraseIdxIfInBounds (i+1)) (gallopOf z)<|failedOf z)
  let some k <- xG false (<- elem' (arrOf z) sb) (arrOf z) sa na 0|return false
  let (sa,na):=(sa+k,na-k)
  if na==0 then return true
  let some nb <- xG true (<- elem' (arrOf z) (sa+na-1)) (arrOf z) sb nb (nb-1)|return false
  if nb==0 then return true
  let w <- if na<=nb then mlo ((arrOf z).extract sa sb) ((arrOf z).extract sb (sb+nb)) else mhi ((arrOf z).extract sa sb) ((arrOf z).extract sb (sb+nb))
  modify λz=>setArr z (w.toList.zipIdx.foldl (λa (p,j)=>a.setIfInBounds (sa+j) p)<|arrOf z)
  return (failedOf<|<- get).isNone):=rfl
theorem wpS_set{σ:Type}{Q:PUnit->σ->Prop}{st st':σ}(h:Q ⟨⟩ st'):wpS M A E s (set st':StateT σ Sem PUnit) Q st:=by unfold wpS;rw[StateT.run_set];exact Z6 ⟨rfl,h⟩
theorem wr{α:Type}{R:List α}:∀(w P O:List α) (n:Nat),O.length=w.length->P.length=b+n->(w.zipIdx n).foldl (λa (q:α×Nat)=>a.setIfInBounds (b+q.2) q.1) (Y0<|P++(O++R))=Y0 (P++(w++R)):=by
 intro w;induction w with
 |nil=>intro P O n h hp;cases O with|nil=>rfl|cons _ _=>exact nomatch h
 |cons c w ih =>
  intro P O n h hp;cases O with
  |nil=>exact nomatch h
  |cons o O =>
   rw[List.zipIdx_cons,List.foldl_cons];have e:(Y0<|P++(o ::O++R)).setIfInBounds (b+n) c=Y0 ((P++[c])++(O++R)):=by rw[List.setIfInBounds_toArray,<- hp,List.set_append_right _ _ (bi _),Nat.sub_self,X3];rfl
   rw[e,ih (P++[c]) O (n+1) (Nat.succ.inj h) (by rw[Y9,hp];rfl),X3];rfl
theorem Bm{α:Type}{L L2:List α}{a b:α}:(Y0 (L++a ::b ::L2))[L.length]?=some a/\(Y0 (L++a ::b ::L2))[L.length+1]?=some b:=by rw[Q8,Q8,Y7 (bi _),Y7 (U9 _ 1),Nat.sub_self,Q0];exact⟨rfl,rfl⟩
theorem pd_set{α:Type}{L L2:List α}{a b v:α}:((Y0 (L++a ::b ::L2)).setIfInBounds L.length v).eraseIdxIfInBounds (L.length+1)=Y0 (L++v ::L2):=by rw[List.setIfInBounds_toArray,List.set_append_right _ _ (bi _),Nat.sub_self];apply Array.toList_inj.mp;rw[Array.toList_eraseIdxIfInBounds];show (L++v ::b ::L2).eraseIdx (L.length+1)=_;rw[List.eraseIdx_append_of_length_le (U9 _ 1),Q0];rfl
theorem xH{U W V:ZU}(h:W[i]?=some x):(U++(W++V))[U.length+i]?=some x:=by rw[gp,X9 (Z7.mp h).1];exact h
theorem Bn(U W V:ZU):(ar f<|U++(W++V)).extract U.length (U.length+W.length)=ar f W:=by rw[o4,List.drop_left,Q0,List.take_left]
theorem Bo{x y:ZU}(h:(x++y).Pairwise T)(ha:a∈x)(hb:b∈y):T a b:=(W8.mp h).2.2 a ha b hb
theorem mat_ok(K:Cx M A s κ f T X){Q:Bool->SortSt->Prop}(hX:∀u∈x++y,X u)(nd:(x++y).Nodup)(px:x.Pairwise T)(py:y.Pairwise T)(hx:1<=x.length)(hy:1<=y.length)(h:∀m g',m.Perm (x++y)->m.Pairwise T->Q true (St κ f (U++(m++V)) (Y0 (L1++(U.length,x.length+y.length,p1) ::L2)) g')):
  wpS M A E s (mergeAt' L1.length) Q (St κ f (U++(x++(y++V))) (Y0 (L1++(U.length,x.length,p1) ::(U.length+x.length,y.length,p2) ::L2)) g):=by
 rw[mat_eq];refine X4<|wpS_get ?_;show wpS M A E s (match ((Y0 (L1++(U.length,x.length,p1) ::(U.length+x.length,y.length,p2) ::L2))[L1.length]?,(Y0 (L1++(U.length,x.length,p1) ::(U.length+x.length,y.length,p2) ::L2))[L1.length+1]?) with
  |(some (sa,na,pw),some (sb,nb,_))=>_
  |_=>_) Q _
 rw[Bm.1,Bm.2];dsimp only;refine X4<|wpS_set ?_;rw[pd_set];show wpS M A E s _ Q (St κ f (U++(x++(y++V))) (Y0 (L1++(U.length,x.length+y.length,p1) ::L2)) g);have el:U++(x++(y++V))=(U++x)++(y++V):=(X3 _ _ _).symm;have lU:(U++x).length=U.length+x.length:=Y9;have gx:∀{i u},x[i]?=some u->(U++(x++(y++V)))[U.length+i]?=some u:=λh=>xH h;have gy:∀{i u},y[i]?=some u->(U++(x++(y++V)))[U.length+x.length+i]?=some u:=λh=>by rw[el,<- lU];exact xH h
 have ex:∀i,i<x.length->x[i]?=some ((x[i]?).getD 0):=λi hi=>by rw[Z9 hi];rfl
 have ey:∀i,i<y.length->y[i]?=some ((y[i]?).getD 0):=λi hi=>by rw[Z9 hi];rfl
 have ne:∀a∈x,∀b∈y,a≠b:=(List.nodup_append.mp nd).2.2;obtain⟨y0,hy0,my0⟩:=has (V:=y) (i:=0) hy;obtain⟨lx,hlx,mlx⟩:=has (V:=x) (i:=x.length-1) (by lia);refine X4<|cL (gy hy0)<|X4 (rT K (d:=λi=>(x[i]?).getD 0) rfl (hX y0<|X1 _ my0) (λi hi=>hX _<|P8 _<|V3<|ex i hi) (λi hi=>gx<|ex i hi) (λi hi=>ne _ (V3<|ex i hi) y0 my0) (λi j ij hj=>o5 px ij (ex i<|hU ij hj)<|ex j hj) hx λk hk h0 h1=>?_);have x1:∀u∈x.take k,T u y0:=λu hu=>aU (o6 hu) λi hi e=>by have:=h0 i hi;rw[e]at this;exact this
 have x2:∀u∈x.drop k,T y0 u:=λu hu=>dI (k9 hu) λi e=>by have:=h1 (k+i) (U9 _ _) (Z7.mp e).1;rw[e]at this;exact this
 have y0y:∀u,T u y0->∀r∈y,T u r:=λu t r hr=>jA K py hy0 t r (by rw[List.drop_zero];exact hr);dsimp only;by_cases z:x.length-k=0
 ·rw[if_pos (by rw[z];rfl)];refine X8 ?_;have e:x.take k=x:=N3 (by lia);rw[e]at x1;have:=h (x++y) g (.refl _)<|W8.mpr ⟨px,py,λa ha b hb=>y0y a (x1 a ha) b hb⟩;rw[X3]at this;exact this
 ·rw[if_neg λq=>z<|eq_of_beq q];have lx':∀u∈x,u=lx\/T u lx:=λu hu=>dI (P7 hu) λi e=>F6 e λhi e=>by
   have e':x[i]?=some u:=by rw[<- e];exact Z9 hi
   rcases G8 i (x.length-1) with q|q
   ·exact .inr<|o5 px q e' hlx
   ·rw[show i=x.length-1 by lia,hlx]at e';exact .inl (Z5 e').symm
  refine X4<|cL (x:=lx) (by rw[show U.length+k+(x.length-k)-1=U.length+(x.length-1) by lia];exact gx hlx)<|X4 (rT K (d:=λi=>(y[i]?).getD 0) rfl (hX lx<|P8 _ mlx) (λi hi=>hX _<|X1 _<|V3<|ey i hi) (λi hi=>gy<|ey i hi) (λi hi=>R6<|ne lx mlx _<|V3<|ey i hi) (λi j ij hj=>o5 py ij (ey i<|hU ij hj)<|ey j hj) (by lia) λt ht t0 t1=>?_);have y1:∀u∈y.take t,T u lx:=λu hu=>aU (o6 hu) λi hi e=>by have:=t0 i hi;rw[e]at this;exact this
  have y2:∀u∈y.drop t,T lx u:=λu hu=>dI (k9 hu) λi e=>by have:=t1 (t+i) (U9 _ _) (Z7.mp e).1;rw[e]at this;exact this
  have y2x:∀a∈x,∀b∈y.drop t,T a b:=λa ha b hb=>(lx' a ha).elim (λe=>e▸y2 b hb) λq=>K.tr q<|y2 b hb;dsimp only;by_cases z2:t=0
  ·rw[if_pos (by rw[z2];rfl)];refine X8 ?_;rw[z2,List.drop_zero]at y2x;have:=h (x++y) g (.refl _)<|W8.mpr ⟨px,py,y2x⟩;rw[X3]at this;exact this
  ·rw[if_neg λq=>z2<|eq_of_beq q];have lk:(U++x.take k).length=U.length+k:=by rw[Y9,R5,O3 hk]
   have l2:(x.drop k).length=x.length-k:=K4;have l3:(y.take t).length=t:=by rw[R5,O3 ht]
   have E1:(ar f<|U++(x++(y++V))).extract (U.length+k) (U.length+x.length)=ar f (x.drop k):=by have:=Bn (f:=f) (U++x.take k) (x.drop k)<|y++V;rw[lk,l2,show U.length+k+(x.length-k)=U.length+x.length by lia,X3,<- X3 (x.take k),W4]at this;exact this
   have E2:(ar f<|U++(x++(y++V))).extract (U.length+x.length) (U.length+x.length+t)=ar f (y.take t):=by have:=Bn (f:=f) (U++x) (y.take t)<|y.drop t++V;rw[lU,l3,X3,<- X3 (y.take t),W4]at this;exact this
   have H:Two T X (x.drop k) (y.take t):=by
    refine⟨px.sublist<|List.drop_sublist _ _,py.sublist<|List.take_sublist _ _,λu hu=>hX u<|P8 _<|G9 hu,λu hu=>hX u<|X1 _<|F7 hu,λa ha b hb=>ne a (G9 ha) b<|F7 hb,λv hv=>?_,λv hv=>?_⟩
    ·rw[l2,D9,show k+(x.length-k-1)=x.length-1 by lia,hlx]at hv;exact Z5 hv▸y1
    ·rw[Q3 (by lia),hy0]at hv;exact Z5 hv▸x2
   have fin:∀r g',Fn T f (x.drop k++y.take t) r->wpS M A E s (do
     modify λz=>setArr z (r.toList.zipIdx.foldl (λa (p,j)=>a.setIfInBounds (U.length+k+j) p)<|arrOf z)
     return (failedOf<|<- get).isNone) Q (St κ f (U++(x++(y++V))) (Y0 (L1++(U.length,x.length+y.length,p1) ::L2)) g'):=λr g' w=>by
    obtain⟨m,rfl,pm,pw⟩:=w;refine X4<|wpS_modify<|X4<|wpS_get<|X8 ?_;have hm:((x.take k++m)++y.drop t).Perm (x++y):=by have q:(x.take k++m++y.drop t).Perm (x.take k++(x.drop k++y.take t)++y.drop t):=(pm.append_left _).append_right _;rw[<- X3 (x.take k),W4,X3 x,W4]at q;exact q
    have hp:((x.take k++m)++y.drop t).Pairwise T:=by
     refine W8.mpr ⟨W8.mpr ⟨px.sublist<|List.take_sublist _ _,pw,λa ha b hb=>?_⟩,py.sublist<|List.drop_sublist _ _,λa ha b hb=>?_⟩
     ·rcases V4.mp (pm.mem_iff.mp hb) with q|q
      ·exact Bo (x:=x.take k) (y:=x.drop k) (by rw[W4];exact px) ha q
      ·exact y0y a (x1 a ha) b<|F7 q
     ·rcases V4.mp ha with q|q
      ·exact y2x a (F7 q) b hb
      ·rcases V4.mp (pm.mem_iff.mp q) with q|q
       ·exact y2x a (G9 q) b hb
       ·exact Bo (x:=y.take t) (y:=y.drop t) (by rw[W4];exact py) q hb
    have W:=wr (R:=(y.drop t++V).map f) (b:=U.length+k) (m.map f) ((U++x.take k).map f) ((x.drop k++y.take t).map f) 0 (by rw[Z8,Z8,pm.length_eq]) (by rw[Z8,lk];rfl);rw[<- U4,<- U4,<- U4,<- U4]at W;have q1:U++x.take k++(x.drop k++y.take t++(y.drop t++V))=U++(x++(y++V)):=by simp only[X3];rw[<- X3 (y.take t),W4,<- X3 (x.take k),W4]
    have q2:U++x.take k++(m++(y.drop t++V))=U++((x.take k++m++y.drop t)++V):=by simp only[X3]
    rw[q1,q2]at W;have:=h _ g' hm hp;show Q true (SortSt.mk' κ ((List.map f m).zipIdx.foldl (λa (q:Keyed×Nat)=>a.setIfInBounds (U.length+k+q.2) q.1) (Y0<|(U++(x++(y++V))).map f)) _ g' none);rw[W];exact this
   show wpS M A E s (do
     let w <- if x.length-k<=t then mlo ((ar f<|U++(x++(y++V))).extract (U.length+k) (U.length+x.length)) ((ar f<|U++(x++(y++V))).extract (U.length+x.length) (U.length+x.length+t)) else mhi ((ar f<|U++(x++(y++V))).extract (U.length+k) (U.length+x.length)) ((ar f<|U++(x++(y++V))).extract (U.length+x.length) (U.length+x.length+t))
     modify λz=>setArr z (w.toList.zipIdx.foldl (λa (p,j)=>a.setIfInBounds (U.length+k+j) p)<|arrOf z)
     return (failedOf<|<- get).isNone) Q _
   rw[E1,E2];by_cases c:x.length-k<=t
   ·rw[if_pos c];exact X4<|mlo_ok K H (by lia) (by lia) fin
   ·rw[if_neg c];exact X4<|mhi_ok K H (by lia) (by lia) fin
def Cs:Nat->List (List Nat)->List (Nat×Nat)
 |_,[]=>[]
 |k,r ::R=>(k,r.length) ::Cs (k+r.length) R
theorem se:∀(R1 R2:Zm) (k:Nat),Cs k (R1++R2)=Cs k R1++Cs (k+R1.flatten.length) R2:=by
 intro R1;induction R1 with
 |nil=>exact λx x=>rfl
 |cons r R1 ih =>intro R2 k;show (k,r.length) ::Cs (k+r.length) (R1++R2)=(k,r.length) ::(Cs (k+r.length) R1++Cs (k+(r++R1.flatten).length) R2);rw[ih R2,Y9,Nat.add_assoc]
theorem xI:∀(R:Zm) (k:Nat),(Cs k R).length=R.length:=by
 intro R;induction R with
 |nil=>exact λx=>rfl
 |cons r R ih=>exact λk=>congrArg Nat.succ<|ih<|k+r.length
abbrev pr2(e:Nat×Nat×Nat):Nat×Nat:=(e.1,e.2.1)
structure Okl(T:ZK)(L:Zf)(R:Zm):Prop where
 mp:L.map pr2=Cs 0 R
 rn:∀r∈R,1<=r.length/\r.Pairwise T
theorem Okl.len(h:Okl T L R):L.length=R.length:=by rw[<- Z8 (f:=pr2),h.mp,xI]
theorem two_at{R:Zm}(h:i+1<R.length):∃R1 x y R2,R=R1++x ::y ::R2/\R1.length=i :=
 ⟨R.take i,R[i],R[i+1],R.drop<|i+2,by rw[<- G0,<- G0,W4],by rw[R5];lia⟩
theorem Bp(K:Cx M A s κ f T X){Q:Bool->SortSt->Prop}(O:Okl T L R)(hi:i+1<L.length)(nd:(R.flatten++V).Nodup)(hX:∀x∈R.flatten++V,X x)(h:∀R' L' g',Okl T L' R'->L'.length+1=L.length->R'.flatten.Perm R.flatten->Q true (St κ f (R'.flatten++V) (Y0 L') g')):wpS M A E s (mergeAt' i) Q (St κ f (R.flatten++V) (Y0 L) g):=by
 obtain⟨R1,x,y,R2,rfl,e1⟩:=two_at (R:=R) (i:=i) (by rw[<- O.len];exact hi);have mp:=O.mp;rw[se]at mp;obtain⟨L1,L3,eL,m1,m2⟩:=List.map_eq_append_iff.mp mp;obtain⟨e,L4,eL3,ee,m3⟩:=List.map_eq_cons_iff.mp m2;obtain⟨e',L2,eL4,ee',m4⟩:=List.map_eq_cons_iff.mp m3;subst eL;subst eL3;subst eL4;have l1:L1.length=i:=by rw[<- e1,<- xI R1 0,<- m1,Z8]
 have q1:e=(R1.flatten.length,x.length,e.2.2):=by have a:=congrArg Prod.fst ee;have b:=congrArg Prod.snd ee;rw[Nat.zero_add]at a;exact Prod.ext a<|Prod.ext b rfl
 have q2:e'=(R1.flatten.length+x.length,y.length,e'.2.2):=by have a:=congrArg Prod.fst ee';have b:=congrArg Prod.snd ee';rw[Nat.zero_add]at a;exact Prod.ext a<|Prod.ext b rfl
 have fl:(R1++x ::y ::R2).flatten=R1.flatten++(x++(y++R2.flatten)):=by rw[List.flatten_append];rfl
 have ox:=O.rn x<|X1 _<|.head _;have oy:=O.rn y<|X1 _<|.tail _<|.head _;rw[fl]at nd hX h ⊢;have ap:(R1.flatten++(x++(y++R2.flatten)))++V=R1.flatten++(x++(y++(R2.flatten++V))):=by simp only[X3]
 rw[ap]at nd hX ⊢;rw[q1,q2,<- l1];have sub:(x++y).Sublist (R1.flatten++(x++(y++(R2.flatten++V)))):=by refine List.Sublist.trans ?_<|List.sublist_append_right _ _;rw[<- X3];exact List.sublist_append_left _ _
 refine mat_ok K (λu hu=>hX u<|sub.subset hu) (nd.sublist sub) ox.2 oy.2 ox.1 oy.1 λm g' pm pw=>?_;have:=h (R1++m ::R2) (L1++(R1.flatten.length,x.length+y.length,e.2.2) ::L2) g' ⟨?_,λr hr=>?_⟩ ?_ ?_
 ·rw[List.flatten_append,X3]at this;show Q true (St κ f (R1.flatten++(m++(R2.flatten++V))) _ g');rw[<- X3 m];exact this
 ·rw[se,U4,m1,W5,m4];show _++(_ ::_)=_++((0+R1.flatten.length,m.length) ::Cs (0+R1.flatten.length+m.length) R2);rw[pm.length_eq,Y9,Nat.zero_add];rw[Nat.add_assoc]
 ·rcases V4.mp hr with q|q
  ·exact O.rn r<|P8 _ q
  ·rcases Y4.mp q with q|q
   ·rw[q];exact⟨by rw[pm.length_eq,Y9];lia,pw⟩
   ·exact O.rn r<|X1 _<|.tail _<|.tail _ q
 ·rw[Y9,Y9];rfl
 ·rw[List.flatten_append];refine List.Perm.append_left _ ?_;show (m++R2.flatten).Perm _;rw[<- X3];exact pm.append_right _
def u3(lo n:Nat):StateT SortSt Sem (ForInStep<|Option Unit×Nat):=do
 modify λz=>setPending z ((pendingOf z).push (lo,n,0))
 pure (.yield (none,lo+n))
theorem map_mod{L:Zf}{w:Nat×Nat×Nat->Nat×Nat×Nat}(h:∀e,pr2 (w e)=pr2 e):(L.modify i w).map pr2=L.map pr2:=by
 apply List.ext_getElem?;intro k;rw[X2,X2,List.getElem?_modify];cases L[k]? with
 |none=>rfl
 |some e =>
  show some (pr2 (if i=k then w e else e))=some (pr2 e);by_cases c:i=k
  ·rw[if_pos c,h]
  ·rw[if_neg c]
def Rs(κ:SortKind)(f:Nat->Keyed)(T:ZK)(l0:ZU)(lo:Nat)(st:SortSt):Prop :=
 ∃R V L g,st=St κ f (R.flatten++V) (Y0 L) g/\lo=R.flatten.length/\Okl T L R/\(R.flatten++V).Perm l0
theorem u3_ok{Q:ForInStep (Option Unit×Nat)->SortSt->Prop}(O:Okl T L R)(pm:(R.flatten++V).Perm l0)(h1:1<=n)(hn:n<=V.length)(pv:(V.take n).Pairwise T)(h:∀lo' st,R.flatten.length+n=lo'->Rs κ f T l0 lo' st->Q (.yield (none,lo')) st):wpS M A E s (u3 R.flatten.length n) Q (St κ f (R.flatten++V) (Y0 L) g):=by
 unfold u3;refine X4<|wpS_modify<|X8<|h _ _ rfl ?_;have ln:(V.take n).length=n:=by rw[R5,O3 hn]
 have fl:(R++[V.take n]).flatten=R.flatten++V.take n:=by rw[List.flatten_append,List.flatten_cons,List.flatten_nil,W9]
 refine⟨R++[V.take n],V.drop n,L++[(R.flatten.length,n,0)],g,?_,?_,⟨?_,λr hr=>?_⟩,?_⟩
 ·rw[fl,X3,W4];show SortSt.mk' κ (ar f<|R.flatten++V) ((Y0 L).push (R.flatten.length,n,0)) g none=_;rw[List.push_toArray]
 ·rw[fl,Y9,ln]
 ·rw[U4,O.mp,se];show _++[_]=_++[(0+R.flatten.length,(V.take n).length)];rw[ln,Nat.zero_add]
 ·rcases V4.mp hr with q|q
  ·exact O.rn r q
  ·rw[Y5.mp q,ln];exact⟨h1,pv⟩
 ·rw[fl,X3,W4];exact pm
theorem br2{β:Type}{H:Nat->List Nat->Prop}{m1:Nat->List Nat->StateT SortSt Sem β}{tl:Nat->StateT SortSt Sem β}{Q:β->SortSt->Prop}{sx:List Nat->SortSt}(P:Nat->SortSt->Prop)(h:∀n' st',P n' st'->wpS M A E s (tl n') Q st')(hn:∀n V,H n V->P n (sx V))(h1:(∀n' st',P n' st'->wpS M A E s (tl n') Q st')->∀n V,H n V->n<mr->wpS M A E s (m1 n V) Q (sx V)):
  ∀n V,H n V->wpS M A E s (if n<mr then m1 n V else tl n) Q (sx V):=λn V k=>by
 by_cases q:n<mr
 ·rw[if_pos q];exact h1 h n V k q
 ·rw[if_neg q];exact h n _<|hn n V k
theorem ite_lt{p:Prop}[Decidable p](ha:a+1<c)(hb:b+1<c):(if p then a else b)+1<c:=by
 by_cases q:p
 ·rw[if_pos q];exact ha
 ·rw[if_neg q];exact hb
theorem br:∀(R:Zm),(∀r∈R,1<=r.length)->R.length<=R.flatten.length:=by
 intro R;induction R with
 |nil=>exact λa=>bi _
 |cons r R ih =>intro h;rw[List.flatten_cons,Y9,V9,Nat.add_comm];exact Nat.add_le_add (h r<|.head _) (ih λx hx=>h x<|.tail _ hx)
theorem sort_ok(K:Cx M A s κ f T X)(nd:l0.Nodup)(hX:∀x∈l0,X x){Q:Unit->SortSt->Prop}(h:∀p st,arrOf st=ar f p->failedOf st=none->p.Perm l0->p.Pairwise T->Q () st):wpS M A E s sortRuns' Q (St κ f l0 #[] g0):=by
 rw[sortRuns'_eq];refine X4<|wpS_get ?_;have sz:(arrOf<|St κ f l0 #[] g0).size=l0.length:=cR l0;dsimp only;rw[sz];refine X4<|wpS_mono (N2 (I:=λi c st=>c.1=none/\Rs κ f T l0 c.2 st/\min i l0.length<=c.2) (Q:=λc st=>c.1=none/\Rs κ f T l0 c.2 st/\l0.length<=c.2) ?_ ?_ ⟨rfl,⟨[],l0,[],g0,rfl,rfl,⟨rfl,λa z=>nomatch z⟩,.refl _⟩,aR (Nat.min_le_left _ _)<|bi _⟩) ?_
 ·intro i c st _ hi z;obtain⟨e,W,le⟩:=z;by_cases cc:c.2 ≥ l0.length
  ·exact kd cc<|X8 ⟨rfl,W,cc⟩
  ·refine ke cc ?_;obtain⟨R,V,L,g,rfl,e2,O,pm⟩:=W;rw[e2]at cc le ⊢;have lv:l0.length-R.flatten.length=V.length:=by rw[<- pm.length_eq,Y9,Q0]
   have nv:V.Nodup:=(pm.nodup_iff.mpr nd).sublist (List.sublist_append_right _ _);have xv:∀x∈V,X x:=λx hx=>hX x<|pm.mem_iff.mp<|X1 _ hx;rw[lv];refine X4 (run_ok K nv xv (by lia) λn V' pv n1 n2 pw=>?_);have pm':(R.flatten++V').Perm l0:=(pv.append_left _).trans pm;rw[<- pv.length_eq]at n2 ⊢;dsimp only;have hh:V'.Perm V/\1<=n/\n<=V'.length/\(V'.take n).Pairwise T:=⟨pv,n1,n2,pw⟩;clear pw n2 n1 pm' pv
   revert n V'
   refine br2 (β:=ForInStep<|Option Unit×Nat) (λn' st'=>∃V2,st'=St κ f (R.flatten++V2) (Y0 L) g/\V2.Perm V/\1<=n'/\n'<=V.length/\(V2.take n').Pairwise T) ?_ (λn V' z=>⟨V',rfl,z.1,z.2.1,z.1.length_eq▸z.2.2.1,z.2.2.2⟩) λhh n V' z q=>oq04 z λpv n1 n2 pw=>?_
   ·intro n' st' z;obtain⟨V2,rfl,p2,m1,m2,w2⟩:=z;have Cq:(R.flatten++V2).Perm l0:=(p2.append_left _).trans pm;rw[<- p2.length_eq]at m2;have fin:∀(R':Zm) (L':Zf) g',Okl T L' R'->R'.flatten.Perm R.flatten->wpS M A E s (u3 R.flatten.length n') (λr st'=>match r with|.done c'=>c'.1=none/\Rs κ f T l0 c'.2 st'/\l0.length<=c'.2|.yield c'=>c'.1=none/\Rs κ f T l0 c'.2 st'/\min (i+1) l0.length<=c'.2) (St κ f (R'.flatten++V2) (Y0 L') g'):=λR' L' g' O' pm'=>by rw[<- pm'.length_eq];exact u3_ok O' ((pm'.append_right V2).trans Cq) m1 m2 w2 λlo' st' e w=>⟨rfl,w,show min (i+1) l0.length<=lo' by rw[pm'.length_eq]at e;lia⟩
    refine X4<|wpS_get ?_;generalize eb:(pendingOf<|St κ f (R.flatten++V2) (Y0 L) g).back?=w;cases w with
    |none=>exact fin R L g O<|.refl _
    |some w =>
     have ne:L≠[]:=λz=>by rw[z]at eb;cases eb
     refine X4<|wpS_mono (N2 (I:=λa c st=>c=(none,())/\∃R' L' g',st=St κ f (R'.flatten++V2) (Y0 L') g'/\Okl T L' R'/\R'.flatten.Perm R.flatten/\L'≠[]) (Q:=λc st=>c=(none,())/\∃R' L' g',st=St κ f (R'.flatten++V2) (Y0 L') g'/\Okl T L' R'/\R'.flatten.Perm R.flatten/\L'≠[]) ?_ (λa a z=>z) ⟨rfl,R,L,g,rfl,O,.refl _,ne⟩) ?_
     ·intro i c st _ _ z;obtain⟨rfl,z⟩:=z;obtain⟨R',L',g',rfl,O',pm',ne'⟩:=z;refine X4<|wpS_get ?_;have es:(pendingOf<|St κ f (R'.flatten++V2) (Y0 L') g').size=L'.length:=Y6 ..;generalize e3:(if (pendingOf<|St κ f (R'.flatten++V2) (Y0 L') g').size > 1 then (pendingOf<|St κ f (R'.flatten++V2) (Y0 L') g')[(pendingOf<|St κ f (R'.flatten++V2) (Y0 L') g').size-2]? else none)=v;cases v with
      |none=>exact X8 ⟨rfl,R',L',g',rfl,O',pm',ne'⟩
      |some v =>
       have big:1<L'.length:=by
        by_cases q:(pendingOf<|St κ f (R'.flatten++V2) (Y0 L') g').size > 1
        ·exact es▸q
        ·rw[if_neg q]at e3;cases e3
       dsimp only;split
       ·exact X8 ⟨rfl,R',L',g',rfl,O',pm',ne'⟩
       ·have pq:=(pm'.append_right V2).trans Cq;refine X4 (Bp K O' (i:=(pendingOf<|St κ f (R'.flatten++V2) (Y0 L') g').size-2) (by rw[es];lia) (pq.nodup_iff.mpr nd) (λx hx=>hX x<|pq.mem_iff.mp hx) λR2 L2 g2 O2 l2 p2=>?_);refine X8 ⟨rfl,R2,L2,g2,rfl,O2,p2.trans pm',λz=>?_⟩;rw[z]at l2;exact absurd big (by rw[<- l2];exact O7 _)
     ·intro c st z;obtain⟨rfl,z⟩:=z;obtain⟨R',L',g',rfl,O',pm',ne'⟩:=z;refine X4<|wpS_modify ?_;have em:∀w,((Y0 L').modify ((Y0 L').size-1) w)=Y0 (L'.modify ((Y0 L').size-1) w):=λw=>by rw[List.modify_toArray]
      show wpS M A E s (u3 R.flatten.length n') _ (St κ f (R'.flatten++V2) ((Y0 L').modify ((Y0 L').size-1) _) g');rw[em];refine fin R' _ g' ⟨Eq.trans (map_mod ?_) O'.mp,O'.rn⟩ pm';exact λa=>rfl
   ·refine X4<|wpS_lift<|E4 ⟨rfl,?_⟩;exact X4 (bin_ok K (pv.nodup_iff.mpr nv) (λx hx=>xv x<|pv.mem_iff.mp hx) n1 (by lia) (by lia) pw λV2 p2 w2=>hh _ _ ⟨V2,rfl,p2.trans pv,by lia,by have:=pv.length_eq;lia,w2⟩)
 ·intro c st z;refine zI z λe W le=>⟨e,W,?_⟩;rw[show min (max 0 l0.length) l0.length=l0.length by lia]at le;exact le
 ·intro c st z;obtain⟨e,⟨R,V,L,g,e1,e2,O,pm⟩,le⟩:=z;have lv:=pm.length_eq;rw[Y9]at lv;have vn:V=[]:=List.length_eq_zero_iff.mp (by lia);subst vn;subst e1;rw[e];rw[W9]at pm;have lr:=br R λr hr=>(O.rn r hr).1;refine X4<|wpS_mono (N2 (I:=λi c st=>c=(none,())/\∃R L g,st=St κ f (R.flatten++[]) (Y0 L) g/\Okl T L R/\R.flatten.Perm l0/\L.length<=l0.length-i) (Q:=λc st=>c=(none,())/\∃R L g,st=St κ f (R.flatten++[]) (Y0 L) g/\Okl T L R/\R.flatten.Perm l0/\L.length<=1) ?_ ?_ ⟨rfl,R,L,g,rfl,O,pm,by rw[O.len,<- pm.length_eq];exact lr⟩) ?_
  ·intro i c st _ hi z;obtain⟨rfl,z⟩:=z;obtain⟨R,L,g,rfl,O,pm,le⟩:=z;refine X4<|wpS_get ?_;show wpS M A E s (if (Y0 L).size<=1 then _ else _) _ _;have es:(Y0 L).size=L.length:=Y6 ..;by_cases q:(Y0 L).size<=1
   ·rw[if_pos q];exact X8 ⟨rfl,R,L,g,rfl,O,pm,es▸q⟩
   ·rw[if_neg q];have pq:(R.flatten++[]).Perm l0:=by rw[W9];exact pm
    refine X4 (Bp K O ?_ (pq.nodup_iff.mpr nd) (λx hx=>hX x<|pq.mem_iff.mp hx) λR2 L2 g2 O2 l2 p2=>?_)
    ·exact ite_lt (show (Y0 L).size-2-1+1<L.length by lia) (show (Y0 L).size-2+1<L.length by lia)
    ·exact X8 ⟨rfl,R2,L2,g2,rfl,O2,p2.trans pm,by lia⟩
  ·intro c st z;refine uS z λe1 ⟨R,L,g,e2,O,pm,le⟩=>⟨e1,R,L,g,e2,O,pm,by lia⟩
  ·intro c st z;obtain⟨rfl,R,L,g,rfl,O,pm,le⟩:=z;refine X8<|h R.flatten _ (by rw[W9]) rfl pm ?_;rw[O.len]at le
   match R,le,O with
   |[],_,_=>exact .nil
   |[r],_,O=>rw[List.flatten_cons,List.flatten_nil,W9];exact(O.rn r<|.head _).2
   |_ ::_ ::_,le,_=>exact absurd le (by simp)
end
end Tim
namespace Pu
def sf(g:Zx)(ns:ZW):Option (List Int):=(keysOf g ns).bind λps=>if ns.length<1000000/\ps.Nodup then some (AW ns ps) else none
end Pu
namespace L2
section
open PySem PySem.Spec PyProof.Rows
variable [Kn:Kon]
section
variable {prog:U7}{w:World}{A:Around}{E:ZX}{s:Shared}{vs ks:ZT}{a kS:Addr}
open PySem.W
theorem xJ{c:Zq}(hl:ks.length=vs.length)(L:Srt.Lin c vs.length)(hc:∀i j C,i<vs.length->j<vs.length->C (c i j) s->kas_ask prog w A κ ks i j C s):
  wpAny (model prog w) A ((sortRuns').run (SortSt.mk' κ (ks.toArray.zip vs.toArray) #[] 7 none)) (λr s2=>s2=s/\∃p:Array Nat,Srt.Arr vs.length p/\Srt.Up c p vs.length/\arrOf r.2=p.map (kas_item<|ks.toArray.zip vs.toArray)/\failedOf r.2=none) E s:=by
 have K:Tim.Cx (model prog w) A s κ (kas_item<|ks.toArray.zip vs.toArray) (λi j=>i<vs.length/\j<vs.length/\c i j=true) (λi=>i<vs.length):=by
  refine⟨λi j hi hj C h1 h0=>?_,λ{i j k} x y=>⟨x.1,y.2.1,L.tr i j k x.1 x.2.1 y.2.1 x.2.2 y.2.2⟩,λ{i} x=>by rw[L.irr i x.1]at x;exact nomatch x.2.2⟩;have q:=hc i j (λb s'=>s'=s/\C b) hi hj ⟨rfl,by
   cases e:c i j with
   |true=>exact h1 ⟨hi,hj,e⟩
   |false =>
    by_cases z:i=j
    ·exact h0 (.inl z)
    ·exact h0<|.inr ⟨hj,hi,L.tot i j hi hj z e⟩⟩
  rw[kat_ask_eq hl]at q;exact q
 have e:=kas_range<|ks.toArray.zip vs.toArray;rw[show (ks.toArray.zip vs.toArray).size=vs.length by simp[hl]]at e;have est:SortSt.mk' κ (ks.toArray.zip vs.toArray) #[] 7 none=Tim.St κ (kas_item<|ks.toArray.zip vs.toArray) (X5 vs.length) #[] 7:=by show _=SortSt.mk' κ (Y0<|(X5 vs.length).map (kas_item<|ks.toArray.zip vs.toArray)) #[] 7 none;rw[<- List.map_toArray,e]
 rw[est];refine Tim.sort_ok (E:=E) K (l0:=X5 vs.length) List.nodup_range (λx hx=>M5.mp hx) (Q:=λa st=>∃p:Array Nat,Srt.Arr vs.length p/\Srt.Up c p vs.length/\arrOf st=p.map (kas_item<|ks.toArray.zip vs.toArray)/\failedOf st=none) λp st ha hf pm pw=>?_;have lp:p.length=vs.length:=by rw[pm.length_eq,U1]
 refine⟨Y0 p,⟨by rw[Y6,lp],pm⟩,λi j hij hj=>?_,by rw[ha,List.map_toArray],hf⟩;have hj':j<p.length:=lp▸hj;have hi':i<p.length:=hU hij hj';have z:=(J9.mp pw) i j hi' hj' hij;have gt:∀k (h:k<p.length),Srt.at' (Y0 p) k=p[k]:=λk h=>by simp[Srt.at',Array.getD,h]
 rw[gt i hi',gt j hj'];exact z.2.2
theorem o7{st:SortSt}{P:PySem.Fin->Shared->Prop}(hka:kS≠a)(hk:s.heap.get? kS=some (seqObj "list" (Y0 ks) e))(ha:s.heap.get? a=some (seqObj "list" #[] e1))(hz:ks.length<1000000)(ho:(arrOf st).map (·.2)=dU vs p)(hf:failedOf st=none)(hp:p.size<1000000)(h:P (.done<|.ret .none) {s with heap:=(s.heap.update kS (X6 λx=>#[])).update a (X6 λx=>dU vs p)}):
  wpAny (model prog w) A (ksk_tail a false e1 (.ref kS) st) P E s:=by
 have ha':(s.heap.update kS (X6 λx=>(#[]:Array Value))).get? a=some (seqObj "list" #[] e1):=by rw[V8 _ _ _ _ (R6 hka)];exact ha
 unfold ksk_tail;rw[ho];simp only[Q6,if_false];refine Z0<|listUpdate_at hk rfl ?_ (by rw[Y6,V6];exact ci<|hU hz (by decide))<|U5 _;refine Z0<|wpAny_letGo ?_;refine Z0<|seqEpoch_at ha' rfl ?_;refine Z0<|listUpdate_at ha' rfl ?_ (U5 _) (by rw[nH,V6];exact L8<|ci<|hU hp (by decide));rw[hf];simp only[bne_self_eq_false,Q6,if_false];exact Z6 h
theorem z7{P:PySem.Fin->Shared->Prop}(hka:kS≠a)(hk:s.heap.get? kS=some (seqObj "list" (Y0 ks) e))(hl:ks.length=vs.length)(ZQ:vs.length<1000000)(h:i8 prog w A a e1 kS vs P ks s):
  wpAny (model prog w) A (ksk_end a false vs.toArray e1 (.ref kS)<|Y0 ks) P E s:=by
 obtain⟨ha,κ,c,L,hkd,hc,fin⟩:=h;unfold ksk_end;simp only[Q6,if_false];by_cases h2:vs.toArray.size<2
 ·rw[if_pos h2,if_pos h2];refine Z0<|Z6 ?_;rw[StateT.run_pure];refine Z0<|Z6 ?_;have sz:vs.length<2:=by simpa using h2
  refine o7 (p:=Y0<|X5 vs.length) hka hk ha (by exact eU (bM hl) ZQ) ?_ rfl (by simp;exact ZQ) (fin _ ⟨by simp,by simp⟩ λi j hij hj=>by lia);have e2:=kas_range<|ks.toArray.zip vs.toArray;rw[show (ks.toArray.zip vs.toArray).size=vs.length by simp[hl]]at e2;exact kat_snds (st:=SortSt.mk' general' (ks.toArray.zip vs.toArray) #[] 7 none) hl e2.symm
 ·rw[if_neg h2,if_neg h2];have h2':2<=vs.length:=by simpa using T5.mp h2
  refine Z0 (R8 (hkd h2' (λκ' s'=>κ'=κ/\s'=s) ⟨rfl,rfl⟩) ?_ λx x z=>z.elim);rintro κ' s' ⟨rfl,rfl⟩;refine Z0 (R8 (xJ (κ:=κ') hl L hc) ?_ λx x z=>z);rintro⟨⟨⟩,st'⟩ s2 ⟨rfl,p,b1,b2,b3,b4⟩;exact o7 hka hk ha (by exact eU (bM hl) ZQ) (kat_snds hl b3) b4 (by rw[b1.sz];exact ZQ)<|fin p b1 b2
theorem wa{Fi:Zh}{body:Value->PUnit->Sem (ForInStep PUnit)}(hn:n<1000000)(hb:∀x l (s1:Shared) (C:ZX),List.length l<1000000->wpAny (model prog w) A (call f [x]) (λk s2=>(∃e,s2.heap.get? kS=some (seqObj "list" (Y0 l) e))/\C k {s2 with heap:=s2.heap.update kS (X6 (·.push k))}) (λa a=>False) s1 ->
   wpAny (model prog w) A (body x ⟨⟩) (λr s2=>r=.yield ⟨⟩/\∃k,(∃e,s2.heap.get? kS=some (seqObj "list" (Y0<|l++[k]) e))/\C k s2) E s1):∀(r l:ZT) (s1:Shared),l.length+r.length=n ->
   (∃e,s1.heap.get? kS=some (seqObj "list" (Y0 l) e))->iO prog w A f kS Fi r l s1 ->
   wpAny (model prog w) A (forIn r PUnit.unit body) (λa s2=>∃l,(∃e,s2.heap.get? kS=some (seqObj "list" (Y0 l) e))/\l.length=n/\Fi l s2) E s1:=by
 intro r;induction r with
 |nil =>intro l s1 hl hk h;rw[List.forIn_nil];exact Z6<|cZ l hk hl h
 |cons x r ih =>intro l s1 hl hk h;rw[V9]at hl;rw[List.forIn_cons];refine Z0 (R8 (hb x l s1 _ (by lia) h) ?_ λa a z=>z);rintro q s2 ⟨rfl,k,hk',h2⟩;exact ih (l++[k]) s2 (by rw[Y9,List.length_singleton];lia) hk' h2
theorem wb{P:PySem.Fin->Shared->Prop}(hka:kS≠a)(hk:s.heap.get? kS=some (seqObj "list" #[] 0))(ZQ:vs.length<1000000)(h:iO prog w A f kS (i8 prog w A a e1 kS vs P) vs [] s):
  wpAny (model prog w) A (ksk_rest a f false vs.toArray e1<|.ref kS) P E s:=by
 unfold ksk_rest;refine Z0 (E4 ?_)
 first
  |rw[List.forIn_toArray]
  |rw[<- Array.forIn_toList]
 refine Z0 (R8 (wa (kS:=kS) ZQ (λx l s1 C hz hx=>?_) vs [] s (by simp) ⟨0,hk⟩ h) ?_ λx x z=>z)
 ·refine Z0<|wpAny_attempt (R8 hx ?_ λx x z=>z.elim);rintro k s2 ⟨⟨e,he⟩,hC⟩;have ea:(Y0 l).push k=Y0 (l++[k]):=by simp
  have hn:∃e2,(s2.heap.update kS<|X6 (·.push k)).get? kS=some (seqObj "list" (Y0<|l++[k]) e2):=⟨_,by rw[<- ea];exact J7 he (·.push k)⟩;refine Z0<|listUpdate_at he rfl ?_ (by rw[Y6,V6];exact ci<|hU hz (by decide)) (by rw[Array.size_push,Y6,V6];lia);exact Z6 ⟨rfl,k,hn,hC⟩
 ·rintro _ s2 ⟨l,⟨e,he⟩,hl,fin⟩;refine Z0<|listItems_at he rfl ?_;exact z7 hka he hl ZQ fin
theorem o8{P:PySem.Fin->Shared->Prop}(ho:s.heap.get? a=some (seqObj "list" vs.toArray n))(ZQ:vs.length<1000000)(h:∀(e1:Nat) (kS:Addr) (h':Heap),(∀b o,b≠a->s.heap.get? b=some o->h'.get? b=some o)->h'.get? a=some (seqObj "list" #[] e1)->h'.get? kS=some (seqObj "list" #[] 0)->s.heap.objs.size<=kS->kS<h'.objs.size ->
   iO prog w A f kS (i8 prog w A a e1 kS vs P) vs [] {s with heap:=h'}):wpAny (model prog w) A (ksk_tree a f false) P E s:=by
 have ha:a<s.heap.objs.size:=Y8 ho;obtain⟨e1,ho1⟩:∃e1,(s.heap.update a (X6 λx=>(#[]:Array Value))).get? a=some (seqObj "list" #[] e1):=⟨_,J7 ho λx=>#[]⟩;have hz:((s.heap.update a (X6 λx=>(#[]:Array Value))).push (seqObj "tuple" vs.toArray 0)).objs.size=s.heap.objs.size+1:=by rw[size_push',Heap.size_update]
 unfold ksk_tree;refine Z0<|listItems_at ho rfl ?_;refine Z0<|listUpdate_at ho rfl ?_ (by rw[Y6,V6];exact ci<|hU ZQ (by decide))<|U5 _;refine Z0<|seqEpoch_at ho1 rfl ?_;refine Z0<|wpAny_newTuple ?_ (by show vs.length<=_;rw[V6];exact ci<|hU ZQ (by decide));refine Z0<|wpAny_newList ?_<|U5 _;refine S7 ?_;have hkS:(((s.heap.update a (X6 λx=>(#[]:Array Value))).push (seqObj "tuple" vs.toArray 0)).push (seqObj "list" #[] 0)).get? ((s.heap.update a (X6 λx=>(#[]:Array Value))).push (seqObj "tuple" vs.toArray 0)).objs.size=some (seqObj "list" #[] 0):=X0 _ rfl;refine wb (s:={s with heap:=((s.heap.update a (X6 λx=>(#[]:Array Value))).push (seqObj "tuple" vs.toArray 0)).push (seqObj "list" #[] 0)}) (by rw[hz];exact M9<|R4 ha) hkS ZQ<|h e1 _ _ (λb o nb q=>?_) ?_ hkS (by rw[hz];exact Q2 _)<|Y8 hkS
 ·refine Z4 _<|Z4 _ ?_;rw[V8 _ _ _ _ nb];exact q
 ·exact Z4 _<|Z4 _ ho1
theorem ud{Q:ZX}(hl:s.heap.IsList l vs.toArray)(ZQ:vs.length<1000000)(h:∀(D:Addr) (e1:Nat) (kS:Addr) (h':Heap),(∀b o,s.heap.get? b=some o->h'.get? b=some o)->h'.get? D=some (seqObj "list" #[] e1)->h'.get? kS=some (seqObj "list" #[] 0)->s.heap.objs.size<=D->D<kS->kS<h'.objs.size ->
   iO prog w A.in1.in1 (.ref q) kS (i8 prog w A.in1.in1 D e1 kS vs λf s'=>Q (.ref D) s') vs [] {s with heap:=h'}):
  wpAny (model prog w) A (call (.builtin "sorted") [.ref l] [(G7 "key",.ref q)]) Q E s:=by
 refine call_function_entry_kw kind_sorted plain_sorted entry_sorted (ksk_s1 _ _) ?_;unfold R7.«sorted»;refine Z0 (m:=checkCount "sorted" 1 1 _)<|Z6 ?_;refine Z0<|collect_list hl ?_ (by rw[V6];exact ci<|hU ZQ (by decide));refine Z0<|wpAny_newList ?_ (by rw[V6];exact ci<|hU ZQ (by decide));have hsz:((s.heap.push<|seqObj "list" #[] 0).update s.heap.objs.size (X6 (·++vs.toArray))).objs.size=s.heap.objs.size+1:=by rw[Heap.size_update,size_push']
 have hoL:(((s.heap.push<|seqObj "list" #[] 0).update s.heap.objs.size (X6 (·++vs.toArray))).push (seqObj "list" vs.toArray 0)).get? (s.heap.objs.size+1)=some (seqObj "list" vs.toArray 0):=by rw[<- hsz];exact X0 _ rfl
 have keep:∀b o,s.heap.get? b=some o->b≠s.heap.objs.size+1/\(((s.heap.push<|seqObj "list" #[] 0).update s.heap.objs.size (X6 (·++vs.toArray))).push (seqObj "list" vs.toArray 0)).get? b=some o:=λb o q=>by have hlt:b<s.heap.objs.size:=Y8 q;refine⟨dB<|R4 hlt,Z4 _ ?_⟩;rw[V8 _ _ _ _ (dB hlt)];exact Z4 _ q
 show wpAny _ _ _ _ _ {s with heap:=((s.heap.push<|seqObj "list" #[] 0).update s.heap.objs.size (X6 (·++vs.toArray))).push (seqObj "list" vs.toArray 0)};rw[hsz];refine Z0<|S7<|wpAny_call_entry_kw slot_list_sort ⟨_,hoL,rfl⟩ entry_list_sort ?_<|ksk_l1 _ _;rw[ksk_t1];refine o8 (s:={s with heap:=((s.heap.push<|seqObj "list" #[] 0).update s.heap.objs.size (X6 (·++vs.toArray))).push (seqObj "list" vs.toArray 0)}) hoL ZQ λe1 kS h' k1 k2 k3 k4 k5=>?_;have hDk:s.heap.objs.size+1<kS:=by
  have:(((s.heap.push<|seqObj "list" #[] 0).update s.heap.objs.size (X6 (·++vs.toArray))).push (seqObj "list" vs.toArray 0)).objs.size=s.heap.objs.size+2:=by rw[size_push',hsz]
  have k4':s.heap.objs.size+2<=kS:=by rw[<- this];exact k4
  (clear k5 k4 k3 k2 k1 keep hoL hsz h ZQ hl;lia)
 have hh:=h (s.heap.objs.size+1) e1 kS h' (λb o q=>k1 b o (keep b o q).1 (keep b o q).2) k2 k3 (Q2 _) hDk k5;have mono:∀(r l:ZT) (s1:Shared),iO prog w A.in1.in1 (.ref q) kS (i8 prog w A.in1.in1 (s.heap.objs.size+1) e1 kS vs λf s'=>Q (.ref<|s.heap.objs.size+1) s') r l s1 ->
   iO prog w A.in1.in1 (.ref q) kS (i8 prog w A.in1.in1 (s.heap.objs.size+1) e1 kS vs λfin s'=>∃v,fin=.done (.ret v)/\wpAny (model prog w) A.in1 (ret<|.ref<|s.heap.objs.size+1) (λfin s'=>∃v,fin=.done (.ret v)/\Q v s') E s') r l s1:=by
  intro r;induction r with
  |nil=>exact λl s1 ⟨z0,κ,c,z1,z2,z3,z4⟩=>⟨z0,κ,c,z1,z2,z3,λp a1 a2=>(aB _ rfl<|Z6<|aB _ rfl<|z4 p a1 a2)⟩
  |cons x r ih=>exact λl s1 z=>R8 z (λk s2 z2=>⟨z2.1,ih _ _ z2.2⟩) λa a z=>z
 exact mono _ _ _ hh
end
def xK(K:Z3)(P:Addr)(cap:ZH)(te tb:TE):TE:=λσ H Q=>te σ H λv H1=>∃p vs,v=.ref p/\cD K H1 p vs/\vs.length<1000000/\TbG H1 /\
 ∀H2 c,rG P H1 H2->H2 c=some (.ext<|b0 c<|Kon.Q P)->nJ (λσ H Q=>H c=some (.ext<|b0 c<|Kon.Q P)/\tb σ H Q) (λx=>fN x cap σ) (vJ vs Q) vs [] H2
section
variable {X:Cx}{A:Around}{ZY:ZO}{σ:St}{H:Hp}{s:Shared}{x:Str}{cap:ZH}{scope:Scope}{cl:Zw}{f:Addr}{cd:Value}
theorem wc{P':ZO}(I:Inv X ((kS,seqObj "list" (Y0 kvs) e) ::(D,seqObj "list" #[] e1) ::ZY) σ H s)(hDk:D<kS)(hz:X.s₀.heap.objs.size<=D)(hpn:∀p∈X.pn++ZY,p.1≠kS/\p.1≠D)(ZQ:vs.length<1000000)(rk:aM ks kvs)(rv:aM vs its)(h:vJ vs Q ks H):i8 X.prog X.w A D e1 kS its (λx s'=>EP X ZY σ Q (.ref D) s') kvs s:=by
 obtain⟨ps,hP,hl,hnd,q⟩:=h;have pk:=I.pin (kS,seqObj "list" (Y0 kvs) e) (by simp);have pd:=I.pin (D,seqObj "list" #[] e1) (by simp);have l1:=rk.length;have l2:=rv.length;have l3:=hP.length;have pa:=aM.pairs I rk hP;have el:its.length=ps.length:=by exact T9 (aR (bM l2.symm)<|aR (bM hl.symm)<|bM l3)<|aR (bM l3.symm)<|aR (bM hl)<|bM l2
 refine⟨pd.1,tuples' true,λi j=>Pu.dv (ps.getD i (0,0))<|ps.getD j (0,0),by rw[el];exact l5 hnd,λh2 Q' hq=>?_,λi j C hi hj hC=>l4 pa (by exact cf hi<|aR (bM l2.symm)<|aR (bM hl.symm)<|bM l1) (by exact cf hj<|aR (bM l2.symm)<|aR (bM hl.symm)<|bM l1) hC,λp1 a1 u1=>?_⟩
 ·obtain⟨fs,g1,g2,g3⟩:=pa.tups;refine PySem.W.kat_kind (T:=.type "int") g1 (by lia) (λv hv=>?_) rfl hq;obtain⟨i,t,rfl⟩:=g3 v hv;exact .now
 ·rw[el]at a1 u1;have eu:=vH hnd a1 u1;have hlt:∀i∈p1.toList,i<ps.length:=λi hi=>by have:=a1.pm.subset hi;simpa using this
  have neD:∀b o,b≠kS->b≠D->s.heap.get? b=some o->((s.heap.update kS (X6 λx=>#[])).update D (X6 λx=>dU its p1)).get? b=some o:=λb o n1 n2 e=>by rw[V8 _ _ _ _ n2,V8 _ _ _ _ n1];exact e
  have hD1:(s.heap.update kS (X6 λx=>(#[]:Array Value))).get? D=some (seqObj "list" #[] e1):=by rw[V8 _ _ _ _ (dB hDk)];exact pd.1
  obtain⟨e2,hD2⟩:∃e2,((s.heap.update kS (X6 λx=>#[])).update D (X6 λx=>dU its p1)).get? D=some (seqObj "list" (dU its p1) e2):=⟨_,J7 hD1 λx=>dU its p1⟩;have unt:∀b o,H b=some o->b≠kS/\b≠D:=λb o z=>⟨ai z pk.2.1,ai z pd.2.1⟩;have noc:∀y c,X.env.cells.lookup y=some c->c≠kS/\c≠D:=λy c z=>by
   obtain⟨v,ob,ho,hd⟩:=I.cell y c z;refine⟨λw=>?_,λw=>?_⟩
   ·rw[w]at ho;exact pk.2.2.2.2 v (by rw[<- Z5 (ho.symm.trans pk.1)];exact hd)
   ·rw[w]at ho;exact pd.2.2.2.2 v (by rw[<- Z5 (ho.symm.trans pd.1)];exact hd)
  have I0:Inv X ZY σ H s:=I.pins_of λp hp=>I.pin p<|X1 _<|Y4.mpr<|.inr<|Y4.mpr<|.inr hp;have I1:Inv X ZY σ (aD H D<|.lst (p1.toList.map λi=>vs.getD i .non)) {s with heap:=(s.heap.update kS (X6 λx=>#[])).update D (X6 λx=>dU its p1)}:=by
   refine I0.step (g':=s.gens) (d':=s.drawn) (t':=s.toks) (ch:=[kS,D]) (λb hb=>?_) (λb o x x hc e x=>neD b o (λz=>hc (by simp[z])) (λz=>hc (by simp[z])) e) (λb o x x hc e x=>⟨o.slots,neD b o (λz=>hc (by simp[z])) (λz=>hc (by simp[z])) e⟩)
    (λb o hc x n=>by rw[ak λz=>hc (by simp[z])];exact n) (λb o hc e=>⟨o,neD b o (λz=>hc (by simp[z])) (λz=>hc (by simp[z])) e⟩) (λb xs z=>by rw[ak (unt b _ z).2];exact z) (λb o u z=>by rw[ak (unt b _ z).2];exact z) (λb ps z=>⟨#[],by rw[ak (unt b _ z).2,z];simp⟩) (λm hm=>?_) (λa o z=>?_) I.bare
   ·have hb:b=kS\/b=D:=by simpa using hb
    rcases hb with rfl|rfl
    ·exact(qE (.inr<|aR hz<|ci hDk) pk.2.2.1 (λy c z=>(noc y c z).1) λp hp=>(hpn p hp).1)
    ·exact(qE (.inr hz) pd.2.2.1 (λy c z=>(noc y c z).2) λp hp=>(hpn p hp).2)
   ·obtain⟨o,es,ep,ho,r⟩:=hm;exact⟨o,es,ep,neD _ o (R6 pk.2.2.1) (R6 pd.2.2.1) ho,r⟩
   ·by_cases w:a=D
    ·subst w;rw[af]at z;cases z;refine⟨by rw[Z8,V7,a1.sz,V6];exact ci<|eU (bM l3.symm)<|eU (bM hl)<|hU ZQ (by decide),p1.toList.map λi=>its.getD i K8,e2,ck λi hi=>jV rv (by have:=hlt i hi;exact cf this<|aR (bM l3.symm)<|bM hl),hD2⟩
    ·rw[ak w]at z;refine(I.hok a o z).stay (λb u hb e=>?_) (λb z=>by rw[ak (unt b _ z).2];exact z) λb xs z=>by rw[ak (unt b _ z).2];exact z
     rcases hb with rfl|hb
     ·exact neD _ _ (unt _ _ z).1 (unt _ _ z).2 e
     ·exact neD _ _ (unt _ _ hb).1 (unt _ _ hb).2 e
  exact⟨.ref D,_,I1,rfl,q D _ pd.2.1 (λi hi=>by have:=hlt i hi;exact cf this<|aR (bM l3.symm)<|bM hl) eu⟩
open PySem.W in
theorem z8{P c:Addr}{params:Arguments}{body e:Expr}{p pos kpos lpos:Pos}{te tb:TE}(he:PE X e te)(hr:Room 3 X.A)(hm:X.mg "sorted"=none)(bm:BM X.mg X.base)(hC:codeHdIn X.K c P=true)(hT:P∈Kon.T)(hq:Kon.Q P=X.env.qual++"<lambda>")(hcode:X.env.code=.ref c)(S:LamScope X x cap scope)(hb:∀cl pm cd ct u,bindArgs (kla_fn "<lambda>" (Kon.Q P) params body scope cl pm cd ct) ⟨[u],[]⟩=pure [(x,u)])(hp:∀f cd cl s H,PE (jW X X.A.in1.in1 (x ::cap.map (·.1)) (Kon.Q P) scope f cd cl s H) body tb)(hg:autoParam (Gl X "sorted") L2.cY._auto_1)(hdef:autoParam (defaultsOf params X.env=([],[])) L2.cY._auto_1)(hst:autoParam (V1 [e] X.env=(false,eval e X.env) ::V1 [] X.env) L2.cY._auto_1)(hpl:autoParam ((backTo pos<|V1 [e] X.env).any (·.1)=false) L2.cY._auto_1):
  PE X (.Call (.Name "sorted" p) [e] [⟨some "key",.Lambda params body scope lpos,kpos⟩] pos) (xK X.K P cap te tb):=by
 intro ZY s σ H Q I h;refine G3<|gB I hg hm j3 ?_;refine PyProof.Rows.callWith_kw ?_ (by rw[hst];rfl) hpl;have h1:(aY te cH) σ H λxs H1=>match xs with
  |[v]=>∃p vs,v=.ref p/\cD X.K H1 p vs/\vs.length<1000000/\TbG H1/\∀H2 c,rG P H1 H2->H2 c=some (.ext<|b0 c<|Kon.Q P)->nJ (λσ H Q=>H c=some (.ext<|b0 c<|Kon.Q P)/\tb σ H Q) (λx=>fN x cap σ) (vJ vs Q) vs [] H2
  |_=>False:=h
 refine bu (a7 he aa hst pos ZY s σ H _ I h1) ?_;rintro us s1 ⟨vv,H1,I1,r,q⟩;show wpAny _ _ (evalAll ((do let v <- eval (.Lambda params body scope lpos) X.env;standAt pos;pure v) :: [])) _ _ s1
 match vv,q with
 |[v],q =>
  obtain⟨l,vs,rfl,hS,ZQ,tg,q⟩:=q;obtain⟨u,rfl,ru⟩:=vals1 r;cases ru;refine wpAny_evalAll_cons<|Z0 (AV (P:=P) I1 S tg hT hq hcode hC bm hdef λf cl pm c' ctv H2 s2 I2 ts hc' CL=>Z0<|wpAny_standAt<|Z6<|wpAny_evalAll_nil ?_);show wpAny _ _ (call (.builtin "sorted") [.ref l] [(G7 "key",.ref f)]) _ _ s2;obtain⟨its,rv,ht,hz⟩:=I2.list<|ts.sm.seq hS;have lv:=rv.length;refine ud ht.isList (by exact eU (bM lv.symm) ZQ) λD e1 kS h' k1 k2 k3 k4 k5 k6=>?_;have I3:Inv X ((f,kla_obj "<lambda>" (Kon.Q P) params body scope cl pm c' ctv) ::ZY) σ H2 {s2 with heap:=h'}:=I2.kept (t':=s2.toks) k1;have big:∀b,s2.heap.objs.size<=b->H2 b=none/\b≠X.env.locals/\b∉X.fs:=λb hb=>(qD (I2.hok.fresh hb) (M9<|cf I2.lt hb)<|I2.nofs hb);have I4:=I3.addPin (f:=D) (o:=seqObj "list" #[] e1) k2 (big D k4).1 (big D k4).2.1 (big D k4).2.2 λv z=>nomatch z;have k4':s2.heap.objs.size<=kS:=aR k4<|ci k5;have I5:=I4.addPin (f:=kS) (o:=seqObj "list" #[] 0) k3 (big kS k4').1 (big kS k4').2.1 (big kS k4').2.2 λv z=>nomatch z;have old:∀p∈X.pn++((f,kla_obj "<lambda>" (Kon.Q P) params body scope cl pm c' ctv) ::ZY),p.1<s2.heap.objs.size:=λp hp=>Y8 (I2.pin p hp).1;have hpn:∀p∈X.pn++((D,seqObj "list" #[] e1) ::(f,kla_obj "<lambda>" (Kon.Q P) params body scope cl pm c' ctv) ::ZY),p.1≠kS:=λp hp=>by
   rcases V4.mp hp with hp|hp
   ·exact dB<|cf (old p<|P8 _ hp) k4'
   ·rcases Y4.mp hp with rfl|hp
    ·exact dB k5
    ·exact dB<|cf (old p<|X1 _ hp) k4'
  refine AX (A:=X.A.in1.in1) (oD:=seqObj "list" #[] e1) S CL I.ok.frames hr.hd (by have:=hr.dp;show X.A.depth<_;omega) hb hp (aR I2.sz k4') hpn (λe2 ks kvs H3 s3 J rk hk=>?_) vs its [] [] 0 H2 _ I5 rv .nil<|q H2 c' ts hc';have K:=wc (A:=X.A.in1.in1) (ZY:=(f,kla_obj "<lambda>" (Kon.Q P) params body scope cl pm c' ctv) ::ZY) (P':=ZY) J k5 (aR I2.sz k4) (λp hp=>⟨dB<|cf (old p hp) k4',dB<|cf (old p hp) k4⟩) ZQ rk rv hk;obtain⟨z0,κ,cc,z1,z2,z3,z4⟩:=K;refine⟨z0,κ,cc,z1,z2,z3,λp a1 a2=>?_⟩;obtain⟨v9,H9,I9,r9,q9⟩:=z4 p a1 a2;exact⟨v9,H9,I9.pins_of λp hp=>I9.pin p<|X1 _<|Y4.mpr<|.inr hp,r9,q9⟩
end
section
variable {Γ:List Slot}{te tb:TE}{K:Z3}{P:Addr}{cap:ZH}
set_option tactic.hygienic true in
theorem we{g:Zx}(hc:(cap.map (·.2)).Nodup)(h:EV Γ te o (rL a8))(hb:∀a,EV ((yJ [x] cap Γ).set 0 (.fr a8 a)) tb (g a) (eV a8 a8)):i4 Γ (xK K P cap te tb) (o.bind λxs=>Pu.sf g xs) a8:=by
 intro C F σ H Q xs S e k;obtain⟨ns,e1,e⟩:=a9 e;unfold Pu.sf at e;obtain⟨ps,e2,e⟩:=a9 e;split at e
 ·rename_i hh;obtain⟨ZQ,hnd⟩:=hh;cases e;have hl:=Pu.vI e2;refine h C F σ H _ ns S e1 λv F1 H1 x1 ⟨p,vs,e3,h1,h2⟩=>?_;have ev:=fM h2;subst ev;refine(ye p _ e3 (.inl<|x1.sub.rd h1) (by rw[Z8];exact ZQ) ((S.grow x1).tg) λH2 c ts h0=>?_);have x2:=ts.ext (S.grow x1).sub (S.grow x1).nt;refine key_ev (ps:=ps) hc hb (λF' H' ks x3 hk=>?_) ns [] [] ps F1 H2 ((S.grow x1).grow x2) (x1.trans x2) h0 .nil e2 rfl;refine⟨ps,Paired.imp2 (λb b z=>Rp.mono _ x3.sub z) hk,by rw[hk.length,Z8,hl],hnd,λq ix hq hi hx=>?_⟩;rw[Z8]at hi;refine k q _ F' H' x3 hq ?_;rw[<- Pu.srtK_of hl hnd hi hx];refine ck λi hi'=>?_;have:=hi i hi';show (ns.map V.int).getD i .non=.int (ns.getD i 0);simp[this]
 ·cases e
end
end
end L2
namespace Pu
def kh:List (Int×Int)->Int×Int->Int×Int
 |[],b=>b
 |x ::xs,b=>if dv x b=true then kh xs x else kh xs b
def Bq:List (Int×Int)->Option (Int×Int)
 |[]=>none
 |x ::xs=>some<|kh xs x
theorem o9:∀(xs:ZD) (b:ZG),(kh xs b=b\/kh xs b∈xs)/\dv b (kh xs b)=false/\∀x∈xs,dv x (kh xs b)=false
 |[],b=>⟨.inl rfl,by show dv b b=false;unfold dv;rw[decide_eq_false_iff_not];omega,λa h=>nomatch h⟩
 |x ::xs,b=>by
  unfold kh;by_cases c:dv x b=true
  ·rw[if_pos c];have ih:=o9 xs x;refine⟨.inr (ih.1.elim (λe=>by rw[e];exact .head _) λe=>.tail _ e),?_,λy hy=>?_⟩
   ·have:=ih.2.1;unfold dv at *;rw[decide_eq_false_iff_not]at *;rw[decide_eq_true_eq]at c;omega
   ·rcases Y4.mp hy with e|e
    ·rw[e];exact ih.2.1
    ·exact ih.2.2 y e
  ·rw[if_neg c];have ih:=o9 xs b;refine⟨ih.1.elim .inl λe=>.inr<|.tail _ e,ih.2.1,λy hy=>?_⟩;rcases Y4.mp hy with e|e
   ·rw[e];have:=ih.2.1;unfold dv at *;rw[decide_eq_false_iff_not]at *;rw[decide_eq_true_eq]at c;omega
   ·exact ih.2.2 y e
theorem sh(h:Bq ps=some m):m∈ps/\∀x∈ps,dv x m=false:=by
 cases ps with
 |nil=>cases h
 |cons x xs =>
  have e:kh xs x=m:=Z5 h;subst e;have ih:=o9 xs x;refine⟨ih.1.elim (λe=>by rw[e];exact .head _) λe=>.tail _ e,λy hy=>?_⟩;rcases Y4.mp hy with e|e
  ·rw[e];exact ih.2.1
  ·exact ih.2.2 y e
theorem vG(h:dv a b=false)(k:dv b a=false):a=b:=by unfold dv at *;rw[decide_eq_false_iff_not]at *;exact Prod.ext (by omega) (by omega)
end Pu
namespace L2
open PySem PySem.Spec PyProof.Rows
section
variable {prog:U7}{w:World}{A:Around}{E:ZX}{s:Shared}{I S:Addr}{fp wr:Zz}{n:Nat}{P:Nat->Value->Prop}{Sx:Nat->Heap->Prop}{g:Heap}{R:Result->Shared->Prop}{bt:Zq}
abbrev z9(g h:Heap):Prop:=∀b o,g.get? b=some o->h.get? b=some o
theorem z9.on(k:z9 g h)(fw:∀b∈wr,g.get? b=none)(fs:g.get? S=none)(q:∀b o,b∉wr->b≠S->h.get? b=some o->h'.get? b=some o):z9 g h':=λb o e =>
 q b o (λz=>nomatch (fw b z).symm.trans e) (λz=>nomatch (z▸fs).symm.trans e) (k b o e)
theorem minT_go(W:PySem.Walks prog w A.in1 I fp wr n P Sx)(nS:S∉fp)(fw:∀b∈wr,g.get? b=none)(fs:g.get? S=none)(ask:∀i j x y (s:Shared) (Q:ZX) (E:ZX),z9 g s.heap->P i x->P j y->Q (.bool<|bt i j) s->wpAny (model prog w) A.in1 (richCompare .Lt x y) Q E s):
  ∀(k j:Nat) (s:Shared) (x:Value) (c:Nat),j+1+k=n->z9 g s.heap->Sx (j+1) s.heap->P (argBest bt j) x->s.heap.get? S=some (seqObj "list" #[x,x] c) ->
   (∀v h' tk,P (argBest bt<|n-1) v->(∀b o,b∉wr->b≠S->s.heap.get? b=some o->h'.get? b=some o)->R (.ok<|.ret v) {s with heap:=h',toks:=tk}) ->
   codeAny (model prog w) A (.builtin "min.loop" ⟨[.ref I,.none,.ref S],[]⟩) R s:=by
 have nW:S∉wr:=λh=>nS<|W.sub _ h;have nm:(toString "min"++toString ".loop":String)="min.loop":=by decide
 intro k;induction k with
 |zero =>intro j s x c hj sg st px hS fin;have e:j+1=n:=hj;refine N6 J1<|Q4 T0 _▸?_;show wpAny _ A.in1 (seqItems? (.ref S) >>= _) _ _ _;refine Z0<|D8 hS rfl<|Z0<|J2 (W.done s _ _ (e▸st) λh' tk kp=>?_);have hS':=kp S _ nW hS;refine Z0<|E7 hS' rfl<|Z0<|wpAny_letGo<|Z6 ?_;refine fin x _ tk (by rw[<- e];exact px) λb o q1 q2 z=>?_;rw[V8 _ _ _ _ q2];exact kp b o q1 z
 |succ k ih =>
  intro j s x c hj sg st px hS fin;have lt:j+1<n:=by omega
  refine N6 J1<|Q4 T0 _▸?_;show wpAny _ A.in1 (seqItems? (.ref S) >>= _) _ _ _;refine Z0<|D8 hS rfl<|Z0<|J2 (W.item (j+1) s _ _ lt st λv h' tk pv st' kp=>?_);have hS':=kp S _ nW hS;have sg':z9 g h':=sg.on (S:=S) fw fs λb o q1 a z=>kp b o q1 z;show wpAny _ A.in1 (tryCatch (holding [v,v]<|richCompare .Lt v x >>= _) _ >>= _) _ _ _;refine Z0<|J2<|S7<|Z0<|ask (j+1) (argBest bt j) v x _ _ _ sg' pv px<|Z0<|S7<|O8<|Z0<|wpAny_letGo<|Z6 ?_;cases e:bt (j+1) (argBest bt j) with
  |true =>
   obtain⟨c2,hc2⟩:∃c2,(h'.update S (X6 λa=>#[v,v])).get? S=some (seqObj "list" #[v,v] c2):=⟨_,J7 hS' λa=>#[v,v]⟩;have kp2:∀b o,b∉wr->b≠S->s.heap.get? b=some o->(h'.update S (X6 λa=>#[v,v])).get? b=some o:=λb o q1 q2 z=>by rw[V8 _ _ _ _ q2];exact kp b o q1 z
   simp only[if_true];refine Z0<|E7 hS' rfl<|Z0<|wpAny_letGo ?_;rw[nm];refine Z6 ⟨K2 T0 _,ih (j+1) _ v c2 (by omega) (sg.on fw fs kp2) (W.frame _ _ _ st' λb hb o z=>?_) (by simp only[argBest,e,if_true];exact pv) hc2 λv2 h2 tk2 p2 kp3=>?_⟩
   ·have nb:b≠S:=λq=>nS<|q▸hb;show (h'.update S (X6 λa=>#[v,v])).get? b=some o;rw[V8 _ _ _ _ nb];exact z
   ·exact fin v2 h2 tk2 p2 λb o q1 q2 z=>kp3 b o q1 q2<|kp2 b o q1 q2 z
  |false =>simp only[Q6,if_false];refine Z0<|wpAny_letGo ?_;rw[nm];refine Z6 ⟨K2 T0 _,ih (j+1) _ x c (by omega) sg' st' (by simp only[argBest,e,Q6,if_false];exact px) hS' λv2 h2 tk2 p2 kp3=>?_⟩;exact fin v2 h2 tk2 p2 λb o q1 q2 z=>kp3 b o q1 q2<|kp b o q1 z
theorem za{its:ZT}{Q:ZX}(hh:A.handled=none)(hl:s.heap.IsList l its.toArray)(ne:0<its.length)(ask:∀i j x y (s':Shared) (Q:ZX) (E:ZX),z9 s.heap s'.heap->its[i]?=some x->its[j]?=some y->Q (.bool<|bt i j) s'->wpAny (model prog w) A.in1 (richCompare .Lt x y) Q E s')(fin:∀v h' tk,its[argBest bt (its.length-1)]?=some v->z9 s.heap h'->Q v {s with heap:=h',toks:=tk}):wpAny (model prog w) A (call (.builtin "min") [.ref l]) Q E s:=by
 have nm:(toString "min"++toString ".loop":String)="min.loop":=by decide
 have ll:l<s.heap.objs.size:=aU hl λo ho a=>Y8 ho;refine call_function_tree PySem.F.kind_min PySem.F.plain_min PySem.F.entry_min (PySem.F.args_min1 _) ?_;show wpAny _ A.in1 (D2 "min" ["key","default"] 0 ⟨[],[]⟩ >>= _) _ _ s;refine Z0<|wpAny_of_eq (show D2 "min" ["key","default"] 0 ⟨[],[]⟩=pure [none,none] from rfl)<|Z0<|Z6 ?_;refine Z0<|wpAny_pyIter_list hl ?_;refine Z0<|wpAny_newList ?_<|U5 _;rw[nm];generalize eI:s.heap.objs.size=I9;have e9:(s.heap.push {cls:=.type "list_iterator",data:=.fields #[.ref l,.int 0 0]}).objs.size=I9+1:=by rw[<- eI];exact size_push' ..
 have gI:((s.heap.push {cls:=.type "list_iterator",data:=.fields #[.ref l,.int 0 0]}).push (seqObj "list" #[] 0)).get? I9=some {cls:=.type "list_iterator",data:=.fields #[.ref l,.int 0 0]}:=by rw[<- eI];exact Z4 _<|X0 _ rfl
 have gS:((s.heap.push {cls:=.type "list_iterator",data:=.fields #[.ref l,.int 0 0]}).push (seqObj "list" #[] 0)).get? (I9+1)=some (seqObj "list" #[] 0):=by rw[<- e9];exact X0 _ rfl
 have old:z9 s.heap ((s.heap.push {cls:=.type "list_iterator",data:=.fields #[.ref l,.int 0 0]}).push (seqObj "list" #[] 0)):=λb o e=>Z4 _<|Z4 _ e;have none_:∀b,I9<=b->s.heap.get? b=none:=λb hb=>by
  cases q:s.heap.get? b with
  |none=>rfl
  |some o=>exact absurd (Y8 q)<|T5.mpr<|eI▸hb
 have lI:l≠I9:=dB<|eI▸ll;have W:=PySem.Walks.list (prog:=prog) (w:=w) (A:=A.in1) hh I9 l lI its.toArray;have hl2:((s.heap.push {cls:=.type "list_iterator",data:=.fields #[.ref l,.int 0 0]}).push (seqObj "list" #[] 0)).IsList l its.toArray:=(hl.push _).push _;have nS:I9+1∉[I9,l]:=λz=>by
  rcases Y4.mp z with z|z
  ·exact absurd z<|Nat.succ_ne_self _
  ·have e:=Y5.mp z;have l2:l<I9:=cf ll<|bM eI;exact absurd (e▸l2:I9+1<I9)<|T5.mpr<|Q2 _
 refine Z6 ⟨K2 T0 _,?_⟩;rw[e9];refine N6 J1<|Q4 T0 _▸?_;show wpAny _ A.in1 (seqItems? (.ref<|I9+1) >>= _) _ _ _;have ne':0<its.toArray.size:=by rw[Y6];exact ne
 refine Z0<|D8 gS rfl<|Z0<|J2 (W.item 0 _ _ _ ne' ⟨⟨_,gI,rfl,rfl⟩,hl2⟩ λv h' tk pv st' kp=>?_);have hS':=kp (I9+1) _ (λz=>absurd (Y5.mp z)<|Nat.succ_ne_self _) gS;obtain⟨c2,hc2⟩:∃c2,(h'.update (I9+1) (X6 λa=>#[v,v])).get? (I9+1)=some (seqObj "list" #[v,v] c2):=⟨_,J7 hS' λa=>#[v,v]⟩;have kp2:z9 s.heap (h'.update (I9+1) (X6 λa=>#[v,v])):=λb o z=>by have lt:b<I9:=eI▸Y8 z;rw[V8 _ _ _ _ (dB<|R4 lt)];exact kp b o (λq=>absurd (Y5.mp q)<|dB lt)<|old b o z
 show wpAny _ A.in1 (updateSeq (I9+1) (λa=>#[v,v]) >>= _) _ _ _;refine Z0<|E7 hS' rfl ?_;rw[nm];have at0:∀{i:Nat} {v:Value},its.toArray[i]?=some v->its[i]?=some v:=λh=>by rw[Q8]at h;exact h
 refine Z6 ⟨K2 T0 _,minT_go (n:=its.toArray.size) W nS (λb hb=>by rw[Y5.mp hb];exact none_ _<|bi _) (none_ _<|Q2 _) (λi j x y s' Q E k h1 h2 q=>ask i j x y s' Q E k (at0 h1) (at0 h2) q) (its.toArray.size-1) 0 _ v c2 (by omega) kp2 (W.frame _ _ _ st' λb hb o z=>?_) pv hc2 λv2 h2 tk2 p2 kp3=>?_⟩
 ·have nb:b≠I9+1:=λq=>nS<|q▸hb;show (h'.update (I9+1) (X6 λa=>#[v,v])).get? b=some o;rw[V8 _ _ _ _ nb];exact z
 ·refine fin v2 h2 tk2 (by rw[Y6]at p2;exact at0 p2) λb o z=>?_;have lt:b<I9:=eI▸Y8 z;exact kp3 b o (λq=>absurd (Y5.mp q)<|dB lt) (dB<|R4 lt)<|kp2 b o z
end
section
variable {X:Cx}{K:Z3}
theorem xL{bt:Zq}{k:Nat->Int×Int}(e:∀i j,bt i j=Pu.dv (k i) (k j)):∀n,argBest bt n<=n/\∀j,j<=n->Pu.dv (k j) (k<|argBest bt n)=false
 |0=>⟨bi _,λj hj=>by rw[Nat.le_zero.mp hj];show Pu.dv (k 0) (k 0)=false;unfold Pu.dv;rw[decide_eq_false_iff_not];omega⟩
 |n+1=>by
  have ih:=xL e n;unfold argBest;cases c:bt (n+1) (argBest bt n) with
  |true =>
   rw[if_pos rfl];rw[e]at c;refine⟨bi _,λj hj=>?_⟩;by_cases z:j=n+1
   ·rw[z];unfold Pu.dv;rw[decide_eq_false_iff_not];omega
   ·have:=ih.2 j (by omega);unfold Pu.dv at *;rw[decide_eq_false_iff_not]at *;rw[decide_eq_true_eq]at c;omega
  |false =>
   rw[if_neg Y3];rw[e]at c;refine⟨L8 ih.1,λj hj=>?_⟩;by_cases z:j=n+1
   ·rw[z];exact c
   ·exact ih.2 j (by omega)
def rMinP(K:Z3):List V->Hp->VK->Prop:=λxs H Q=>∃p vs ps,xs=[.ref p]/\cD K H p vs/\Paired ((eV a8 a8).rel H) vs ps/\0<ps.length/\∀i v,vs[i]?=some v->i<ps.length->(∀j,j<ps.length->Pu.dv (ps.getD j (0,0)) (ps.getD i (0,0))=false)->Q v H
theorem zb[Kn:Kon](h:X.K=K)(hc:X.calm=true)(hu:X.A.in1.units<cLine):dR X (.builtin "min") (rMinP K):=by
 subst h;intro ZY s σ H xs us Q I r h;obtain⟨p,vs,ps,rfl,hS,hP,ne,q⟩:=h;obtain⟨u,rfl,ru⟩:=vals1 r;cases ru;obtain⟨its,rv,ht,hz⟩:=I.list hS;have pa:=aM.pairs I rv hP;have l1:=rv.length;have l2:=hP.length;have el:its.length=ps.length:=l1.symm.trans l2;have kp:∀{i:Nat} {x:Value} {h':Heap},z9 s.heap h'->its[i]?=some x->∃a o xs n t u,x=U6 a/\h'.get? a=some o/\o.cls=.type "tuple"/\o.data=.seq xs n/\xs=#[M4 (ps.getD i (0,0)).1 t,M4 (ps.getD i (0,0)).2 u]:=λ{i x h'} k e=>by
  obtain⟨y,ey,a,o,xs,n,t,u,e1,e2,e3,e4,e5⟩:=g9 (pa.kept k) e;have e0:ps.getD i (0,0)=y:=by simp[ey]
  rw[e0];exact⟨a,o,xs,n,t,u,e1,e2,e3,e4,e5⟩
 refine za (bt:=λi j=>Pu.dv (ps.getD i (0,0))<|ps.getD j (0,0)) (I.ok.hd hc) ht.isList (by rw[el];exact ne) (λi j x y s' Q' E' k e1 e2 hq=>?_) λv h' tk ev k=>?_
 ·obtain⟨a,o,xs,n,t,u,rfl,g1,g2,g3,rfl⟩:=kp k e1;obtain⟨a',o',xs',n',t',u',rfl,f1,f2,f3,rfl⟩:=kp k e2;refine HT.jq ⟨o,g1,g2,n,g3⟩ ⟨o',f1,f2,n',f3⟩ (.cons _ _<|.cons _ _ .nil) (.cons _ _<|.cons _ _ .nil) hu ?_;rw[nI];exact hq
 ·have b:=xL (bt:=λi j=>Pu.dv (ps.getD i (0,0))<|ps.getD j (0,0)) (k:=λi=>ps.getD i (0,0)) (λc c=>rfl)<|its.length-1;generalize argBest (λi j=>Pu.dv (ps.getD i (0,0))<|ps.getD j (0,0)) (its.length-1)=i at b ev;obtain⟨v0,hv0,rr⟩:=cJ rv ev;exact⟨v0,H,I.kept k,rr,q i v0 hv0 (by omega) λj hj=>b.2 j (by omega)⟩
end
section
variable [Kn:Kon]{Γ:List Slot}{ta:TE}{K:Z3}
theorem ev_minP(h:EV Γ ta o (rL<|eV a8 a8)):EV Γ (uP (rMinP K)<|aY ta cH) (o.bind λns=>Pu.Bq ns) (eV a8 a8):=by
 intro C F σ H Q M S e k;obtain⟨ps,e1,e⟩:=a9 e;refine h C F σ H _ ps S e1 λv F' H' x1 ⟨p,vs,e2,h1,h2⟩=>⟨p,vs,ps,by rw[e2],.inl<|x1.sub.rd h1,Paired.imp2 (λa a z=>Rp.mono _ x1.sub z) h2,?_,λi v hv hi hm=>?_⟩
 ·cases ps with
  |nil=>cases e
  |cons x xs=>exact Nat.succ_pos _
 ·have mo:=Pu.sh e;have gi:ps.getD i (0,0)=ps[i]:=by simp[hi]
  have em:ps.getD i (0,0)=M:=by
   refine Pu.vG (mo.2 _ (by rw[gi];exact List.getElem_mem _)) ?_;obtain⟨j,hj,ej⟩:=List.mem_iff_getElem.mp mo.1;have:=hm j hj;have gj:ps.getD j (0,0)=ps[j]:=by simp[hj]
   rw[gj,ej]at this;exact this
  obtain⟨y,ey,ry⟩:=g9 h2 hv;have:y=M:=by rw[<- em,gi];exact((Z9 hi).symm.trans ey |> Z5).symm
  exact k v F' H' x1<|this▸ry
end
section
variable [Kn:Kon]{Γ:List Slot}{T α β:Type}{r:Rp α}{q:Rp β}{ta tb:TE}{oa:Option α}{ob:Option β}{u:TS}{fin:Fc->T->Ends->Prop}
theorem Br{f:α->β->Option T}(i j:Nat)(ha:EV Γ ta oa r)(hb:EV Γ tb ob q)(h:∀a b,BV ((Γ.set i<|.fr r a).set j (.fr q b)) u (f a b) fin):BV Γ (bW (tPar i j<|aY ta<|aY tb cH) u) (oa.bind λa=>ob.bind λb=>f a b) fin:=by intro C F σ H D x S e k;obtain⟨a,e1,e⟩:=a9 e;obtain⟨b,e2,e⟩:=a9 e;exact ha C F σ H _ a S e1 λv F1 H1 x1 r1=>hb C F1 σ H1 _ b (S.grow x1) e2 λw F2 H2 x2 r2=>⟨v,w,rfl,h a b C F2 _ H2 D x ((((S.grow x1).grow x2).setF i (r.mono x2.ff r1)).setF j r2) e k⟩
end
def isInt(e:Expr)(n:Int):Bool:=match e with
 |.Constant (.int i) _ _=>decide<|i=n
 |_=>false
def Bs:List Expr->List Int->Bool
 |[],[]=>true
 |e ::es,n ::ns=>isInt e n&&Bs es ns
 |_,_=>false
theorem zc{e:Expr}{n:Int}(h:isInt e n=true):∃j p,e=.Constant (.int n) j p:=by
 unfold isInt at h;split at h
 ·exact⟨_,_,by rw[of_decide_eq_true h]⟩
 ·cases h
def tInts(ns:ZW):TA:=λx H Q=>Q (ns.map V.int) H
theorem pa_ints:∀{es:List Expr} {ns:ZW},Bs es ns=true->PA X es (tInts ns):=by
 intro es;induction es with
 |nil =>
  intro ns h;cases ns with
  |nil=>exact aa
  |cons _ _=>exact absurd h Y3
 |cons e es ih =>
  intro ns h;cases ns with
  |nil=>exact absurd h Y3
  |cons n ns =>have h:=(K5 _ _).mp h;exact oq21 (zc h.1) λj p z=>z▸a7 (aj (j:=j) (pos:=p)) (ih h.2)
theorem Bt[Kn:Kon](ns:ZW)(h:ns.length<=1000):i4 Γ (yo<|tInts ns) (some ns) a8:=by intro C F σ H Q xs S e k;cases e;exact⟨by rw[Z8,V6];omega,λq hq=>k q _ F H (Ext.refl S.sub) hq<|paired_ints _⟩
end L2
namespace Pu
def ie(ps:ZD):Option (List<|Int×Int):=if ps.length<1000000/\ps.Nodup then some (iM ps) else none
end Pu
namespace L2
section
open PySem PySem.Spec PyProof.Rows
variable [Kn:Kon]
section
variable {prog:U7}{w:World}{A:Around}{E:ZX}{s:Shared}{κ:SortKind}{c:Zq}{vs:ZT}
open PySem.W
theorem iP{P:PySem.Fin->Shared->Prop}(ho:s.heap.get? a=some (seqObj "list" vs.toArray n))(ZQ:vs.length<1000000)(L:Srt.Lin c vs.length)(hk:2<=vs.length->∀h':Heap,(∀b o,b≠a->s.heap.get? b=some o->h'.get? b=some o)->∀Q':SortKind->Shared->Prop,Q' κ {s with heap:=h'}->wpAny (model prog w) A (keyKind' vs.toArray) Q' E {s with heap:=h'})(hc:∀h':Heap,(∀b o,b≠a->s.heap.get? b=some o->h'.get? b=some o)->∀i j C,i<vs.length->j<vs.length->C (c i j) {s with heap:=h'}->kas_ask prog w A κ vs i j C {s with heap:=h'})(h:∀p,Srt.Arr vs.length p->Srt.Up c p vs.length->P (.done<|.ret .none) {s with heap:=sortedHeap s.heap a vs (dU vs p)}):
  wpAny (model prog w) A (R7.«list.sort» ⟨[.ref a],[]⟩) P E s:=by
 have ha:a<s.heap.objs.size:=Y8 ho;obtain⟨e1,ho1⟩:∃e1,(s.heap.update a (X6 λx=>(#[]:Array Value))).get? a=some (seqObj "list" #[] e1):=⟨_,J7 ho λx=>#[]⟩;generalize hh3:((s.heap.update a (X6 λx=>(#[]:Array Value))).push (seqObj "tuple" vs.toArray 0)).push (seqObj "list" #[] 0)=h3;have ho6:h3.get? a=some (seqObj "list" #[] e1):=by rw[<- hh3];exact Z4 _<|Z4 _ ho1
 have keep:∀b o,b≠a->s.heap.get? b=some o->h3.get? b=some o:=λb o nb q=>by rw[<- hh3];refine Z4 _<|Z4 _ ?_;rw[V8 _ _ _ _ nb];exact q
 have fin:∀p,Srt.Arr vs.length p->Srt.Up c p vs.length->P (.done<|.ret .none) {s with heap:=h3.update a (X6 λx=>dU vs p)}:=λp a1 a2=>by rw[<- hh3];exact h p a1 a2
 rw[list_sort_plain];refine Z0<|listItems_at ho rfl ?_;refine Z0<|listUpdate_at ho rfl ?_ (by rw[Y6,V6];exact ci<|hU ZQ (by decide))<|U5 _;refine Z0<|seqEpoch_at ho1 rfl ?_;refine Z0<|wpAny_newTuple ?_ (by show vs.length<=_;rw[V6];exact ci<|hU ZQ (by decide));refine Z0<|wpAny_newList ?_<|U5 _;refine S7 ?_;show wpAny (model prog w) A _ P E {s with heap:=((s.heap.update a (X6 λx=>(#[]:Array Value))).push (seqObj "tuple" vs.toArray 0)).push (seqObj "list" #[] 0)};rw[hh3];dsimp only;have hsz:vs.toArray.size=vs.length:=by simp
 by_cases h2:vs.toArray.size<2
 ·rw[if_pos h2,if_pos h2];refine Z0<|Z6 ?_;rw[StateT.run_pure];refine Z0<|Z6 ?_;dsimp only;refine Z0<|seqEpoch_at ho6 rfl ?_;refine Z0<|listUpdate_at ho6 rfl ?_ (U5 _) (by rw[Array.size_map];show (pairsOf vs).size<=_;rw[pairsOf_size,V6];exact L8<|ci<|hU ZQ (by decide));simp only[bne_self_eq_false,Q6,if_false];have ep:(arrOf<|SortSt.mk' general' (vs.toArray.zip vs.toArray) #[] 7 none).map (·.2)=dU vs (Y0<|X5 vs.length):=by
   have e:=kas_range<|pairsOf vs;rw[pairsOf_size]at e;show (pairsOf vs).map (·.2)=_
   conv=>lhs;rw[<- e]
   unfold dU;apply Array.toList_inj.mp;rw[Array.map_map,Array.toList_map];exact T6 λi x=>by show (kas_item (pairsOf vs) i).2=_;rw[kas_item_eq]
  refine Z6 ?_;rw[ep];exact fin _ ⟨by simp,by simp⟩ λi j hij hj=>by lia
 ·rw[if_neg h2,if_neg h2];have h2':2<=vs.length:=by exact aR (T5.mp h2)<|bM hsz
  refine Z0<|hk h2' h3 keep _ ?_;refine Z0 (R8 (xJ (s:={s with heap:=h3}) (ks:=vs) (κ:=κ) rfl L<|hc h3 keep) ?_ λx x e=>e);rintro⟨⟨⟩,st'⟩ s' ⟨rfl,p,b1,b2,b3,b4⟩;dsimp only;have hout:(arrOf st').map (·.2)=dU vs p:=kat_snds rfl b3;rw[hout];refine Z0<|seqEpoch_at ho6 rfl ?_;refine Z0<|listUpdate_at ho6 rfl ?_ (U5 _) (by rw[nH,b1.sz,V6];exact L8<|ci<|hU ZQ (by decide));rw[b4];simp only[bne_self_eq_false,Q6,if_false];exact Z6<|fin p b1 b2
theorem ue{Q:ZX}(hl:s.heap.IsList l vs.toArray)(ZQ:vs.length<1000000)(L:Srt.Lin c vs.length)(hk:2<=vs.length->∀h':Heap,(∀b o,s.heap.get? b=some o->h'.get? b=some o)->∀Q':SortKind->Shared->Prop,Q' κ {s with heap:=h'}->wpAny (model prog w) A.in1.in1 (keyKind' vs.toArray) Q' E {s with heap:=h'})(hc:∀h':Heap,(∀b o,s.heap.get? b=some o->h'.get? b=some o)->∀i j C,i<vs.length->j<vs.length->C (c i j) {s with heap:=h'}->kas_ask prog w A.in1.in1 κ vs i j C {s with heap:=h'})(h:∀p,Srt.Arr vs.length p->Srt.Up c p vs.length->Q (.ref<|s.heap.objs.size+1) {s with heap:=sortedAll s.heap vs (dU vs p)}):
  wpAny (model prog w) A (call (.builtin "sorted") [.ref l]) Q E s:=by
 refine Calls.call_function_entry kind_sorted plain_sorted entry_sorted (args_sorted1 _) ?_;unfold R7.«sorted»;refine Z0 (m:=checkCount "sorted" 1 1 _)<|Z6 ?_;refine Z0<|collect_list hl ?_ (by rw[V6];exact ci<|hU ZQ (by decide));refine Z0<|wpAny_newList ?_ (by rw[V6];exact ci<|hU ZQ (by decide));have hsz:((s.heap.push<|seqObj "list" #[] 0).update s.heap.objs.size (X6 (·++vs.toArray))).objs.size=s.heap.objs.size+1:=by rw[Heap.size_update,size_push']
 have hoL:(((s.heap.push<|seqObj "list" #[] 0).update s.heap.objs.size (X6 (·++vs.toArray))).push (seqObj "list" vs.toArray 0)).get? (s.heap.objs.size+1)=some (seqObj "list" vs.toArray 0):=by rw[<- hsz];exact X0 _ rfl
 have keep:∀b o,s.heap.get? b=some o->b≠s.heap.objs.size+1/\(((s.heap.push<|seqObj "list" #[] 0).update s.heap.objs.size (X6 (·++vs.toArray))).push (seqObj "list" vs.toArray 0)).get? b=some o:=λb o q=>by have hlt:b<s.heap.objs.size:=Y8 q;refine⟨dB<|R4 hlt,Z4 _ ?_⟩;rw[V8 _ _ _ _ (dB hlt)];exact Z4 _ q
 show wpAny _ _ _ _ _ {s with heap:=((s.heap.push<|seqObj "list" #[] 0).update s.heap.objs.size (X6 (·++vs.toArray))).push (seqObj "list" vs.toArray 0)};rw[hsz];refine Z0 (S7 (Q5 slot_list_sort ⟨_,hoL,rfl⟩ entry_list_sort
  (iP (s:={s with heap:=((s.heap.push<|seqObj "list" #[] 0).update s.heap.objs.size (X6 (·++vs.toArray))).push (seqObj "list" vs.toArray 0)}) hoL ZQ L
   (λh2 h' k=>hk h2 h' λb o q=>k b o (keep b o q).1 (keep b o q).2) (λh' k=>hc h' λb o q=>k b o (keep b o q).1 (keep b o q).2) λp a1 a2=>(aB _ rfl ?_)) (args_list_sort _)))
 exact Z6<|aB _ rfl<|h p a1 a2
end
section
variable {X:Cx}{K:Z3}
open PySem.W
def xM(K:Z3):List V->Hp->VK->Prop:=λxs H Q=>∃p vs ps,xs=[.ref p]/\cD K H p vs/\Paired ((eV a8 a8).rel H) vs ps/\ps.length<1000000/\ps.Nodup/\∀q (ix:ZU),H q=none->(∀i∈ix,i<vs.length)->ix.map (λi=>ps.getD i (0,0))=Pu.iM ps->Q (.ref q) (aD H q<|.lst (ix.map λi=>vs.getD i .non))
theorem uf(h:X.K=K):dR X (.builtin "sorted") (xM K):=by
 subst h;intro ZY s σ H xs us Q I r hh;obtain⟨p,vs,ps,rfl,hS,hP,ZQ,hnd,q⟩:=hh;obtain⟨u,rfl,ru⟩:=vals1 r;cases ru;obtain⟨its,rv,ht,hz⟩:=I.list hS;have hl:=rv.length;have hl2:=hP.length;have pa:=aM.pairs I rv hP;have el:its.length=ps.length:=by exact T9 (aR (bM hl.symm)<|bM hl2)<|aR (bM hl2.symm)<|bM hl
 refine ue (κ:=tuples' true) (c:=λi j=>Pu.dv (ps.getD i (0,0))<|ps.getD j (0,0)) ht.isList (by exact eU (bM el) ZQ) (by rw[el];exact l5 hnd) (λh2 h' k Q' hq=>?_) (λh' k i j C hi hj hC=>l4 (s:={s with heap:=h'}) (pa.kept k) hi hj hC) λp1 a1 u1=>?_
 ·obtain⟨fs,g1,g2,g3⟩:=(pa.kept k).tups;refine kat_kind (s:={s with heap:=h'}) (T:=.type "int") g1 (by lia) (λv hv=>?_) rfl hq;obtain⟨i,t,rfl⟩:=g3 v hv;exact .now
 ·rw[el]at a1 u1;have eu:=vH hnd a1 u1;obtain⟨ep,hat⟩:=sortedAll_at s.heap its<|dU its p1;have hlt:∀i∈p1.toList,i<ps.length:=λi hi=>by have:=a1.pm.subset hi;simpa using this
  refine⟨.ref _,_,I.laid (t':=s.toks) (o:=.lst (p1.toList.map λi=>vs.getD i .non)) (λb ob q=>sortedAll_old q) (Q2 _) ⟨?_,p1.toList.map λi=>its.getD i K8,ep,?_,hat⟩,rfl,q _ _ (I.hok.fresh<|Q2 _) (λi hi=>by have:=hlt i hi;exact cf this<|bM hl2.symm) eu⟩
  ·rw[Z8,V7,a1.sz,V6];exact ci<|hU ZQ (by decide)
  ·exact ck λi hi=>jV rv (by have:=hlt i hi;exact cf this<|bM hl2.symm)
end
section
variable {Γ:List Slot}{ta:TE}{K:Z3}
set_option tactic.hygienic true in
theorem wf(h:EV Γ ta o (rL<|eV a8 a8)):i4 Γ (uP (xM K)<|aY ta cH) (o.bind λps=>Pu.ie ps) (eV a8 a8):=by
 intro C F σ H Q xs S e k;obtain⟨ps,e1,e⟩:=a9 e;unfold Pu.ie at e;split at e
 ·rename_i ZQ;cases e;refine h C F σ H _ ps S e1 λv F' H' x1 ⟨p,vs,e2,h1,h2⟩=>?_;refine⟨p,vs,ps,by rw[e2],.inl<|x1.sub.rd h1,Paired.imp2 (λx x z=>Rp.mono _ x1.sub z) h2,ZQ.1,ZQ.2,λq ix hq hi hx=>?_⟩;refine k q _ F' H' x1 hq ?_;rw[<- hx];exact ck λi h=>jV h2<|hi i h
 ·cases e
end
end
end L2
namespace Pu
def bL{α:Type}(kvs:List ((Int×Int)×α))(k:ZG):Option α:=(kvs.find? λkv=>decide<|kv.1=k).map (·.2)
def og{α:Type}(kvs:List ((Int×Int)×α))(k:ZG)(v:α):List ((Int×Int)×α) :=
 if (kvs.any λkv=>decide<|kv.1=k)=true then kvs.map (λkv=>if kv.1=k then (kv.1,v) else kv) else kvs++[(k,v)]
end Pu
namespace L2
section
open PySem PySem.Spec PyProof.Rows
variable [Kn:Kon]
abbrev jf(k:ZG):List Key:=[.inl k.1,.inl k.2]
theorem om(h:jf a=jf b):a=b:=by obtain⟨a1,a2⟩:=a;obtain⟨b1,b2⟩:=b;simp only[jf,List.cons.injEq,Sum.inl.injEq,and_true]at h;rw[h.1,h.2]
theorem ig{α:Type}{r:Rp α}:∀{ws:List (List Key×V)} {kvs:List ((Int×Int)×α)},Paired (vo r F) ws kvs->(∀a,Pu.bL kvs k=some a->∃v,cU ws (jf k)=some v/\r.rel F v a)/\(Pu.bL kvs k=none->cU ws (jf k)=none):=λp=>by
 induction p with
 |nil=>exact⟨λa h=>(nomatch h),λx=>rfl⟩
 |@cons w kv ws kvs h t ih =>
  obtain⟨e1,e2⟩:=h;by_cases q:kv.1=k
  ·have e3:w.1=jf k:=by rw[e1,q]
   have ef:Pu.bL (kv ::kvs) k=some kv.2:=by unfold Pu.bL;rw[List.find?_cons_of_pos (by simpa using q)];rfl
   rw[ef,fF e3];exact⟨λa h=>by cases h;exact(aB _ rfl e2),λh=>(nomatch h)⟩
  ·have e3:¬ w.1=jf k:=by rw[e1];intro z;exact q<|om z
   have ef:Pu.bL (kv ::kvs) k=Pu.bL kvs k:=by unfold Pu.bL;rw[List.find?_cons_of_neg (by simpa using q)]
   rw[ef,fG e3];exact ih
theorem ug{α:Type}{r:Rp α}:∀{ws:List (List Key×V)} {kvs:List ((Int×Int)×α)},Paired (vo r F) ws kvs->(ws.any λkv=>decide<|kv.1=jf k)=kvs.any λkv=>decide (kv.1=k):=λp=>by
 induction p with
 |nil=>rfl
 |cons h t ih =>rw[G6,G6,ih,h.1];congr 1;rw[V5,decide_eq_true_eq,decide_eq_true_eq];exact⟨λz=>om z,λz=>by rw[z]⟩
theorem uh{α:Type}{r:Rp α}{a:α}(hv:r.rel F v a){kvs:List ((Int×Int)×α)}(p:Paired (vo r F) ws kvs):Paired (vo r F) (putK ws (jf k) v) (Pu.og kvs k a):=by
 unfold putK Pu.og;rw[ug p];split
 ·refine Paired.mapB (λw kv h=>?_) p;by_cases q:kv.1=k
  ·rw[if_pos q,if_pos (by rw[h.1,q])];exact⟨h.1,hv⟩
  ·rw[if_neg q,if_neg (by rw[h.1];intro z;exact q<|om z)];exact h
 ·exact Paired.app p<|.cons ⟨rfl,hv⟩ .nil
theorem key2(h:(eV a8 a8).rel H v k):∃b,v=.ref b/\H b=some (.tup<|(jf k).map kV):=by obtain⟨p,a,b,e1,e2,e3,e4⟩:=h;cases e3;cases e4;exact⟨p,e1,e2⟩
def rDT{α:Type}(r:Rp α):Rp (List<|(Int×Int)×α):=⟨λH v kvs=>∃p ws,v=.ref p/\H p=some (.dT ws)/\Paired (vo r H) ws kvs,
 λe ⟨p,ws,h1,h2,h3⟩=>(da p ws h1 (e _ _ h2)<|Paired.imp2 (λx x q=>⟨q.1,r.mono e q.2⟩) h3)⟩
section
variable {Γ:List Slot}{α β T:Type}{r:Rp α}{s:Rp β}{ta tb:TE}{oi:Zg}{kvs:List ((Int×Int)×α)}{u:TS}{fin:Fc->T->Ends->Prop}
theorem SR.borrowT(S:SR C F Γ σ H)(hi:Γ[i]?=some (.ot r kvs)):∃p ws,F p=none/\H p=some (.dT ws)/\SR C (aD F p<|.dT ws) (Γ.set i<|.fr (rDT r) kvs) σ H:=by obtain⟨o,h1,p,vs,rfl,h3,h4,h5,h6⟩:=S.at_ i _ hi;exact(da p vs h4 h5<|S.freeze hi p _ _ rfl rfl h1 h3 h4 h5 ⟨_,rfl,p,vs,rfl,af,Paired.imp2 (λx x z=>⟨z.1,Rp.mono _ (aO h4) z.2⟩) h6⟩ trivial)
abbrev brwT(Γ:List Slot)(i:Nat){α:Type}(r:Rp α)(kvs:List ((Int×Int)×α)):List Slot:=Γ.set i<|.fr (rDT r) kvs
theorem Bu(i:Nat)(hi:Γ[i]?=some (.ot r kvs))(fl:Flat s)(h:i4 (brwT Γ i r kvs) tb o s):i4 Γ tb o s:=by intro C F σ H Q b S e k;obtain⟨p,vs,h1,h2,S'⟩:=S.borrowT hi;refine h C _ σ H Q b S' e λv ws F' H' x1 hv r1=>?_;obtain⟨x2,h3⟩:=eZ h1 h2 x1;exact k v ws _ H' x2 hv<|Paired.imp2 (λx x z=>fl h3 trivial z) r1
theorem ev_ixDT(h:EV Γ ta o (rDT r))(hi:EV Γ tb oi (eV a8 a8)):EV Γ (Ae ta tb) (o.bind λxs=>oi.bind λi=>Pu.bL xs i) r:=by intro C F σ H Q c S e k;obtain⟨a,e1,e⟩:=a9 e;obtain⟨b,e2,e⟩:=a9 e;refine EV.two (q:=λx y H2=>∃a v,x=.ref a/\p8 H2 a y (some v)/\Q v H2) h hi S e1 e2 λx y F' H' x1 zq r2=>iD zq λp ws e3 h1 h2=>?_;obtain⟨v,h3,h4⟩:=(ig (k:=b) h2).1 c e;obtain⟨kb,e4,h5⟩:=key2 r2;exact⟨p,v,e3,.inr ⟨ws,jf b,kb,.inl<|x1.sub _ _ h1,e4,x1.sub _ _ h5,h3.symm⟩,k v F' H' x1 h4⟩
theorem bv_newT{f:List ((Int×Int)×α)->Option T}(i:Nat)(h:∀a,BV (Γ.set i<|.ot r a) u (f a) fin):BV Γ (bW (jJ Aj<|db i) u) ((some []).bind f) fin:=by intro C F σ H D x S e k;exact λp hp=>h [] C F _ _ D x (S.setO i hp rfl ⟨p,[],rfl,S.keep.free hp,S.sub.free hp,af,.nil⟩) e k
end
end
end L2
namespace Pu
def oo{α:Type}(kvs:List ((Int×Int)×α))(k:ZG)(v:α):List ((Int×Int)×α):=match bL kvs k with
 |some _=>kvs
 |none=>og kvs k v
end Pu
namespace L2
section
open PySem PySem.Spec PyProof.Rows
theorem ui{K:Type}[DecidableEq K]{knd:HeapKind prog w K}{E:ZX}{k:K}{xs:List (K×Addr×Value)}{Q:ZX}(hu:knd.room A.in1)(hkey:knd.is s.heap k a)(hd:(d==L5)=false)(hm:s.heap.DictOfH knd d xs)(hsz:xs.length<=W3)(h1:∀p,atKey xs k=some p->Q p.2 {s with toks:=s.toks+knd.draws k})(h0:atKey xs k=none->∀h',h'.DictOfH knd d (storedH xs k a v)->T3 d s.heap h'->Q v {s with heap:=h',toks:=s.toks+knd.draws k}):
  wpAny (model prog w) A (call (.builtin "dict.setdefault") [.ref d,.ref a,v]) Q E s:=by
 refine Q5 E8 hm.typeIs PySem.F.entry_dict_setdefault ?_<|PySem.F.args_dict_setdefault_3 _ _ _;unfold R7.«dict.setdefault»;refine Z0 ?_;unfold R7.Dict.keyAndDefault;refine Z0<|wpAny_notOrdered_dict hm.typeIs ?_;show wpAny _ _ (pure (d,U6 a,some v)) _ _ s;refine Z6 ?_;show wpAny _ _ (if (d==L5)=true then _ else (dictSetDefault d (.ref a) v >>= _)) _ _ s;rw[if_neg (by rw[hd];exact Y3)];obtain⟨o,es,ep,ho,hc,hdd,he,his,hn⟩:=hm;refine Z0 ?_;unfold dictSetDefault
 try with_reducible refine S7 ?_
 refine Z0<|knd.pyHash hu hkey ?_;refine Z0<|wpAny_dictFind_heap (s:={s with toks:=s.toks+knd.draws k}) hu hkey ho hdd he his hn ?_ ?_
 ·intro hno;have hnot:k∉xs.map (·.1):=not_mem_keys_of_get hno;have hat:=atKey_none_of_get hno;refine Z0 (E4 (Z0 (wpAny_updateDictKeys (hz:=by have e:=size_of_entries he;omega) (s:={s with toks:=s.toks+knd.draws k}) ho hdd (Z6 (Z6 ⟨v,rfl,h0 hat _ ⟨_,_,ep+1,Q7 _ ho<|Obj.isFreed_of_dict<|Obj.data_mapDictKeys hdd _,
   hc.mapDictKeys _,Obj.data_mapDictKeys hdd _,?_,?_,?_⟩<|T7 ..⟩)))))
  ·rw[storedH_new hat];simp[he,entryOfKey]
  ·rw[storedH_new hat];intro x hx;rcases V4.mp hx with hx|hx
   ·exact knd.keeps (his x hx) ho hdd<|T7 ..
   ·simp only[Y5]at hx;subst hx;exact knd.keeps hkey ho hdd<|T7 ..
  ·rw[storedH_new hat];rw[U4,List.nodup_append];refine⟨hn,by simp,?_⟩;intro x hx y hy;simp only[W5,List.map_nil,Y5]at hy;subst hy;exact λe=>hnot<|e▸hx
 ·intro j p hj;refine Z0<|wpAny_dictEntries (s:={s with toks:=s.toks+knd.draws k}) ho hdd ?_;rw[entry_at he j,hj];exact Z0<|E4<|Z6<|Z6 ⟨_,rfl,h1 p<|atKey_of_get hn hj⟩
variable [Kn:Kon]
def xN(td ty tx:TE):TE:=λσ H Q=>td σ H λx H1=>∃a,x=.ref a/\IsD H1 a/\ty σ H1 λy H2=>tx σ H2 λz H3=>∃kvs k b,H3 a=some (.dT kvs)/\y=.ref b/\H3 b=some (.tup<|k.map kV)/\kvs.length<W3 /\
 (∀v,cU kvs k=some v->Q v H3)/\(cU kvs k=none->Q z (aD H3 a<|.dT<|putK kvs k z))
section
variable {X:Cx}{ZY:ZO}{σ:St}{H:Hp}{s:Shared}{a b:Addr}{v:V}{r:Value}{A:Around}{E:ZX}{kvs:List (List Key×V)}{k:List Key}
theorem Bv{Q:ZX}(hu:A.units+1<cLine)(I:Inv X ZY σ H s)(e:H a=some (.dT kvs))(eb:H b=some (.tup<|k.map kV))(l:kvs.length<W3)(rv:RelV v r)(h1:∀v',cU kvs k=some v'->∀w' s',Inv X ZY σ H s'->RelV v' w'->Q w' s')(h0:cU kvs k=none->∀s',Inv X ZY σ (aD H a<|.dT<|putK kvs k v) s'->Q r s'):
  wpAny (model X.prog X.w) A (call (.builtin "dict.setdefault") [.ref a,.ref b,r]) Q E s:=by
 obtain⟨z,hd,xs,rel,dd⟩:=Ab I.hok e;have hz:xs.length<=W3:=by rw[<- Paired.length rel];exact z
 have hl:(putK kvs k v).length<=W3:=by have:=fZ kvs k v;omega
 have hv:=rel.val k;refine ui (tupleKind_room_in1 hu) (kP I.hok eb) hd dd hz (λp hp=>?_) λhn h' dd' hs=>?_
 ·rw[hp]at hv;cases q:cU kvs k with
  |none=>rw[q]at hv;cases hv
  |some v' =>rw[q]at hv;refine h1 v' q _ _ (I.tok _) ?_;obtain⟨w',e1,e2⟩:=hV.some_of (v:=v') (o:=some p.2) hv;cases e1;exact e2
 ·rw[hn]at hv;have q:cU kvs k=none:=by
   cases q:cU kvs k with
   |none=>rfl
   |some v'=>rw[q]at hv;cases hv
  refine h0 q _ ?_;obtain⟨q,es,ep,hq,h2,h3,h4,_,h5⟩:=dd';refine mj I (by rw[e];exact E5) hs ⟨q,hq⟩ ⟨hl,hd,_,(rel.put k eb rv).keeps λc ys ec=>?_,q,es,ep,hq,h2,h3,h4,h5⟩;rw[ak (ne_of ec e λz=>nomatch z)];exact ec
end
section
variable {X:Cx}{o e f:Expr}{apos cpos:Pos}{td ty tx:TE}
theorem pe_ddef(hu:X.A.units+1<cLine)(ho:PE X o td)(he:PE X e ty)(hf:PE X f tx)(m:M2 X o "setdefault" apos e f cpos):PE X (.Call (.Attribute o "setdefault" apos) [e,f] [] cpos) (xN td ty tx):=by
 intro ZY s σ H Q I h;refine wpAny_Call_method m.base m.few m.line PySem.F.plainAttrs_dict E8 PySem.F.type_dict_setdefault (bu (ho ZY s σ H _ I h) λu s1 ⟨x,H1,I1,rx,a,ex,d,q1⟩=>?_);subst ex;obtain rfl:u=U6 a:=rx;obtain⟨t1,t2,_⟩:=ve I1 d;refine⟨t1,t2,?_⟩;rw[m.trees];refine D1 rfl (Calls.evalArgs_plain (G2 (bu (he ZY s1 σ H1 _ I1 q1) λiv s2 ⟨y,H2,I2,ry,q2⟩=>
  G2 (bu (hf ZY s2 σ H2 _ I2 q2) λfv s3 ⟨z,H3,I3,rz,zz⟩=>Calls.spliced_nil ?_))))
 obtain⟨kvs,k,b,g1,rfl,g3,g4,g5,g6⟩:=zz;obtain rfl:iv=U6 b:=ry;exact Bv hu I3 g1 g3 g4 rz (λv' e1 w' s' I4 rw'=>⟨v',H3,I4,rw',g5 v' e1⟩) λe0 s' I4=>⟨z,_,I4,rz,g6 e0⟩
end
section
variable {Γ:List Slot}{α T:Type}{r:Rp α}{tb te:TE}{oa:Option α}{oi:Zg}{kvs:List ((Int×Int)×α)}{u:TS}{fin:Fc->T->Ends->Prop}
set_option tactic.hygienic true in
theorem zd(h:Γ[i]?=some s):Γ.set i s=Γ:=by
 apply List.ext_getElem?;intro j;rw[J3];split
 ·rename_i e;subst e;split
  ·exact h.symm
  ·rename_i z;rw[List.getElem?_eq_none (D5 z)]at h;cases h
 ·rfl
set_option tactic.hygienic true in
theorem bv_defT{f:List ((Int×Int)×α)->Option T}(i:Nat)(hi:Γ[i]?=some (.ot r kvs))(hk:EV Γ tb oi (eV a8 a8))(he:EV Γ te oa r)(h:∀ys,BV (Γ.set i<|.ot r ys) u (f ys) fin):
  BV Γ (bW (lq<|xN (bF i) tb te) u) (oi.bind λk=>oa.bind λa=>if kvs.length<16777216 then f (Pu.oo kvs k a) else none) fin:=by
 intro C F σ H D x S e k;obtain⟨n,e2,e⟩:=a9 e;obtain⟨a,e1,e⟩:=a9 e;split at e
 case isFalse=>cases e
 rename_i hl;obtain⟨o,h1,p,vs,rfl,_,_,h5,_⟩:=S.at_ i _ hi;show xN (bF i) tb te σ H λc H'=>u D σ H';unfold xN;refine rp i C F σ H _ (.ref p) S h1 ?_;refine⟨p,rfl,.inr ⟨vs,.inl h5⟩,hk C F σ H _ n S e2 λw F2 H2 x2 r2=>he C F2 σ H2 _ a (S.grow x2) e1 λv F3 H3 x3 r3=>?_⟩;have S':=(S.grow x2).grow x3;obtain⟨o',q1,p',vs',rfl,q3,q4,q5,q6⟩:=S'.at_ i _ hi;rw[h1]at q1;cases q1;obtain⟨kb,e4,h6⟩:=key2 r2;refine⟨vs',jf n,kb,q5,e4,x3.sub _ _<|x3.ff _ _ h6,by rw[q6.length,V6];exact hl,λv' hv=>?_,λhn=>?_⟩
 ·have ef:Pu.oo kvs n a=kvs:=by
   unfold Pu.oo;cases q:Pu.bL kvs n with
   |some _=>rfl
   |none=>rw[(ig (k:=n) q6).2 q]at hv;cases hv
  rw[ef]at e;have S2:=h kvs C F3 σ H3 D x;rw[zd hi]at S2;exact S2 S' e k
 ·have ef:Pu.oo kvs n a=Pu.og kvs n a:=by
   unfold Pu.oo;cases q:Pu.bL kvs n with
   |none=>rfl
   |some b=>obtain⟨v',h7,_⟩:=(ig (k:=n) q6).1 b q;rw[h7]at hn;cases hn
  rw[ef]at e;exact h _ C F3 σ _ D x (S'.chg hi rfl h1 q3 q4 rfl ⟨p,_,rfl,q3,q4,af,uh r3 q6⟩) e k
end
end
open PySem PySem.Spec PyProof.Rows
def iQ(h:Heap)(d:Addr)(es:Array G1)(ep:Nat):Prop:=∃o,h.get? d=some o/\o.ExactDict/\o.data=.dict es ep
theorem iQ.at_(x:iQ h d es ep)(k:∀o,h.get? d=some o->h'.get? d=some o):iQ h' d es ep:=aU x λo a b=>⟨o,k o a,b⟩
theorem iQ.typeIs{s:Shared}(x:iQ s.heap d es ep):s.TypeIs (.ref d) "dict":=cM x λo a b h=>⟨o,a,b.1⟩
section
variable {prog:U7}{w:World}{A:Around}{E:ZX}{s:Shared}{d it:Addr}{es:Array G1}{ep i:Nat}
theorem Bw{Q:ZX}(hd:(d==L5)=false)(hm:iQ s.heap d es ep)(hQ:Q (.ref s.heap.objs.size) {s with heap:=s.heap.push {cls:=.type "dict_keyiterator",data:=.fields #[.ref d,.int 0 0,.int es.size 0,.int ep 0]}}):wpAny (model prog w) A (pyIter<|.ref d) Q E s:=by have hT:=hm.typeIs;obtain⟨o,ho,hc,hdat⟩:=hm;refine wpAny_pyIter_slot hT PySem.F.slot_dict_iter<|Q5 PySem.F.slot_dict_iter hT PySem.F.entry_dict_iter ?_<|PySem.F.args_dict_iter_1 _;unfold R7.«dict.__iter__»;refine Z0 ?_;unfold R7.Dict.dictSlotNone;refine Z0<|wpAny_notOrdered_dict hT ?_;show wpAny _ _ (pure<|U6 d) _ _ s;refine Z6 ?_;show wpAny _ _ (R7.Dict.showsAll d >>= _) _ _ s;unfold R7.Dict.showsAll;rw[if_neg (by rw[hd];exact Y3)];refine Z0<|Z6<|Z0<|wpAny_dictEntries ho hdat<|Z0<|wpAny_dictEpoch ho hdat ?_;refine Z0<|O9<|Z6 ⟨_,rfl,"dict_keyiterator",_,⟨_,X0 _ rfl,rfl⟩,N4.lookup,?_⟩;simpa [rawInt] using hQ
theorem Bx{Q:Zo}(hit:s.heap.IsKeyIter it d i es.size ep)(hm:iQ s.heap d es ep)(h1:∀h:i<es.size,∀h',h'.IsKeyIter it d (i+1) es.size ep->T3 it s.heap h'->Q (some es[i].key) {s with heap:=h'})(h:i<es.size):
  wpAny (model prog w) A (pyNext<|.ref it) Q E s:=by
 obtain⟨o,ho,hc,hd⟩:=id hit;obtain⟨od,hod,hcd,hdd⟩:=hm;unfold pyNext;refine Z0 (wpAny_attempt (K7 (name:=G7 "__next__") hit.typeIs N4
  (Q5 N4 hit.typeIs PySem.F.entry_dict_keyiterator_next ?_<|PySem.F.args_dict_keyiterator_next_1 _)))
 refine Z0 (Z6<|Z0<|Z0 ?_)
 first|refine Z0 (F8 hit.typeIs<|Z6 ?_)|refine Z0<|wpAny_typeNameOf_keyiter hit.typeIs<|Z6 ?_
 refine Z0<|wpAny_fieldsOf ho hd ?_;simp only[show R7.Dict_items.ownsTuple "dict_keyiterator"=false by decide,Q6,if_false];show wpAny _ _ (if (U6 d==K8)=true then _ else _) _ _ s;rw[if_neg (show ¬ ((U6 d==K8)=true) from Y3)];refine Z0<|Z6<|Z0<|wpAny_dictEntries hod hdd ?_;rw[if_neg (by simp)];refine Z0<|Z6<|Z0<|wpAny_dictEpoch hod hdd ?_;rw[if_neg (by simp)];refine Z6 ?_;simp only[show ¬ ((i:Int)<0) from by omega,if_false,W0,U3 h];refine Z0 ?_
 first|refine Z0 (F8 hit.typeIs<|Z6 ?_)|refine Z0<|wpAny_typeNameOf_keyiter hit.typeIs<|Z6 ?_
 refine Z0<|wpAny_isOneOf_keyiter hit.typeIs ?_;show wpAny _ _ (setField (.ref it) 1 (rawInt<|(i:Int)+1) >>= _) _ _ s;refine Z0<|wpAny_setField ho hd (by simp) ?_;have hit':(s.heap.update it<|Obj.mapFields (·.setIfInBounds 1 (rawInt<|(i:Int)+1))).IsKeyIter it d (i+1) es.size ep :=
  ⟨_,Q7 _ ho<|Obj.isFreed_of_fields<|N1 hd _,(Obj.cls_mapFields ..).trans hc,by rw[N1 hd];simp[rawInt]⟩
 refine Z0<|S7 ?_;refine Z0<|wpAny_isOneOf_keyiter (s:={s with heap:=s.heap.update it (Obj.mapFields (·.setIfInBounds 1 (rawInt<|(i:Int)+1)))}) hit'.typeIs ?_;show wpAny _ _ (pure es[i].key) _ _ _;exact Z6<|Z6 ⟨_,rfl,Z6<|h1 h _ hit'<|T7 ..⟩
theorem ent_end{Q:Zo}(hh:A.handled=none)(hit:s.heap.IsKeyIter it d es.size es.size ep)(hm:iQ s.heap d es ep)(hQ:∀h',Heap.ExtBut it s.heap h'->Q none {s with heap:=h'}):
  wpAny (model prog w) A (pyNext<|.ref it) Q E s:=by
 obtain⟨o,ho,hc,hd⟩:=id hit;obtain⟨od,hod,hcd,hdd⟩:=hm;unfold pyNext;refine Z0 (wpAny_attempt (K7 (name:=G7 "__next__") hit.typeIs N4
  (Q5 N4 hit.typeIs PySem.F.entry_dict_keyiterator_next ?_<|PySem.F.args_dict_keyiterator_next_1 _)))
 refine Z0 (Z6<|Z0<|Z0 ?_)
 first|refine Z0 (F8 hit.typeIs<|Z6 ?_)|refine Z0<|wpAny_typeNameOf_keyiter hit.typeIs<|Z6 ?_
 refine Z0<|wpAny_fieldsOf ho hd ?_;simp only[show R7.Dict_items.ownsTuple "dict_keyiterator"=false by decide,Q6,if_false];show wpAny _ _ (if (U6 d==K8)=true then _ else _) _ _ s;rw[if_neg (show ¬ ((U6 d==K8)=true) from Y3)];refine Z0<|Z6<|Z0<|wpAny_dictEntries hod hdd ?_;rw[if_neg (by simp)];refine Z0<|Z6<|Z0<|wpAny_dictEpoch hod hdd ?_;rw[if_neg (by simp)];refine Z6 ?_;simp only[show ¬ ((es.size:Int)<0) from by omega,if_false,W0,D3 (bi es.size)];refine Z0 ?_
 first|refine Z0 (F8 hit.typeIs<|Z6 ?_)|refine Z0<|wpAny_typeNameOf_keyiter hit.typeIs<|Z6 ?_
 show wpAny _ _ (setField (.ref it) 0 .none >>= _) _ _ s;refine Z0<|wpAny_setField ho hd (by simp) ?_;show wpAny _ _ (newExc (.type "StopIteration") [] >>= _) _ _ _;refine Z0 ?_;simp only[newExc,newTuple];refine Z0<|O9 ?_ (by size_fits);refine Z0 (m:=firstArgMember _ _)<|wpAny_of_eq (a:=K8) (by first|rfl|(simp only[firstArgMember];rfl)) ?_;refine O9 ?_ (by size_fits);simp only[raiseNew];refine Z0<|wpAny_handled ?_;rw[show A.in1.handled=none from hh];refine Z0<|Z6<|wpAny_throw ?_;refine Z0<|wpAny_isInstance (T:="StopIteration") (b:=true) ⟨_,X0 _ rfl,rfl⟩ isSubtype_stop ?_;exact Z6<|hQ _<|((T7 ..).extBut.push _).push _
theorem ze(hh:A.handled=none)(I d:Addr)(hne:d≠I)(es:Array G1)(ep:Nat):
  PySem.Walks prog w A I [I,d] [I] es.size (λi v=>∃h:i<es.size,v=es[i].key) (λi h=>h.IsKeyIter I d i es.size ep/\iQ h d es ep) where
 sub:=λb hb=>by simp at hb;simp[hb]
 frame:=λx x x st hk=>⟨st.1.at λo e=>hk I (by simp) o e,st.2.at_ λo e=>hk d (by simp) o e⟩
 item:=λi s Q E hi st hQ=>Bx st.1 st.2 (λh h' hit' hs'=>hQ _ h' s.toks ⟨h,rfl⟩ ⟨hit',st.2.at_ λo e=>hs'.extBut d o hne e⟩ λb o hb e=>hs'.extBut b o (λh=>hb (by simp[h])) e) hi
 done:=λs Q E st hQ=>ent_end hh st.1 st.2 λh' he'=>hQ h' s.toks λb o hb e=>he' b o (λh=>hb (by simp[h])) e
 self:=λx x x x st hQ=>wpAny_pyIter_keyiter st.1 hQ
theorem ent_src(lo:(d==L5)=false):PySem.W.KdlSrc prog w "dict" d d es.size (λi v=>∃h:i<es.size,v=es[i].key) (λh=>iQ h d es ep) where
 type:=λx hm=>hm.typeIs
 there:=λ_ ⟨o,ho,_⟩=>⟨Y8 ho,Y8 ho⟩
 keep:=λx x hm hk=>hm.at_ λo e=>hk d (.inl rfl) o e
 notList:=by decide
 notTuple:=by decide
 hint:=λx x x x hm hq=>PySem.W.kdl_hint_dict hm.typeIs hq
 iter:=λx x hh hm=>⟨_,_,(λx x hq=>Bw lo hm hq),ze hh _ d (aU hm λo ho x=>dB<|Y8 ho) es ep,⟨⟨_,X0 _ rfl,rfl,rfl⟩,hm.at_ λo e=>Z4 _ e⟩⟩
end
section
variable [Kn:Kon]
theorem By:∀{ws:List (List Key×V)} {xs:List (List Key×Addr×Value)} {ks:ZD},KT H ws xs->ws.map (·.1)=ks.map jf->Paired ((eV a8 a8).rel H) (xs.map λx=>V.ref x.2.1) ks:=λ{ws xs ks} p=>by
 induction p generalizing ks with
 |nil=>intro e;cases ks with|nil=>exact .nil|cons _ _=>exact nomatch e
 |@cons a b as bs h t ih =>
  intro e;cases ks with
  |nil=>exact nomatch e
  |cons k ks =>refine .cons ⟨_,.int k.1,.int k.2,rfl,?_,rfl,rfl⟩<|ih (List.cons.inj e).2;rw[h.2.1,show a.1=jf k from (List.cons.inj e).1];rfl
section
variable {X:Cx}
open PySem.W
def xO:List V->Hp->VK->Prop:=λxs H Q=>∃p ws ks,xs=[.ref p]/\H p=some (.dT ws)/\ws.map (·.1)=ks.map jf/\ks.length<1000000/\ks.Nodup/\∀q vs,H q=none->Paired ((eV a8 a8).rel H) vs (Pu.iM ks)->Q (.ref q) (aD H q<|.lst vs)
theorem uj(hc:X.calm=true):dR X (.builtin "sorted") xO:=by
 intro ZY s σ H xs us Q I r hh;obtain⟨p,ws,ks,rfl,hD,hK,ZQ,hnd,q⟩:=hh;obtain⟨u,rfl,ru⟩:=vals1 r;cases ru;obtain⟨hz,lo,xs,rel,dd⟩:=Ab I.hok hD;obtain⟨o,es,ep,ho,hx,hd,he,his,hn⟩:=dd;have hat:iQ s.heap p es ep:=⟨o,ho,hx,hd⟩;have hes:es.size=xs.length:=size_of_entries he;have lx:ws.length=xs.length:=Paired.length rel;have lk:ws.length=ks.length:=by have:=congrArg List.length hK;simpa using this
 refine Calls.call_function_entry kind_sorted plain_sorted entry_sorted (args_sorted1 _) ?_;unfold R7.«sorted»;refine Z0 (m:=checkCount "sorted" 1 1 _)<|Z6 ?_;refine Z0 (kdu_collect (A:=X.A.in1) (ent_src (es:=es) (ep:=ep) lo) (I.ok.hd hc) hat (by rw[hes,<- lx];exact hz) λh' tk acc hk hacc=>?_);have I1:=I.kept (t':=tk) hk;have eacc:acc.toList=xs.map λx=>U6 x.2.1:=by
  apply List.ext_getElem
  ·rw[V7,hacc.1,Z8,hes]
  ·intro i h1 h2;obtain⟨hi,e1⟩:=hacc.2 i _<|U3 (by rw[V7]at h1;exact h1);have e2:=entry_at he i;rw[U3 hi]at e2;rw[Z8]at h2;rw[Z9 h2]at e2;have e3:=Z5 e2;rw[Array.getElem_toList,e1,e3,List.getElem_map];rfl
 have hP:Paired ((eV a8 a8).rel H) (xs.map λx=>V.ref x.2.1) ks:=By rel hK;have rv:aM (xs.map λx=>V.ref x.2.1) acc.toList:=by rw[eacc];exact ck λx a=>rfl
 have pa:=aM.pairs I1 rv hP;have el:acc.toList.length=ks.length:=by rw[eacc,Z8];omega
 have hl2:=hP.length;refine Z0<|wpAny_newList ?_ (by rw[el,V6];exact ci<|hU ZQ (by decide));have hoL:(h'.push<|seqObj "list" acc.toList.toArray 0).get? h'.objs.size=some (seqObj "list" acc.toList.toArray 0):=X0 _ rfl;have kp:∀h2:Heap,(∀b o,b≠h'.objs.size->(h'.push<|seqObj "list" acc.toList.toArray 0).get? b=some o->h2.get? b=some o)->∀b o,h'.get? b=some o->h2.get? b=some o:=λh2 k b o z=>k b o (dB<|Y8 z)<|Z4 _ z;refine Z0 (S7 (Q5 slot_list_sort ⟨_,hoL,rfl⟩ entry_list_sort
  (iP (κ:=tuples' true) (c:=λi j=>Pu.dv (ks.getD i (0,0))<|ks.getD j (0,0)) (s:={s with heap:=h'.push<|seqObj "list" acc.toList.toArray 0,toks:=tk}) hoL (by exact eU (bM el) ZQ) (by rw[el];exact l5 hnd) (λh2 h3 k Q' hq=>?_)
   (λh3 k i j C hi hj hC=>l4 (s:={s with heap:=h3,toks:=tk}) (pa.kept<|kp h3 k) hi hj hC) λp1 a1 u1=>(aB _ rfl ?_)) (args_list_sort _)))
 ·obtain⟨fs,g1,g2,g3⟩:=(pa.kept<|kp h3 k).tups;refine kat_kind (s:={s with heap:=h3,toks:=tk}) (T:=.type "int") g1 (by omega) (λv hv=>?_) rfl hq;obtain⟨i,t,rfl⟩:=g3 v hv;exact .now
 ·rw[el]at a1 u1;have eu:=vH hnd a1 u1;obtain⟨e1,hat1⟩:=sortedHeap_at (out:=dU acc.toList p1) hoL;have hlt:∀i∈p1.toList,i<ks.length:=λi hi=>by have:=a1.pm.subset hi;simpa using this
  refine Z6 ⟨_,rfl,.ref _,_,I1.laid (t':=tk) (o:=.lst (p1.toList.map λi=>(xs.map λx=>V.ref x.2.1).getD i .non)) (λb ob q=>?_) (bi _) ⟨?_,p1.toList.map λi=>acc.toList.getD i K8,e1,?_,hat1⟩,rfl,q _ _ (I1.hok.fresh<|bi _) ?_⟩
  ·have hlt:b<h'.objs.size:=Y8 q;rw[sortedHeap_old (dB hlt) (by rw[size_push'];exact R4 hlt)];exact Z4 _ q
  ·rw[Z8,V7,a1.sz,V6];exact ci<|hU ZQ (by decide)
  ·exact ck λi hi=>jV rv (by have:=hlt i hi;exact cf this<|bM hl2.symm)
  ·rw[<- eu];exact ck λi h=>jV hP (by have:=hlt i h;exact cf this<|bM hl2.symm)
end
def tpl(F H:Hp):Hp:=λb=>match F b with
 |some o=>some o
 |none=>match H b with
  |some (.tup xs)=>some<|.tup xs
  |_=>none
set_option tactic.hygienic true in
theorem oq(h:tpl F H b=some o):F b=some o\/∃xs,o=.tup xs/\H b=some (.tup xs):=by
 unfold tpl at h;split at h
 ·rename_i u e;exact .inl<|e.trans h
 ·split at h
  ·rename_i xs e;cases h;exact .inr ⟨xs,rfl,e⟩
  ·cases h
set_option tactic.hygienic true in
theorem tpl_of(s:aW F H)(h:H b=some (.tup xs)):tpl F H b=some (.tup xs):=by
 unfold tpl;split
 ·rename_i u e;rw[<- s _ _ e];exact h
 ·rw[h]
theorem Bz(s:aW F H):Ext F H (tpl F H) H:=by
 refine⟨Sm.refl _,λb o h=>?_,λb o h=>?_,λb o h=>?_,λz b ps h=>?_⟩
 ·unfold tpl;rw[h]
 ·rcases oq h with q|⟨xs,rfl,q⟩
  ·exact s b o q
  ·exact q
 ·rcases oq h with q|⟨xs,rfl,q⟩
  ·exact .inl q
  ·exact .inr (by rw[q];trivial)
 ·rcases oq h with q|⟨xs,e,q⟩
  ·exact z b ps q
  ·cases e
theorem zg{α:Type}{r:Rp α}:∀{ws:List (List Key×V)} {kvs:List ((Int×Int)×α)},Paired (vo r F) ws kvs->ws.map (·.1)=(kvs.map (·.1)).map jf:=λp=>by
 induction p with
 |nil=>rfl
 |cons h t ih=>rw[W5,W5,W5,<- ih,h.1]
end
section
variable [Kn:Kon]
theorem BA{K:Z3}{α β γ:Type}{r:Rp α}{s:Rp β}{q:Rp γ}{o:Option (α×β)}{o':Option γ}(h:EV Γ ta o (eV r s))(h':EV Γ tb o' (rT1 q)):EV Γ (iw (qa K) ta tb) (o.bind λa=>o'.bind λb=>some (a.1,a.2,b)) (ju r s q):=by intro C F σ H Q c S e k;obtain⟨a,e1,e⟩:=a9 e;obtain⟨b,e2,e⟩:=a9 e;cases e;refine EV.two (q:=λx y H2=>qa K x y H2 Q) h h' S e1 e2 λx y F' H' x1 zq zp=>sI zq λp u v e3 h1 h2 h3=>iD zp λp' w e4 h4 h5=>⟨p,p',[u,v],[w],e3,e4,jp.of<|x1.sub _ _ h1,jp.of<|x1.sub _ _ h4,by simp,by rw[V6];simp,(λz=>nomatch z),λi q9 hq=>?_⟩;have x2:=Ext.new (o:=.tup [u,v,w]) x1.sub hq;exact k _ _ _ (x1.trans x2) ⟨q9,u,v,w,rfl,af,Rp.mono _ x2.ff h2,Rp.mono _ x2.ff h3,Rp.mono _ x2.ff h5⟩
end
section
variable [Kn:Kon]
section
variable {Γ:List Slot}{ta:TE}{α:Type}{r:Rp α}{kvs:List ((Int×Int)×α)}
set_option tactic.hygienic true in
theorem wg{o:Option (List<|(Int×Int)×α)}(h:EV Γ ta o (rDT r)):i4 Γ (uP xO<|aY ta cH) (o.bind λkvs=>Pu.ie<|kvs.map (·.1)) (eV a8 a8):=by
 intro C F σ H Q xs S e k;obtain⟨kvs,e1,e⟩:=a9 e;unfold Pu.ie at e;split at e
 case isFalse=>cases e
 rename_i ZQ;cases e;refine h C F σ H _ kvs S e1 λv F' H' x1 hv=>?_;obtain⟨p,ws,rfl,h5,h6⟩:=hv;refine⟨p,ws,kvs.map (·.1),rfl,x1.sub _ _ h5,zg h6,ZQ.1,ZQ.2,λq vs hq pr=>k q vs (tpl F' H') H' (x1.trans<|Bz x1.sub) hq<|Paired.imp2 (λv x z=>?_) pr⟩;obtain⟨p,a,b,e1,e2,e3,e4⟩:=z;exact⟨p,a,b,e1,tpl_of x1.sub e2,e3,e4⟩
end
end
end L2
namespace Pu
section
variable {α β γ ε:Type}{oa:Option α}{ob:Option β}{oc:Option γ}
theorem as2{F:α×β->Option ε}:(oa.bind λa=>ob.bind λb=>F (a,b))=(oa.bind λa=>ob.bind λb=>some (a,b)).bind F:=by cases oa<;>cases ob<;>rfl
theorem as3{F:α×β×γ->Option ε}:(oa.bind λa=>ob.bind λb=>oc.bind λc=>F (a,b,c))=(oa.bind λa=>(ob.bind λb=>oc.bind λc=>some (b,c)).bind λb=>some (a,b)).bind F:=by cases oa<;>cases ob<;>cases oc<;>rfl
end
def si(s:Zl)(x:Int×Int×Int):Option (List<|Int×List Int):=if s.length<16777216 then match find s x.2.2 with
 |some l=>if l.length+2<=16777216 then some (put s x.2.2<|l++[x.1,x.2.1]) else none
 |none=>some (s++[(x.2.2,[x.1,x.2.1])]) else none
def oA{α:Type}(zs:List α)(k:Int):Option (α×List α):=if -(2^63)<=k/\k<2^63 then (PySem.seqIndex? k zs.length).bind λn=>zs[n]?.map λa=>(a,zs.eraseIdx n) else none
end Pu
namespace L2
section
open PySem PySem.Spec PyProof.Rows
variable [Kn:Kon]
section
variable {Γ:List Slot}{α T:Type}{r:Rp α}{te:TE}{oi:ZI}{K:Z3}{u:TS}{fin:Fc->T->Ends->Prop}{φ ψ:ZF}{xs zs:List α}
set_option tactic.hygienic true in
theorem qo{f:List α->List α->Option T}(i j:Nat)(hij:i≠j)(hi:Γ[i]?=some (.ol r φ xs))(hj:Γ[j]?=some (.ol r ψ zs))(he:EV Γ te oi a8)(h:∀ys ws,BV ((Γ.set j<|.ol r ψ ws).set i (.ol r φ ys)) u (f ys ws) fin):
  BV Γ (bW (lq<|tBM K "list" qL (bF i) (aY (tBM K "list" A7 (bF j) (aY te cH)) cH)) u) (oi.bind λk=>(Pu.oA zs k).bind λq=>(Pu.app xs q.1).bind λys=>f ys q.2) fin:=by
 intro C F σ H D x S e k;obtain⟨n,e1,e⟩:=a9 e;obtain⟨q,e2,e⟩:=a9 e;obtain⟨ys,e3,e⟩:=a9 e;refine dM (S.at_ i _ hi) λp vs h1 h2 h3 h4 h5 h6=>dM (S.at_ j _ hj) λp2 ws g1 g2 g3 g4 g5 g6=>?_;refine⟨.ref p,h1,.inl ⟨rfl,vs,cD.of h5⟩,.ref p2,g1,.inl ⟨rfl,ws,cD.of g5⟩,he C F σ H _ n S e1 λv F' H' x1 r1=>?_⟩;have S':=S.grow x1;refine dM (S'.at_ j _ hj) λp' ws' q1 q2 q3 q4 q5 q6=>?_;rw[g1]at q1;cases q1;unfold Pu.oA at e2;split at e2
 case isFalse=>cases e2
 rename_i hb;obtain⟨m,em,e2⟩:=a9 e2;obtain⟨a,ea,eq⟩:=U8.mp e2;obtain⟨y,hy,ry⟩:=cJ q6 ea;refine⟨p2,ws',n,m,y,rfl,by rw[r1],q5,hb.1,hb.2,by rw[q6.length];exact em,hy,?_⟩;have S2:=S'.chg (s':=.ol r ψ<|zs.eraseIdx m) hj rfl g1 q3 q4 rfl ⟨p2,_,rfl,q2,q3,q4,af,Paired.eraseB m q6⟩;have hi2:(Γ.set j<|.ol r ψ<|zs.eraseIdx m)[i]?=some (.ol r φ xs):=by rw[List.getElem?_set_ne (R6 hij)];exact hi
 refine dM (S2.at_ i _ hi2) λp3 vs3 k1 k2 k3 k4 k5 k6=>?_;rw[h1]at k1;cases k1;unfold Pu.app at e3;split at e3
 case isFalse=>cases e3
 rename_i hl;cases e3;cases eq;refine⟨p,vs3,y,rfl,rfl,k5,by rw[k6.length,V6];exact hl,?_⟩;exact h _ _ C F' σ _ D x (S2.chg hi2 rfl h1 k3 k4 rfl ⟨p,_,rfl,k2,k3,k4,af,Paired.app k6<|.cons ry .nil⟩) e k
end
def rH3{α β γ:Type}(r:Rp α)(s:Rp β)(q:Rp γ):Rp (α×β×γ):=⟨λH v x=>∃p a b c,v=.ref p/\H p=some (.lst [a,b,c])/\r.rel H a x.1/\s.rel H b x.2.1/\q.rel H c x.2.2,λe ⟨p,a,b,c,h1,h2,h3,h4,h5⟩=>⟨p,a,b,c,h1,e _ _ h2,r.mono e h3,s.mono e h4,q.mono e h5⟩⟩
section
variable {Γ:List Slot}{α β γ:Type}{r:Rp α}{s:Rp β}{q:Rp γ}{ta tb tc:TE}{oa:Option α}{ob:Option β}{oc:Option γ}{o:Option (α×β×γ)}{K:Z3}
theorem xP(ha:EV Γ ta oa r)(hb:EV Γ tb ob s)(hc:EV Γ tc oc q):EV Γ (yo<|aY ta<|aY tb<|aY tc cH) (oa.bind λa=>ob.bind λb=>oc.bind λc=>some (a,b,c)) (rH3 r s q):=by intro C F σ H Q c S e k;obtain⟨a,e1,e⟩:=a9 e;obtain⟨b,e2,e⟩:=a9 e;obtain⟨c,e3,e⟩:=a9 e;cases e;refine EV.two (q:=λx y H2=>tc σ H2 λz H3=>[x,y,z].length<=W3/\∀p,H3 p=none->Q (.ref p) (aD H3 p<|.lst [x,y,z])) ha hb S e1 e2 λx y F' H' x1 r1 r2=>?_;refine hc C F' σ H' _ c (S.grow x1) e3 λz F2 H2 x2 r3=>⟨by show 3<=W3;decide,λp hp=>?_⟩;have e:=aO (o:=.lst [x,y,z])<|x2.sub.free hp;exact k _ _ _ ((x1.trans x2).trans (Ext.new x2.sub hp)) ⟨p,x,y,z,rfl,af,r.mono (x2.ff.trans e) r1,s.mono (x2.ff.trans e) r2,q.mono e r3⟩
theorem xQ(h:EV Γ ta o (rH3 r s q)):EV Γ (iw (yw K) ta<|tC<|.int 0) (o.bind λx=>some x.1) r:=by intro C F σ H Q c S e k;obtain⟨x,e1,e⟩:=a9 e;cases e;exact h C F σ H _ x S e1 λv F' H' x1 ⟨p,a,b,c,e2,h1,h2,h3,h4⟩=>⟨p,[a,b,c],0,a,e2,rfl,cD.of<|x1.sub _ _ h1,rfl,k a F' H' x1 h2⟩
theorem ev_h3_1(h:EV Γ ta o (rH3 r s q)):EV Γ (iw (yw K) ta<|tC<|.int 1) (o.bind λx=>some x.2.1) s:=by intro C F σ H Q c S e k;obtain⟨x,e1,e⟩:=a9 e;cases e;exact h C F σ H _ x S e1 λv F' H' x1 ⟨p,a,b,c,e2,h1,h2,h3,h4⟩=>⟨p,[a,b,c],1,b,e2,rfl,cD.of<|x1.sub _ _ h1,rfl,k b F' H' x1 h3⟩
theorem ev_h3_2(h:EV Γ ta o (rH3 r s q)):EV Γ (iw (yw K) ta<|tC<|.int 2) (o.bind λx=>some x.2.2) q:=by intro C F σ H Q c S e k;obtain⟨x,e1,e⟩:=a9 e;cases e;exact h C F σ H _ x S e1 λv F' H' x1 ⟨p,a,b,c,e2,h1,h2,h3,h4⟩=>⟨p,[a,b,c],2,c,e2,rfl,cD.of<|x1.sub _ _ h1,rfl,k c F' H' x1 h4⟩
end
def dH3{α β γ:Type}[DecidableEq α][DecidableEq β][DecidableEq γ]{r:Rp α}{s:Rp β}{q:Rp γ}(d:Dt r)(e:Dt s)(f:Dt q):Dt (rH3 r s q):=⟨λx=>.list [d.dat x.1,e.dat x.2.1,f.dat x.2.2],max d.n (max e.n f.n)+1,λ{K H v a} h=>by obtain⟨p,x,y,z,e1,h1,h2,h3,h4⟩:=h;exact(da p _ e1 (cD.of h1)<|da _ _ rfl (d.ok h2)<|da _ _ rfl (e.ok h3)<|da _ _ rfl (f.ok h4) rfl),
 λa=>by simp[PyData.canLay0,PyData.canLayAll0,d.lay,e.lay,f.lay],λa=>by have:=d.dep a.1;have:=e.dep a.2.1;have:=f.dep a.2.2;simp[PyData.depth,PyData.depthAll];omega,λa b=>by rw[PyData.eqv,K1,K1,K1,K1,d.eqv,e.eqv,f.eqv,V5];obtain⟨a1,a2,a3⟩:=a;obtain⟨b1,b2,b3⟩:=b;simp⟩
end
open PySem PySem.Spec PyProof.Rows
def BB(td ty tx:TE):TE:=λσ H Q=>td σ H λx H1=>∃a,x=.ref a/\IsD H1 a/\ty σ H1 λy H2=>tx σ H2 λz H3=>∃kvs i,H3 a=some (.dK kvs)/\y=.int i/\kvs.length<W3 /\
 (∀v,cU kvs (.inl i)=some v->Q v H3)/\(cU kvs (.inl i)=none->Q z (aD H3 a<|.dK<|putK kvs (.inl i) z))
section
variable {X:Cx}{ZY:ZO}{σ:St}{H:Hp}{s:Shared}{a:Addr}{v:V}{u r:Value}{A:Around}{E:ZX}{kvs:List (Key×V)}{k:Key}
theorem zh{Q:ZX}(I:Inv X ZY σ H s)(e:H a=some (.dK kvs))(ry:RelV (kV k) u)(l:kvs.length<W3)(rv:RelV v r)(h1:∀v',cU kvs k=some v'->∀w' s',Inv X ZY σ H s'->RelV v' w'->Q w' s')(h0:cU kvs k=none->∀s',Inv X ZY σ (aD H a<|.dK<|putK kvs k v) s'->Q r s'):
  wpAny (model X.prog X.w) A (call (.builtin "dict.setdefault") [.ref a,u,r]) Q E s:=by
 obtain⟨z,hd,vs,rel,dd⟩:=dk_of I.hok e;have hz:vs.length<=W3:=by rw[<- rel.length];exact z
 have hl:(putK kvs k v).length<=W3:=by have:=fZ kvs k v;lia
 have hv:=rel.val k;refine Q5 E8 dd.typeIs PySem.F.entry_dict_setdefault ?_<|PySem.F.args_dict_setdefault_3 _ _ _;unfold R7.«dict.setdefault»;refine Z0 ?_;unfold R7.Dict.keyAndDefault;refine Z0<|wpAny_notOrdered_dict dd.typeIs ?_;show wpAny _ _ (pure (a,u,some r)) _ _ s;refine Z6 ?_;show wpAny _ _ (if (a==L5)=true then _ else (dictSetDefault a u r >>= _)) _ _ s;rw[if_neg (by rw[hd];exact Y3)];refine Z0 (kt_dictSetDefault_pairs (hsz:=hz) (qc ry) dd (λw' hw=>Z6 ⟨w',rfl,?_⟩) λhn h' dd' hs=>Z6 ⟨r,rfl,?_⟩)
 ·rw[hw]at hv;cases q:cU kvs k with
  |none=>rw[q]at hv;cases hv
  |some v'=>rw[q]at hv;exact h1 v' q _ _ (I.tok _) hv
 ·rw[hn]at hv;have q:cU kvs k=none:=by
   cases q:cU kvs k with
   |none=>rfl
   |some v'=>rw[q]at hv;cases hv
  have he:∃q,h'.get? a=some q:=oq32 dd' λq x x hq x=>⟨q,hq⟩;exact h0 q _<|mj I (by rw[e];exact E5) hs he<|Ad hl hd (rel.put k rv) dd'
end
section
variable {X:Cx}{o e f:Expr}{apos cpos:Pos}{td ty tx:TE}
theorem BC(ho:PE X o td)(he:PE X e ty)(hf:PE X f tx)(m:M2 X o "setdefault" apos e f cpos):PE X (.Call (.Attribute o "setdefault" apos) [e,f] [] cpos) (BB td ty tx):=by
 intro ZY s σ H Q I h;refine wpAny_Call_method m.base m.few m.line PySem.F.plainAttrs_dict E8 PySem.F.type_dict_setdefault (bu (ho ZY s σ H _ I h) λu s1 ⟨x,H1,I1,rx,a,ex,d,q1⟩=>?_);subst ex;obtain rfl:u=U6 a:=rx;obtain⟨t1,t2,_⟩:=ve I1 d;refine⟨t1,t2,?_⟩;rw[m.trees];refine D1 rfl (Calls.evalArgs_plain (G2 (bu (he ZY s1 σ H1 _ I1 q1) λiv s2 ⟨y,H2,I2,ry,q2⟩=>
  G2 (bu (hf ZY s2 σ H2 _ I2 q2) λfv s3 ⟨z,H3,I3,rz,zz⟩=>Calls.spliced_nil ?_))))
 obtain⟨kvs,i,g1,rfl,g4,g5,g6⟩:=zz;exact zh (k:=.inl i) I3 g1 ry g4 rz (λv' e1 w' s' I4 rw'=>⟨v',H3,I4,rw',g5 v' e1⟩) λe0 s' I4=>⟨z,_,I4,rz,g6 e0⟩
end
section
variable [Kn:Kon]
theorem BD{k:Key}{v:V}:cU ws k=some v->v∈ws.map (·.2):=by
 induction ws with
 |nil=>exact λh=>nomatch h
 |cons w ws ih =>
  intro h;by_cases e:w.1=k
  ·rw[fF e]at h;exact Z5 h▸U0
  ·rw[fG e]at h;exact W7 _<|ih h
def BE(H0 F:Hp):Rp (List Int):=⟨λH v xs=>∃q,v=.ref q/\H q=some (.lst<|xs.map V.int)/\H0 q=none/\F q=none,λe ⟨q,h1,h2,h3,h4⟩=>⟨q,h1,e _ _ h2,h3,h4⟩⟩
section
variable {H0 F H:Hp}{ws:List (Key×V)}{kvs:Zl}{k:Int}{q:Addr}{l l':ZW}
theorem uk(h:Pu.find kvs k=some l):(kvs.any λkv=>decide<|kv.1=k)=true:=by unfold Pu.find at h;exact aU (U8.mp h) λe h1 x=>G4.mpr ⟨e,List.mem_of_find?_eq_some h1,List.find?_some (p:=λ(kv:Int×List Int)=>decide<|kv.1=k) h1⟩
theorem put_off(p:Paired (cV (BE H0 F) H) ws kvs)(h:k∉kvs.map (·.1)):putK ws (.inl k) v=ws++[(.inl k,v)]:=by unfold putK;rw[nB p,if_neg λz=>aU (G4.mp z) λe h1 h2=>h<|W6.mpr ⟨e,h1,of_decide_eq_true h2⟩]
theorem no_key(h:Pu.find kvs k=none):k∉kvs.map (·.1):=λz=>aU (W6.mp z) λe h1 h2=>by unfold Pu.find at h;rw[Option.map_eq_none_iff,List.find?_eq_none]at h;exact h e h1<|decide_eq_true h2
theorem xl_off(p:Paired (cV (BE H0 F) H) ws kvs)(nv:V.ref q∉ws.map (·.2))(nk:k∉kvs.map (·.1)):Paired (cV (BE H0 F)<|aD H q o) ws (kvs.map λkv=>if kv.1=k then (kv.1,l') else kv):=by
 induction p with
 |nil=>exact .nil
 |@cons w kv ws kvs h t ih =>rw[W5]at nv nk;have n1:=not_or.mp λz=>nv<|Y4.mpr z;have n2:=not_or.mp λz=>nk<|Y4.mpr z;refine .cons ?_<|ih n1.2 n2.2;show cV _ _ w (if kv.1=k then (kv.1,l') else kv);rw[if_neg λz=>n2.1 z.symm];exact⟨h.1,lS h.2 λq' e1 e2 e3 e4=>⟨q',e1,by rw[ak λz=>n1.1 (z▸e1).symm];exact e2,e3,e4⟩⟩
theorem xl_upd(p:Paired (cV (BE H0 F) H) ws kvs)(nv:(ws.map (·.2)).Nodup)(nk:(kvs.map (·.1)).Nodup)(hv:cU ws (.inl k)=some (.ref q)):Paired (cV (BE H0 F)<|aD H q<|.lst<|l'.map V.int) ws (kvs.map λkv=>if kv.1=k then (kv.1,l') else kv):=by
 induction p with
 |nil=>exact .nil
 |@cons w kv ws kvs h t ih =>
  rw[W5]at nv nk;have n1:=List.nodup_cons.mp nv;have n2:=List.nodup_cons.mp nk;by_cases e:kv.1=k
  ·have e3:w.1=Sum.inl k:=by rw[h.1,e]
   rw[fF e3]at hv;have e4:w.2=.ref q:=Z5 hv;refine .cons ?_<|xl_off t (e4▸n1.1)<|e▸n2.1;show cV _ _ w (if kv.1=k then (kv.1,l') else kv);rw[if_pos e];exact⟨h.1,lS h.2 λq' e1 e2 e5 e6=>⟨q,e4,af,(V.ref.inj<|e1.symm.trans e4)▸e5,(V.ref.inj<|e1.symm.trans e4)▸e6⟩⟩
  ·have e3:¬ w.1=Sum.inl k:=by rw[h.1];intro z;exact e<|Sum.inl.inj z
   rw[fG e3]at hv;refine .cons ?_<|ih n1.2 n2.2 hv;show cV _ _ w (if kv.1=k then (kv.1,l') else kv);rw[if_neg e];have ne:w.2≠.ref q:=λz=>n1.1<|z▸BD hv;exact⟨h.1,lS h.2 λq' e1 e2 e5 e6=>⟨q',e1,by rw[ak (show q'≠q from λz=>ne<|e1.trans<|congrArg V.ref z)];exact e2,e5,e6⟩⟩
theorem oB(p:Paired (cV (BE H0 F) H) ws kvs)(nv:V.ref q∉ws.map (·.2)):Paired (cV (BE H0 F)<|aD H q o) ws kvs:=by
 induction p with
 |nil=>exact .nil
 |@cons w kv ws kvs h t ih =>rw[W5]at nv;have n1:=not_or.mp λz=>nv<|Y4.mpr z;exact .cons ⟨h.1,lS h.2 λq' e1 e2 e3 e4=>⟨q',e1,by rw[ak λz=>n1.1 (z▸e1).symm];exact e2,e3,e4⟩⟩<|ih n1.2
theorem ki(p:Paired (cV (BE H0 F) H) ws kvs)(h:∀l,H q≠some (.lst l)):V.ref q∉ws.map (·.2):=by
 induction p with
 |nil=>exact λz=>nomatch z
 |@cons w kv ws kvs h' t ih =>intro z;rw[W5]at z;exact(Y4.mp z).elim (λz=>lS h'.2 λq' e1 e2 x x=>h _<|V.ref.inj (z.trans e1)▸e2) ih
end
section
variable {C:Fc}{F H F' H':Hp}{Γ:List Slot}{σ:St}{p b:Addr}{kvs:Zl}
theorem SR.poke(S:SR C F Γ σ H)(no:∀(j:Nat) t,Γ[j]?=some t->t.own=false)(hu0:H b=some u0)(ou0:Own u0)(h0:C.H0 b=none)(hF:F b=none)(ou:Own u):SR C F Γ σ (aD H b u) :=
 ⟨⟨Az S.keep h0 hu0 ou0 ou,S.low,λc o q=>bS (ai q hF)<|S.sub c o q,S.base,S.nt,S.tg.pokO ou.noTbl hu0 ou0⟩,S.len,λj t q=>S.mvAt q (aW.refl _) λx x o x x x x=>absurd ((no j t q).symm.trans o) Y3,S.inj⟩
structure DL(H0 F H:Hp)(p:Addr)(kvs:Zl):Prop where
 p0:H0 p=none
 pF:F p=none
 ex:∃ws,H p=some (.dK ws)/\Paired (cV (BE H0 F) H) ws kvs/\(ws.map (·.2)).Nodup
 nk:(kvs.map (·.1)).Nodup
theorem sj(e:Ext F H F' H')(f:F b=none)(h:H b=some u)(o:Own u):F' b=none/\H' b=some u:=⟨none_of λw q=>(e.nw b w q).elim (λz=>nomatch f.symm.trans z) λz=>vp z h o,e.hh.kp _ _ o.noTbl h⟩
theorem DL.grow(e:Ext F H F' H')(d:DL C.H0 F H p kvs):DL C.H0 F' H' p kvs:=by obtain⟨ws,h1,h2,h3⟩:=d.ex;have hp:=sj e d.pF h1 trivial;exact⟨d.p0,hp.1,⟨ws,hp.2,Paired.imp2 (λx x z=>⟨z.1,lS z.2 λq e1 e2 e3 e4=>⟨q,e1,(sj e e4 e2 trivial).2,e3,(sj e e4 e2 trivial).1⟩⟩) h2,h3⟩,d.nk⟩
end
section
variable {C:Fc}{F H:Hp}{σ:St}{p:Addr}{kvs kvs':Zl}{xs:Zv}{K:Z3}
abbrev ddG(xs:Zv)(p:Addr)(x y z:Slot):List Slot:=[.fr (rL<|ju a8 a8 a8) xs,.fr (rPin (.ref p) rTT) (),x,y,z]
def tDDX(K:Z3):TS:=lq<|tBM K "list" wU (BB (bF 1) (bF 4)<|yo cH) (aY (yo<|aY (bF 2)<|aY (bF 3) cH) cH)
set_option tactic.hygienic true in
theorem ddX_run(S:SR C F (ddG xs p (.fr a8 x.1) (.fr a8 x.2.1)<|.fr a8 x.2.2) σ H)(d:DL C.H0 F H p kvs)(e:Pu.si kvs x=some kvs')(k:∀H',SR C F (ddG xs p (.fr a8 x.1) (.fr a8 x.2.1)<|.fr a8 x.2.2) σ H'->DL C.H0 F H' p kvs'->D.nx σ H'):tDDX K D σ H:=by
 have no:∀(j:Nat) t,(ddG xs p (.fr a8 x.1) (.fr a8 x.2.1)<|.fr a8 x.2.2)[j]?=some t->t.own=false:=λj t q=>by have m:=V3 q;simp only[ddG,Y4,List.not_mem_nil,or_false]at m;rcases m with m|m|m|m|m<;>rw[m]<;>rfl
 obtain⟨ws,h1,h2,h3⟩:=d.ex;obtain⟨v1,g1,r1⟩:=S.fr (i:=1) rfl;obtain⟨v2,g2,r2⟩:=S.fr (i:=2) rfl;obtain⟨v3,g3,r3⟩:=S.fr (i:=3) rfl;obtain⟨v4,g4,r4⟩:=S.fr (i:=4) rfl;have fp:=gh (k:=x.2.2) h2;unfold Pu.si at e;split at e
 case isFalse=>cases e
 rename_i hl;have sl:ws.length<W3:=by rw[h2.length,V6];exact hl
 refine⟨v1,g1,p,r1.1,.inl ⟨ws,.inl h1⟩,v4,g4,U5 _,λq0 hq0=>?_⟩;have ne0:p≠q0:=λz=>nomatch (z▸h1).symm.trans hq0;have x0:Ext F H F (aD H q0<|.lst []):=Ext.newH S.sub hq0;have S3:=S.grow x0;have d3:=d.grow x0;have hp3:aD H q0 (.lst []) p=some (.dK ws):=bS ne0 h1;have P3:=oB (q:=q0) (o:=.lst []) h2 (ki h2 λh z=>nomatch hq0.symm.trans z);refine⟨ws,x.2.2,hp3,r4,sl,λv hv=>?_,λhn=>?_⟩
 ·cases hf:Pu.find kvs x.2.2 with
  |none=>exact nomatch (fp.2 hf).symm.trans hv
  |some l =>
   rw[hf]at e;dsimp only at e;split at e
   case isFalse=>cases e
   rename_i hle;have ek:=Z5 e;obtain⟨v',hv',q,e1,e2,e3,e4⟩:=fp.1 l hf;have ev:v=.ref q:=(Z5<|hv.symm.trans hv').trans e1;subst ev;have hq3:aD H q0 (.lst []) q=some (.lst<|l.map V.int):=bS (λz=>nomatch (z▸e2).symm.trans hq0) e2;refine⟨.inl ⟨rfl,_,cD.of hq3⟩,v2,g2,v3,g3,by show 2<=W3;decide,λq1 hq1=>?_⟩;have x1:Ext F (aD H q0<|.lst []) F (aD (aD H q0<|.lst []) q1<|.lst [v2,v3]):=Ext.newH S3.sub hq1;have ne1:q≠q1:=λz=>nomatch (z▸hq3).symm.trans hq1;have P4:=oB (q:=q1) (o:=.lst [v2,v3]) P3 (ki P3 λh z=>nomatch hq1.symm.trans z);have P5:=xl_upd (l':=l++[x.1,x.2.1]) P4 h3 d.nk hv;have em:(l++[x.1,x.2.1]).map V.int=l.map V.int++[v2,v3]:=by rw[U4,r2,r3];rfl
   rw[em]at P5;have hp5:aD (aD (aD H q0<|.lst []) q1<|.lst [v2,v3]) q (.lst<|l.map V.int++[v2,v3]) p=some (.dK ws):=bS (λz=>nomatch (z▸h1).symm.trans e2)<|bS (λz=>nomatch (z▸hp3).symm.trans hq1) hp3;refine⟨q,q1,_,[v2,v3],rfl,rfl,bS ne1 hq3,af,by rw[Z8,V6];exact hle,?_⟩;refine k _ ((S3.grow x1).poke no (bS ne1 hq3) trivial e3 e4 trivial) ⟨d.p0,d.pF,⟨ws,hp5,?_,h3⟩,?_⟩
   ·rw[<- ek];unfold Pu.put;rw[if_pos (uk hf)];exact P5
   ·rw[<- ek];unfold Pu.put;rw[if_pos (uk hf),T4];refine(T6 λkv h=>?_)▸d.nk;show kv.1=(if kv.1=x.2.2 then (kv.1,l++[x.1,x.2.1]) else kv).1;split<;>rfl
 ·cases hf:Pu.find kvs x.2.2 with
  |some l=>exact aU (fp.1 l hf) λv' hv' h=>nomatch hn.symm.trans hv'
  |none =>
   rw[hf]at e;have ek:=Z5 e;have nk:=no_key hf;have n0:V.ref q0∉ws.map (·.2):=ki h2 λh z=>nomatch hq0.symm.trans z;rw[put_off h2 nk];have S4:=S3.poke (u:=.dK<|ws++[(.inl x.2.2,.ref q0)]) no hp3 trivial d.p0 d.pF trivial;have hq4:aD (aD H q0<|.lst []) p (.dK<|ws++[(.inl x.2.2,.ref q0)]) q0=some (.lst []):=bS ne0.symm af;have P4:=oB (q:=p) (o:=.dK<|ws++[(.inl x.2.2,.ref q0)]) P3 (ki P3 λh z=>nomatch hp3.symm.trans z);refine⟨.inl ⟨rfl,_,cD.of hq4⟩,v2,g2,v3,g3,by show 2<=W3;decide,λq1 hq1=>?_⟩;have ne1:q0≠q1:=ai hq4 hq1;have nep:p≠q1:=ai af hq1;have P5:=oB (q:=q1) (o:=.lst [v2,v3]) P4 (ki P4 λh z=>nomatch hq1.symm.trans z);have P6:=oB (q:=q0) (o:=.lst<|[]++[v2,v3]) P5 n0;have x1:Ext F _ F _:=Ext.newH (o:=.lst [v2,v3]) S4.sub hq1;have em:[x.1,x.2.1].map V.int=[]++[v2,v3]:=by rw[r2,r3];rfl
   refine⟨q0,q1,_,[v2,v3],rfl,rfl,bS ne1 hq4,af,by show 0+2<=W3;decide,?_⟩;refine k _ ((S4.grow x1).poke no (bS ne1 hq4) trivial (S.keep.free hq0) (S.sub.free hq0) trivial) ⟨d.p0,d.pF,⟨_,bS ne0<|bS nep af,?_,?_⟩,?_⟩
   ·rw[<- ek];exact Paired.app P6<|.cons ⟨rfl,q0,rfl,em▸af,S.keep.free hq0,S.sub.free hq0⟩ .nil
   ·rw[U4,List.nodup_append];exact⟨h3,.cons (λh z=>nomatch z) .nil,λa ha b hb=>by rw[Y5.mp hb];exact λz=>n0<|(show a=.ref q0 from z)▸ha⟩
   ·rw[<- ek,U4,List.nodup_append];exact⟨d.nk,.cons (λh z=>nomatch z) .nil,λa ha b hb=>by rw[Y5.mp hb];exact λz=>nk<|(show a=x.2.2 from z)▸ha⟩
theorem SR.any1(i:Nat)(S:SR C F Γ σ H)(hi:Γ[i]?=some s):SR C F (Γ.set i .any) σ H:=aU (S.at_ i s hi) λo z1 x=>S.pk hi (λz=>nomatch z) z1 S.toFr (λj t x q=>S.at_ j t q) trivial
theorem SR.anyG(S:SR C F (ddG xs p x y z) σ H):SR C F (ddG xs p .any .any .any) σ H:=((S.any1 2 rfl).any1 3 rfl).any1 4 rfl
theorem sk(q:Paired (cV (BE H0 F) H) ws kvs)(h:V.ref b∈ws.map (·.2)):∃l,H b=some (.lst l)/\H0 b=none/\F b=none:=by
 induction q with
 |nil=>nomatch h
 |@cons w kv ws kvs h' t ih =>rw[W5]at h;exact(Y4.mp h).elim (λz=>lS h'.2 λq' e1 e2 e3 e4=>⟨_,V.ref.inj (z.trans e1)▸e2,V.ref.inj (z.trans e1)▸e3,V.ref.inj (z.trans e1)▸e4⟩) ih
theorem xl_frz(q:Paired (cV (BE H0 F) H) ws kvs)(h:∀b,V.ref b∈ws.map (·.2)->F' b=H b):Paired (cV (rL a8) F') ws kvs:=by
 induction q with
 |nil=>exact .nil
 |@cons w kv ws kvs h' t ih =>rw[W5]at h;exact .cons ⟨h'.1,lS h'.2 λq' e1 e2 x x=>⟨q',_,e1,Rd.of<|(h q'<|e1▸U0).trans e2,paired_ints _⟩⟩ (ih λb z=>h b<|W7 _ z)
set_option tactic.hygienic true in
theorem DL.ret(S:SR C F Γ σ H)(d:DL C.H0 F H p kvs)(k:finD (rL a8) C kvs D):D.rt (.ref p) H:=by
 obtain⟨ws,h1,h2,_⟩:=d.ex;have eH:H=aD (del H p) p (.dK ws):=by
  funext b;unfold aD del;split
  ·rename_i z;rw[z];exact h1
  ·rfl
 rw[eH];have np:∀{b:Addr} {l:List V},H b=some (.lst l)->b≠p:=λz e=>nomatch (e▸z).symm.trans h1
 open Classical in
 refine k p ws (λb=>if V.ref b∈ws.map (·.2) then H b else F b) (del H p) ⟨vm S.keep d.p0 h1 trivial,λb o h=>?_,λb o h=>?_,λb o h=>?_,λb ps h=>?_,xp S.tg h1 trivial⟩ fI (xl_frz h2 λb z=>if_pos z)
 ·exact(if_neg λz=>cM (sk h2 z) λl x x g=>nomatch (S.low b o h).symm.trans g).trans (S.low b o h)
 ·by_cases z:V.ref b∈ws.map (·.2)
  ·exact cM (sk h2 z) λl g x x=>(cu<|np g).trans ((if_pos z).symm.trans h)
  ·have h':=(if_neg z).symm.trans h;exact(cu<|ai h' d.pF).trans (S.sub b o h')
 ·by_cases z:V.ref b∈ws.map (·.2)
  ·exact cM (sk h2 z) λl x g x=>.inr<|qh g
  ·exact S.base b o<|(if_neg z).symm.trans h
 ·by_cases z:V.ref b∈ws.map (·.2)
  ·exact cM (sk h2 z) λl g x x=>nomatch g.symm.trans<|(if_pos z).symm.trans h
  ·exact S.nt b ps<|(if_neg z).symm.trans h
theorem bv_ddX:BV [.fr (rL<|ju a8 a8 a8) xs,.any,.any,.any,.any] (bW (jJ qN<|db 1)<|bW (sP (mT K<|bF 0) (zM K 3<|jH (db 2)<|jH (db 3)<|jH (db 4) gNil)<|tDDX K)<|mS<|bF 1) (Pu.bB Pu.si xs []) (finD<|rL a8):=by
 intro C F σ H D x S e k p hp;have x1:Ext F H F (aD H p<|.dK []):=Ext.newH S.sub hp;have S1:SR C F (ddG xs p .any .any .any) _ _:=(S.grow x1).setF (r:=rPin (.ref p) rTT) (v:=.ref p) (a:=()) 1 ⟨rfl,trivial⟩;have d1:DL C.H0 F (aD H p<|.dK []) p []:=⟨S.keep.free hp,S.sub.free hp,⟨[],af,.nil,.nil⟩,.nil⟩;show sP (mT K<|bF 0) _ (tDDX K) _ (σ.set 1<|some<|.ref p) (aD H p<|.dK []);refine aS (r:=ju a8 a8 a8) aP (ag 0 rfl) C F _ _ _ xs S1 rfl λJ F2 H2 x2 W=>?_;have S2:=S1.grow x2;refine⟨λi m σ H=>∃F3 kvs,m=xs.length-i/\i<=xs.length/\SR {C with L:=F2} F3 (ddG xs p .any .any .any) σ H/\DL C.H0 F3 H p kvs/\Pu.bB Pu.si (xs.drop i) kvs=some x,⟨xs.length,F2,[],by simp,U5 _,S2.lower,d1.grow x2,by rw[List.drop_zero];exact e⟩,?_⟩;rintro i m σ H ⟨F3,kvs,rfl,hil,S3,d3,e3⟩;by_cases hlt:i<xs.length
 ·have w:=W.at_ (i:=i) (aW.refl F2) S3;refine .inr ⟨(w.2 hlt).1,λσ' H'=>∃F3 kvs,SR {C with L:=F2} F3 (ddG xs p .any .any .any) σ' H'/\DL C.H0 F3 H' p kvs/\Pu.bB Pu.si (xs.drop<|i+1) kvs=some x,
   λσ' H' ⟨F3,kvs,h1,h2,h3⟩=>⟨xs.length-(i+1),Nat.sub_succ_lt_self _ _ hlt,F3,kvs,rfl,hlt,h1,h2,h3⟩,λv H' y=>?_⟩
  obtain⟨F4,x4,ra⟩:=(w.2 hlt).2 v H' y;rw[<- List.getElem_cons_drop (h:=hlt),Pu.bB]at e3;obtain⟨kvs',e4,e5⟩:=a9 e3;exact gv_trip (K:=K) 2 3 4 _ F4 σ H' v xs[i] _ (S3.grow x4) ra λσ' S4 b=>ddX_run S4 (d3.grow x4) e4 λH5 S5 d5=>⟨F4,kvs',S5.anyG,d5,e5⟩
 ·have ei:i=xs.length:=T9 hil<|T5.mp hlt;subst ei;rw[List.drop_length,Pu.bB]at e3;cases e3;exact .inl ⟨(W.at_ (i:=0) (aW.refl F2) S3).1,aU (S3.fr (i:=1) rfl) λv g r=>⟨v,g,r.1▸DL.ret (S3.raise<|S.low.trans x2.ff) d3 k⟩⟩
end
end
section
variable [Kn:Kon]
section
variable {Γ:List Slot}{T α τ:Type}{r:Rp α}{CM p:Addr}{u:TS}{fin:Fc->T->Ends->Prop}{ZZ:ZM}{ended:bz}{g:Nat}{te:TE}
theorem BF{m:Str}{ra:RpA τ}{t:TA}{oτ:Option τ}{f:(List (List Int)×bz)×τ->Option (α×bz)}(i:Nat)(hi:Γ[i]?=some (.fr (nL CM) (ZZ,p)))(hg:Γ[g]?=some (.od rP (λb=>b=p) ended))(ha:EA Γ t oτ ra)(h2:autoParam ((m=="floor")=false) L2.iu._auto_1)(h3:autoParam ((m=="ended")=false) L2.iu._auto_1):EM Γ g p (mY CM m (spM CM ra r f) [] E0 (bF i) t) (oτ.bind λa=>f ((ZZ,ended),a)) r:=λC F σ H Q x S e kk=>by obtain⟨a,e1,e⟩:=a9 e;obtain⟨w,q1,q4⟩:=S.fr hi;obtain⟨mm,dm,vf,em,q5,q6⟩:=id q4;cases em;refine⟨.ref mm,q1,mm,dm,_,rfl,S.sub _ _ q5,by simp[J6,h2,h3],?_⟩;refine ha C F σ H _ a S e1 λvs F' H' x1 r1=>?_;have S':=S.grow x1;refine dM (S'.at_ g _ hg) λp' ws h1 ZS h3 h4 h5 h6=>?_;subst ZS;refine⟨F',.ref mm,vs,ZZ,p',ws,ended,a,x,by rw[W9],S'.sub,S'.nt,S'.tg,(nL CM).mono x1.ff q4,h4,h5,h6,r1,e,λv' ws' F2 H2 fr g1 g2 g3 g4=>kk v' F2 H2 ?_ g4⟩;exact S'.mut (u':=.dK ws') hg rfl h1 h3 h5 fr rfl ⟨p',ws',rfl,rfl,h3,g1,g2,g3⟩
theorem BG{f:bz->Option T}(he:EM Γ g p te oe r)(h:∀e,BV (Γ.set g<|.od rP (λb=>b=p) e) u (f e) fin):BV Γ (bW (lq te) u) (oe.bind λx=>f x.2) fin:=by intro C F σ H D x S e k;obtain⟨a,e1,e⟩:=a9 e;exact he C F σ H _ a S e1 λv F' H' S1 c=>h a.2 C F' σ H' D x S1 e k
theorem BH{gg:List (List Int)->Option T}(i g:Nat)(ha:EA Γ t oa (ce rF))(h:∀ZZ p,BV ((Γ.set i<|.fr (nL CM) (ZZ,p)).set g (.od rP (λb=>b=p) [])) u (gg ZZ) fin):BV Γ (bW (jJ (sV CM (spIM CM) [] E0 t)<|db i)<|tGh g u) (oa.bind gg) fin:=by
 intro C F σ H D x S e k;obtain⟨ZZ,e1,e⟩:=a9 e;refine ha C F σ H _ ZZ S e1 λvs F1 H1 x1 r1=>?_;obtain⟨vf,rfl,r2⟩:=r1;have S1:=S.grow x1;intro w dx hw hdx nd;refine⟨w,dx,vf,rfl,af,λp hp=>⟨rfl,?_⟩⟩;have pw:p≠w:=(ai af hp).symm;rw[ak pw]at hp;have pd:p≠dx:=(ai af hp).symm;rw[ak pd]at hp;have Fw:F1 w=none:=S1.sub.free hw;have Fp:F1 p=none:=S1.sub.free hp;have tg:TbG (aD (aD (aD (aD (aD H1 dx<|.own w) w<|.ins CM dx []) w<|.ins CM dx [("floor",vf)]) p<|.dK []) w<|.ins CM dx [("floor",vf),("ended",.ref p)]) :=
  ((((S1.tg.pokN (p:=dx) (o:=.own w) trivial hdx).pokN (p:=w) (o:=.ins CM dx []) trivial ((ak<|R6 nd).trans hw)).pokI (p:=w) (o:=.ins CM dx [("floor",vf)]) trivial af).pokN (p:=p) (o:=.dK []) trivial ((ak pw).trans ((ak pw).trans ((ak pd).trans hp)))).pokI (p:=w) (o:=.ins CM dx [("floor",vf),("ended",.ref p)]) trivial ((ak<|R6 pw).trans af)
 have ho:∀b o,H1 b=some o->aD (aD (aD (aD (aD H1 dx<|.own w) w<|.ins CM dx []) w<|.ins CM dx [("floor",vf)]) p<|.dK []) w (.ins CM dx [("floor",vf),("ended",.ref p)]) b=some o:=λb o z=>by have n1:=ai z hw;rw[ak n1,ak (ai z hp),ak n1,ak n1,ak (ai z hdx)];exact z
 have hpp:aD (aD (aD (aD (aD H1 dx<|.own w) w<|.ins CM dx []) w<|.ins CM dx [("floor",vf)]) p<|.dK []) w (.ins CM dx [("floor",vf),("ended",.ref p)]) p=some (.dK []):=by rw[ak pw,af]
 have hww:aD (aD (aD (aD (aD H1 dx<|.own w) w<|.ins CM dx []) w<|.ins CM dx [("floor",vf)]) p<|.dK []) w (.ins CM dx [("floor",vf),("ended",.ref p)]) w=some (.ins CM dx [("floor",vf),("ended",.ref p)]):=af;generalize aD (aD (aD (aD (aD H1 dx<|.own w) w<|.ins CM dx []) w<|.ins CM dx [("floor",vf)]) p<|.dK []) w (.ins CM dx [("floor",vf),("ended",.ref p)])=H5 at tg ho hpp hww;have ext:Ext F1 H1 (aD F1 w<|.ins CM dx [("floor",vf),("ended",.ref p)]) H5:=⟨⟨λb o y z=>ho b o z,λb ps z=>⟨#[],(ho b _ z).trans (by simp)⟩,λy=>tg⟩,λb o z=>bS (ai z Fw) z,
  λb o z=>jt z (λa b=>a▸b▸hww) λy z=>ho b o<|S1.sub b o z,λb o z=>jt z (λe y=>.inr<|qh<|e▸hw) λy z=>.inl z,λz=>kR z trivial⟩
 have S3:=(S1.grow ext).setF (r:=nL CM) (a:=(ZZ,p)) (v:=.ref w) i ⟨w,dx,vf,rfl,af,rF.mono ext.ff r2⟩;have S5:=S3.setG (p:=p) (s:=.od rP (λb=>b=p) []) g rfl ⟨p,[],rfl,rfl,S1.keep.free hp,(ak pw).trans Fp,hpp,.nil⟩<|rK i S1.len (λj t q o z=>S1.np hp q o z) nofun;exact⟨.ref p,h ZZ p C _ _ H5 D x S5 e k⟩
end
end
section
variable [Kn:Kon]{Γ:List Slot}{a b c d e f g h:Slot}{α:Type}{r:Rp α}{x:α}
theorem aF:EV (.fr r x ::Γ) (bF 0) (some x) r:=ag 0 rfl
theorem aK:EV (a :: .fr r x ::Γ) (bF 1) (some x) r:=ag 1 rfl
theorem bo:EV (a ::b :: .fr r x ::Γ) (bF 2) (some x) r:=ag 2 rfl
theorem dP:EV (a ::b ::c :: .fr r x ::Γ) (bF 3) (some x) r:=ag 3 rfl
theorem cy:EV (a ::b ::c ::d :: .fr r x ::Γ) (bF 4) (some x) r:=ag 4 rfl
theorem eW:EV (a ::b ::c ::d ::e :: .fr r x ::Γ) (bF 5) (some x) r:=ag 5 rfl
theorem iy:EV (a ::b ::c ::d ::e ::f :: .fr r x ::Γ) (bF 6) (some x) r:=ag 6 rfl
theorem gq:EV (a ::b ::c ::d ::e ::f ::g :: .fr r x ::Γ) (bF 7) (some x) r:=ag 7 rfl
theorem iR:EV (a ::b ::c ::d ::e ::f ::g ::h :: .fr r x ::Γ) (bF 8) (some x) r:=ag 8 rfl
end
section
variable [Kn:Kon]{X:Cx}{k:Nat}{x:Str}{ps:ZJ}{sp:Sp}{e:Expr}{es:List Expr}{p pos pos':Pos}
theorem av{t:TA}(G:i3 X.prog X.w X.K X.mg X.base k x ps sp)(ha:PA X (e ::es) t)(hr:Room k X.A:=by refine Room.mono (by assumption) (by decide))(hg:autoParam (Gl X x) L2.cY._auto_1)(hdb:autoParam ((x==("__debug__":Str))=false) L2.iu._auto_1)(he:autoParam (V1 (e ::es) X.env=(false,eval e X.env) ::V1 es X.env) L2.cY._auto_1)(hpl:autoParam ((backTo pos<|V1 es X.env).any (·.1)=false) L2.cY._auto_1):PE X (.Call (.Name x p) (e ::es) [] pos) (pY sp [] E0 t):=nq G hr hg ha hdb he hpl
theorem aq(i:Nat){te:TE}(he:PE X e te)(hN:X.N.Nodup:=by first|assumption|exact of_decide_eq_true (by kernel_rfl))(hi:autoParam (X.N[i]?=some x) L2.cY._auto_1)(hx:Loc X.env.scope x:=by first|exact Or.inl rfl|exact Or.inr rfl)(hs:autoParam (swapsWith e (some<|.Name x pos') pos.line X.env=pure false) L2.cY._auto_1)(hf:X.fn x=true\/X.env.scope.names.lookup x=some .local:=by first|exact .inl rfl|exact .inr rfl|assumption):PS X (.Assign [.Name x pos'] e pos) (jJ te<|db i):=zN hN hi hx he hs hf
theorem ay(i:Nat)(hN:X.N.Nodup:=by first|assumption|exact of_decide_eq_true (by kernel_rfl))(hi:autoParam (X.N[i]?=some x) L2.cY._auto_1)(hx:Loc X.env.scope x:=by first|exact Or.inl rfl|exact Or.inr rfl)(hf:X.fn x=true\/X.env.scope.names.lookup x=some .local:=by first|exact .inl rfl|exact .inr rfl|assumption):PG X (.Name x pos) (db i):=pg_name hN hi hx hf
end
end L2
namespace Pf
open PySem L2
def dz(a:Zu)(b:Int)(c:Int):Option (List Int) :=
 (Pu.jv c a.2).bind λd=>(Pu.fmod c a.2).bind λe=>(some (if (decide<|b=8)=true then 2 else 1)).bind λf=>(Pu.tw (Pu.mx 0<|d-1)<|Pu.mn a.1<|d+2).bind λx17=>(Pu.bB (λ(s9:ZE) (x8:Int)=>(Pu.tw (Pu.mx 0<|e-1)<|Pu.mn a.2<|e+2).bind λx16=>(Pu.bB (λ(s11:ZE) (x10:Int)=>if (decide (0<(Pu.ab<|x8-d)+(Pu.ab<|x10-e))&&decide ((Pu.ab<|x8-d)+(Pu.ab<|x10-e)<=f))=true then ((Pu.mul x8 a.2).bind λx12=>some<|x12+x10).bind λx15=>(Pu.app s11 x15).bind λg=>some (g) else some (s11)) x16 s9).bind λ(s11:ZE)=>some<|s11) x17<|[]).bind λ(s9:ZE)=>some<|s9
def dk(a:ZW)(p_k:Int):Option Int :=
 if (decide<|p_k<Pu.ln a)=true then Pu.at_ a p_k else some (0)
def sr(a:ZM):Option (List Int) :=
 (Pu.bB (λ(s3:ZE) (x2:ZW)=>(Pu.cat s3 x2).bind λb=>some<|b) a<|[]).bind λ(s3:ZE)=>some<|s3
def next(a:Zu)(b:Int)(c:Int):Option (List Int) :=
 (some<|a).bind λt2=>(Pu.bB (λ(s5:ZE) (x4:Int)=>(Pu.bB (λ(s7:ZE) (x6:Int)=>((Pu.jv c t2.2).bind λx8=>some<|x8+x4).bind λd=>((Pu.fmod c t2.2).bind λx11=>some<|x11+x6).bind λe=>(some<|(decide (0<=d)&&decide (d<t2.1))&&(decide (0<=e)&&decide (e<t2.2))).bind λf=>if (f&&((decide<|((Pu.ab x4)+(Pu.ab x6))=1) || ((decide<|b=8)&&(decide<|((Pu.ab x4)+(Pu.ab x6))=2))))=true then ((Pu.mul d t2.2).bind λx17=>some<|x17+e).bind λx20=>(Pu.app s7 x20).bind λg=>some (g) else some (s7)) ([-1,0,1]) s5).bind λ(s7:ZE)=>some<|s7) ([-1,0,1])<|[]).bind λ(s5:ZE)=>some<|s5
def size_of(a:ZM):Option ((Int×Int)) :=
 (if (!a.isEmpty)=true then (Pu.at_ a 0).bind λx1=>some (Pu.ln x1) else some (0)).bind λb=>some<|(Pu.ln a,b)
def gR(a:ZM)(b:Int):Option Int :=
 ((Pf.size_of a).bind λx1=>some<|x1.2).bind λc=>((Pu.jv b c).bind λx4=>Pu.at_ a x4).bind λx5=>(Pu.fmod b c).bind λx6=>Pu.at_ x5 x6
def c7(a:ZM)(b:Int):Option ((Int×Int)) :=
 (Pf.gR a b).bind λx1=>some<|(x1,b)
def cS(a:ZM)(b:Int)(c:Int):Option (Bool) :=
 (Pf.c7 a b).bind λx1=>(Pf.c7 a c).bind λx2=>some<|Pu.dv x1 x2
def joined(a:ZW)(b:ZM)(c:Int):Option (Bool) :=
 (Pu.zH (λ(s3:(List<|Int×Bool)×(List Int))=>some<|!decide (s3.2=[])) (λ(s3:(List<|Int×Bool)×(List Int))=>(s3.2).getLast?.bind λk13=>(Pu.at_ b k13).bind λd=>(Pu.bB (λ(s5:(List<|Int×Bool)×(List Int)) (x4:Int)=>if ((decide<|x4∈a)&&(!(Pu.find s5.1 x4).isSome))=true then if (s5.1).length<16777216 then (λe=>(Pu.app s5.2 x4).bind λf=>some<|(e,f)) (Pu.put s5.1 x4<|true) else none else some ((s5.1,s5.2))) d (s3.1,(s3.2).dropLast)).bind λ(s5:(List<|Int×Bool)×(List Int))=>some<|(s5.1,s5.2)) 100000 ([(c,true)],[c])).bind λ(s3:(List<|Int×Bool)×(List Int))=>some<|decide<|(Pu.ln s3.1)=(Pu.ln a)
def dF(a:ZM):Option (List Int) :=
 (Pf.size_of a).bind λb=>(Pu.mul b.1 b.2).bind λx3=>Pu.lrng x3
def kj(a:ZM):Option (List<|Option Int) :=
 (Pf.dF a).bind λx1=>Pu.comp (λ(_y2:Int)=>some (none:ZI)) x1
def bH(a:Wa)(b:Int):Option (List Int) :=
 ((Pf.size_of a.1).bind λx1=>Pf.dz x1 a.2.1 b).bind λc=>Pu.cw (λ(y4:Int)=>(Pu.at_ a.2.2.1 y4).bind λx5=>some<|x5.isSome) (λ(y4:Int)=>(Pu.at_ a.2.2.1 y4).bind λx6=>x6) c
def bN(a:List (List Int)×bz)(b:Int):Option Int :=
 (Pu.zH (λ(s2:Int)=>some<|(Pu.find a.2 s2).isSome) (λ(s2:Int)=>(((Pu.find a.2 s2).bind λx3=>some<|x3.2).bind λx5=>x5).bind λc=>some<|c) 100000 b).bind λ(s2:Int)=>some<|s2
def cn(a:ZM)(b:ZW):Option Int :=
 Pu.B0 (λ(c1:Int)=>Pf.c7 a c1) b
def be(a:List (List Int)×bz)(b:ZW)(c:Int):Option (Int×bz) :=
 (Pu.comp (λ(y1:Int)=>Pf.bN a y1) b).bind λd=>(Pf.cn a.1 d).bind λe=>(Pu.bB (λ(s5:bz) (x4:Int)=>if (!decide (x4=e))=true then if s5.length<16777216 then some (Pu.put s5 x4 (some c,some e)) else none else some s5) d a.2).bind λs5=>some (e,s5)
def cb(a:Wa)(b:Int):Option (List (Option Int)×bz) :=
 (Pf.bH a b).bind λc=>(if (!c.isEmpty)=true then Pf.be (a.1,a.2.2.2) c b else some (b,a.2.2.2)).bind λx=>(sG a.2.2.1.length b).bind λj=>some (a.2.2.1.set j<|some x.1,x.2)
def fP(a:ZM)(b:Int)(d:ZW):Option (Wa) :=
 (Pf.kj a).bind λe=>(Pu.bB (λ(s3:List (Option Int)×bz) (x2:Int)=>(Pf.cb (a,b,s3.1,s3.2) x2).bind λc=>some (c.1,c.2)) d (e,[])).bind λs=>some (a,b,s.1,s.2)
def eD(a:List (List Int)×bz)(b:ZW):Option (List<|(Int×(Option Int)×(Option Int))) :=
 Pu.comp (λ(y1:Int)=>some<|((y1),((Pu.find a.2 y1).getD (none,none)).1,((Pu.find a.2 y1).getD (none,none)).2)) b
def digits(a:Int)(b:Int)(c:Int):Option (List Int) :=
 (Pu.jw b).bind λx11=>(Pu.bB (λ(s3:Int×(List Int)) (x2:Int)=>(Pu.fmod s3.1 c).bind λx8=>(Pu.app s3.2 x8).bind λd=>(Pu.jv s3.1 c).bind λe=>some<|(e,d)) x11 (a,[])).bind λ(s3:Int×(List Int))=>((Pu.mul b<|Pu.ofb<|decide<|0<s3.1).bind λx9=>some<|(some x9)).bind λx10=>some<|Pu.cut s3.2 none x10
def dG(a:ZW)(p_k:Int)(b:Int):Option Int :=
 ((Pf.dk a p_k).bind λx1=>some<|x1%100000000000000000000).bind λc=>((((Pu.mul (p_k+1)<|p_k+7).bind λx4=>some<|x4*69621).bind λx5=>some<|(c*48271)+x5).bind λx6=>some<|x6%2147483647).bind λd=>(((((Pu.mul p_k p_k).bind λx9=>some<|x9*40692).bind λx10=>some<|(c*16807)+x10).bind λx11=>some<|x11+7).bind λx12=>some<|x12%2147483629).bind λe=>Pu.fmod ((d*2147483629)+e)<|b+1
def bO(a:ZW)(p_k:Int)(b:Int)(c:Int)(d:Int):Option Int :=
 if (decide<|b=3)=true then (some<|([0,1,0,2,0,1,0,3,0,1,0,2]:List Int)).bind λe=>(((Pu.at_ e c).bind λx3=>(Pu.at_ e d).bind λx4=>some<|x3+x4).bind λx5=>some<|5*x5).bind λx6=>(Pf.dG a p_k 3).bind λx7=>some (x6+x7) else if (decide<|b=4)=true then (Pf.dG a p_k 9).bind λx8=>some (((6*(Pu.ab<|c-5))+(5*((c+d)%3)))+x8) else (Pu.at_ ([3,11,1000000000000000000]) b).bind λx9=>Pf.dG a p_k x9
def oC(a:ZW)(b:Int):Option (List<|List Int) :=
 (Pf.dk a 0).bind λc=>(((Pu.jv (((Pu.ln<|Pu.cut a (some 3)<|some 63)+(1+(c%12)))-1)<|1+(c%12)).bind λx4=>some<|Pu.mn 12 x4).bind λx5=>some<|Pu.mx 1 x5).bind λd=>(if (decide<|((c/12)%8)=3)=true then some (12) else some (d)).bind λs8=>(((Pu.jv b<|1+(c%12)).bind λx10=>some<|Pu.mx 1 x10).bind λx11=>some<|Pu.mn s8 x11).bind λe=>(Pu.jw e).bind λx26=>(Pu.bB (λ(s17:(List<|List Int)) (x16:Int)=>((Pu.mul x16<|1+(c%12)).bind λx18=>some<|3+x18).bind λf=>((Pu.jw<|1+(c%12)).bind λx22=>Pu.comp (λ(y21:Int)=>Pf.bO a (f+y21) ((c/96)%5) x16 y21) x22).bind λx25=>(Pu.app s17 x25).bind λg=>some<|g) x26<|[]).bind λ(s17:(List<|List Int))=>some<|s17
def km(a:ZM):Option (List<|(Int×Int)) :=
 (Pu.bB (λ(s3:ZE) (x2:ZW)=>(Pu.cat s3 x2).bind λb=>some<|b) a<|[]).bind λ(s3:ZE)=>Pu.comp (λ(y6:Zu)=>some<|(y6.2,y6.1))<|Pu.qW s3
def ii(a:ZM)(b:Int)(c:Int):Option (List Int) :=
 (((Pu.at_ a 0).bind λx1=>some<|Pu.ln x1).bind λx24=>some<|(Pu.ln a,x24)).bind λt4=>((Pu.jv c t4.2).bind λx22=>(Pu.fmod c t4.2).bind λx23=>some<|(x22,x23)).bind λt7=>(Pu.bB (λ(s10:ZE) (x9:Int)=>(Pu.bB (λ(s12:ZE) (x11:Int)=>(some<|!decide ((decide<|x9=0)=(decide<|x11=0))).bind λd=>(some<|(decide (0<=t7.1+x9)&&decide (t7.1+x9<t4.1))&&(decide (0<=t7.2+x11)&&decide (t7.2+x11<t4.2))).bind λe=>if (e&&(d || ((decide<|b=8)&&((!decide (x9=0))&&(!decide (x11=0))))))=true then (((Pu.mul x9 t4.2).bind λx17=>some<|c+x17).bind λx18=>some<|x18+x11).bind λx21=>(Pu.app s12 x21).bind λf=>some (f) else some (s12)) ([-1,0,1]) s10).bind λ(s12:ZE)=>some<|s12) ([-1,0,1])<|[]).bind λ(s10:ZE)=>some<|s10
def mK(a:ZM)(b:Int)(c:Int):Option (Option Int) :=
 ((Pf.size_of a).bind λx1=>Pf.dz x1 b c).bind λd=>((Pu.cat d<|[c]).bind λx4=>Pf.cn a x4).bind λe=>some (if (decide<|e=c)=true then none else some (e))
def gT(a:ZM)(b:Int):Option (List<|Option Int) :=
 (Pf.dF a).bind λx2=>Pu.comp (λ(y1:Int)=>Pf.mK a b y1) x2
def bj(a:ZM):Option (List Int) :=
 (Pf.dF a).bind λx2=>Pu.sf (λ(c1:Int)=>Pf.c7 a c1) x2
def dH(a:ZM)(b:Int):Option (List Int) :=
 (Pf.gT a b).bind λc=>(Pf.bj a).bind λx16=>(Pu.bB (λ(s5:(List<|Int×Int)) (x4:Int)=>(((Pu.at_ c x4).bind λx6=>some<|x6.isNone).bind λx9=>if x9=true then some (x4) else ((Pu.at_ c x4).bind λx7=>x7).bind λx8=>Pu.find s5 x8).bind λx13=>if (s5).length<16777216 then (λd=>some<|d) (Pu.put s5 x4<|x13) else none) x16<|[]).bind λ(s5:(List<|Int×Int))=>(Pf.dF a).bind λx15=>Pu.comp (λ(y14:Int)=>Pu.find s5 y14) x15
def ko(a:ZI)(b:ZI):Option (Bool) :=
 if (b.isNone)=true then some (a.isNone) else some (a.isSome&&((!false)&&(decide<|a=b)))
def fQ(a:ZA)(b:ZA):Option (Bool) :=
 if ((!true) || (!decide ((Pu.ln a)=(Pu.ln b))))=true then some (false) else Pu.andThen (Pu.iB (λ(s2:Unit) (x1:((Option Int)×(Option Int)))=>((Pf.ko x1.1 x1.2).bind λx3=>some<|!x3).bind λx4=>if x4=true then some (.rt<|false) else some (.nx ())) (a.zip b) ()) (λ(s2:Unit)=>some<|true) λx=>x
def pairs_at(a:ZM)(b:Int)(c:ZW)(d:Int):Option (List<|(Int×Int)) :=
 (Pu.at_ c d).bind λe=>((Pf.size_of a).bind λx3=>Pf.dz x3 b d).bind λf=>(Pu.cw (λ(y6:Int)=>Pf.cS a y6 d) (λ(y6:Int)=>Pu.at_ c y6) f).bind λg=>Pu.cw (λ(y9:Int)=>some<|!decide (y9=e)) (λ(y9:Int)=>some<|(Pu.mn e y9,Pu.mx e y9)) g
def gU(a:ZM)(b:Int):Option (List<|(Int×Int×Int)) :=
 (Pf.dH a b).bind λc=>(Pf.bj a).bind λx15=>(Pu.bB (λ(s5:(List<|(Int×Int)×Int)) (x4:Int)=>(Pf.pairs_at a b c x4).bind λx10=>(Pu.bB (λ(s7:(List<|(Int×Int)×Int)) (x6:Zu)=>if (s7).length<16777216 then (λd=>some<|d) (Pu.oo s7 x6 x4) else none) x10 s5).bind λ(s7:(List<|(Int×Int)×Int))=>some<|s7) x15<|[]).bind λ(s5:(List<|(Int×Int)×Int))=>(Pu.ie<|s5.map (·.1)).bind λx14=>Pu.comp (λ(y11:Zu)=>((Pu.bL s5 y11).bind λx12=>some<|(x12)).bind λx13=>some<|(y11.1,y11.2,x13)) x14
def iS(a:ZW)(b:Int):Option (List<|List Int) :=
 ((Pf.dk a 0).bind λx1=>Pf.digits x1 (b+2)<|1000000000000000000+1).bind λc=>if (!decide (c=[]))=true then (((Pu.at_ c 0).bind λx4=>some<|x4%12).bind λx5=>some<|1+x5).bind λd=>((((Pu.at_ c 1).bind λx8=>some<|x8%12).bind λx9=>some<|1+x9).bind λx10=>(Pu.jv b d).bind λx11=>some<|Pu.mn x10 x11).bind λe=>(Pu.jw e).bind λx21=>Pu.comp (λ(y14:Int)=>(((Pu.mul y14 d).bind λx15=>some<|2+x15).bind λx16=>some<|(some x16)).bind λx19=>(((Pu.mul (y14+1) d).bind λx17=>some<|2+x17).bind λx18=>some<|(some x18)).bind λx20=>some<|Pu.cut c x19 x20) x21 else (Pf.dk a 0).bind λf=>(((Pu.jv (((Pu.ln<|Pu.cut a (some 3)<|some 63)+(1+(f%12)))-1)<|1+(f%12)).bind λx25=>some<|Pu.mn 12 x25).bind λx26=>some<|Pu.mx 1 x26).bind λg=>(if (decide<|((f/12)%8)=3)=true then some (12) else some (g)).bind λs29=>(((Pu.jv b<|1+(f%12)).bind λx31=>some<|Pu.mx 1 x31).bind λx32=>some<|Pu.mn s29 x32).bind λh=>(Pu.jw h).bind λx47=>(Pu.bB (λ(s38:(List<|List Int)) (x37:Int)=>((Pu.mul x37<|1+(f%12)).bind λx39=>some<|3+x39).bind λi=>((Pu.jw<|1+(f%12)).bind λx43=>Pu.comp (λ(y42:Int)=>Pf.bO a (i+y42) ((f/96)%5) x37 y42) x43).bind λx46=>(Pu.app s38 x46).bind λj=>some<|j) x47<|[]).bind λ(s38:(List<|List Int))=>some<|s38
def mL(a:ZM)(b:Int):Option (List<|(Int×(Option Int)×(Option Int))) :=
 (Pf.km a).bind λc=>(Pu.comp (λ(y3:Zu)=>some<|none) c).bind λd=>(Pu.ie c).bind λx39=>(Pu.bB (λ(s9:(List<|Option Int)×(List<|Int×((Option Int)×(Option Int)))×(List Int)) (x8:Zu)=>((Pf.ii a b x8.2).bind λx12=>Pu.cw (λ(y10:Int)=>(Pu.at_ s9.1 y10).bind λx11=>some<|x11.isSome) (λ(y10:Int)=>Pu.at_ s9.1 y10) x12).bind λe=>if (decide<|e=[])=true then (Pu.app s9.2.2 x8.2).bind λf=>(sG (s9.1).length x8.2).bind λj18=>(λg=>some<|(g,s9.2.1,f)) ((s9.1).set j18 (some<|x8.2)) else (((Pu.comp (λ(y20:ZI)=>(y20).bind λx21=>Pu.at_ c x21) e).bind λx22=>Pu.Bq x22).bind λx23=>some<|x23.2).bind λh=>(sG (s9.1).length x8.2).bind λj27=>(λi=>(Pu.bB (λ(s30:(List<|Option Int)×(List<|Int×((Option Int)×(Option Int)))) (x29:ZI)=>if (!decide (x29=some h))=true then (x29).bind λx37=>if (s30.2).length<16777216 then (λj=>(Pu.comp (λ(y34:ZI)=>Pu.at_ ([y34,some (h)])<|Pu.ofb<|decide<|y34=x29) s30.1).bind λk=>some<|(k,j)) (Pu.put s30.2 x37<|(some<|x8.2,some (h))) else none else some ((s30.1,s30.2))) e (i,s9.2.1)).bind λ(s30:(List<|Option Int)×(List<|Int×((Option Int)×(Option Int))))=>some<|(s30.1,s30.2,s9.2.2)) ((s9.1).set j27 (some<|h))) x39 (d,[],[])).bind λ(s9:(List<|Option Int)×(List<|Int×((Option Int)×(Option Int)))×(List Int))=>Pu.comp (λ(y38:Int)=>some<|((y38),((Pu.find s9.2.1 y38).getD (none,none)).1,((Pu.find s9.2.1 y38).getD (none,none)).2)) s9.2.2
def l9(a:List ((Int×Int×Int)))(b:ZW)(c:Int):Option (List<|(Int×Int×Int)) :=
 (Pu.jw<|Pu.ln a).bind λx16=>(Pu.bB (λ(s4:Int×(List<|(Int×Int×Int))×(List<|(Int×Int×Int))) (x3:Int)=>(if (!decide (b=[]))=true then (Pu.at_ b x3).bind λat8=>some (at8) else some (s4.1)).bind λs6=>(Pu.fmod s6<|Pu.ln s4.2.1).bind λx15=>(Pu.oA s4.2.1 x15).bind λq14=>(Pu.app s4.2.2 q14.1).bind λd=>some<|(((s4.1*48271)%2147483647)+1,(q14.2),d)) x16 (c,a,[])).bind λ(s4:Int×(List<|(Int×Int×Int))×(List<|(Int×Int×Int)))=>some<|s4.2.2
def oE(a:ZW)(b:ZW)(c:Int):Option (List Int) :=
 (Pu.jw<|Pu.ln a).bind λx16=>(Pu.bB (λ(s4:Int×(List Int)×(List Int)) (x3:Int)=>(if (!decide (b=[]))=true then (Pu.at_ b x3).bind λat8=>some (at8) else some (s4.1)).bind λs6=>(Pu.fmod s6<|Pu.ln s4.2.1).bind λx15=>(Pu.oA s4.2.1 x15).bind λq14=>(Pu.app s4.2.2 q14.1).bind λd=>some<|(((s4.1*48271)%2147483647)+1,(q14.2),d)) x16 (c,a,[])).bind λ(s4:Int×(List Int)×(List Int))=>some<|s4.2.2
def dq(a:Zv):Option (List<|Int×List Int) :=
 Pu.bB Pu.si a []
def dg(a:ZM)(b:ZW)(c:Zv):Option (List<|Int×(Option Int)×(Option Int)) :=
 (Pf.bj a).bind λd=>(Pf.dq c).bind λe=>(Pu.bB (λ(s5:bz) (x6:Int)=>if ((Pu.find e x6).isSome)=true then (Pu.find e x6).bind λx7=>(Pf.be (a,s5) x7 x6).bind λc8=>some (c8.2) else some (s5)) d []).bind λs5=>(Pu.cw (λ(y9:Int)=>some<|decide<|y9∈b) (λ(y9:Int)=>some<|y9) d).bind λx10=>Pf.eD (a,s5) x10
def dY(a:List ((Int×(Option Int)×(Option Int))))(b:List ((Int×(Option Int)×(Option Int)))):Option (Bool) :=
 if ((!true) || (!decide ((Pu.ln a)=(Pu.ln b))))=true then some (false) else Pu.andThen (Pu.iB (λ(s2:Unit) (x1:(((Int×(Option Int)×(Option Int)))×((Int×(Option Int)×(Option Int)))))=>(if (!true)=true then some true else (Pf.fQ ([some x1.1.1,x1.1.2.1,x1.1.2.2])<|[some x1.2.1,x1.2.2.1,x1.2.2.2]).bind λx3=>some<|!x3).bind λx4=>if x4=true then some (.rt<|false) else some (.nx ())) (a.zip b) ()) (λ(s2:Unit)=>some<|true) λx=>x
def j9(a:ZM)(b:Int):Option (List<|(Int×(Option Int)×(Option Int))) :=
 (Pf.bj a).bind λc=>(Pf.fP a b c).bind λd=>(Pu.cw (λ(y5:Int)=>(Pu.at_ d.2.2.1 y5).bind λx6=>some<|decide<|x6=some y5) (λ(y5:Int)=>some<|y5) c).bind λx7=>Pf.eD (d.1,d.2.2.2) x7
def kq(a:ZW):Option (Bool) :=
 (Pf.iS a 72).bind λb=>(((Pf.dk a 1).bind λx3=>some<|x3%2).bind λx4=>Pu.at_ ([4,8]) x4).bind λc=>(Pf.mL b c).bind λd=>(Pf.dG a 2 1000000000).bind λe=>((Pf.dH b c).bind λx11=>(Pu.mset x11).bind λz=>Pu.sortI z).bind λf=>(Pf.gU b c).bind λg=>((Pf.dk a 2).bind λx16=>Pf.digits x16 ((Pu.ln f)+(Pu.ln g)) 1000).bind λh=>(Pf.l9 g (Pu.cut h (some<|Pu.ln f) none)<|e/3).bind λi=>(Pf.oE f h e).bind λj=>((Pu.comp (λ(y23:ZW)=>some<|y23) b).bind λx24=>some<|(x24,j,i)).bind λk=>(Pf.dg k.1 k.2.1 k.2.2).bind λl=>(((Pf.dY l d).bind λx29=>some<|!x29).bind λx30=>if x30=true then some true else some (!decide (k=(b,j,i)))).bind λx36=>if x36=true then some (false) else (((Pf.j9 k.1 c).bind λx31=>Pf.dY x31 d).bind λx32=>some<|!x32).bind λx35=>if x35=true then some (false) else (Pf.dg b j i).bind λx34=>Pf.dY x34 d
end Pf
namespace Pu
section
variable {S R T β α:Type}
theorem eJ{f:S->β->Option S}(I:Nat->S->Prop):∀{xs:List β} {s:S},I 0 s->(∀i x s,xs[i]?=some x->I i s->∃s',f s x=some s'/\I (i+1) s')->∃s',bB f xs s=some s'/\I xs.length s':=by
 intro xs;induction xs generalizing I with
 |nil=>exact λh0 a=>aB _ rfl h0
 |cons x xs ih =>intro s h0 h;exact aU (h 0 x s rfl h0) λs1 e1 h1=>aU (ih (λi=>I<|i+1) (s:=s1) h1 λi y t hy ht=>h (i+1) y t hy ht) λs2 e2 h2=>(aB s2 (by rw[qj,e1];exact e2) h2)
theorem BI{f:S->β->Option (Ctl S R)}(I:Nat->S->Prop):∀{xs:List β} {s:S},I 0 s->(∀i x s,xs[i]?=some x->I i s->∃s',f s x=some (.nx s')/\I (i+1) s')->∃s',iB f xs s=some (.nx s')/\I xs.length s':=by
 intro xs;induction xs generalizing I with
 |nil=>exact λh0 a=>aB _ rfl h0
 |cons x xs ih =>intro s h0 h;exact aU (h 0 x s rfl h0) λs1 e1 h1=>aU (ih (λi=>I<|i+1) (s:=s1) h1 λi y t hy ht=>h (i+1) y t hy ht) λs2 e2 h2=>(aB s2 (by rw[yH,e1];exact e2) h2)
theorem zi{f:Unit->β->Option (Ctl Unit R)}(h:∀x∈xs,f () x=some (.nx ())):iB f xs ()=some (.nx ()):=by obtain⟨s',e,_⟩:=BI (f:=f) (λa a=>True) (xs:=xs) (s:=()) trivial λi x s hx a=>(aB () (h x<|V3 hx) trivial);exact e
theorem wj{k:S->Option T}{e:R->T}(h:o=some (.nx s)):andThen o k e=k s:=by subst h;rfl
theorem kr{f:Unit->β->Option (Ctl Unit R)}{k:Unit->Option T}{e:R->T}(h:∀x∈xs,f () x=some (.nx ())):andThen (iB f xs ()) k e=k ():=wj<|zi h
theorem fz{f:S->β->Option S}{k:S->Option T}(I:Nat->S->Prop)(h0:I 0 s)(h:∀i x s,xs[i]?=some x->I i s->∃s',f s x=some s'/\I (i+1) s')(hk:∀s',I xs.length s'->k s'=o):(bB f xs s).bind k=o:=by obtain⟨s',e,q⟩:=eJ I h0 h;rw[e];exact hk s' q
theorem whS_inv{t:S->Option Bool}{f:S->Option S}(I:S->Prop)(μ:S->Nat)(h:∀s,I s->∃b,t s=some b/\(b=true->∃s',f s=some s'/\I s'/\μ s'<μ s)):∀{n:Nat} {s:S},I s->μ s<n->∃s',zH t f n s=some s'/\I s'/\t s'=some false:=by
 intro n;induction n with
 |zero=>exact λx hn=>absurd hn<|K3 _
 |succ n ih =>
  intro s hI hn;obtain⟨b,e1,e2⟩:=h s hI;cases b with
  |false=>exact(cZ s (by rw[tD,e1];rfl) hI e1)
  |true =>obtain⟨s1,e3,h1,h2⟩:=e2 rfl;obtain⟨s2,e4,h3,h4⟩:=ih h1<|cf h2<|M1 hn;exact(cZ s2 (by rw[tD,e1,cT,if_pos rfl,e3];exact e4) h3 h4)
theorem BJ{t:S->Option Bool}{f:S->Option S}{k:S->Option T}(I:S->Prop)(μ:S->Nat)(h0:I s)(hn:μ s<n)(h:∀s,I s->∃b,t s=some b/\(b=true->∃s',f s=some s'/\I s'/\μ s'<μ s))(hk:∀s',I s'->t s'=some false->k s'=o):(zH t f n s).bind k=o:=by obtain⟨s',e,h1,h2⟩:=whS_inv I μ h h0 hn;rw[e];exact hk s' h1 h2
theorem ku{f:S->β->Option S}{k:S->Option T}{P:T->Prop}(I:Nat->S->Prop)(h0:I 0 s)(h:∀i x s,xs[i]?=some x->I i s->∃s',f s x=some s'/\I (i+1) s')(hk:∀s',I xs.length s'->∃o,k s'=some o/\P o):∃o,(bB f xs s).bind k=some o/\P o:=by obtain⟨s',e,q⟩:=eJ I h0 h;rw[e];exact hk s' q
theorem ul(h:(nats n)[i]?=some x):i<n/\x=(i:Int):=by
 unfold nats at h;rw[X2]at h;by_cases hi:i<n
 ·rw[J5 hi]at h;exact⟨hi,(Z5 h).symm⟩
 ·rw[List.getElem?_eq_none (by simp;exact T5.mp hi)]at h;cases h
theorem fR(n:Nat):(nats n).length=n:=by unfold nats;simp
theorem um:x∈nats n↔∃i:Nat,i<n/\x=(i:Int):=by
 unfold nats;simp only[W6,M5]
 constructor
 ·rintro⟨i,h,rfl⟩;exact(aB i h rfl)
 ·rintro⟨i,h,rfl⟩;exact(aB i h rfl)
theorem iT{n:Nat}(h:n<=1000000):jw (n:Int)=some (nats n):=by unfold jw;rw[if_pos ⟨by lia,by lia⟩,W0]
theorem rng2_ok(h1:-1000000<=i)(h2:i<=1000000)(h3:-1000000<=j)(h4:j<=1000000):tw i j=some ((X5 (j-i).toNat).map λ(k:Nat)=>i+(k:Int)):=by unfold tw;rw[if_pos (qE (by lia) (by lia) (by lia) (by lia))]
theorem jB(h:xs.length<=1000000):app xs a=some (xs++[a]):=by unfold app;rw[if_pos (by exact eU h (by decide))]
theorem BK(h:xs.length+ys.length<=1000000):cat xs ys=some (xs++ys):=by unfold cat;rw[if_pos (by exact ci<|eU h (by decide))]
theorem oF(h:-(2^64)<i/\i<2^64):mul i j=some (i*j):=by unfold mul;rw[if_pos (.inl h)]
theorem kx(h:-(2^64)<j/\j<2^64):mul i j=some (i*j):=by unfold mul;rw[if_pos (.inr h)]
theorem ik(h:0<j/\j<2^64):jv i j=some (i/j):=by unfold jv;rw[if_pos h]
theorem im(h:0<j):fmod i j=some (i%j):=by unfold fmod;rw[if_pos h]
theorem cx{f:β->Option α}{g:β->α}(hl:xs.length<=1000000)(h:∀x∈xs,f x=some (g x)):comp f xs=some (xs.map g):=by
 unfold comp;rw[if_pos (by exact ci<|eU hl (by decide))];clear hl;induction xs with
 |nil=>rfl
 |cons x xs ih =>rw[vt,h x (Y4.mpr<|.inl rfl),cT,ih λy hy=>h y<|Y4.mpr<|.inr hy];rfl
theorem fD{t:β->Option Bool}{f:β->Option α}{p:β->Bool}{g:β->α}(hl:xs.length<=1000000)(ht:∀x∈xs,t x=some (p x))(h:∀x∈xs,p x=true->f x=some (g x)):cw t f xs=some ((xs.filter p).map g):=by
 unfold cw;rw[if_pos (by exact ci<|eU hl (by decide))];clear hl;induction xs with
 |nil=>rfl
 |cons x xs ih =>
  rw[c6,ht x (Y4.mpr<|.inl rfl),cT,ih (λy hy=>ht y<|Y4.mpr<|.inr hy) λy hy=>h y<|Y4.mpr<|.inr hy];cases q:p x with
  |false=>rw[if_neg Y3,List.filter_cons_of_neg (by simp[q])]
  |true =>rw[if_pos rfl,h x (Y4.mpr<|.inl rfl) q,List.filter_cons_of_pos q];rfl
theorem cX{i:Nat}:at_ xs (i:Int)=xs[i]?:=by
 unfold at_ L2.atI L2.sG;rw[if_pos (by exact Int.ofNat_le.mpr<|U5 _)];by_cases h:i<xs.length
 ·rw[if_pos (by exact M3.mpr h)];simp
 ·rw[if_neg (by exact Int.not_lt.mpr<|Int.ofNat_le.mpr<|T5.mp h)];simp;exact T5.mp h
theorem uo(xs:List α):(qW xs).length=xs.length:=by unfold qW;simp
theorem BL{j:Nat}:cut xs none (some (j:Int))=xs.take j:=by
 unfold cut;rw[HT.sX,HT.mi,List.drop_zero,Nat.sub_zero];by_cases h:j<=xs.length
 ·rw[O3 h]
 ·rw[Nat.min_eq_right (by exact ci<|Nat.not_le.mp h),N3 (bi _),N3 (by exact ci<|Nat.not_le.mp h)]
theorem BN{i:Nat}:cut xs (some (i:Int)) none=xs.drop i:=by
 unfold cut;rw[HT.sX,HT.mi];by_cases h:i<=xs.length
 ·rw[O3 h,N3 (by simp)]
 ·rw[Nat.min_eq_right (by exact ci<|Nat.not_le.mp h),List.drop_of_length_le (bi _),List.drop_of_length_le (by exact ci<|Nat.not_le.mp h)];simp
theorem cut_nat{i j:Nat}:cut xs (some (i:Int)) (some (j:Int))=(xs.drop i).take (j-i):=by
 unfold cut;rw[HT.mi,HT.mi];by_cases h:i<=xs.length
 ·rw[O3 h];by_cases h2:j<=xs.length
  ·rw[O3 h2]
  ·rw[Nat.min_eq_right (by exact ci<|Nat.not_le.mp h2),N3 (by simp),N3 (by simp;omega)]
 ·rw[Nat.min_eq_right (a:=i) (by exact ci<|Nat.not_le.mp h),List.drop_of_length_le (bi _),List.drop_of_length_le (by exact ci<|Nat.not_le.mp h)];simp
end
end Pu
namespace Fl
abbrev cl(l:ZU):List Int:=l.map λ(o:Nat)=>(o:Int)
theorem bE(l:ZU):(cl l).length=l.length:=by simp
theorem eQ:x∈cl l↔∃o,o∈l/\x=(o:Int):=by
 simp only[W6]
 constructor
 ·rintro⟨o,h,rfl⟩;exact(aB o h rfl)
 ·rintro⟨o,h,rfl⟩;exact(aB o h rfl)
theorem oG{x:Nat}:(x:Int)∈cl l↔x∈l:=by
 rw[eQ]
 constructor
 ·rintro⟨o,h,e⟩;have:x=o:=by lia
  rw[this];exact h
 ·exact λh=>(aB x h rfl)
theorem wl(a b:Int):Pu.ab (a-b)=ng a b:=rfl
end Fl
namespace Pf
open Fl Pu
theorem uq{i j:Nat}(hi:i<=1000)(hj:j<=1000):tw (i:Int) (j:Int)=some ((X5<|j-i).map λ(k:Nat)=>((i+k:Nat):Int)):=by rw[rng2_ok (by lia) (by exact Int.ofNat_le.mpr<|ci<|eU hi (by decide)) (by lia) (by exact Int.ofNat_le.mpr<|ci<|eU hj (by decide)),Int.toNat_sub];simp only[J8]
theorem mx_dn(R:Nat):Pu.mx 0 ((R:Int)-1)=((R-1:Nat):Int):=by unfold Pu.mx;split<;>omega
theorem mn_up(m R:Nat):Pu.mn (m:Int) ((R:Int)+2)=((min m (R+2):Nat):Int):=by unfold Pu.mn;split<;>lia
theorem ur{a b:Nat}(h1:a<=b+1)(h2:b<=a+1):0<=ng a b/\ng a b<=1:=by unfold ng;split<;>lia
theorem BO{p q ms reach:Int}(b1:0<=p/\p<=1)(b2:0<=q/\q<=1)(e:ms=(if reach=8 then 2 else 1)):(p+q=1\/(reach=8/\p=1/\q=1))↔(0<p+q/\p+q<=ms):=by subst e;split<;>lia
theorem xR{α:Type}{f:Nat->α}{y:α}(h:((X5 n).map f)[j]?=some y):j<n/\y=f j:=by rw[X2]at h;obtain⟨k,hk,rfl⟩:=U8.mp h;obtain⟨h1,h2⟩:=Z7.mp hk;rw[U1]at h1;rw[List.getElem_range]at h2;exact⟨h1,by rw[h2]⟩
theorem ut(h:R<m):R-1+(min m (R+2)-(R-1))=min m (R+2):=Nat.add_sub_cancel'<|Nat.le_min.mpr ⟨aR (Nat.sub_le _ _)<|ci h,aR (Nat.sub_le _ _)<|U9 _ _⟩
theorem xS(h:i<min m (R+2)-(R-1)):R-1+i<m/\R-1+i<=R+1/\R<=R-1+i+1 :=
 have q:=Nat.lt_min.mp (Nat.add_lt_of_lt_sub' h)
 ⟨q.1,M1 q.2,Nat.le_add_of_sub_le<|U9 _ _⟩
theorem uu(h:min m (R+2)<=v)(h2:v<m):R+1<v:=by lia
theorem gF{m c x:Nat}{reach:Int}(hc0:0<c)(hcm:c<=1000)(hmm:m<=1000)(hx:x<m*c):Pf.dz ((m:Int),(c:Int)) reach (x:Int)=some (cl<|gJ m c reach x):=by
 have hxr:x/c<m:=Nat.div_lt_of_lt_mul (by rw[Nat.mul_comm];exact hx);have hxc:x%c<c:=Nat.mod_lt _ hc0;have d1:((x:Nat):Int)/((c:Nat):Int)=((x/c:Nat):Int):=(Int.natCast_ediv x c).symm;have d2:((x:Nat):Int)%((c:Nat):Int)=((x%c:Nat):Int):=(Int.natCast_emod x c).symm;have c1:(0:Int)<(c:Int):=M3.mpr hc0;have c2:((c:Nat):Int)<2^64:=Int.lt_of_le_of_lt (Int.ofNat_le.mpr hcm) (by decide);unfold Pf.dz;simp only;rw[ik ⟨c1,c2⟩,cT,im c1,cT,d1,d2,cT];generalize hR:x/c=R at hxr;generalize hC:x%c=C at hxc;generalize hms:(if (decide<|reach=8)=true then (2:Int) else 1)=ms;have ems:ms=(if reach=8 then 2 else 1):=by rw[<- hms];simp
 have lR:R-1<=1000:=aR (Nat.sub_le _ _)<|aR (ci hxr) hmm;have lC:C-1<=1000:=aR (Nat.sub_le _ _)<|aR (ci hxc) hcm;rw[mx_dn,mn_up,mx_dn,mn_up,uq lR (aR (Nat.min_le_left _ _) hmm),cT];have key:∀(s:ZW) (r:Nat),r<m->r<=R+1->R<=r+1->s=cl ((X5<|r*c).filter (qO c reach x)) ->
   ∃s',((tw ((C-1:Nat):Int) ((min c (C+2):Nat):Int)).bind λx16=>(Pu.bB (λ(s11:ZW) (x10:Int)=>if (decide (0<(Pu.ab<|(r:Int)-(R:Int))+(Pu.ab<|x10-(C:Int)))&&decide ((Pu.ab<|(r:Int)-(R:Int))+(Pu.ab<|x10-(C:Int))<=ms))=true then ((Pu.mul (r:Int) (c:Int)).bind λx12=>some<|x12+x10).bind λx15=>(Pu.app s11 x15).bind λfound14=>some (found14) else some (s11)) x16 s).bind λs11=>some s11)=some s'/\s'=cl ((X5<|(r+1)*c).filter (qO c reach x)):=by
  intro s r hr1 hr2 hr3 es;have hrc:r*c+c<=m*c:=by rw[<- Nat.succ_mul];exact R9 c hr1
  have hmc:m*c<=1000000:=J4 hmm hcm;rw[uq lC (aR (Nat.min_le_left _ _) hcm),cT];refine(aB _ (fz (λj s=>s=cl ((X5<|r*c+(C-1+j)).filter (qO c reach x))) ?_ ?_ ?_) rfl)
  rotate_left 2
  ·rintro s' e2;show some s'=some _;congr 1;rw[e2,Nat.add_mul,Nat.one_mul,Z8,U1,ut hxc,j2 _ (r*c+min c (C+2)) (r*c+c) (E9 (Nat.min_le_left _ _) _) λo h1 h2=>?_];obtain⟨k,rfl⟩:=show ∃k,o=r*c+k from ⟨o-r*c,(Nat.add_sub_cancel'<|aR (U9 _ _) h1).symm⟩;have hk:=Nat.lt_of_add_lt_add_left h2;refine lB<|.inr ?_;rw[(n8 (i:=r) hk).2,hC];exact uu (Nat.le_of_add_le_add_left h1) hk
  ·rw[es,Nat.add_zero,j2 _ (r*c) _ (U9 _ _) λo h1 h2=>?_];obtain⟨k,rfl⟩:=show ∃k,o=r*c+k from ⟨o-r*c,(Nat.add_sub_cancel' h1).symm⟩;have hk:=Nat.lt_of_add_lt_add_left h2;refine lB<|.inl ?_;rw[(n8 (i:=r)<|hU (cf hk<|Nat.sub_le _ _) hxc).2,hC];exact Nat.add_lt_of_lt_sub hk
  ·intro j y s hy es;obtain⟨hj,rfl⟩:=xR hy;obtain⟨k1,k2,k3⟩:=xS hj;rw[show r*c+(C-1+(j+1))=r*c+(C-1+j)+1 from rfl,qg,Ap k1];generalize C-1+j=k at k1 k2 k3 es;rw[wl,wl,hR,hC];have l2:s.length<=1000000:=by rw[es,bE];refine aR (T8 _ _) ?_;rw[U1];exact aR (E9 (ci k1) _)<|aR hrc hmc
   have iff:=BO (ur hr2 hr3) (ur k2 k3) ems;by_cases hcond:0<ng (r:Nat) (R:Nat)+ng (k:Nat) (C:Nat)/\ng (r:Nat) (R:Nat)+ng (k:Nat) (C:Nat)<=ms
   ·refine(aB (s++[((r*c+k:Nat):Int)]) ?_ ?_)
    ·rw[if_pos (by simpa using hcond),kx ⟨Int.lt_trans (by decide) c1,c2⟩,cT,cT,jB l2,cT,J8,Int.natCast_mul]
    ·rw[decide_eq_true (iff.mpr hcond),if_pos rfl,es];unfold cl;rw[U4];rfl
   ·refine(aB s ?_ ?_)
    ·rw[if_neg (by simpa using hcond)]
    ·rw[decide_eq_false λh=>hcond<|iff.mp h,if_neg Y3,W9];exact es
 refine fz (λi s=>s=cl ((X5<|(R-1+i)*c).filter (qO c reach x))) ?_ ?_ ?_
 rotate_left 2
 ·rintro s' e2;rw[e2];congr 2;unfold gJ;rw[Z8,U1,ut hxr,j2 _ (min m (R+2)*c) (m*c) (R9 c<|Nat.min_le_left _ _) λo h1 h2=>?_];refine lA hc0<|.inr ?_;rw[hR];exact uu ((Nat.le_div_iff_mul_le hc0).mpr h1)<|(Nat.div_lt_iff_lt_mul hc0).mpr h2
 ·rw[Nat.add_zero,j2 _ 0 _ (U5 _) λo a ho=>?_]
  ·rfl
  ·refine lA hc0<|.inl ?_;rw[hR];exact Nat.add_lt_of_lt_sub<|(Nat.div_lt_iff_lt_mul hc0).mpr ho
 ·intro i y s hy es;obtain⟨hi,rfl⟩:=xR hy;obtain⟨k1,k2,k3⟩:=xS hi;exact key s (R-1+i) k1 k2 k3 es
theorem fS(ns:ZW)(k:Nat):Pf.dk ns (k:Int)=some (cellAt ns k):=by
 unfold Pf.dk cellAt Pu.ln;by_cases h:k<ns.length
 ·rw[if_pos (by simpa using h),cX];simp[h]
 ·rw[if_neg (by simpa using h)];simp[h]
theorem wm(ZZ:ZM)(h:ZZ.flatten.length<=1000000):Pf.sr ZZ=some ZZ.flatten:=by
 unfold Pf.sr;refine fz (λi s=>s=(ZZ.take i).flatten) rfl ?_ λs' e=>by rw[e,O6]
 intro i r s hr es;have hi:=(Z7.mp hr).1;have er:=(Z7.mp hr).2;have e1:(ZZ.take<|i+1).flatten=s++r:=by have e0:ZZ.take (i+1)=ZZ.take i++[ZZ[i]]:=(O0 hi).symm;rw[e0,es,er];simp
 have hle:(s++r).length<=ZZ.flatten.length:=by
  rw[<- e1];have e2:ZZ.flatten=(ZZ.take<|i+1).flatten++(ZZ.drop<|i+1).flatten:=by rw[<- List.flatten_append,W4]
  rw[e2,Y9];exact U9 _ _
 rw[Y9]at hle;exact(aB (s++r) (by rw[BK (by exact aR hle h)];rfl) e1.symm)
end Pf
namespace Fl
def hgt(ZZ:ZM)(c x:Nat):Int:=(ZZ.getD (x/c) []).getD (x%c) 0
theorem br{ZZ:ZM}(h:∀r∈ZZ,r.length=c):ZZ.flatten.length=ZZ.length*c:=by
 induction ZZ with
 |nil=>simp
 |cons r rs ih =>rw[List.flatten_cons,Y9,ih λq hq=>h q<|Y4.mpr<|.inr hq,h r (Y4.mpr<|.inl rfl),V9,Nat.succ_mul];lia
theorem BP(hc:0<c)(h:∀r∈ZZ,r.length=c)(hx:x<ZZ.length*c):ZZ.flatten[x]?=some (hgt ZZ c x):=by
 induction ZZ generalizing x with
 |nil=>simp at hx
 |cons r rs ih =>
  have hr:=h r<|Y4.mpr<|.inl rfl;rw[List.flatten_cons];by_cases hlt:x<c
  ·rw[X9 (by exact cf hlt<|bM hr.symm),Z9 (by exact cf hlt<|bM hr.symm)];unfold hgt;rw[Nat.div_eq_of_lt hlt,Nat.mod_eq_of_lt hlt];simp[hr,hlt]
  ·rw[Y7 (by exact aR (bM hr)<|T5.mp hlt),hr];rw[V9,Nat.succ_mul]at hx;rw[ih (λq hq=>h q<|Y4.mpr<|.inr hq) (by omega)];unfold hgt;have e1:x/c=(x-c)/c+1:=by rw[Nat.div_eq x c,if_pos ⟨hc,by exact T5.mp hlt⟩]
   have e2:x%c=(x-c)%c:=by rw[Nat.mod_eq_sub_mod (by exact T5.mp hlt)]
   rw[e1,e2];simp
end Fl
namespace Pf
open Fl Pu
section
variable {ZZ:ZM}{c:Nat}
theorem fT(hp:0<ZZ.length)(h:∀r∈ZZ,r.length=c):Pf.size_of ZZ=some ((ZZ.length:Int),(c:Int)):=by
 unfold Pf.size_of;cases ZZ with
 |nil=>simp at hp
 |cons r rs =>have hr:=h r<|Y4.mpr<|.inl rfl;rw[if_pos (by simp)];have e0:Pu.at_ (r ::rs) 0=some r:=cX (i:=0);rw[e0,cT,cT];unfold Pu.ln;rw[hr]
theorem su(hc:0<c)(hcm:c<=1000)(h:∀r∈ZZ,r.length=c)(hx:x<ZZ.length*c):Pf.gR ZZ (x:Int)=some (hgt ZZ c x):=by
 have hp:0<ZZ.length:=by
  rcases Nat.eq_zero_or_pos ZZ.length with z|z
  ·rw[z]at hx;simp at hx
  ·exact z
 have hq:x/c<ZZ.length:=Nat.div_lt_of_lt_mul (by rw[Nat.mul_comm];exact hx);have hm:x%c<c:=Nat.mod_lt _ hc;unfold Pf.gR;rw[fT hp h,cT,cT,ik ⟨by lia,by lia⟩,cT,im (by lia),<- Int.natCast_ediv,cX,Z9 hq,cT,cT,<- Int.natCast_emod,cX];have hr:=h _<|List.getElem_mem hq;rw[Z9 (by exact cf hm<|bM hr.symm)];unfold hgt;simp[hq,hr,hm]
def key(ZZ:ZM)(c x:Nat):Int×Int:=(hgt ZZ c x,(x:Int))
theorem fg(hc:0<c)(hcm:c<=1000)(h:∀r∈ZZ,r.length=c)(hx:x<ZZ.length*c):Pf.c7 ZZ (x:Int)=some (key ZZ c x):=by unfold Pf.c7;rw[su hc hcm h hx];rfl
theorem m7(hc:0<c)(hcm:c<=1000)(h:∀r∈ZZ,r.length=c)(hx:x<ZZ.length*c)(hy:y<ZZ.length*c):Pf.cS ZZ (x:Int) (y:Int)=some (dv (key ZZ c x)<|key ZZ c y):=by unfold Pf.cS;rw[fg hc hcm h hx,fg hc hcm h hy];rfl
end
end Pf
namespace Pu
section
variable {α:Type}
theorem find_some{d:List (Int×α)}:(find d k).isSome=decide (k∈d.map (·.1)):=by unfold find;rw[Option.isSome_map,V5,decide_eq_true_eq,List.find?_isSome];simp only[W6,decide_eq_true_eq]
theorem put_new{k:Int}{v:α}(h:k∉d.map (·.1)):put d k v=d++[(k,v)]:=by unfold put;rw[if_neg];rw[G4];rintro⟨e,he,hk⟩;exact h<|W6.mpr<|aB e he (by simpa using hk)
end
end Pu
namespace Fl
theorem zj(l m:ZU):cl (l++m)=cl l++cl m:=by simp
end Fl
namespace Gr
open Fl Pu
theorem dQ{α β:Type}{o:Option α}{a:α}{f:α->Option β}{r:Option β}(h:o=some a)(k:f a=r):o.bind f=r:=by subst h;exact k
end Gr
namespace Fl
open Pu
def hk(hs:ZW)(x:Nat):Int×Int:=(hs.getD x 0,(x:Int))
theorem mM(hc:0<c)(h:∀r∈ZZ,r.length=c)(hx:x<ZZ.length*c):hk ZZ.flatten x=Pf.key ZZ c x:=by unfold hk Pf.key;have:=BP hc h hx;rw[List.getD_eq_getElem?_getD,this];rfl
theorem BQ(h1:dv a b=true):dv b a=false:=by unfold dv at *;simp only[decide_eq_true_eq]at *;rw[decide_eq_false_iff_not];omega
theorem lt2_ir(a:ZG):dv a a=false:=by unfold dv;rw[decide_eq_false_iff_not];lia
structure Ord(hs:ZW)(os:ZU):Prop where
 pm:os.Perm (X5 hs.length)
 up:os.Pairwise λa b=>dv (hk hs a) (hk hs b)=true
section
variable {hs:ZW}{os:ZU}
theorem Ord.nd(o:Ord hs os):os.Nodup:=(o.pm.nodup_iff).mpr List.nodup_range
theorem Ord.mem(o:Ord hs os):x∈os↔x<hs.length:=by rw[o.pm.mem_iff,M5]
theorem Ord.len(o:Ord hs os):os.length=hs.length:=by rw[o.pm.length_eq,U1]
abbrev rk(os:ZU)(x:Nat):Nat:=os.idxOf x
theorem Ord.rk_lt(o:Ord hs os)(hx:x<hs.length):rk os x<hs.length:=by rw[<- o.len];exact List.idxOf_lt_length_iff.mpr<|o.mem.mpr hx
theorem Ord.at_rk(o:Ord hs os)(hx:x<hs.length):os[rk os x]?=some x:=by have h:=List.idxOf_lt_length_iff.mpr<|o.mem.mpr hx;rw[Z9 h,List.getElem_idxOf h]
theorem Ord.rk_at(o:Ord hs os)(h:os[i]?=some x):rk os x=i:=by have hi:=(Z7.mp h).1;have e:=(Z7.mp h).2;rw[<- e];exact o.nd.idxOf_getElem i hi
theorem Ord.lt_iff(o:Ord hs os)(hx:x<hs.length)(hy:y<hs.length):rk os x<rk os y↔dv (hk hs x) (hk hs y)=true:=by
 have go:∀{x y:Nat},x<hs.length->y<hs.length->rk os x<rk os y->dv (hk hs x) (hk hs y)=true:=λ{x y} hx hy h=>by have h1:=o.at_rk hx;have h2:=o.at_rk hy;have e1:=(Z7.mp h1);have e2:=(Z7.mp h2);obtain⟨l1,e1⟩:=e1;obtain⟨l2,e2⟩:=e2;have:=J9.mp o.up _ _ l1 l2 h;rw[e1,e2]at this;exact this
 refine⟨go hx hy,λh=>?_⟩;rcases Nat.lt_trichotomy (rk os x) (rk os y) with z|z|z
 ·exact z
 ·have e1:=o.at_rk hx;rw[z,o.at_rk hy]at e1;cases e1;rw[lt2_ir]at h;cases h
 ·have:=BQ<|go hy hx z;rw[this]at h;cases h
theorem Ord.le_iff(o:Ord hs os)(hx:x<hs.length)(hy:y<hs.length):rk os x<=rk os y↔dv (hk hs y) (hk hs x)=false:=by rw[<- T5,o.lt_iff hy hx,Bool.not_eq_true]
end
end Fl
namespace Pf
open Fl Pu
theorem BR(hs:ZW):((X5 hs.length).map (hk hs)).Nodup:=by
 rw[List.Nodup,L9];refine List.nodup_range.imp λ{a b} hab e=>hab ?_;have:(hk hs a).2=(hk hs b).2:=by rw[e]
 unfold hk at this;simp only at this;lia
theorem BS(h:hs.length<=1000000):∃os,Pu.comp (λ(y3:ZG)=>some<|y3.2) (iM<|(X5 hs.length).map (hk hs))=some (cl os)/\Ord hs os:=by
 have pm:=cO<|(X5 hs.length).map (hk hs);have so:=iN<|(X5 hs.length).map (hk hs);generalize iM ((X5 hs.length).map (hk hs))=qs at pm so;have hl:qs.length=hs.length:=by rw[pm.length_eq];simp
 rw[cx (g:=fun y:Int×Int=>y.2) (aR (bM hl) h) λx x=>rfl];have form:∀q∈qs,q=hk hs q.2.toNat:=λq hq=>by obtain⟨i,_,e⟩:=W6.mp<|pm.mem_iff.mp hq;rw[<- e];unfold hk;simp
 refine⟨qs.map λq=>q.2.toNat,?_,?_,?_⟩
 ·congr 1;unfold cl;rw[T4];refine T6 λq hq=>?_;have:=form q hq;rw[this];unfold hk;simp
 ·have:=pm.map λq=>q.2.toNat;rw[T4]at this;refine this.trans ?_;have e:((X5 hs.length).map ((fun q:Int×Int=>q.2.toNat) ∘ hk hs))=X5 hs.length:=by
   conv=>rhs;rw[<- List.map_id (X5 hs.length)]
   refine T6 λi x=>?_;unfold hk;simp
  rw[e]
 ·rw[L9];have ndq:qs.Nodup:=(pm.nodup_iff).mpr (BR hs);refine(List.Pairwise.imp_of_mem ?_<|so.and ndq);intro a b ha hb ⟨h1,h2⟩;rw[<- form a ha,<- form b hb];unfold lZ at h1;unfold dv;rw[decide_eq_true_eq]at *;obtain⟨a1,a2⟩:=a;obtain⟨b1,b2⟩:=b;have:¬ (a1=b1/\a2=b2):=λz=>h2 (by rw[z.1,z.2]);simp only at *;lia
theorem xT(h:i<n):L2.sG n (i:Int)=some i:=by unfold L2.sG;rw[if_pos (by exact Int.ofNat_le.mpr<|U5 _),if_pos (by exact M3.mpr h),W0]
theorem lF{S:Type}{α β:Type}{f:List α->β->Option (List α)}{p:β->Bool}{v:β->α}(h:∀s x,s.length<=B->f s x=some (if p x=true then s++[v x] else s)):∀{xs:List β} {s:List α},s.length+xs.length<=B->bB f xs s=some (s++(xs.filter p).map v):=by
 intro xs;induction xs with
 |nil=>exact λ{s} _=>congrArg some (W9 s).symm
 |cons x xs ih =>
  intro s hl;rw[V9]at hl;rw[qj,h s x (by lia),cT];cases q:p x with
  |true=>rw[if_pos rfl,ih (by simp;lia),List.filter_cons_of_pos q];simp
  |false=>rw[if_neg Y3,ih (by lia),List.filter_cons_of_neg (by simp[q])]
def uR(m c:Nat)(reach:Int)(R C:Nat)(d a:Int):Bool :=
 ((decide (0<=(R:Int)+d)&&decide ((R:Int)+d<(m:Int)))&&(decide (0<=(C:Int)+a)&&decide ((C:Int)+a<(c:Int))))&&((decide<|Pu.ab d+Pu.ab a=1) || ((decide<|reach=8)&&(decide<|Pu.ab d+Pu.ab a=2)))
theorem qp{m c x:Nat}{reach:Int}(hc0:0<c)(hcm:c<=1000)(hmm:m<=1000)(hx:x<m*c):Pf.next ((m:Int),(c:Int)) reach (x:Int)=some (([-1,0,1]:List Int).flatMap λd=>(([-1,0,1]:List Int).filter (uR m c reach (x/c) (x%c) d)).map λa=>(((x/c:Nat):Int)+d)*(c:Int)+(((x%c:Nat):Int)+a)):=by
 have d1:((x:Nat):Int)/((c:Nat):Int)=((x/c:Nat):Int):=(Int.natCast_ediv x c).symm;have d2:((x:Nat):Int)%((c:Nat):Int)=((x%c:Nat):Int):=(Int.natCast_emod x c).symm;unfold Pf.next
 simp only[bs,ik (show 0<((c:Nat):Int)/\((c:Nat):Int)<2^64 by lia),im (show 0<((c:Nat):Int) by exact M3.mpr hc0),d1,d2,kx (show -(2^64)<((c:Nat):Int)/\((c:Nat):Int)<2^64 by lia)];generalize x/c=R;generalize x%c=C;have inner:∀(d:Int) (s:ZW),s.length<=100->bB (λ(s7:ZW) (x6:Int)=>if (((decide (0<=(R:Int)+d)&&decide ((R:Int)+d<(m:Int)))&&(decide (0<=(C:Int)+x6)&&decide ((C:Int)+x6<(c:Int))))&&((decide<|Pu.ab d+Pu.ab x6=1) || ((decide<|reach=8)&&(decide<|Pu.ab d+Pu.ab x6=2))))=true then (Pu.app s7<|((R:Int)+d)*(c:Int)+((C:Int)+x6)).bind λf=>some f else some s7) [-1,0,1] s =
   some (s++(([-1,0,1]:List Int).filter (uR m c reach R C d)).map λa=>((R:Int)+d)*(c:Int)+((C:Int)+a)):=λd s hs=>by
  refine lF (S:=Unit) (B:=1000) (λs x hs=>?_) (by simp;exact ci<|eU hs (by decide));show (if uR m c reach R C d x=true then _ else _)=_;cases q:uR m c reach R C d x with
  |true=>rw[if_pos rfl,if_pos rfl,jB (by exact ci<|eU hs (by decide))];rfl
  |false=>rw[if_neg Y3,if_neg Y3]
 have l3:∀d,((([-1,0,1]:List Int).filter (uR m c reach R C d)).map λa=>((R:Int)+d)*(c:Int)+((C:Int)+a)).length<=3:=λd=>by rw[Z8];exact T8 _ _
 refine fz (λi s=>s=(([-1,0,1]:List Int).take i).flatMap (λd=>(([-1,0,1]:List Int).filter (uR m c reach R C d)).map λa=>((R:Int)+d)*(c:Int)+((C:Int)+a))/\s.length<=3*i) ⟨rfl,by simp⟩ ?_ λs e=>by rw[e.1];rfl
 rintro i d s hd ⟨es,hs⟩;have hi:i<3:=(Z7.mp hd).1;refine(cZ _ (by rw[inner d s (by lia)];rfl) ?_ ?_)
 ·have:([-1,0,1]:List Int).take (i+1)=([-1,0,1]:List Int).take i++[d]:=by have e:=(Z7.mp hd).2;rw[<- e,O0]
  rw[this,List.flatMap_append,es];simp
 ·rw[Y9];have:=l3 d;lia
theorem lg{reach d a:Int}(h:uR m c reach R C d a=true):∃r k:Nat,(R:Int)+d=(r:Int)/\(C:Int)+a=(k:Int)/\r<m/\k<c/\(ab d+ab a=1\/(reach=8/\ab d+ab a=2)):=by unfold uR at h;simp only[K5,Bool.or_eq_true,decide_eq_true_eq]at h;obtain⟨⟨⟨h1,h2⟩,h3,h4⟩,h5⟩:=h;obtain⟨r,hr⟩:=Int.eq_ofNat_of_zero_le h1;obtain⟨k,hk⟩:=Int.eq_ofNat_of_zero_le h3;rw[hr]at h2;rw[hk]at h4;exact(ye r k hr hk (M3.mp h2) (M3.mp h4) h5)
theorem oH(a b:Int):a+(b-a)=b:=by lia
theorem BU{r R:Nat}(e:(R:Int)+d=(r:Int)):ng (r:Nat) (R:Nat)=ab d:=by rw[<- wl,<- e,Int.add_comm,Int.add_sub_cancel]
theorem BW(h:d=-1\/d=0\/d=1):0<=ab d/\ab d<=1:=by rcases h with rfl|rfl|rfl<;>decide
theorem BX(h:ab d<=1):d=-1\/d=0\/d=1:=by unfold ab at h;split at h<;>lia
theorem ab_nn(d:Int):0<=ab d:=by unfold ab;split<;>lia
theorem two_of{p q reach:Int}(b1:0<=p/\p<=1)(b2:0<=q/\q<=1)(h:p+q=1\/(reach=8/\p+q=2)):p+q=1\/(reach=8/\p=1/\q=1):=by lia
theorem of_two{p q reach:Int}(b1:0<=p)(b2:0<=q)(h:p+q=1\/(reach=8/\p=1/\q=1)):p<=1/\q<=1/\(p+q=1\/(reach=8/\p+q=2)):=by lia
theorem xU{r k m c:Nat}(h1:r<m)(h2:k<c):r*c+k<m*c:=by have:=R9 c<|Nat.succ_le_of_lt h1;rw[Nat.succ_mul]at this;exact cf (Nat.add_lt_add_left h2 _) this
theorem next_eq{m c x:Nat}{reach:Int}(hc0:0<c)(hcm:c<=1000)(hmm:m<=1000)(hx:x<m*c):Pf.next ((m:Int),(c:Int)) reach (x:Int)=some (cl<|gJ m c reach x):=by
 rw[qp hc0 hcm hmm hx];congr 1;have d3:∀{d:Int},d∈([-1,0,1]:List Int)->d=-1\/d=0\/d=1:=λ{d} h=>by simpa using h
 have d3':∀{d:Int},d=-1\/d=0\/d=1->d∈([-1,0,1]:List Int):=λ{d} h=>by simpa using h
 have val:∀{r k:Nat},((r:Int))*(c:Int)+(k:Int)=((r*c+k:Nat):Int):=by intro r k;rw[J8,Int.natCast_mul]
 have s2:(cl<|gJ m c reach x).Pairwise (·<·):=by unfold cl gJ;rw[L9];refine(List.pairwise_lt_range.filter _).imp λh=>?_;exact M3.mpr h
 have s1:(([-1,0,1]:List Int).flatMap λd=>(([-1,0,1]:List Int).filter (uR m c reach (x/c) (x%c) d)).map λa=>(((x/c:Nat):Int)+d)*(c:Int)+(((x%c:Nat):Int)+a)).Pairwise (·<·):=by
  have base:([-1,0,1]:List Int).Pairwise (·<·):=by decide
  rw[List.pairwise_flatMap];refine⟨λd e=>?_,base.imp λ{d d'} hd u hu v hv=>?_⟩
  ·rw[L9];exact(base.filter _).imp λ{a b} h=>Int.add_lt_add_left (Int.add_lt_add_left h _) _
  ·obtain⟨a,ha,rfl⟩:=W6.mp hu;obtain⟨a',ha',rfl⟩:=W6.mp hv;obtain⟨r,k,e1,e2,_,h1,_⟩:=lg (S6.mp ha).2;obtain⟨r',k',e3,e4,_,h2,_⟩:=lg (S6.mp ha').2;have hr:(r:Int)<(r':Int):=by rw[<- e1,<- e3];exact Int.add_lt_add_left hd _
   rw[e1,e2,e3,e4,val,val];exact M3.mpr<|cf (xU (M3.mp hr) h1)<|U9 _ _
 have mem:∀y:Int,y∈(([-1,0,1]:List Int).flatMap λd=>(([-1,0,1]:List Int).filter (uR m c reach (x/c) (x%c) d)).map λa=>(((x/c:Nat):Int)+d)*(c:Int)+(((x%c:Nat):Int)+a))↔y∈cl (gJ m c reach x):=by
  intro y;rw[List.mem_flatMap,eQ]
  constructor
  ·rintro⟨d,hd,hy⟩;obtain⟨a,ha,rfl⟩:=W6.mp hy;obtain⟨ha1,ha2⟩:=S6.mp ha;obtain⟨r,k,e1,e2,h1,h2,h3⟩:=lg ha2;refine(aB (r*c+k) (g8.mpr ⟨xU h1 h2,?_⟩) (by rw[e1,e2,val]));rw[Ap h2,decide_eq_true_eq,BU e1,BU e2];exact two_of (BW<|d3 hd) (BW<|d3 ha1) h3
  ·rintro⟨o,ho,rfl⟩;obtain⟨h1,h2⟩:=g8.mp ho;have ho1:o/c<m:=Nat.div_lt_of_lt_mul (by rw[Nat.mul_comm];exact h1);have ho2:o%c<c:=Nat.mod_lt _ hc0;unfold qO at h2;rw[decide_eq_true_eq]at h2;obtain⟨b1,b2,b3⟩:=of_two (ab_nn _) (ab_nn _) h2;refine(aB (((o/c:Nat):Int)-((x/c:Nat):Int)) (d3'<|BX b1)<|W6.mpr<|aB (((o%c:Nat):Int)-((x%c:Nat):Int)) (S6.mpr ⟨d3'<|BX b2,?_⟩) ?_)
   ·unfold uR;simp only[K5,Bool.or_eq_true,decide_eq_true_eq,oH];exact⟨(qD ⟨Int.natCast_nonneg _,M3.mpr ho1⟩ (Int.natCast_nonneg _)<|M3.mpr ho2),b3⟩
   ·rw[oH,oH,val,Nat.mul_comm,Nat.div_add_mod]
 have n1:=s1.imp (S:=(·≠·)) λh=>Int.ne_of_lt h;have n2:=s2.imp (S:=(·≠·)) λh=>Int.ne_of_lt h;exact gm (le:=(·<·)) (λa b h1 h2=>absurd h1 (by exact Int.not_lt.mpr<|Int.le_of_lt h2)) ((List.perm_ext_iff_of_nodup n1 n2).mpr mem) s1 s2
end Pf
namespace Fl
open Pu
theorem nats_cl(n:Nat):nats n=cl (X5 n):=rfl
theorem ord_nd(hs:ZW):((X5 hs.length).map (hk hs)).Nodup:=Pf.BR hs
theorem BY(hs:ZW):∃os,AW (cl<|X5 hs.length) ((X5 hs.length).map (hk hs))=cl os/\Ord hs os:=by
 unfold AW;have ez:((X5 hs.length).map (hk hs)).zip (cl<|X5 hs.length)=(X5 hs.length).map λ(x:Nat)=>(hk hs x,(x:Int)):=by unfold cl;rw[List.zip_map']
 rw[ez];have pm:=List.mergeSort_perm ((X5 hs.length).map λ(x:Nat)=>(hk hs x,(x:Int))) λa b=>lZ a.1 b.1;have so:(((X5 hs.length).map λ(x:Nat)=>(hk hs x,(x:Int))).mergeSort λa b=>lZ a.1 b.1).Pairwise λa b=>lZ a.1 b.1=true:=List.pairwise_mergeSort (λa b c=>kY a.1 b.1 c.1) (λa b=>kZ a.1 b.1) _;generalize (((X5 hs.length).map λ(x:Nat)=>(hk hs x,(x:Int))).mergeSort λa b=>lZ a.1 b.1)=qs at pm so;have form:∀q∈qs,q=(hk hs q.2.toNat,(q.2.toNat:Int)):=λq hq=>by obtain⟨i,_,e⟩:=W6.mp<|pm.mem_iff.mp hq;rw[<- e];simp
 refine⟨qs.map λq=>q.2.toNat,?_,?_,?_⟩
 ·unfold cl;rw[T4];refine T6 λq hq=>?_;have:=form q hq;rw[this];simp
 ·have:=pm.map λq=>q.2.toNat;rw[T4]at this;refine this.trans ?_;have e:((X5 hs.length).map ((fun q:(Int×Int)×Int=>q.2.toNat) ∘ λ(x:Nat)=>(hk hs x,(x:Int))))=X5 hs.length:=by
   conv=>rhs;rw[<- List.map_id (X5 hs.length)]
   refine T6 λi h=>?_;simp
  rw[e]
 ·rw[L9];have nd:qs.Nodup:=by rw[pm.nodup_iff,List.Nodup,L9];refine List.nodup_range.imp λ{a b} hab e=>hab ?_;have:=(Prod.mk.inj e).2;lia
  refine(List.Pairwise.imp_of_mem ?_<|so.and nd);intro a b ha hb ⟨h1,h2⟩;have fa:=form a ha;have fb:=form b hb;have ne:a.2.toNat≠b.2.toNat:=λz=>h2 (by rw[fa,fb,z]);rw[fa,fb]at h1;simp only at h1;unfold lZ at h1;unfold dv;rw[decide_eq_true_eq]at *;unfold hk at *;simp only at *;lia
end Fl
namespace Pf
open Fl Pu
section
variable {ZZ:ZM}{c:Nat}
theorem fh(hp:0<ZZ.length)(hcm:c<=1000)(hm:ZZ.length<=1000)(h:∀r∈ZZ,r.length=c):Pf.dF ZZ=some (cl<|X5<|ZZ.length*c):=by
 unfold Pf.dF;have hb:ZZ.length*c<=1000000:=by have:=J4 hm hcm;lia
 rw[fT hp h,cT,oF ⟨by simp;lia,by simp;exact M3.mpr<|eU hm (by decide)⟩,cT];have e:(ZZ.length:Int)*(c:Int)=((ZZ.length*c:Nat):Int):=by simp
 simp only;rw[e];unfold Pu.lrng;rw[if_pos (qD (by lia) (by lia) (by lia)),W0,nats_cl]
theorem zk{g:Zx}{f:Nat->Int×Int}:∀{l:ZU},(∀x∈l,g (x:Int)=some (f x))->Pu.keysOf g (cl l)=some (l.map f):=by
 intro l;induction l with
 |nil=>exact λa=>rfl
 |cons x l ih =>intro h;show Pu.keysOf g ((x:Int) ::cl l)=_;rw[Pu.keysOf,h x (Y4.mpr<|.inl rfl),cT,ih λy hy=>h y<|Y4.mpr<|.inr hy];rfl
end
end Pf
namespace Pu
section
variable {α:Type}
set_option tactic.hygienic true in
theorem kA{k j:Int}{v:α}:find (put d k v) j=if j=k then some v else find d j:=by
 unfold put;split
 ·rename_i h;unfold find;induction d with
  |nil=>simp at h
  |cons e d ih =>
   rw[W5,E6,E6];by_cases hk:e.1=k
   ·rw[if_pos hk];by_cases hj:j=k
    ·subst hj;simp[hk]
    ·rw[if_neg hj];have:¬ e.1=j:=λz=>hj<|z.symm.trans hk;simp only[this,decide_false];by_cases hr:(d.any λkv=>decide<|kv.1=k)=true
     ·have:=ih hr;rw[if_neg hj]at this;exact this
     ·have e2:d.map (λkv=>if kv.1=k then (kv.1,v) else kv)=d:=by
       conv=>rhs;rw[<- List.map_id d]
       refine T6 λkv hkv=>?_;rw[if_neg]
       ·rfl
       ·intro z;exact hr<|G4.mpr<|aB kv hkv (by simp[z])
      rw[e2]
   ·rw[if_neg hk];have hr:(d.any λkv=>decide<|kv.1=k)=true:=by rw[G6]at h;simpa [hk] using h
    have:=ih hr;by_cases hj:e.1=j
    ·subst hj;simp[hk]
    ·simp only[hj,decide_false];exact this
 ·rename_i h;unfold find;rw[List.find?_append];by_cases hj:j=k
  ·subst hj;have:(d.find? λkv=>decide<|kv.1=j)=none:=by rw[List.find?_eq_none];intro kv hkv z;exact h<|G4.mpr<|aB kv hkv z
   rw[this];simp
  ·rw[if_neg hj];have:¬ k=j:=λz=>hj z.symm;simp[this]
theorem mN{k:Int}{v:α}:(put d k v).length<=d.length+1:=by
 unfold put;split
 ·rw[Z8];exact ci<|U2 _
 ·simp
end
end Pu
namespace Fl
open Pu Gr
def Nb(m c:Nat)(reach:Int)(a b:Nat):Prop:=a<m*c/\b<m*c/\qO c reach a b=true
theorem Nb.sy(a b:Nat)(h:Nb m c reach a b):Nb m c reach b a:=⟨h.2.1,h.1,by rw[Ao];exact h.2.2⟩
theorem ip(ha:a<m*c):Nb m c reach a b↔b∈gJ m c reach a:=by rw[g8];exact⟨λh=>⟨h.2.1,h.2.2⟩,λh=>⟨ha,h.1,h.2⟩⟩
theorem Ord.inj(o:Ord hs os)(x y:Nat)(hx:x<hs.length)(hy:y<hs.length)(e:rk os x=rk os y):x=y:=by have h1:=o.at_rk hx;rw[e,o.at_rk hy]at h1;exact(Z5 h1).symm
def iq(n:Nat)(homes:ZA)(home:Zs):Prop:=homes.length=n/\∀x,x<n->homes[x]?=some ((home x).map λ(s:Nat)=>(s:Int))
def fU(ended:L2.bz)(par:ZC):Prop:=∀s:Nat,find ended (s:Int)=(par s).map λp=>(some (p.1:Int),some (p.2:Int))
end Fl
namespace Pf
open Fl Pu Gr
section
variable {ZZ:ZM}{c:Nat}{reach:Int}{os:ZU}{home:Zs}{par:ZC}{homes:ZA}{ended:L2.bz}{k n:Nat}{A:ZK}
theorem zo{ρ:ZL}(inj:∀x y,x<n->y<n->ρ x=ρ y->x=y)(u:UF A n ρ k home par)(hk:k<=1000)(he:fU ended par)(hs:home s=some s)(h:Liv par s r):Pf.bN (ZZ,ended) (s:Int)=some (r:Int):=by
 unfold Pf.bN;refine BJ (λz=>∃t:Nat,z=(t:Int)/\home t=some t/\Liv par t r) (λz=>ρ z.toNat) (cZ s rfl hs h) ?_ ?_ ?_
 ·rw[W0];have:=(u.dom s (by rw[hs];exact nofun)).2;exact hU this<|eU hk (by decide)
 ·rintro z ⟨t,rfl,ht,hl⟩;refine(aB _ rfl λhb=>?_);simp only;rw[he t]at hb ⊢;cases q:par t with
  |none=>rw[q]at hb;cases hb
  |some p =>
   obtain⟨m,e⟩:=p;refine(cZ (e:Int) rfl (cZ e rfl ((u.pr t m e q).2.1) ?_) ?_)
   ·cases hl with
    |root z=>rw[q]at z;cases z
    |up z w=>rw[q]at z;cases z;exact w
   ·rw[W0,W0];exact u.rk_pr inj q
 ·rintro z ⟨t,rfl,ht,hl⟩ hb;simp only at hb;rw[he t]at hb;cases hl with
  |root=>rfl
  |up q _=>rw[q]at hb;cases hb
theorem m8(hp:0<ZZ.length)(hc:0<c)(hcm:c<=1000)(hm:ZZ.length<=1000)(h:∀r∈ZZ,r.length=c)(hh:iq (ZZ.length*c) homes home)(hx:x<ZZ.length*c):
  Pf.bH (ZZ,reach,homes,ended) (x:Int)=some (cl (((gJ ZZ.length c reach x).filter λo=>(home o).isSome).map λo=>(home o).getD 0)):=by
 unfold Pf.bH;have hb:ZZ.length*c<=1000*1000:=J4 hm hcm;simp only;rw[fT hp h,cT,gF hc hcm hm hx,cT];have mem:∀y∈cl (gJ ZZ.length c reach x),∃o:Nat,y=(o:Int)/\o<ZZ.length*c:=λy hy=>by obtain⟨o,ho,rfl⟩:=eQ.mp hy;exact(aB o rfl<|(g8.mp ho).1)
 rw[fD (p:=λy=>(home y.toNat).isSome) (g:=λy=>(((home y.toNat).getD 0:Nat):Int)) (by rw[bE];have:=jO ZZ.length c reach x;lia)]
 ·congr 1;unfold cl;rw[List.filter_map,T4,T4];rfl
 ·intro y hy;obtain⟨o,rfl,ho⟩:=mem y hy;rw[cX,hh.2 o ho,cT,W0];cases home o<;>rfl
 ·intro y hy hq;obtain⟨o,rfl,ho⟩:=mem y hy;rw[W0]at hq ⊢;rw[cX,hh.2 o ho,cT];cases q:home o with
  |none=>rw[q]at hq;cases hq
  |some s=>rfl
theorem BZ(o:Ord hs os){g:Zx}(hg:∀x,x<hs.length->g (x:Int)=some (hk hs x)):∀{l:ZU} {b:Nat},(∀x∈l,x<hs.length)->b<hs.length->∃e:Nat,Pu.nK g (cl l) (b:Int) (hk hs b)=some (e:Int)/\(e=b\/e∈l)/\rk os e<=rk os b/\∀x∈l,rk os e<=rk os x:=by
 intro l;induction l with
 |nil=>exact λ{b} _ _=>(jc b rfl (.inl rfl) (bi _) λa h=>nomatch h)
 |cons x l ih =>
  intro b hl hb;have hx:=hl x<|Y4.mpr<|.inl rfl;show ∃e:Nat,Pu.nK g ((x:Int) ::cl l) (b:Int) (hk hs b)=_/\_;rw[Pu.nK,hg x hx,cT];cases q:dv (hk hs x) (hk hs b) with
  |true =>
   rw[if_pos rfl];exact lS (ih (b:=x) (λy hy=>hl y<|Y4.mpr<|.inr hy) hx) λe h1 h2 h3 h4=>(jc e h1 (.inr<|Y4.mpr h2) (ci<|eU h3<|(o.lt_iff hx hb).mpr q)
    (λy hy=>(Y4.mp hy).elim (λz=>z▸h3) (h4 y)))
  |false =>
   rw[if_neg Y3];exact lS (ih (b:=b) (λy hy=>hl y<|Y4.mpr<|.inr hy) hb) λe h1 h2 h3 h4=>(jc e h1 (h2.imp id λz=>Y4.mpr<|.inr z) h3
    (λy hy=>(Y4.mp hy).elim (λz=>z▸aR h3 ((o.le_iff hb hx).mpr q)) (h4 y)))
theorem iU(hc:0<c)(hcm:c<=1000)(h:∀r∈ZZ,r.length=c)(o:Ord ZZ.flatten os)(hl:∀x∈l,x<ZZ.length*c)(ne:l≠[]):∃e:Nat,Pf.cn ZZ (cl l)=some (e:Int)/\e∈l/\∀x∈l,rk os e<=rk os x:=by
 have ZR:ZZ.flatten.length=ZZ.length*c:=br h;have hg:∀x,x<ZZ.flatten.length->Pf.c7 ZZ (x:Int)=some (hk ZZ.flatten x):=λx hx=>by rw[fg hc hcm h (by exact cf hx<|bM ZR),mM hc h (by exact cf hx<|bM ZR)]
 unfold Pf.cn;cases l with
 |nil=>exact absurd rfl ne
 |cons b l =>
  have hb:=hl b<|Y4.mpr<|.inl rfl;show ∃e:Nat,Pu.B0 (λc1=>Pf.c7 ZZ c1) ((b:Int) ::cl l)=_/\_;rw[Pu.B0,hg b (by exact cf hb<|bM ZR.symm),cT];obtain⟨e,h1,h2,h3,h4⟩:=BZ o (g:=λc1=>Pf.c7 ZZ c1) hg (l:=l) (b:=b) (λy hy=>by have:=hl y<|Y4.mpr<|.inr hy;exact cf this<|bM ZR.symm) (by exact cf hb<|bM ZR.symm);refine(cZ e h1 ?_ λx hx=>?_)
  ·rcases h2 with z|z
   ·exact Y4.mpr<|.inl z
   ·exact Y4.mpr<|.inr z
  ·rcases Y4.mp hx with z|z
   ·rw[z];exact h3
   ·exact h4 x z
theorem lG(hc:0<c)(hcm:c<=1000)(h:∀r∈ZZ,r.length=c)(o:Ord ZZ.flatten os)(u:UF A (ZZ.length*c) (rk os) k home par)(hk:k<=1000)(he:fU ended par)(hel:ended.length<=10000000)(hhs:∀s∈hs,home s=some s)(hl:hs.length<=100000)(ne:hs≠[])(x:Nat):
  ∃(met:ZU) (elder:Nat) (ended':L2.bz),Pf.be (ZZ,ended) (cl hs) (x:Int)=some ((elder:Int),ended')/\(∀s∈hs,∃r,r∈met/\Liv par s r)/\(∀r∈met,∃s,s∈hs/\Liv par s r)/\elder∈met/\(∀r∈met,rk os elder<=rk os r) /\
   fU ended' (λs=>if s∈met/\s≠elder then some (x,elder) else par s)/\ended'.length<=ended.length+hs.length:=by
 have ZR:ZZ.flatten.length=ZZ.length*c:=br h;have inj:∀x y,x<ZZ.length*c->y<ZZ.length*c->rk os x=rk os y->x=y:=λx y hx hy=>o.inj x y (by exact cf hx<|bM ZR.symm) (by exact cf hy<|bM ZR.symm);have rt:∀s,∃r,s∈hs->Liv par s r:=λs=>by
  by_cases q:s∈hs
  ·obtain⟨r,h1,_⟩:=u.liv s s<|hhs s q;exact⟨r,λa=>h1⟩
  ·exact⟨0,λz=>absurd z q⟩
 obtain⟨root,hroot⟩:=show ∃root:Nat->Nat,∀s∈hs,Liv par s (root s) from ⟨λs=>(rt s).choose,λs hs=>(rt s).choose_spec hs⟩;have e1:Pu.comp (λ(y1:Int)=>Pf.bN (ZZ,ended) y1) (cl hs)=some (cl<|hs.map root):=by
  rw[cx (g:=λy=>((root y.toNat:Nat):Int)) (by rw[bE];exact ci<|eU hl (by decide))]
  ·congr 1;unfold cl;rw[T4,T4];rfl
  ·intro y hy;obtain⟨s,hs',rfl⟩:=eQ.mp hy;rw[W0];exact zo inj u hk he (hhs s hs')<|hroot s hs'
 have hmet:∀r∈hs.map root,r<ZZ.length*c:=λr hr=>by obtain⟨s,hs',rfl⟩:=W6.mp hr;have:=u.root (hhs s hs')<|hroot s hs';exact(u.dom _ (by rw[this];exact nofun)).1
 obtain⟨elder,g1,g2,g3⟩:=iU hc hcm h o hmet (by simpa using ne);have e3:∃ended',Pu.bB (λ(s5:L2.bz) (x4:Int)=>if (!decide (x4=(elder:Int)))=true then if s5.length<16777216 then some (Pu.put s5 x4 (some (x:Int),some (elder:Int))) else none else some s5) (cl<|hs.map root) ended=some ended' /\
   (∀s:Nat,find ended' (s:Int)=if s∈(hs.map root).take (cl<|hs.map root).length/\s≠elder then some (some (x:Int),some (elder:Int)) else find ended (s:Int))/\ended'.length<=ended.length+(cl<|hs.map root).length:=by
  refine eJ (λi (e:L2.bz)=>(∀s:Nat,find e (s:Int)=if s∈(hs.map root).take i/\s≠elder then some (some (x:Int),some (elder:Int)) else find ended (s:Int))/\e.length<=ended.length+i) ⟨λs=>by simp,by exact U9 _ _⟩ ?_;rintro i y e hy ⟨h1,h2⟩;have hi:i<(cl<|hs.map root).length:=(Z7.mp hy).1;rw[bE,Z8]at hi;unfold cl at hy;rw[X2]at hy;obtain⟨r,hr,rfl⟩:=U8.mp hy;have tk:(hs.map root).take (i+1)=(hs.map root).take i++[r]:=by have e:=(Z7.mp hr).2;rw[<- e,O0]
  by_cases q:r=elder
  ·refine(cZ e (by rw[if_neg (by simp[q])]) (λs=>?_) (by lia));rw[h1 s,tk];have:(s∈(hs.map root).take i++[r]/\s≠elder)↔(s∈(hs.map root).take i/\s≠elder):=by
    rw[V4,Y5]
    constructor
    ·rintro⟨z|z,w⟩
     ·exact⟨z,w⟩
     ·exact absurd (z.trans q) w
    ·rintro⟨z,w⟩;exact⟨.inl z,w⟩
   simp only[this]
  ·refine(cZ _ (by rw[if_pos (by simp;(clear tk hy hr hi h2 h1 g3 g2 g1 hmet e1 hroot rt inj ZR ne hl hhs hel he hk u o h hcm hc;lia)),if_pos (by lia)]) (λs=>?_) (by have:=mN (d:=e) (k:=(r:Int)) (v:=(some (x:Int),some (elder:Int)));lia));rw[kA,tk];by_cases qs:s=r
   ·subst qs;rw[if_pos rfl,if_pos ⟨by simp,q⟩]
   ·rw[if_neg (by (clear q tk hy hr hi h2 h1 g3 g2 g1 hmet e1 hroot rt inj ZR ne hl hhs hel he hk u o h hcm hc;lia)),h1 s];have:(s∈(hs.map root).take i++[r]/\s≠elder)↔(s∈(hs.map root).take i/\s≠elder):=by
     rw[V4,Y5]
     constructor
     ·rintro⟨z|z,w⟩
      ·exact⟨z,w⟩
      ·exact absurd z qs
     ·rintro⟨z,w⟩;exact⟨.inl z,w⟩
    simp only[this]
 obtain⟨ended',f1,f2,f3⟩:=e3;refine⟨hs.map root,elder,ended',?_,(λs hs'=>(aB (root s) (W6.mpr<|aB s hs' rfl)<|hroot s hs')),(λr hr=>?_),g2,g3,(λs=>?_),?_⟩
 ·unfold Pf.be;simp only;rw[e1,cT,g1,cT,f1,cT]
 ·obtain⟨s,hs',rfl⟩:=W6.mp hr;exact(aB s hs'<|hroot s hs')
 ·show find ended' (s:Int)=(if s∈hs.map root/\s≠elder then some (x,elder) else par s).map _;rw[f2 s,bE,O6];by_cases q:s∈hs.map root/\s≠elder
  ·rw[if_pos q,if_pos q];rfl
  ·rw[if_neg q,if_neg q];exact he s
 ·rw[bE,Z8]at f3;exact f3
theorem uv(hp:0<ZZ.length)(hc:0<c)(hcm:c<=1000)(hm:ZZ.length<=1000)(h:∀r∈ZZ,r.length=c)(ZQ:ZZ.length*c<1000)(o:Ord ZZ.flatten os)(u:UF (Nb ZZ.length c reach) (ZZ.length*c) (rk os) k home par)(hk:k<=1000)(he:fU ended par)(hel:ended.length<=k*1000)(hh:iq (ZZ.length*c) homes home)(hx:x<ZZ.length*c)(hr:rk os x=k):∃homes' ended' home' par',Pf.cb (ZZ,reach,homes,ended) (x:Int)=some (homes',ended')/\UF (Nb ZZ.length c reach) (ZZ.length*c) (rk os) (k+1) home' par'/\fU ended' par'/\ended'.length<=(k+1)*1000/\iq (ZZ.length*c) homes' home':=by
 have ZR:ZZ.flatten.length=ZZ.length*c:=br h;have inj:∀x y,x<ZZ.length*c->y<ZZ.length*c->rk os x=rk os y->x=y:=λx y hx hy=>o.inj x y (by exact cf hx<|bM ZR.symm) (by exact cf hy<|bM ZR.symm);have nbl:=jO ZZ.length c reach x;unfold Pf.cb;rw[m8 hp hc hcm hm h hh hx,cT];have set_ok:∀v:Nat,iq (ZZ.length*c) (homes.set x<|some (v:Int)) (λy=>if y=x then some v else home y):=λv=>by
  refine⟨by rw[N5];exact hh.1,λy hy=>?_⟩;show _=some ((if y=x then some v else home y).map _);rw[J3];by_cases e:x=y
  ·subst e;rw[if_pos rfl,if_pos (by rw[hh.1];exact hx),if_pos rfl];rfl
  ·rw[if_neg e,if_neg λz=>e z.symm];exact hh.2 y hy
 have hix:L2.sG homes.length (x:Int)=some x:=xT (by rw[hh.1];exact hx);generalize eh:((gJ ZZ.length c reach x).filter λo=>(home o).isSome).map (λo=>(home o).getD 0)=hs;have memhs:∀s,s∈hs↔∃o',Nb ZZ.length c reach x o'/\home o'=some s:=λs=>by
  rw[<- eh,W6]
  constructor
  ·rintro⟨o',h1,h2⟩;obtain⟨h3,h4⟩:=S6.mp h1;obtain⟨t,ht⟩:=Option.isSome_iff_exists.mp h4;rw[ht]at h2;exact(aB o' ((ip hx).mpr h3) (by rw[ht];exact congrArg some h2))
  ·rintro⟨o',h1,h2⟩;exact(aB o' (S6.mpr ⟨(ip hx).mp h1,by rw[h2];rfl⟩) (by rw[h2];rfl))
 have hlen:hs.length<=1000:=by rw[<- eh,Z8];have:=T8 (λo=>(home o).isSome)<|gJ ZZ.length c reach x;exact ci<|eU this<|eU nbl ZQ
 by_cases ne:hs=[]
 ·refine⟨_,_,(λy=>if y=x then some x else home y),par,?_,?_,he,(by lia),set_ok x⟩
  ·rw[ne,if_neg (by simp),cT];simp only;rw[hix,cT]
  ·refine u.alone Nb.sy inj hx hr (λo' h1 h2=>?_) (if_pos rfl) λy hy=>if_neg hy;obtain⟨s,hs'⟩:=u.has o' h2;have:s∈hs:=(memhs s).mpr (aB o' h1 hs');rw[ne]at this;cases this
 ·obtain⟨met,elder,ended',g1,g2,g3,g4,g5,g6,g7⟩:=lG hc hcm h o u hk he (by lia) (hs:=hs) (λs hs'=>by refine aU ((memhs s).mp hs') λo' h1 h2=>?_;exact u.own o' s h2) (aR hlen (by decide)) ne x
  refine⟨_,_,(λy=>if y=x then some elder else home y),(λs=>if s∈met/\s≠elder then some (x,elder) else par s),?_,?_,g6,(by lia),set_ok elder⟩
  ·rw[if_pos (by cases hs with|nil=>exact absurd rfl ne|cons=>rfl),g1,cT];simp only;rw[hix,cT]
  ·refine u.meet Nb.sy inj (met:=met) (elder:=elder) hx hr (λo' s h1 h2=>g2 s<|(memhs s).mpr (aB o' h1 h2)) (λr hr'=>?_) g4 g5 (if_pos rfl) (λy hy=>if_neg hy) (λs h1 h2=>if_pos ⟨h1,h2⟩) λs hs'=>if_neg hs';obtain⟨s,h1,h2⟩:=g3 r hr';obtain⟨o',h3,h4⟩:=(memhs s).mp h1;exact(da o' s h3 h4 h2)
theorem pH(hp:0<ZZ.length)(hc:0<c)(hcm:c<=1000)(hm:ZZ.length<=1000)(h:∀r∈ZZ,r.length=c)(ZQ:ZZ.length*c<1000)(o:Ord ZZ.flatten os)(hks:∀i x,ks[i]?=some x->x<ZZ.length*c/\rk os x=i):∃homes ended home par,Pf.fP ZZ reach (cl ks)=some (ZZ,reach,homes,ended) /\
  UF (Nb ZZ.length c reach) (ZZ.length*c) (rk os) ks.length home par/\fU ended par/\iq (ZZ.length*c) homes home:=by
 have ZR:ZZ.flatten.length=ZZ.length*c:=br h;have e0:Pf.kj ZZ=some ((X5<|ZZ.length*c).map λz=>none):=by unfold Pf.kj;rw[fh hp hcm hm h,cT,cx (g:=λz=>(none:ZI)) (by rw[bE,U1];exact ci<|hU ZQ (by decide)) λz z=>rfl];congr 1;unfold cl;rw[T4];rfl
 have hkl:∀i,i<ks.length->i<1000:=λi hi=>by obtain⟨h1,h2⟩:=hks i _<|Z9 hi;have:=o.rk_lt (x:=ks[i]) (by exact cf h1<|bM ZR.symm);exact eU (bM h2.symm)<|hU this<|eU (bM ZR) ZQ
 unfold Pf.fP;rw[e0,cT];have key:∃w,(Pu.bB (λ(s3:List (Option Int)×L2.bz) (x2:Int)=>(Pf.cb (ZZ,reach,s3.1,s3.2) x2).bind λc=>some (c.1,c.2)) (cl ks) ((X5<|ZZ.length*c).map λz=>none,[])).bind (λs=>some (ZZ,reach,s.1,s.2))=some w /\
   ∃home par,UF (Nb ZZ.length c reach) (ZZ.length*c) (rk os) (cl ks).length home par/\fU w.2.2.2 par/\iq (ZZ.length*c) w.2.2.1 home/\w.1=ZZ/\w.2.1=reach:=by
  refine ku (λi s=>∃home par,UF (Nb ZZ.length c reach) (ZZ.length*c) (rk os) i home par/\fU s.2 par/\s.2.length<=i*1000/\iq (ZZ.length*c) s.1 home) ?_ ?_ ?_
  ·exact⟨λz=>none,λz=>none,UF.start,λz=>rfl,by simp,by simp,λx hx=>by rw[X2,J5 hx];rfl⟩
  ·rintro i y ⟨homes,ended⟩ hy zq;obtain⟨home,par,u,he,hel,hh⟩:=zq;unfold cl at hy;rw[X2]at hy;obtain⟨x,hx,rfl⟩:=U8.mp hy;obtain⟨h1,h2⟩:=hks i x hx;have hi:=hkl i (Z7.mp hx).1;obtain⟨homes',ended',home',par',g1,g2,g3,g4,g5⟩:=uv hp hc hcm hm h ZQ o u (by exact ci hi) he hel hh h1 h2;simp only;exact aB (homes',ended') (by rw[g1];rfl) ⟨home',par',g2,g3,g4,g5⟩
  ·rintro⟨homes,ended⟩ zq;obtain⟨home,par,u,he,hel,hh⟩:=zq;exact aB _ rfl<|ye home par u he hh rfl rfl
 obtain⟨w,e1,home,par,u,he,hh,e2,e3⟩:=key;obtain⟨a,b,d,e⟩:=w;simp only at e2 e3;subst e2 e3;rw[bE]at u;exact⟨d,e,home,par,e1,u,he,hh⟩
theorem gG(o:Ord hs os)(h:os[i]?=some x):x<hs.length/\rk os x=i:=⟨o.mem.mp<|V3 h,o.rk_at h⟩
end
theorem uw{α:Type}{l:List α}{p:α×α}(h:p∈l.zip l):p.1=p.2:=by obtain⟨i,hi⟩:=List.mem_iff_getElem?.mp h;obtain⟨h1,h2⟩:=List.getElem?_zip_eq_some.mp hi;rw[h1]at h2;exact Z5 h2
end Pf
namespace Fl
open Pu Gr
theorem Ord.uniq{hs:ZW}{os os':ZU}(o:Ord hs os)(o':Ord hs os'):os=os' :=
 gm (le:=λa b=>dv (hk hs a) (hk hs b)=true) (λa b h1 h2=>by rw[BQ h1]at h2;cases h2) (o.pm.trans o'.pm.symm) o.up o'.up
end Fl
namespace Pf
open Fl Pu Gr
theorem digits_eq(v:Int)(many:Nat)(hm:many<=100000)(hb:0<base/\base<2^64):∃ds,Pf.digits v (many:Int) base=some ds/\(ds=[]\/ds.length=many)/\∀d∈ds,0<=d/\d<base:=by
 unfold Pf.digits;rw[iT (by exact ci<|eU hm (by decide)),bs];refine ku (λi (s:Int×List Int)=>s.2.length=i/\∀d∈s.2,0<=d/\d<base) ⟨rfl,λx h=>nomatch h⟩ ?_ ?_
 ·rintro i y ⟨z,ds⟩ hy ⟨h1,h2⟩;have hi:=(Z7.mp hy).1;rw[fR]at hi;simp only at h1 h2 ⊢;rw[im hb.1,bs,jB (by exact ci<|eU (bM h1)<|hU hi<|eU hm (by decide)),bs,ik hb,bs];refine(cZ _ rfl (by simp[h1]) λd hd=>?_);rcases V4.mp hd with q|q
  ·exact h2 d q
  ·rw[Y5.mp q];exact⟨Int.emod_nonneg _ (by exact Int.ne_of_gt hb.1),Int.emod_lt_of_pos _ hb.1⟩
 ·rintro⟨z,ds⟩ ⟨h1,h2⟩;simp only at h1 h2 ⊢;rw[fR]at h1;rw[oF (by lia),bs,bs];by_cases q:0<z
  ·rw[decide_eq_true q];have e:(many:Int)*Pu.ofb true=((many:Nat):Int):=by unfold Pu.ofb;simp
   rw[e,BL,<- h1,O6];exact(cZ ds rfl (.inr rfl) h2)
  ·rw[decide_eq_false q];have e:(many:Int)*Pu.ofb false=((0:Nat):Int):=by unfold Pu.ofb;simp
   rw[e,BL,List.take_zero];exact(cZ ([]) rfl (.inl rfl) λx h=>nomatch h)
theorem xV(a:Int):∃c:Nat,1+a%12=(c:Int)/\1<=c/\c<=12:=(cZ ((1+a%12).toNat) (by lia) (by lia) (by lia))
end Pf
namespace Gr
section
variable {A:ZK}{n k:Nat}{ρ:ZL}{home home':Zs}{par par':ZC}
theorem Rch.upto(h:k<=k')(r:Rch A (Lv n ρ k) x y):Rch A (Lv n ρ k') x y:=r.mono λa a h1 h2=>⟨h1,h2.1,cf h2.2 h⟩
theorem Fst.no(inj:∀x y,x<n->y<n->ρ x=ρ y->x=y)(h:k<=k')(f:Fst A n ρ k' s s)(g:Fst A n ρ k s e):e=s :=
 inj e s g.lv.1 f.lv.1 (T9 (g.min s .here)<|f.min e<|g.rch.upto h)
theorem UF.home_eq(inj:∀x y,x<n->y<n->ρ x=ρ y->x=y)(u:UF A n ρ k home par)(u':UF A n ρ k home' par')(x:Nat):home x=home' x:=by
 cases q:home x with
 |none =>
  cases q':home' x with
  |none=>rfl
  |some s =>obtain⟨s',hs⟩:=u.has x<|u'.dom x (by rw[q'];exact nofun);rw[q]at hs;cases hs
 |some s =>obtain⟨s',hs⟩:=u'.has x<|u.dom x (by rw[q];exact nofun);rw[hs,(u.hm x s q).same inj (u'.hm x s' hs)]
theorem UF.par_some(inj:∀x y,x<n->y<n->ρ x=ρ y->x=y)(u:UF A n ρ k home par)(u':UF A n ρ k home' par')(h:par s=some (m,e)):par' s=some (m,e):=by
 obtain⟨h1,_,h3,_,h5,h6,h7⟩:=u.pr s m e h;rw[u.home_eq inj u']at h1;cases q:par' s with
 |none =>
  obtain⟨r,l,f⟩:=u'.liv s s h1;cases l with
  |root=>exact absurd (Fst.no inj (show ρ m+1<=k from h3.2) f h6) h7
  |up z _=>rw[q]at z;cases z
 |some p =>
  obtain⟨m',e'⟩:=p;obtain⟨_,_,g3,_,g5,g6,g7⟩:=u'.pr s m' e' q;have em:ρ m=ρ m':=by
   rcases Nat.lt_trichotomy (ρ m) (ρ m') with z|z|z
   ·exact absurd (Fst.no inj z g5 h6) h7
   ·exact z
   ·exact absurd (Fst.no inj z h5 g6) g7
  have:=inj m m' h3.1 g3.1 em;subst this;rw[h6.same inj g6]
theorem UF.par_eq(inj:∀x y,x<n->y<n->ρ x=ρ y->x=y)(u:UF A n ρ k home par)(u':UF A n ρ k home' par')(s:Nat):par s=par' s:=by
 cases q:par s with
 |some p=>exact(u.par_some inj u' q).symm
 |none =>
  cases q':par' s with
  |none=>rfl
  |some p=>rw[u'.par_some inj u q']at q;cases q
end
end Gr
namespace Pf
open Fl Pu Gr
abbrev cs(l:ZU):List (Option Int):=l.map λ(x:Nat)=>some (x:Int)
theorem C0{r:Nat}:some (r:Int)∈cs l↔r∈l:=by rw[W6];exact⟨λ⟨a,h,e⟩=>by rw[<- N7 (Z5 e)];exact h,λh=>(aB r h rfl)⟩
theorem wn(l:ZU):(cs l).length=l.length:=Z8 ..
section
variable {n:Nat}
def sv(A:ZK)(n:Nat)(ρ:ZL)(k:Nat)(ls:ZA):Prop :=
 ls.length=n/\∀x,x<n->ρ x<k->∃r:Nat,ls[x]?=some (some (r:Int))/\Fst A n ρ k x r
theorem shut_eq{x e:Nat}{f:(List<|Option<|Int)×(List<|Int×((Option<|Int)×(Option<|Int)))->Option Int->Option ((List<|Option<|Int)×(List<|Int×((Option<|Int)×(Option<|Int))))}(hS:∀{l1 e1},l1[x]?=some (some (e:Int))->f (l1,e1) (some (e:Int))=some (l1,e1))(hO:∀{l1 e1} {r:Nat},l1[x]?=some (some (e:Int))->¬ (some (r:Int):Option Int)=some (e:Int)->l1.length<=1000000->e1.length<16777216->f (l1,e1) (some (r:Int))=some (l1.map λv=>if v=some (r:Int) then some (e:Int) else v,Pu.put e1 (r:Int) (some (x:Int),some (e:Int)))){par:ZC}(hlx:ls[x]?=some (some (e:Int)))(hl:ls.length<=1000)(hm:met.length<=M)(hM:M<=1000)(hel:ends.length<=1000000)(he:fU ends par):
  ∃ls' ends',Pu.bB f (cs met) (ls,ends)=some (ls',ends') /\
   ls'=ls.map (λv=>if v∈cs met/\v≠some (e:Int) then some (e:Int) else v)/\fU ends' (λs=>if s∈met/\s≠e then some (x,e) else par s)/\ends'.length<=ends.length+M:=by
 have key:=eJ (f:=f)
  (λi s=>s.1=ls.map (λv=>if v∈cs (met.take i)/\v≠some (e:Int) then some (e:Int) else v)/\s.2.length<=ends.length+i/\∀t:Nat,find s.2 (t:Int)=if t∈met.take i/\t≠e then some (some (x:Int),some (e:Int)) else find ends (t:Int)) (xs:=cs met) (s:=(ls,ends)) (qD ?_ (bi _) (λt=>by simp)) ?_
 ·obtain⟨zp,e1,h1,h2,h3⟩:=key;obtain⟨ls',ends'⟩:=zp;rw[wn]at h1 h2 h3;rw[O6]at h1 h3;refine⟨ls',ends',e1,h1,(λt=>?_),aR h2<|E9 hm _⟩;show find ends' (t:Int)=(if t∈met/\t≠e then some (x,e) else par t).map _;rw[show find ends' (t:Int)=_ from h3 t];by_cases q:t∈met/\t≠e
  ·rw[if_pos q,if_pos q];rfl
  ·rw[if_neg q,if_neg q];exact he t
 ·simp
 ·rintro i y ⟨l1,e1⟩ hy zq;obtain⟨h1,h2,h3⟩:=zq;simp only at h1 h2 h3 ⊢;have hi:i<met.length:=by have:=(Z7.mp hy).1;rwa [wn]at this
  rw[X2]at hy;obtain⟨r,hr,rfl⟩:=U8.mp hy;have tk:met.take (i+1)=met.take i++[r]:=by have e:=(Z7.mp hr).2;rw[<- e,O0]
  have ex:l1[x]?=some (some (e:Int)):=by rw[h1,X2,hlx];simp
  have mt:∀v:Option Int,v∈cs (met.take<|i+1)↔v∈cs (met.take i)\/v=some (r:Int):=λv=>by rw[tk];unfold cs;rw[U4,V4];simp
  by_cases q:r=e
  ·refine(jc _ (q.symm▸hS ex) ?_ (L8 h2) λt=>?_)
   ·rw[h1];refine T6 λv a=>?_;have:(v∈cs (met.take i)/\v≠some (e:Int))↔(v∈cs (met.take<|i+1)/\v≠some (e:Int)):=by rw[mt,q];exact⟨λz=>⟨.inl z.1,z.2⟩,λz=>⟨z.1.resolve_right z.2,z.2⟩⟩
    simp only[this]
   ·rw[h3 t,tk];have:(t∈met.take i++[r]/\t≠e)↔(t∈met.take i/\t≠e):=by rw[V4,Y5,q];exact⟨λz=>⟨z.1.resolve_right z.2,z.2⟩,λz=>⟨.inl z.1,z.2⟩⟩
    simp only[this]
  ·have q':¬ (some (r:Int):Option Int)=some (e:Int):=λz=>q<|N7<|Z5 z;refine(jc _ (hO ex q' (by rw[h1,Z8];exact aR hl (by decide)) (by lia)) ?_ ?_ λt=>?_)
   ·simp only;rw[h1,T4];refine T6 λv a=>?_;simp only[Function.comp];by_cases z:v∈cs (met.take i)/\v≠some (e:Int)
    ·rw[if_pos z,if_neg λw=>q' w.symm,if_pos ⟨(mt v).mpr (.inl z.1),z.2⟩]
    ·rw[if_neg z];by_cases w:v=some (r:Int)
     ·rw[if_pos w,if_pos ⟨(mt v).mpr (.inr w),by rw[w];exact q'⟩]
     ·rw[if_neg w,if_neg λy=>z ⟨((mt v).mp y.1).resolve_right w,y.2⟩]
   ·have:=mN (d:=e1) (k:=(r:Int)) (v:=(some (x:Int),some (e:Int)));simp only;lia
   ·simp only;rw[kA,tk];by_cases qs:t=r
    ·subst qs;rw[if_pos rfl,if_pos ⟨by simp,q⟩]
    ·rw[if_neg (by lia),h3 t];have:(t∈met.take i++[r]/\t≠e)↔(t∈met.take i/\t≠e):=by rw[V4,Y5];exact⟨λz=>⟨z.1.resolve_right qs,z.2⟩,λz=>⟨.inl z.1,z.2⟩⟩
     simp only[this]
theorem zt{A:ZK}{ρ:ZL}(sy:∀a b,A a b->A b a)(inj:∀x y,x<n->y<n->ρ x=ρ y->x=y)(hx:x<n)(hr:ρ x=k)(hA:∀a b,A a b->b<n)(hmet:∀r,r∈met↔∃o,A x o/\ρ o<k/\Fst A n ρ k o r)(fe:Fst A n ρ (k+1) x e)(hl:sv A n ρ k ls):
  sv A n ρ (k+1) ((ls.set x<|some (e:Int)).map λv=>if v∈cs met/\v≠some (e:Int) then some (e:Int) else v):=by
 have lx:Lv n ρ (k+1) x:=⟨hx,by rw[hr];exact U2 _⟩;have hlx:(ls.set x<|some (e:Int))[x]?=some (some (e:Int)):=by rw[J3,if_pos rfl,if_pos (by rw[hl.1];exact hx)]
 refine⟨by rw[Z8,N5];exact hl.1,λy hy hyk=>?_⟩;rw[X2];by_cases q:y=x
 ·subst q;exact(aB e (by rw[hlx,Option.map_some,if_neg λz=>z.2 rfl]) fe)
 ·have hyk':ρ y<k:=by
   rcases Nat.lt_succ_iff_lt_or_eq.mp hyk with z|z
   ·exact z
   ·exact absurd (inj y x hy hx<|z.trans hr.symm) q
  obtain⟨r,e1,f⟩:=hl.2 y hy hyk';rw[J3,if_neg λz=>q z.symm,e1,Option.map_some];by_cases hm:r∈met
  ·refine(aB e ?_ ?_)
   ·by_cases z:r=e
    ·rw[z,if_neg λw=>w.2 rfl]
    ·rw[if_pos ⟨C0.mpr hm,λw=>z<|N7<|Z5 w⟩]
   ·obtain⟨o,h1,h2,h3⟩:=(hmet r).mp hm;have lo:Lv n ρ k o:=⟨hA _ _ h1,h2⟩;have ry:Rch (A) (Lv n ρ k) o y:=h3.rch.trans<|f.rch.symm sy ⟨hy,hyk'⟩;exact Fst.of_rch sy lx ((Rch.on .here h1 lo.up).trans ry.up) fe
  ·refine⟨r,by rw[if_neg λz=>hm<|C0.mp z.1],f.rch.up,f.lv.up,λz hz=>?_⟩;rcases Rch.new sy inj hx hr ⟨hy,hyk'⟩ hz with h|zr1_
   ·exact f.min z h
   ·obtain⟨o,h1,h2,h3,_⟩:=zr1_;exact absurd ((hmet r).mpr (cZ o h1 h2.2<|Fst.of_rch sy ⟨hy,hyk'⟩ h3 f)) hm
end
end Pf
namespace Fl
open Pu
structure ShpW(ZZ:ZM)(c most:Nat):Prop where
 pos:0<ZZ.length
 most12:ZZ.length<=12
 cpos:0<c
 cmost:c<=12
 row:∀r∈ZZ,r.length=c
 area:ZZ.length*c<=most
 hts:∀r∈ZZ,∀x∈r,0<=x/\x<=1000000000000000000
end Fl
namespace Pf
open Fl Pu
theorem fi(ns:ZW){k:Nat}(hk:k<=1000)(ht:0<=top):∃v,Pf.dG ns (k:Int) top=some v/\0<=v/\v<=top:=by
 unfold Pf.dG;have b1:-(2^64)<(k:Int)+1/\(k:Int)+1<2^64:=by omega
 have b2:-(2^64)<(k:Int)/\(k:Int)<2^64:=by omega
 simp only[fS,bs,oF b1,oF b2,im (show 0<top+1 by omega)];refine⟨_,rfl,Int.emod_nonneg _ (by omega),?_⟩;exact Int.le_of_lt_add_one<|Int.emod_lt_of_pos _ (by omega)
theorem xW{i:Nat}(h:i<12):∃v,Pu.at_ ([0,1,0,2,0,1,0,3,0,1,0,2]:List Int) (i:Int)=some v/\0<=v/\v<=3:=by
 rw[cX]
 match i,h with
 |0,_=>exact⟨_,rfl,by decide,by decide⟩
 |1,_=>exact⟨_,rfl,by decide,by decide⟩
 |2,_=>exact⟨_,rfl,by decide,by decide⟩
 |3,_=>exact⟨_,rfl,by decide,by decide⟩
 |4,_=>exact⟨_,rfl,by decide,by decide⟩
 |5,_=>exact⟨_,rfl,by decide,by decide⟩
 |6,_=>exact⟨_,rfl,by decide,by decide⟩
 |7,_=>exact⟨_,rfl,by decide,by decide⟩
 |8,_=>exact⟨_,rfl,by decide,by decide⟩
 |9,_=>exact⟨_,rfl,by decide,by decide⟩
 |10,_=>exact⟨_,rfl,by decide,by decide⟩
 |11,_=>exact⟨_,rfl,by decide,by decide⟩
 |n+12,h=>exact absurd h (by lia)
theorem sw(ns:ZW){k i j:Nat}(hk:k<=1000)(h0:0<=kind)(h5:kind<5)(hi:i<12)(hj:j<12):∃v,Pf.bO ns (k:Int) kind (i:Int) (j:Int)=some v/\0<=v/\v<=1000000000000000000:=by
 unfold Pf.bO;by_cases c3:kind=3
 ·rw[if_pos (by simpa using c3)];obtain⟨u,e1,u1,u2⟩:=xW hi;obtain⟨v,e2,v1,v2⟩:=xW hj;obtain⟨w,e3,w1,w2⟩:=fi ns hk (top:=3) (by decide);simp only[e1,e2,e3,bs];exact⟨_,rfl,by lia,by lia⟩
 ·rw[if_neg (by simpa using c3)];by_cases c4:kind=4
  ·rw[if_pos (by simpa using c4)];obtain⟨w,e3,w1,w2⟩:=fi ns hk (top:=9) (by decide);simp only[e3,bs];have a1:0<=Pu.ab ((i:Int)-5)/\Pu.ab ((i:Int)-5)<=6:=by unfold Pu.ab;split<;>lia
   exact⟨_,rfl,by lia,by lia⟩
  ·rw[if_neg (by simpa using c4)];have t:∃top,Pu.at_ ([3,11,1000000000000000000]:List Int) kind=some top/\0<=top/\top<=1000000000000000000:=by
    have:kind=0\/kind=1\/kind=2:=by lia
    rcases this with rfl|rfl|rfl
    ·exact⟨3,rfl,by decide,by decide⟩
    ·exact⟨11,rfl,by decide,by decide⟩
    ·exact⟨1000000000000000000,rfl,by decide,by decide⟩
   obtain⟨top,e,t1,t2⟩:=t;obtain⟨w,e3,w1,w2⟩:=fi ns hk t1;simp only[e,e3,bs];exact⟨_,rfl,w1,Int.le_trans w2 t2⟩
theorem wo(h:r<=max 1 (q/c))(hq:c<=q):r*c<=q:=by
 have h1:r*c<=max 1 (q/c)*c:=R9 c h;refine aR h1 ?_;by_cases z:1<=q/c
 ·rw[Nat.max_eq_right z];exact Nat.div_mul_le_self q c
 ·rw[Nat.max_eq_left (by lia),Nat.one_mul];exact hq
theorem ux(ns:ZW){most:Nat}(hm:12<=most)(hM:most<=144):∃ZZ c,Pf.oC ns (most:Int)=some ZZ/\ShpW ZZ c most:=by
 unfold Pf.oC;have ca:=fS ns 0;rw[show ((0:Nat):Int)=0 from rfl]at ca;rw[ca,bs];generalize cellAt ns 0=head;obtain⟨c,ec,c1,c2⟩:∃c:Nat,1+head%12=(c:Int)/\1<=c/\c<=12:=⟨(1+head%12).toNat,by lia,by lia,by lia⟩;rw[ec];have fc:0<(c:Int)/\(c:Int)<2^64:=by lia
 generalize (Pu.ln (Pu.cut ns (some 3)<|some 63):Int)=L;simp only[ik fc,bs];obtain⟨R1,eR1,r1⟩:∃R1:Nat,Pu.mx 1 (Pu.mn 12<|(L+(c:Int)-1)/(c:Int))=(R1:Int)/\1<=R1/\R1<=12:=by have h1:=Fl.mn_lel 12<|(L+(c:Int)-1)/(c:Int);have h2:=Fl.le_mxl 1<|Pu.mn 12<|(L+(c:Int)-1)/(c:Int);have h3:Pu.mx 1 (Pu.mn 12<|(L+(c:Int)-1)/(c:Int))<=12:=Fl.mx_le (by decide) h1;have h2':1<=Pu.mx 1 (Pu.mn 12<|(L+(c:Int)-1)/(c:Int)):=h2;exact⟨(Pu.mx 1<|Pu.mn 12<|(L+(c:Int)-1)/(c:Int)).toNat,by lia,by lia,by lia⟩
 rw[eR1];obtain⟨R2,eR2,r2⟩:∃R2:Nat,(if (decide<|((head/12)%8)=3)=true then some (12:Int) else some ((R1:Nat):Int))=some (R2:Int)/\1<=R2/\R2<=12:=by
  split
  ·exact⟨12,rfl,by decide,by decide⟩
  ·exact⟨R1,rfl,r1⟩
 rw[eR2,bs];obtain⟨R,eR,r3⟩:∃R:Nat,Pu.mn (R2:Int) (Pu.mx 1<|(most:Int)/(c:Int))=(R:Int)/\1<=R/\R<=12/\R<=max 1 (most/c):=by rw[<- Int.natCast_ediv];generalize most/c=q;unfold Pu.mn Pu.mx;split<;>split<;>first|exact⟨R2,rfl,by lia,by lia,by lia⟩|exact⟨q,rfl,by lia,by lia,by lia⟩|exact⟨1,rfl,by lia,by lia,by lia⟩
 rw[eR];have e1:Pu.jw (R:Int)=some (nats R):=iT (by lia);have e2:Pu.jw (c:Int)=some (nats c):=iT (by lia);rw[e1,bs,e2];have kb:0<=(head/96)%5/\(head/96)%5<5:=⟨Int.emod_nonneg _ (by decide),Int.emod_lt_of_pos _ (by decide)⟩;have H:∃ZZ,(Pu.bB (λ(s17:(List<|List<|Int)) (x16:Int)=>((Pu.mul x16 (c:Int)).bind λx18=>some<|3+x18).bind λat20=>((some<|nats c).bind λx22=>Pu.comp (λ(y21:Int)=>Pf.bO ns (at20+y21) ((head/96)%5) x16 y21) x22).bind λx25=>(Pu.app s17 x25).bind λfloor_here24=>some<|floor_here24) (nats R)<|[]).bind (λ(s17:(List<|List<|Int))=>some<|s17)=some ZZ/\ZZ.length=R/\∀r∈ZZ,r.length=c/\∀x∈r,0<=x/\x<=1000000000000000000:=by
  refine ku (λi s=>s.length=i/\∀r∈s,r.length=c/\∀x∈r,0<=x/\x<=1000000000000000000) ⟨rfl,λa h=>nomatch h⟩ ?_ λs h=>⟨s,rfl,by rw[h.1,fR],h.2⟩;intro i x s hx hs;obtain⟨hi,rfl⟩:=ul hx;have mm:Pu.mul (i:Int) (c:Int)=some ((i:Int)*(c:Int)):=oF (by lia);have lt:i*c<=144:=aR (J4 (ci<|cf hi r3.2.1) c2) (by decide);have hh:∀y∈nats c,∃v,Pf.bO ns (3+(i:Int)*(c:Int)+y) ((head/96)%5) (i:Int) y=some v/\0<=v/\v<=1000000000000000000:=λy hy=>by
   obtain⟨j,hj,rfl⟩:=um.mp hy;have e3:3+(i:Int)*(c:Int)+(j:Int)=((3+i*c+j:Nat):Int):=by rw[J8,J8,Int.natCast_mul];rfl
   rw[e3];exact sw ns (by lia) kb.1 kb.2 (by lia) (by lia)
  have cg:Pu.comp (λ(y21:Int)=>Pf.bO ns (3+(i:Int)*(c:Int)+y21) ((head/96)%5) (i:Int) y21) (nats c)=some ((nats c).map λy=>(Pf.bO ns (3+(i:Int)*(c:Int)+y) ((head/96)%5) (i:Int) y).getD 0):=by refine cx (by rw[fR];lia) λy hy=>?_;obtain⟨v,e,_⟩:=hh y hy;rw[e];rfl
  have ap:Pu.app s ((nats c).map λy=>(Pf.bO ns (3+(i:Int)*(c:Int)+y) ((head/96)%5) (i:Int) y).getD 0)=some (s++[(nats c).map λy=>(Pf.bO ns (3+(i:Int)*(c:Int)+y) ((head/96)%5) (i:Int) y).getD 0]):=jB (by lia);refine⟨_,by rw[mm,bs,bs,bs,cg,bs,ap];rfl,by rw[Y9,hs.1];rfl,λr hr=>?_⟩;rcases V4.mp hr with q|q
  ·exact hs.2 r q
  ·rw[Y5.mp q];refine⟨by rw[Z8,fR],λv hv=>?_⟩;obtain⟨y,hy,ev⟩:=W6.mp hv;obtain⟨v',e',b⟩:=hh y hy;rw[<- ev,e'];exact b
 refine cM H λZZ e l q=>⟨ZZ,c,e,by rw[l];exact r3.1,by rw[l];exact r3.2.1,c1,c2,λr hr=>(q r hr).1,?_,λr hr=>(q r hr).2⟩;rw[l];exact wo r3.2.2<|aR c2 hm
section
variable {ZZ:ZM}{c:Nat}
theorem pJ(hp:0<ZZ.length)(hc:0<c)(hcm:c<=900)(hm:ZZ.length<=900)(h:∀r∈ZZ,r.length=c):∃os,Pf.bj ZZ=some (cl os)/\Ord ZZ.flatten os:=by
 have ZR:ZZ.flatten.length=ZZ.length*c:=br h;have lt:ZZ.length*c<1000000:=eU (J4 hm hcm) (by decide);obtain⟨os,e,o⟩:=BY ZZ.flatten;refine(aB os ?_ o);unfold Pf.bj;rw[fh hp (by lia) (by lia) h,cT];unfold Pu.sf;rw[zk (f:=hk ZZ.flatten) λx hx=>by have hx:=M5.mp hx;rw[fg hc (by lia) h hx,mM hc h hx],cT]
 rw[ZR]at e;have nd:=ord_nd ZZ.flatten;rw[ZR]at nd;rw[if_pos ⟨by rw[bE,U1];exact lt,nd⟩,e]
end
def stq(m c:Nat)(reach:Int)(R C:Nat)(d a:Int):Bool :=
 ((decide (0<=(R:Int)+d)&&decide ((R:Int)+d<(m:Int)))&&(decide (0<=(C:Int)+a)&&decide ((C:Int)+a<(c:Int))))&&((!decide ((decide<|d=0)=(decide<|a=0))) || ((decide<|reach=8)&&((!decide (d=0))&&(!decide (a=0)))))
theorem stq_eq{reach d a:Int}(hd:d∈([-1,0,1]:List Int))(ha:a∈([-1,0,1]:List Int)):stq m c reach R C d a=uR m c reach R C d a:=by
 have key:((!decide ((decide<|d=0)=(decide<|a=0))) || ((decide<|reach=8)&&((!decide (d=0))&&(!decide (a=0)))))=((decide<|Pu.ab d+Pu.ab a=1) || ((decide<|reach=8)&&(decide<|Pu.ab d+Pu.ab a=2))):=by
  have hd:d=-1\/d=0\/d=1:=by simpa using hd
  have ha:a=-1\/a=0\/a=1:=by simpa using ha
  cases q:decide (reach=8)<;>rcases hd with rfl|rfl|rfl<;>rcases ha with rfl|rfl|rfl<;>rfl
 unfold stq uR;rw[key]
theorem wq{c x:Nat}{reach:Int}(hp:0<ZZ.length)(hc0:0<c)(hcm:c<=1000)(hmm:ZZ.length<=1000)(h:∀r∈ZZ,r.length=c)(hx:x<ZZ.length*c):Pf.ii ZZ reach (x:Int)=some (cl<|gJ ZZ.length c reach x):=by
 rw[<- next_eq hc0 hcm hmm hx,qp hc0 hcm hmm hx];obtain⟨r0,e0⟩:∃r0,ZZ[0]?=some r0:=⟨ZZ[0],Z9 hp⟩;have l0:r0.length=c:=h r0<|V3 e0;have a0:Pu.at_ ZZ 0=some r0:=by rw[show (0:Int)=((0:Nat):Int) from rfl,cX];exact e0
 have d1:((x:Nat):Int)/((c:Nat):Int)=((x/c:Nat):Int):=(Int.natCast_ediv x c).symm;have d2:((x:Nat):Int)%((c:Nat):Int)=((x%c:Nat):Int):=(Int.natCast_emod x c).symm;have ln0:Pu.ln r0=(c:Int):=by unfold Pu.ln;rw[l0]
 have lnr:Pu.ln ZZ=(ZZ.length:Int):=rfl;unfold Pf.ii;simp only[a0,bs,ln0,lnr,ik (show 0<((c:Nat):Int)/\((c:Nat):Int)<2^64 by lia),im (show 0<((c:Nat):Int) by exact M3.mpr hc0),d1,d2,kx (show -(2^64)<((c:Nat):Int)/\((c:Nat):Int)<2^64 by lia)];have ex:(x:Int)=((x/c:Nat):Int)*(c:Int)+((x%c:Nat):Int):=by rw[<- Int.natCast_mul,<- J8,Nat.mul_comm,Nat.div_add_mod]
 have vv:∀d a:Int,(x:Int)+d*(c:Int)+a=(((x/c:Nat):Int)+d)*(c:Int)+(((x%c:Nat):Int)+a):=λd a=>by rw[Int.add_mul];generalize d*(c:Int)=w;generalize ((x/c:Nat):Int)*(c:Int)=v at ex ⊢;lia
 simp only[vv];generalize x/c=R;generalize x%c=C;generalize ZZ.length=m;have inner:∀(d:Int) (s:ZW),d∈([-1,0,1]:List Int)->s.length<=100->bB (λ(s7:ZW) (x6:Int)=>if (((decide (0<=(R:Int)+d)&&decide ((R:Int)+d<(m:Int)))&&(decide (0<=(C:Int)+x6)&&decide ((C:Int)+x6<(c:Int))))&&((!decide ((decide<|d=0)=(decide<|x6=0))) || ((decide<|reach=8)&&((!decide (d=0))&&(!decide (x6=0))))))=true then (Pu.app s7<|((R:Int)+d)*(c:Int)+((C:Int)+x6)).bind λf=>some f else some s7) [-1,0,1] s =
   some (s++(([-1,0,1]:List Int).filter (uR m c reach R C d)).map λa=>((R:Int)+d)*(c:Int)+((C:Int)+a)):=λd s hd hs=>by
  rw[<- List.filter_congr (p:=stq m c reach R C d) λa ha=>stq_eq hd ha];refine lF (S:=Unit) (B:=1000) (λs x hs=>?_) (by simp;exact ci<|eU hs (by decide));show (if stq m c reach R C d x=true then _ else _)=_;cases q:stq m c reach R C d x with
  |true=>rw[if_pos rfl,if_pos rfl,jB (by exact ci<|eU hs (by decide))];rfl
  |false=>rw[if_neg Y3,if_neg Y3]
 have l3:∀d,((([-1,0,1]:List Int).filter (uR m c reach R C d)).map λa=>((R:Int)+d)*(c:Int)+((C:Int)+a)).length<=3:=λd=>by rw[Z8];exact T8 _ _
 refine fz (λi s=>s=(([-1,0,1]:List Int).take i).flatMap (λd=>(([-1,0,1]:List Int).filter (uR m c reach R C d)).map λa=>((R:Int)+d)*(c:Int)+((C:Int)+a))/\s.length<=3*i) ⟨rfl,by simp⟩ ?_ λs e=>by rw[e.1];rfl
 rintro i d s hd ⟨es,hs⟩;have hi:i<3:=(Z7.mp hd).1;refine(cZ _ (by rw[inner d s (V3 hd) (by lia)];rfl) ?_ ?_)
 ·have:([-1,0,1]:List Int).take (i+1)=([-1,0,1]:List Int).take i++[d]:=by have e:=(Z7.mp hd).2;rw[<- e,O0]
  rw[this,List.flatMap_append,es];simp
 ·rw[Y9];have:=l3 d;lia
theorem wt(h:ZZ.flatten.length<=1000000):Pf.km ZZ=some ((X5 ZZ.flatten.length).map (hk ZZ.flatten)):=by
 have hq:=wm ZZ h;unfold Pf.sr at hq;unfold Pf.km;obtain⟨s,e,e2⟩:=L2.a9 hq;have e3:s=ZZ.flatten:=Z5 e2;rw[e,cT,e3,cx (f:=λ(y:ZG)=>some (y.2,y.1)) (g:=λy=>(y.2,y.1)) (by rw[uo];exact h) λx x=>rfl];congr 1;apply List.ext_getElem?;intro i;rw[X2,X2];by_cases q:i<ZZ.flatten.length
 ·rw[J5 q];have:(qW ZZ.flatten)[i]?=some ((i:Int),ZZ.flatten[i]):=by unfold qW;simp[q]
  rw[this];show some (ZZ.flatten[i],(i:Int))=some (hk ZZ.flatten i);unfold hk;rw[List.getD_eq_getElem?_getD,Z9 q];rfl
 ·rw[List.getElem?_eq_none (by rw[uo];lia),List.getElem?_eq_none (by rw[U1];lia)];rfl
end Pf
namespace Fl
open Pu
structure Low(n:Nat)(nb:Zk)(ρ:ZL)(E:ZL):Prop where
 mem:∀x,x<n->E x=x\/E x∈nb x
 le:∀x,x<n->ρ (E x)<=ρ x/\∀y∈nb x,ρ (E x)<=ρ y
 lt:∀x,x<n->E x<n
 dn:∀x,x<n->E x≠x->ρ (E x)<ρ x
def lH(E:ZL):Nat->Nat->Nat
 |0,x=>x
 |k+1,x=>if E x=x then x else lH E k (E x)
section
variable {n:Nat}{nb:Zk}{ρ E:ZL}
theorem C1(L:Low n nb ρ E):∀(k x:Nat),x<n->ρ x<=k->lH E k x=lH E (k+1) x:=by
 intro k;induction k with
 |zero =>intro x hx hk;show x=if E x=x then x else _;exact(if_pos (Classical.byContradiction λe=>K3 _<|cf (L.dn x hx e) hk)).symm
 |succ k ih =>
  intro x hx hk;show (if E x=x then x else lH E k (E x))=if E x=x then x else lH E (k+1) (E x);by_cases e:E x=x
  ·rw[if_pos e,if_pos e]
  ·rw[if_neg e,if_neg e];exact ih (E x) (L.lt x hx)<|M1<|cf (L.dn x hx e) hk
theorem sA(L:Low n nb ρ E)(hK:∀x,x<n->ρ x<=K)(hx:x<n):lH E K x=if E x=x then x else lH E K (E x):=by rw[C1 L K x hx (hK x hx)];rfl
theorem bon_lt(L:Low n nb ρ E):∀(k x:Nat),x<n->lH E k x<n:=by
 intro k;induction k with
 |zero=>exact λx hx=>hx
 |succ k ih =>
  intro x hx;show (if E x=x then x else lH E k (E x))<n;by_cases e:E x=x
  ·rw[if_pos e];exact hx
  ·rw[if_neg e];exact ih (E x)<|L.lt x hx
end
theorem skol{P:ZK}(H:∀x,x<n->∃e,P x e):∃E:Nat->Nat,∀x,x<n->P x (E x) :=
 ⟨λx=>if hx:x<n then (H x hx).choose else 0,λx hx=>by show P x (if h:x<n then (H x h).choose else 0);rw[dif_pos hx];exact(H x hx).choose_spec⟩
abbrev flL(n:Nat)(E:ZL):List (Option Int):=(X5 n).map λx=>if E x=x then none else some ((E x:Nat):Int)
theorem flL_at{E:ZL}(hx:x<n):Pu.at_ (flL n E) (x:Int)=some (if E x=x then none else some ((E x:Nat):Int)):=by rw[cX,X2,J5 hx];rfl
end Fl
namespace Pf
open Fl Pu
section
variable {ZZ:ZM}{c:Nat}{os:ZU}{reach:Int}
theorem low_of(hp:0<ZZ.length)(hc:0<c)(hcm':c<=900)(hm':ZZ.length<=900)(h:∀r∈ZZ,r.length=c)(o:Ord ZZ.flatten os):
  ∃E,Low (ZZ.length*c) (gJ ZZ.length c reach) (rk os) E/\Pf.gT ZZ reach=some (flL (ZZ.length*c) E):=by
 have ZR:ZZ.flatten.length=ZZ.length*c:=br h;have hcm:c<=1000:=by lia
 have hm:ZZ.length<=1000:=by lia
 have hb':ZZ.length*c<=900*900:=J4 hm' hcm';have hb:ZZ.length*c<=1000000:=aR (J4 hm hcm) (by decide);have nbn:∀x,∀y∈gJ ZZ.length c reach x,y<ZZ.length*c:=λx y hy=>(g8.mp hy).1;have H:∀x,x<ZZ.length*c->∃e:Nat,Pf.cn ZZ (cl<|gJ ZZ.length c reach x++[x])=some (e:Int)/\e∈gJ ZZ.length c reach x++[x]/\∀y∈gJ ZZ.length c reach x++[x],rk os e<=rk os y:=λx hx =>
  iU hc hcm h o (λy hy=>(V4.mp hy).elim (nbn x y) λz=>by rw[Y5.mp z];exact hx) (by simp)
 obtain⟨E,hE⟩:∃E:Nat->Nat,∀x,x<ZZ.length*c->Pf.cn ZZ (cl<|gJ ZZ.length c reach x++[x])=some (E x:Int)/\E x∈gJ ZZ.length c reach x++[x]/\∀y∈gJ ZZ.length c reach x++[x],rk os (E x)<=rk os y :=
  skol H
 have mem:∀x,x<ZZ.length*c->E x=x\/E x∈gJ ZZ.length c reach x:=λx hx=>(V4.mp (hE x hx).2.1).elim .inr λz=>.inl<|Y5.mp z;have lt:∀x,x<ZZ.length*c->E x<ZZ.length*c:=λx hx=>(mem x hx).elim (λe=>by rw[e];exact hx) (nbn x _);refine⟨E,⟨mem,λx hx=>⟨(hE x hx).2.2 x (X1 _<|.head _),λy hy=>(hE x hx).2.2 y (P8 _ hy)⟩,lt,λx hx ne=>?_⟩,?_⟩
 ·have le:=(hE x hx).2.2 x (X1 _<|.head _);refine Nat.lt_of_le_of_ne le λz=>ne ?_;exact Ord.inj o (E x) x (by rw[ZR];exact lt x hx) (by rw[ZR];exact hx) z
 ·unfold Pf.gT;rw[fh hp hcm hm h,cT,cx (g:=fun y:Int=>if E y.toNat=y.toNat then none else some ((E y.toNat:Nat):Int)) (by rw[bE,U1];exact hb) λy hy=>?_]
  ·unfold cl flL;rw[T4];rfl
  ·obtain⟨x,hx,rfl⟩:=eQ.mp hy;have hx:=M5.mp hx;unfold Pf.mK;have e1:Pu.cat (cl<|gJ ZZ.length c reach x) [(x:Int)]=some (cl<|gJ ZZ.length c reach x++[x]):=by rw[BK (by rw[bE];exact aR (Nat.add_le_add_right (jO _ _ _ _) 1) (by lia))];unfold cl;rw[U4];rfl
   rw[fT hp h,cT,gF hc hcm hm hx,cT,e1,cT,(hE x hx).1,cT,W0];congr 1;by_cases q:E x=x
   ·rw[if_pos (by simp[q]),if_pos q]
   ·rw[if_neg (by simp;lia),if_neg q]
theorem sB(hp:0<ZZ.length)(hc:0<c)(hcm':c<=900)(hm':ZZ.length<=900)(h:∀r∈ZZ,r.length=c)(ho:Pf.bj ZZ=some (cl os))(o:Ord ZZ.flatten os){E:ZL}(L:Low (ZZ.length*c) (gJ ZZ.length c reach) (rk os) E)(hf:Pf.gT ZZ reach=some (flL (ZZ.length*c) E)):
  Pf.dH ZZ reach=some (cl<|(X5<|ZZ.length*c).map (lH E<|ZZ.length*c)):=by
 have ZR:ZZ.flatten.length=ZZ.length*c:=br h;have hb':ZZ.length*c<=900*900:=J4 hm' hcm';have hK:∀x,x<ZZ.length*c->rk os x<=ZZ.length*c:=λx hx=>ci<|ZR▸o.rk_lt (by rw[ZR];exact hx);unfold Pf.dH;rw[hf,cT,ho,cT];refine fz (λi d=>d.length<=i/\∀y,y<ZZ.length*c->find d (y:Int)=if rk os y<i then some ((lH E (ZZ.length*c) y:Nat):Int) else none) ⟨bi _,λy a=>rfl⟩ ?_ λd hd=>?_
 ·intro i x d hx hd;unfold cl at hx;rw[X2]at hx;obtain⟨z,hz,rfl⟩:=U8.mp hx;have oz:=gG o hz;have hz':z<ZZ.length*c:=ZR▸oz.1;have il:i<ZZ.length*c:=by rw[<- oz.2,<- ZR];exact o.rk_lt oz.1
  have val:(((Pu.at_ (flL (ZZ.length*c) E) (z:Int)).bind λx6=>some<|x6.isNone).bind λx9=>if x9=true then some (z:Int) else ((Pu.at_ (flL (ZZ.length*c) E) (z:Int)).bind λx7=>x7).bind λx8=>Pu.find d x8)=some ((lH E (ZZ.length*c) z:Nat):Int):=by
   rw[flL_at hz',cT,cT];by_cases q:E z=z
   ·rw[if_pos q,if_pos (show Option.isNone none=true from rfl),sA L hK hz',if_pos q]
   ·rw[if_neg q,if_neg (by simp),cT,cT,hd.2 _ (L.lt z hz'),if_pos (by rw[<- oz.2];exact L.dn z hz' q)];rw[sA L hK hz',if_neg q]
  refine⟨_,by rw[val,cT,if_pos (by lia)],aR mN<|Nat.add_le_add_right hd.1 1,λy hy=>?_⟩;rw[kA];by_cases q:y=z
  ·rw[if_pos (by rw[q]),if_pos (by rw[q,oz.2];exact U2 _),q]
  ·have ne:¬ rk os y=i:=λe=>q<|Ord.inj o y z (by rw[ZR];exact hy) oz.1 (by rw[e,oz.2]);rw[if_neg (by lia),hd.2 y hy];by_cases w:rk os y<i
   ·rw[if_pos w,if_pos (R4 w)]
   ·rw[if_neg w,if_neg (by lia)]
 ·rw[fh hp (by lia) (by lia) h,cT,cx (g:=fun y:Int=>((lH E (ZZ.length*c) y.toNat:Nat):Int)) (by rw[bE,U1];lia) λy hy=>?_]
  ·unfold cl;rw[T4,T4];rfl
  ·obtain⟨z,hz,rfl⟩:=eQ.mp hy;have hz:=M5.mp hz;rw[hd.2 z hz,bE,o.len,if_pos (o.rk_lt (by rw[ZR];exact hz)),W0]
end
theorem pK(l:ZA):Pf.fQ l l=some true:=by
 unfold Pf.fQ;rw[if_neg (by simp),kr];rintro⟨a,b⟩ hp;have e:a=b:=uw hp;subst e;cases a with
 |none=>rfl
 |some a=>unfold Pf.ko;simp
end Pf
namespace Fl
open Pu
section
variable {α:Type}{d:List ((Int×Int)×α)}{k k':ZG}{v:α}
theorem dA(kv:(Int×Int)×α):bL (kv ::d) k=if kv.1=k then some kv.2 else bL d k:=by
 unfold bL;by_cases q:kv.1=k
 ·rw[List.find?_cons_of_pos (by simpa using q),if_pos q];rfl
 ·rw[List.find?_cons_of_neg (by simpa using q),if_neg q]
theorem gV:(∃v,bL d k=some v)↔k∈d.map (·.1):=by
 induction d with
 |nil=>exact⟨λ⟨_,z⟩=>(nomatch z),λh=>(nomatch h)⟩
 |cons kv d ih =>
  rw[dA,W5,Y4];by_cases q:kv.1=k
  ·rw[if_pos q];exact⟨λx=>.inl q.symm,λx=>⟨_,rfl⟩⟩
  ·rw[if_neg q,ih];exact⟨.inr,λh=>h.elim (λz=>absurd z.symm q) id⟩
theorem zu:bL (d.map λkv=>if kv.1=k then (kv.1,v) else kv) k'=if k'=k then (bL d k).map (λx=>v) else bL d k':=by
 induction d with
 |nil=>by_cases q:k'=k<;>simp[q]<;>rfl
 |cons kv d ih =>
  rw[W5,dA,dA,dA,ih];by_cases q:kv.1=k
  ·rw[if_pos q,if_pos q];by_cases w:k'=k
   ·rw[if_pos (show (kv.1,v).1=k' by rw[w];exact q),if_pos w];rfl
   ·rw[if_neg (show ¬ (kv.1,v).1=k' from λz=>w<|z.symm.trans q),if_neg w,if_neg w,if_neg λz=>w<|z.symm.trans q]
  ·rw[if_neg q,if_neg q];by_cases w:k'=k
   ·rw[if_pos w,if_pos w,w,if_neg q]
   ·rw[if_neg w,if_neg w]
theorem zv:bL (d++[(k,v)]) k'=(bL d k').or (if k'=k then some v else none):=by
 induction d with
 |nil =>
  rw[List.nil_append,dA];by_cases q:k'=k
  ·rw[if_pos q,if_pos q.symm];rfl
  ·rw[if_neg q,if_neg (R6 q)];rfl
 |cons kv d ih =>
  rw[List.cons_append,dA,dA,ih];by_cases q:kv.1=k'
  ·rw[if_pos q,if_pos q];rfl
  ·rw[if_neg q,if_neg q]
theorem anyT:(d.any λkv=>decide<|kv.1=k)=true↔k∈d.map (·.1):=by rw[G4,W6];exact⟨λ⟨x,hx,e⟩=>⟨x,hx,of_decide_eq_true e⟩,λ⟨x,hx,e⟩=>⟨x,hx,decide_eq_true e⟩⟩
theorem oJ:bL (og d k v) k'=if k'=k then some v else bL d k':=by
 unfold og;by_cases q:k∈d.map (·.1)
 ·rw[if_pos (anyT.mpr q),zu];obtain⟨u,e⟩:=gV.mpr q;rw[e];rfl
 ·rw[if_neg λz=>q<|anyT.mp z,zv];by_cases w:k'=k
  ·rw[if_pos w,if_pos w];cases e:bL d k' with
   |none=>rfl
   |some u=>exact absurd (gV.mp ⟨u,e⟩)<|w▸q
  ·rw[if_neg w,if_neg w];cases bL d k'<;>rfl
theorem putT_nd(h:(d.map (·.1)).Nodup):((og d k v).map (·.1)).Nodup:=by
 unfold og;by_cases q:k∈d.map (·.1)
 ·rw[if_pos (anyT.mpr q),T4];have e:((fun x:(Int×Int)×α=>x.1) ∘ λkv=>if kv.1=k then (kv.1,v) else kv)=λx=>x.1:=by funext kv;show (if kv.1=k then (kv.1,v) else kv).1=kv.1;split<;>rfl
  rw[e];exact h
 ·rw[if_neg λz=>q<|anyT.mp z,U4,W5,List.map_nil,List.nodup_append];refine⟨h,by simp,λa ha b hb e=>?_⟩;rw[Y5]at hb;exact q (by rw[e,hb]at ha;exact ha)
theorem C2:(og d k v).length<=d.length+1:=by
 unfold og;split
 ·rw[Z8];exact Q2 _
 ·rw[Y9];exact bi _
theorem C3:(oo d k v).length<=d.length+1:=by
 unfold oo;split
 ·exact Q2 _
 ·exact C2
structure Best(ρ:ZL)(val:Nat->α)(S:Int×Int->Nat->Prop)(d:List ((Int×Int)×α)):Prop where
 nd:(d.map (·.1)).Nodup
 so:∀k v,bL d k=some v->∃w,v=val w/\S k w/\∀w',S k w'->ρ w<=ρ w'
 no:∀k,bL d k=none->∀w,¬ S k w
variable {ρ:ZL}{val:Nat->α}{S S':Int×Int->Nat->Prop}
theorem Best.nil(h:∀k w,¬ S k w):Best ρ val S []:=⟨List.nodup_nil,λx x z=>(nomatch z),λk x=>h k⟩
theorem Best.same(b:Best ρ val S d)(h:∀k w,S k w↔S' k w):Best ρ val S' d :=
 ⟨b.nd,λk v e=>cM (b.so k v e) λw h1 h2 h3=>⟨w,h1,(h k w).mp h2,λw' z=>h3 w'<|(h k w').mpr z⟩,λk e w z=>b.no k e w<|(h k w).mpr z⟩
theorem Best.put(b:Best ρ val S d)(hs:S k w\/w=w0)(h0:ρ w<=ρ w0)(hm:∀w',S k w'->ρ w<=ρ w'):Best ρ val (λk' w'=>S k' w'\/(k'=k/\w'=w0)) (og d k<|val w):=by
 refine⟨putT_nd b.nd,λk' v e=>?_,λk' e w' z=>?_⟩
 ·rw[oJ]at e;by_cases q:k'=k
  ·rw[if_pos q]at e;refine⟨w,(Z5 e).symm,hs.elim (λz=>.inl<|q▸z) λz=>.inr ⟨q,z⟩,λw' z=>?_⟩;rcases z with z|⟨_,z⟩
   ·exact hm w'<|q▸z
   ·rw[z];exact h0
  ·rw[if_neg q]at e;refine cM (b.so k' v e) λw2 h1 h2 h3=>⟨w2,h1,.inl h2,λw' z=>?_⟩;rcases z with z|z
   ·exact h3 w' z
   ·exact absurd z.1 q
 ·rw[oJ]at e;by_cases q:k'=k
  ·rw[if_pos q]at e;cases e
  ·rw[if_neg q]at e;rcases z with z|z
   ·exact b.no k' e w' z
   ·exact q z.1
set_option tactic.hygienic true in
theorem Best.dflt(b:Best ρ val S d)(h0:∀w',S k w'->ρ w'<=ρ w0):Best ρ val (λk' w'=>S k' w'\/(k'=k/\w'=w0)) (oo d k<|val w0):=by
 unfold oo;split
 ·rename_i v e;refine⟨b.nd,λk' v' e'=>?_,λk' e' w' z=>?_⟩
  ·refine cM (b.so k' v' e') λw2 h1 h2 h3=>⟨w2,h1,.inl h2,λw' z=>?_⟩;rcases z with z|⟨z1,z2⟩
   ·exact h3 w' z
   ·rw[z2];exact h0 w2<|z1▸h2
  ·rcases z with z|⟨z1,z2⟩
   ·exact b.no k' e' w' z
   ·rw[z1,e]at e';cases e'
 ·rename_i e;exact b.put (.inr rfl) (bi _) λw' z=>absurd z<|b.no k e w'
end
end Fl
namespace Pf
open Fl Pu
def Prs(nb:Zk)(ρ bot:ZL)(z:Nat)(k:ZG):Prop:=∃y,y∈nb z/\ρ y<ρ z/\bot y≠bot z/\k=(Pu.mn (bot z:Int) (bot y:Int),Pu.mx (bot z:Int) (bot y:Int))
abbrev pN(n:Nat)(bot:ZL):List Int:=cl<|(X5 n).map bot
theorem xX{bot:ZL}(hx:x<n):Pu.at_ (pN n bot) (x:Int)=some ((bot x:Nat):Int):=by rw[cX,X2,X2,J5 hx];rfl
section
variable {ZZ:ZM}{c:Nat}{os:ZU}{reach:Int}{bot:ZL}
theorem uy(hp:0<ZZ.length)(hc:0<c)(hcm:c<=900)(hm:ZZ.length<=900)(h:∀r∈ZZ,r.length=c)(o:Ord ZZ.flatten os)(hz:z<ZZ.length*c):
  ∃ps,Pf.pairs_at ZZ reach (pN (ZZ.length*c) bot) (z:Int)=some ps/\ps.length<=ZZ.length*c/\∀k,k∈ps↔Prs (gJ ZZ.length c reach) (rk os) bot z k:=by
 have ZR:ZZ.flatten.length=ZZ.length*c:=br h;have hb:ZZ.length*c<=900*900:=J4 hm hcm;have nbn:∀y∈gJ ZZ.length c reach z,y<ZZ.length*c:=λy hy=>(g8.mp hy).1;have nl:=jO ZZ.length c reach z;have e1:Pu.cw (λ(y6:Int)=>Pf.cS ZZ y6 (z:Int)) (λ(y6:Int)=>Pu.at_ (pN (ZZ.length*c) bot) y6) (cl<|gJ ZZ.length c reach z)=some (((cl<|gJ ZZ.length c reach z).filter λy=>decide<|rk os y.toNat<rk os z).map λy=>((bot y.toNat:Nat):Int)):=by
  refine fD (by rw[bE];lia) (λy hy=>?_) λy hy a=>?_
  ·obtain⟨x,hx,rfl⟩:=eQ.mp hy;rw[m7 hc (by lia) h (nbn x hx) hz,W0,<- mM hc h (nbn x hx),<- mM hc h hz];congr 1;rw[V5,decide_eq_true_eq];exact(o.lt_iff (by rw[ZR];exact nbn x hx) (by rw[ZR];exact hz)).symm
  ·obtain⟨x,hx,rfl⟩:=eQ.mp hy;rw[xX (nbn x hx),W0]
 have e2:∀l:List Int,l.length<=1000000->Pu.cw (λ(y9:Int)=>some<|!decide (y9=((bot z:Nat):Int))) (λ(y9:Int)=>some<|(Pu.mn ((bot z:Nat):Int) y9,Pu.mx ((bot z:Nat):Int) y9)) l=some ((l.filter λy=>!decide (y=((bot z:Nat):Int))).map λy=>(Pu.mn ((bot z:Nat):Int) y,Pu.mx ((bot z:Nat):Int) y)):=λl hl =>
  fD hl (λa a=>rfl) λa a a=>rfl
 have l1:(((cl<|gJ ZZ.length c reach z).filter λy=>decide<|rk os y.toNat<rk os z).map λy=>((bot y.toNat:Nat):Int)).length<=ZZ.length*c:=by rw[Z8];exact aR (T8 _ _) (by rw[bE];exact nl)
 refine⟨_,by unfold Pf.pairs_at;rw[xX hz,cT,fT hp h,cT,gF hc (by lia) (by lia) hz,cT,e1,cT,e2 _ (by lia)],?_,λk=>?_⟩
 ·rw[Z8];exact aR (T8 _ _) l1
 ·rw[W6]
  constructor
  ·intro h;obtain⟨b,hb,ek⟩:=h;obtain⟨hb,nb⟩:=S6.mp hb;obtain⟨y,hy,ey⟩:=W6.mp hb;obtain⟨hy,ly⟩:=S6.mp hy;obtain⟨x,hx,rfl⟩:=eQ.mp hy;rw[W0]at ly ey;subst ey;exact⟨x,hx,of_decide_eq_true ly,λz=>by rw[z]at nb;simp at nb,ek.symm⟩
  ·intro h;refine lS h λy hy ly ny ek=>⟨((bot y:Nat):Int),S6.mpr ⟨W6.mpr ⟨(y:Int),S6.mpr ⟨oG.mpr hy,by rw[W0];exact decide_eq_true ly⟩,by rw[W0]⟩,?_⟩,ek.symm⟩;rw[Bool.not_eq_true',decide_eq_false_iff_not];exact λe=>ny<|Int.ofNat_inj.mp e
abbrev SL(n:Nat)(nb:Zk)(ρ bot:ZL):Int×Int->Nat->Prop:=λk z=>z<n/\Prs nb ρ bot z k
theorem C4(hp:0<ZZ.length)(hc:0<c)(hcm:c<=12)(hm:ZZ.length<=12)(h:∀r∈ZZ,r.length=c)(o:Ord ZZ.flatten os){T:Type}{P:T->Prop}{kk:List ((Int×Int)×Int)->Option T}(hk:∀d,Best (rk os) (λz=>(z:Int)) (SL (ZZ.length*c) (gJ ZZ.length c reach) (rk os) bot) d->d.length<=144*144->∃t,kk d=some t/\P t):
  ∃t,(Pu.bB (λ(s5:(List<|(Int×Int)×Int)) (x4:Int)=>(Pf.pairs_at ZZ reach (pN (ZZ.length*c) bot) x4).bind λx10=>(Pu.bB (λ(s7:(List<|(Int×Int)×Int)) (x6:Zu)=>if (s7).length<16777216 then (λfound9=>some<|found9) (Pu.oo s7 x6 x4) else none) x10 s5).bind λ(s7:(List<|(Int×Int)×Int))=>some<|s7) (cl os)<|[]).bind kk=some t/\P t:=by
 have ZR:ZZ.flatten.length=ZZ.length*c:=br h;have hb:ZZ.length*c<=144:=J4 hm hcm;refine ku (λi d=>Best (rk os) (λz=>(z:Int)) (λk z=>(z<ZZ.length*c/\rk os z<i)/\Prs (gJ ZZ.length c reach) (rk os) bot z k) d/\d.length<=i*144) ⟨Best.nil λk w z=>absurd z.1.2<|K3 _,U5 _⟩ ?_ λd hd=>?_
 ·intro i x d hx hd;rw[X2]at hx;obtain⟨z,hz,rfl⟩:=U8.mp hx;have oz:=gG o hz;have hz':z<ZZ.length*c:=ZR▸oz.1;have il:i<ZZ.length*c:=by rw[<- oz.2,<- ZR];exact o.rk_lt oz.1
  obtain⟨ps,eps,lps,mps⟩:=uy (reach:=reach) (bot:=bot) hp hc (by lia) (by lia) h o hz';rw[eps,cT];refine ku (λj d'=>Best (rk os) (λz=>(z:Int)) (λk w=>((w<ZZ.length*c/\rk os w<i)/\Prs (gJ ZZ.length c reach) (rk os) bot w k)\/(k∈ps.take j/\w=z)) d'/\d'.length<=d.length+j) ⟨hd.1.same λk w=>⟨.inl,λq=>q.elim id λz=>absurd z.1 (by simp)⟩,bi _⟩ ?_ λd' hd'=>⟨_,rfl,hd'.1.same λk w=>?_,?_⟩
  ·intro j p d' hj hd';have hjl:j<ps.length:=(Z7.mp hj).1;have ln:d'.length<16777216:=by lia
   refine⟨_,if_pos ln,(hd'.1.dflt (k:=p) (w0:=z) λw' q=>?_).same λk w=>?_,aR C3 (by lia)⟩
   ·rcases q with q|q
    ·rw[oz.2];exact ci q.1.2
    ·rw[q.2];exact bi _
   ·rw[List.take_add_one,hj,Option.toList_some,V4,Y5]
    constructor
    ·rintro((q|q)|q)
     ·exact .inl q
     ·exact .inr ⟨.inl q.1,q.2⟩
     ·exact .inr ⟨.inr q.1,q.2⟩
    ·rintro(q|⟨q|q,w⟩)
     ·exact .inl<|.inl q
     ·exact .inl<|.inr ⟨q,w⟩
     ·exact .inr ⟨q,w⟩
  ·rw[O6,mps]
   constructor
   ·rintro(q|⟨q,rfl⟩)
    ·exact⟨⟨q.1.1,R4 q.1.2⟩,q.2⟩
    ·exact⟨⟨hz',by rw[oz.2];exact U2 _⟩,q⟩
   ·intro q;by_cases e:rk os w<i
    ·exact .inl ⟨⟨q.1.1,e⟩,q.2⟩
    ·have e2:w=z:=Ord.inj o w z (by rw[ZR];exact q.1.1) oz.1 (by have:=q.1.2;rw[oz.2];lia);exact .inr ⟨e2▸q.2,e2⟩
  ·have:=hd'.2;have:=hd.2;lia
 ·rw[bE,o.len,ZR]at hd;refine hk d (hd.1.same λk w=>⟨λq=>⟨q.1.1,q.2⟩,λq=>⟨⟨q.1,by rw[<- ZR];exact o.rk_lt (by rw[ZR];exact q.1)⟩,q.2⟩⟩) (by have:=hd.2;exact aR this<|R9 _ hb)
abbrev lnsP(d:List ((Int×Int)×Int)):List (Int×Int×Int):=(iM<|d.map (·.1)).map λp=>(p.1,p.2,(bL d p).getD 0)
theorem uz(hp:0<ZZ.length)(hc:0<c)(hcm:c<=12)(hm:ZZ.length<=12)(h:∀r∈ZZ,r.length=c)(ho:Pf.bj ZZ=some (cl os))(o:Ord ZZ.flatten os)(hb:Pf.dH ZZ reach=some (pN (ZZ.length*c) bot)):
  ∃ls,Pf.gU ZZ reach=some ls/\∃d,Best (rk os) (λz=>(z:Int)) (SL (ZZ.length*c) (gJ ZZ.length c reach) (rk os) bot) d/\d.length<=144*144/\ls=lnsP d:=by
 unfold Pf.gU;rw[hb,cT,ho,cT];refine C4 hp hc hcm hm h o λd b l=>?_;have e1:Pu.ie (d.map (·.1))=some (iM<|d.map (·.1)):=by unfold Pu.ie;rw[if_pos ⟨by rw[Z8];exact eU l (by decide),b.nd⟩]
 have e2:Pu.comp (λ(y11:Zu)=>((Pu.bL d y11).bind λx12=>some<|(x12)).bind λx13=>some<|(y11.1,y11.2,x13)) (iM<|d.map (·.1))=some (lnsP d):=by refine cx (by rw[(cO _).length_eq,Z8];exact aR l (by decide)) λp hp=>?_;obtain⟨v,e⟩:=gV.mpr<|(cO _).mem_iff.mp hp;rw[e];rfl
 exact⟨_,by rw[e1,cT,e2],d,b,l,rfl⟩
end
end Pf
namespace Pu
theorem ddS(acc:ZW)(a:Int)(h:acc.Nodup):(je acc a).Nodup/\(je acc a).length<=acc.length+1/\∀x,x∈je acc a↔x∈acc\/x=a:=by
 unfold je;by_cases q:a∈acc
 ·rw[if_pos (show (acc.any λx=>x==a)=true from G4.mpr ⟨a,q,beq_self_eq_true a⟩)];exact⟨h,Q2 _,λx=>⟨.inl,λz=>z.elim id λz=>z▸q⟩⟩
 ·rw[if_neg (show ¬ (acc.any λx=>x==a)=true from λz=>aU (G4.mp z) λy hy e=>q<|(show y=a from eq_of_beq e)▸hy)];exact⟨List.nodup_append.mpr ⟨h,List.nodup_cons.mpr ⟨(λz=>nomatch z),List.nodup_nil⟩,λx hx y hy e=>q<|Y5.mp hy▸e▸hx⟩,by rw[Y9];exact bi _,λx=>by rw[V4,Y5]⟩
theorem ddA:∀(l acc:ZW),acc.Nodup->(l.foldl je acc).Nodup/\(l.foldl je acc).length<=acc.length+l.length/\∀x,x∈l.foldl je acc↔x∈acc\/x∈l:=by
 intro l;induction l with
 |nil=>exact λacc h=>⟨h,bi _,λx=>⟨.inl,λz=>z.elim id λz=>nomatch z⟩⟩
 |cons a l ih =>
  intro acc h;refine zI (ddS acc a h) λh1 h2 h3=>zI (ih _ h1) λg1 g2 g3=>⟨g1,?_,λx=>(g3 x).trans ?_⟩
  ·rw[List.foldl_cons,V9];lia
  ·rw[h3 x,Y4,or_assoc]
end Pu
namespace Fl
open Pu Gr
section
variable {n:Nat}{nb:Zk}{ρ:ZL}{E:ZL}
theorem C5{A:ZK}(L:Low n nb ρ E)(hA:∀x,x<n->∀y∈nb x,A x y):∀(k x:Nat),x<n->ρ x<=k->E (lH E k x)=lH E k x/\ρ (lH E k x)<=ρ x/\Rch A (Lv n ρ<|ρ x+1) x (lH E k x):=by
 intro k;induction k with
 |zero=>exact λx hx h=>⟨Classical.byContradiction λz=>K3 _<|cf (L.dn x hx z) h,bi _,.here⟩
 |succ k ih =>
  intro x hx h;unfold lH;by_cases e:E x=x
  ·rw[if_pos e];exact⟨e,bi _,.here⟩
  ·rw[if_neg e];have d:=L.dn x hx e;have i:=ih (E x) (L.lt x hx)<|M1<|cf d h;exact⟨i.1,aR i.2.1<|ci d,Rch.trans (.on .here (hA x hx _<|(L.mem x hx).resolve_left e) ⟨L.lt x hx,R4 d⟩) (i.2.2.mono λa b h1 h2=>⟨h1,h2.1,cf h2.2<|K6<|ci d⟩)⟩
theorem C6(e:E x=x):lH E k x=x:=by
 cases k with
 |zero=>rfl
 |succ k=>exact if_pos e
end
structure Bots(A:ZK)(n:Nat)(ρ bot:ZL):Prop where
 lt:∀x,x<n->bot x<n
 id:∀x,x<n->bot (bot x)=bot x
 run:∀x,x<n->Rch A (Lv n ρ<|ρ x+1) x (bot x)
theorem bots_of{A:ZK}{nb:Zk}{ρ:ZL}{E:ZL}(L:Low n nb ρ E)(hA:∀x,x<n->∀y∈nb x,A x y)(hK:∀x,x<n->ρ x<=n):Bots A n ρ (lH E n) :=
 ⟨λx hx=>bon_lt L n x hx,λx hx=>C6 (C5 L hA n x hx<|hK x hx).1,λx hx=>(C5 L hA n x hx<|hK x hx).2.2⟩
theorem mnx(a b:Nat):(Pu.mn (a:Int) b,Pu.mx (a:Int) b)=((a:Int),(b:Int))\/(Pu.mn (a:Int) b,Pu.mx (a:Int) b)=((b:Int),(a:Int)):=by
 unfold Pu.mn Pu.mx;by_cases h:(b:Int)<a
 ·rw[if_pos h,if_neg (by lia)];exact .inr rfl
 ·rw[if_neg h];by_cases h2:(b:Int) > a
  ·rw[if_pos h2];exact .inl rfl
  ·rw[if_neg h2];have:(a:Int)=b:=by lia
   rw[this];exact .inl rfl
end Fl
namespace Gr
section
variable {A:ZK}{n k:Nat}{ρ:ZL}{home:Zs}{par:ZC}
theorem UF.joint(sy:∀a b,A a b->A b a)(inj:∀x y,x<n->y<n->ρ x=ρ y->x=y)(u:UF A n ρ k home par)(h:Rch A (Lv n ρ k) p q)(hp:home p=some s)(hq:home q=some t)(l:Liv par s r):Liv par t r :=
 aU (u.liv p s hp) λr1 l1 f1=>aU (u.liv q t hq) λr2 l2 f2=>by rw[l.det l1,(f1.of_rch sy (u.dom p (by rw[hp];exact nofun)) h).same inj f2];exact l2
end
end Gr
namespace Fl
open Pu Gr
structure Lns(A:ZK)(n:Nat)(ρ bot:ZL)(ls:Zv):Prop where
 at_:∀t∈ls,∃w z:Nat,w<n/\A w z/\ρ z<ρ w/\(t=((bot w:Int),(bot z:Int),(w:Int))\/t=((bot z:Int),(bot w:Int),(w:Int)))
 cross:∀x y,A x y->ρ y<ρ x->bot y≠bot x->∃w:Nat,w<n/\ρ w<=ρ x/\(((bot x:Int),(bot y:Int),(w:Int))∈ls\/((bot y:Int),(bot x:Int),(w:Int))∈ls)
 own:∀x y,A x y->ρ y<ρ x->∃z,A x z/\ρ z<ρ x/\bot z=bot x
 dom:∀x y,A x y->x<n/\y<n
 sy:∀a b,A a b->A b a
 inj:∀x y,x<n->y<n->ρ x=ρ y->x=y
def tells(ls:Zv)(x:Int):List Int:=(ls.filter λt=>decide<|t.2.2=x).flatMap λt=>[t.1,t.2.1]
theorem ja:v∈tells ls x↔∃t,t∈ls/\t.2.2=x/\(v=t.1\/v=t.2.1):=by
 unfold tells;rw[List.mem_flatMap]
 constructor
 ·exact λ⟨t,h1,h2⟩=>⟨t,(S6.mp h1).1,of_decide_eq_true (S6.mp h1).2,by simpa using h2⟩
 ·exact λ⟨t,h1,h2,h3⟩=>⟨t,S6.mpr ⟨h1,decide_eq_true h2⟩,by simpa using h3⟩
theorem zw(ls:Zv)(t:Int×Int×Int)(x:Int):tells (ls++[t]) x=if t.2.2=x then tells ls x++[t.1,t.2.1] else tells ls x:=by
 unfold tells;rw[List.filter_append,List.flatMap_append];by_cases e:t.2.2=x
 ·rw[if_pos e,List.filter_cons_of_pos (by simpa using e)];rfl
 ·rw[if_neg e,List.filter_cons_of_neg (by simpa using e)];exact W9 _
theorem qq(ls:Zv)(x:Int):(tells ls x).length<=2*ls.length:=by
 have:∀l:List (Int×Int×Int),(l.flatMap λt=>[t.1,t.2.1]).length=2*l.length:=λl=>by
  induction l with
  |nil=>rfl
  |cons a l ih=>rw[List.flatMap_cons,Y9,ih,V9];exact(Nat.add_comm 2 _).trans (Nat.mul_succ 2 _).symm
 unfold tells;rw[this];exact Nat.mul_le_mul_left 2<|T8 _ _
section
variable {A:ZK}{n k:Nat}{ρ bot:ZL}{ls:Zv}{home:Zs}{par:ZC}
theorem Lns.line(B:Bots A n ρ bot)(L:Lns A n ρ bot ls)(hw:w<n)(a:A w z)(lt:ρ z<ρ w):Rch A (Lv n ρ<|ρ w+1) (bot w) (bot z) :=
 ((B.run w hw).symm L.sy ⟨hw,U2 _⟩).trans (.trans (.on .here a ⟨(L.dom w z a).2,R4 lt⟩)<|(B.run z (L.dom w z a).2).upto (K6<|ci lt))
theorem Bots.le(B:Bots A n ρ bot)(hx:x<n):ρ (bot x)<=ρ x:=M1 ((B.run x hx).ok_ ⟨hx,U2 _⟩).2
theorem Lns.told(B:Bots A n ρ bot)(L:Lns A n ρ bot ls)(hx:x<n):∃hs:List Nat,tells ls (x:Int)=cl hs/\(∀s∈hs,∃z,A x z/\ρ z<ρ x/\s=bot z)/\(hs=[]\/bot x∈hs) /\
  ∀y,A x y->ρ y<ρ x->bot y∈hs\/Rch A (Lv n ρ<|ρ x) (bot x) (bot y):=by
 have at_:∀t∈ls,t.2.2=(x:Int)->∃z:Nat,A x z/\ρ z<ρ x/\(t=((bot x:Int),(bot z:Int),(x:Int))\/t=((bot z:Int),(bot x:Int),(x:Int))):=λt ht e=>oq24 (L.at_ t ht) λw z c h2 h3 h4=>by have ew:w=x:=h4.elim (λq=>N7 (by rw[q]at e;exact e)) λq=>N7 (by rw[q]at e;exact e);subst ew;exact⟨z,h2,h3,h4⟩
 have all:∀v∈tells ls (x:Int),∃z,A x z/\ρ z<ρ x/\v=((bot z:Nat):Int):=λv hv=>cM (ja.mp hv) λt h1 h2 h3=>cM (at_ t h1 h2) λz a lt h4=>cM (L.own x z a lt) λz' a' lt' e'=>by
  rcases h4 with q|q<;>rw[q]at h3<;>rcases h3 with h3|h3
  ·exact⟨z',a',lt',by rw[e'];exact h3⟩
  ·exact⟨z,a,lt,h3⟩
  ·exact⟨z,a,lt,h3⟩
  ·exact⟨z',a',lt',by rw[e'];exact h3⟩
 have ecl:tells ls (x:Int)=cl ((tells ls (x:Int)).map Int.toNat):=by
  unfold cl;rw[T4]
  conv=>lhs;rw[<- List.map_id (tells ls (x:Int))]
  exact T6 λv hv=>cM (all v hv) λz c c e=>by rw[e];rfl
 have mem:∀s:Nat,s∈(tells ls (x:Int)).map Int.toNat↔(s:Int)∈tells ls (x:Int):=λs=>by
  conv=>rhs;rw[ecl]
  exact oG.symm
 refine⟨(tells ls (x:Int)).map Int.toNat,ecl,λs hs=>cM (all _<|(mem s).mp hs) λz a lt e=>⟨z,a,lt,N7 e⟩,?_,λy a lt=>?_⟩
 ·cases q:tells ls (x:Int) with
  |nil=>exact .inl rfl
  |cons v l =>
   rw[<- q,mem];refine .inr (cM (ja.mp (q▸U0:v∈tells ls (x:Int))) λt h1 h2 c=>cM (at_ t h1 h2) λz c c h4=>ja.mpr ⟨t,h1,h2,?_⟩);rcases h4 with q|q<;>rw[q]
   ·exact .inl rfl
   ·exact .inr rfl
 ·by_cases e:bot y=bot x
  ·rw[e];exact .inr .here
  obtain⟨w,hw,le,h⟩:=L.cross x y a lt e;by_cases ew:w=x
  ·subst ew;refine .inl<|(mem _).mpr (ja.mpr (h.elim (λq=>⟨_,q,rfl,.inr rfl⟩) λq=>⟨_,q,rfl,.inl rfl⟩))
  ·refine .inr ?_;have ltw:ρ w<ρ x:=Nat.lt_of_le_of_ne le λz=>ew<|L.inj w x hw hx z;have key:∀{a b:Nat},((a:Int),(b:Int),(w:Int))∈ls->Rch A (Lv n ρ<|ρ x) a b:=λ{a b} q=>oq24 (L.at_ _ q) λw' z h1 h2 h3 h4=>by
    have r:=(L.line B h1 h2 h3);rcases h4 with q|q
    ·have e1:a=bot w':=N7<|congrArg (fun t:Int×Int×Int=>t.1) q;have e2:b=bot z:=N7<|congrArg (fun t:Int×Int×Int=>t.2.1) q;have e3:w=w':=N7<|congrArg (fun t:Int×Int×Int=>t.2.2) q;rw[e1,e2];exact r.upto<|e3▸ltw
    ·have e1:a=bot z:=N7<|congrArg (fun t:Int×Int×Int=>t.1) q;have e2:b=bot w':=N7<|congrArg (fun t:Int×Int×Int=>t.2.1) q;have e3:w=w':=N7<|congrArg (fun t:Int×Int×Int=>t.2.2) q;rw[e1,e2];exact(r.symm L.sy ⟨B.lt w' h1,Nat.lt_succ_of_le<|B.le h1⟩).upto (e3▸ltw)
   have hy:=(L.dom x y a).2;exact h.elim key λq=>(key q).symm L.sy ⟨B.lt y hy,eU (B.le hy) lt⟩
theorem Lns.no(B:Bots A n ρ bot)(L:Lns A n ρ bot ls)(a:A x y)(lt:ρ y<ρ x):bot x≠x:=λe=>cM (L.own x y a lt) λz a' lt' e'=>O7 _<|eU (show ρ x<=ρ z from (e'.trans e)▸B.le (L.dom x z a').2) lt'
theorem Lns.hom(B:Bots A n ρ bot)(L:Lns A n ρ bot ls)(u:UF A n ρ k home par)(hx:Lv n ρ k x):home x=some x↔bot x=x:=by
 obtain⟨s,hs⟩:=u.has x hx;have f:=u.hm x s hs
 constructor
 ·intro e;have es:s=x:=Z5<|hs.symm.trans e;have m:=f.min _<|B.run x hx.1;rw[es]at m;exact L.inj _ _ (B.lt x hx.1) hx.1<|T9 (B.le hx.1) m
 ·intro e;rcases f.rch.newc L.sy L.inj hx.1 rfl with z|z
  ·rw[hs,z]
  ·exact cM z λo a lo b=>absurd e<|L.no B a lo.2
theorem C7(B:Bots A n ρ bot)(L:Lns A n ρ bot ls)(u:UF A n ρ k home par)(hx:x<n)(hr:ρ x=k)(h1:∀s∈hs,∃z,A x z/\ρ z<ρ x/\s=bot z)(h2:hs=[]\/bot x∈hs)(h3:∀y,A x y->ρ y<ρ x->bot y∈hs\/Rch A (Lv n ρ<|ρ x) (bot x) (bot y)):
  (∀s∈hs,home s=some s)/\(hs=[]->∃home',UF A n ρ (k+1) home' par)/\∀(met:ZU) (elder:Nat),hs≠[]->(∀s∈hs,∃r,r∈met/\Liv par s r)->(∀r∈met,∃s,s∈hs/\Liv par s r)->elder∈met->(∀r∈met,ρ elder<=ρ r) ->
   ∃home',UF A n ρ (k+1) home' (λs=>if s∈met/\s≠elder then some (x,elder) else par s):=by
 rw[hr]at h1 h3;have hb:∀z,A x z->ρ z<k->home (bot z)=some (bot z):=λz a lt=>(L.hom B u ⟨B.lt z (L.dom x z a).2,eU (B.le (L.dom x z a).2) lt⟩).mpr (B.id z (L.dom x z a).2);have up:∀z,A x z->ρ z<k->Rch A (Lv n ρ k) z (bot z):=λz a lt=>(B.run z (L.dom x z a).2).upto lt;have dn:∀z,A x z->ρ z<k->Rch A (Lv n ρ k) (bot z) z:=λz a lt=>(up z a lt).symm L.sy ⟨(L.dom x z a).2,lt⟩;have early:∀o s,home o=some s->ρ o<k:=λo s h=>(u.dom o (by rw[h];exact nofun)).2;refine⟨λs h=>cM (h1 s h) λz a lt e=>by rw[e];exact hb z a lt,λe=>?_,λmet elder ne g2 g3 g4 g5=>?_⟩
 ·by_cases ex:∃y,A x y/\ρ y<k
  ·obtain⟨y,a,lt⟩:=ex;obtain⟨z,az,lz,ez⟩:=L.own x y a<|hr.symm▸lt;rw[hr]at lz;refine aU (u.liv _ _<|hb z az lz) λr0 l0 c=>⟨λy=>if y=x then some r0 else home y,?_⟩;refine u.meet L.sy L.inj (met:=[r0]) (elder:=r0) hx hr (λo s ho hs'=>⟨r0,.head _,?_⟩) (λr hr'=>?_) (.head _) (λr hr'=>by rw[Y5.mp hr'];exact bi _) (if_pos rfl) (λy hy=>if_neg hy) (λs h1 h2=>absurd (Y5.mp h1) h2) λs c=>rfl
   ·have lo:=early o s hs';exact u.joint L.sy L.inj (((ez▸(h3 o ho lo).resolve_left (by rw[e];exact λz=>nomatch z):Rch A (Lv n ρ k) (bot z) (bot o))).trans (dn o ho lo)) (hb z az lz) hs' l0
   ·rw[Y5.mp hr'];exact dI (u.has z ⟨(L.dom x z az).2,lz⟩) λs hs'=>⟨z,s,az,hs',u.joint L.sy L.inj (dn z az lz) (hb z az lz) hs' l0⟩
  ·exact⟨λy=>if y=x then some x else home y,u.alone L.sy L.inj hx hr (λo ho lo=>ex ⟨o,ho,lo.2⟩) (if_pos rfl) λy hy=>if_neg hy⟩
 ·refine⟨λy=>if y=x then some elder else home y,u.meet L.sy L.inj (met:=met) (elder:=elder) hx hr (λo s ho hs'=>?_) (λr hr'=>?_) g4 g5 (if_pos rfl) (λy hy=>if_neg hy) (λs h1 h2=>if_pos ⟨h1,h2⟩) λs hs=>if_neg hs⟩
  ·have lo:=early o s hs';have hub:∃b,b∈hs/\Rch A (Lv n ρ k) b (bot o):=(h3 o ho lo).elim (λq=>⟨_,q,.here⟩) λq=>⟨_,h2.resolve_left ne,q⟩;exact aU hub λb m q=>cM (h1 b m) λz az lz ez=>aU (g2 b m) λr m1 l=>⟨r,m1,u.joint L.sy L.inj (q.trans<|dn o ho lo) (ez▸hb z az lz) hs' l⟩
  ·exact aU (g3 r hr') λs m l=>cM (h1 s m) λz az lz ez=>dI (u.has z ⟨(L.dom x z az).2,lz⟩) λs' hs'=>⟨z,s',az,hs',u.joint L.sy L.inj (dn z az lz) (hb z az lz) hs'<|ez▸l⟩
end
section
theorem Lns.perm{A:ZK}{ρ bot:ZL}(L:Lns A n ρ bot ls)(h:∀t,t∈ls'↔t∈ls):Lns A n ρ bot ls' :=
 ⟨λt ht=>L.at_ t<|(h t).mp ht,λx y a lt ne=>cM (L.cross x y a lt ne) λw h1 h2 h3=>⟨w,h1,h2,h3.imp (h _).mpr (h _).mpr⟩,L.own,L.dom,L.sy,L.inj⟩
end
end Fl
namespace Pf
open Fl Pu Gr
section
variable {ZZ:ZM}{c:Nat}{os:ZU}{reach:Int}
theorem lns_mk(h:∀r∈ZZ,r.length=c)(o:Ord ZZ.flatten os){E:ZL}(Lw:Low (ZZ.length*c) (gJ ZZ.length c reach) (rk os) E)(b:Best (rk os) (λz=>(z:Int)) (SL (ZZ.length*c) (gJ ZZ.length c reach) (rk os)<|lH E<|ZZ.length*c) d):
  Lns (Nb ZZ.length c reach) (ZZ.length*c) (rk os) (lH E<|ZZ.length*c) (lnsP d):=by
 have ZR:ZZ.flatten.length=ZZ.length*c:=br h;have hK:∀x,x<ZZ.length*c->rk os x<=ZZ.length*c:=λx hx=>ci<|ZR▸o.rk_lt (ZR.symm▸hx);refine⟨λt ht=>?_,λx y a lt ne=>?_,λx y a lt=>?_,λx y a=>⟨a.1,a.2.1⟩,Nb.sy,λx y hx hy=>o.inj x y (ZR.symm▸hx)<|ZR.symm▸hy⟩
 ·obtain⟨p,hp,et⟩:=W6.mp ht;obtain⟨v,hv⟩:=gV.mpr<|(cO _).mem_iff.mp hp;obtain⟨w,e1,⟨hw,S⟩,_⟩:=b.so p v hv;obtain⟨y,g1,g2,g3,g4⟩:=S;have e:t=(p.1,p.2,(w:Int)):=by rw[<- et,hv,e1];rfl
  refine⟨w,y,hw,(ip hw).mpr g1,g2,?_⟩;rw[e,g4];exact(mnx (lH E (ZZ.length*c) w)<|lH E (ZZ.length*c) y).imp (λz=>by rw[(Prod.mk.inj z).1,(Prod.mk.inj z).2]) λz=>by rw[(Prod.mk.inj z).1,(Prod.mk.inj z).2]
 ·generalize lH E (ZZ.length*c)=bot at b ne ⊢;have S:SL (ZZ.length*c) (gJ ZZ.length c reach) (rk os) bot (Pu.mn (bot x:Int) (bot y:Int),Pu.mx (bot x:Int) (bot y:Int)) x:=⟨a.1,y,(ip a.1).mp a,lt,ne,rfl⟩;cases q:bL d (Pu.mn (bot x:Int) (bot y:Int),Pu.mx (bot x:Int) (bot y:Int)) with
  |none=>exact absurd S<|b.no _ q x
  |some v =>refine cM (b.so _ v q) λw e1 Sw lw=>⟨w,Sw.1,lw x S,?_⟩;have m:(Pu.mn (bot x:Int) (bot y:Int),Pu.mx (bot x:Int) (bot y:Int),(w:Int))∈lnsP d:=W6.mpr ⟨_,(cO _).mem_iff.mpr (gV.mp ⟨v,q⟩),by rw[q,e1];rfl⟩;exact(mnx (bot x)<|bot y).imp (λz=>by rw[(Prod.mk.inj z).1,(Prod.mk.inj z).2]at m;exact m) λz=>by rw[(Prod.mk.inj z).1,(Prod.mk.inj z).2]at m;exact m
 ·have ne:E x≠x:=λz=>O7 _<|eU (z▸(Lw.le x a.1).2 y ((ip a.1).mp a)) lt;exact⟨E x,(ip a.1).mpr ((Lw.mem x a.1).resolve_left ne),Lw.dn x a.1 ne,((sA Lw hK a.1).trans (if_neg ne)).symm⟩
theorem srtP_hk(h:hs.length<=1000000)(o:Ord hs os):iM ((X5 hs.length).map (hk hs))=os.map (hk hs):=by
 obtain⟨os',e,o'⟩:=BS h;have pm:=cO<|(X5 hs.length).map (hk hs);rw[cx (g:=fun y:Int×Int=>y.2) (by rw[pm.length_eq];simpa using h) λx x=>rfl]at e;rw[<- o'.uniq o];have e:=Z5 e;have e2:(iM<|(X5 hs.length).map (hk hs)).map (λq=>hk hs q.2.toNat)=os'.map (hk hs):=by rw[show (fun q:Int×Int=>hk hs q.2.toNat)=(fun v:Int=>hk hs v.toNat) ∘ (λy=>y.2) from rfl,<- T4,e];unfold cl;rw[T4];rfl
 rw[<- e2]
 conv=>lhs;rw[<- List.map_id (iM<|(X5 hs.length).map (hk hs))]
 exact T6 λq hq=>aU (W6.mp<|pm.mem_iff.mp hq) λi x e=>by rw[<- e];rfl
end
theorem bbc_eq(hl:ls.length<=1000000):∃d,Pf.dq ls=some d/\∀k,find d k=if tells ls k=[] then none else some (tells ls k):=by
 unfold Pf.dq;refine aU (eJ (f:=Pu.si) (xs:=ls) (s:=[]) (λi d=>d.length<=i/\∀k,find d k=if tells (ls.take i) k=[] then none else some (tells (ls.take i) k)) ⟨bi _,λk=>rfl⟩ ?_) λd e h=>⟨d,e,by have:=h.2;rwa [O6]at this⟩;intro i x d hx h;have hi:=Z7.mp hx;have tk:ls.take (i+1)=ls.take i++[x]:=by rw[<- hi.2,O0]
 have ln:=qq (ls.take i) x.2.2;have key:Pu.si d x=some (put d x.2.2<|tells (ls.take i) x.2.2++[x.1,x.2.1]):=by
  have e0:=h.2 x.2.2;unfold Pu.si;rw[if_pos (eU (aR h.1<|aR (ci hi.1) hl) (by decide))];by_cases q:tells (ls.take i) x.2.2=[]
  ·rw[if_pos q]at e0;rw[e0,q,put_new λz=>by rw[<- decide_eq_true_eq (p:=x.2.2∈_),<- find_some,e0]at z;cases z];rfl
  ·rw[if_neg q]at e0;rw[e0];exact if_pos<|aR (Nat.add_le_add_right (aR ln<|Nat.mul_le_mul_left 2<|aR (D0 _ _)<|aR (ci hi.1) hl) 2) (by decide)
 refine⟨_,key,aR mN<|K6 h.1,λk=>?_⟩;rw[kA,tk,zw];by_cases e:k=x.2.2
 ·rw[if_pos e,if_pos e.symm,if_neg (by simp),e]
 ·rw[if_neg e,if_neg (show ¬ x.2.2=k from λz=>e z.symm),h.2 k]
abbrev trL(par:ZC)(l:ZU):List (Int×Option Int×Option Int):=l.map λ(x:Nat)=>((x:Int),(par x).map λp=>(p.1:Int),(par x).map λp=>(p.2:Int))
section
variable {ZZ:ZM}{c:Nat}{os:ZU}{reach:Int}{par:ZC}{ended:L2.bz}
theorem sC(he:fU ended par)(hl:l.length<=1000000):Pu.comp (λ(y1:Int)=>some<|((y1),((Pu.find ended y1).getD (none,none)).1,((Pu.find ended y1).getD (none,none)).2)) (cl l)=some (trL par l):=by rw[cx (g:=λy=>(y,((Pu.find ended y).getD (none,none)).1,((Pu.find ended y).getD (none,none)).2)) (by rw[bE];exact hl) λa a=>rfl];congr 1;unfold cl trL;rw[T4];refine T6 λx a=>?_;simp only[Function.comp];rw[he x];cases par x<;>rfl
theorem sD(hp:0<ZZ.length)(hc:0<c)(hcm:c<=900)(hm:ZZ.length<=900)(h:∀r∈ZZ,r.length=c)(hn:ZZ.length*c<=144)(eo:Pf.bj ZZ=some (cl os))(o:Ord ZZ.flatten os):∃home par,UF (Nb ZZ.length c reach) (ZZ.length*c) (rk os) (ZZ.length*c) home par /\
  Pf.j9 ZZ reach=some (trL par (os.filter λx=>decide<|home x=some x)):=by
 have ZR:ZZ.flatten.length=ZZ.length*c:=br h;have olen:=o.len.trans ZR;obtain⟨homes,ended,home,par,e1,u,he,hh⟩:=pH (reach:=reach) hp hc (aR hcm (by decide)) (aR hm (by decide)) h (eU hn (by decide)) o (ks:=os) λi x hx=>⟨ZR▸(gG o hx).1,(gG o hx).2⟩;rw[olen]at u;have e2:Pu.cw (λ(y5:Int)=>(Pu.at_ homes y5).bind λx6=>some<|decide<|x6=some y5) (λ(y5:Int)=>some<|y5) (cl os)=some (cl (os.filter λx=>decide<|home x=some x)):=by
  rw[fD (p:=λy=>decide<|home y.toNat=some y.toNat) (g:=λy=>y) (by rw[bE,olen];exact aR hn (by decide)) (λy hy=>?_) λa a a=>rfl,List.map_id']
  ·unfold cl;rw[List.filter_map];rfl
  ·obtain⟨x,hx,rfl⟩:=eQ.mp hy;refine dQ (cX.trans<|hh.2 x<|ZR▸o.mem.mp hx)<|congrArg some ?_;rw[W0];cases home x with
   |none=>rfl
   |some s=>exact decide_eq_decide.mpr ⟨λz=>congrArg some<|N7<|Z5 z,λz=>congrArg some<|congrArg Int.ofNat<|Z5 z⟩
 exact⟨home,par,u,dQ eo<|dQ e1<|dQ e2<|sC he<|aR (T8 _ _)<|olen▸aR hn (by decide)⟩
def mlB(ZZ:ZM)(d:Zl)(s5:L2.bz)(x6:Int):Option L2.bz:=if ((Pu.find d x6).isSome)=true then (Pu.find d x6).bind λx7=>(Pf.be (ZZ,s5) x7 x6).bind λc8=>some (c8.2) else some (s5)
theorem tbl_eq(hp:0<ZZ.length)(hc:0<c)(hcm:c<=900)(h:∀r∈ZZ,r.length=c)(hn:ZZ.length*c<=144)(eo:Pf.bj ZZ=some (cl os))(o:Ord ZZ.flatten os){bot:ZL}(B:Bots (Nb ZZ.length c reach) (ZZ.length*c) (rk os) bot)(L:Lns (Nb ZZ.length c reach) (ZZ.length*c) (rk os) bot ls)(hl:ls.length<=144*144)(hZ:∀x:Nat,x<ZZ.length*c->((x:Int)∈Z↔bot x=x)):
  ∃home par,UF (Nb ZZ.length c reach) (ZZ.length*c) (rk os) (ZZ.length*c) home par/\Pf.dg ZZ Z ls=some (trL par (os.filter λx=>decide<|home x=some x)):=by
 have ZR:ZZ.flatten.length=ZZ.length*c:=br h;have olen:=o.len.trans ZR;refine aU (bbc_eq (ls:=ls)<|aR hl (by decide)) λd ed hd=>?_;refine aU (eJ (f:=mlB ZZ d) (xs:=cl os) (s:=[]) (λi e=>∃home par,UF (Nb ZZ.length c reach) (ZZ.length*c) (rk os) i home par/\fU e par/\e.length<=i*41472) ⟨λa=>none,λa=>none,UF.start,λa=>rfl,U5 _⟩ ?_) λe ee zz=>iD zz λhome par u he a=>?_
 ·intro i y e hy zq;refine iD zq λhome par u he hel=>?_;unfold cl at hy;rw[X2]at hy;refine aU (U8.mp hy) λx hx ex=>?_;subst ex;have hx':x<ZZ.length*c:=ZR▸(gG o hx).1;have hi:i<ZZ.length*c:=olen▸(Z7.mp hx).1;have hi':i<144:=cf hi hn;refine lS (L.told B hx') λhs e1 h1 h2 h3=>zI (C7 B L u hx' (gG o hx).2 h1 h2 h3) λg1 g2 g3=>?_;have hf:=hd (x:Int);rw[e1]at hf;unfold mlB;by_cases ne:hs=[]
  ·rw[if_pos (by rw[ne];rfl)]at hf;rw[hf];exact dI (g2 ne) λhome' u'=>⟨e,rfl,home',par,u',he,aR hel<|R9 _<|Q2 i⟩
  ·have hsl:hs.length<=41472:=by rw[<- bE,<- e1];exact aR (qq _ _)<|Nat.mul_le_mul_left 2 hl
   rw[if_neg λz=>ne<|List.map_eq_nil_iff.mp z]at hf;rw[hf];have hel':e.length<=10000000:=aR hel<|aR (R9 _<|ci hi') (by decide);refine oq37 (lG hc (aR hcm (by decide)) h o u (aR (ci hi') (by decide)) he hel' g1 (aR hsl (by decide)) ne x) λmet elder e' f1 f2 f3 f4 f5 f6 f7=>?_;exact dI (g3 met elder ne f2 f3 f4 f5) λhome' u'=>⟨e',(if_pos rfl).trans (dQ rfl<|dQ f1 rfl),home',_,u',f6,by rw[Nat.succ_mul];exact aR f7<|Nat.add_le_add hel hsl⟩
 ·rw[bE,olen]at u;have e2:Pu.cw (λ(y9:Int)=>some<|decide<|y9∈Z) (λ(y9:Int)=>some<|y9) (cl os)=some (cl (os.filter λx=>decide<|home x=some x)):=by rw[fD (p:=λy=>decide<|y∈Z) (g:=λy=>y) (by rw[bE,olen];exact aR hn (by decide)) (λa a=>rfl) λa a a=>rfl,List.map_id'];unfold cl;rw[List.filter_map];congr 2;refine List.filter_congr λx hx=>?_;have hx':x<ZZ.length*c:=ZR▸o.mem.mp hx;exact decide_eq_decide.mpr<|(hZ x hx').trans (L.hom B u ⟨hx',ZR▸o.rk_lt (o.mem.mp hx)⟩).symm
  exact⟨home,par,u,dQ eo<|dQ ed<|dQ ee<|dQ e2<|sC he<|aR (T8 _ _)<|olen▸aR hn (by decide)⟩
end
def tlB(x e:Int)(s30:(List<|Option<|Int)×(List<|Int×((Option<|Int)×(Option<|Int))))(x29:Option (Int)):Option ((List<|Option<|Int)×(List<|Int×((Option<|Int)×(Option<|Int)))):=if (!decide (x29=some e))=true then (x29).bind λx37=>if (s30.2).length<16777216 then (λends33=>(Pu.comp (λ(y34:Option (Int))=>Pu.at_ ([y34,some (e)])<|Pu.ofb<|decide<|y34=x29) s30.1).bind λlabels36=>some<|(labels36,ends33)) (Pu.put s30.2 x37<|(some<|x,some (e))) else none else some ((s30.1,s30.2))
theorem C8{x e:Nat}:tlB (x:Int) (e:Int) (l1,e1) (some (e:Int))=some (l1,e1):=if_neg (by simp)
theorem zx{x e r:Nat}(q':¬ (some (r:Int):Option Int)=some (e:Int))(hl:l1.length<=1000000)(hel:e1.length<16777216):tlB (x:Int) (e:Int) (l1,e1) (some (r:Int))=some (l1.map λv=>if v=some (r:Int) then some (e:Int) else v,Pu.put e1 (r:Int) (some (x:Int),some (e:Int))) :=
 (if_pos (by simpa using q')).trans ((if_pos hel).trans (dQ (cx hl λv a=>by
  by_cases z:v=some (r:Int)
  ·rw[if_pos z,decide_eq_true z];rfl
  ·rw[if_neg z,decide_eq_false z];rfl) rfl))
def tsB(ZZ:ZM)(reach:Int)(keys:ZD)(s9:(List<|Option<|Int)×(List<|Int×((Option<|Int)×(Option<|Int)))×(List<|Int))(x8:Zu):Option ((List<|Option<|Int)×(List<|Int×((Option<|Int)×(Option<|Int)))×(List<|Int)):=((Pf.ii ZZ reach x8.2).bind λx12=>Pu.cw (λ(y10:Int)=>(Pu.at_ s9.1 y10).bind λx11=>some<|x11.isSome) (λ(y10:Int)=>Pu.at_ s9.1 y10) x12).bind λnear_here14=>if (decide<|near_here14=[])=true then (Pu.app s9.2.2 x8.2).bind λstarts16=>(L2.sG (s9.1).length x8.2).bind λj18=>(λlabels19=>some<|(labels19,s9.2.1,starts16)) ((s9.1).set j18 (some<|x8.2)) else (((Pu.comp (λ(y20:Option (Int))=>(y20).bind λx21=>Pu.at_ keys x21) near_here14).bind λx22=>Pu.Bq x22).bind λx23=>some<|x23.2).bind λeldest25=>(L2.sG (s9.1).length x8.2).bind λj27=>(λlabels28=>(Pu.bB (tlB x8.2 eldest25) near_here14 (labels28,s9.2.1)).bind λ(s30:(List<|Option<|Int)×(List<|Int×((Option<|Int)×(Option<|Int))))=>some<|(s30.1,s30.2,s9.2.2)) ((s9.1).set j27 (some<|eldest25))
section
variable {ZZ:ZM}{c n k:Nat}{os:ZU}{reach:Int}{ls:ZA}{ends:L2.bz}{home:Zs}{par:ZC}
structure LabOk(A:ZK)(n:Nat)(ρ:ZL)(k:Nat)(ls:ZA):Prop where
 lies:sv A n ρ k ls
 no:∀x,x<n->k<=ρ x->ls[x]?=some none
theorem cs_no:(none:ZI)∉cs l:=by unfold cs;simp
theorem LabOk.step{A:ZK}{ρ:ZL}(l:LabOk A n ρ k ls){x e:Nat}(hr:ρ x=k)(z:sv A n ρ (k+1) ((ls.set x<|some (e:Int)).map λv=>if v∈cs met/\v≠some (e:Int) then some (e:Int) else v)):LabOk A n ρ (k+1) ((ls.set x<|some (e:Int)).map λv=>if v∈cs met/\v≠some (e:Int) then some (e:Int) else v) :=
 ⟨z,λy hy h=>by rw[X2,J3,if_neg (show ¬ x=y from λz=>Nat.not_succ_le_self k (by rw[<- z,hr]at h;exact h)),l.no y hy (Nat.le_of_succ_le h),Option.map_some,if_neg λz=>cs_no z.1]⟩
theorem lab_met(hp:0<ZZ.length)(hc:0<c)(hcm:c<=900)(hm:ZZ.length<=900)(h:∀r∈ZZ,r.length=c)(hn:ZZ.length*c<=144)(inj:∀x y,x<ZZ.length*c->y<ZZ.length*c->rk os x=rk os y->x=y)(hl:LabOk (Nb ZZ.length c reach) (ZZ.length*c) (rk os) k ls)(hx:x<ZZ.length*c):
  ∃met:List Nat,((Pf.ii ZZ reach (x:Int)).bind λx12=>Pu.cw (λ(y10:Int)=>(Pu.at_ ls y10).bind λx11=>some<|x11.isSome) (λ(y10:Int)=>Pu.at_ ls y10) x12)=some (cs met)/\met.length<=144/\∀r,r∈met↔∃o,Nb ZZ.length c reach x o/\rk os o<k/\Fst (Nb ZZ.length c reach) (ZZ.length*c) (rk os) k o r:=by
 refine dI (skol (n:=ZZ.length*c) (P:=λy r=>rk os y<k->ls[y]?=some (some (r:Int))/\Fst (Nb ZZ.length c reach) (ZZ.length*c) (rk os) k y r) λy hy=>?_) λroot hroot=>?_
 ·by_cases q:rk os y<k
  ·exact aU (hl.lies.2 y hy q) λr e f=>⟨r,λa=>⟨e,f⟩⟩
  ·exact⟨0,λz=>absurd z q⟩
 have nbl:=jO ZZ.length c reach x;have at_:∀y∈cl (gJ ZZ.length c reach x),∃o:Nat,y=(o:Int)/\o<ZZ.length*c/\Pu.at_ ls y=some (if rk os o<k then some (root o:Int) else none):=λy hy=>aU (eQ.mp hy) λo ho e=>by
  have ho':=(g8.mp ho).1;refine⟨o,e,ho',?_⟩;rw[e,cX];by_cases q:rk os o<k
  ·rw[if_pos q];exact(hroot o ho' q).1
  ·rw[if_neg q];exact hl.no o ho'<|T5.mp q
 refine⟨((gJ ZZ.length c reach x).filter λo=>decide<|rk os o<k).map root,dQ (wq hp hc (aR hcm (by decide)) (aR hm (by decide)) h hx) ?_,?_,λr=>?_⟩
 ·rw[fD (p:=λy=>decide<|rk os y.toNat<k) (g:=λy=>some ((root y.toNat:Nat):Int)) (by rw[bE];exact aR nbl<|aR hn (by decide)) (λy hy=>cM (at_ y hy) λo e a q=>dQ q ?_) λy hy hq=>cM (at_ y hy) λo e a q=>?_]
  ·unfold cl cs;rw[List.filter_map,T4,T4];rfl
  ·rw[e,W0];by_cases z:rk os o<k
   ·rw[if_pos z,decide_eq_true z];rfl
   ·rw[if_neg z,decide_eq_false z];rfl
  ·rw[e,W0]at hq;rw[q,if_pos (of_decide_eq_true hq),e];rfl
 ·rw[Z8];exact aR (T8 _ _)<|aR nbl hn
 ·rw[W6]
  constructor
  ·exact λz=>aU z λo h1 h2=>have q:=S6.mp h1;have lt:=of_decide_eq_true q.2;⟨o,(ip hx).mpr q.1,lt,h2▸(hroot o (g8.mp q.1).1 lt).2⟩
  ·exact λz=>cM z λo h1 h2 h3=>⟨o,S6.mpr ⟨(ip hx).mp h1,decide_eq_true h2⟩,(hroot o h1.2.1 h2).2.same inj h3⟩
theorem C9(hp:0<ZZ.length)(hc:0<c)(hcm:c<=900)(hm:ZZ.length<=900)(h:∀r∈ZZ,r.length=c)(hn:ZZ.length*c<=144)(o:Ord ZZ.flatten os)(u:UF (Nb ZZ.length c reach) (ZZ.length*c) (rk os) k home par)(he:fU ends par)(hel:ends.length<=k*144)(hl:LabOk (Nb ZZ.length c reach) (ZZ.length*c) (rk os) k ls)(hst:st.length<=k)(hx:x<ZZ.length*c)(hr:rk os x=k):
  ∃(ls':ZA) (ends':L2.bz) (home':Zs) (par':ZC),tsB ZZ reach ((X5 ZZ.flatten.length).map (hk ZZ.flatten)) (ls,ends,cl st) (hk ZZ.flatten x)=some (ls',ends',cl (if home' x=some x then st++[x] else st))/\UF (Nb ZZ.length c reach) (ZZ.length*c) (rk os) (k+1) home' par'/\fU ends' par'/\ends'.length<=(k+1)*144/\LabOk (Nb ZZ.length c reach) (ZZ.length*c) (rk os) (k+1) ls'/\∀y,y≠x->home' y=home y:=by
 have ZR:ZZ.flatten.length=ZZ.length*c:=br h;have inj:∀x y,x<ZZ.length*c->y<ZZ.length*c->rk os x=rk os y->x=y:=λx y hx hy=>o.inj x y (ZR.symm▸hx)<|ZR.symm▸hy;have k144:k<144:=cf (hr▸ZR▸o.rk_lt (ZR.symm▸hx)) hn;have ix:L2.sG ls.length (x:Int)=some x:=xT (by rw[hl.lies.1];exact hx);have up:k*144<=(k+1)*144:=R9 _<|Q2 k;obtain⟨met,e1,ml,hmet⟩:=lab_met hp hc hcm hm h hn inj hl hx;have LS:∀{e:Nat} {home' par'},UF (Nb ZZ.length c reach) (ZZ.length*c) (rk os) (k+1) home' par'->home' x=some e->LabOk (Nb ZZ.length c reach) (ZZ.length*c) (rk os) (k+1) ((ls.set x<|some (e:Int)).map λv=>if v∈cs met/\v≠some (e:Int) then some (e:Int) else v):=λ{e _ _} u' he=>hl.step hr<|zt Nb.sy inj hx hr (λb b z=>z.2.1) hmet (hr▸u'.hm x e he) hl.lies;by_cases ne:met=[]
 ·have u':UF (Nb ZZ.length c reach) (ZZ.length*c) (rk os) (k+1) (λy=>if y=x then some x else home y) par:=u.alone Nb.sy inj hx hr (λo' ho lo=>aU (hl.lies.2 o' lo.1 lo.2) λr b f=>by have:=(hmet r).mpr ⟨o',ho,lo.2,f⟩;rw[ne]at this;cases this) (if_pos rfl) λy hy=>if_neg hy
  have lb:=LS u'<|if_pos rfl;have el:(ls.set x<|some (x:Int)).map (λv=>if v∈cs met/\v≠some (x:Int) then some (x:Int) else v)=ls.set x (some (x:Int)):=by
   conv=>rhs;rw[<- List.map_id (ls.set x<|some (x:Int))]
   exact T6 λv b=>if_neg λz=>by rw[ne]at z;exact nomatch z.1
  refine⟨ls.set x<|some (x:Int),ends,_,par,dQ e1<|(if_pos (by rw[ne];rfl)).trans (dQ (jB (by rw[bE];exact aR hst<|aR (ci k144) (by decide)))<|dQ ix ?_),u',he,aR hel up,el▸lb,λy hy=>if_neg hy⟩;rw[if_pos (if_pos rfl),zj];rfl
 ·have lt:∀r∈met,r<ZZ.length*c/\rk os r<k:=λr hr'=>cM ((hmet r).mp hr') λb b b f=>f.lv;have ka:∀r∈met,Pu.at_ ((X5 ZZ.flatten.length).map (hk ZZ.flatten)) (r:Int)=some (hk ZZ.flatten r):=λr hr'=>by rw[cX,X2,J5 (by rw[ZR];exact(lt r hr').1)];rfl
  have cm:Pu.comp (λ(y20:Option (Int))=>(y20).bind λx21=>Pu.at_ ((X5 ZZ.flatten.length).map (hk ZZ.flatten)) x21) (cs met)=some (met.map<|hk ZZ.flatten):=by rw[cx (g:=λv=>hk ZZ.flatten (v.getD 0).toNat) (by rw[wn];exact aR ml (by decide)) λv hv=>aU (W6.mp hv) λr hr' e=>by rw[<- e];exact ka r hr',T4];rfl
  have mm:∃m,Pu.Bq (met.map<|hk ZZ.flatten)=some m:=by
   cases met with
   |nil=>exact absurd rfl ne
   |cons a l=>exact⟨_,rfl⟩
  obtain⟨m,em⟩:=mm;obtain⟨e,hem,ee⟩:=W6.mp (sh em).1;have le:∀r∈met,rk os e<=rk os r:=λr hr'=>by rw[o.le_iff (ZR.symm▸(lt e hem).1) (ZR.symm▸(lt r hr').1),ee];exact(sh em).2 _ (W6.mpr ⟨r,hr',rfl⟩)
  have m2:m.2=(e:Int):=by rw[<- ee];rfl
  have u':UF (Nb ZZ.length c reach) (ZZ.length*c) (rk os) (k+1) (λy=>if y=x then some e else home y) (λs=>if s∈met/\s≠e then some (x,e) else par s):=by
   refine u.meet Nb.sy inj (met:=met) (elder:=e) hx hr (λo' s ho hs=>?_) (λr h=>?_) hem le (if_pos rfl) (λy hy=>if_neg hy) (λs h1 h2=>if_pos ⟨h1,h2⟩) λs hs=>if_neg hs
   ·exact aU (u.liv o' s hs) λr h1 h2=>⟨r,(hmet r).mpr ⟨o',ho,(u.dom o' (by rw[hs];exact nofun)).2,h2⟩,h1⟩
   ·exact cM ((hmet r).mp h) λo' h1 h2 h3=>dI (u.has o' ⟨h1.2.1,h2⟩) λs hs=>aU (u.liv o' s hs) λr' g1 g2=>⟨o',s,h1,hs,h3.same inj g2▸g1⟩
  have hlx:(ls.set x<|some (e:Int))[x]?=some (some (e:Int)):=by rw[J3,if_pos rfl,if_pos (by rw[hl.lies.1];exact hx)]
  obtain⟨ls',ends',g1,g2,g3,g4⟩:=shut_eq (f:=tlB (x:Int) (e:Int)) (λb=>C8) (λb=>zx) hlx (by rw[N5,hl.lies.1];exact aR hn (by decide)) ml (by decide) (aR hel<|aR (R9 _<|ci k144) (by decide)) he;refine⟨ls',ends',_,_,dQ e1<|(if_neg λz=>ne<|List.map_eq_nil_iff.mp<|of_decide_eq_true z).trans (dQ (dQ (dQ cm em)<|congrArg some m2)<|dQ ix<|dQ g1 ?_),u',g3,by rw[Nat.succ_mul];exact aR g4<|Nat.add_le_add_right hel 144,g2▸LS u' (if_pos rfl),λy hy=>if_neg hy⟩;rw[if_neg];rw[if_pos rfl];exact λz=>O7 k (by have q:=(lt e hem).2;rw[Z5 z,hr]at q;exact q)
set_option tactic.hygienic true in
theorem wu(hp:0<ZZ.length)(hc:0<c)(hcm:c<=900)(hm:ZZ.length<=900)(h:∀r∈ZZ,r.length=c)(hn:ZZ.length*c<=144)(o:Ord ZZ.flatten os):
  ∃home par,UF (Nb ZZ.length c reach) (ZZ.length*c) (rk os) (ZZ.length*c) home par/\Pf.mL ZZ reach=some (trL par (os.filter λx=>decide<|home x=some x)):=by
 have ZR:ZZ.flatten.length=ZZ.length*c:=br h;have olen:=o.len.trans ZR;have h6:ZZ.flatten.length<=1000000:=by rw[ZR];exact aR hn (by decide)
 have e0:Pu.comp (λ(_:ZG)=>some (none:ZI)) ((X5 ZZ.flatten.length).map (hk ZZ.flatten))=some (((X5 ZZ.flatten.length).map (hk ZZ.flatten)).map λa=>none):=cx (by rw[Z8,U1];exact h6) λa a=>rfl;have e1:Pu.ie ((X5 ZZ.flatten.length).map (hk ZZ.flatten))=some (os.map<|hk ZZ.flatten):=(if_pos ⟨by rw[Z8,U1,ZR];exact eU hn (by decide),BR _⟩).trans (congrArg some<|srtP_hk h6 o);refine aU (eJ (f:=tsB ZZ reach<|(X5 ZZ.flatten.length).map (hk ZZ.flatten)) (xs:=os.map<|hk ZZ.flatten) (s:=(((X5 ZZ.flatten.length).map (hk ZZ.flatten)).map λa=>none,[],[]))
  (λi s=>∃home par,UF (Nb ZZ.length c reach) (ZZ.length*c) (rk os) i home par/\fU s.2.1 par/\s.2.1.length<=i*144/\LabOk (Nb ZZ.length c reach) (ZZ.length*c) (rk os) i s.1/\s.2.2=cl ((os.take i).filter λx=>decide<|home x=some x)) ?_ ?_) λs es zz=>oq25 zz λhome par u he a a hs=>?_
 ·refine⟨λa=>none,λa=>none,UF.start,λa=>rfl,U5 _,⟨⟨by rw[Z8,Z8,U1,ZR],λx a h=>absurd h<|K3 _⟩,λx hx a=>?_⟩,rfl⟩;rw[X2,X2,J5 (ZR.symm▸hx)];rfl
 ·intro i y s hy zq;refine oq25 zq λhome par u he hel hl hs=>?_;rw[X2]at hy;refine aU (U8.mp hy) λx hx ex=>?_;subst ex;have hx':x<ZZ.length*c:=ZR▸(gG o hx).1;have ln:((os.take i).filter λx=>decide<|home x=some x).length<=i:=aR (T8 _ _)<|D0 _ _;generalize eS:(os.take i).filter (λx=>decide<|home x=some x)=S at hs ln;refine oq46 (C9 (reach:=reach) hp hc hcm hm h hn o u he hel hl ln hx' (gG o hx).2) λls' ends' home' par' g1 g2 g3 g4 g5 g6=>⟨(ls',ends',cl (if home' x=some x then S++[x] else S)),?_,home',par',g2,g3,g4,g5,?_⟩
  ·rw[<- hs]at g1;exact g1
  ·have tk:os.take (i+1)=os.take i++[x]:=by have e:=(Z7.mp hx).2;rw[<- e,O0]
   have fc:(os.take i).filter (λy=>decide<|home' y=some y)=(os.take i).filter λy=>decide (home y=some y):=List.filter_congr λy hy'=>by
    rw[g6 y λz=>?_];have:=List.mem_iff_getElem?.mp hy';refine dI this λj hj=>?_;rw[List.getElem?_take]at hj;split at hj
    ·rename_i q;exact O7 i (by have:=(gG o hj).2;rw[z,(gG o hx).2]at this;rw[this]at q ⊢;exact q)
    ·cases hj
   show cl _=cl _;rw[tk,List.filter_append,fc,eS];by_cases q:home' x=some x
   ·rw[if_pos q,List.filter_cons_of_pos (by simpa using q)];rfl
   ·rw[if_neg q,List.filter_cons_of_neg (by simpa using q)];exact congrArg cl (W9 _).symm
 ·rw[Z8,olen]at u hs;rw[N3 (bM olen)]at hs;refine⟨home,par,u,dQ (wt h6)<|dQ e0<|dQ e1<|dQ es ?_⟩;show Pu.comp _ s.2.2=_;rw[hs];exact sC he<|aR (T8 _ _)<|olen▸aR hn (by decide)
end
end Pf
namespace K23
open PySem PySem.Spec PyProof.Rows L2
abbrev spLaw:=@L2.vE
abbrev pl0:List Str:=["floor","reach"]
abbrev pl1:List Str:=["_law_found","_law_due"]
abbrev pl2:List Str:=["floor","cells"]
abbrev pl3:List Str:=["self","cell"]
abbrev pl4:List Str:=["floor","cell"]
abbrev pl5:List Str:=["self","floor","reach"]
abbrev pl6:List Str:=["_law_some","_law_digits_here","_law_number_here"]
abbrev pl7:List Str:=["floor","reach","cells"]
abbrev pl8:List Str:=["floor","bottoms","lines"]
abbrev pl9:List Str:=["_law_script","_law_k","_law_kind","_law_row","_law_column"]
abbrev pl10:List Str:=["_law_some","_law_digits_here","_law_number_here","_law_left","_law_found","_law_k","_law_at"]
abbrev pl11:List Str:=["_law_found","_law_due","_law_one","_law_other"]
abbrev uA:Stmt:=top 27
abbrev qr:Stmt:=top 24
abbrev uB:Stmt:=top 25
abbrev uC:Stmt:=top 26
abbrev xY:Stmt:=top 28
abbrev Ca:Stmt:=top 29
abbrev Cb:Stmt:=top 30
abbrev Cc:Stmt:=top 34
abbrev qt:Stmt:=top 2
abbrev lJ:Stmt:=top 5
abbrev kB:Stmt:=top 3
abbrev lK:Stmt:=top 4
abbrev lL:Stmt:=top 6
abbrev jl:Stmt:=top 8
abbrev qu:Stmt:=top 16
abbrev oK:Stmt:=top 17
abbrev oM:Stmt:=top 9
abbrev lM:Stmt:=top 18
abbrev iV:Stmt:=top 7
abbrev oN:Stmt:=top 19
abbrev oO:Stmt:=top 20
abbrev gW:Stmt:=top 35
abbrev jm:Stmt:=top 35
abbrev gr:Stmt:=top 21
abbrev eX:Stmt:=inClass (top 11) 0
abbrev gu:Stmt:=inClass (top 11) 1
abbrev eY:Stmt:=inClass (top 11) 2
abbrev iz:Stmt:=inClass (top 11) 3
abbrev eT:Stmt:=top 22
abbrev xZ:Stmt:=top 31
abbrev qv:Stmt:=top 32
abbrev uD:Stmt:=top 33
abbrev gX:Stmt:=inClass (top 12) 0
abbrev eK:Stmt:=inClass (top 12) 2
abbrev gY:Stmt:=inClass (top 12) 3
abbrev fj:Stmt:=top 13
abbrev qw:Stmt:=top 14
abbrev qx:Stmt:=top 36
abbrev CM:Addr:=nat_lit 111
abbrev CW:Addr:=nat_lit 149
structure Al[Kn:Kon](K:Z3)(mg:ZN)(base:Heap):Prop where
 B:Blt mg
 kM:MK K CM
 kW:WK K CW
 d0:bh K mg "_law_digits" uA ["_law_cell","_law_many","_law_base"]
 d1:bh K mg "_law_cell_at" qr ["_law_script","_law_k"]
 d2:bh K mg "_law_number" uB ["_law_script","_law_k","_law_top"]
 d3:bh K mg "_law_height" uC ["_law_script","_law_k","_law_kind","_law_row","_law_column"]
 d4:bh K mg "_law_floor" xY ["_law_script","_law_most"]
 d5:bh K mg "_law_keys" Ca ["_law_floor_here"]
 d6:bh K mg "_law_near" Cb ["_law_floor_here","_law_reach","_law_cell"]
 d7:bh K mg "_law_tree" Cc ["_law_floor_here","_law_reach"]
 d8:bh K mg "size_of" qt ["floor"]
 d9:bh K mg "all_cells" lJ ["floor"]
 d10:bh K mg "neighbours" kB ["size","reach","cell"]
 d11:bh K mg "height_of" lK ["floor","cell"]
 d12:bh K mg "order_key" lL ["floor","cell"]
 d13:i9 K mg "earliest_of" jl pl2 (nat_lit 69)
 e13:LamAt K mg base (nat_lit 69) (nat_lit 65) "earliest_of"
 d14:bh K mg "fall_of" qu ["floor","reach","cell"]
 d15:bh K mg "falls_of" oK ["floor","reach"]
 d16:i9 K mg "in_order" oM ["floor"] (nat_lit 76)
 e16:LamAt K mg base (nat_lit 76) (nat_lit 72) "in_order"
 d17:bh K mg "basins_of" lM ["floor","reach"]
 d18:bh K mg "comes_before" iV ["floor","one","other"]
 d19:bh K mg "pairs_at" oN ["floor","reach","basins","cell"]
 d20:bh K mg "lines_of" oO ["floor","reach"]
 d21:bh K mg "_law_other_order" gW ["_law_some","_law_digits_here","_law_number_here"]
 d22:bh K mg "_law_other_order" jm ["_law_some","_law_digits_here","_law_number_here"]
 d23:bh K mg "bottoms_by_cell" gr ["lines"]
 d24:nO K mg "Meetings" CM "Meetings.__init__" eX ["self","floor"]
 d25:cW K CM "living" "Meetings.living" gu ["self","start"]
 d26:cW K CM "let_meet" "Meetings.let_meet" eY ["self","starts","meet"]
 d27:cW K CM "tree" "Meetings.tree" iz ["self","starts"]
 d28:bh K mg "tree_by_lines" eT ["floor","bottoms","lines"]
 d29:bh K mg "_law_whole" xZ ["_law_found","_law_due"]
 d30:bh K mg "_law_numbers" qv ["_law_found","_law_due"]
 d31:bh K mg "_law_tuples" uD ["_law_found","_law_due"]
 d32:nO K mg "Water" CW "Water.__init__" gX ["self","floor","reach"]
 d33:cW K CW "homes_around" "Water.homes_around" eK ["self","cell"]
 d34:cW K CW "let_come" "Water.let_come" gY ["self","cell"]
 d35:bh K mg "water_over" fj ["floor","reach","cells"]
 d36:bh K mg "tree_of" qw ["floor","reach"]
class Cx[Kn:Kon] where
 P:U7
 w:World
 K:Z3
 mg:Str->Option Value
 base:Heap
 al:Al K mg base
section
variable [Kn:Kon][Cx]
open Cx
theorem B:Blt mg:=al.B
theorem kM:MK K CM:=al.kM
theorem kW:WK K CW:=al.kW
abbrev uE:Prop:=i3 P w K mg base 2 "all_cells" ["floor"] (nC (ce<|rL<|rL a8) a8 λx=>Pf.dF x)
abbrev kC:Prop:=nN P w K mg base 1 CM "living" ["self","start"] (qX (aJ (rM CM)<|ce a8) a8 λx=>Pf.bN x.1 x.2)
abbrev iW:Prop:=nN P w K mg base 2 CW "homes_around" pl3 (nC (aJ (rW CM CW)<|ce a8) a8 λx=>Pf.bH x.1 x.2)
abbrev md:Prop:=nN P w K mg base 1 CM "tree" ["self","starts"] (nC (aJ (rM CM)<|ce<|rL a8) (ju a8 (cF a8)<|cF a8) λx=>Pf.eD x.1 x.2)
abbrev Cd:Prop:=i3 P w K mg base 1 "_law_digits" ["_law_cell","_law_many","_law_base"] (nC (aJ a8<|aJ a8<|ce a8) a8 λx=>Pf.digits x.1 x.2.1 x.2.2)
abbrev zy:Prop:=i3 P w K mg base 1 "_law_cell_at" ["_law_script","_law_k"] (qX (aJ (qU K)<|ce a8) a8 λx=>Pf.dk x.1 x.2)
abbrev Ce:Prop:=i3 P w K mg base 2 "_law_number" ["_law_script","_law_k","_law_top"] (qX (aJ (qU K)<|aJ a8<|ce a8) a8 λx=>Pf.dG x.1 x.2.1 x.2.2)
abbrev Cf:Prop:=i3 P w K mg base 3 "_law_height" pl9 (qX (aJ (qU K)<|aJ a8<|aJ a8<|aJ a8<|ce a8) a8 λx=>Pf.bO x.1 x.2.1 x.2.2.1 x.2.2.2.1 x.2.2.2.2)
abbrev H_floor:Prop:=i3 P w K mg base 4 "_law_floor" ["_law_script","_law_most"] (nC (aJ (qU K)<|ce a8) (rL a8) λx=>Pf.iS x.1 x.2)
abbrev H_keys:Prop:=i3 P w K mg base 1 "_law_keys" ["_law_floor_here"] (nC (ce<|rL<|rL a8) (eV a8 a8) λx=>Pf.km x)
abbrev H_near:Prop:=i3 P w K mg base 1 "_law_near" ["_law_floor_here","_law_reach","_law_cell"] (nC (aJ (rL<|rL a8)<|aJ a8<|ce a8) a8 λx=>Pf.ii x.1 x.2.1 x.2.2)
abbrev H_tree:Prop:=i3 P w K mg base 2 "_law_tree" ["_law_floor_here","_law_reach"] (nC (aJ (rL<|rL a8)<|ce a8) (ju a8 (cF a8)<|cF a8) λx=>Pf.mL x.1 x.2)
abbrev zA:Prop:=i3 P w K mg base 1 "size_of" ["floor"] (qX (ce<|rL<|rL a8) (eV a8 a8) λx=>Pf.size_of x)
abbrev sE:Prop:=i3 P w K mg base 1 "neighbours" ["size","reach","cell"] (nC (aJ (eV a8 a8)<|aJ a8<|ce a8) a8 λx=>Pf.dz x.1 x.2.1 x.2.2)
abbrev uF:Prop:=i3 P w K mg base 2 "height_of" pl4 (qX (aJ (rL<|rL a8)<|ce a8) a8 λx=>Pf.gR x.1 x.2)
abbrev uG:Prop:=i3 P w K mg base 3 "order_key" pl4 (qX (aJ (rL<|rL a8)<|ce a8) (eV a8 a8) λx=>Pf.c7 x.1 x.2)
abbrev zB:Prop:=i3 P w K mg base 8 "fall_of" ["floor","reach","cell"] (qX (aJ (rL<|rL a8)<|aJ a8<|ce a8) (cF a8) λx=>Pf.mK x.1 x.2.1 x.2.2)
abbrev wv:Prop:=i3 P w K mg base 9 "falls_of" pl0 (nC (aJ (rL<|rL a8)<|ce a8) (cF a8) λx=>Pf.gT x.1 x.2)
abbrev uH:Prop:=i3 P w K mg base 10 "basins_of" pl0 (nC (aJ (rL<|rL a8)<|ce a8) a8 λx=>Pf.dH x.1 x.2)
abbrev oP:Prop:=i3 P w K mg base 4 "comes_before" ["floor","one","other"] (qX (aJ (rL<|rL a8)<|aJ a8<|ce a8) bq λx=>Pf.cS x.1 x.2.1 x.2.2)
abbrev wx:Prop:=i3 P w K mg base 5 "pairs_at" ["floor","reach","basins","cell"] (nC (aJ (rL<|rL a8)<|aJ a8<|aJ (rL a8)<|ce a8) (eV a8 a8) λx=>Pf.pairs_at x.1 x.2.1 x.2.2.1 x.2.2.2)
abbrev wy:Prop:=i3 P w K mg base 11 "lines_of" pl0 (nC (aJ (rL<|rL a8)<|ce a8) (ju a8 a8 a8) λx=>Pf.gU x.1 x.2)
abbrev lh:Prop:=i3 P w K mg base 1 "_law_other_order" pl6 (nC (aJ (rL<|ju a8 a8 a8)<|aJ (rL a8)<|ce a8) (ju a8 a8 a8) λx=>Pf.l9 x.1 x.2.1 x.2.2)
abbrev pO:Prop:=i3 P w K mg base 1 "_law_other_order" pl6 (nC (aJ (rL a8)<|aJ (rL a8)<|ce a8) a8 λx=>Pf.oE x.1 x.2.1 x.2.2)
abbrev H_whole:Prop:=i3 P w K mg base 1 "_law_whole" pl1 (qX (aJ (cF a8)<|ce<|cF a8) bq λx=>Pf.ko x.1 x.2)
abbrev zC:Prop:=i3 P w K mg base 2 "_law_numbers" pl1 (qX (aJ (rL<|cF a8)<|ce<|rL<|cF a8) bq λx=>Pf.fQ x.1 x.2)
abbrev Cg:Prop:=i3 P w K mg base 3 "_law_tuples" pl1 (qX (aJ (rL<|ju a8 (cF a8)<|cF a8)<|ce<|rL<|ju a8 (cF a8)<|cF a8) bq λx=>Pf.dY x.1 x.2)
abbrev zD:Prop:=i3 P w K mg base 12 "tree_of" pl0 (nC (aJ (rL<|rL a8)<|ce a8) (ju a8 (cF a8)<|cF a8) λx=>Pf.j9 x.1 x.2)
local macro_rules|`(tactic| o_reads)=>`(tactic| first|rfl|(simp only[Pu.bs];done)|(simp only[Pu.bs,sH];done))
local macro_rules|`(tactic| o_shape)=>`(tactic| (constructor<;>first|rfl|decide +kernel))
local macro_rules|`(tactic| o_readsAll)=>`(tactic| (refine⟨rfl,by decide +kernel,by decide +kernel,rfl,?_,rfl⟩;repeat' first|trivial|rfl|exact Or.inl rfl|exact Or.inr rfl|constructor))
theorem qy:FnScope ["_law_cell","_law_many","_law_base","_law_found","_law_k"] ["_law_cell","_law_many","_law_base"] (ah uA):=by o_shape
theorem oQ:FnScope ["_law_script","_law_k"] ["_law_script","_law_k"] (ah qr):=by o_shape
theorem qz:FnScope ["_law_script","_law_k","_law_top","_law_cell","_law_high","_law_low"] ["_law_script","_law_k","_law_top"] (ah uB):=by o_shape
theorem qA:FnScope ["_law_script","_law_k","_law_kind","_law_row","_law_column","_law_nest"] pl9 (ah uC):=by o_shape
theorem uI:FnScope ["_law_script","_law_most","_law_told","_law_size","_law_rows","_law_row","_law_head","_law_columns","_law_kind","_law_floor_here","_law_at"] ["_law_script","_law_most"] (ah xY):=by o_shape
theorem y8:FnScope ["_law_floor_here","_law_heights","_law_row"] ["_law_floor_here"] (ah Ca):=by o_shape
theorem ya:FnScope ["_law_floor_here","_law_reach","_law_cell","_law_rows","_law_columns","_law_row","_law_column","_law_found","_law_down","_law_right","_law_straight","_law_inside"] ["_law_floor_here","_law_reach","_law_cell"] (ah Cb):=by o_shape
theorem yb:FnScope ["_law_floor_here","_law_reach","_law_keys_here","_law_labels","_law_ends","_law_starts","_law_height_here","_law_cell","_law_near_here","_law_eldest","_law_start"] ["_law_floor_here","_law_reach"] (ah Cc):=by o_shape
theorem oS:FnScope ["floor","columns"] ["floor"] (ah qt):=by o_shape
theorem kD:FnScope ["floor","size"] ["floor"] (ah lJ):=by o_shape
theorem jn:FnScope ["size","reach","cell","row","column","most_steps","found","other_row","other_column"] ["size","reach","cell"] (ah kB):=by o_shape
theorem kE:FnScope ["floor","cell","columns"] pl4 (ah lK):=by o_shape
theorem kF:FnScope pl4 pl4 (ah lL):=by o_shape
theorem iX:FnScope pl2 pl2 (ah jl):=by o_shape
theorem oU:FnScope ["floor","reach","cell","around","earliest"] ["floor","reach","cell"] (ah qu):=by o_shape
theorem lN:FnScope pl0 pl0 (ah oK):=by o_shape
theorem lO:FnScope ["floor"] ["floor"] (ah oM):=by o_shape
theorem kG:FnScope ["floor","reach","falls","bottoms","cell"] pl0 (ah lM):=by o_shape
theorem iA:FnScope ["floor","one","other"] ["floor","one","other"] (ah iV):=by o_shape
theorem lP:FnScope ["floor","reach","basins","cell","own","around","bottoms"] ["floor","reach","basins","cell"] (ah oN):=by o_shape
theorem lQ:FnScope ["floor","reach","basins","found","cell","pair"] pl0 (ah oO):=by o_shape
theorem gz:FnScope pl10 pl6 (ah gW):=by o_shape
theorem iY:FnScope pl10 pl6 (ah jm):=by o_shape
theorem fV:FnScope ["self","start","here"] ["self","start"] (ah gu):=by o_shape
theorem gZ:FnScope ["self","starts"] ["self","starts"] (ah iz):=by o_shape
theorem uJ:FnScope pl1 pl1 (ah xZ):=by o_shape
theorem oV:FnScope pl11 pl1 (ah qv):=by o_shape
theorem qB:FnScope pl11 pl1 (ah uD):=by o_shape
theorem dW:FnScope ["self","cell","around"] pl3 (ah eK):=by o_shape
theorem oW:FnScope ["floor","reach","order","water"] pl0 (ah qw):=by o_shape
theorem Ci:FnScope ["_law_script","_law_floor_here","_law_reach","_law_due","_law_number_here","_law_bottoms","_law_lines","_law_digits_here","_law_handed","_law_found"] ["_law_script"] (ah qx):=by o_shape
theorem qC :Cd:=by
 have nd:=qy.nd;refine al.d0.pL qy (λx=>rfl) rfl λf ZP A outer s H E hr=>?_;have hu:=bg hr;exact⟨_,(ae (aq 3<|bG aa)
   (ae (bZ T2 rfl (fq rfl B.range<|a7 (pv 1) aa) (ay 4)
   (ae (dh<|gD (K:=K) rfl S8 N8 N9 dD (pv 3)<|a7 (ax cr (pv 0)<|pv 2) aa)
   (ao<|aq 0<|ax de (pv 0)<|pv 2)))
   (ao<|aG<|jL (jP (K:=K) rfl) (pv 3) wM<|j1<|ax cp (pv 1)<|c5 pU (by rfl) B.int_ vj<|a7 (fY op_gt (pv 0) aj<|b8 _) aa))),
  λa=>BV.cast (cN 3 (bK (r:=a8) bJ) λfound1=>(bY (Γf:=λ(s3:Int×(List<|Int))=>[.fr a8 (s3.1),.fr a8 (a.2.1),.fr a8 (a.2.2),.ol a8 lX (s3.2),.any]) ((a.1,found1)) (j6 aK) (aw<|aw<|aw<|aw<|bI .nil) (λx=>(aI 4))
  (λs3 x2=>(gQ 3 rfl (iI aF bo) λfound4=>(bb (aE 0 (gd aF bo) λcell6=>(bc ((cell6,found4))<|aw<|aw<|aw<|aw<|bI .nil)))))
  λs3=>(cC<|mB 3 rfl aZ<|mw aP dP xm<|j4<|fJ aK<|xn<|ev_gt aF am))) (by unfold Pf.digits;o_reads)⟩
theorem fW :zy:=by
 have nd:=oQ.nd;refine al.d1.pV oQ (λx=>rfl) rfl λf ZP A outer s H E hr=>?_;have hu:=bg hr;exact⟨_,(ae (dC (b9 wJ (pv 1) (aC (ba (K:=K) rfl) (by rfl) B.len cI<|a7 (pv 0) aa)<|b8 _)
   (ao<|aG (bf (aL (K:=K) rfl) (pv 0) (pv 1) λx x=>rfl))
   bv)
   (ao<|aG aj)),
  λa=>BV.cast (dE (cj<|ev_lt aK<|cK sq_s aF)
  (dN<|bD<|bC sq_s aF aK)
  (bx<|bD am)) (by unfold Pf.dk;o_reads)⟩
theorem jb :Ce:=by
 have nd:=qz.nd;refine al.d2.pV qz (λx=>rfl) rfl λf ZP A outer s H E hr=>?_;have hu:=bg hr;exact⟨_,(ae (aq 3<|ax cr (av fW<|a7 (pv 0)<|a7 (pv 1) aa)<|ax qG aj aj)
   (ae (aq 4<|ax cr (ax aV (ax cp (pv 3) aj)<|ax cp (ax cp (ax aV (pv 1) aj)<|ax aV (pv 1) aj) aj) aj)
   (ae (aq 5<|ax cr (ax aV (ax aV (ax cp (pv 3) aj)<|ax cp (ax cp (pv 1)<|pv 1) aj) aj) aj)
   (ao<|aG<|ax cr (ax aV (ax cp (pv 4) aj)<|pv 5)<|ax aV (pv 2) aj)))),
  λa=>BV.cast (aE 3 (di (aQ<|au aF<|aA aK) (mD (v:=100000000000000000000) am am (by decide)) (by decide)) λcell2=>(aE 4 (di (aX (i6 dP am (by decide))<|i6 (fJ (aX aK am)<|aX aK am) am (by decide)) am (by decide)) λhigh7=>(aE 5 (di (aX (aX (i6 dP am (by decide))<|i6 (fJ aK aK) am (by decide)) am) am (by decide)) λlow13=>(bD<|iI (aX (i6 cy am (by decide)) eW)<|aX bo am)))) (by unfold Pf.dG;o_reads)⟩
theorem zE :Cf:=by
 have nd:=qA.nd;refine al.d3.pV qA (λx=>rfl) rfl λf ZP A outer s H E hr=>?_;have hu:=bg hr;exact⟨_,(ae (dC (b9 iF (pv 2) aj<|b8 _)
   (@ae _ _ _ _ _ (@zN _ _ 5 _ _ _ _ nd rfl (Or.inl rfl) (@bG _ _ _ _<|@pa_ints _ _ [0,1,0,2,0,1,0,3,0,1,0,2] rfl) rfl<|Or.inl rfl)
   (ao<|aG<|ax aV (ax cp aj<|ax aV (bf (aL (K:=K) rfl) (pv 5) (pv 3) λx x=>rfl) (bf (aL (K:=K) rfl) (pv 5) (pv 4) λx x=>rfl))<|av jb<|a7 (pv 0)<|a7 (pv 1)<|a7 aj aa))
   bv)
   (ae (dC (b9 iF (pv 2) aj<|b8 _)
   (ao<|aG<|ax aV (ax aV (ax cp aj<|aC mX (by rfl) B.abs vi<|a7 (ax kL (pv 3) aj) aa)<|ax cp aj<|ax cr (ax aV (pv 3)<|pv 4) aj)<|av jb<|a7 (pv 0)<|a7 (pv 1)<|a7 aj aa)
   bv)
   (ao<|aG<|av jb<|a7 (pv 0)<|a7 (pv 1)<|a7 (bf (aL (K:=K) rfl) (bG<|a7 aj<|a7 aj<|a7 (ax qG aj aj) aa) (pv 2) λx x=>rfl) aa))),
  λa=>BV.cast (dE (cj<|fL gf bo am)
  (gO (aE 5 ((Bt [0,1,0,2,0,1,0,3,0,1,0,2] (by decide))).ev λnest1=>(dN<|bD<|aX (nG am (aX (bC aP eW dP)<|bC aP eW cy) (by decide))<|aQ<|au aF<|au aK<|aA am)))
  (bx (dE (cj<|fL gf bo am)
  (dN<|bD<|aX (aX (nG am (vB<|kT dP am) (by decide))<|nG am (di (aX dP cy) am (by decide)) (by decide))<|aQ<|au aF<|au aK<|aA am)
  (bx<|bD<|EV.cast (aQ<|au (ag 0 rfl)<|au (ag 1 rfl)<|aA<|bC aP ((bK<|bT am<|bT am<|bT (mD (v:=1000000000000000000) am am (by decide)) bJ)).ev (ag 2 rfl)) Pu.as3)))) (by unfold Pf.bO;first|(simp only[Pu.bs];done)|(simp only[Pu.bs,sH];done)|(simp only[Pu.bs,sH];rfl))⟩
theorem Cj :H_floor:=by
 have nd:=uI.nd;refine al.d4.pL uI (λx=>rfl) rfl λf ZP A outer s H E hr=>?_;have hu:=bg hr;exact⟨_,(ae (aq 2<|av qC<|a7 (av fW<|a7 (pv 0)<|a7 aj aa)<|a7 (ax aV (pv 1) aj)<|a7 (ax aV (ax qG aj aj) aj) aa)
   (ae (dC (b9 (mE (K:=K) rfl hr.units) (pv 2) (bG aa)<|b8 _)
   (ae (aq 3<|ax aV aj<|ax cr (bf (aL (K:=K) rfl) (pv 2) aj λx x=>rfl) aj)
   (ae (aq 4<|aC (ft rfl) (by rfl) B.min iH<|a7 (ax aV aj<|ax cr (bf (aL (K:=K) rfl) (pv 2) aj λx x=>rfl) aj)<|a7 (ax de (pv 1)<|pv 3) aa)
   (ao<|aG (bR (loc:=["_law_row"]) (cap:=[("_law_told",2),("_law_size",3)]) rfl (by o_readsAll)  (fq rfl B.range<|a7 (pv 4) aa) (λx x x x=>(ay 0)) (λx x x x=>bQ) λx x x x=>(jL (jP (K:=K) rfl) (pv 1) (j1<|ax aV aj<|ax cp (pv 0)<|pv 2)<|j1<|ax aV aj<|ax cp (ax aV (pv 0) aj)<|pv 2)))))
   bv)
   (ae (aq 6<|av fW<|a7 (pv 0)<|a7 aj aa)
   (ae (aq 7<|ax aV aj<|ax cr (pv 6) aj)
   (ae (aq 4<|aC (gK rfl) (by rfl) B.max nr<|a7 aj<|a7 (aC (ft rfl) (by rfl) B.min iH<|a7 aj<|a7 (ax de (ax kL (ax aV (aC (ba (K:=K) rfl) (by rfl) B.len cI<|a7 (jL (jP (K:=K) rfl) (pv 0) (j1 aj)<|j1 aj) aa)<|pv 7) aj)<|pv 7) aa) aa)
   (ae (dC (b9 iF (ax cr (ax de (pv 6) aj) aj) aj<|b8 _)
   (ao<|aq 4 aj)
   bv)
   (ae (aq 4<|aC (ft rfl) (by rfl) B.min iH<|a7 (pv 4)<|a7 (aC (gK rfl) (by rfl) B.max nr<|a7 aj<|a7 (ax de (pv 1)<|pv 7) aa) aa)
   (ae (aq 8<|ax cr (ax de (pv 6) aj) aj)
   (ae (aq 9<|bG aa)
   (ae (bZ T2 rfl (fq rfl B.range<|a7 (pv 4) aa) (ay 5)
   (ae (aq 10<|ax aV aj<|ax cp (pv 5)<|pv 7)
   (ao<|dh<|gD (K:=K) rfl S8 N8 N9 dD (pv 9)<|a7 (bR (loc:=["_law_column"]) (cap:=[("_law_script",0),("_law_at",10),("_law_kind",8),("_law_row",5)]) rfl (by o_readsAll)  (fq rfl B.range<|a7 (pv 7) aa) (λx x x x=>(ay 0)) (λx x x x=>bQ) λx x x x=>(av zE<|a7 (pv 1)<|a7 (ax aV (pv 2)<|pv 0)<|a7 (pv 3)<|a7 (pv 4)<|a7 (pv 0) aa)) aa)))
   (ao<|aG<|pv 9))))))))))),
  λa=>BV.cast (aE 2 ((i4.cast (aN<|au (aQ<|au (ag 0 rfl)<|aA am)<|au (aX (ag 1 rfl) am)<|aA<|aX (mD (v:=1000000000000000000) am am (by decide)) am) Pu.as3)).ev λtold2=>(dE (cj<|rq (dL tI) bo ((bK (r:=a8) bJ)).ev)
  (gO (aE 3 (aX am<|di (bC aP bo am) am (by decide)) λsize6=>(gO (aE 4 (j5 (aX am<|di (bC aP bo am) am (by decide))<|gd aK dP) λrows12=>(dN<|cC (bU (j6 cy) (by decide) (by decide) (aI 0) λy14=>((mw aP (ag 1 rfl) (j4<|aX am<|fJ (ag 0 rfl)<|ag 2 rfl)<|j4<|aX am<|fJ (aX (ag 0 rfl) am)<|ag 2 rfl)).ev))))))
  (bx (aE 6 (aQ<|au aF<|aA am) λhead22=>(aE 7 (aX am<|di iy am (by decide)) λcolumns24=>(aE 4 (jT am<|j5 am<|gd (kT (aX (cK aP ((mw sq_s (ag 0 rfl) (j4 am)<|j4 am)).ev) gq) am) gq) λrows27=>(rj (Γj:=λ(s29:Int)=>[.fr (qU K) (a.1),.fr a8 (a.2),.fr (rL a8) (told2),.any,.fr a8 (s29),.any,.fr a8 (head22),.fr a8 (columns24),.any,.any,.any]) (bb (dE (cj<|fL gf (di (nF iy am (by decide)) am (by decide)) am)
  (aE 4 am λrows30=>(gP (rows30)<|aw<|aw<|aw<|bI<|aw<|bI<|aw<|aw<|bI<|bI<|bI .nil))
  (bx<|gP (rows27)<|aw<|aw<|aw<|bI<|aw<|bI<|aw<|aw<|bI<|bI<|bI .nil))) λs29=>(aE 4 (j5 cy<|jT am<|gd aK gq) λrows33=>(aE 8 (di (nF iy am (by decide)) am (by decide)) λkind35=>(cN 9 (bK (r:=(rL a8)) bJ) λfloor_here36=>(bY (Γf:=λ(s38:(List<|List<|Int))=>[.fr (qU K) (a.1),.fr a8 (a.2),.fr (rL a8) (told2),.any,.fr a8 (rows33),.any,.fr a8 (head22),.fr a8 (columns24),.fr a8 (kind35),.ol (rL a8) lX (s38),.any]) (floor_here36) (j6 cy) (aw<|aw<|aw<|bI<|aw<|bI<|aw<|aw<|aw<|aw<|bI .nil) (λx=>(aI 5))
  (λs38 x37=>(aE 10 (aX am<|fJ eW gq) λat40=>(bb (gQ 9 rfl ((bU (j6<|ag 7 rfl) (by decide) (by decide) (aI 0) λy42=>(aQ<|au (ag 1 rfl)<|au (aX (ag 2 rfl)<|ag 0 rfl)<|au (ag 3 rfl)<|au (ag 4 rfl)<|aA<|ag 0 rfl))).ev λfloor_here44=>(bc (floor_here44)<|aw<|aw<|aw<|bI<|aw<|bI<|aw<|aw<|aw<|aw<|bI .nil)))))
  λs38=>(jU 9 rfl)))))))))))) (by unfold Pf.iS;o_reads)⟩
theorem ok_keys :H_keys:=by
 have nd:=y8.nd;refine al.d5.pL y8 (λx=>rfl) rfl λf ZP A outer s H E hr=>?_;have hu:=bg hr;exact⟨_,(ae (aq 1<|bG aa)
   (ae (bZ T2 rfl (aH (K:=K) rfl<|pv 0) (ay 2)
   (ao<|aq 1<|ax xj (pv 1)<|pv 2))
   (ao<|aG (bR (loc:=["_law_cell","_law_height_here"]) (cap:=[]) rfl (by o_readsAll)  (Ay (K:=K) rfl rfl B.enumerate<|a7 (pv 1) aa) (λx x x x=>(jQ (K:=K) (n:=2) rfl rfl<|cG (ay 0)<|cG (ay 1) jI)) (λx x x x=>bQ) λx x x x=>(fE<|a7 (pv 1)<|a7 (pv 0) aa))))),
  λa=>BV.cast (aE 1 ((bK (r:=a8) bJ)).ev λheights1=>(bY (Γf:=λ(s3:(List<|Int))=>[.fr (rL<|rL a8) (a),.fr (rL a8) (s3),.any]) (heights1) (aS aP aF) (aw<|aw<|bI .nil) (λx=>(aI 2))
  (λs3 x2=>(bb (aE 1 ((xl (ag 1 rfl)<|ag 2 rfl)).ev λheights4=>(bc (heights4)<|aw<|aw<|bI .nil))))
  λs3=>(cC (bU (iv_enum aP aK) (by decide) (by decide) (mC 0 1) λy6=>(gk aK aF))))) (by unfold Pf.km;o_reads)⟩
theorem ok_near :H_near:=by
 have nd:=ya.nd;refine al.d6.pL ya (λx=>rfl) rfl λf ZP A outer s H E hr=>?_;have hu:=bg hr;exact⟨_,(ae (zO rfl nd rfl rfl (by decide) rfl rfl (a7 (aC (ba (K:=K) rfl) (by rfl) B.len cI<|a7 (pv 0) aa)<|a7 (aC (ba (K:=K) rfl) (by rfl) B.len cI<|a7 (bf (aL (K:=K) rfl) (pv 0) aj λx x=>rfl) aa) aa) rfl)
   (ae (zO rfl nd rfl rfl (by decide) rfl rfl (a7 (ax de (pv 2)<|pv 4)<|a7 (ax cr (pv 2)<|pv 4) aa) rfl)
   (ae (aq 7<|bG aa)
   (ae (bZ T2 rfl (aH (K:=K) rfl<|bG<|a7 (pe_un zR aj)<|a7 aj<|a7 aj aa) (ay 8)
   (ao (bZ T2 rfl (aH (K:=K) rfl<|bG<|a7 (pe_un zR aj)<|a7 aj<|a7 aj aa) (ay 9)
   (ae (aq 10<|fY lu (fY iF (pv 8) aj<|b8 _) (fY iF (pv 9) aj<|b8 _)<|b8 _)
   (ae (aq 11<|uU (sR zT wJ aj (ax aV (pv 5)<|pv 8)<|pv 3)<|zL<|sR zT wJ aj (ax aV (pv 6)<|pv 9)<|pv 4)
   (ao (dC (PW.pt<|uT (gC<|pv 11)<|wD<|PW.pt<|sM (gC<|pv 10)<|mQ<|PW.pt<|uT (b9 iF (pv 1) aj<|b8 _)<|uT (b9 lu (pv 8) aj<|b8 _)<|wD<|b9 lu (pv 9) aj<|b8 _)
   (ao<|dh<|gD (K:=K) rfl S8 N8 N9 dD (pv 7)<|a7 (ax aV (ax aV (pv 2)<|ax cp (pv 8)<|pv 4)<|pv 9) aa)
   bv)))))))
   (ao<|aG<|pv 7))))),
  λa=>BV.cast (Br 3 4 (cK aP aF) (cK aP<|bC aP aF am) λrows2 columns3=>(Br 5 6 (gd bo cy) (iI bo cy) λrow5 column6=>(cN 7 (bK (r:=a8) bJ) λfound8=>(bY (Γf:=λ(s10:(List<|Int))=>[.fr (rL<|rL a8) (a.1),.fr a8 (a.2.1),.fr a8 (a.2.2),.fr a8 (rows2),.fr a8 (columns3),.fr a8 (row5),.fr a8 (column6),.ol a8 lX (s10),.any,.any,.any,.any]) (found8) (aS aP ((bK<|bT (AA am)<|bT am<|bT am bJ)).ev) (aw<|aw<|aw<|aw<|aw<|aw<|aw<|aw<|bI<|bI<|bI<|bI .nil) (λx=>(aI 8))
  (λs10 x9=>(bb (bY (Γf:=λ(s12:(List<|Int))=>[.fr (rL<|rL a8) (a.1),.fr a8 (a.2.1),.fr a8 (a.2.2),.fr a8 (rows2),.fr a8 (columns3),.fr a8 (row5),.fr a8 (column6),.ol a8 lX (s12),.fr a8 (x9),.any,.any,.any]) (s10) (aS aP ((bK<|bT (AA am)<|bT am<|bT am bJ)).ev) (aw<|aw<|aw<|aw<|aw<|aw<|aw<|aw<|aw<|bI<|bI<|bI .nil) (λx=>(aI 9))
  (λs12 x11=>(aE 10 (iJ sc_bb (fL gf iR am)<|fL gf (ag 9 rfl) am) λstraight13=>(aE 11 (rB (kX am (aX eW iR) dP)<|kX am (aX iy<|ag 9 rfl) cy) λinside15=>(bb (dE (rA (lY<|ag 11 rfl)<|vD (lY<|ag 10 rfl)<|rA (cj<|fL gf aK am)<|rA (cj<|iJ gf iR am)<|cj<|iJ gf (ag 9 rfl) am)
  (gQ 7 rfl (aX (aX bo<|fJ iR cy)<|ag 9 rfl) λfound19=>(bc (found19)<|aw<|aw<|aw<|aw<|aw<|aw<|aw<|aw<|aw<|bI<|bI<|bI .nil))
  (bx<|bc (s12)<|aw<|aw<|aw<|aw<|aw<|aw<|aw<|aw<|aw<|bI<|bI<|bI .nil))))))
  λs12=>(bc (s12)<|aw<|aw<|aw<|aw<|aw<|aw<|aw<|aw<|bI<|bI<|bI<|bI .nil))))
  λs10=>(jU 7 rfl))))) (by unfold Pf.ii;o_reads)⟩
theorem ok_tree :H_tree:=by
 have nd:=yb.nd;refine al.d7.pL yb (λx=>rfl) rfl λf ZP A outer s H E hr=>?_;have hu:=bg hr;exact⟨_,(ae (aq 2<|av ok_keys<|a7 (pv 0) aa)
   (ae (aq 3 (bR (loc:=["_law_key"]) (cap:=[]) rfl (by o_readsAll)  (aH (K:=K) rfl<|pv 2) (λx x x x=>(ay 0)) (λx x x x=>bQ) λx x x x=>eO))
   (ae (aq 4 jN)
   (ae (aq 5<|bG aa)
   (ae (bZ T2 rfl (aH (K:=K) rfl<|aC (uf (K:=K) rfl) (by rfl) B.sorted j3<|a7 (pv 2) aa) (jQ (K:=K) (n:=2) rfl rfl<|cG (ay 6)<|cG (ay 7) jI)
   (ae (js (loc:=["_law_other"]) (cap:=[("_law_labels",3)]) (i:=8) rfl (by o_readsAll) nd rfl (Or.inl rfl) (aH (K:=K) rfl<|av ok_near<|a7 (pv 0)<|a7 (pv 1)<|a7 (pv 7) aa) (λx x x x=>(ay 0)) (λx x x x=>(gL<|b9 wK (bf (aL (K:=K) rfl) (pv 1) (pv 0) λx x=>rfl) eO<|b8 _)) λx x x x=>(bf (aL (K:=K) rfl) (pv 1) (pv 0) λx x=>rfl))
   (ae (dC (b9 (op_eqDK (K:=K) rfl hr.units) (pv 8) (bG aa)<|b8 _)
   (ae (dh<|gD (K:=K) rfl S8 N8 N9 dD (pv 5)<|a7 (pv 7) aa)
   (ae (uW (pv 7)<|uV (pv 3) (pv 7) set_list)
   (ao sN)))
   bv)
   (ae (aq 9 (bf (eA (K:=K) rfl) (aC (zb (K:=K) rfl rfl<|bg hr) (by rfl) B.min iH<|a7 (bR (loc:=["_law_start"]) (cap:=[("_law_keys_here",2)]) rfl (by o_readsAll)  (aH (K:=K) rfl<|pv 8) (λx x x x=>(ay 0)) (λx x x x=>bQ) λx x x x=>(bf (aL (K:=K) rfl) (pv 1) (pv 0) λx x=>rfl)) aa) aj λx x=>rfl))
   (ae (uW (pv 9)<|uV (pv 3) (pv 7) set_list)
   (ao (bZ T2 rfl (aH (K:=K) rfl<|pv 8) (ay 10)
   (ao (dC (b9 lu (pv 10) (pv 9)<|b8 _)
   (ae (qM hu (pv 4) (pv 10) (fE<|a7 (pv 7)<|a7 (pv 9) aa) rfl)
   (ao<|aq 3 (bR (loc:=["_law_label"]) (cap:=[("_law_eldest",9),("_law_start",10)]) rfl (by o_readsAll)  (aH (K:=K) rfl<|pv 3) (λx x x x=>(ay 0)) (λx x x x=>bQ) λx x x x=>(bf (aL (K:=K) rfl) (bG<|a7 (pv 0)<|a7 (pv 1) aa) (c5 pU (by rfl) B.int_ vj<|a7 (fY iF (pv 0) (pv 2)<|b8 _) aa) λx x=>rfl))))
   bv)))))))))
   (ao<|aG (bR (loc:=["_law_start"]) (cap:=[("_law_ends",4)]) rfl (by o_readsAll)  (aH (K:=K) rfl<|pv 5) (λx x x x=>(ay 0)) (λx x x x=>bQ) λx x x x=>(ax (nQ (K:=K) rfl) (fE<|a7 (pv 0) aa)<|t8 hu (pv 1) (pv 0) (fE<|a7 eO<|a7 eO aa) ⟨rfl,rfl,rfl,rfl⟩)))))))),
  λa=>BV.cast (aE 2 ((aN<|aA<|ag 0 rfl)).ev λkeys_here1=>(cN 3 (bU (aS aP bo) (by decide) (by decide) (aI 0) λy3=>i5) λlabels4=>(xq 4 xu λends6=>(cN 5 (bK (r:=a8) bJ) λstarts7=>(bY (Γf:=λ(s9:(List<|Option<|Int)×(List<|Int×((Option<|Int)×(Option<|Int)))×(List<|Int))=>[.fr (rL<|rL a8) (a.1),.fr a8 (a.2),.fr (rL<|eV a8 a8) (keys_here1),.ol (cF a8) lX (s9.1),.od (eV (cF a8)<|cF a8) lX (s9.2.1),.ol a8 lX (s9.2.2),.any,.any,.any,.any,.any]) ((labels4,ends6,starts7)) (aS aP ((wf<|ag 2 rfl)).ev) (aw<|aw<|aw<|aw<|aw<|aw<|bI<|bI<|bI<|bI<|bI .nil) (λx=>(mC 6 7))
  (λs9 x8=>(cN 8 (mB 3 rfl (gb aZ) (du (aS aP ((aN<|au (ag 0 rfl)<|au (ag 1 rfl)<|aA<|ag 7 rfl)).ev) (by decide) (by decide) (aI 0) (λy10=>(cj<|xh (bC aP aK aF) nA)) λy10=>(bC aP aK aF))) λnear_here13=>(dE (AI 8 rfl<|cj<|ev_eqD (dL dOp) iR ((bK (r:=(cF a8)) bJ)).ev)
  (gO (gQ 5 rfl gq λstarts15=>(gO (tH 3 rfl gq (gc gq) λlabels17=>(bv_seqC<|bv_cont ((labels17,s9.2.1,starts15))<|aw<|aw<|aw<|aw<|aw<|aw<|bI<|bI<|bI<|bI<|bI .nil)))))
  (bx (aE 9 (vC 8 rfl aZ<|gl<|ev_minP ((bU (aS aP<|ag 8 rfl) (by decide) (by decide) (aI 0) λy20=>(bC aP (ag 1 rfl)<|nz<|ag 0 rfl))).ev) λeldest24=>(tH 3 rfl gq (gc<|ag 9 rfl) λlabels26=>(bb (B6 (Γf:=λ(p30:Addr) (s30:(List<|Option<|Int)×(List<|Int×((Option<|Int)×(Option<|Int))))=>[.fr (rL<|rL a8) (a.1),.fr a8 (a.2),.fr (rL<|eV a8 a8) (keys_here1),.ol (cF a8) lX (s30.1),.od (eV (cF a8)<|cF a8) lX (s30.2),.ol a8 lX (s9.2.2),.fr a8 (x8.1),.fr a8 (x8.2),.ol (cF a8) (λb=>b=p30) (near_here13),.fr a8 (eldest24),.any]) ((labels26,s9.2.1)) 8 rfl (λp30=>(aw<|aw<|aw<|aw<|aw<|aw<|aw<|aw<|aw<|aw<|bI .nil)) (λx x=>rfl) (λx x=>(aI 10))
  (λp30 s30 x29=>(bb (dE (cj<|iJ sc_oi (ag 10 rfl)<|ag 9 rfl)
  (gO (AS 4 rfl (nz<|ag 10 rfl) (gk (gc gq)<|gc<|ag 9 rfl) λends31=>(cN 3 (mB 3 rfl (gb aZ) (bU (aS aP dP) (by decide) (by decide) (aI 0) λy34=>(bC aP ((bK<|bT (ag 0 rfl)<|bT (gc<|ag 1 rfl) bJ)).ev (xn<|fL sc_oo aF bo)))) λlabels35=>(bc ((labels35,ends31))<|aw<|aw<|aw<|aw<|aw<|aw<|aw<|aw<|aw<|aw<|bI .nil))))
  (bx<|bc ((s30.1,s30.2))<|aw<|aw<|aw<|aw<|aw<|aw<|aw<|aw<|aw<|aw<|bI .nil))))
  λp30 s30=>(bc ((s30.1,s30.2,s9.2.2))<|aw<|aw<|aw<|aw<|aw<|aw<|bI<|bI<|bI<|bI<|bI .nil)))))))))
  λs9=>(cC<|mB 5 rfl (mq aZ (gb aZ)<|gb aZ)<|tE 4 rfl (mq aZ (gb aZ)<|gb aZ) (bU (aS aP eW) (by decide) (by decide) (aI 0) λy38=>(tO (qY aF)<|tN aK aF<|gk i5 i5)))))))) (by unfold Pf.mL;o_reads)⟩
theorem fX :zA:=by
 have nd:=oS.nd;refine al.d8.pV oS (λx=>rfl) rfl λf ZP A outer s H E hr=>?_;have hu:=bg hr;exact⟨_,(ae (aq 1<|iE (wX (K:=K) rfl (pv 0) λx=>rfl) (aC (ba (K:=K) rfl) (by rfl) B.len cI<|a7 (bf (aL (K:=K) rfl) (pv 0) aj λx x=>rfl) aa) aj)
   (ao<|aG<|fE<|a7 (aC (ba (K:=K) rfl) (by rfl) B.len cI<|a7 (pv 0) aa)<|a7 (pv 1) aa)),
  λa=>BV.cast (aE 1 (vx (xi aP aF) (cK aP<|bC aP aF am) am) λcolumns2=>(bD<|gk (cK aP aF) aK)) (by unfold Pf.size_of;o_reads)⟩
theorem fk :uE:=by
 have nd:=kD.nd;refine al.d9.pL kD (λx=>rfl) rfl λf ZP A outer s H E hr=>?_;have hu:=bg hr;exact⟨_,(ae (aq 1<|av fX<|a7 (pv 0) aa)
   (ao<|aG<|c5 (vK rfl) (by rfl) B.list_ dZ<|a7 (pe_rng (ax cp (bf (eA (K:=K) rfl) (pv 1) aj λx x=>rfl) (bf (eA (K:=K) rfl) (pv 1) aj λx x=>rfl)) rfl B.range) aa)),
  λa=>BV.cast (aE 1 (aQ<|aA aF) λsize1=>(cC<|tM<|fJ (xk aK)<|gl aK)) (by unfold Pf.dF;o_reads)⟩
theorem gH :sE:=by
 have nd:=jn.nd;refine al.d10.pL jn (λx=>rfl) rfl λf ZP A outer s H E hr=>?_;have hu:=bg hr;exact⟨_,(ae (aq 3<|ax de (pv 2) (bf (eA (K:=K) rfl) (pv 0) aj λx x=>rfl))
   (ae (aq 4<|ax cr (pv 2) (bf (eA (K:=K) rfl) (pv 0) aj λx x=>rfl))
   (ae (aq 5<|iE (b9 iF (pv 1) aj<|b8 _) aj aj)
   (ae (aq 6<|bG aa)
   (ae (bZ T2 rfl (pT rfl B.range<|a7 (aC (gK rfl) (by rfl) B.max nr<|a7 aj<|a7 (ax kL (pv 3) aj) aa)<|a7 (aC (ft rfl) (by rfl) B.min iH<|a7 (bf (eA (K:=K) rfl) (pv 0) aj λx x=>rfl)<|a7 (ax aV (pv 3) aj) aa) aa) (ay 7)
   (ao (bZ T2 rfl (pT rfl B.range<|a7 (aC (gK rfl) (by rfl) B.max nr<|a7 aj<|a7 (ax kL (pv 4) aj) aa)<|a7 (aC (ft rfl) (by rfl) B.min iH<|a7 (bf (eA (K:=K) rfl) (pv 0) aj λx x=>rfl)<|a7 (ax aV (pv 4) aj) aa) aa) (ay 8)
   (ao (dC (zV wJ zT aj (ax aV (aC mX (by rfl) B.abs vi<|a7 (ax kL (pv 7)<|pv 3) aa)<|aC mX (by rfl) B.abs vi<|a7 (ax kL (pv 8)<|pv 4) aa)<|pv 5)
   (ao<|dh<|gD (K:=K) rfl S8 N8 N9 dD (pv 6)<|a7 (ax aV (ax cp (pv 7) (bf (eA (K:=K) rfl) (pv 0) aj λx x=>rfl))<|pv 8) aa)
   bv)))))
   (ao<|aG<|pv 6)))))),
  λa=>BV.cast (aE 3 (gd bo<|gl aF) λrow1=>(aE 4 (iI bo<|gl aF) λcolumn3=>(aE 5 (xw (cj<|fL gf aK am) am am) λmost_steps5=>(cN 6 (bK (r:=a8) bJ) λfound7=>(bY (Γf:=λ(s9:(List<|Int))=>[.fr (eV a8 a8) (a.1),.fr a8 (a.2.1),.fr a8 (a.2.2),.fr a8 (row1),.fr a8 (column3),.fr a8 (most_steps5),.ol a8 lX (s9),.any,.any]) (found7) (xo (jT am<|kT dP am)<|j5 (xk aF)<|aX dP am) (aw<|aw<|aw<|aw<|aw<|aw<|aw<|bI<|bI .nil) (λx=>(aI 7))
  (λs9 x8=>(bb (bY (Γf:=λ(s11:(List<|Int))=>[.fr (eV a8 a8) (a.1),.fr a8 (a.2.1),.fr a8 (a.2.2),.fr a8 (row1),.fr a8 (column3),.fr a8 (most_steps5),.ol a8 lX (s11),.fr a8 (x8),.any]) (s9) (xo (jT am<|kT cy am)<|j5 (gl aF)<|aX cy am) (aw<|aw<|aw<|aw<|aw<|aw<|aw<|aw<|bI .nil) (λx=>(aI 8))
  (λs11 x10=>(bb (dE (cj<|kX am (aX (vB<|kT gq dP)<|vB<|kT iR cy) eW)
  (gQ 6 rfl (aX (fJ gq<|gl aF) iR) λfound13=>(bc (found13)<|aw<|aw<|aw<|aw<|aw<|aw<|aw<|aw<|bI .nil))
  (bx<|bc (s11)<|aw<|aw<|aw<|aw<|aw<|aw<|aw<|aw<|bI .nil))))
  λs11=>(bc (s11)<|aw<|aw<|aw<|aw<|aw<|aw<|aw<|bI<|bI .nil))))
  λs9=>(jU 6 rfl)))))) (by unfold Pf.dz;o_reads)⟩
theorem sF :uF:=by
 have nd:=kE.nd;refine al.d11.pV kE (λx=>rfl) rfl λf ZP A outer s H E hr=>?_;have hu:=bg hr;exact⟨_,(ae (aq 2 (bf (eA (K:=K) rfl) (av fX<|a7 (pv 0) aa) aj λx x=>rfl))
   (ao<|aG (bf (aL (K:=K) rfl) (bf (aL (K:=K) rfl) (pv 0) (ax de (pv 1)<|pv 2) λx x=>rfl) (ax cr (pv 1)<|pv 2) λx x=>rfl))),
  λa=>BV.cast (aE 2 (gl<|aQ<|aA aF) λcolumns2=>(bD<|bC aP (bC aP aF<|gd aK bo)<|iI aK bo)) (by unfold Pf.gR;o_reads)⟩
theorem fm :uG:=by
 have nd:=kF.nd;refine al.d12.pV kF (λx=>rfl) rfl λf ZP A outer s H E hr=>?_;have hu:=bg hr;exact⟨_,(ao<|aG<|fE<|a7 (av sF<|a7 (pv 0)<|a7 (pv 1) aa)<|a7 (pv 1) aa),
  λa=>BV.cast (bD<|gk (aQ<|au aF<|aA aK) aK) (by unfold Pf.c7;o_reads)⟩
theorem iZ :i3 P w K mg base 7 "earliest_of" pl2 (qX (aJ (rL<|rL a8)<|ce<|rL a8) a8 λx=>Pf.cn x.1 x.2):=by
 have nd:=iX.nd;refine al.d13.pV iX (λa=>rfl) rfl λf A outer s H E hr=>?_;have hu:=bg hr;exact⟨_,(ao<|aG<|pe_minK (x:="cell") (cap:=[("floor",0)]) (pv 1) (hr.mono (by decide)) B.min al.e13.bm al.e13.hd al.e13.mem al.e13.nm rfl ⟨rfl,rfl,rfl,by decide +kernel,rfl,rfl,⟨⟨rfl,rfl,by first|exact Or.inl rfl|exact Or.inr rfl⟩,trivial⟩⟩ (λa a a a a=>rfl) (λa a a a a=>have hl:=(hr.mono (j:=5) (by decide)).in1.deeper _;(nq fm (hl.mono (by decide)) rfl<|a7 (pv 1)<|a7 (pv 0) aa))),
  λa=>BV.cast (bD (ev_minK (x:="cell") (by decide) aK λc1=>(aQ<|au aK<|aA aF))) (by unfold Pf.cn;o_reads)⟩
theorem wz :zB:=by
 have nd:=oU.nd;refine al.d14.pV oU (λx=>rfl) rfl λf ZP A outer s H E hr=>?_;have hu:=bg hr;exact⟨_,(ae (aq 3<|av gH<|a7 (av fX<|a7 (pv 0) aa)<|a7 (pv 1)<|a7 (pv 2) aa)
   (ae (aq 4<|av iZ<|a7 (pv 0)<|a7 (ax xj (pv 3)<|bG<|a7 (pv 2) aa) aa)
   (ao<|aG<|iE (b9 iF (pv 4) (pv 2)<|b8 _) eO<|pv 4))),
  λa=>BV.cast (aE 3 ((i4.cast (aN<|au (aQ<|aA<|ag 0 rfl)<|au (ag 1 rfl)<|aA<|ag 2 rfl) Pu.as3)).ev λaround2=>(aE 4 (EV.cast (aQ<|au (ag 0 rfl)<|aA ((xl (ag 3 rfl) ((bK<|bT (ag 2 rfl) bJ)).ev)).ev) Pu.as2) λearliest5=>(bD<|xw (cj<|fL gf cy bo) i5<|gc cy))) (by unfold Pf.mK;o_reads)⟩
theorem uK :wv:=by
 have nd:=lN.nd;refine al.d15.pL lN (λx=>rfl) rfl λf ZP A outer s H E hr=>?_;have hu:=bg hr;exact⟨_,(ao<|aG (bR (loc:=["cell"]) (cap:=[("floor",0),("reach",1)]) rfl (by o_readsAll)  (aH (K:=K) rfl<|av fk<|a7 (pv 0) aa) (λx x x x=>(ay 0)) (λx x x x=>bQ) λx x x x=>(av wz<|a7 (pv 1)<|a7 (pv 2)<|a7 (pv 0) aa))),
  λa=>BV.cast (cC (bU (aS aP ((aN<|aA<|ag 0 rfl)).ev) (by decide) (by decide) (aI 0) λy1=>(aQ<|au aK<|au bo<|aA aF))) (by unfold Pf.gT;o_reads)⟩
theorem gA :i3 P w K mg base 7 "in_order" ["floor"] (nC (ce<|rL<|rL a8) a8 λx=>Pf.bj x):=by
 have nd:=lO.nd;refine al.d16.pL lO (λa=>rfl) rfl λf A outer s H E hr=>?_;have hu:=bg hr;exact⟨_,(ao<|aG<|z8 (x:="cell") (cap:=[("floor",0)]) (av fk<|a7 (pv 0) aa) (hr.mono (by decide)) B.sorted al.e16.bm al.e16.hd al.e16.mem al.e16.nm rfl ⟨rfl,rfl,rfl,by decide +kernel,rfl,rfl,⟨⟨rfl,rfl,by first|exact Or.inl rfl|exact Or.inr rfl⟩,trivial⟩⟩ (λa a a a a=>rfl) (λa a a a a=>have hl:=(hr.mono (j:=6) (by decide)).in1.in1.deeper _;(nq fm (hl.mono (by decide)) rfl<|a7 (pv 1)<|a7 (pv 0) aa))),
  λa=>BV.cast (cC (we (x:="cell") (by decide) ((aN<|aA<|ag 0 rfl)).ev λc1=>(aQ<|au aK<|aA aF))) (by unfold Pf.bj;o_reads)⟩
theorem kH :uH:=by
 have nd:=kG.nd;refine al.d17.pL kG (λx=>rfl) rfl λf ZP A outer s H E hr=>?_;have hu:=bg hr;exact⟨_,(ae (aq 2<|av uK<|a7 (pv 0)<|a7 (pv 1) aa)
   (ae (aq 3 jN)
   (ae (bZ T2 rfl (aH (K:=K) rfl<|av gA<|a7 (pv 0) aa) (ay 4)
   (ao<|qM hu (pv 3) (pv 4) (iE (b9 uY (bf (aL (K:=K) rfl) (pv 2) (pv 4) λx x=>rfl) eO<|b8 _) (pv 4) (jM hu (pv 3) (bf (aL (K:=K) rfl) (pv 2) (pv 4) λx x=>rfl) λx x=>rfl)) rfl))
   (ao<|aG (bR (loc:=["cell"]) (cap:=[("bottoms",3)]) rfl (by o_readsAll)  (aH (K:=K) rfl<|av fk<|a7 (pv 0) aa) (λx x x x=>(ay 0)) (λx x x x=>bQ) λx x x x=>(jM hu (pv 1) (pv 0) λx x=>rfl)))))),
  λa=>BV.cast (aE 2 ((aN<|au (ag 0 rfl)<|aA<|ag 1 rfl)).ev λfalls1=>(xq 3 xu λbottoms3=>(bY (Γf:=λ(s5:(List<|Int×Int))=>[.fr (rL<|rL a8) (a.1),.fr a8 (a.2),.fr (rL<|cF a8) (falls1),.od a8 lX (s5),.any]) (bottoms3) (aS aP ((aN<|aA<|ag 0 rfl)).ev) (aw<|aw<|aw<|aw<|bI .nil) (λx=>(aI 4))
  (λs5 x4=>(bb (AS 3 rfl cy (ev_borD 3 rfl aZ<|vx (cj<|vw (bC aP bo cy) nA) cy<|qZ dP<|nz<|bC aP bo cy) λbottoms10=>(bc (bottoms10)<|aw<|aw<|aw<|aw<|bI .nil))))
  λs5=>(cC<|tE 3 rfl aZ (bU (aS aP ((aN<|aA<|ag 0 rfl)).ev) (by decide) (by decide) (aI 0) λy14=>(qZ aK aF)))))) (by unfold Pf.dH;o_reads)⟩
theorem me :oP:=by
 have nd:=iA.nd;refine al.d18.pV iA (λx=>rfl) rfl λf ZP A outer s H E hr=>?_;have hu:=bg hr;exact⟨_,(ao<|aG<|fY (op_ltT<|Nat.lt_of_succ_lt<|bg hr) (av fm<|a7 (pv 0)<|a7 (pv 1) aa) (av fm<|a7 (pv 0)<|a7 (pv 2) aa)<|b8 _),
  λa=>BV.cast (bD<|ev_ltT2 (aQ<|au aF<|aA aK)<|aQ<|au aF<|aA bo) (by unfold Pf.cS;o_reads)⟩
theorem uL :wx:=by
 have nd:=lP.nd;refine al.d19.pL lP (λx=>rfl) rfl λf ZP A outer s H E hr=>?_;have hu:=bg hr;exact⟨_,(ae (aq 4 (bf (aL (K:=K) rfl) (pv 2) (pv 3) λx x=>rfl))
   (ae (aq 5<|av gH<|a7 (av fX<|a7 (pv 0) aa)<|a7 (pv 1)<|a7 (pv 3) aa)
   (ae (js (loc:=["other"]) (cap:=[("basins",2),("floor",0),("cell",3)]) (i:=6) rfl (by o_readsAll) nd rfl (Or.inl rfl) (aH (K:=K) rfl<|pv 5) (λx x x x=>(ay 0)) (λx x x x=>(gL<|gC<|av me<|a7 (pv 2)<|a7 (pv 0)<|a7 (pv 3) aa)) λx x x x=>(bf (aL (K:=K) rfl) (pv 1) (pv 0) λx x=>rfl))
   (ao<|aG (bR (loc:=["bottom"]) (cap:=[("own",4)]) rfl (by o_readsAll)  (aH (K:=K) rfl<|pv 6) (λx x x x=>(ay 0)) (λx x x x=>(gL<|b9 lu (pv 0) (pv 1)<|b8 _)) λx x x x=>(fE<|a7 (aC (ft rfl) (by rfl) B.min iH<|a7 (pv 1)<|a7 (pv 0) aa)<|a7 (aC (gK rfl) (by rfl) B.max nr<|a7 (pv 1)<|a7 (pv 0) aa) aa)))))),
  λa=>BV.cast (aE 4 (bC aP bo dP) λown1=>(aE 5 ((i4.cast (aN<|au (aQ<|aA<|ag 0 rfl)<|au (ag 1 rfl)<|aA<|ag 3 rfl) Pu.as3)).ev λaround4=>(aE 6 ((du (aS aP<|ag 5 rfl) (by decide) (by decide) (aI 0) (λy6=>(lY<|aQ<|au (ag 2 rfl)<|au (ag 0 rfl)<|aA<|ag 3 rfl)) λy6=>(bC aP (ag 1 rfl)<|ag 0 rfl))).ev λbottoms7=>(cC (du (aS aP iy) (by decide) (by decide) (aI 0) (λy9=>(cj<|iJ gf aF aK)) λy9=>(gk (j5 aK aF)<|jT aK aF)))))) (by unfold Pf.pairs_at;o_reads)⟩
theorem uM :wy:=by
 have nd:=lQ.nd;refine al.d20.pL lQ (λx=>rfl) rfl λf ZP A outer s H E hr=>?_;have hu:=bg hr;exact⟨_,(ae (aq 2<|av kH<|a7 (pv 0)<|a7 (pv 1) aa)
   (ae (aq 3 Ak)
   (ae (bZ T2 rfl (aH (K:=K) rfl<|av gA<|a7 (pv 0) aa) (ay 4)
   (ao (bZ T2 rfl (aH (K:=K) rfl<|av uL<|a7 (pv 0)<|a7 (pv 1)<|a7 (pv 2)<|a7 (pv 4) aa) (ay 5)
   (ao<|dh<|pe_ddef hu (pv 3) (pv 5) (pv 4) ⟨rfl,rfl,rfl,rfl⟩))))
   (ao<|aG (bR (loc:=["pair"]) (cap:=[("found",3)]) rfl (by o_readsAll)  (aH (K:=K) rfl<|aC (uj rfl) (by rfl) B.sorted j3<|a7 (pv 3) aa) (λx x x x=>(ay 0)) (λx x x x=>bQ) λx x x x=>(ax (nQ (K:=K) rfl) (pv 0)<|fE<|a7 (jM hu (pv 1) (pv 0) λx x=>rfl) aa)))))),
  λa=>BV.cast (aE 2 ((aN<|au (ag 0 rfl)<|aA<|ag 1 rfl)).ev λbasins1=>(bv_newT 3 λfound3=>(bY (Γf:=λ(s5:(List<|(Int×Int)×Int))=>[.fr (rL<|rL a8) (a.1),.fr a8 (a.2),.fr (rL a8) (basins1),.ot a8 (s5),.any,.any]) (found3) (aS aP ((aN<|aA<|ag 0 rfl)).ev) (aw<|aw<|aw<|aw<|bI<|bI .nil) (λx=>(aI 4))
  (λs5 x4=>(bb (bY (Γf:=λ(s7:(List<|(Int×Int)×Int))=>[.fr (rL<|rL a8) (a.1),.fr a8 (a.2),.fr (rL a8) (basins1),.ot a8 (s7),.fr a8 (x4),.any]) (s5) (aS aP ((aN<|au (ag 0 rfl)<|au (ag 1 rfl)<|au (ag 2 rfl)<|aA<|ag 4 rfl)).ev) (aw<|aw<|aw<|aw<|aw<|bI .nil) (λx=>(aI 5))
  (λs7 x6=>(bb (bv_defT 3 rfl eW cy λfound8=>(bc (found8)<|aw<|aw<|aw<|aw<|aw<|bI .nil))))
  λs7=>(bc (s7)<|aw<|aw<|aw<|aw<|bI<|bI .nil))))
  λs5=>(cC<|Bu 3 rfl (mq aZ aZ aZ) (bU (aS aP ((wg<|ag 3 rfl)).ev) (by decide) (by decide) (aI 0) λy11=>(BA aF<|qY<|ev_ixDT aK aF)))))) (by unfold Pf.gU;o_reads)⟩
theorem kI :lh:=by
 have nd:=gz.nd;refine al.d21.pL gz (λx=>rfl) rfl λf ZP A outer s H E hr=>?_;have hu:=bg hr;exact⟨_,(ae (aq 3<|c5 (dt (K:=K) rfl) (by rfl) B.list_ dZ<|a7 (pv 0) aa)
   (ae (aq 4<|bG aa)
   (ae (bZ T2 rfl (fq rfl B.range<|a7 (aC (ba (K:=K) rfl) (by rfl) B.len cI<|a7 (pv 0) aa) aa) (ay 5)
   (ae (aq 6<|pv 2)
   (ae (dC (b9 (mE (K:=K) rfl hr.units) (pv 1) (bG aa)<|b8 _)
   (ao<|aq 6 (bf (aL (K:=K) rfl) (pv 1) (pv 5) λx x=>rfl))
   bv)
   (ae (dh<|gD (K:=K) rfl S8 N8 N9 dD (pv 4)<|a7 (gD (K:=K) rfl S8 PySem.F.slot_list_pop PySem.F.type_list_pop t5 (pv 3)<|a7 (ax cr (pv 6)<|aC (ba (K:=K) rfl) (by rfl) B.len cI<|a7 (pv 3) aa) aa) aa)
   (ao<|aq 2<|ax aV (ax cr (ax cp (pv 2) aj) aj) aj)))))
   (ao<|aG<|pv 4)))),
  λa=>BV.cast (cN 3 (iK aP aF) λleft1=>(cN 4 (bK (r:=(ju a8 a8 a8)) bJ) λfound2=>(bY (Γf:=λ(s4:Int×(List<|(Int×Int×Int))×(List<|(Int×Int×Int)))=>[.fr (rL<|ju a8 a8 a8) (a.1),.fr (rL a8) (a.2.1),.fr a8 (s4.1),.ol (ju a8 a8 a8) lX (s4.2.1),.ol (ju a8 a8 a8) lX (s4.2.2),.any,.any]) ((a.2.2,left1,found2)) (j6<|cK aP aF) (aw<|aw<|aw<|aw<|aw<|bI<|bI .nil) (λx=>(aI 5))
  (λs4 x3=>(aE 6 bo λat5=>(rj (Γj:=λ(s6:Int)=>[.fr (rL<|ju a8 a8 a8) (a.1),.fr (rL a8) (a.2.1),.fr a8 (s4.1),.ol (ju a8 a8 a8) lX (s4.2.1),.ol (ju a8 a8 a8) lX (s4.2.2),.fr a8 (x3),.fr a8 (s6)]) (bb (dE (cj<|rq (dL tI) aK ((bK (r:=a8) bJ)).ev)
  (aE 6 (bC aP aK eW) λat7=>(gP (at7)<|aw<|aw<|aw<|aw<|aw<|aw<|aw .nil))
  (bx<|gP (at5)<|aw<|aw<|aw<|aw<|aw<|aw<|aw .nil))) λs6=>(qo 4 3 (by decide) rfl rfl (vC 3 rfl aZ<|iI iy<|cK aP dP) λfound9 left11=>(bb (aE 2 (aX (di (i6 bo am (by decide)) am (by decide)) am) λnumber_here13=>(bc ((number_here13,left11,found9))<|aw<|aw<|aw<|aw<|aw<|bI<|bI .nil)))))))
  λs4=>(jU 4 rfl)))) (by unfold Pf.l9;first|(simp only[Pu.bs];done)|(simp only[Pu.bs,sH];done)|(simp only[Pu.bs,sH];rfl))⟩
theorem oX :pO:=by
 have nd:=iY.nd;refine al.d22.pL iY (λx=>rfl) rfl λf ZP A outer s H E hr=>?_;have hu:=bg hr;exact⟨_,(ae (aq 3<|c5 (dt (K:=K) rfl) (by rfl) B.list_ dZ<|a7 (pv 0) aa)
   (ae (aq 4<|bG aa)
   (ae (bZ T2 rfl (fq rfl B.range<|a7 (aC (ba (K:=K) rfl) (by rfl) B.len cI<|a7 (pv 0) aa) aa) (ay 5)
   (ae (aq 6<|pv 2)
   (ae (dC (b9 (mE (K:=K) rfl hr.units) (pv 1) (bG aa)<|b8 _)
   (ao<|aq 6 (bf (aL (K:=K) rfl) (pv 1) (pv 5) λx x=>rfl))
   bv)
   (ae (dh<|gD (K:=K) rfl S8 N8 N9 dD (pv 4)<|a7 (gD (K:=K) rfl S8 PySem.F.slot_list_pop PySem.F.type_list_pop t5 (pv 3)<|a7 (ax cr (pv 6)<|aC (ba (K:=K) rfl) (by rfl) B.len cI<|a7 (pv 3) aa) aa) aa)
   (ao<|aq 2<|ax aV (ax cr (ax cp (pv 2) aj) aj) aj)))))
   (ao<|aG<|pv 4)))),
  λa=>BV.cast (cN 3 (iK aP aF) λleft1=>(cN 4 (bK (r:=a8) bJ) λfound2=>(bY (Γf:=λ(s4:Int×(List<|Int)×(List<|Int))=>[.fr (rL a8) (a.1),.fr (rL a8) (a.2.1),.fr a8 (s4.1),.ol a8 lX (s4.2.1),.ol a8 lX (s4.2.2),.any,.any]) ((a.2.2,left1,found2)) (j6<|cK aP aF) (aw<|aw<|aw<|aw<|aw<|bI<|bI .nil) (λx=>(aI 5))
  (λs4 x3=>(aE 6 bo λat5=>(rj (Γj:=λ(s6:Int)=>[.fr (rL a8) (a.1),.fr (rL a8) (a.2.1),.fr a8 (s4.1),.ol a8 lX (s4.2.1),.ol a8 lX (s4.2.2),.fr a8 (x3),.fr a8 (s6)]) (bb (dE (cj<|rq (dL tI) aK ((bK (r:=a8) bJ)).ev)
  (aE 6 (bC aP aK eW) λat7=>(gP (at7)<|aw<|aw<|aw<|aw<|aw<|aw<|aw .nil))
  (bx<|gP (at5)<|aw<|aw<|aw<|aw<|aw<|aw<|aw .nil))) λs6=>(qo 4 3 (by decide) rfl rfl (vC 3 rfl aZ<|iI iy<|cK aP dP) λfound9 left11=>(bb (aE 2 (aX (di (i6 bo am (by decide)) am (by decide)) am) λnumber_here13=>(bc ((number_here13,left11,found9))<|aw<|aw<|aw<|aw<|aw<|bI<|bI .nil)))))))
  λs4=>(jU 4 rfl)))) (by unfold Pf.oE;first|(simp only[Pu.bs];done)|(simp only[Pu.bs,sH];done)|(simp only[Pu.bs,sH];rfl))⟩
theorem jC :i3 P w K mg base 1 "bottoms_by_cell" ["lines"] (spD (ce<|rL<|ju a8 a8 a8) (rL a8) λx=>Pf.dq x):=by
 have sc:FnScope ["lines","found","one","other","cell"] ["lines"] (ah gr):=by o_shape
 have nd:=sc.nd;refine al.d23.pD sc (λa=>rfl) rfl λf ZP A outer s H E hr=>?_;have hu:=bg hr;exact⟨_,ae (aq 1 jN)
  (ae (bZ T2 rfl (aH (K:=K) rfl<|pv 0) (jQ (K:=K) rfl rfl<|cG (ay 2)<|cG (ay 3)<|cG (ay 4) jI)
   (ao<|dh<|gD (K:=K) rfl S8 PySem.F.slot_list_extend PySem.F.type_list_extend yz (BC (pv 1) (pv 4) (bG aa) ⟨rfl,rfl,rfl,rfl⟩)<|a7 (bG<|a7 (pv 2)<|a7 (pv 3) aa) aa))
  (ao<|aG<|pv 1)),λa=>bv_ddX⟩
theorem eM :HasI P w K mg base 1 "Meetings" CM ["self","floor"] (spIM CM):=by
 have sc:FnScope ["self","floor"] ["self","floor"] (ah eX):=by o_shape
 refine al.d24.has sc (λvs H Q E h=>?_) λf ZP A outer s H vs Q E hr h=>?_
 ·exact oq32 h λx x x e x=>congrArg List.length e
 ·exact⟨_,ae (kN (pv 0) (pv 1) rfl)<|ao<|kN (pv 0) jN rfl,init_M kM rfl h⟩
theorem jD :kC:=by
 have nd:=fV.nd;refine al.d25.pV fV (λx=>rfl) rfl λf ZP A outer s H E hr=>?_;have hu:=bg hr;exact⟨_,(ae (aq 2<|pv 1)
   (ae (zQ T2 (zJ<|Ag hu (pv 2)<|cP (K:=K) rfl (pv 0) rfl)
   (ao<|aq 2 (bf (eA (K:=K) rfl) (jM hu (cP (K:=K) rfl (pv 0) rfl) (pv 2) λx x=>rfl) aj λx x=>rfl)))
   (ao<|aG<|pv 2))),
  λa=>BV.cast (aE 2 aK λhere1=>(bv_whS (Γf:=λ(s2:Int)=>[.fr (rM CM) (a.1),.fr a8 (a.2),.fr a8 (s2)]) 100000 (here1) (aw<|aw<|aw .nil) (λs2=>(lY<|AG bo<|l7 kM aF))
  (λs2=>(bb (aE 2 (nz<|gl<|qZ (l7 kM aF) bo) λhere4=>(bc (here4)<|aw<|aw<|aw .nil))))
  λs2=>(bD bo))) (by unfold Pf.bN;o_reads)⟩
theorem eN :nN P w K mg base 8 CM "let_meet" ["self","starts","meet"] (spM CM (aJ (rL a8)<|ce a8) a8 λx=>Pf.be x.1 x.2.1 x.2.2):=by
  have sc:FnScope ["self","starts","meet","#ended","met","elder","start"] ["self","starts","meet"] (ah eY):=by o_shape
  have nd:=sc.nd;refine al.d26.pM (n:=3) (gx:="#ended") sc (λh=>rfl) rfl rfl (by decide +kernel) λf ZP A outer s H E hr=>?_;have hu:=bg hr;refine⟨_,ae (js (loc:=["start"]) (cap:=[("self",0)]) (i:=4) rfl (by o_readsAll) nd rfl (Or.inl rfl) (aH (K:=K) rfl<|pv 1) (λh h h h=>(ay 0)) (λh h h h=>bQ) λh h h h=>(fO jD (pv 1) kM.c (hr.mono (by decide))<|a7 (pv 0) aa))
    (ae (aq 5<|av iZ<|a7 (cP (K:=K) rfl (pv 0) rfl)<|a7 (pv 4) aa)
    (ae (bZ T2 rfl (aH (K:=K) rfl<|pv 4) (ay 6)
      (ao<|dC (b9 lu (pv 6) (pv 5)<|b8 _) (ao<|qM hu (cP (K:=K) rfl (pv 0) rfl) (pv 6) (fE<|a7 (pv 2)<|a7 (pv 5) aa) rfl) bv))
    (ao<|aG<|pv 5))),λZZ p ended a=>BV.cast
    (aE 4 (tP 0 3 rfl rfl aZ (bU (aS aP<|ag 1 rfl) (by decide) (by decide) (aI 0) λy=>ev_meth ob_m (ag 1 rfl)<|aA<|ag 0 rfl)).ev λmet =>
     aE 5 (aQ<|au (vL kM aF)<|aA cy) λelder =>
     bY (Γf:=λ(s:bz)=>[.fr (nL CM) (ZZ,p),.fr (rL a8) a.1,.fr a8 a.2,.od rP (λb=>b=p) s,.fr (rL a8) met,.fr a8 elder,.any]) ended (aS aP cy) (aw<|aw<|aw<|aw<|aw<|aw<|bI .nil) (λh=>aI 6)
      (λs x=>bb (dE (cj<|iJ gf iy eW)
        (xt 3 (own_mE kM 0 3 rfl rfl) rfl iy (gk (gc bo)<|gc eW) λy=>bc y<|aw<|aw<|aw<|aw<|aw<|aw<|bI .nil)
        (bx<|bc s<|aw<|aw<|aw<|aw<|aw<|aw<|bI .nil)))
      λs=>bv_retM 3 rfl eW)
    (by unfold Pf.be;first|(simp only[Pu.bs,sH];done)|(simp only[Pu.bs,sH];rfl))⟩
theorem h9 :md:=by
 have nd:=gZ.nd;refine al.d27.pL gZ (λx=>rfl) rfl λf ZP A outer s H E hr=>?_;have hu:=bg hr;exact⟨_,(ao<|aG (bR (loc:=["start"]) (cap:=[("self",0)]) rfl (by o_readsAll)  (aH (K:=K) rfl<|pv 1) (λx x x x=>(ay 0)) (λx x x x=>bQ) λx x x x=>(ax (nQ (K:=K) rfl) (fE<|a7 (pv 0) aa)<|t8 hu (cP (K:=K) rfl (pv 1) rfl) (pv 0) (fE<|a7 eO<|a7 eO aa) ⟨rfl,rfl,rfl,rfl⟩))),
  λa=>BV.cast (cC (bU (aS aP aK) (by decide) (by decide) (aI 0) λy1=>(tO (qY aF)<|tN (l7 kM aK) aF<|gk i5 i5))) (by unfold Pf.eD;o_reads)⟩
theorem hJ :i3 P w K mg base 10 "tree_by_lines" pl8 (nC (aJ (rL<|rL a8)<|aJ (rL a8)<|ce<|rL<|ju a8 a8 a8) (ju a8 (cF a8)<|cF a8) λx=>Pf.dg x.1 x.2.1 x.2.2):=by
  have sc:FnScope ["floor","bottoms","lines","#ended","order","joined","meetings","cell"] pl8 (ah eT):=by o_shape
  have nd:=sc.nd;refine al.d28.pL sc (λh=>rfl) rfl λf ZP A outer s H E hr=>?_;have hu:=bg hr;refine⟨_,ae (aq 4<|av gA<|a7 (pv 0) aa)
    (ae (aq 5<|av jC<|a7 (pv 2) aa)
    (ae (aq 6<|nP eM (hr.mono (by decide)) rfl<|a7 (pv 0) aa)
    (vM (x:="#ended") 3 (ae (bZ T2 rfl (aH (K:=K) rfl<|pv 4) (ay 7)
      (ao<|dC (zJ<|Ag hu (pv 7)<|pv 5) (ao<|dh<|fO eN (pv 6) kM.c (hr.mono (by decide))<|a7 (jM hu (pv 5) (pv 7) λh h=>rfl)<|a7 (pv 7) aa) bv))
      (ao<|aG<|fO h9 (pv 6) kM.c (hr.mono (by decide))<|a7 (bR (loc:=["cell"]) (cap:=[("bottoms",1)]) rfl (by o_readsAll) (aH (K:=K) rfl<|pv 4) (λh h h h=>(ay 0)) (λh h h h=>(gL<|b9 (op_inK (K:=K) rfl) (pv 0) (pv 1) (by with_unfolding_all rfl))) λh h h h=>(pv 0)) aa))
      rfl (show jX (ah eT) "#ended"=true by decide +kernel)))),λa=>BV.cast
    (aE 4 (aN<|aA<|ag 0 rfl).ev λorder=>aE 5 (AE<|aA<|ag 2 rfl).ev λjoined =>
     BH 6 3 (aA aF) λZZ p =>
     bY (Γf:=λ(s:bz)=>[.fr rF a.1,.fr (rL a8) a.2.1,.fr (rL<|ju a8 a8 a8) a.2.2,.od rP (λb=>b=p) s,.fr (rL a8) order,.fr (rD<|rL a8) joined,.fr (nL CM) (ZZ,p),.any]) [] (aS aP cy) (aw<|aw<|aw<|aw<|aw<|aw<|aw<|bI .nil) (λh=>aI 7)
      (λs x=>bb (dE (lY<|AG gq eW)
        (BG (g:=3) (BF 6 rfl rfl<|au (qZ eW gq)<|aA gq) λe=>bc e<|aw<|aw<|aw<|aw<|aw<|aw<|aw<|bI .nil)
        (bx<|bc s<|aw<|aw<|aw<|aw<|aw<|aw<|aw<|bI .nil)))
      λs=>cC<|tP 6 3 rfl rfl (mq aZ (gb aZ)<|gb aZ)<|nM ob_m iy<|aA (du (aS aP<|ag 4 rfl) (by decide) (by decide) (aI 0) (λy=>(cj<|ev_inL fe_int (ag 0 rfl)<|ag 1 rfl)) λy=>(ag 0 rfl)).ev)
    (by unfold Pf.dg;first|(simp only[Pu.bs,sH];done)|(simp only[Pu.bs,sH];rfl))⟩
theorem Ck :H_whole:=by
 have nd:=uJ.nd;refine al.d29.pV uJ (λx=>rfl) rfl λf ZP A outer s H E hr=>?_;have hu:=bg hr;exact⟨_,(ae (dC (b9 uY (pv 1) eO<|b8 _)
   (ao<|aG<|fY uY (pv 0) eO<|b8 _)
   bv)
   (ao<|aG<|uU (aC (gN (K:=K) (T:="int") rfl) (by rfl) B.isinstance df<|a7 (pv 0)<|a7 (jG (v:=.ty "int") rfl B.int_ vj rfl) aa)<|uU (pe_not<|aC (gN (K:=K) (T:="bool") rfl) (by rfl) B.isinstance df<|a7 (pv 0)<|a7 (jG (v:=.ty "bool") rfl B.bool_ bo_bool rfl) aa)<|zL<|fY iF (pv 0) (pv 1)<|b8 _)),
  λa=>BV.cast (dE (cj<|vw aK nA)
  (dN<|bD<|vw aF nA)
  (bx<|bD<|rB (nD aF isi_oi)<|rB (ev_not<|nD aF isi_ob)<|fL sc_oo aF aK)) (by unfold Pf.ko;o_reads)⟩
theorem wA :zC:=by
 have nd:=oV.nd;refine al.d30.pV oV (λb=>rfl) rfl λf ZP A outer s H E hr=>?_;have hu:=bg hr;exact⟨_,(ae (dC (PW.pt<|sM (jo<|gC<|aC (gN (K:=K) (T:="list") rfl) (by rfl) B.isinstance df<|a7 (pv 0)<|a7 (jG (v:=.ty "list") rfl B.list_ dZ rfl) aa)<|mQ<|b9 lu (aC (ba (K:=K) rfl) (by rfl) B.len cI<|a7 (pv 0) aa) (aC (ba (K:=K) rfl) (by rfl) B.len cI<|a7 (pv 1) aa)<|b8 _)
   (ao<|aG lj)
   bv)
   (ae (bZ T2 rfl (wY (K:=K) rfl rfl B.zip<|a7 (pv 0)<|a7 (pv 1) aa) (jQ (K:=K) (n:=2) rfl rfl<|cG (ay 2)<|cG (ay 3) jI)
   (ao (dC (jo<|gC<|av Ck<|a7 (pv 2)<|a7 (pv 3) aa)
   (ao<|aG lj)
   bv)))
   (ao<|aG lj))),
  λa=>BV.cast (dE (vD (jx<|lY<|nD aF AH)<|cj<|iJ gf (cK aP aF)<|cK aP aK)
  (dN<|bD lD)
  (bx (rm (Γf:=λ(s2:Unit)=>[.fr (rL<|cF a8) (a.1),.fr (rL<|cF a8) (a.2),.any,.any]) (rf:=rg bq) (e:=(λx=>x)) (()) (AJ aF aK) (aw<|aw<|bI<|bI .nil) (λb=>(mC 2 3))
  (λs2 x1=>(bb (dE (jx<|lY<|aQ<|au bo<|aA dP)
  (dN<|xr<|bD lD)
  (bx<|tF (())<|aw<|aw<|bI<|bI .nil))))
  rfV (λb b b h=>h) λs2=>(bD lD)))) (by unfold Pf.fQ;o_reads)⟩
theorem li :Cg:=by
 have nd:=qB.nd;refine al.d31.pV qB (λb=>rfl) rfl λf ZP A outer s H E hr=>?_;have hu:=bg hr;exact⟨_,(ae (dC (PW.pt<|sM (jo<|gC<|aC (gN (K:=K) (T:="list") rfl) (by rfl) B.isinstance df<|a7 (pv 0)<|a7 (jG (v:=.ty "list") rfl B.list_ dZ rfl) aa)<|mQ<|b9 lu (aC (ba (K:=K) rfl) (by rfl) B.len cI<|a7 (pv 0) aa) (aC (ba (K:=K) rfl) (by rfl) B.len cI<|a7 (pv 1) aa)<|b8 _)
   (ao<|aG lj)
   bv)
   (ae (bZ T2 rfl (wY (K:=K) rfl rfl B.zip<|a7 (pv 0)<|a7 (pv 1) aa) (jQ (K:=K) (n:=2) rfl rfl<|cG (ay 2)<|cG (ay 3) jI)
   (ao (dC (PW.pt<|sM (jo<|gC<|aC (gN (K:=K) (T:="tuple") rfl) (by rfl) B.isinstance df<|a7 (pv 2)<|a7 (jG (v:=.ty "tuple") rfl B.tuple_ Ax rfl) aa)<|mQ<|jo<|gC<|av wA<|a7 (c5 (dt (K:=K) rfl) (by rfl) B.list_ dZ<|a7 (pv 2) aa)<|a7 (c5 (dt (K:=K) rfl) (by rfl) B.list_ dZ<|a7 (pv 3) aa) aa)
   (ao<|aG lj)
   bv)))
   (ao<|aG lj))),
  λa=>BV.cast (dE (vD (jx<|lY<|nD aF AH)<|cj<|iJ gf (cK aP aF)<|cK aP aK)
  (dN<|bD lD)
  (bx (rm (Γf:=λ(s2:Unit)=>[.fr (rL<|ju a8 (cF a8)<|cF a8) (a.1),.fr (rL<|ju a8 (cF a8)<|cF a8) (a.2),.any,.any]) (rf:=rg bq) (e:=(λx=>x)) (()) (AJ aF aK) (aw<|aw<|bI<|bI .nil) (λb=>(mC 2 3))
  (λs2 x1=>(bb (dE (AC (jx<|lY<|nD bo isi_t3)<|jx<|lY<|aQ<|au ((jj<|ag 2 rfl)).ev (aA ((jj<|ag 3 rfl)).ev))
  (dN<|xr<|bD lD)
  (bx<|tF (())<|aw<|aw<|bI<|bI .nil))))
  rfV (λb b b h=>h) λs2=>(bD lD)))) (by unfold Pf.dY;o_reads)⟩
theorem kJ :HasI P w K mg base 4 "Water" CW pl5 (spIW CM CW λx=>Pf.kj x):=by
 have sc:FnScope pl5 pl5 (ah gX):=by o_shape
 refine al.d32.has sc (λvs H Q E h=>?_) λf ZP A outer s H vs Q E hr h=>?_
 ·exact oq72 h λa a a a a a a e a=>congrArg List.length e
 ·exact⟨_,ae (kN (pv 0) (pv 1) rfl) (ae (kN (pv 0) (pv 2) rfl) (ae (kN (pv 0) (bR (loc:=["cell"]) (cap:=[]) rfl (by o_readsAll) (aH (K:=K) rfl<|av fk<|a7 (pv 1) aa) (λa a a a=>(ay 0)) (λa a a a=>bQ) λa a a a=>eO) rfl)
   (ao<|kN (pv 0) (nP eM (hr.mono (by decide)) rfl<|a7 (pv 1) aa) rfl))),
   init_W kW (λZZ reach=>(show i4 _ _ _ _ from bU (aS aP (aN<|aA<|ag 1 rfl).ev) (by decide) (by decide) (aI 0) λy=>i5).cast (by unfold Pf.kj;simp only[Pu.bs])) rfl h⟩
theorem iC :iW:=by
 have nd:=dW.nd;refine al.d33.pL dW (λx=>rfl) rfl λf ZP A outer s H E hr=>?_;have hu:=bg hr;exact⟨_,(ae (aq 2<|av gH<|a7 (av fX<|a7 (cP (K:=K) rfl (pv 0) rfl) aa)<|a7 (cP (K:=K) rfl (pv 0) rfl)<|a7 (pv 1) aa)
   (ao<|aG (bR (loc:=["other"]) (cap:=[("self",0)]) rfl (by o_readsAll)  (aH (K:=K) rfl<|pv 2) (λx x x x=>(ay 0)) (λx x x x=>(gL<|b9 wK (bf (aL (K:=K) rfl) (cP (K:=K) rfl (pv 1) rfl) (pv 0) λx x=>rfl) eO<|b8 _)) λx x x x=>(bf (aL (K:=K) rfl) (cP (K:=K) rfl (pv 1) rfl) (pv 0) λx x=>rfl)))),
  λa=>BV.cast (aE 2 ((i4.cast (aN<|au (aQ<|aA<|yS kW<|ag 0 rfl)<|au (yT kW<|ag 0 rfl)<|aA<|ag 1 rfl) Pu.as3)).ev λaround2=>(cC (du (aS aP bo) (by decide) (by decide) (aI 0) (λy4=>(cj<|xh (bC aP (l8 kW aK) aF) nA)) λy4=>(nz<|bC aP (l8 kW aK) aF)))) (by unfold Pf.bH;o_reads)⟩
theorem kK :nN P w K mg base 9 CW "let_come" pl3 (spW CM CW (ce a8) λx=>Pf.cb x.1 x.2):=by
  have sc:FnScope ["self","cell","#homes","#ended","homes"] pl3 (ah gY):=by o_shape
  have nd:=sc.nd;refine al.d34.pW (n:=1) (gx:="#homes") (gy:="#ended") sc (λb=>rfl) rfl rfl (by decide +kernel) rfl (by decide +kernel) λf ZP A outer s H E hr=>?_;have hu:=bg hr;refine⟨_,ae (aq 4<|fO iC (pv 0) kW.c (hr.mono (by decide))<|a7 (pv 1) aa)
    (ao<|uW (iE (wX (K:=K) rfl (pv 4) λb=>rfl) (fO eN (cP (K:=K) rfl (pv 0) rfl) kM.c (hr.mono (by decide))<|a7 (pv 4)<|a7 (pv 1) aa)<|pv 1)<|uV (cP (K:=K) rfl (pv 0) rfl) (pv 1) set_list),λZZ reach hh p homes ended a=>BV.cast
    (aE 4 (B3 0 2 3 rfl rfl rfl (by decide) aZ<|nM ob_w (ag 0 rfl)<|aA<|ag 1 rfl).ev λhs =>
     bb (yU (g:=3) 2 (by decide) (λe=>own_wH kW 0 2 rfl rfl) rfl (λe=>aK) (em_some<|em_if (xi aP cy) (em_meth kW 0 rfl rfl<|au cy<|aA aK)<|em_pure rfl aK)
      λys e=>bv_endW 2 3 rfl rfl))
    (by unfold Pf.cb;first|(simp only[Pu.bs,sH];done)|(simp only[Pu.bs,sH];rfl))⟩
theorem pP :i3 P w K mg base 11 "water_over" pl7 (qX (aJ rF<|aJ a8<|ce<|rL a8) (rW CM CW) λx=>Pf.fP x.1 x.2.1 x.2.2):=by
  have sc:FnScope ["floor","reach","cells","#homes","#ended","water","cell"] pl7 (ah fj):=by o_shape
  have nd:=sc.nd;refine al.d35.pV sc (λh=>rfl) rfl λf ZP A outer s H E hr=>?_;have hu:=bg hr;refine⟨_,ae (aq 5<|nP kJ (hr.mono (by decide)) rfl<|a7 (pv 0)<|a7 (pv 1) aa)
    (vM (x:="#homes") 3 (vM (x:="#ended") 4 (ae (bZ T2 rfl (aH (K:=K) rfl<|pv 2) (ay 6)<|ao<|dh<|fO kK (pv 5) kW.c (hr.mono (by decide))<|a7 (pv 6) aa)
      (ao<|aG<|pv 5)) rfl (show jX (ah fj) "#ended"=true by decide +kernel)) rfl (show jX (ah fj) "#homes"=true by decide +kernel)),λa=>BV.cast
    (bv_make 5 3 4 ⟨by decide,by decide,by decide,(show 3<7 by decide),(show 4<7 by decide)⟩ (au aF<|aA aK) λZZ reach hh p homes =>
     bY (Γf:=λ(s:List (Option Int)×bz)=>[.fr rF a.1,.fr a8 a.2.1,.fr (rL a8) a.2.2,.ol (cF a8) (λb=>b=hh) s.1,.od rP (λb=>b=p) s.2,.fr (oY CM CW) (ZZ,reach,hh,p),.any]) (homes,[]) (aS aP bo) (aw<|aw<|aw<|aw<|aw<|aw<|bI .nil) (λh=>aI 6)
      (λs x=>bb<|bv_come 5 3 4 (by decide) rfl rfl rfl (aA iy) (λhs es=>bc (hs,es)<|aw<|aw<|aw<|aw<|aw<|aw<|bI .nil) ob_w0)
      λs=>bv_retW 5 3 4 (by decide) rfl rfl rfl ⟨by decide,by decide,(show 5<7 by decide)⟩)
    (by unfold Pf.fP;first|(simp only[Pu.bs,sH];done)|(simp only[Pu.bs,sH];rfl))⟩
theorem wB :zD:=by
 have nd:=oW.nd;refine al.d36.pL oW (λx=>rfl) rfl λf ZP A outer s H E hr=>?_;have hu:=bg hr;exact⟨_,(ae (aq 2<|av gA<|a7 (pv 0) aa)
   (ae (aq 3<|av pP<|a7 (pv 0)<|a7 (pv 1)<|a7 (pv 2) aa)
   (ao<|aG<|fO h9 (cP (K:=K) rfl (pv 3) rfl) kM.c (hr.mono (by decide))<|a7 (bR (loc:=["cell"]) (cap:=[("water",3)]) rfl (by o_readsAll)  (aH (K:=K) rfl<|pv 2) (λx x x x=>(ay 0)) (λx x x x=>(gL<|b9 iF (bf (aL (K:=K) rfl) (cP (K:=K) rfl (pv 1) rfl) (pv 0) λx x=>rfl) (pv 0)<|b8 _)) λx x x x=>(pv 0)) aa))),
  λa=>BV.cast (aE 2 ((aN<|aA<|ag 0 rfl)).ev λorder1=>(aE 3 (aQ<|au aF<|au aK<|aA bo) λwater3=>(cC<|nM ob_m (B1 kW dP)<|aA ((du (aS aP<|ag 2 rfl) (by decide) (by decide) (aI 0) (λy5=>(cj<|fL sc_oi (bC aP (l8 kW<|ag 1 rfl)<|ag 0 rfl)<|ag 0 rfl)) λy5=>(ag 0 rfl))).ev))) (by unfold Pf.j9;o_reads)⟩
theorem ok_law{f:Addr}{fd:FuncData}(F:Fun K "law" "law" qx f fd)(hl:∀ns:List Int,ns.length<=63->Pf.kq ns=some true):FnOk P w K mg base uQ 13 f fd ["_law_script"] (vE K):=by
 have nd:=Ci.nd;refine F.law (fl:=Pf.kq) Ci rfl hl λf ZP A outer s H E hr=>?_;have hu:=bg hr;exact⟨_,(ae (aq 1<|av Cj<|a7 (pv 0)<|a7 aj aa)
   (ae (aq 2 (bf (aL (K:=K) rfl) (bG<|a7 aj<|a7 aj aa) (ax cr (av fW<|a7 (pv 0)<|a7 aj aa) aj) λx x=>rfl))
   (ae (aq 3<|av ok_tree<|a7 (pv 1)<|a7 (pv 2) aa)
   (ae (aq 4<|av jb<|a7 (pv 0)<|a7 aj<|a7 (ax qG aj aj) aa)
   (ae (aq 5<|aC (w8 rfl) (by rfl) B.sorted j3<|a7 (c5 (yY (K:=K) rfl rfl) (by rfl) B.set_ bo_set<|a7 (av kH<|a7 (pv 1)<|a7 (pv 2) aa) aa) aa)
   (ae (aq 6<|av uM<|a7 (pv 1)<|a7 (pv 2) aa)
   (ae (aq 7<|av qC<|a7 (av fW<|a7 (pv 0)<|a7 aj aa)<|a7 (ax aV (aC (ba (K:=K) rfl) (by rfl) B.len cI<|a7 (pv 5) aa)<|aC (ba (K:=K) rfl) (by rfl) B.len cI<|a7 (pv 6) aa)<|a7 aj aa)
   (ae (aq 6<|av kI<|a7 (pv 6)<|a7 (jL (jP (K:=K) rfl) (pv 7) (j1<|aC (ba (K:=K) rfl) (by rfl) B.len cI<|a7 (pv 5) aa) wM)<|a7 (ax de (pv 4) aj) aa)
   (ae (aq 5<|av oX<|a7 (pv 5)<|a7 (pv 7)<|a7 (pv 4) aa)
   (ae (aq 8<|bG<|a7 (bR (loc:=["_law_row"]) (cap:=[]) rfl (by o_readsAll)  (aH (K:=K) rfl<|pv 1) (λx x x x=>(ay 0)) (λx x x x=>bQ) λx x x x=>(c5 (dt (K:=K) rfl) (by rfl) B.list_ dZ<|a7 (pv 0) aa))<|a7 (c5 (dt (K:=K) rfl) (by rfl) B.list_ dZ<|a7 (pv 5) aa)<|a7 (c5 (dt (K:=K) rfl) (by rfl) B.list_ dZ<|a7 (pv 6) aa) aa)
   (ae (aq 9<|av hJ<|a7 (bf (aL (K:=K) rfl) (pv 8) aj λx x=>rfl)<|a7 (bf (aL (K:=K) rfl) (pv 8) aj λx x=>rfl)<|a7 (bf (aL (K:=K) rfl) (pv 8) aj λx x=>rfl) aa)
   (ae (dC (PW.pt<|sM (jo<|gC<|av li<|a7 (pv 9)<|a7 (pv 3) aa)<|mQ<|b9 (mE (K:=K) rfl hr.units) (pv 8) (bG<|a7 (pv 1)<|a7 (pv 5)<|a7 (pv 6) aa)<|b8 _)
   (ao<|aG lj)
   bv)
   (ae (dC (jo<|gC<|av li<|a7 (av wB<|a7 (bf (aL (K:=K) rfl) (pv 8) aj λx x=>rfl)<|a7 (pv 2) aa)<|a7 (pv 3) aa)
   (ao<|aG lj)
   bv)
   (ae (dh<|pe_bm0K (K:=K) rfl S8 PySem.F.slot_list_clear PySem.F.type_list_clear A9<|pv 9)
   (ao<|aG<|av li<|a7 (av hJ<|a7 (pv 1)<|a7 (pv 5)<|a7 (pv 6) aa)<|a7 (pv 3) aa))))))))))))))),
  λa=>BV.cast (aE 1 ((aN<|au (ag 0 rfl)<|aA am)).ev λfloor_here1=>(aE 2 (bC aP ((bK<|bT am<|bT am bJ)).ev (di (aQ<|au aF<|aA am) am (by decide))) λreach5=>(aE 3 ((aN<|au (ag 1 rfl)<|aA<|ag 2 rfl)).ev λdue7=>(aE 4 (aQ<|au aF<|au am<|aA<|mD (v:=1000000000) am am (by decide)) λnumber_here9=>(aE 5 ((z6<|ev_setW ((aN<|au (ag 1 rfl)<|aA<|ag 2 rfl)).ev)).ev λbottoms12=>(aE 6 ((aN<|au (ag 1 rfl)<|aA<|ag 2 rfl)).ev λlines14=>(aE 7 ((i4.cast (aN<|au (aQ<|au (ag 0 rfl)<|aA am)<|au (aX (cK aP<|ag 5 rfl)<|cK aP<|ag 6 rfl)<|aA am) Pu.as3)).ev λdigits_here17=>(aE 6 ((aN<|au (ag 6 rfl)<|au ((mw aP (ag 7 rfl) (j4<|cK aP<|ag 5 rfl) xm)).ev (aA<|nF (ag 4 rfl) am (by decide)))).ev λlines19=>(aE 5 ((aN<|au (ag 5 rfl)<|au (ag 7 rfl)<|aA<|ag 4 rfl)).ev λbottoms21=>(aE 8 (xP ((bU (aS aP<|ag 1 rfl) (by decide) (by decide) (aI 0) λy23=>((iK aP<|ag 0 rfl)).ev)).ev ((iK aP<|ag 5 rfl)).ev ((iK aP<|ag 6 rfl)).ev) λhanded25=>(cN 9 (aN<|au (xQ iR)<|au (ev_h3_1 iR)<|aA<|ev_h3_2 iR) λfound27=>(dE (AI 9 rfl<|AC (jx<|lY<|aQ<|au (ag 9 rfl)<|aA dP)<|cj<|rq (dH3 (dL<|dL tI) (dL tI)<|dL<|dT3 tI tI tI) iR<|xP aK eW iy)
  (dN<|bD lD)
  (bx (dE (jx<|lY<|EV.cast (aQ<|au ((aN<|au (xQ<|ag 8 rfl)<|aA<|ag 2 rfl)).ev (aA<|ag 3 rfl)) Pu.as2)
  (dN<|bD lD)
  (bx (AR 9 rfl λfound33=>(bD<|EV.cast (aQ<|au ((aN<|au (ag 1 rfl)<|au (ag 5 rfl)<|aA<|ag 6 rfl)).ev (aA<|ag 3 rfl)) Pu.as2))))))))))))))))) (by unfold Pf.kq;first|(simp only[Pu.bs];done)|(simp only[Pu.bs,sH];done)|(simp only[Pu.bs,sH];rfl))⟩
end
end K23
namespace Pu
open Gr
theorem zF{α:Type}:∀{zs:List α} {i:Nat} (h:i<zs.length),(zs[i] ::zs.eraseIdx i).Perm zs:=by
 intro zs;induction zs with
 |nil=>exact λh=>nomatch h
 |cons a zs ih =>
  intro i h;cases i with
  |zero=>exact .refl _
  |succ i=>exact(List.Perm.swap a _ _).trans ((ih<|Nat.lt_of_succ_lt_succ h).cons a)
theorem Cm{α:Type}{zs:List α}(h0:0<=v)(h1:v<(zs.length:Int))(hl:zs.length<=1000000):∃a,oA zs v=some (a,zs.eraseIdx v.toNat)/\(a ::zs.eraseIdx v.toNat).Perm zs:=by
 have ht:v.toNat<zs.length:=by lia
 refine⟨zs[v.toNat],?_,zF ht⟩;unfold oA;rw[if_pos ⟨by lia,by lia⟩,PySem.StrLaws.seqIndex_nonneg h0 h1];show (zs[v.toNat]?).map _=_;rw[Z9 ht];rfl
def ohB{α:Type}(D:ZW)(s4:Int×(List α)×(List α))(x3:Int):Option (Int×(List α)×(List α)):=(if (!decide (D=[]))=true then (Pu.at_ D x3).bind λat8=>some (at8) else some (s4.1)).bind λs6=>(Pu.fmod s6<|Pu.ln s4.2.1).bind λx15=>(Pu.oA s4.2.1 x15).bind λq14=>(Pu.app s4.2.2 q14.1).bind λfound10=>some<|(((s4.1*48271)%2147483647)+1,(q14.2),found10)
theorem Co{α:Type}{xs:List α}(num:Int)(hD:D=[]\/xs.length<=D.length)(hl:xs.length<=1000000):∃ys,((Pu.jw<|Pu.ln xs).bind λx16=>(Pu.bB (ohB D) x16 (num,xs,[])).bind λs4=>some<|s4.2.2)=some ys/\ys.Perm xs:=by
 refine cM (eJ (f:=ohB D) (xs:=nats xs.length) (s:=(num,xs,[])) (λi s=>s.2.2.length=i/\(s.2.2++s.2.1).Perm xs) ⟨rfl,.refl _⟩ ?_) λs e h1 h2=>⟨s.2.2,dQ (iT hl)<|dQ e rfl,?_⟩
 ·intro i y s hy h;have hy:=ul hy;have hs:=h.2.length_eq;rw[Y9,h.1]at hs;have pos:(0:Int)<Pu.ln s.2.1:=by unfold Pu.ln;lia
  have e1:∃v,(if (!decide (D=[]))=true then (Pu.at_ D y).bind λat8=>some (at8) else some (s.1))=some v:=by
   by_cases q:D=[]
   ·exact⟨_,if_neg (by rw[decide_eq_true q];exact Y3)⟩
   ·exact⟨_,(if_pos (by rw[decide_eq_false q];rfl)).trans (dQ (by rw[hy.2,cX];exact Z9<|cf hy.1<|hD.resolve_left q) rfl)⟩
  refine dI e1 λv e1=>aU (Cm (zs:=s.2.1) (v:=v%Pu.ln s.2.1) (Int.emod_nonneg _<|Int.ne_of_gt pos) (Int.emod_lt_of_pos _ pos) (by lia)) λa e2 pm=>⟨_,dQ e1<|dQ (im pos)<|dQ e2<|dQ (jB (by rw[h.1];exact aR (ci hy.1) hl)) rfl,?_,?_⟩
  ·show (s.2.2++[a]).length=_;rw[Y9,h.1];rfl
  ·show ((s.2.2++[a])++s.2.1.eraseIdx _).Perm xs;rw[X3];exact(pm.append_left s.2.2).trans h.2
 ·rw[fR]at h1;have hs:=h2.length_eq;rw[Y9,h1]at hs;have:s.2.1=[]:=List.length_eq_zero_iff.mp (by lia);rw[this,W9]at h2;exact h2
end Pu
namespace K23
open Fl Pu Gr Pf
set_option tactic.hygienic true in
theorem mn_of{r c:Nat}(h:1<=r)(h1:1<=c)(h2:c<=12):∃k:Nat,Pu.mn (r:Int) (72/(c:Int))=(k:Int)/\1<=k/\k<=r/\k*c<=72:=by
 have e:(72:Int)/(c:Int)=((72/c:Nat):Int):=(Int.natCast_ediv 72 c).symm;have h5:6<=72/c:=(Nat.le_div_iff_mul_le h1).mpr (Nat.mul_le_mul_left 6 h2);have hd:72/c*c<=72:=Nat.div_mul_le_self 72 c;rw[e];unfold Pu.mn;split
 ·exact(jc (72/c) rfl (aR (by decide) h5) (ci<|M3.mp (by assumption)) hd)
 ·rename_i q;exact(jc r rfl h (bi _)<|aR (R9 c<|Int.ofNat_le.mp<|Int.not_lt.mp q) hd)
theorem chunk_len(hi:i<k)(h:k*c<=72):min c (74-(2+i*c))=c:=by have q:=R9 c<|Nat.succ_le_of_lt hi;rw[Nat.succ_mul]at q;exact O3<|Nat.le_sub_of_add_le<|aR (bM (by rw[Nat.add_left_comm,Nat.add_comm c]))<|E9 (aR q h) 2
theorem uN(ns:ZW):∃ZZ c,Pf.iS ns 72=some ZZ/\ShpW ZZ c 72:=by
 have ca:=fS ns 0;rw[show ((0:Nat):Int)=0 from rfl]at ca;have f:=ux ns (most:=72) (by decide) (by decide);unfold Pf.oC at f;rw[ca,bs]at f;unfold Pf.iS;rw[ca,bs];obtain⟨ds,e1,h1,h2⟩:=digits_eq (cellAt ns 0) 74 (by decide) (base:=1000000000000000001) ⟨by decide,by decide⟩;rw[show Pf.digits (cellAt ns 0) (72+2) (1000000000000000000+1)=some ds from e1,bs];by_cases q:ds=[]
 ·rw[if_neg (by simp[q]),bs];exact f
 ·rw[if_pos (by simp[q])];have hl:ds.length=74:=h1.resolve_left q;have g0:Pu.at_ ds 0=some ds[0]:=(cX (i:=0)).trans (Z9 (by lia));have g1:Pu.at_ ds 1=some ds[1]:=(cX (i:=1)).trans (Z9 (by lia));rw[g0,bs,bs,bs,g1,bs,bs,bs];obtain⟨c,hc,c1,c2⟩:=xV ds[0];obtain⟨r,hr,r1,r2⟩:=xV ds[1];rw[hc,hr];have c0:(0:Int)<(c:Int):=M3.mpr c1;have c64:(c:Int)<2^64:=Int.lt_of_le_of_lt (Int.ofNat_le.mpr c2) (by decide);rw[ik ⟨c0,c64⟩,bs,bs];obtain⟨k,hk,k1,k2,k3⟩:=mn_of (c:=c) r1 c1 c2;rw[hk,iT (aR (aR k2 r2) (by decide)),bs];refine⟨(X5 k).map λi=>(ds.drop<|2+i*c).take c,c,?_,?_⟩
  ·rw[cx (g:=λy=>(ds.drop<|2+y.toNat*c).take c) (by rw[fR];exact aR (aR k2 r2) (by decide)) λy hy=>?_]
   ·unfold nats;rw[T4];congr 1
   ·obtain⟨i,_,e⟩:=um.mp hy;rw[e,kx ⟨Int.lt_trans (by decide) c0,c64⟩,bs,bs,bs,kx ⟨Int.lt_trans (by decide) c0,c64⟩,bs,bs,bs,W0];have e1:2+(i:Int)*(c:Int)=((2+i*c:Nat):Int):=by rw[J8,Int.natCast_mul];rfl
    have e2:2+((i:Int)+1)*(c:Int)=((2+(i+1)*c:Nat):Int):=by rw[J8,Int.natCast_mul];rfl
    rw[e1,e2,cut_nat,Nat.succ_mul,<- Nat.add_assoc,Q0]
  ·refine⟨by rw[Z8,U1];exact k1,by rw[Z8,U1];exact aR k2 r2,c1,c2,λx hx=>?_,by rw[Z8,U1];exact k3,λx hx y hy=>?_⟩
   ·obtain⟨i,hi,e⟩:=W6.mp hx;rw[<- e,R5,K4,hl];exact chunk_len (M5.mp hi) k3
   ·obtain⟨i,_,e⟩:=W6.mp hx;rw[<- e]at hy;have:=h2 y<|G9<|F7 hy;exact⟨this.1,Int.lt_add_one_iff.mp this.2⟩
theorem half_lt(hc:0<c):x%c/2<(c+1)/2:=by have:=Nat.mod_lt x hc;lia
theorem Cp{reach:Int}(hc:0<c)(ne:x≠y)(e:x/c*((c+1)/2)+x%c/2=y/c*((c+1)/2)+y%c/2):qO c reach x y=true:=by
 have lx:=half_lt (x:=x) hc;have ly:=half_lt (x:=y) hc;generalize (c+1)/2=K at *;have K0:0<K:=eU (U5 _) lx;have e1:x/c=y/c:=by have:=congrArg (· / K) e;simpa [Nat.mul_comm _ K,Nat.mul_add_div K0,Nat.div_eq_of_lt lx,Nat.div_eq_of_lt ly] using this
 rw[e1]at e;have e2:x%c/2=y%c/2:=Nat.add_left_cancel e;have n2:x%c≠y%c:=λz=>ne (by rw[<- Nat.div_add_mod x c,<- Nat.div_add_mod y c,e1,z]);unfold qO;rw[decide_eq_true_eq,e1];refine .inl ?_;unfold ng;split<;>split<;>lia
theorem few(h1:m*c<=72)(h2:m<=12):m*((c+1)/2)<64:=by
 have q:m*((c+1)/2)*2<=m*(c+1):=by rw[Nat.mul_assoc];exact Nat.mul_le_mul_left m<|Nat.div_mul_le_self _ _
 rw[Nat.mul_succ]at q;lia
theorem ir(l:List (Int×Option Int×Option Int)):Pf.dY l l=some true:=by unfold Pf.dY;rw[if_neg (by simp),kr];rintro⟨a,b⟩ hp;have e:a=b:=Pf.uw hp;subst e;exact dQ ((if_neg Y3).trans (dQ (pK _) rfl)) rfl
structure z9(ZZ:ZM)(c:Nat)(reach:Int)(os:ZU)(bot:ZL)(ls:Zv)(Z:ZW):Prop where
 ord:Ord ZZ.flatten os
 io:Pf.bj ZZ=some (cl os)
 eb:((Pf.dH ZZ reach).bind λx9=>(Pu.mset x9).bind λz=>Pu.sortI z)=some Z
 el:Pf.gU ZZ reach=some ls
 B:Bots (Nb ZZ.length c reach) (ZZ.length*c) (rk os) bot
 L:Lns (Nb ZZ.length c reach) (ZZ.length*c) (rk os) bot ls
 zm:∀x,x∈Z↔∃y,y<ZZ.length*c/\x=((bot y:Nat):Int)
 len:ls.length<=144*144
 zl:Z.length<64
theorem std(S:ShpW ZZ c 72)(reach:Int):∃os bot ls Z,z9 ZZ c reach os bot ls Z:=by
 have c9:c<=900:=aR S.cmost (by decide);have m9:ZZ.length<=900:=aR S.most12 (by decide);have ZR:ZZ.flatten.length=ZZ.length*c:=br S.row;obtain⟨os,ho,o⟩:=pJ S.pos S.cpos c9 m9 S.row;obtain⟨E,Lw,hf⟩:=low_of (reach:=reach) S.pos S.cpos c9 m9 S.row o;have hb:=sB S.pos S.cpos c9 m9 S.row ho o Lw hf;have B:=bots_of (A:=Nb ZZ.length c reach) Lw (λx hx y hy=>(ip hx).mpr hy) λx hx=>ci<|ZR▸o.rk_lt (ZR.symm▸hx);obtain⟨ls,el,z⟩:=uz S.pos S.cpos S.cmost S.most12 S.row ho o hb;obtain⟨d,bd,ld,els⟩:=z;have L:=lns_mk S.row o Lw bd;generalize lH E (ZZ.length*c)=bot at hb B bd L;have hz:=ddA (pN (ZZ.length*c) bot) [] List.nodup_nil;have bl:(pN (ZZ.length*c) bot).length=ZZ.length*c:=by rw[bE,Z8,U1]
 have zm:∀x,x∈(pN (ZZ.length*c) bot).foldl je []↔∃y,y<ZZ.length*c/\x=((bot y:Nat):Int):=λx=>by
  rw[hz.2.2,eQ]
  constructor
  ·intro q;refine aU (q.resolve_left λz=>nomatch z) λv hv e=>aU (W6.mp hv) λy hy e2=>⟨y,M5.mp hy,by rw[e,<- e2]⟩
  ·exact λ⟨y,hy,e⟩=>.inr ⟨_,W6.mpr ⟨y,M5.mpr hy,rfl⟩,e⟩
 have zl:((pN (ZZ.length*c) bot).foldl je []).length<64:=by
  refine eU ?_<|few S.area S.most12;rw[<- Z8 (f:=fun v:Int=>v.toNat/c*((c+1)/2)+v.toNat%c/2)];refine Aq _ (L9.mpr (hz.1.imp_of_mem λ{a b} ha hb' ne e=>?_)) λk hk=>?_
  ·obtain⟨x,hx,ea⟩:=(zm a).mp ha;obtain⟨y,hy,eb⟩:=(zm b).mp hb';rw[ea,eb,W0,W0]at e;have nxy:bot x≠bot y:=λz=>ne (by rw[ea,eb,z]);have a1:Nb ZZ.length c reach (bot x) (bot y):=⟨B.lt x hx,B.lt y hy,Cp S.cpos nxy e⟩;rcases Nat.lt_trichotomy (rk os<|bot x) (rk os<|bot y) with z|z|z
   ·exact L.no B (Nb.sy _ _ a1) z<|B.id y hy
   ·exact nxy<|L.inj _ _ a1.1 a1.2.1 z
   ·exact L.no B a1 z<|B.id x hx
  ·obtain⟨a,ha,e⟩:=W6.mp hk;obtain⟨x,hx,ea⟩:=(zm a).mp ha;rw[<- e,ea,W0];have q:bot x/c<ZZ.length:=Nat.div_lt_of_lt_mul (by rw[Nat.mul_comm];exact B.lt x hx);have q2:=R9 ((c+1)/2)<|Nat.succ_le_of_lt q;rw[Nat.succ_mul]at q2;exact cf (Nat.add_lt_add_left (half_lt S.cpos) _) q2
 refine⟨os,bot,ls,vF<|(pN (ZZ.length*c) bot).foldl je [],o,ho,dQ hb<|dQ (if_pos ?_)<|if_pos zl,el,B,els▸L,λx=>by rw[(j7 _).mem_iff];exact zm x,?_,by rw[(j7 _).length_eq];exact zl⟩
 ·rw[bl];exact eU (K6 S.area) (by decide)
 ·rw[els,Z8,(cO _).length_eq,Z8];exact ld
theorem holds(ns:ZW)(_:ns.length<=63):Pf.kq ns=some true:=by
 unfold Pf.kq;obtain⟨ZZ,c,e,S⟩:=uN ns;have c9:c<=900:=aR S.cmost (by decide);have m9:ZZ.length<=900:=aR S.most12 (by decide);have n1:ZZ.length*c<=144:=aR S.area (by decide);have hr:∃r:Int,(((Pf.dk ns 1).bind λx3=>some<|x3%2).bind λx4=>Pu.at_ ([4,8]) x4)=some r:=by have ca:=fS ns 1;rw[show ((1:Nat):Int)=1 from rfl]at ca;rw[ca,bs,bs];rcases Int.emod_two_eq (cellAt ns 1) with z|z<;>rw[z]<;>exact⟨_,rfl⟩
 obtain⟨reach,er⟩:=hr;obtain⟨os,bot,ls,Z,s⟩:=std S reach;obtain⟨v,ev,v0,_⟩:=fi ns (k:=2) (by decide) (top:=1000000000) (by decide);have ed:∃ds,((Pf.dk ns 2).bind λx16=>Pf.digits x16 ((Pu.ln Z)+(Pu.ln ls)) 1000)=some ds/\(ds=[]\/ds.length=Z.length+ls.length):=by have ca:=fS ns 2;rw[show ((2:Nat):Int)=2 from rfl]at ca;refine cM (digits_eq (cellAt ns 2) (Z.length+ls.length) (aR (Nat.add_le_add (ci s.zl) s.len) (by decide)) (base:=1000) ⟨by decide,by decide⟩) λds e1 h1 a=>⟨ds,dQ ca<|Eq.trans ?_ e1,h1⟩;rw[J8];rfl
 obtain⟨ds,e1,hd⟩:=ed;obtain⟨ls',e2,p2⟩:=Co (xs:=ls) (D:=ds.drop Z.length) (v/3) (hd.imp (λz=>by rw[z];exact List.drop_nil) λz=>by rw[K4,z,Q0];exact bi _)<|aR s.len (by decide);obtain⟨Z',e3,p3⟩:=Co (xs:=Z) (D:=ds) v (hd.imp id λz=>by rw[z];exact U9 _ _)<|aR (ci s.zl) (by decide);have hZ:∀x:Nat,x<ZZ.length*c->((x:Int)∈Z'↔bot x=x):=λx hx=>by rw[p3.mem_iff,s.zm];exact⟨λ⟨y,hy,e⟩=>by rw[N7 e];exact s.B.id y hy,λz=>⟨x,hx,by rw[z]⟩⟩
 obtain⟨h1,p1,u1,t1⟩:=wu (reach:=reach) S.pos S.cpos c9 m9 S.row n1 s.ord;obtain⟨h2,p2,u2,t2⟩:=tbl_eq S.pos S.cpos c9 S.row n1 s.io s.ord s.B (s.L.perm λt=>p2.mem_iff) (by rw[p2.length_eq];exact s.len) hZ;obtain⟨h3,p3,u3,t3⟩:=sD (reach:=reach) S.pos S.cpos c9 m9 S.row n1 s.io s.ord;rw[show h2=h1 from funext λx=>u2.home_eq s.L.inj u1 x,show p2=p1 from funext λx=>u2.par_eq s.L.inj u1 x]at t2;rw[show h3=h1 from funext λx=>u3.home_eq s.L.inj u1 x,show p3=p1 from funext λx=>u3.par_eq s.L.inj u1 x]at t3;have e4:Pu.comp (λ(y23:List (Int))=>some<|y23) ZZ=some ZZ:=by rw[cx (g:=λy=>y) (aR m9 (by decide)) λa a=>rfl,List.map_id']
 refine dQ e<|dQ er<|dQ t1<|dQ ev<|dQ s.eb<|dQ s.el<|dQ e1<|dQ ?_<|dQ e3<|dQ (dQ e4 rfl)<|dQ t2<|dQ (dQ (dQ (ir _) rfl)<|(if_neg Y3).trans (congrArg some<|congrArg not (decide_eq_true rfl)))<|(if_neg Y3).trans (dQ (dQ (dQ t3<|ir _) rfl)<|(if_neg Y3).trans (dQ t2<|ir _));rw[show Pu.ln Z=((Z.length:Nat):Int) from rfl,BN];exact e2
open PySem PySem.Spec PyProof.Rows L2
abbrev kn:Kon:=(konL [(65,(("earliest_of":Str)++".<locals>.")++"<lambda>"),(72,(("in_order":Str)++".<locals>.")++"<lambda>")])
def Fd(w:World)(K:Z3)(mg:ZN)(fa:Addr):Prop:=∃fd:FuncData,(∀(s:Shared) (v:Value),BindsTo s fd ⟨[v],[]⟩ [("_law_script",v)])/\(∀P∈kn.T,∃c,PySem.W.codeHdIn K c P=true)/\∀base:Heap,K.In base->base.Ns Q9 mg->BM mg base->FnOk PySem.Challenge.pw_floodtree_k23_whole_tree_by_lines w K mg base uQ 13 fa fd ["_law_script"] (@spLaw kn K)
theorem all_mk{w:World}{K:Z3}{h:Heap}{mg:ZN}{fa f od an oc sl kV dc pm cd ct}(X:K.In h)(G:h.Ns Q9 mg)(hfa:mg "law"=some (.ref fa))(a:PySem.W.nsIn K Q9 "law"=some (some<|.ref f))(l:K.lookup f=some ⟨oc,od,.func<|N0 "law" "law" (cz qx) (bp qx) (ah qx) .none kV dc pm an cd ct,sl⟩)(c:D7 K cd "law"=true)(k:M7 K (.ref f)=true)(t:∀P∈kn.T,∃c,PySem.W.codeHdIn K c P=true)(v:∀base,BM mg base->@Al kn K mg base):Fd w K mg fa:=by
 letI:Kon:=kn
 cases hfa.symm.trans (PySem.W.mg_of X G a);exact⟨_,λs v=>.of_eq rfl,t,λbase x x m=>letI:Cx:=⟨_,w,K,mg,base,v base m⟩;ok_law (i0 (st:=qx) l c k) holds⟩
theorem walk{q:U7}{loose:ZJ}{XP:(Str->Option Value)->Heap->Prop}{YP:World->Heap->Prop}{d:DefRec}(hd:d.params.defaults=[])(hY:∀(w:World) (h:Heap),YP w h->(fK w.params).In h/\∀P∈kn.T,h.get? P=some (PySem.W.tabObj #[]))(hC:∀(w:World),∀P∈kn.T,(fK w.params).lookup P=none)(F:∀(w:World) (mg:ZN) (fa:Addr) (h:Heap),(fK w.params).In h->h.Ns Q9 mg->mg d.name=some (.ref fa)->Fd w (fK w.params) mg fa):PySem.W.WalkO q loose XP YP PySem.Challenge.rw_floodtree_k23_whole_tree_by_lines.row.toRowW d [] (λf vs=>PySem.call f vs) :=
 letI:Kon:=kn
 L2.AY (l:=PySem.Challenge.rw_floodtree_k23_whole_tree_by_lines) (n:=63) (k:=13) (x:="_law_script") (sp:=λw=>spLaw<|fK w.params) rfl (by decide) hd ⟨rfl,by decide,by decide⟩ hY hC F λb b a ns hl tg hS=>⟨a,ns,rfl,hS,hl,tg,λb=>rfl⟩
end K23
open PySem PySem.W PyProof.Rows
set_option maxRecDepth 100000 in
set_option maxHeartbeats 0 in
theorem PySem.Challenge.cw_floodtree_k23_whole_tree_by_lines_holds : PySem.Challenge.rw_floodtree_k23_whole_tree_by_lines.Holds := by
 refine Hd.head (q:=view PySem.Challenge.pw_floodtree_k23_whole_tree_by_lines [0,2,3,4,5,6,7,8,9,11,12,13,14,16,17,18,19,20,21,22,24,25,26,27,28,29,30,31,32,33,34,35,36]) (H:=PySem.W.kmHook K23.fK [3,27,28,34,35,41,42,48,49,55,56,62,63,69,70,76,77,90,91,97,98,102,103,107,108,110,111,126,127,138,139,145,146,148,149,159,160,164,165,171,172,176,177,181,182,186,187,191,192,198,199,203,204,210,211,217,218,224,225,231,232,236,237,241,242,248,249,255,256,262,263,269,270,274,275,281,282,286,287] (λx=>by kernel_rfl) [65,72]) (N:=20000) ?_ K23.left rfl rfl rfl rfl (by decide +kernel) ⟨rfl,rfl,rfl,rfl,rfl,by decide +kernel⟩ ?w ?c
 case w=>w_witness2
 case c =>
  k_fill
  refine K23.walk rfl (λw h Y=>⟨PySem.W.km_in_of Y,PySem.W.km_tabs_of Y⟩) (λw=>?_) ?F
  case F =>
   intro w mg fa h KX G hmg;refine K23.all_mk KX G hmg (by k_is) (by k_is) (by k_is) (by k_is) ?t λbase m=>?_
   (case t=>exact List.forall_mem_cons.mpr ⟨⟨nat_lit 69,by kernel_rfl⟩,List.forall_mem_cons.mpr ⟨⟨nat_lit 76,by kernel_rfl⟩,λx h=>nomatch h⟩⟩)
   letI:L2.Kon:=K23.kn
   constructor
   case B=>constructor<;>(refine' PySem.W.mg_none_of KX G ?_;k_is)
   case kM|kW=>constructor<;>first|(constructor<;>k_is)|(unfold L2.dr;k_is)
   all_goals first
    |exact L2.def_mk KX G (by k_is) (by k_is) (by k_is) (by k_is) (by (intro _ _ _ _ _ _ us hl;first|(obtain⟨_,rfl⟩:=L2.vN hl;rfl)|(obtain⟨_,_,rfl⟩:=L2.vO hl;rfl)|(obtain⟨_,_,_,rfl⟩:=L2.B7 hl;rfl)|(obtain⟨_,_,_,_,rfl⟩:=L2.B8 hl;rfl)|(obtain⟨_,_,_,_,_,rfl⟩:=L2.len5 hl;rfl)))
    |exact L2.def_mkC KX G (by k_is) (by k_is) (by k_is) (by k_is) rfl (by (intro _ _ _ _ _ _ us hl;first|(obtain⟨_,rfl⟩:=L2.vN hl;rfl)|(obtain⟨_,_,rfl⟩:=L2.vO hl;rfl)|(obtain⟨_,_,_,rfl⟩:=L2.B7 hl;rfl)|(obtain⟨_,_,_,_,rfl⟩:=L2.B8 hl;rfl)|(obtain⟨_,_,_,_,_,rfl⟩:=L2.len5 hl;rfl)))
    |exact⟨m,by kernel_rfl,by first|exact List.Mem.head _|exact List.Mem.tail _ (List.Mem.head _)|exact List.Mem.tail _ (List.Mem.tail _ (List.Mem.head _)),by first|rfl|decide +kernel⟩
    |exact L2.meth_mk (by k_is) (by k_is) (by k_is) (by k_is) (by k_is) (by (intro _ _ _ _ _ _ us hl;first|(obtain⟨_,rfl⟩:=L2.vN hl;rfl)|(obtain⟨_,_,rfl⟩:=L2.vO hl;rfl)|(obtain⟨_,_,_,rfl⟩:=L2.B7 hl;rfl)|(obtain⟨_,_,_,_,rfl⟩:=L2.B8 hl;rfl)|(obtain⟨_,_,_,_,_,rfl⟩:=L2.len5 hl;rfl)))
    |exact L2.init_mk KX G (by k_is) (by k_is) (by k_is) (by k_is) (by k_is) (by k_is) (by k_is) (by k_is) (by (intro _ _ _ _ _ _ us hl;first|(obtain⟨_,rfl⟩:=L2.vN hl;rfl)|(obtain⟨_,_,rfl⟩:=L2.vO hl;rfl)|(obtain⟨_,_,_,rfl⟩:=L2.B7 hl;rfl)|(obtain⟨_,_,_,_,rfl⟩:=L2.B8 hl;rfl)|(obtain⟨_,_,_,_,_,rfl⟩:=L2.len5 hl;rfl)))
  refine List.forall_mem_cons.mpr ⟨?_,List.forall_mem_cons.mpr ⟨?_,λx h=>nomatch h⟩⟩<;>kernel_rfl
 all_goals kernel_rfl
#print axioms PySem.Challenge.cw_floodtree_k23_whole_tree_by_lines_holds