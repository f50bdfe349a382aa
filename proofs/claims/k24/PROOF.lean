import PyProof.Rows.All
import Wide.All
import OpenK.AllK
import Wide.FinOn
import Lean
import PyProof.EqAt
import PyProof.EqKinds
import PyProof.TupleCall
import PySem.Challenge.RW_floodtree_k24_whole_passes_by_lines
open PySem renaming wpAny_bind→Z0,wpAny_pure→Z5,Spec→X8,sizeLine→W9,sizeLine_eq→V4,starEach→V6,Program→U4,SetTable→U5,wpAny_holding→T6,mainGlobals→S8,wpAny_mono→R0,Builtin→R5,wpAny_call_entry→R7,compareOp→R9,mem_of_lookup→Q8,bootBuiltins→P5,wpAny_newObj_type→O0,codeAny_builtin→O7,wpAny_truthy_bool→N0,plainId_quiet→M4,sysModules→M8,wpAny_callSpecial?_slot→M9,NameKind→K0,wpAny_tryCatch→K1,DictEntry→J0,wpAny_Call_Name_kw→J2,wpAny_typeNameOfWhole_keyiter→G2,wpAny_updateSeq→G9,wpAny_newList→E5,wpAny_seqItems→D1,wpAny_rule→D4,wpAny_setField→D5
open PySem.Heap renaming get?_push_of_some→Z3,get?_push_size→Y7,lt_size→X0,get?_update_ne→V5,SameBut→U8,get?_update_self→Q5,size_push→L8
open PySem.W renaming Frag→Z4,keepIn→R3,fnOf→R6,findIn→Q3,codeIn→N2,kia_one→N3,emptyDict→M1,kitOne→L9,instObj→G7,codeHdIn→D0
open List renaming getElem?_eq_some_iff→Z6,toArray→Z9,length_map→Y0,mem_singleton→Y3,mem_cons→Y4,getElem?_eq_getElem→Y5,getElem?_append_right→Y6,mem_append_right→Y8,length_append→Y9,size_toArray→X1,getElem?_map→X2,append_assoc→X3,getElem?_append_left→X5,range→X9,mem_append→W0,take_append_drop→W3,mem_cons_of_mem→W4,pairwise_append→W6,map_cons→W7,mem_cons_self→V1,append_nil→V8,length_cons→V9,mem_of_getElem?→U0,length_range→U1,mem_append_left→U7,mem_map→U9,map_append→T0,replicate→T8,length_take→S6,getElem?_take_of_lt→Q0,getElem?_toArray→Q6,getElem_of_mem→Q9,mem_filter→P0,map_map→P6,mem_range→P7,take_length→N6,pairwise_iff_getElem→N9,take_of_length_le→K2,find?_cons→K4,drop_eq_getElem_cons→K7,length_filter_le→K9,length_drop→J3,any_cons→J4,lookup→J8,mem_of_mem_drop→J9,mem_of_mem_take→G1,pairwise_mergeSort→G6,length_set→G8,mergeSort_perm→F6,map_congr_left→F7,getElem?_range→F8,lookup_cons→E8,getElem_mem→E9,getElem?_drop→D2,getElem?_eq_none→D8
open Bool renaming false_ne_true→Z7,eq_iff_iff→V7,false_eq_true→Q4,and_eq_true→E6
open Option.some renaming inj→Z8
open PyProof.Rows renaming wpS_bind→X4,wpS_pure→X7,wpS_forRange→O4,callWith_type1→L5,get?_update_seq→K5,IntsAre→K6
open PySem.Obj renaming mapSeq→X6,data_mapFields→O3,isFreed_of_fields→D7
open Nat renaming lt_succ_self→W5,not_lt→U6,le_of_lt_succ→T1,zero_le→T3,le_add_right→T4,le_antisymm→T5,lt_succ_of_lt→T7,add_sub_cancel_left→Q7,le_succ→P3,not_lt_zero→O6,min_eq_left→O8,succ_le_succ→N5,lt_succ_of_le→M3,mul_le_mul→M5,ne_of_gt→M6,lt_or_ge→M7,lt_irrefl→L6,mul_le_mul_right→G3,le_succ_of_le→G4,le_of_not_lt→E7
open Array renaming length_toList→W8,getElem?_eq_getElem→U2,getElem?_toList→K8,getElem?_eq_none→E3
open Int renaming toNat_natCast→V3,ofNat→K3
open PySem.Value renaming ref→U3,none→O1,int→O9
open PySem.Heap.SameBut renaming update→T2
open PySem.SetTable renaming below→T9
open PySem.SeqAt renaming EqAt→S7
open Ne renaming symm→R4
open PySem.PassesOwn renaming never→R8
open PySem.Around renaming under_plainId→Q2
open Option renaming map_eq_some_iff→P4
open Sum renaming inl→P8
open PySem.F renaming slot_dict_keyiterator_next→O5,plainAttrs_list→N1,plain_min_loop→N7,plain_max_loop→N8,slot_list_append→J6,type_list_append→J7,slot_NoneType_hash→D3
open Int.ofNat renaming inj→N4
open False renaming elim→M0
open PySem.PyData renaming eqvAll→L7
open True renaming intro→J1
open PySem.Str renaming ofString→J5
open Exists renaming elim→G0
open PySem.Builtin.Builtins renaming bindParams→F9
open PySem.NameKind renaming free→E4
open PyProof.Rows.SortSt renaming mk'→D6
open PySem.Calls renaming call_function_entry→D9
theorem bZ{a b c:Nat}(h:a<b)(k:b<=c):a<c:=Nat.lt_of_lt_of_le h k
theorem dI{a b c:Nat}(h:a<=b)(k:b<c):a<c:=Nat.lt_of_le_of_lt h k
theorem bG{a b:Nat}(h:a=b):a<=b:=Nat.le_of_eq h
theorem b8{a b c:Nat}(h:a<=b)(k:b<=c):a<=c:=Nat.le_trans h k
theorem cT{a b:Nat}(h:a<b):a<=b:=Nat.le_of_lt h
theorem bD(n:Nat):n<=n:=Nat.le_refl n
theorem dH{a b:Nat}(h:a<b):a≠b:=Nat.ne_of_lt h
theorem eJ{a b c:Nat}(h:a<b)(k:b<c):a<c:=Nat.lt_trans h k
theorem i8{α β γ:Type}(x:Option α)(f:α->Option β)(g:β->Option γ):(x.bind f).bind g=x.bind λy=>(f y).bind g:=Option.bind_assoc x f g
theorem cG{α β:Type}(a:α)(f:α->Option β):(some a).bind f=f a:=rfl
theorem ax{p q:Prop}{Q:Prop}(h:p/\q)(f:p->q->Q):Q:=f h.1 h.2
theorem aV{p q r:Prop}{Q:Prop}(h:p/\q/\r)(f:p->q->r->Q):Q:=f h.1 h.2.1 h.2.2
theorem jt{p q r s:Prop}{Q:Prop}(h:p/\q/\r/\s)(f:p->q->r->s->Q):Q:=f h.1 h.2.1 h.2.2.1 h.2.2.2
theorem gl{p q r s t:Prop}{Q:Prop}(h:p/\q/\r/\s/\t)(f:p->q->r->s->t->Q):Q:=f h.1 h.2.1 h.2.2.1 h.2.2.2.1 h.2.2.2.2
theorem yg{p q r s t u:Prop}{Q:Prop}(h:p/\q/\r/\s/\t/\u)(f:p->q->r->s->t->u->Q):Q:=f h.1 h.2.1 h.2.2.1 h.2.2.2.1 h.2.2.2.2.1 h.2.2.2.2.2
theorem ao{A:Type}{p:A->Prop}{Q:Prop}(h:∃a,p a)(f:∀a,p a->Q):Q:=h.elim λa h=>f a h
theorem aa{A:Type}{p q:A->Prop}{Q:Prop}(h:∃a,p a/\q a)(f:∀a,p a->q a->Q):Q:=h.elim λa h=>f a h.1 h.2
theorem aE{A:Type}{p q r:A->Prop}{Q:Prop}(h:∃a,p a/\q a/\r a)(f:∀a,p a->q a->r a->Q):Q:=h.elim λa h=>f a h.1 h.2.1 h.2.2
theorem ju{A:Type}{p q r s:A->Prop}{Q:Prop}(h:∃a,p a/\q a/\r a/\s a)(f:∀a,p a->q a->r a->s a->Q):Q:=h.elim λa h=>f a h.1 h.2.1 h.2.2.1 h.2.2.2
theorem ig{A:Type}{p q r s t:A->Prop}{Q:Prop}(h:∃a,p a/\q a/\r a/\s a/\t a)(f:∀a,p a->q a->r a->s a->t a->Q):Q:=h.elim λa h=>f a h.1 h.2.1 h.2.2.1 h.2.2.2.1 h.2.2.2.2
theorem zM{A:Type}{p q r s t u:A->Prop}{Q:Prop}(h:∃a,p a/\q a/\r a/\s a/\t a/\u a)(f:∀a,p a->q a->r a->s a->t a->u a->Q):Q:=h.elim λa h=>f a h.1 h.2.1 h.2.2.1 h.2.2.2.1 h.2.2.2.2.1 h.2.2.2.2.2
theorem ii{A B:Type}{p:A->B->Prop}{Q:Prop}(h:∃a b,p a b)(f:∀a b,p a b->Q):Q:=h.elim λa h=>h.elim λb h=>f a b h
theorem bv{A B:Type}{p q:A->B->Prop}{Q:Prop}(h:∃a b,p a b/\q a b)(f:∀a b,p a b->q a b->Q):Q:=h.elim λa h=>h.elim λb h=>f a b h.1 h.2
theorem ay{A B:Type}{p q r:A->B->Prop}{Q:Prop}(h:∃a b,p a b/\q a b/\r a b)(f:∀a b,p a b->q a b->r a b->Q):Q:=h.elim λa h=>h.elim λb h=>f a b h.1 h.2.1 h.2.2
theorem fL{A B:Type}{p q r s:A->B->Prop}{Q:Prop}(h:∃a b,p a b/\q a b/\r a b/\s a b)(f:∀a b,p a b->q a b->r a b->s a b->Q):Q:=h.elim λa h=>h.elim λb h=>f a b h.1 h.2.1 h.2.2.1 h.2.2.2
theorem fk{A B:Type}{p q r s t:A->B->Prop}{Q:Prop}(h:∃a b,p a b/\q a b/\r a b/\s a b/\t a b)(f:∀a b,p a b->q a b->r a b->s a b->t a b->Q):Q:=h.elim λa h=>h.elim λb h=>f a b h.1 h.2.1 h.2.2.1 h.2.2.2.1 h.2.2.2.2
theorem ik{A B:Type}{p q r s t u:A->B->Prop}{Q:Prop}(h:∃a b,p a b/\q a b/\r a b/\s a b/\t a b/\u a b)(f:∀a b,p a b->q a b->r a b->s a b->t a b->u a b->Q):Q:=h.elim λa h=>h.elim λb h=>f a b h.1 h.2.1 h.2.2.1 h.2.2.2.1 h.2.2.2.2.1 h.2.2.2.2.2
theorem gu{A B C:Type}{p:A->B->C->Prop}{Q:Prop}(h:∃a b c,p a b c)(f:∀a b c,p a b c->Q):Q:=h.elim λa h=>h.elim λb h=>h.elim λc h=>f a b c h
theorem fM{A B C:Type}{p q:A->B->C->Prop}{Q:Prop}(h:∃a b c,p a b c/\q a b c)(f:∀a b c,p a b c->q a b c->Q):Q:=h.elim λa h=>h.elim λb h=>h.elim λc h=>f a b c h.1 h.2
theorem cH{A B C:Type}{p q r:A->B->C->Prop}{Q:Prop}(h:∃a b c,p a b c/\q a b c/\r a b c)(f:∀a b c,p a b c->q a b c->r a b c->Q):Q:=h.elim λa h=>h.elim λb h=>h.elim λc h=>f a b c h.1 h.2.1 h.2.2
theorem dh{A B C:Type}{p q r s:A->B->C->Prop}{Q:Prop}(h:∃a b c,p a b c/\q a b c/\r a b c/\s a b c)(f:∀a b c,p a b c->q a b c->r a b c->s a b c->Q):Q:=h.elim λa h=>h.elim λb h=>h.elim λc h=>f a b c h.1 h.2.1 h.2.2.1 h.2.2.2
theorem gM{A B C:Type}{p q r s t:A->B->C->Prop}{Q:Prop}(h:∃a b c,p a b c/\q a b c/\r a b c/\s a b c/\t a b c)(f:∀a b c,p a b c->q a b c->r a b c->s a b c->t a b c->Q):Q:=h.elim λa h=>h.elim λb h=>h.elim λc h=>f a b c h.1 h.2.1 h.2.2.1 h.2.2.2.1 h.2.2.2.2
theorem jP{A B C:Type}{p q r s t u:A->B->C->Prop}{Q:Prop}(h:∃a b c,p a b c/\q a b c/\r a b c/\s a b c/\t a b c/\u a b c)(f:∀a b c,p a b c->q a b c->r a b c->s a b c->t a b c->u a b c->Q):Q:=h.elim λa h=>h.elim λb h=>h.elim λc h=>f a b c h.1 h.2.1 h.2.2.1 h.2.2.2.1 h.2.2.2.2.1 h.2.2.2.2.2
theorem kX{A B C D:Type}{p q:A->B->C->D->Prop}{Q:Prop}(h:∃a b c d,p a b c d/\q a b c d)(f:∀a b c d,p a b c d->q a b c d->Q):Q:=h.elim λa h=>h.elim λb h=>h.elim λc h=>h.elim λd h=>f a b c d h.1 h.2
theorem sK{A B C D:Type}{p q r:A->B->C->D->Prop}{Q:Prop}(h:∃a b c d,p a b c d/\q a b c d/\r a b c d)(f:∀a b c d,p a b c d->q a b c d->r a b c d->Q):Q:=h.elim λa h=>h.elim λb h=>h.elim λc h=>h.elim λd h=>f a b c d h.1 h.2.1 h.2.2
theorem m7{A B C D:Type}{p q r s:A->B->C->D->Prop}{Q:Prop}(h:∃a b c d,p a b c d/\q a b c d/\r a b c d/\s a b c d)(f:∀a b c d,p a b c d->q a b c d->r a b c d->s a b c d->Q):Q:=h.elim λa h=>h.elim λb h=>h.elim λc h=>h.elim λd h=>f a b c d h.1 h.2.1 h.2.2.1 h.2.2.2
theorem iq{A B C D:Type}{p q r s t:A->B->C->D->Prop}{Q:Prop}(h:∃a b c d,p a b c d/\q a b c d/\r a b c d/\s a b c d/\t a b c d)(f:∀a b c d,p a b c d->q a b c d->r a b c d->s a b c d->t a b c d->Q):Q:=h.elim λa h=>h.elim λb h=>h.elim λc h=>h.elim λd h=>f a b c d h.1 h.2.1 h.2.2.1 h.2.2.2.1 h.2.2.2.2
theorem yh{A B C D E:Type}{p q r s t u:A->B->C->D->E->Prop}{Q:Prop}(h:∃a b c d e,p a b c d e/\q a b c d e/\r a b c d e/\s a b c d e/\t a b c d e/\u a b c d e)(f:∀a b c d e,p a b c d e->q a b c d e->r a b c d e->s a b c d e->t a b c d e->u a b c d e->Q):Q:=h.elim λa h=>h.elim λb h=>h.elim λc h=>h.elim λd h=>h.elim λe h=>f a b c d e h.1 h.2.1 h.2.2.1 h.2.2.2.1 h.2.2.2.2.1 h.2.2.2.2.2
theorem oq65{A B C D E G:Type}{p q r s t:A->B->C->D->E->G->Prop}{Q:Prop}(h:∃a b c d e g,p a b c d e g/\q a b c d e g/\r a b c d e g/\s a b c d e g/\t a b c d e g)(f:∀a b c d e g,p a b c d e g->q a b c d e g->r a b c d e g->s a b c d e g->t a b c d e g->Q):Q:=h.elim λa h=>h.elim λb h=>h.elim λc h=>h.elim λd h=>h.elim λe h=>h.elim λg h=>f a b c d e g h.1 h.2.1 h.2.2.1 h.2.2.2.1 h.2.2.2.2
theorem uR{A B C D E G I:Type}{p:A->B->C->D->E->G->I->Prop}{Q:Prop}(h:∃a b c d e g i,p a b c d e g i)(f:∀a b c d e g i,p a b c d e g i->Q):Q:=h.elim λa h=>h.elim λb h=>h.elim λc h=>h.elim λd h=>h.elim λe h=>h.elim λg h=>h.elim λi h=>f a b c d e g i h
theorem pc{p q r:Prop}(h0:p)(h1:q)(h2:r):p/\q/\r:=⟨h0,h1,h2⟩
theorem qF{p q r s:Prop}(h0:p)(h1:q)(h2:r)(h3:s):p/\q/\r/\s:=⟨h0,h1,h2,h3⟩
theorem aF{A:Type}{p q:A->Prop}(a:A)(h0:p a)(h1:q a):∃a,p a/\q a:=⟨a,h0,h1⟩
theorem cD{A:Type}{p q r:A->Prop}(a:A)(h0:p a)(h1:q a)(h2:r a):∃a,p a/\q a/\r a:=⟨a,h0,h1,h2⟩
theorem jQ{A:Type}{p q r s:A->Prop}(a:A)(h0:p a)(h1:q a)(h2:r a)(h3:s a):∃a,p a/\q a/\r a/\s a:=⟨a,h0,h1,h2,h3⟩
theorem d4{A B:Type}{p q r:A->B->Prop}(a:A)(b:B)(h0:p a b)(h1:q a b)(h2:r a b):∃a b,p a b/\q a b/\r a b:=⟨a,b,h0,h1,h2⟩
theorem yi{A B:Type}{p q r s t:A->B->Prop}(a:A)(b:B)(h0:p a b)(h1:q a b)(h2:r a b)(h3:s a b)(h4:t a b):∃a b,p a b/\q a b/\r a b/\s a b/\t a b:=⟨a,b,h0,h1,h2,h3,h4⟩
theorem pe{A B C:Type}{p q r:A->B->C->Prop}(a:A)(b:B)(c:C)(h0:p a b c)(h1:q a b c)(h2:r a b c):∃a b c,p a b c/\q a b c/\r a b c:=⟨a,b,c,h0,h1,h2⟩
theorem oi79{A B C D E G I:Type}{p q r s t u v w x:A->B->C->D->E->G->I->Prop}(a:A)(b:B)(c:C)(d:D)(e:E)(g:G)(i:I)(h0:p a b c d e g i)(h1:q a b c d e g i)(h2:r a b c d e g i)(h3:s a b c d e g i)(h4:t a b c d e g i)(h5:u a b c d e g i)(h6:v a b c d e g i)(h7:w a b c d e g i)(h8:x a b c d e g i):∃a b c d e g i,p a b c d e g i/\q a b c d e g i/\r a b c d e g i/\s a b c d e g i/\t a b c d e g i/\u a b c d e g i/\v a b c d e g i/\w a b c d e g i/\x a b c d e g i:=⟨a,b,c,d,e,g,i,h0,h1,h2,h3,h4,h5,h6,h7,h8⟩
set_option Elab.async false
set_option linter.all false
set_option maxRecDepth 100000
set_option bootstrap.genMatcherCode false
set_option genSizeOf false
set_option genInjectivity false
set_option tactic.hygienic false
noncomputable section
abbrev ZN:=PySem.Value->PySem.Shared->Prop
abbrev ZM:=List Nat
abbrev ZL:=List Int
abbrev ZK:=List PySem.Value
abbrev ZJ:=List (PySem.Addr×PySem.Obj)
abbrev ZI:=List (List Int)
abbrev ZH:=PySem.Str->Option PySem.Value
abbrev ZG:=Nat->Nat
abbrev ZF:=List PySem.Str
abbrev ZE:=Nat->Nat->Prop
abbrev ZD:=List (PySem.Str×Nat)
abbrev ZC:=Option Int
abbrev ZA:=Int×Int
abbrev Zz:=PySem.Addr->Prop
abbrev Zy:=Nat->List Nat
abbrev Zx:=List PySem.Addr
abbrev Zw:=List (Int×Int)
abbrev Zv:=Int->Option (Int×Int)
abbrev Zu:=Array (Int×PySem.Value)
abbrev Zt:=Nat->Prop
abbrev Zs:=(List Int)
abbrev Zr:=Option PySem.Addr
abbrev Zq:=List (PySem.Str×PySem.Addr)
abbrev Zp:=Array PySem.Value
abbrev Zo:=Nat->Bool
abbrev Zn:=Nat->Nat->Bool
abbrev Zm:=Option PySem.Value->PySem.Shared->Prop
abbrev Zl:=Nat->Option (Nat×Nat)
abbrev Zk:=Array Nat
abbrev Zj:=List (Option Int)
abbrev Zi:=List (List Nat)
abbrev Zh:=(Int×Int)×Int×Int
abbrev Zg:=(Int×Int)
abbrev Zf:=(Int×Int×Int)
abbrev Ze:=Nat->Option Nat
abbrev Zd:=Bool->PySem.Shared->Prop
abbrev Zc:=List (Int×Int×Int)
abbrev Zb:=List (PySem.Str×PySem.Value)
abbrev Za:=Array (Option PySem.Value)
abbrev YZ:=List PySem.Value->PySem.Shared->Prop
abbrev YY:=Option (Int×Int)
abbrev YX:=List (Nat×Nat×Nat)
abbrev YW:=(List Int)×(Int×Int)
abbrev YV:=Int×(Int×Int)
namespace L2
theorem ir(h:True:=by decide):True:=trivial
theorem a1q(h:True:=by intro _;rfl):True:=trivial
theorem eX(h:True:=by rfl):True:=trivial
theorem a3q(h:True:=by with_unfolding_all rfl):True:=trivial
theorem a4q(h:True:=by trivial):True:=trivial
open PySem PySem.Spec PyProof.Rows
noncomputable abbrev Key:=Sum Int Str
noncomputable def iu:Key->Value->Bool
 |.inl k,v=>Value.isInt k v
 |.inr x,v=>Value.isStrOf x v
noncomputable def keyH(w:World):Key->Int
 |.inl k=>hashInt k
 |.inr x=>hashStr w x
theorem br:∀{k:Key} {v:Value},iu k v=true->(∃i t,k=P8 i/\v=O9 i t)\/(∃x t,k=Sum.inr x/\v=Value.str x t):=λ{k v} h=>by
 cases k with
 |inl i=>exact ao (Value.isInt_shape (k:=i) (v:=v) h) λt e=>.inl ⟨i,t,rfl,e⟩
 |inr x=>exact ao (Value.isStrOf_shape (x:=x) (v:=v) h) λt e=>.inr ⟨x,t,rfl,e⟩
theorem yj(i:Int)(t:Tok):iu (.inl i) (.int i t)=true:=by simp[iu,Value.isInt]
theorem yk(x:Str)(t:Tok):iu (.inr x) (.str x t)=true:=by simp[iu,Value.isStrOf]
theorem key_ll(a b:Int):decide ((P8 a:Key)=P8 b)=(a==b):=by
 by_cases e:a=b
 ·subst e;simp
 ·have h:¬ (P8 a:Key)=P8 b:=λq=>e<|P8.inj q;rw[decide_eq_false h];exact(beq_eq_false_iff_ne.mpr e).symm
theorem key_rr(a b:Str):decide ((Sum.inr a:Key)=Sum.inr b)=decide (a=b):=by
 by_cases e:a=b
 ·subst e;simp
 ·have h:¬ (Sum.inr a:Key)=Sum.inr b:=λq=>e<|Sum.inr.inj q;rw[decide_eq_false h,decide_eq_false e]
theorem key_lr(a:Int)(b:Str):decide ((P8 a:Key)=Sum.inr b)=false:=decide_eq_false λq=>nomatch q
theorem key_rl(a:Str)(b:Int):decide ((Sum.inr a:Key)=P8 b)=false:=decide_eq_false λq=>nomatch q
noncomputable def b9(prog:U4)(w:World):PySem.KeyKind prog w Key where
 is:=iu
 hash:=keyH w
 inj:=λv a b ha hb=>by
  rcases br ha with ⟨i,t,rfl,rfl⟩|⟨x,t,rfl,rfl⟩
  ·rcases br hb with ⟨j,u,rfl,e⟩|⟨y,u,rfl,e⟩
   ·injection e with e1 _;rw[e1]
   ·exact nomatch e
  ·rcases br hb with ⟨j,u,rfl,e⟩|⟨y,u,rfl,e⟩
   ·exact nomatch e
   ·injection e with e1 _;rw[e1]
 byValue:=λk v h=>by rcases br h with ⟨i,t,rfl,rfl⟩|⟨x,t,rfl,rfl⟩<;>rfl
 pyHash:=λhv h=>by
  rcases br hv with ⟨i,t,rfl,rfl⟩|⟨x,t,rfl,rfl⟩
  ·exact wpAny_pyHash_int h
  ·exact wpAny_pyHash_str h
 eqBool:=λhu hv h=>by
  rcases br hu with ⟨i,t,rfl,rfl⟩|⟨x,t,rfl,rfl⟩
  ·rcases br hv with ⟨j,u,rfl,rfl⟩|⟨y,u,rfl,rfl⟩
   ·rw[key_ll]at h;exact wpAny_eqBool_int h
   ·rw[key_lr]at h;exact S7.int_str i t y u _ _ _ _ h
  ·rcases br hv with ⟨j,u,rfl,rfl⟩|⟨y,u,rfl,rfl⟩
   ·rw[key_rl]at h;exact S7.str_int x t j u _ _ _ _ h
   ·rw[key_rr]at h;exact wpAny_eqBool_str h
 «strs»:=λk x t v h=>by
  rcases br h with ⟨i,u,rfl,e⟩|⟨y,u,rfl,e⟩
  ·exact nomatch e
  ·injection e with e1 _;subst e1;cases v<;>rfl
theorem iy(prog:U4)(w:World)(i:Int)(t:Tok):(b9 prog w).is (.inl i) (.int i t)=true:=yj i t
theorem sL(prog:U4)(w:World)(x:Str)(t:Tok):(b9 prog w).is (.inr x) (.str x t)=true:=yk x t
end L2
namespace L2
open PySem PySem.Spec PyProof.Rows
set_option genInjectivity true in
inductive V where
 |non|bl (b:Bool)|int (i:Int)|str (x:Str)|byt (b:Array UInt8)|flt (b:UInt64)|ref (a:Addr)|ty (n:String)
 deriving DecidableEq
def RelV:V->Value->Prop
 |.non,u=>u=O1
 |.bl b,u=>u=Value.bool b
 |.int i,u=>∃t,u=O9 i t
 |.str x,u=>∃t,u=Value.str x t
 |.byt b,u=>∃t,u=Value.bytes b t
 |.flt b,u=>∃t,u=Value.float b t
 |.ref a,u=>u=U3 a
 |.ty n,u=>u=Value.type n
abbrev aP:List V->List Value->Prop:=Paired RelV
theorem aP.length(r:aP xs us):xs.length=us.length:=Paired.length r
theorem aP.get:∀{xs:List V} {us:ZK} {i:Nat} {x:V},aP xs us->xs[i]?=some x->∃u,us[i]?=some u/\RelV x u:=by
 intro xs us i x p;induction p generalizing i with
 |nil=>exact λe=>nomatch e
 |cons r t ih =>
  cases i with
  |zero=>exact λe=>aF _ rfl<|Z8 e▸r
  |succ i=>exact λe=>ih (i:=i) e
theorem aP.set(r:RelV x u):∀{xs:List V} {us:ZK} (i:Nat),aP xs us->aP (xs.set i x) (us.set i u):=by
 intro xs us i p;induction p generalizing i with
 |nil=>exact .nil
 |cons q t ih =>
  cases i with
  |zero=>exact .cons r t
  |succ i=>exact .cons q<|ih i
theorem aP.append:∀{xs ys:List V} {us ws:ZK},aP xs us->aP ys ws->aP (xs++ys) (us++ws):=λp s=>by
 induction p with
 |nil=>exact s
 |cons r _ ih=>exact .cons r ih
theorem aP.take:∀{xs:List V} {us:ZK} (n:Nat),aP xs us->aP (xs.take n) (us.take n):=by
 intro xs us n p;induction p generalizing n with
 |nil=>cases n<;>exact .nil
 |cons r t ih =>
  cases n with
  |zero=>exact .nil
  |succ n=>exact .cons r<|ih n
theorem aP.drop:∀{xs:List V} {us:ZK} (n:Nat),aP xs us->aP (xs.drop n) (us.drop n):=by
 intro xs us n p;induction p generalizing n with
 |nil=>cases n<;>exact .nil
 |cons r t ih =>
  cases n with
  |zero=>exact .cons r t
  |succ n=>exact ih n
def iz:Option V->Option Value->Prop
 |some v,some u=>RelV v u
 |none,none=>True
 |_,_=>False
def KV{κ:Type}:List (κ×V)->List (κ×Value)->Prop:=Paired λ(p:κ×V) (q:κ×Value)=>p.1=q.1/\RelV p.2 q.2
noncomputable def kV:Key->V
 |.inl i=>.int i
 |.inr x=>.str x
inductive HO where
 |lst (xs:List V)
 |tup (xs:List V)
 |dK (kvs:List (Key×V))|dT (kvs:List (List Key×V))
 |set (S:Int->Bool) (n:Nat)
 |ins (C dx:Addr) (fs:List (Str×V))
 |own (x:Addr)
 |xd (fs:List (Str×V))
 |met (f x:Addr)
 |rng (lo hi:Int)
 |frz (o:Obj) (u:HO)
 |tbl (ps:Zp)
 |ext (φ:Heap->Prop)
noncomputable abbrev Hp:=Addr->Option HO
noncomputable def aH(H:Hp)(a:Addr)(o:HO):Hp:=λb=>if b=a then some o else H b
theorem am:aH H a o a=some o:=by unfold aH;rw[if_pos rfl]
theorem aq(h:b≠a):aH H a o b=H b:=by unfold aH;rw[if_neg h]
theorem upd_upd:aH (aH H a o) a u=aH H a u:=by funext b;unfold aH;split<;>rfl
theorem ne_of{H:Hp}(h:H a=some o)(h':H b=some u)(d:o≠u):a≠b:=by intro e;subst e;rw[h]at h';exact d<|Z8 h'
theorem ai{H:Hp}(h:H a=some o)(h':H b=none):a≠b:=by intro e;subst e;rw[h]at h';cases h'
section
variable (P:U4)(w:World)
def bE(H:Hp)(h:Heap)(a:Addr):HO->Prop
 |.lst xs=>xs.length<=W9/\∃(its:ZK) (n:Nat),aP xs its/\h.get? a=some {cls:=.type "list",data:=.seq its.toArray n}
 |.tup xs=>xs.length<=W9/\∃its:List Value,aP xs its/\IsTup h a its.toArray
 |.dK kvs=>kvs.length<=W9/\(a==M8)=false/\∃vs,KV kvs vs/\h.DictOf (b9 P w) a vs
 |.dT kvs=>kvs.length<=W9/\(a==M8)=false/\∃xs:List (List Key×Addr×Value),
   Paired (λ(p:List Key×V) (q:List Key×Addr×Value)=>p.1=q.1/\H q.2.1=some (.tup<|p.1.map kV)/\RelV p.2 q.2.2) kvs xs /\
   ∃o es ep,h.get? a=some o/\o.ExactDict/\o.data=.dict es ep/\es.toList=xs.map (entryOfKey<|tupleKind<|b9 P w)/\(xs.map (·.1)).Nodup
 |.set S n=>h.SetOf (intKind P w) a S n
 |.ins C dx fs=>H dx=some (.own a)/\fs.length<=1000/\dx≠a/\h.get? a=some (G7 C dx) /\
   ∃mA,h.Ns1 dx mA/\(∀f,iz (fs.lookup f) (mA f))/\PySem.Within mA (fs.map (·.1))
 |.own _=>∃o,h.get? a=some o
 |.xd fs=>∃mA,h.Ns1 a mA/\∀f,iz (fs.lookup f) (mA f)
 |.rng lo hi=>∃t u v,h.get? a=some {cls:=.type "range",data:=.fields #[.int lo t,.int hi u,.int 1 v]}
 |.frz o u=>h.get? a=some o/\bE H h a u
 |.tbl ps=>h.get? a=some {cls:=.none,data:=.fields ps}
 |.met f x=>h.get? a=some (PySem.W.methodObj (.ref f)<|.ref x)
 |.ext φ=>φ h/\(∃o,h.get? a=some o)/\∀h1 h2:Heap,φ h1->(∀o,h1.get? a=some o->h2.get? a=some o)->φ h2
def jO(H:Hp)(h:Heap):Prop:=∀a o,H a=some o->bE P w H h a o
end
section
variable {P:U4}{w:World}{H H':Hp}{h h':Heap}{a:Addr}{o:HO}
theorem bE.lt(x:bE P w H h a o):a<h.objs.size:=by
 cases o with
 |lst xs=>refine ax x λb zz=>bv zz λb b b e=>?_;exact X0 e
 |tup xs=>refine ax x λb zz=>aa zz λb b p=>?_;exact p.lt
 |dK kvs=>refine aV x λb b zz=>aa zz λb b zz=>fM zz λo b b e b=>?_;exact X0 e
 |dT kvs=>refine aV x λb b zz=>aa zz λb b zz=>fM zz λo b b e b=>?_;exact X0 e
 |set S n=>refine kX x λo b b b e b=>?_;exact X0 e
 |ins C dx fs=>refine gl x λb b b e b=>?_;exact X0 e
 |own y=>refine ao x λb e=>?_;exact X0 e
 |xd fs=>obtain⟨_,⟨_,_,_,e,_⟩,_⟩:=x;exact X0 e
 |rng lo hi=>refine gu x λb b b e=>?_;exact X0 e
 |frz ob u=>refine ax x λe b=>?_;exact X0 e
 |tbl ps=>exact X0 (show h.get? a=some _ from x)
 |met f y=>exact X0 (show h.get? a=some _ from x)
 |ext φ=>obtain⟨_,⟨_,e⟩,_⟩:=x;exact X0 e
theorem Paired.mapP{α β:Type}{F G:α->β->Prop}:∀{l₁:List α} {l₂:List β},Paired F l₁ l₂->(∀a b,F a b->G a b)->Paired G l₁ l₂:=λp f=>by
 induction p with
 |nil=>exact .nil
 |cons r _ ih=>exact .cons (f _ _ r) ih
theorem bE.stay(x:bE P w H h a o)(k:∀b u,(b=a\/H b=some (.own a))->h.get? b=some u->h'.get? b=some u)(ho:∀b,H b=some (.own a)->H' b=some (.own a))(ht:∀b xs,H b=some (.tup xs)->H' b=some (.tup xs)):bE P w H' h' a o:=by
 induction o with
 |lst xs=>refine ax x λz zz=>bv zz λits n r e=>?_;exact⟨z,its,n,r,k _ _ (.inl rfl) e⟩
 |tup xs=>refine ax x λz zz=>aa zz λits r zz=>aa zz λob e c=>?_;exact⟨z,its,r,ob,k _ _ (.inl rfl) e,c⟩
 |dK kvs=>refine aV x λz y zz=>aa zz λvs r zz=>fM zz λob es ep e c=>?_;exact⟨z,y,vs,r,ob,es,ep,k _ _ (.inl rfl) e,c⟩
 |dT kvs =>refine aV x λz y zz=>aa zz λxs r zz=>fM zz λob es ep e c=>?_;exact⟨z,y,xs,Paired.mapP r λp q z=>⟨z.1,ht _ _ z.2.1,z.2.2⟩,ob,es,ep,k _ _ (.inl rfl) e,c⟩
 |set S n=>refine kX x λob es ep t e c=>?_;exact⟨ob,es,ep,t,k _ _ (.inl rfl) e,c⟩
 |ins C dx fs =>obtain⟨d,z,ne,e,mA,⟨od,es,ep,e2,c⟩,r⟩:=x;exact⟨ho _ d,z,ne,k _ _ (.inl rfl) e,mA,⟨od,es,ep,k _ _ (.inr d) e2,c⟩,r⟩
 |own y=>refine ao x λob e=>?_;exact⟨ob,k _ _ (.inl rfl) e⟩
 |xd fs=>obtain⟨mA,⟨od,es,ep,e,c⟩,r⟩:=x;exact⟨mA,⟨od,es,ep,k _ _ (.inl rfl) e,c⟩,r⟩
 |rng lo hi=>refine gu x λt u v e=>?_;exact⟨t,u,v,k _ _ (.inl rfl) e⟩
 |frz ob u ih=>refine ax x λe q=>?_;exact⟨k _ _ (.inl rfl) e,ih q⟩
 |tbl ps =>have e:h.get? a=some {cls:=.none,data:=.fields ps}:=x;show h'.get? a=some {cls:=.none,data:=.fields ps};exact k a _ (.inl rfl) e
 |met f y =>have e:h.get? a=some (PySem.W.methodObj (.ref f)<|.ref y):=x;show h'.get? a=some (PySem.W.methodObj (.ref f)<|.ref y);exact k a _ (.inl rfl) e
 |ext φ=>obtain⟨p,⟨o,e⟩,st⟩:=x;exact⟨st _ _ p λo q=>k _ _ (.inl rfl) q,⟨o,k _ _ (.inl rfl) e⟩,st⟩
theorem jO.lt(x:jO P w H h)(e:H a=some o):a<h.objs.size:=(x a o e).lt
theorem jO.fresh(x:jO P w H h)(e:h.objs.size<=a):H a=none:=by
 cases q:H a with
 |none=>rfl
 |some u=>exact absurd (bZ (x.lt q) e)<|L6 _
theorem jO.kept(x:jO P w H h)(k:∀b u,h.get? b=some u->h'.get? b=some u):jO P w H h':=λa o e =>
 (x a o e).stay (λb u c q=>k b u q) (λc q=>q) λc c q=>q
theorem jO.laid(x:jO P w H h)(k:∀b u,h.get? b=some u->h'.get? b=some u)(hp:h.objs.size<=a)(new:bE P w (aH H a o) h' a o):jO P w (aH H a o) h':=λb u e=>by
 have hn:=x.fresh hp;by_cases hb:b=a
 ·subst hb;rw[am]at e;cases e;exact new
 ·rw[aq hb]at e;exact(x b u e).stay (λc v i q=>k c v q) (λc q=>by rw[aq (ai q hn)];exact q) λc xs q=>by rw[aq (ai q hn)];exact q
end
def Rd(H:Hp)(a:Addr)(u:HO):Prop:=H a=some u\/∃o,H a=some (.frz o u)
theorem Rd.of(h:H a=some u):Rd H a u:=.inl h
theorem Rd.ok(r:Rd H a u)(x:jO P w H h):bE P w H h a u:=by
 rcases r with r|⟨o,r⟩
 ·exact x a u r
 ·refine ax (x a _ r) λb q=>?_;exact q
def Mut:Option HO->Prop
 |some (.lst _)=>True
 |some (.dK _)=>True
 |some (.dT _)=>True
 |some (.set _ _)=>True
 |some (.ins _ _ _)=>True
 |some (.ext _)=>True
 |_=>False
section
variable {P:U4}{w:World}{H:Hp}{h h':Heap}{x e:Addr}{o':HO}
theorem jO.write(ok:jO P w H h)(mu:Mut (H x))(he:e=x\/H e=some (.own x))(k:∀b u,b≠e->h.get? b=some u->h'.get? b=some u)(heo:∃u,h'.get? e=some u)(new:bE P w (aH H x o') h' x o'):jO P w (aH H x o') h':=λb u q=>by
 have nown:∀c y,H c=some (.own y)->c≠x:=λc y r z=>by subst z;rw[r]at mu;exact mu
 have ntup:∀c xs,H c=some (.tup xs)->c≠x:=λc xs r z=>by subst z;rw[r]at mu;exact mu
 by_cases hb:b=x
 ·subst hb;rw[am]at q;cases q;exact new
 ·rw[aq hb]at q;by_cases hbe:b=e
  ·have q':H b=some (.own x):=by
    rcases he with z|z
    ·exact absurd (hbe.trans z) hb
    ·rw[hbe];exact z
   rw[q]at q';cases q';refine ao heo λv hv=>?_;exact⟨v,by rw[hbe];exact hv⟩
  ·refine(ok b u q).stay (λc v hc r=>k c v ?_ r) (λc r=>by rw[aq (nown c b r)];exact r) λc xs r=>by rw[aq (ntup c xs r)];exact r
   rcases hc with rfl|hc
   ·exact hbe
   ·rintro rfl;rcases he with z|z
    ·exact nown c b hc z
    ·rw[hc]at z;cases z;exact hb rfl
end
structure Un(fs ex:Zx)(H H':Hp)(h h':Heap):Prop where
 keep:∀b o,h.get? b=some o->H b=none->b∉fs->b∉ex->h'.get? b=some o
 slot:∀b o,h.get? b=some o->H b=none->b∈fs->b∉ex->∃sl,h'.get? b=some {o with slots:=sl}
 free:∀b o,h.get? b=some o->H b=none->b∉ex->H' b=none
 there:∀b o,h.get? b=some o->b∉ex->∃o',h'.get? b=some o'
 tups:∀b xs,H b=some (.tup xs)->H' b=some (.tup xs)
 frzs:∀b o u,H b=some (.frz o u)->H' b=some (.frz o u)
 tbls:∀b ps,H b=some (.tbl ps)->∃more,H' b=some (.tbl<|ps++more)
section
variable {fs ex:Zx}{H H1:Hp}{h h1 h':Heap}{a x e:Addr}{o:HO}
theorem Un.any(u:Un fs ex H H1 h h1)(q:h.get? b=some ob)(n:H b=none)(hx:b∉ex):∃sl,h1.get? b=some {ob with slots:=sl}:=by
 by_cases hb:b∈fs
 ·exact u.slot b ob q n hb hx
 ·exact⟨ob.slots,u.keep b ob q n hb hx⟩
theorem Un.kept(k:∀b u,h.get? b=some u->h'.get? b=some u):Un fs ex H H h h' :=
 ⟨λb ob q x x x=>k b ob q,λb ob q x x x=>⟨ob.slots,k b ob q⟩,λx x x n x=>n,λb ob q x=>⟨ob,k b ob q⟩,λx x q=>q,λx x x q=>q,λx ps q=>⟨#[],by rw[q];simp⟩⟩
theorem Un.refl:Un fs ex H H h h:=Un.kept λx x q=>q
theorem Un.laid(k:∀b u,h.get? b=some u->h'.get? b=some u)(hp:h.objs.size<=a)(hn:H a=none):Un fs ex H (aH H a o) h h' where
 keep:=λb u q x x x=>k b u q
 slot:=λb u q x x x=>⟨u.slots,k b u q⟩
 free:=λb u q n x=>by rw[aq (dH<|bZ (X0 q) hp)];exact n
 there:=λb u q x=>⟨u,k b u q⟩
 tups:=λb xs q=>by rw[aq (ai q hn)];exact q
 frzs:=λb u xs q=>by rw[aq (ai q hn)];exact q
 tbls:=λb ps q=>⟨#[],by rw[aq (ai q hn),q];simp⟩
theorem Un.write(mu:Mut (H x))(he:e=x\/H e=some (.own x))(k:∀b u,b≠e->h.get? b=some u->h'.get? b=some u)(heo:∃u,h'.get? e=some u):Un fs ex H (aH H x o) h h':=by
 have hx:∀b,H b=none->b≠x:=λb n z=>by subst z;rw[n]at mu;exact mu
 have hb:∀b,H b=none->b≠e:=λb n z=>by
  subst z;rcases he with r|r
  ·exact hx b n r
  ·rw[n]at r;cases r
 have hm:∀b u,H b=some u->¬ Mut (some u)->b≠x:=λb u q nm z=>by subst z;rw[q]at mu;exact nm mu
 refine⟨λb u q n a a=>k b u (hb b n) q,λb u q n a a=>⟨u.slots,k b u (hb b n) q⟩,λb u q n a=>by rw[aq (hx b n)];exact n,λb u q a=>?_,
  λb xs q=>by rw[aq (hm b _ q λz=>z)];exact q,λb u xs q=>by rw[aq (hm b _ q λz=>z)];exact q,λb ps q=>⟨#[],by rw[aq (hm b _ q λz=>z),q];simp⟩⟩
 by_cases hbe:b=e
 ·subst hbe;exact heo
 ·exact⟨u,k b u hbe q⟩
end
noncomputable def trk(h:Heap)(H:Hp):List Addr:=(X9 h.objs.size).filter λa=>(H a).isSome
noncomputable def qG(h:Heap)(H:Hp):Heap:=PySem.W.hideAll h<|trk h H
theorem yl(h:Heap)(H:Hp):(qG h H).objs.size=h.objs.size:=PySem.W.hideAll_size _ _
theorem mW(e:h.get? b=some o)(n:H b=none):(qG h H).get? b=some o :=
 PySem.W.hideAll_get _ e λhm=>by have q:(H b).isSome=true:=(P0.mp hm).2;rw[n]at q;simp at q
theorem of_hidT(e:(qG h H).get? b=some o):h.get? b=some o/\H b=none:=by
 have e':h.get? b=some o:=PySem.W.of_hideAll (trk h H) e;refine⟨e',?_⟩;cases q:H b with
 |none=>rfl
 |some x =>have hm:b∈trk h H:=P0.mpr ⟨P7.mpr<|X0 e',by simp[q]⟩;have z:(qG h H).get? b=none:=PySem.W.hideAll_none (trk h H) hm;rw[z]at e;cases e
end L2
namespace L2
open PySem PySem.Spec PyProof.Rows
structure Mod(K:Z4)(mg:ZH)(base:Heap):Prop where
 kin:K.In base
 glob:base.Ns S8 mg
 blt:∃mb,base.Ns builtinsNs mb/\∀x:Str,x≠"__name__"->mb x=P5 x
 nolimit:base.NoLimit
structure Cx where
 prog:U4
 w:World
 K:Z4
 mg:Str->Option Value
 base:Heap
 A:Around
 N:List Str
 s₀:Shared
 H₀:Hp
 env:Env
 outer:List Env
 stack:List Env
 ex:List Addr
 fn:Str->Bool
 calm:Bool
 pn:List (Addr×Obj)
 xe:Value->Shared->Prop
noncomputable def zJ(l:List Env):List Addr:=l.filterMap (·.frame)
noncomputable abbrev Cx.fs(X:Cx):List Addr:=zJ X.outer
def Vis(sc:Scope)(x:Str):Prop:=sc.names.lookup x=some .local\/sc.names.lookup x=some .cell\/sc.names.lookup x=some .free
def Loc(sc:Scope)(x:Str):Prop:=sc.names.lookup x=some .local\/sc.names.lookup x=some .cell
noncomputable def Look(env:Env)(h:Heap)(m:ZH)(x:Str)(u:Value):Prop :=
 (env.kindOf x=some .local/\m x=some u)\/((env.kindOf x=some .cell\/env.kindOf x=some .free)/\∃c,env.cells.lookup x=some c/\h.IsCell c (some u))
structure Cx.Ok(X:Cx):Prop where
 mod:Mod X.K X.mg X.base
 kind:X.env.scope.kind=.function
 glob:X.env.globals=S8
 blt:X.env.builtins=builtinsNs
 above:X.s₀.heap.objs.size<=X.env.locals
 inj:∀x y c,X.env.cells.lookup x=some c->X.env.cells.lookup y=some c->x=y
 has:∀x,(X.env.kindOf x=some .cell\/X.env.kindOf x=some .free)->∃c,X.env.cells.lookup x=some c
 cab:∀x c,X.fn x=true->X.env.cells.lookup x=some c->X.s₀.heap.objs.size<=c
 hd:X.calm=true->X.A.handled=none
 frames:X.A.frames=some X.stack
 stk:X.stack=X.outer\/(X.stack=X.env ::X.outer/\X.env.frame=some X.env.locals)
 exf:∀b∈X.ex,b≠X.env.locals/\∀x c,X.env.cells.lookup x=some c->c≠b
 bs:∀b o,X.base.get? b=some o->X.s₀.heap.get? b=some o/\X.H₀ b=none
 bsz:X.base.objs.size<=X.s₀.heap.objs.size
 noex:∀b o,X.base.get? b=some o->b∉X.ex
 exfs:∀b∈X.ex,b∉X.fs
 funs:X.s₀.heap.FunFrames X.base X.outer
 frf:∀b∈X.fs,X.H₀ b=none
structure Inv(X:Cx)(ZY:ZJ)(σ:List (Option V))(H:Hp)(s:Shared):Prop where
 ok:X.Ok
 os:s.os=X.s₀.os
 bare:AllBare s.gens
 base:Un X.fs X.ex X.H₀ H X.s₀.heap s.heap
 loc:∃m,s.heap.Ns X.env.locals m/\∀(i:Nat) (x:Str) (v:V),X.N[i]?=some x->σ[i]?=some (some v)->Vis X.env.scope x->∃u,RelV v u/\Look X.env s.heap m x u
 cell:∀x c,X.env.cells.lookup x=some c->∃v,s.heap.IsCell c v
 free:H X.env.locals=none
 freeC:∀x c,X.env.cells.lookup x=some c->H c=none
 pin:∀p∈X.pn++ZY,s.heap.get? p.1=some p.2/\H p.1=none/\p.1≠X.env.locals/\p.1∉X.fs/\∀v,p.2.data≠.cell v
 hok:jO X.prog X.w H s.heap
 len:σ.length=X.N.length
section
variable {X:Cx}{ZY:ZJ}{σ:List (Option V)}{H H':Hp}{s:Shared}{h':Heap}
theorem Cx.Ok.nofr(ok:X.Ok)(e:X.base.get? b=some o):b∉X.fs:=λhb=>by have:=(ok.funs.mem hb).1;rw[e]at this;cases this
theorem Inv.bs(I:Inv X ZY σ H s):∀b o,X.base.get? b=some o->s.heap.get? b=some o/\H b=none:=λb o e =>
 ⟨I.base.keep b o (I.ok.bs b o e).1 (I.ok.bs b o e).2 (I.ok.nofr e) (I.ok.noex b o e),I.base.free b o (I.ok.bs b o e).1 (I.ok.bs b o e).2 (I.ok.noex b o e)⟩
theorem Inv.bk(I:Inv X ZY σ H s):∀b o,X.base.get? b=some o->s.heap.get? b=some o:=λb o e=>(I.bs b o e).1
theorem Inv.mod(I:Inv X ZY σ H s):Mod X.K X.mg X.base:=I.ok.mod
theorem Inv.kIn(I:Inv X ZY σ H s):X.K.In s.heap:=I.ok.mod.kin.keeps I.bk
theorem Inv.nolimit(I:Inv X ZY σ H s):s.heap.NoLimit:=I.ok.mod.nolimit.keeps I.bk
theorem Inv.lt(I:Inv X ZY σ H s):X.env.locals<s.heap.objs.size:=aa I.loc λx hn x=>hn.lt
theorem Inv.sz(I:Inv X ZY σ H s):X.s₀.heap.objs.size<=s.heap.objs.size:=b8 I.ok.above<|cT I.lt
theorem Inv.nofs(I:Inv X ZY σ H s){a:Addr}(h:s.heap.objs.size<=a):a∉X.fs:=λhb=>by refine ax (I.ok.funs.mem hb) λx zz=>aa zz λo ho x=>?_;exact absurd (bZ (X0 ho)<|b8 I.sz h)<|L6 _
theorem Inv.cne(I:Inv X ZY σ H s):∀x c,X.env.cells.lookup x=some c->c≠X.env.locals:=λx c e z=>by refine bv (I.cell x c e) λv o ho hd=>?_;obtain⟨m,⟨o',es,ep,ho',hd',_⟩,_⟩:=I.loc;rw[z,ho']at ho;cases ho;rw[hd']at hd;cases hd
theorem Inv.funs(I:Inv X ZY σ H s):s.heap.FunFrames X.base X.outer:=by
 have all:∀(l:List Env),(∀b∈zJ l,b∈X.fs)->X.s₀.heap.FunFrames X.base l->s.heap.FunFrames X.base l:=by
  intro l;induction l with
  |nil=>intro _ _;trivial
  |cons env r ih =>intro hs hl;obtain⟨hk,⟨L,o,hf,hn,ho,hd⟩,hr⟩:=hl;have hL:L∈X.fs:=hs L (by unfold zJ;rw[List.filterMap_cons,hf];exact V1);refine ao (I.base.slot L o ho (I.ok.frf L hL) hL λz=>I.ok.exfs L z hL) λsl e=>?_;exact⟨hk,⟨L,_,hf,hn,e,hd⟩,ih (λb hb=>hs b (by unfold zJ;rw[List.filterMap_cons,hf];exact W4 _ hb)) hr⟩
 exact all X.outer (λx hb=>hb) I.ok.funs
theorem Inv.stack(I:Inv X ZY σ H s):s.heap.FunFrames X.base X.stack:=by
 rcases I.ok.stk with e|⟨e,hf⟩
 ·rw[e];exact I.funs
 ·rw[e];refine aa I.loc λm hn x=>?_;refine .cons (by rw[I.ok.kind];decide) hf hn ?_ I.funs;exact Heap.get?_none_of_le<|b8 I.ok.bsz I.ok.above
theorem Inv.stkSub(I:Inv X ZY σ H s):∀b∈zJ X.stack,b∈X.env.locals ::X.fs:=λb hb=>by
 rcases I.ok.stk with e|⟨e,hf⟩
 ·rw[e]at hb;exact W4 _ hb
 ·rw[e]at hb;unfold zJ at hb;rw[List.filterMap_cons,hf]at hb;exact hb
theorem Inv.stkFree(I:Inv X ZY σ H s):∀b∈zJ X.stack,H b=none:=λb hb=>by
 rcases Y4.mp (I.stkSub b hb) with e|hb
 ·rw[e];exact I.free
 ·refine ax (I.ok.funs.mem hb) λx zz=>aa zz λo ho x=>?_;exact I.base.free b o ho (I.ok.frf b hb) λz=>I.ok.exfs b z hb
theorem Inv.step{ch:Zx}(I:Inv X ZY σ H s)(hch:∀b∈ch,(b∈X.ex\/X.s₀.heap.objs.size<=b)/\b≠X.env.locals/\(∀x c,X.env.cells.lookup x=some c->c≠b)/\∀p∈X.pn++ZY,p.1≠b)(keep:∀b o,b≠X.env.locals->b∉X.fs->b∉ch->s.heap.get? b=some o->H b=none->h'.get? b=some o)(slot:∀b o,b≠X.env.locals->b∈X.fs->b∉ch->s.heap.get? b=some o->H b=none->∃sl,h'.get? b=some {o with slots:=sl})(free:∀b o,b∉ch->s.heap.get? b=some o->H b=none->H' b=none)(there:∀b o,b∉ch->s.heap.get? b=some o->∃o',h'.get? b=some o')(tups:∀b xs,H b=some (.tup xs)->H' b=some (.tup xs))(frzs:∀b o u,H b=some (.frz o u)->H' b=some (.frz o u))(tbls:∀b ps,H b=some (.tbl ps)->∃more,H' b=some (.tbl<|ps++more))(ns:∀m,s.heap.Ns X.env.locals m->h'.Ns X.env.locals m)(hok:jO X.prog X.w H' h')(hg:AllBare g'):
  Inv X ZY σ H' {s with heap:=h',gens:=g',drawn:=d',toks:=t'}:=by
 have neL:∀b o,X.s₀.heap.get? b=some o->b≠X.env.locals:=λb o e=>dH<|bZ (X0 e) I.ok.above;have neC:∀b o,X.s₀.heap.get? b=some o->b∉X.ex->b∉ch:=λb o e hx hb=>by
  rcases(hch b hb).1 with z|z
  ·exact hx z
  ·exact absurd (bZ (X0 e) z)<|L6 _
 have cellK:∀x c,X.env.cells.lookup x=some c->∀v,s.heap.IsCell c v->h'.IsCell c v:=λx c e v zq=>aa zq λo ho hd=>by
  have nch:c∉ch:=λz=>(hch c z).2.2.1 x c e rfl;by_cases hc:c∈X.fs
  ·refine ao (slot c o (I.cne x c e) hc nch ho<|I.freeC x c e) λsl q=>?_;exact⟨_,q,hd⟩
  ·exact⟨o,keep c o (I.cne x c e) hc nch ho<|I.freeC x c e,hd⟩
 refine⟨I.ok,I.os,hg,⟨λb o e n hb hx=>?_,λb o e n hb hx=>?_,λb o e n hx=>?_,λb o e hx=>?_,λb xs e=>tups b xs<|I.base.tups b xs e,λb o xs e=>frzs b o xs<|I.base.frzs b o xs e,λb ps e=>?_⟩,?_,λx c e=>?_,?_,λx c e=>?_,λp hp=>?_,hok,I.len⟩
 ·exact keep b o (neL b o e) hb (neC b o e hx) (I.base.keep b o e n hb hx)<|I.base.free b o e n hx
 ·refine ao (I.base.slot b o e n hb hx) λsl e1=>?_;refine ao (slot b _ (neL b o e) hb (neC b o e hx) e1<|I.base.free b o e n hx) λsl' e2=>?_;exact⟨sl',e2⟩
 ·refine ao (I.base.there b o e hx) λo' e1=>?_;exact free b o' (neC b o e hx) e1<|I.base.free b o e n hx
 ·refine ao (I.base.there b o e hx) λo' e1=>?_;exact there b o' (neC b o e hx) e1
 ·refine ao (I.base.tbls b ps e) λm1 e1=>?_;refine ao (tbls b _ e1) λm2 e2=>?_;exact⟨m1++m2,by rw[e2,Array.append_assoc]⟩
 ·refine aa I.loc λm hn hl=>?_;refine⟨m,ns m hn,λi x v e1 e2 e3=>?_⟩;refine aa (hl i x v e1 e2 e3) λu r l=>?_;refine⟨u,r,?_⟩;rcases l with l|⟨k,c,e,z⟩
  ·exact .inl l
  ·exact .inr ⟨k,c,e,cellK x c e _ z⟩
 ·refine ao (I.cell x c e) λv z=>?_;exact⟨v,cellK x c e v z⟩
 ·obtain⟨m,⟨o,_,_,ho,_⟩,_⟩:=I.loc;exact free _ o (λz=>(hch _ z).2.1 rfl) ho I.free
 ·refine bv (I.cell x c e) λv o ho hd=>?_;exact free c o (λz=>(hch c z).2.2.1 x c e rfl) ho<|I.freeC x c e
 ·refine gl (I.pin p hp) λe n ne nf d=>?_;have nch:p.1∉ch:=λz=>(hch p.1 z).2.2.2 p hp rfl;exact⟨keep p.1 p.2 ne nf nch e n,free p.1 p.2 nch e n,ne,nf,d⟩
theorem Inv.un(I:Inv X ZY σ H s)(u:Un X.fs [] H H' s.heap h')(hok:jO X.prog X.w H' h'):Inv X ZY σ H' {s with heap:=h',toks:=t'}:=by
 obtain⟨m,⟨o,es,ep,ho,r⟩,_⟩:=id I.loc;refine ao (u.any ho I.free (by simp)) λsl hL=>?_;exact I.step (g':=s.gens) (d':=s.drawn) (ch:=[]) (λx z=>nomatch z) (λb o x hb x e n=>u.keep b o e n hb (by simp)) (λb o x hb x e n=>u.slot b o e n hb (by simp)) (λb o x e n=>u.free b o e n (by simp)) (λb o x e=>u.there b o e (by simp)) u.tups u.frzs u.tbls (λm' hm=>by refine fM hm λo' es' ep' ho' r'=>?_;rw[ho]at ho';cases ho';exact⟨_,es',ep',hL,r'⟩) hok I.bare
theorem Inv.call(I:Inv X ZY σ H s)(u:Un (zJ X.stack) ch H H' s.heap h')(hok:jO X.prog X.w H' h')(hg:AllBare g')(hch:∀b∈ch,(b∈X.ex\/X.s₀.heap.objs.size<=b)/\b≠X.env.locals/\(∀x c,X.env.cells.lookup x=some c->c≠b)/\∀p∈X.pn++ZY,p.1≠b):
  Inv X ZY σ H' {s with heap:=h',gens:=g',drawn:=d',toks:=t'}:=by
 obtain⟨m,⟨o,es,ep,ho,r⟩,_⟩:=id I.loc;refine ao (u.any ho I.free λz=>(hch _ z).2.1 rfl) λsl hL=>?_;exact I.step (ch:=ch) hch (λb o hL hb hc e n=>u.keep b o e n (λz=>(Y4.mp<|I.stkSub b z).elim hL hb) hc) (λb o a a hc e n=>u.any e n hc) (λb o hc e n=>u.free b o e n hc) (λb o hc e=>u.there b o e hc) u.tups u.frzs u.tbls (λm' hm=>by refine fM hm λo' es' ep' ho' r'=>?_;rw[ho]at ho';cases ho';exact⟨_,es',ep',hL,r'⟩) hok hg
theorem Inv.turned(I:Inv X ZY σ H s)(k:∀b o,b≠it->s.heap.get? b=some o->h'.get? b=some o)(hn:H it=none)(hL:it≠X.env.locals)(h1:it∈X.ex\/X.s₀.heap.objs.size<=it)(h2:∀x c,X.env.cells.lookup x=some c->c≠it)(h3:∀p∈X.pn++ZY,p.1≠it):Inv X ZY σ H {s with heap:=h',toks:=t'}:=by
 have nit:∀b u,H b=some u->b≠it:=λb u e z=>by rw[z,hn]at e;cases e
 refine I.step (g':=s.gens) (d':=s.drawn) (ch:=[it]) (λb hb=>?_) (λb o a a hc e a=>k b o (λz=>hc (by simp[z])) e) (λb o a a hc e a=>⟨o.slots,k b o (λz=>hc (by simp[z])) e⟩) (λa a a a n=>n)
  (λb o hc e=>⟨o,k b o (λz=>hc (by simp[z])) e⟩) (λa a e=>e) (λa a a e=>e) (λb ps e=>⟨#[],by rw[e];simp⟩) (λm hm=>?_) (λb u e=>?_) I.bare
 ·have e:b=it:=by simpa using hb
  subst e;exact⟨h1,hL,h2,h3⟩
 ·refine fM hm λo es ep ho r=>?_;exact⟨o,es,ep,k _ o (R4 hL) ho,r⟩
 ·refine(I.hok b u e).stay (λc v hc q=>k c v ?_ q) (λa q=>q) λa a q=>q;rcases hc with z|z
  ·rw[z];exact nit b u e
  ·exact nit c _ z
theorem Inv.tok(I:Inv X ZY σ H s)(t:Nat):Inv X ZY σ H {s with toks:=t}:=I.un (h':=s.heap) (t':=t) Un.refl I.hok
theorem Inv.kept(I:Inv X ZY σ H s)(k:∀b u,s.heap.get? b=some u->h'.get? b=some u):Inv X ZY σ H {s with heap:=h',toks:=t'}:=I.un (Un.kept k)<|I.hok.kept k
theorem Inv.laid{a:Addr}(I:Inv X ZY σ H s)(k:∀b u,s.heap.get? b=some u->h'.get? b=some u)(hp:s.heap.objs.size<=a)(new:bE X.prog X.w (aH H a o) h' a o):
  Inv X ZY σ (aH H a o) {s with heap:=h',toks:=t'}:=I.un (Un.laid k hp<|I.hok.fresh hp)<|I.hok.laid k hp new
theorem Inv.write(I:Inv X ZY σ H s)(mu:Mut (H x))(he:e=x\/H e=some (.own x))(k:∀b u,b≠e->s.heap.get? b=some u->h'.get? b=some u)(heo:∃u,h'.get? e=some u)(new:bE X.prog X.w (aH H x o) h' x o):Inv X ZY σ (aH H x o) {s with heap:=h',toks:=t'}:=I.un (Un.write mu he k heo)<|I.hok.write mu he k heo new
theorem Inv.weak(I:Inv X ZY σ H s)(hl:σ'.length=σ.length)(w:∀(i:Nat) v,σ'[i]?=some (some v)->σ[i]?=some (some v)):Inv X ZY σ' H s :=
 ⟨I.ok,I.os,I.bare,I.base,aa I.loc λm hn hl'=>⟨m,hn,λi x v e1 e2 e3=>hl' i x v e1 (w i v e2) e3⟩,I.cell,I.free,I.freeC,I.pin,I.hok,hl.trans I.len⟩
theorem Inv.pins_of(I:Inv X ZY σ H s)(h:∀p∈pins',s.heap.get? p.1=some p.2/\H p.1=none/\p.1≠X.env.locals/\p.1∉X.fs/\∀v,p.2.data≠.cell v):Inv X pins' σ H s :=
 ⟨I.ok,I.os,I.bare,I.base,I.loc,I.cell,I.free,I.freeC,λp hp=>(W0.mp hp).elim (λz=>I.pin p<|U7 _ z) (h p),I.hok,I.len⟩
theorem sM{N:ZF}(hN:N.Nodup){i j:Nat}(a:N[i]?=some x)(b:N[j]?=some x):i=j:=by obtain⟨h1,e1⟩:=Z6.mp a;obtain⟨h2,e2⟩:=Z6.mp b;exact(List.getElem_inj hN).mp (e1.trans e2.symm)
theorem pZ{M:Model}{A:Around}{E:ZN}{i:Nat}{x:Str}{v:V}{u:Value}{Q:Unit->Shared->Prop}(I:Inv X ZY σ H s)(hN:X.N.Nodup)(hi:X.N[i]?=some x)(hx:Loc X.env.scope x)(r:RelV v u)(h:∀s',Inv X ZY (σ.set i<|some v) H s'->(∃a,U8 a s.heap s'.heap/\(a=X.env.locals\/X.env.cells.lookup x=some a))->Q () s')(hf:X.fn x=true\/X.env.scope.names.lookup x=some .local:=by first|exact .inl rfl|exact .inr rfl|assumption):wpAny M A (storeName X.env x u) Q E s:=by
 refine aa (id I.loc) λm hn hl=>?_;have hcls:(X.env.scope.kind==.class || (X.env.scope.kind==.module&&X.env.locals != X.env.globals))=false:=by rw[I.ok.kind];rfl
 have hiσ:i<σ.length:=by rw[I.len];exact(Z6.mp hi).1
 have cne:=I.cne;have tracked:∀{a:Addr} {h':Heap},(∃o,s.heap.get? a=some o/\H a=none)->U8 a s.heap h'->jO X.prog X.w H h':=λ{a h'} ha hs b ob e=>by
  refine aa ha λt t hfree=>?_;refine(I.hok b ob e).stay (λc w' hc q=>(hs.2 c ?_).trans q) (λt q=>q) λt t q=>q;rintro rfl;rcases hc with rfl|hc
  ·rw[hfree]at e;cases e
  ·rw[hfree]at hc;cases hc
 rcases hx with hk|hk
 ·refine wpAny_storeName_local hk hn (λh' hn' hs=>?_) hcls;refine fM (id hn) λoL t t hoL t=>?_;refine h _ ⟨I.ok,I.os,I.bare,⟨λb o e n hb hx=>?_,λb o e n hb hx=>?_,I.base.free,λb o e hx=>?_,I.base.tups,I.base.frzs,I.base.tbls⟩,⟨_,hn',λj y v' e1 e2 e3=>?_⟩,λy c e=>?_,I.free,I.freeC,λp hp=>?_,tracked ⟨oL,hoL,I.free⟩ hs,by simpa using I.len⟩ ⟨_,hs,.inl rfl⟩
  ·exact(hs.2 b<|dH<|bZ (X0 e) I.ok.above).trans (I.base.keep b o e n hb hx)
  ·refine ao (I.base.slot b o e n hb hx) λsl e1=>?_;exact⟨sl,(hs.2 b<|dH<|bZ (X0 e) I.ok.above).trans e1⟩
  ·refine ao (I.base.there b o e hx) λo' e1=>?_;exact⟨o',(hs.2 b<|dH<|bZ (X0 e) I.ok.above).trans e1⟩
  ·by_cases hj:j=i
   ·subst hj;rw[hi]at e1;cases e1;rw[List.getElem?_set_self hiσ]at e2;cases e2;exact⟨u,r,.inl ⟨hk,by simp⟩⟩
   ·rw[List.getElem?_set_ne (R4 hj)]at e2;refine aa (hl j y v' e1 e2 e3) λu' r' q=>?_;refine⟨u',r',?_⟩;rcases q with ⟨k,e⟩|⟨k,c,e,z⟩
    ·refine .inl ⟨k,?_⟩;have:y≠x:=λe=>hj<|sM hN e1<|e▸hi;simp[this,e]
    ·exact .inr ⟨k,c,e,z.sameBut hs<|cne y c e⟩
  ·refine ao (I.cell y c e) λw' z=>?_;exact⟨w',z.sameBut hs<|cne y c e⟩
  ·refine gl (I.pin p hp) λe n ne nf d=>?_;exact⟨(hs.2 p.1 ne).trans e,n,ne,nf,d⟩
 ·have hfn:X.fn x=true:=by
   rcases hf with z|z
   ·exact z
   ·rw[z]at hk;cases hk
  refine ao (I.ok.has x<|.inl hk) λc hc=>?_;refine ao (I.cell x c hc) λw' z=>?_;refine wpAny_storeName_cell I.ok.kind hk hc z λh' hc' hs=>?_;refine aa (id z) λoc hoc hocd=>?_;refine h {s with heap:=h'} ⟨I.ok,I.os,I.bare,⟨λb o e n hb hx=>?_,λb o e n hb hx=>?_,I.base.free,λb o e hx=>?_,I.base.tups,I.base.frzs,I.base.tbls⟩,⟨m,hn.sameBut hs<|R4<|cne x c hc,λj y v' e1 e2 e3=>?_⟩,λy c' e=>?_,I.free,I.freeC,λp hp=>?_,tracked ⟨oc,hoc,I.freeC x c hc⟩ hs,by simpa using I.len⟩ ⟨c,hs,.inr hc⟩
  ·exact(hs.2 b<|dH<|bZ (X0 e)<|I.ok.cab x c hfn hc).trans (I.base.keep b o e n hb hx)
  ·refine ao (I.base.slot b o e n hb hx) λsl e1=>?_;exact⟨sl,(hs.2 b<|dH<|bZ (X0 e)<|I.ok.cab x c hfn hc).trans e1⟩
  ·refine ao (I.base.there b o e hx) λo' e1=>?_;exact⟨o',(hs.2 b<|dH<|bZ (X0 e)<|I.ok.cab x c hfn hc).trans e1⟩
  ·by_cases hj:j=i
   ·subst hj;rw[hi]at e1;cases e1;rw[List.getElem?_set_self hiσ]at e2;cases e2;exact⟨u,r,.inr ⟨.inl hk,c,hc,hc'⟩⟩
   ·rw[List.getElem?_set_ne (R4 hj)]at e2;refine aa (hl j y v' e1 e2 e3) λu' r' q=>?_;refine⟨u',r',?_⟩;rcases q with q|⟨k,c',e,z'⟩
    ·exact .inl q
    ·refine .inr ⟨k,c',e,z'.sameBut hs ?_⟩;rintro rfl;exact hj<|sM hN e1<|I.ok.inj _ _ _ e hc▸hi
  ·by_cases hcc:c'=c
   ·subst hcc;exact⟨_,hc'⟩
   ·refine ao (I.cell y c' e) λw2 z2=>?_;exact⟨w2,z2.sameBut hs hcc⟩
  ·refine gl (I.pin p hp) λe n ne nf d=>?_;refine⟨(hs.2 p.1 ?_).trans e,n,ne,nf,d⟩;intro q;rw[q,hoc]at e;have q':oc=p.2:=Z8 e;exact d w' (by rw[<- q'];exact hocd)
theorem sN{M:Model}{A:Around}{E:ZN}{i:Nat}{x:Str}{v:V}{u:Value}{Q:Unit->Shared->Prop}(I:Inv X ZY σ H s)(hN:X.N.Nodup)(hi:X.N[i]?=some x)(hx:Loc X.env.scope x)(r:RelV v u)(h:∀s',Inv X ZY (σ.set i<|some v) H s'->Q () s')(hf:X.fn x=true\/X.env.scope.names.lookup x=some .local:=by first|exact .inl rfl|exact .inr rfl|assumption):wpAny M A (storeName X.env x u) Q E s :=
 pZ I hN hi hx r (λs' I' a=>h s' I') hf
theorem Inv.call'(I:Inv X ZY σ H s)(ho:s'.os=s.os)(u:Un (zJ X.stack) ch H H' s.heap s'.heap)(hok:jO X.prog X.w H' s'.heap)(hg:AllBare s'.gens)(hch:∀b∈ch,(b∈X.ex\/X.s₀.heap.objs.size<=b)/\b≠X.env.locals/\(∀x c,X.env.cells.lookup x=some c->c≠b)/\∀p∈X.pn++ZY,p.1≠b):Inv X ZY σ H' s':=by obtain⟨h',g',d',t',o'⟩:=s';have e:o'=s.os:=ho;subst e;exact I.call (g':=g') (t':=t') (d':=d') u hok hg hch
end
noncomputable abbrev XK:=Value->Option Addr->Hp->Prop
noncomputable abbrev St:=List<|Option V
noncomputable abbrev VK:=V->Hp->Prop
noncomputable abbrev TE:=St->Hp->VK->Prop
noncomputable abbrev TT:=St->Hp->(Bool->Hp->Prop)->Prop
noncomputable abbrev TA:=St->Hp->(List V->Hp->Prop)->Prop
structure Ends where
 nx:St->Hp->Prop
 rt:VK
 bk:St->Hp->Prop:=λx x=>False
 ct:St->Hp->Prop:=λx x=>False
noncomputable abbrev TS:=Ends->St->Hp->Prop
def EP(X:Cx)(ZY:ZJ)(σ:St)(Q:VK)(u:Value)(s':Shared):Prop:=∃v H',Inv X ZY σ H' s'/\RelV v u/\Q v H'
def TP(X:Cx)(ZY:ZJ)(σ:St)(Q:Bool->Hp->Prop)(b:Bool)(s':Shared):Prop:=∃H',Inv X ZY σ H' s'/\Q b H'
def AP(X:Cx)(ZY:ZJ)(σ:St)(Q:List V->Hp->Prop)(us:ZK)(s':Shared):Prop:=∃vs H',Inv X ZY σ H' s'/\aP vs us/\Q vs H'
noncomputable def SP(X:Cx)(ZY:ZJ)(D:Ends)(f:Flow)(s':Shared):Prop :=
 match f with
 |.next=>∃σ' H',Inv X ZY σ' H' s'/\D.nx σ' H'
 |.brk=>∃σ' H',Inv X ZY σ' H' s'/\D.bk σ' H'
 |.cont=>∃σ' H',Inv X ZY σ' H' s'/\D.ct σ' H'
 |.ret u=>∃v σ' H',Inv X ZY σ' H' s'/\RelV v u/\D.rt v H'
noncomputable def PE(X:Cx)(e:Expr)(t:TE):Prop :=
 ∀(ZY:ZJ) (s:Shared) (σ:St) (H:Hp) (Q:VK),Inv X ZY σ H s->t σ H Q->wpAny (model X.prog X.w) X.A (eval e X.env) (EP X ZY σ Q) X.xe s
noncomputable def PT(X:Cx)(e:Expr)(t:TT):Prop :=
 ∀(ZY:ZJ) (s:Shared) (σ:St) (H:Hp) (Q:Bool->Hp->Prop),Inv X ZY σ H s->t σ H Q->wpAny (model X.prog X.w) X.A (isTrue e X.env<|eval e X.env) (TP X ZY σ Q) X.xe s
noncomputable def PW(X:Cx)(e:Expr)(t:TT):Prop :=
 ∀(whole:Sem Value) (ZY:ZJ) (s:Shared) (σ:St) (H:Hp) (Q:Bool->Hp->Prop),Inv X ZY σ H s->t σ H Q->wpAny (model X.prog X.w) X.A (isTrue e X.env whole) (TP X ZY σ Q) X.xe s
theorem PW.pt(h:PW X e t):PT X e t:=h _
noncomputable def PA(X:Cx)(es:List Expr)(t:TA):Prop :=
 ∀(pos:Pos) (ZY:ZJ) (s:Shared) (σ:St) (H:Hp) (Q:List V->Hp->Prop),Inv X ZY σ H s->t σ H Q->wpAny (model X.prog X.w) X.A (spliced<|backTo pos<|V6 es X.env) (AP X ZY σ Q) X.xe s
noncomputable def PS(X:Cx)(st:Stmt)(t:TS):Prop :=
 ∀(ZY:ZJ) (s:Shared) (σ:St) (H:Hp) (D:Ends),Inv X ZY σ H s->t D σ H->wpAny (model X.prog X.w) X.A (exec st X.env) (SP X ZY D) X.xe s
noncomputable def mX(X:Cx)(st:List Stmt)(t:TS):Prop :=
 ∀(ZY:ZJ) (s:Shared) (σ:St) (H:Hp) (D:Ends),Inv X ZY σ H s->t D σ H->wpAny (model X.prog X.w) X.A (execs st X.env) (SP X ZY D) X.xe s
theorem bM{α:Type}{t:Sem α}{Q Q':α->Shared->Prop}{E:ZN}(h:wpAny M A t Q E s)(hQ:∀a s,Q a s->Q' a s):wpAny M A t Q' E s:=R0 h hQ λb b x=>x
end L2
namespace L2
open PySem PySem.Spec PyProof.Rows
section
variable {X:Cx}
def dO(i:Nat):TE:=λσ H Q=>∃v,σ[i]?=some (some v)/\Q v H
def tC(v:V):TE:=λx H Q=>Q v H
theorem pe_var{i:Nat}{x:Str}{pos:Pos}(hN:X.N[i]?=some x)(hv:Vis X.env.scope x)(hd:autoParam ((x==("__debug__":Str))=false) L2.ir._auto_1)(hcd:autoParam ((x==("__classdict__":Str))=false) L2.ir._auto_1):PE X (.Name x pos) (dO i):=by
 intro ZY s σ H Q I h;refine aa h λv e h=>?_;refine aa I.loc λm hn hl=>?_;refine aa (hl i x v hN e hv) λu r l=>?_;have fin:EP X ZY σ Q u s:=⟨v,H,I,r,h⟩;rcases l with ⟨hk,hm⟩|⟨hk,c,hc,hcell⟩
 ·exact wpAny_Name (wpAny_loadName_local I.ok.kind hk hn hm fin) hd
 ·rcases hk with hk|hk
  ·exact wpAny_Name (wpAny_loadName_cell I.ok.kind hk hc hcell fin) hd
  ·exact wpAny_Name (wpAny_loadName_free I.ok.kind hk hc hcell fin hcd) hd
theorem ak{i j pos}:PE X (.Constant (.int i) j pos) (tC<|.int i):=λx x x H x I h=>wpAny_Constant_int ⟨.int i,H,I.tok _,⟨_,rfl⟩,h⟩
theorem wy{b j pos}:PE X (.Constant (.bool b) j pos) (tC<|.bl b):=λx x x H x I h=>Constant_bool ⟨.bl b,H,I,rfl,h⟩
theorem gO{j pos}:PE X (.Constant .none j pos) (tC .non):=λx x x H x I h=>Constant_none ⟨.non,H,I,rfl,h⟩
def Gl(X:Cx)(x:Str):Prop:=X.env.kindOf x=some .globalImplicit
theorem wz{E:ZN}{ZY:ZJ}{s:Shared}{σ:St}{H:Hp}{x:Str}{u:Value}{pos:Pos}{Q:ZN}(I:Inv X ZY σ H s)(hg:Gl X x)(hm:X.mg x=some u)(h:Q u s)(hd:autoParam ((x==("__debug__":Str))=false) L2.ir._auto_1):wpAny (model X.prog X.w) X.A (eval (.Name x pos) X.env) Q E s :=
 Calls.Name_function_global I.ok.kind hg (Calls.loadGlobal_global (by rw[I.ok.glob];exact I.mod.glob.keeps I.bk) hm h) hd
theorem gP{E:ZN}{ZY:ZJ}{s:Shared}{σ:St}{H:Hp}{x:Str}{u:Value}{pos:Pos}{Q:ZN}(I:Inv X ZY σ H s)(hg:Gl X x)(hm:X.mg x=none)(hv:P5 x=some u)(h:Q u s)(hn:autoParam (x≠"__name__") L2.ir._auto_1)(hd:autoParam ((x==("__debug__":Str))=false) L2.ir._auto_1):wpAny (model X.prog X.w) X.A (eval (.Name x pos) X.env) Q E s:=by refine aa I.mod.blt λmb h1 h2=>?_;exact Calls.Name_function_global I.ok.kind hg (Calls.loadGlobal_builtin (by rw[I.ok.glob];exact I.mod.glob.keeps I.bk) hm (by rw[I.ok.blt];exact h1.keeps I.bk) ((h2 x hn).trans hv) h) hd
theorem qH{x:Str}{v:V}{u:Value}{pos:Pos}(hg:Gl X x)(hm:X.mg x=none)(hv:P5 x=some u)(r:RelV v u)(hn:autoParam (x≠"__name__") L2.ir._auto_1)(hd:autoParam ((x==("__debug__":Str))=false) L2.ir._auto_1):PE X (.Name x pos) (tC v) :=
 λc c c H c I h=>gP I hg hm hv ⟨v,H,I,r,h⟩ hn hd
variable {a b:Expr}{ta tb:TE}{pos:Pos}
noncomputable def PC(X:Cx)(op:CmpOp)(a b:Expr)(t:TE):Prop :=
 ∀(ZY:ZJ) (s:Shared) (σ:St) (H:Hp) (Q:VK),Inv X ZY σ H s->t σ H Q ->
  wpAny (model X.prog X.w) X.A (eval a X.env) (λv s₁=>wpAny (model X.prog X.w) X.A (eval b X.env) (λu s₂=>wpAny (model X.prog X.w) X.A (R9 op v u) (EP X ZY σ Q) X.xe s₂) X.xe s₁) X.xe s
def tB(t:TE):TT:=λσ H Q=>t σ H λx H1=>∃c,x=.bl c/\Q c H1
theorem zN{op:CmpOp}{t:TE}(h:PC X op a b t)(h1:behindInMarks op b=false:=by first|exact nobehind _ (by decide) (by decide)|rfl):PT X (.Compare a [op] [b] pos) (tB t):=by intro ZY s σ H Q I hw;refine wpAny_isTrue_Compare1 (bM (h ZY s σ H _ I hw) λv s1 h1=>bM h1 λu s2 h2=>bM h2 λc s3 zq=>ay zq λx H1 I1 r1 q1=>?_) h1;refine aa q1 λd ZW q=>?_;subst ZW;cases r1;exact N0 ⟨H1,I1,q⟩
theorem jv{e:Expr}{t:TE}(h:PE X e t)(he:autoParam (∀whole,isTrue e X.env whole=(do let v <- whole;standAt e.pos;holding [v] (truthy v))) L2.a1q._auto_1):PT X e (tB t):=by intro ZY s σ H Q I hw;refine isTrue_plain (bM (h ZY s σ H _ I hw) λv s1 zq=>ay zq λx H1 I1 r1 q1=>?_)<|he _;refine aa q1 λd ZW q=>?_;subst ZW;cases r1;exact N0 ⟨H1,I1,q⟩
variable {tA tB':TT}{rest:List Expr}
def tAnd(t u:TT):TT:=λσ H Q=>t σ H λc H1=>if c=true then u σ H1 Q else Q false H1
def tOr(t u:TT):TT:=λσ H Q=>t σ H λc H1=>if c=true then Q true H1 else u σ H1 Q
def tNot(t:TT):TT:=λσ H Q=>t σ H λc H1=>Q (!c) H1
theorem wA(ha:PT X a tA):PW X (.BoolOp .And [a] pos) tA:=by
 intro wh ZY s σ H Q I h;refine isTrue_and (bM (ha ZY s σ H Q I h) λc s1 e=>?_);cases c with
 |true=>exact isTrue_and_nil e
 |false=>exact e
theorem uS(ha:PT X a tA):PW X (.BoolOp .Or [a] pos) tA:=by
 intro wh ZY s σ H Q I h;refine isTrue_or (bM (ha ZY s σ H Q I h) λc s1 e=>?_);cases c with
 |false=>exact isTrue_or_nil e
 |true=>exact e
theorem zO(ha:PT X a tA)(hb:PW X (.BoolOp .And (b ::rest) pos) tB'):PW X (.BoolOp .And (a ::b ::rest) pos) (tAnd tA tB'):=by
 intro wh ZY s σ H Q I h;refine isTrue_and (bM (ha ZY s σ H _ I h) λc s1 zq=>aa zq λH1 I1 q1=>?_);cases c with
 |true=>exact hb wh ZY s1 σ H1 Q I1 q1
 |false=>exact⟨H1,I1,q1⟩
theorem wB(ha:PT X a tA)(hb:PW X (.BoolOp .Or (b ::rest) pos) tB'):PW X (.BoolOp .Or (a ::b ::rest) pos) (tOr tA tB'):=by
 intro wh ZY s σ H Q I h;refine isTrue_or (bM (ha ZY s σ H _ I h) λc s1 zq=>aa zq λH1 I1 q1=>?_);cases c with
 |true=>exact⟨H1,I1,q1⟩
 |false=>exact hb wh ZY s1 σ H1 Q I1 q1
theorem mY(ha:PT X a tA):PT X (.UnaryOp .Not a pos) (tNot tA):=by intro ZY s σ H Q I h;exact isTrue_not<|ha ZY s σ H (λc H1=>Q (!c) H1) I h
def zP(ta tb:TE):TE:=λσ H Q=>ta σ H λx H1=>∃c,x=.bl c/\if c=true then tb σ H1 Q else Q (.bl false) H1
def tNotV(ta:TE):TE:=λσ H Q=>ta σ H λx H1=>∃c,x=.bl c/\Q (.bl<|!c) H1
theorem pe_one{op}(h:PE X a t):PE X (.BoolOp op [a] pos) t:=λZY s σ H Q I hw=>BoolOp_one<|h ZY s σ H Q I hw
theorem zQ(ha:PE X a ta)(hb:PE X (.BoolOp .And (b ::rest) pos) tb):PE X (.BoolOp .And (a ::b ::rest) pos) (zP ta tb):=by
 intro ZY s σ H Q I h;refine BoolOp_and (bM (ha ZY s σ H _ I h) λv s1 ⟨x,H1,I1,r1,q1⟩=>?_);obtain⟨c,rfl,q1⟩:=q1;cases r1;refine N0 ?_;cases c with
 |true=>exact hb ZY s1 σ H1 Q I1 q1
 |false=>exact⟨.bl false,H1,I1,rfl,q1⟩
theorem pe_not(ha:PE X a ta):PE X (.UnaryOp .Not a pos) (tNotV ta):=by intro ZY s σ H Q I h;refine UnaryOp_ (bM (ha ZY s σ H _ I h) λv s1 ⟨x,H1,I1,r1,q1⟩=>?_);obtain⟨c,rfl,q1⟩:=q1;cases r1;exact not_of<|N0 ⟨.bl<|!c,H1,I1,rfl,q1⟩
def tIf(t:TT)(ta tb:TE):TE:=λσ H Q=>t σ H λc H1=>if c=true then ta σ H1 Q else tb σ H1 Q
theorem iA(hc:PT X c tA)(ha:PE X a ta)(hb:PE X b tb):PE X (.IfExp c a b pos) (tIf tA ta tb):=by
 intro ZY s σ H Q I h;refine wpAny_IfExp (bM (hc ZY s σ H _ I h) λd s1 zq=>aa zq λH1 I1 q1=>?_);cases d with
 |true=>exact ha ZY s1 σ H1 Q I1 q1
 |false=>exact hb ZY s1 σ H1 Q I1 q1
end
end L2
namespace L2
open PySem PySem.Spec PyProof.Rows
noncomputable def fm(K:Z4)(H:Hp)(a:Addr)(xs:List V):Prop :=
 Rd H a (.lst xs) \/
  ∃(o:Obj) (its:Zp) (n:Nat),K.lookup a=some o/\o.cls=.type "list"/\o.dict=none/\o.data=.seq its n/\its.size<=W9/\aP xs its.toList
noncomputable def j5(K:Z4)(H:Hp)(a:Addr)(xs:List V):Prop :=
 Rd H a (.tup xs) \/
  ∃(o:Obj) (its:Zp) (n:Nat),K.lookup a=some o/\o.cls=.type "tuple"/\o.data=.seq its n/\its.size<=W9/\aP xs its.toList
noncomputable def absV:Value->Option V
 |.none=>some .non
 |.bool b=>some<|.bl b
 |.int i _=>some<|.int i
 |.str x _=>some<|.str x
 |.bytes b _=>some<|.byt b
 |.float b _=>some<|.flt b
 |.ref a=>some<|.ref a
 |.type n=>some<|.ty n
 |_=>none
theorem RelV.abs(r:RelV x u):absV u=some x:=by
 cases x with
 |non=>cases r;rfl
 |bl _=>cases r;rfl
 |int _=>refine ao r λt ZW=>?_;subst ZW;rfl
 |str _=>refine ao r λt ZW=>?_;subst ZW;rfl
 |byt _=>refine ao r λt ZW=>?_;subst ZW;rfl
 |flt _=>refine ao r λt ZW=>?_;subst ZW;rfl
 |ref _=>cases r;rfl
 |ty _=>cases r;rfl
theorem RelV.inj(r:RelV x u)(q:RelV y u):x=y:=Z8<|r.abs.symm.trans q.abs
theorem aP.inj:∀{xs ys:List V} {us:ZK},aP xs us->aP ys us->xs=ys:=λ{xs ys us} p q=>by
 induction p generalizing ys with
 |nil=>cases q;rfl
 |cons r t ih =>
  cases q with
  |cons r' t'=>rw[r.inj r',ih t']
section
variable {X:Cx}{ZY:ZJ}{σ:St}{H:Hp}{s:Shared}{a:Addr}{xs ys:List V}
theorem fm.of{K:Z4}(h:H a=some (.lst xs)):fm K H a xs:=.inl<|.inl h
theorem j5.of{K:Z4}(h:H a=some (.tup xs)):j5 K H a xs:=.inl<|.inl h
theorem Inv.list(I:Inv X ZY σ H s)(h:fm X.K H a xs):∃its:List Value,aP xs its/\PlainL s.heap a its.toArray/\xs.length<=W9:=by
 rcases h with h|⟨o,its,n,hk,hc,hd,hs,hz,r⟩
 ·refine ax (h.ok I.hok) λz zz=>bv zz λits n r e=>?_;exact⟨its,r,⟨_,n,e,rfl,rfl,rfl⟩,z⟩
 ·refine⟨its.toList,r,⟨o,n,I.kIn a o hk,hc,hd,by simpa using hs⟩,?_⟩;have e:=r.length;simp only[W8]at e;lia
theorem Inv.tuple(I:Inv X ZY σ H s)(h:j5 X.K H a xs):∃its:List Value,aP xs its/\IsTup s.heap a its.toArray/\xs.length<=W9:=by
 rcases h with h|⟨o,its,n,hk,hc,hs,hz,r⟩
 ·refine ax (h.ok I.hok) λz zz=>aa zz λits r p=>?_;exact⟨its,r,p,z⟩
 ·refine⟨its.toList,r,⟨o,I.kIn a o hk,hc,n,by simpa using hs⟩,?_⟩;have e:=r.length;simp only[W8]at e;omega
theorem Inv.list_inj(I:Inv X ZY σ H s)(h:fm X.K H a xs)(h':fm X.K H a ys):xs=ys:=by
 obtain⟨its,r,⟨o,n,e,_,_,d⟩,_⟩:=I.list h;obtain⟨its',r',⟨o',n',e',_,_,d'⟩,_⟩:=I.list h';rw[e]at e';cases e';rw[d]at d';injection d' with d1 _;have:its=its':=by simpa using congrArg Array.toList d1
 subst this;exact r.inj r'
end
noncomputable abbrev Cx.wish(X:Cx)(E:ZN):Cx:={X with xe:=E}
noncomputable abbrev Cx.nox(X:Cx):Cx:=X.wish λx x=>False
theorem Cx.Ok.wish{X:Cx}(ok:X.Ok)(E:ZN):(X.wish E).Ok :=
 ⟨ok.mod,ok.kind,ok.glob,ok.blt,ok.above,ok.inj,ok.has,ok.cab,ok.hd,ok.frames,ok.stk,ok.exf,ok.bs,ok.bsz,ok.noex,ok.exfs,ok.funs,ok.frf⟩
theorem Cx.Ok.unwish{X:Cx}{E:ZN}(ok:(X.wish E).Ok):X.Ok :=
 ⟨ok.mod,ok.kind,ok.glob,ok.blt,ok.above,ok.inj,ok.has,ok.cab,ok.hd,ok.frames,ok.stk,ok.exf,ok.bs,ok.bsz,ok.noex,ok.exfs,ok.funs,ok.frf⟩
section
variable {X:Cx}{ZY:ZJ}{σ:St}{H:Hp}{s:Shared}{E:ZN}
theorem Inv.wish(I:Inv X ZY σ H s)(E:ZN):Inv (X.wish E) ZY σ H s:=⟨I.ok.wish E,I.os,I.bare,I.base,I.loc,I.cell,I.free,I.freeC,I.pin,I.hok,I.len⟩
theorem Inv.unwish(I:Inv (X.wish E) ZY σ H s):Inv X ZY σ H s:=⟨I.ok.unwish,I.os,I.bare,I.base,I.loc,I.cell,I.free,I.freeC,I.pin,I.hok,I.len⟩
theorem SP.unwish(h:SP (X.wish E) ZY D f s'):SP X ZY D f s':=by
 cases f with
 |next=>refine bv h λσ' H' I q=>?_;exact⟨σ',H',I.unwish,q⟩
 |brk=>refine bv h λσ' H' I q=>?_;exact⟨σ',H',I.unwish,q⟩
 |cont=>refine bv h λσ' H' I q=>?_;exact⟨σ',H',I.unwish,q⟩
 |ret u=>refine cH h λv σ' H' I r q=>?_;exact⟨v,σ',H',I.unwish,r,q⟩
theorem mX.nox{st:List Stmt}(h:mX X.nox st t):mX X st t:=λZY s σ H D I hw =>
 R0 (h ZY s σ H D (I.wish _) hw) (λx x q=>q.unwish) λx x z=>M0 z
end
section
variable {X:Cx}{st:Stmt}{rest:List Stmt}{t u:TS}{e:Expr}{te:TE}{pos:Pos}
def mZ:TS:=λD σ H=>D.nx σ H
def cI(t u:TS):TS:=λD σ H=>t {D with nx:=u D} σ H
theorem c6:mX X [] mZ:=λx x σ H x I h=>wpAny_execs_nil ⟨σ,H,I,h⟩
theorem af(h1:PS X st t)(h2:mX X rest u):mX X (st ::rest) (cI t u):=by
 intro ZY s σ H D I h;refine wpAny_execs_cons (bM (h1 ZY s σ H {D with nx:=u D} I h) λf s1 q=>?_);cases f with
 |next =>refine bv q λσ' H' I' q=>?_;exact h2 ZY s1 σ' H' D I' q
 |ret v=>exact q
 |brk=>exact q
 |cont=>exact q
theorem aw(h1:PS X st t):mX X [st] t:=by
 intro ZY s σ H D I h;refine wpAny_execs_cons (bM (h1 ZY s σ H D I h) λf s1 q=>?_);cases f with
 |next=>exact wpAny_execs_nil q
 |ret v=>exact q
 |brk=>exact q
 |cont=>exact q
theorem Inv.quiet{σ:St}(I:Inv X ZY σ H s):interactive X.env=false:=by simp[interactive,I.ok.kind]
def wC(te:TE):TS:=λD σ H=>te σ H λx H1=>D.nx σ H1
theorem gQ(he:PE X e te)(hs:autoParam (swapsWith e none pos.line X.env=pure false) L2.eX._auto_1):PS X (.Expr e pos) (wC te):=by intro ZY s σ H D I h;exact wpAny_Expr_any (bM (he ZY s σ H _ I h) λv s1 zq=>ay zq λx H1 I1 r1 q1=>⟨σ,H1,I1,q1⟩) I.quiet hs
def pf(te:TE):TS:=λD σ H=>te σ H D.rt
theorem aK(he:PE X e te):PS X (.Return (some e) pos) (pf te):=by intro ZY s σ H D I h;exact wpAny_Return_some (bM (he ZY s σ H _ I h) λv s1 zq=>ay zq λx H1 I1 r1 q1=>⟨x,σ,H1,I1,r1,q1⟩)
def tIfS(c:TT)(t u:TS):TS:=λD σ H=>c σ H λb H1=>if b=true then t D σ H1 else u D σ H1
theorem eK(hc:PT X c tc)(ha:mX X a t)(hb:mX X b u):PS X (.If c a b pos) (tIfS tc t u):=by
 intro ZY s σ H D I h;refine wpAny_If (bM (hc ZY s σ H _ I h) λd s1 zq=>aa zq λH1 I1 q1=>?_);cases d with
 |true=>exact ha ZY s1 σ H1 D I1 q1
 |false=>exact hb ZY s1 σ H1 D I1 q1
end
noncomputable abbrev TG:=V->St->Hp->(St->Hp->Prop)->Prop
noncomputable abbrev TGs:=List V->St->Hp->(St->Hp->Prop)->Prop
noncomputable def PG(X:Cx)(target:Expr)(t:TG):Prop :=
 ∀(ZY:ZJ) (s:Shared) (σ:St) (H:Hp) (v:V) (u:Value) (Q:St->Hp->Prop),Inv X ZY σ H s->RelV v u->t v σ H Q ->
  wpAny (model X.prog X.w) X.A (assign target X.env u) (λx s'=>∃σ' H',Inv X ZY σ' H' s'/\Q σ' H') X.xe s
noncomputable def PGs(X:Cx)(ts:List Expr)(t:TGs):Prop :=
 ∀(ZY:ZJ) (s:Shared) (σ:St) (H:Hp) (vs:List V) (us:ZK) (Q:St->Hp->Prop),Inv X ZY σ H s->aP vs us->t vs σ H Q ->
  wpAny (model X.prog X.w) X.A (assignInOrder ((assignEach ts X.env).map (·.2)) us) (λx s'=>∃σ' H',Inv X ZY σ' H' s'/\Q σ' H') X.xe s
noncomputable abbrev TSet:=V->V->V->Hp->(Hp->Prop)->Prop
noncomputable def PSet(X:Cx)(t:TSet):Prop :=
 ∀(ZY:ZJ) (s:Shared) (σ:St) (H:Hp) (o i v:V) (ov iv u:Value) (Q:Hp->Prop),Inv X ZY σ H s->RelV o ov->RelV i iv->RelV v u->t o i v H Q ->
  wpAny (model X.prog X.w) X.A (setItem ov iv u) (λx s'=>∃H',Inv X ZY σ H' s'/\Q H') X.xe s
section
variable {X:Cx}{pos:Pos}
def dj(i:Nat):TG:=λv σ H Q=>Q (σ.set i<|some v) H
theorem aN{i:Nat}{x:Str}(hN:X.N.Nodup)(hi:X.N[i]?=some x)(hx:Loc X.env.scope x)(hf:X.fn x=true\/X.env.scope.names.lookup x=some .local:=by first|exact .inl rfl|exact .inr rfl|assumption):PG X (.Name x pos) (dj i):=by intro ZY s σ H v u Q I r h;exact wpAny_assign_Name<|sN I hN hi hx r (λs' I'=>⟨_,H,I',h⟩) hf
noncomputable def gNil:TGs:=λvs σ H Q=>vs=[]/\Q σ H
noncomputable def jR(t:TG)(u:TGs):TGs:=λvs σ H Q=>∃v r,vs=v ::r/\t v σ H λσ' H'=>u r σ' H' Q
theorem qI:PGs X [] gNil:=by intro ZY s σ H vs us Q I r h;obtain⟨e,h⟩:=h;subst e;cases r;exact assignInOrder_nil ⟨σ,H,I,h⟩
theorem eM{e:Expr}{es:List Expr}{t:TG}{u:TGs}(h1:PG X e t)(h2:PGs X es u)(hs:autoParam ((assignEach (e ::es) X.env).map (·.2)=assign e X.env ::(assignEach es X.env).map (·.2)) L2.eX._auto_1):PGs X (e ::es) (jR t u):=by
 intro ZY s σ H vs us Q I r h;obtain⟨v,vr,e1,h⟩:=h;subst e1;cases r with
 |cons r rr =>rw[hs];refine assignInOrder_cons (bM (h1 ZY s σ H _ _ _ I r h) λ_ s1 ⟨σ1,H1,I1,q1⟩=>?_);exact h2 ZY s1 σ1 H1 _ _ Q I1 rr q1
def zR(K:Z4)(n:Nat)(t:TGs):TG:=λv σ H Q=>∃a xs,v=.ref a/\j5 K H a xs/\xs.length=n/\t xs σ H Q
theorem pg_tup{es:List Expr}{k:Nat}{t:TGs}{n:Nat}(hc:X.calm=true)(h:PGs X es t)(hn:autoParam ((assignEach es X.env).length=n) L2.eX._auto_1)(hst:autoParam ((assignEach es X.env).findIdx? (·.1)=none) L2.eX._auto_1):PG X (.Tuple es k pos) (zR X.K n t):=by intro ZY s σ H v u Q I r hw;obtain⟨a,xs,e1,hq,hl,hw⟩:=hw;subst e1;cases r;obtain⟨its,rv,ht,hz⟩:=I.tuple hq;refine assign_Tuple_tuple (I.ok.hd hc) ht (by simp[hn,<- hl,rv.length]) hst λh' hx=>?_;have I1:Inv X ZY σ H {s with heap:=h'}:=I.kept (t':=s.toks) λb o e=>hx b o (dH<|X0 e) e;exact h ZY _ σ H xs _ Q I1 (by simpa using rv) hw
def gSub(to ti:TE)(t:TSet):TG:=λv σ H Q=>to σ H λo H1=>ti σ H1 λi H2=>t o i v H2 λH3=>Q σ H3
theorem pg_sub{o i:Expr}{to ti:TE}{t:TSet}(ho:PE X o to)(hi:PE X i ti)(hs:PSet X t)(ha:∀v,assign (.Subscript o i pos) X.env v=(do
   let ov <- holding [v] (eval o X.env)
   let iv <- holding [v,ov] (eval i X.env)
   standAt pos
   holding [v,ov,iv] (setItem ov iv v)
   release [v,ov,iv] []):=by intro _;rfl):PG X (.Subscript o i pos) (gSub to ti t):=by
 intro ZY s σ H v u Q I r h;rw[ha];refine Z0<|T6 (bM (ho ZY s σ H _ I h) λov s1 zq=>ay zq λx H1 I1 r1 q1=>?_);refine Z0<|T6 (bM (hi ZY s1 σ H1 _ I1 q1) λiv s2 zq=>ay zq λy H2 I2 r2 q2=>?_);refine Z0<|wpAny_standAt<|Z0<|T6 (bM (hs ZY s2 σ H2 x y v ov iv u _ I2 r1 r2 r q2) λa s3 zq=>aa zq λH3 I3 q3=>?_);exact wpAny_release ⟨σ,H3,I3,q3⟩
def m8(te:TE)(g:TG):TS:=λD σ H=>te σ H λx H1=>g x σ H1 D.nx
theorem zS{tg e:Expr}{te:TE}{g:TG}(he:PE X e te)(hg:PG X tg g)(hs:autoParam (swapsWithSole [tg] e pos.line X.env=pure false) L2.eX._auto_1)(hw:autoParam (swappedStores [tg] e X.env=pure none) L2.eX._auto_1)(h1:autoParam ((assignEach [tg] X.env).map (·.2)=[assign tg X.env]) L2.eX._auto_1):PS X (.Assign [tg] e pos) (m8 te g):=by intro ZY s σ H D I h;refine wpAny_Assign_stores (bM (he ZY s σ H _ I h) λv s1 zq=>ay zq λx H1 I1 r1 q1=>?_) hs hw;rw[h1];exact bM (hg ZY s1 σ H1 x v _ I1 r1 q1) λa s2 q=>q
theorem az{i:Nat}{x:Str}{e:Expr}{te:TE}{pos':Pos}(hN:X.N.Nodup)(hi:X.N[i]?=some x)(hx:Loc X.env.scope x)(he:PE X e te)(hs:autoParam (swapsWith e (some<|.Name x pos') pos.line X.env=pure false) L2.eX._auto_1)(hf:X.fn x=true\/X.env.scope.names.lookup x=some .local:=by first|exact .inl rfl|exact .inr rfl|assumption):
  PS X (.Assign [.Name x pos'] e pos) (m8 te<|dj i):=by
 intro ZY s σ H D I h;refine wpAny_Assign_Name (bM (he ZY s σ H _ I h) λv s1 zq=>ay zq λy H1 I1 r1 q1=>?_) hs;exact sN I1 hN hi hx r1 (λs2 I2=>⟨_,H1,I2,q1⟩) hf
end
section
variable {X:Cx}{pos:Pos}
def uT(c:TT)(tb:TS):TS:=λD σ H=>∃W:Nat->St->Hp->Prop,(∃m,W m σ H)/\∀m σ H,W m σ H ->
 c σ H λb H1=>if b=true then ∃N:St->Hp->Prop,(∀σ' H',N σ' H'->∃m',m'<m/\W m' σ' H')/\tb {D with nx:=N,ct:=N,bk:=D.nx} σ H1 else D.nx σ H1
theorem jS(hp:PassesOwn (model X.prog X.w) X.A X.env X.xe)(hc:PT X c tc)(hb:mX X body tb):PS X (.While c body [] pos) (uT tc tb):=by
 intro ZY s σ H D I h;refine aa h λW zw turn=>ao zw λm0 w0=>?_;refine wpAny_While<|codeAny_whileLoop (λn s'=>∃σ' H',Inv X ZY σ' H' s'/\W n σ' H') ?_ m0 ⟨σ,H,I,w0⟩;intro n s1 zq;refine bv zq λσ1 H1 I1 w1=>?_;refine wpAny_passesOwn hp (bM (hc ZY s1 σ1 H1 _ I1<|turn n σ1 H1 w1) λb s2 zq=>aa zq λH2 I2 q2=>?_);cases b with
 |true =>
  refine aa q2 λN hN q2=>?_;rw[if_pos rfl];refine wpAny_passesOwn hp (bM (hb ZY s2 σ1 H2 _ I2 q2) λf s3 q3=>?_);cases f with
  |next =>refine bv q3 λσ3 H3 I3 n3=>?_;refine aa (hN σ3 H3 n3) λm' hm w3=>?_;exact⟨m',hm,σ3,H3,I3,w3⟩
  |cont =>refine bv q3 λσ3 H3 I3 n3=>?_;refine aa (hN σ3 H3 n3) λm' hm w3=>?_;exact⟨m',hm,σ3,H3,I3,w3⟩
  |brk=>exact q3
  |ret v=>exact q3
 |false =>rw[if_neg Z7];exact wpAny_execs_nil ⟨σ1,H2,I2,q2⟩
end
structure It where
 go:Nat->Hp->Prop
 yld:Nat->Hp->V->Hp->Prop
 stop:Nat->Hp->Prop
noncomputable def jT(X:Cx)(ZY:ZJ)(H:Hp)(b:Addr):Prop :=
 H b=none/\b≠X.env.locals/\b∉X.fs/\(b∈X.ex\/X.s₀.heap.objs.size<=b)/\(∀x c,X.env.cells.lookup x=some c->c≠b)/\∀p∈X.pn++ZY,p.1≠b
theorem Inv.fpOk{σ:St}{b:Addr}(I:Inv X ZY σ H s)(hb:s.heap.objs.size<=b)(hn:H' b=none):jT X ZY H' b:=by
 refine⟨hn,M6<|bZ I.lt hb,I.nofs hb,.inr<|b8 I.sz hb,λx c e z=>?_,λp hp z=>?_⟩
 ·refine ao (I.cell x c e) λv q=>?_;exact absurd (bZ q.lt (by rw[z];exact hb))<|L6 _
 ·exact absurd (bZ (X0 (I.pin p hp).1) (by rw[z];exact hb))<|L6 _
structure Turn(P:U4)(w:World)(K:Z4)(tg:Expr)(J:It)(fp:Zx)(it:Addr)(tn:Nat->Heap->Prop):Prop where
 mem:it∈fp
 obj:∀i h,tn i h->∀b∈fp,∃o,h.get? b=some o/\∀v,o.data≠.cell v
 keep:∀i h h',tn i h->(∀b∈fp,∀o,h.get? b=some o->h'.get? b=some o)->tn i h'
 item:∀(X:Cx),X.prog=P->X.w=w->X.K=K->X.calm=true->∀(i:Nat) (ZY:ZJ) (s:Shared) (σ:St) (H:Hp) (E:ZN),Inv X ZY σ H s->(∀b∈fp,jT X ZY H b)->tn i s.heap->J.go i H ->
  wpAny (model P w) X.A (pyNext<|.ref it) (λr s1=>∃u,r=some u /\
   wpAny (model P w) X.A (letOwnedTupleGo tg (.ref it) u) (λa s2=>∃x H',Inv X ZY σ H' s2/\RelV x u/\J.yld i H x H'/\tn (i+1) s2.heap/\∀b∈fp,H' b=none) E s1) E s
 done:∀(X:Cx),X.prog=P->X.w=w->X.K=K->X.calm=true->∀(i:Nat) (ZY:ZJ) (s:Shared) (σ:St) (H:Hp) (E:ZN),Inv X ZY σ H s->(∀b∈fp,jT X ZY H b)->tn i s.heap->J.stop i H ->
  wpAny (model P w) X.A (pyNext<|.ref it) (λr s1=>r=none/\Inv X ZY σ H s1) E s
 self:∀(A:Around) (i:Nat) (s:Shared) (Q:ZN) (E:ZN),tn i s.heap->Q (.ref it) s->wpAny (model P w) A (pyIter<|.ref it) Q E s
noncomputable abbrev TI:=St->Hp->(It->Hp->Prop)->Prop
noncomputable def PIE(X:Cx)(ZY:ZJ)(σ:St)(tg:Expr)(R:It->Hp->Prop)(itv:Value)(s2:Shared):Prop :=
 ∃(it:Addr) (fp:Zx) (tn:Nat->Heap->Prop) (J:It) (H':Hp),itv=.ref it/\Inv X ZY σ H' s2/\Turn X.prog X.w X.K tg J fp it tn/\tn 0 s2.heap/\(∀b∈fp,jT X ZY H' b)/\R J H'
noncomputable def PI(X:Cx)(tg iter:Expr)(wi:TI):Prop :=
 ∀(ZY:ZJ) (s:Shared) (σ:St) (H:Hp) (R:It->Hp->Prop),Inv X ZY σ H s->wi σ H R ->
  wpAny (model X.prog X.w) X.A (eval iter X.env) (λv s1=>wpAny (model X.prog X.w) X.A (pyIter v) (PIE X ZY σ tg R) X.xe s1) X.xe s
theorem go_of{E:ZN}{Q:Unit->Shared->Prop}(ho:s.heap.get? it=some o)(hc:o.cls=.type n)(hd:o.data=.fields vs)(hn:["enumerate","zip","dict_itemiterator","dict_reverseitemiterator","odict_iterator","itertools.zip_longest","itertools.pairwise"].contains n=false)(hQ:Q () s):wpAny M A (letOwnedTupleGo tg (.ref it) u) Q E s:=by
  unfold letOwnedTupleGo;cases tg<;>first
    |exact Z5 hQ
    | (cases u <;> first
        |exact Z5 hQ
        | (refine Z0 (wpAny_load ho ?_)
           rw[hc,hd];show wpAny M A (if (["enumerate","zip","dict_itemiterator","dict_reverseitemiterator","odict_iterator","itertools.zip_longest","itertools.pairwise"].contains n&&vs[0]?==some (rawInt _))=true then _ else _) Q E s;rw[if_neg (by intro h;rw[hn,Bool.false_and]at h;cases h)];exact Z5 hQ))
noncomputable def Itl(K:Z4)(a:Addr):It :=
 ⟨λi H=>∃xs x,fm K H a xs/\xs[i]?=some x,λi H x H'=>H'=H/\∀xs,fm K H a xs->xs[i]?=some x,λi H=>∃xs,fm K H a xs/\xs.length<=i⟩
noncomputable def Itr(lo:Int)(n:Nat):It:=⟨λi a=>i<n,λi H x H'=>H'=H/\x=.int (lo+i),λi a=>n<=i⟩
theorem ym{K:Z4}(a it:Addr):Turn P w K tg (Itl K a) [it] it (λi h=>h.IsListIter it a i) where
 mem:=by simp
 obj:=λi h st b hb=>by
  have e:b=it:=by simpa using hb
  subst e;refine aE st λo e c d=>?_;exact⟨o,e,λv z=>by rw[d]at z;cases z⟩
 keep:=λi h h' st k=>st.at λo e=>k it (by simp) o e
 item:=by intro X hP hw hK hc i ZY s σ H E I hf st hg;subst hP hw hK;refine bv hg λxs x hq hx=>?_;refine aE (I.list hq) λits rv p hz=>?_;refine aa (rv.get hx) λu hu ru=>?_;refine yg (hf it (by simp)) λf0 f1 f2 f3 f4 f5=>?_;refine wpAny_pyNext_list_item st p.isList (x:=u) (by simpa using hu) λh' st' sb=>?_;have I1:Inv X ZY σ H {s with heap:=h'}:=I.turned (t':=s.toks) (λb o hb e=>(sb.2 b hb).trans e) f0 f1 f3 f4 f5;refine aE (id st') λo e c d=>?_;exact⟨u,rfl,go_of (s:={s with heap:=h'}) e c d (by decide) ⟨x,H,I1,ru,⟨rfl,λys hy=>by rw[I.list_inj hy hq];exact hx⟩,st',λb hb=>(hf b hb).1⟩⟩
 done:=by intro X hP hw hK hc i ZY s σ H E I hf st hg;subst hP hw hK;refine aa hg λxs hq hx=>?_;refine aE (I.list hq) λits rv p hz=>?_;refine yg (hf it (by simp)) λf0 f1 f2 f3 f4 f5=>?_;have hl:=rv.length;exact wpAny_pyNext_list_end (I.ok.hd hc) st p.isList (by simp;lia) λh' eb=>⟨rfl,I.turned (t':=s.toks) (λb o hb e=>eb b o hb e) f0 f1 f3 f4 f5⟩
 self:=λy y y y y st h=>wpAny_pyIter_listiter st h
theorem uU{K:Z4}(it:Addr)(lo:Int)(n:Nat):Turn P w K tg (Itr lo n) [it] it (λi h=>IsRangeIter h it (lo+(i:Nat)*1) ((n:Int)-(i:Nat)) 1) where
 mem:=by simp
 obj:=λi h st b hb=>by
  have e:b=it:=by simpa using hb
  subst e;exact⟨_,st,λv z=>by have z':Data.fields _=Data.cell v:=z;cases z'⟩
 keep:=λi h h' st k=>k it (by simp) _ st
 item:=by intro X hP hw hK hc i ZY s σ H E I hf st hg;subst hP hw hK;refine yg (hf it (by simp)) λf0 f1 f2 f3 f4 f5=>?_;have W:=Walks.range (prog:=X.prog) (w:=X.w) (I.ok.hd hc) it lo 1 n;refine W.item i s _ _ hg st λv h' tk hv st' kk=>?_;refine ao hv λt ZW=>?_;subst ZW;have I1:Inv X ZY σ H {s with heap:=h',toks:=tk}:=I.turned (λb o hb e=>kk b o (by simpa using hb) e) f0 f1 f3 f4 f5;refine⟨_,rfl,go_of (s:={s with heap:=h',toks:=tk}) (n:="range_iterator") st' rfl rfl (by decide) ⟨.int<|lo+i,H,I1,⟨t,?_⟩,⟨rfl,rfl⟩,st',λb hb=>(hf b hb).1⟩⟩;rw[Int.mul_one]
 done:=by intro X hP hw hK hc i ZY s σ H E I hf st hg;subst hP hw hK;refine yg (hf it (by simp)) λf0 f1 f2 f3 f4 f5=>?_;exact wpAny_pyNext_range_end (I.ok.hd hc) st (by have:n<=i:=hg;lia) λh' eb=>⟨rfl,I.turned (t':=s.toks) (λb o hb e=>eb b o hb e) f0 f1 f3 f4 f5⟩
 self:=λx x x x x st h=>wpAny_pyIter_rangeiter st h
end L2
namespace L2
open PySem PySem.Spec PyProof.Rows
section
variable {X:Cx}{tg:Expr}
def zT(K:Z4)(tl:TE):TI:=λσ H R=>tl σ H λx H1=>∃a,x=.ref a/\(∃xs,fm K H1 a xs)/\R (Itl K a) H1
theorem pi_list(hl:PE X l tl):PI X tg l (zT X.K tl):=by
 intro ZY s σ H R I h;refine bM (hl ZY s σ H _ I h) λv s1 zq=>ay zq λx H1 I1 r1 q1=>?_;refine aE q1 λa e zx q=>ao zx λxs hq=>?_;subst e;cases r1;refine aE (I1.list hq) λits rv p hz=>?_;refine wpAny_pyIter_list p.isList ?_;refine⟨s1.heap.objs.size,[s1.heap.objs.size],_,_,H1,rfl,I1.kept (t':=s1.toks) λb o e=>Z3 _ e,ym a _,⟨_,Y7 _ rfl,rfl,rfl⟩,λb hb=>?_,q⟩;have e:b=s1.heap.objs.size:=by simpa using hb
 subst e;exact I1.fpOk (bD _)<|I1.hok.fresh<|bD _
theorem sO{σ:St}{R:It->Hp->Prop}{E:ZN}{lo hi:Int}(I:Inv X ZY σ H s)(h1:-(2^62)<=lo)(h2:lo<2^62)(h3:-(2^62)<=hi)(h4:hi<2^62)(q:R (Itr lo (hi-lo).toNat) H):wpAny (model X.prog X.w) X.A (pyIter<|.ref s.heap.objs.size) (PIE X ZY σ tg R) E {s with heap:=s.heap.push {cls:=.type "range",data:=.fields #[.int lo t,.int hi u,.int 1 v]},toks:=tk}:=by
 refine wpAny_pyIter_range (IsRange.new ..) (small_one h1 h2 h3 h4) ?_;have I1:Inv X ZY σ H {s with heap:=s.heap.push {cls:=.type "range",data:=.fields #[.int lo t,.int hi u,.int 1 v]},toks:=tk}:=I.kept λb o e=>Z3 _ e;refine⟨(s.heap.push {cls:=.type "range",data:=.fields #[.int lo t,.int hi u,.int 1 v]}).objs.size,[(s.heap.push {cls:=.type "range",data:=.fields #[.int lo t,.int hi u,.int 1 v]}).objs.size],_,_,H,rfl,
  I1.kept (t':=tk) λb o e=>Z3 _ e,uU _ lo (hi-lo).toNat,?_,λb hb=>?_,q⟩
 ·have e1:lo+((0:Nat):Int)*1=lo:=by simp
  have e2:(((hi-lo).toNat:Nat):Int)-((0:Nat):Int)=R5.Range.rangeSize lo hi 1:=by rw[rangeSize_one];split<;>lia
  show IsRangeIter _ _ (lo+((0:Nat):Int)*1) ((((hi-lo).toNat:Nat):Int)-((0:Nat):Int)) 1;rw[e1,e2];exact Y7 _ rfl
 ·have e:b=(s.heap.push {cls:=.type "range",data:=.fields #[.int lo t,.int hi u,.int 1 v]}).objs.size:=by simpa using hb
  subst e;exact I1.fpOk (bD _)<|I1.hok.fresh<|bD _
def iRng1(ta:TA):TI:=λσ H R=>ta σ H λvs H1=>∃j:Int,vs=[.int j]/\-(2^62)<=j/\j<2^62/\R (Itr 0 j.toNat) H1
def iRng2(ta:TA):TI:=λσ H R=>ta σ H λvs H1=>∃i j:Int,vs=[.int i,.int j]/\(-(2^62)<=i/\i<2^62/\-(2^62)<=j/\j<2^62)/\R (Itr i (j-i).toNat) H1
theorem gz{a:Expr}{ta:TA}{p pos:Pos}(hg:Gl X "range")(hm:X.mg "range"=none)(ha:PA X [a] ta)(hs:autoParam (V6 [a] X.env=[(false,eval a X.env)]) L2.eX._auto_1):PI X tg (.Call (.Name "range" p) [a] [] pos) (iRng1 ta):=by
 intro ZY s σ H R I h;refine Call_<|gP I hg hm boot_range<|L5 (bM (ha pos ZY s σ H _ I h) λus s1 zq=>ay zq λvs H1 I1 r1 qq=>ju qq λj e q1 q2 q=>?_) hs rfl;subst e;cases r1 with
 |cons r rr =>cases rr;obtain⟨t,rfl⟩:=r;exact call_range_1<|sO I1 (by lia) (by lia) q1 q2 (by simpa using q)
theorem q0{a b:Expr}{ta:TA}{p pos:Pos}(hg:Gl X "range")(hm:X.mg "range"=none)(ha:PA X [a,b] ta)(hs:autoParam (V6 [a,b] X.env=[(false,eval a X.env),(false,eval b X.env)]) L2.eX._auto_1)(hs2:autoParam (V6 [b] X.env=[(false,eval b X.env)]) L2.eX._auto_1):
  PI X tg (.Call (.Name "range" p) [a,b] [] pos) (iRng2 ta):=by
 intro ZY s σ H R I h;refine Call_<|gP I hg hm boot_range<|L5 (bM (ha pos ZY s σ H _ I h) λus s1 zq=>ay zq λvs H1 I1 r1 qq=>ay qq λi j e zw q=>jt zw λq1 q2 q3 q4=>?_) (by rw[hs,hs2]) (by rw[hs2];rfl);subst e;cases r1 with
 |cons r rr =>
  cases rr with
  |cons r' rr =>cases rr;refine ao r λt ZW=>?_;subst ZW;refine ao r' λt' ZW=>?_;subst ZW;exact call_range_2<|sO I1 q1 q2 q3 q4 q
def tFor(wi:TI)(g:TG)(tb:TS):TS:=λD σ H=>wi σ H λJ H1=>∃W:Nat->Nat->St->Hp->Prop,(∃m,W 0 m σ H1)/\∀i m σ H,W i m σ H ->
 (J.stop i H/\D.nx σ H)\/(J.go i H/\∃N:St->Hp->Prop,(∀σ' H',N σ' H'->∃m',m'<m/\W (i+1) m' σ' H')/\∀x H',J.yld i H x H'->g x σ H' λσ2 H2=>tb {D with nx:=N,ct:=N,bk:=D.nx} σ2 H2)
noncomputable def n6(fp:Zx)(h:Heap):List (Addr×Obj):=fp.filterMap λb=>(h.get? b).map λo=>(b,o)
theorem gR(hb:b∈fp)(e:h.get? b=some o):(b,o)∈n6 fp h:=List.mem_filterMap.mpr ⟨b,hb,by rw[e];rfl⟩
theorem yn(hp:p∈n6 fp h):p.1∈fp/\h.get? p.1=some p.2:=by
 refine aa (List.mem_filterMap.mp hp) λb hb e=>?_;cases q:h.get? b with
 |none=>rw[q]at e;cases e
 |some o =>rw[q]at e;have e':(b,o)=p:=Z8 e;subst e';exact⟨hb,q⟩
theorem Inv.pinned{σ:St}(I:Inv X ZY σ H s)(hf:∀b∈fp,jT X ZY H b)(ho:∀b∈fp,∃o,s.heap.get? b=some o/\∀v,o.data≠.cell v):Inv X (ZY++n6 fp s.heap) σ H s :=
 I.pins_of λp hp=>(W0.mp hp).elim (λz=>I.pin p<|Y8 _ z) λz=>by refine ax (yn z) λhb e=>?_;refine jt (hf p.1 hb) λf0 f1 f2 x=>?_;refine aa (ho p.1 hb) λo e' d=>?_;rw[e]at e';cases e';exact⟨e,f0,f1,f2,d⟩
theorem Inv.unpinned{σ:St}(I:Inv X (ZY++pl) σ H s):Inv X ZY σ H s:=I.pins_of λp hp=>I.pin p<|Y8 _<|U7 _ hp
theorem eZ{iter:Expr}{body:List Stmt}{wi:TI}{g:TG}{tb:TS}{pos:Pos}(hp:PassesOwn (model X.prog X.w) X.A X.env X.xe)(hc:X.calm=true)(hi:PI X tg iter wi)(hg:PG X tg g)(hb:mX X body tb)(hs:autoParam (∀x,foldedSetIterable iter X.env x=pure x) L2.a1q._auto_1):PS X (.For tg iter body [] pos) (tFor wi g tb):=by
 intro ZY s σ H D I h;refine wpAny_For (bM (hi ZY s σ H _ I h) λv s1 h1=>bM h1 λitv s2 h2=>?_) hs;refine yh h2 λit fp tn J H2 e I2 T st2 f2 zz=>aa zz λW zw turn=>ao zw λm0 w0=>?_;subst e;have stat:∀{H':Hp},(∀b∈fp,H' b=none)->∀b∈fp,jT X ZY H' b:=λhn b hb=>⟨hn b hb,(f2 b hb).2⟩;refine codeAny_forLoop_any (λn s'=>∃i σ' H',Inv X ZY σ' H' s'/\tn i s'.heap/\(∀b∈fp,H' b=none)/\W i n σ' H') ?_ m0 ⟨0,σ,H2,I2,st2,λb hb=>(f2 b hb).1,w0⟩;intro n s3 zq;refine dh zq λi σ3 H3 I3 st3 fr3 w3=>?_;rcases turn i n σ3 H3 w3 with zr|zr
 ·refine ax zr λstop qn=>?_;refine wpAny_passesOwn hp (bM (T.done X rfl rfl rfl hc i ZY s3 σ3 H3 X.xe I3 (stat fr3) st3 stop) λr s4 zq=>ax zq λhr I4=>?_);subst hr;exact wpAny_execs_nil ⟨σ3,H3,I4,qn⟩
 ·refine ax zr λgo zn=>aa zn λN hN step=>?_;refine wpAny_passesOwn hp (bM (T.item X rfl rfl rfl hc i ZY s3 σ3 H3 X.xe I3 (stat fr3) st3 go) λr s4 zq=>aa zq λu hr h4=>?_);subst hr;refine wpAny_passesOwn hp (bM h4 λa s5 zq=>fk zq λx H5 I5 r5 y5 st5 fr5=>?_);have I5':=I5.pinned (stat fr5)<|T.obj _ _ st5;refine wpAny_passesOwn hp (bM (hg _ s5 σ3 H5 x u _ I5' r5<|step x H5 y5) λa s6 zq=>bv zq λσ6 H6 I6 q6=>?_);refine wpAny_passesOwn hp (bM (hb _ s6 σ6 H6 _ I6 q6) λf s7 q7=>?_);have again:∀{σ7:St} {H7:Hp},Inv X (ZY++n6 fp s5.heap) σ7 H7 s7->N σ7 H7->∃m,m<n/\∃i σ' H',Inv X ZY σ' H' s7/\tn i s7.heap/\(∀b∈fp,H' b=none)/\W i m σ' H':=λ{σ7 H7} I7 n7=>by refine aa (hN σ7 H7 n7) λm' hm w7=>?_;refine⟨m',hm,i+1,σ7,H7,I7.unpinned,T.keep _ _ _ st5 λb hb o e=>(I7.pin (b,o)<|Y8 _<|Y8 _<|gR hb e).1,λb hb=>?_,w7⟩;refine aa (T.obj _ _ st5 b hb) λo e d=>?_;exact(I7.pin (b,o)<|Y8 _<|Y8 _<|gR hb e).2.1
  cases f with
  |next=>refine bv q7 λσ7 H7 I7 n7=>?_;exact again I7 n7
  |cont=>refine bv q7 λσ7 H7 I7 n7=>?_;exact again I7 n7
  |brk=>refine bv q7 λσ7 H7 I7 q7=>?_;exact⟨σ7,H7,I7.unpinned,q7⟩
  |ret v=>refine cH q7 λx7 σ7 H7 I7 r7 q7=>?_;exact⟨x7,σ7,H7,I7.unpinned,r7,q7⟩
end
end L2
namespace L2
open PySem PySem.Spec PyProof.Rows
noncomputable abbrev R2:=V->V->Hp->VK->Prop
noncomputable def jh(X:Cx)(f:Value->Value->Sem Value)(r:R2):Prop :=
 ∀(ZY:ZJ) (s:Shared) (σ:St) (H:Hp) (x y:V) (v u:Value) (Q:VK),Inv X ZY σ H s->RelV x v->RelV y u->r x y H Q ->
  wpAny (model X.prog X.w) X.A (f v u) (EP X ZY σ Q) X.xe s
noncomputable def UnR(X:Cx)(f:Value->Sem Value)(r:V->Hp->VK->Prop):Prop :=
 ∀(ZY:ZJ) (s:Shared) (σ:St) (H:Hp) (x:V) (v:Value) (Q:VK),Inv X ZY σ H s->RelV x v->r x H Q ->
  wpAny (model X.prog X.w) X.A (f v) (EP X ZY σ Q) X.xe s
noncomputable def eN(X:Cx)(f:Value)(r:List V->Hp->VK->Prop):Prop :=
 ∀(ZY:ZJ) (s:Shared) (σ:St) (H:Hp) (xs:List V) (us:ZK) (Q:VK),Inv X ZY σ H s->aP xs us->r xs H Q ->
  wpAny (model X.prog X.w) X.A (call f us) (EP X ZY σ Q) X.xe s
noncomputable def TruR(X:Cx)(r:V->Hp->(Bool->Hp->Prop)->Prop):Prop :=
 ∀(ZY:ZJ) (s:Shared) (σ:St) (H:Hp) (x:V) (v:Value) (Q:Bool->Hp->Prop),Inv X ZY σ H s->RelV x v->r x H Q ->
  wpAny (model X.prog X.w) X.A (truthy v) (TP X ZY σ Q) X.xe s
def gT(r:R2)(ta tb:TE):TE:=λσ H Q=>ta σ H λx H1=>tb σ H1 λy H2=>r x y H2 Q
def tUn(r:V->Hp->VK->Prop)(ta:TE):TE:=λσ H Q=>ta σ H λx H1=>r x H1 Q
noncomputable def rI(C:Int->Int->Prop)(g:Int->Int->V):R2:=λx y H Q=>∃i j,x=.int i/\y=.int j/\C i j/\Q (g i j) H
noncomputable def uO(g:Int->Int->V):R2:=λx y H Q=>∃i j,x=.int i/\y=.int j/\Q (g i j) H
def rU(g:Int->V):V->Hp->VK->Prop:=λx H Q=>∃i,x=.int i/\Q (g i) H
section
variable {X:Cx}{a b:Expr}{ta tb:TE}{pos:Pos}
theorem binT(ha:PE X a ta)(hb:PE X b tb){σ:St}{R:V->V->Hp->Prop}(I:Inv X ZY σ H s)(h:ta σ H λx H1=>tb σ H1 λy H2=>R x y H2){Q:ZN}{f:Value->Value->Sem Value}(hf:∀v u s2 x y H2,Inv X ZY σ H2 s2->RelV x v->RelV y u->R x y H2->wpAny (model X.prog X.w) X.A (f v u) Q X.xe s2):
  wpAny (model X.prog X.w) X.A (eval a X.env) (λv s₁=>wpAny (model X.prog X.w) X.A (eval b X.env) (λu s₂=>wpAny (model X.prog X.w) X.A (f v u) Q X.xe s₂) X.xe s₁) X.xe s:=by
 refine bM (ha ZY s σ H _ I h) λv s1 zq=>ay zq λx H1 I1 r1 q1=>?_;refine bM (hb ZY s1 σ H1 _ I1 q1) λu s2 zq=>ay zq λy H2 I2 r2 q2=>?_;exact hf v u s2 x y H2 I2 r1 r2 q2
theorem aC(ho:jh X (binaryOp op) r)(ha:PE X a ta)(hb:PE X b tb):PE X (.BinOp a op b pos) (gT r ta tb):=by intro ZY s σ H Q I h;exact wpAny_BinOp (binT ha hb I h λv u s2 x y H2 I2 rx ry q=>ho ZY s2 σ H2 x y v u Q I2 rx ry q)
theorem pe_un{r:V->Hp->VK->Prop}(ho:UnR X (unaryOp op) r)(ha:PE X a ta):PE X (.UnaryOp op a pos) (tUn r ta):=by intro ZY s σ H Q I h;exact UnaryOp_ (bM (ha ZY s σ H _ I h) λv s1 zq=>ay zq λx H1 I1 r1 q1=>ho ZY s1 σ H1 x v Q I1 r1 q1)
theorem opI{f:Value->Value->Sem Value}{C:Int->Int->Prop}{g:Int->Int->Int}(rule:∀(i j:Int) (t u:Tok) (s:Shared) (Q:ZN) (E:ZN),C i j->Q (.int (g i j) s.toks) {s with toks:=s.toks+1}->wpAny (model X.prog X.w) X.A (f (.int i t)<|.int j u) Q E s):
  jh X f (rI C λi j=>.int<|g i j):=by
 intro ZY s σ H x y v u Q I rx ry h;refine fL h λi j ZV ZU hc q=>?_;subst ZV;subst ZU;refine ao rx λt ZW=>?_;subst ZW;refine ao ry λt' ZW=>?_;subst ZW;exact rule i j t t' s _ _ hc ⟨.int<|g i j,H,I.tok _,⟨_,rfl⟩,q⟩
theorem opI0{f:Value->Value->Sem Value}{g:Int->Int->Int}(rule:∀(i j:Int) (t u:Tok) (s:Shared) (Q:ZN) (E:ZN),Q (.int (g i j) s.toks) {s with toks:=s.toks+1}->wpAny (model X.prog X.w) X.A (f (.int i t)<|.int j u) Q E s):
  jh X f (uO λi j=>.int<|g i j):=by
 intro ZY s σ H x y v u Q I rx ry h;refine ay h λi j ZV ZU q=>?_;subst ZV;subst ZU;refine ao rx λt ZW=>?_;subst ZW;refine ao ry λt' ZW=>?_;subst ZW;exact rule i j t t' s _ _ ⟨.int<|g i j,H,I.tok _,⟨_,rfl⟩,q⟩
theorem opB0{f:Value->Value->Sem Value}{g:Int->Int->Bool}(rule:∀(i j:Int) (t u:Tok) (s:Shared) (Q:ZN) (E:ZN),Q (.bool<|g i j) s->wpAny (model X.prog X.w) X.A (f (.int i t)<|.int j u) Q E s):
  jh X f (uO λi j=>.bl<|g i j):=by
 intro ZY s σ H x y v u Q I rx ry h;refine ay h λi j ZV ZU q=>?_;subst ZV;subst ZU;refine ao rx λt ZW=>?_;subst ZW;refine ao ry λt' ZW=>?_;subst ZW;exact rule i j t t' s _ _ ⟨.bl<|g i j,H,I,rfl,q⟩
def CPow(i j:Int):Prop:=0<=j/\j<=1000000/\i.natAbs<2^64
def yo(i j:Int):Prop:=(-(2^64)<i/\i<2^64)\/(-(2^64)<j/\j<2^64)
theorem yo.ok(h:yo i j):IntMulOk i j:=by
 rcases h with ⟨h1,h2⟩|⟨h1,h2⟩
 ·exact .of_left<|intBits_le_64 h1 h2
 ·exact .of_right<|intBits_le_64 h1 h2
theorem bg:jh X (binaryOp .Add) (uO λi j=>.int<|i+j):=opI0 λx x x x x x x q=>add_int q
theorem gm:jh X (binaryOp .Sub) (uO λi j=>.int<|i-j):=opI0 λx x x x x x x q=>sub_int q
theorem cY:jh X (binaryOp .Mult) (rI yo λi j=>.int<|i*j):=opI λx x x x x x x hc q=>mul_int q hc.ok
theorem dq:jh X (binaryOp .Mod) (rI (λx j=>0<j) λi j=>.int<|i%j):=opI λi j x x x x x hc q=>by have h1:(0:Int)<j:=hc;exact mod_int' (by lia) (by rw[Int.fmod_eq_emod_of_nonneg i (by lia)];exact q)
theorem uV:jh X (binaryOp .Pow) (rI CPow λi j=>.int<|i^j.toNat):=opI λx x x x x x x hc q=>pow_int_small hc.1 hc.2.1 hc.2.2 q
theorem unI{f:Value->Sem Value}{g:Int->Int}(rule:∀(i:Int) (t:Tok) (s:Shared) (Q:ZN) (E:ZN),Q (.int (g i) s.toks) {s with toks:=s.toks+1}->wpAny (model X.prog X.w) X.A (f<|.int i t) Q E s):
  UnR X f (rU λi=>.int<|g i):=by
 intro ZY s σ H x v Q I rx h;refine aa h λi ZW q=>?_;subst ZW;refine ao rx λt ZW=>?_;subst ZW;exact rule i t s _ _ ⟨.int<|g i,H,I.tok _,⟨_,rfl⟩,q⟩
theorem zU:UnR X (unaryOp .USub) (rU λi=>.int<|-i):=unI λx x x x x q=>neg_int q
end
noncomputable def uW:V->V->Bool
 |.non,.non=>true|.non,.int _=>true|.int _,.non=>true|.non,.bl _=>true|.bl _,.non=>true|.non,.str _=>true|.str _,.non=>true
 |.int _,.int _=>true|.bl _,.bl _=>true|.str _,.str _=>true|.byt _,.byt _=>true
 |.int _,.str _=>true|.str _,.int _=>true|.bl _,.str _=>true|.str _,.bl _=>true
 |_,_=>false
noncomputable def rEq:R2:=λx y H Q=>uW x y=true/\Q (.bl<|decide<|x=y) H
noncomputable def rNe:R2:=λx y H Q=>uW x y=true/\Q (.bl<|!decide (x=y)) H
theorem wD:decide (V.int i=V.int j)=(i==j):=by rw[V7];simp
theorem zV:decide (V.bl i=V.bl j)=(i==j):=by rw[V7];simp
theorem wF:decide (V.str i=V.str j)=(i==j):=by rw[V7];simp
theorem wG:decide (V.byt i=V.byt j)=(i.toList==j.toList):=by rw[V7];cases i;cases j;simp
section
variable {X:Cx}{a b c:Expr}{ta tb tc:TE}{pos:Pos}
theorem aZ{σ:St}(I:Inv X ZY σ H s)(q:Q (.bl k) H)(e:k=k'):EP X ZY σ Q (.bool k') s:=by subst e;exact⟨.bl k,H,I,rfl,q⟩
theorem jn:jh X (R9 .Eq) rEq:=by
 intro ZY s σ H x y v u Q I rx ry h;refine ax h λhs q=>?_;cases x with
 |non =>
  cases rx;cases y with
  |non=>cases ry;exact PySem.EqNone.eq_none_none<|aZ I q (by simp)
  |bl j=>cases ry;exact PySem.EqNone.eq_none_bool<|aZ I q (by simp)
  |int j=>refine ao ry λt' ZW=>?_;subst ZW;exact PySem.EqNone.eq_none_int<|aZ I q (by simp)
  |str j=>refine ao ry λt' ZW=>?_;subst ZW;exact PySem.EqNone.eq_none_str<|aZ I q (by simp)
  |_=>exact absurd (show false=true from hs) Z7
 |bl i =>
  cases rx;cases y with
  |non=>cases ry;exact PySem.EqNone.eq_bool_none<|aZ I q (by simp)
  |bl j=>cases ry;exact eq_bool<|aZ I q zV
  |str j=>refine ao ry λt' ZW=>?_;subst ZW;exact PySem.EqMixed.eq_bool_str<|aZ I q (by simp)
  |_=>exact absurd (show false=true from hs) Z7
 |int i =>
  refine ao rx λt ZW=>?_;subst ZW;cases y with
  |non=>cases ry;exact PySem.EqNone.eq_int_none<|aZ I q (by simp)
  |int j=>refine ao ry λt' ZW=>?_;subst ZW;exact eq_int<|aZ I q wD
  |str j=>refine ao ry λt' ZW=>?_;subst ZW;exact PySem.EqMixed.eq_int_str<|aZ I q (by simp)
  |_=>exact absurd (show false=true from hs) Z7
 |str i =>
  refine ao rx λt ZW=>?_;subst ZW;cases y with
  |non=>cases ry;exact PySem.EqNone.eq_str_none<|aZ I q (by simp)
  |bl j=>cases ry;exact PySem.EqMixed.eq_str_bool<|aZ I q (by simp)
  |int j=>refine ao ry λt' ZW=>?_;subst ZW;exact PySem.EqMixed.eq_str_int<|aZ I q (by simp)
  |str j=>refine ao ry λt' ZW=>?_;subst ZW;exact eq_str<|aZ I q wF
  |_=>exact absurd (show false=true from hs) Z7
 |byt i =>
  refine ao rx λt ZW=>?_;subst ZW;cases y with
  |byt j=>refine ao ry λt' ZW=>?_;subst ZW;exact PySem.W.eq_bytes<|aZ I q wG
  |_=>exact absurd (show false=true from hs) Z7
 |_=>cases y<;>exact absurd (show false=true from hs) Z7
theorem qa:jh X (R9 .NotEq) rNe:=by
 intro ZY s σ H x y v u Q I rx ry h;refine ax h λhs q=>?_;cases x with
 |non =>
  cases rx;cases y with
  |non=>cases ry;exact PySem.EqNone.ne_none_none<|aZ I q (by simp)
  |bl j=>cases ry;exact PySem.EqNone.ne_none_bool<|aZ I q (by simp)
  |int j=>refine ao ry λt' ZW=>?_;subst ZW;exact PySem.EqNone.ne_none_int<|aZ I q (by simp)
  |str j=>refine ao ry λt' ZW=>?_;subst ZW;exact PySem.EqNone.ne_none_str<|aZ I q (by simp)
  |_=>exact absurd (show false=true from hs) Z7
 |bl i =>
  cases rx;cases y with
  |non=>cases ry;exact PySem.EqNone.ne_bool_none<|aZ I q (by simp)
  |bl j=>cases ry;exact ne_bool<|aZ I q<|congrArg not zV
  |str j=>refine ao ry λt' ZW=>?_;subst ZW;exact PySem.EqMixed.ne_bool_str<|aZ I q (by simp)
  |_=>exact absurd (show false=true from hs) Z7
 |int i =>
  refine ao rx λt ZW=>?_;subst ZW;cases y with
  |non=>cases ry;exact PySem.EqNone.ne_int_none<|aZ I q (by simp)
  |int j=>refine ao ry λt' ZW=>?_;subst ZW;exact ne_int<|aZ I q<|congrArg not wD
  |str j=>refine ao ry λt' ZW=>?_;subst ZW;exact PySem.EqMixed.ne_int_str<|aZ I q (by simp)
  |_=>exact absurd (show false=true from hs) Z7
 |str i =>
  refine ao rx λt ZW=>?_;subst ZW;cases y with
  |non=>cases ry;exact PySem.EqNone.ne_str_none<|aZ I q (by simp)
  |bl j=>cases ry;exact PySem.EqMixed.ne_str_bool<|aZ I q (by simp)
  |int j=>refine ao ry λt' ZW=>?_;subst ZW;exact PySem.EqMixed.ne_str_int<|aZ I q (by simp)
  |str j=>refine ao ry λt' ZW=>?_;subst ZW;exact ne_str<|aZ I q<|congrArg not wF
  |_=>exact absurd (show false=true from hs) Z7
 |byt i =>
  refine ao rx λt ZW=>?_;subst ZW;cases y with
  |byt j=>refine ao ry λt' ZW=>?_;subst ZW;exact PySem.W.ne_bytes<|aZ I q<|congrArg not wG
  |_=>exact absurd (show false=true from hs) Z7
 |_=>cases y<;>exact absurd (show false=true from hs) Z7
theorem op_lt:jh X (R9 .Lt) (uO λi j=>.bl<|decide<|i<j):=opB0 λx x x x x x x q=>lt_int q
theorem op_le:jh X (R9 .LtE) (uO λi j=>.bl<|decide<|i<=j):=opB0 λx x x x x x x q=>le_int q
theorem op_gt:jh X (R9 .Gt) (uO λi j=>.bl<|decide<|j<i):=opB0 λx x x x x x x q=>gt_int q
theorem zW:jh X (R9 .Is) (λx y H Q=>y=.non/\Q (.bl<|decide<|x=.non) H):=by
 intro ZY s σ H x y v u Q I rx ry h;refine ax h λZX q=>?_;subst ZX;cases ry;refine is_none_gen<|aZ I q ?_;cases x<;>first
  |(cases rx;rfl)
  |(refine ao rx λt ZW=>?_;subst ZW;rfl)
theorem wH:jh X (R9 .IsNot) (λx y H Q=>y=.non/\Q (.bl<|!decide (x=.non)) H):=by
 intro ZY s σ H x y v u Q I rx ry h;refine ax h λZX q=>?_;subst ZX;cases ry;refine isnot_none_gen<|aZ I q ?_;cases x<;>first
  |(cases rx;rfl)
  |(refine ao rx λt ZW=>?_;subst ZW;rfl)
theorem bx(b:Expr){op:CmpOp}(h:autoParam (op≠.In) L2.ir._auto_1)(h2:autoParam (op≠.NotIn) L2.ir._auto_1):behindInMarks op b=false:=by
 have e1:(op==CmpOp.In)=false:=by cases op<;>first|rfl|exact absurd rfl h
 have e2:(op==CmpOp.NotIn)=false:=by cases op<;>first|rfl|exact absurd rfl h2
 cases b<;>simp[behindInMarks,e1,e2]
theorem j6(ho:jh X (R9 op) r)(ha:PE X a ta)(hb:PE X b tb)(hm:behindInMarks op b=false):PE X (.Compare a [op] [b] pos) (gT r ta tb):=by intro ZY s σ H Q I h;exact wpAny_Compare1 (binT ha hb I h λv u s2 x y H2 I2 rx ry q=>ho ZY s2 σ H2 x y v u Q I2 rx ry q) hm
def zX(t:TE):TT:=λσ H Q=>t σ H λx H'=>∃k,x=.bl k/\Q k H'
theorem ba(ho:jh X (R9 op) r)(ha:PE X a ta)(hb:PE X b tb)(hm:behindInMarks op b=false):PT X (.Compare a [op] [b] pos) (zX<|gT r ta tb):=by
 intro ZY s σ H Q I h;refine wpAny_isTrue_Compare1 (bM (ha ZY s σ H _ I h) λv s1 zq=>ay zq λx H1 I1 r1 q1=>bM (hb ZY s1 σ H1 _ I1 q1) λu s2 zq=>ay zq λy H2 I2 r2 q2 =>
  bM (ho ZY s2 σ H2 x y v u _ I2 r1 r2 q2) λc s3 zq=>ay zq λz H3 I3 r3 zz=>aa zz λk e q3=>?_) hm
 subst e;cases r3;exact N0 ⟨H3,I3,q3⟩
def uX(r r':R2)(ta tb tc:TE):TE:=λσ H Q=>ta σ H λx H1=>tb σ H1 λy H2=>r x y H2 λz H3=>∃k,z=.bl k /\
 (if k=true then tc σ H3 λw' H4=>r' y w' H4 Q else Q (.bl false) H3)
theorem zY{op op':CmpOp}{r r':R2}(ho:jh X (R9 op) r)(ho':jh X (R9 op') r')(ha:PE X a ta)(hb:PE X b tb)(hc:PE X c tc)(hm:autoParam (lastMarks [op,op'] [b,c]=false) L2.a3q._auto_1):PT X (.Compare a [op,op'] [b,c] pos) (zX<|uX r r' ta tb tc):=by
 intro ZY s σ H Q I h;refine isTrue_chain (bM (ha ZY s σ H _ I h) λv s1 zq=>ay zq λx H1 I1 r1 q1=>test_link (bM (hb ZY s1 σ H1 _ I1 q1) λu s2 zq=>ay zq λy H2 I2 r2 q2 =>
  bM (ho ZY s2 σ H2 x y v u _ I2 r1 r2 q2) λd s3 zq=>ay zq λz H3 I3 r3 zz=>aa zz λk e q3=>?_)) hm
 subst e;cases r3;refine N0 ?_;cases k with
 |false =>refine aa q3 λk' e' q'=>?_;cases e';exact ite_ff ⟨H3,I3,q'⟩
 |true =>refine ite_tt<|test_last (bM (hc ZY s3 σ H3 _ I3 q3) λw' s4 zq=>ay zq λz' H4 I4 r4 q4=>bM (ho' ZY s4 σ H4 y z' u w' _ I4 r2 r4 q4) λd' s5 zq=>ay zq λz2 H5 I5 r5 zz=>aa zz λk2 e2 q5=>?_);subst e2;cases r5;exact N0 ⟨H5,I5,q5⟩
noncomputable def TruV(K:Z4)(x:V)(H:Hp)(k:Bool):Prop :=
 match x with
 |.non=>k=false
 |.bl b=>k=b
 |.int i=>k=(i != 0)
 |.str y=>y.length<=W9/\k=((y.length:Int) != 0)
 |.byt y=>y.size<=W9/\k=((y.size:Int) != 0)
 |.ref p=>(∃xs,fm K H p xs/\k=!xs.isEmpty)\/(∃xs,j5 K H p xs/\k=!xs.isEmpty)\/∃kvs,H p=some (.dK kvs)/\k=!kvs.isEmpty
 |_=>False
theorem uY{κ:Type}{kvs:List (κ×V)}{vs:List (κ×Value)}(r:KV kvs vs):(!vs.isEmpty)=!kvs.isEmpty:=by cases r<;>rfl
theorem n8(r:aP xs its):(!its.toArray.isEmpty)=!xs.isEmpty:=by cases r<;>simp
theorem ng:(W9:Nat)<2^63:=by rw[V4];decide
theorem tru_ok:TruR X (λx H Q=>∃k,TruV X.K x H k/\Q k H):=by
 intro ZY s σ H x v Q I rx h;refine aa h λk e q=>?_;have hl:=ng;have hs:W9=16777216:=V4;cases x with
 |non =>cases rx;have e':k=false:=e;subst e';exact truthy_none ⟨H,I,q⟩
 |bl b =>cases rx;have e':k=b:=e;subst e';exact N0 ⟨H,I,q⟩
 |int i =>refine ao rx λt ZW=>?_;subst ZW;have e':k=(i != 0):=e;subst e';exact PySem.P.truthy_int ⟨H,I,q⟩
 |str y =>refine ao rx λt ZW=>?_;subst ZW;refine ax (show y.length<=W9/\k=((y.length:Int) != 0) from e) λhy e'=>?_;subst e';exact PySem.P.truthy_str (by lia) ⟨H,I.tok _,q⟩
 |byt y =>refine ao rx λt ZW=>?_;subst ZW;refine ax (show y.size<=W9/\k=((y.size:Int) != 0) from e) λhy e'=>?_;subst e';exact PySem.W.truthy_bytes (by lia) ⟨H,I.tok _,q⟩
 |ref p =>
  cases rx;have e':(∃xs,fm X.K H p xs/\k=!xs.isEmpty)\/(∃xs,j5 X.K H p xs/\k=!xs.isEmpty)\/∃kvs,H p=some (.dK kvs)/\k=!kvs.isEmpty:=e;rcases e' with ⟨xs,hx,e'⟩|⟨xs,hx,e'⟩|⟨kvs,hx,e'⟩
  ·subst e';refine aE (I.list hx) λits r pl hz=>?_;have hlen:=r.length;exact wpAny_truthy_list pl.isList (by simp only[X1];lia) ⟨H,I.tok _,by rw[n8 r];exact q⟩
  ·subst e';refine aE (I.tuple hx) λits r pl hz=>?_;have hlen:=r.length;exact truthy_tuple pl (by simp only[X1];lia) ⟨H,I.tok _,by rw[n8 r];exact q⟩
  ·subst e';refine aV (show kvs.length<=W9/\(p==M8)=false/\∃vs,KV kvs vs/\s.heap.DictOf (b9 X.prog X.w) p vs from I.hok p _ hx) λhz hS zz=>aa zz λvs r m=>?_;have hlen:kvs.length=vs.length:=Paired.length r;exact wpAny_truthy_dict hS m (by lia) ⟨H,I.tok _,by rw[uY r];exact q⟩
 |_=>exact(show False from e).elim
theorem zZ(ha:PE X a ta)(he:∀whole,isTrue a X.env whole=(do let v <- whole;standAt a.pos;holding [v] (truthy v))):
  PT X a (λσ H Q=>ta σ H λx H'=>∃k,TruV X.K x H' k/\Q k H'):=by
 intro ZY s σ H Q I h;exact isTrue_plain (bM (ha ZY s σ H _ I h) λv s1 zq=>ay zq λx H1 I1 r1 q1=>tru_ok ZY s1 σ H1 x v Q I1 r1 q1)<|he _
theorem vals1(r:aP [x] us):∃u,us=[u]/\RelV x u:=by
 cases r with
 |cons r1 r2=>cases r2;exact⟨_,rfl,r1⟩
theorem vals2(r:aP [x,y] us):∃u w',us=[u,w']/\RelV x u/\RelV y w':=by
 cases r with
 |cons r1 r2 =>
  cases r2 with
  |cons r3 r4=>cases r4;exact⟨_,_,rfl,r1,r3⟩
theorem ni:eN X (.builtin "abs") (λxs H Q=>∃i,xs=[.int i]/\Q (.int (if i<0 then -i else i)) H):=by intro ZY s σ H xs us Q I r h;refine aa h λi ZW q=>?_;subst ZW;refine aa (vals1 r) λu ZW zz=>ao zz λt ZU=>?_;subst ZW;subst ZU;exact call_abs_int λu tk=>⟨.int (if i<0 then -i else i),H,I.tok _,⟨_,rfl⟩,q⟩
theorem gA(hc:X.calm=true):eN X (.builtin "max") (λxs H Q=>∃i j,xs=[.int i,.int j]/\Q (.int (if j > i then j else i)) H):=by
 intro ZY s σ H xs us Q I r h;refine bv h λi j ZV q=>?_;subst ZV;obtain⟨u,w',rfl,⟨t,rfl⟩,⟨t',rfl⟩⟩:=vals2 r;refine max_two_ints (I.ok.hd hc) λh' tk k=>⟨_,H,I.kept k,?_,q⟩;by_cases hj:j > i
 ·rw[if_pos hj,if_pos hj];exact⟨_,rfl⟩
 ·rw[if_neg hj,if_neg hj];exact⟨_,rfl⟩
theorem fE(hc:X.calm=true):eN X (.builtin "min") (λxs H Q=>∃i j,xs=[.int i,.int j]/\Q (.int (if j<i then j else i)) H):=by
 intro ZY s σ H xs us Q I r h;refine bv h λi j ZV q=>?_;subst ZV;obtain⟨u,w',rfl,⟨t,rfl⟩,⟨t',rfl⟩⟩:=vals2 r;refine min_two_ints (I.ok.hd hc) λh' tk k=>⟨_,H,I.kept k,?_,q⟩;by_cases hj:j<i
 ·rw[if_pos hj,if_pos hj];exact⟨_,rfl⟩
 ·rw[if_neg hj,if_neg hj];exact⟨_,rfl⟩
theorem yp:eN X (.type "int") (λxs H Q=>(∃i,xs=[.int i]/\Q (.int i) H)\/∃k,xs=[.bl k]/\Q (.int (if k then 1 else 0)) H):=by
 intro ZY s σ H xs us Q I r h;rcases h with ⟨i,rfl,q⟩|⟨k,rfl,q⟩
 ·refine aa (vals1 r) λu ZW zz=>ao zz λt ZU=>?_;subst ZW;subst ZU;exact call_int_int ⟨.int i,H,I,⟨_,rfl⟩,q⟩
 ·refine aa (vals1 r) λu ZW r1=>?_;subst ZW;cases r1;exact call_int_bool ⟨.int (if k then 1 else 0),H,I.tok _,⟨_,rfl⟩,q⟩
end
end L2
namespace L2
open PySem PySem.Spec PyProof.Rows
structure ObjM(h:Heap)(x dx C:Addr)(mA:ZH):Prop where
 obj:h.get? x=some (G7 C dx)
 ns:h.Ns1 dx mA
 ne:dx≠x
set_option tactic.hygienic true in
theorem yq{h:Heap}{mA:ZH}(n:h.Ns1 dx mA):∃od,h.get? dx=some od/\∀name,PySem.W.lookIn name od=some (mA name):=by
 refine gM n λo es ep ho hd hk x hm=>?_;refine⟨o,ho,λname=>?_⟩;have e:=hm name;unfold nsFind findBy at e;rw[<- Array.find?_toList]at e;unfold PySem.W.lookIn;rw[hd];dsimp only;split
 ·rename_i y q;rw[q]at e;exact congrArg some e
 ·rename_i q;rw[q]at e;have a:es.toList.any (·.refKey)=false:=by rw[List.any_eq_false];intro y hy;refine ii (hk y<|Array.mem_toList_iff.mp hy) λz t hkey=>?_;simp[J0.refKey,hkey]
  have a':¬ es.toList.any (·.refKey)=true:=by rw[a];exact Z7
  rw[if_neg a'];exact congrArg some e
theorem ObjM.look{mA:ZH}(I:ObjM h x dx C mA):∃od,PySem.W.InstAt h x (G7 C dx) C (some od)/\∀name,PySem.W.lookIn name od=some (mA name) :=
 let ⟨od,ho,hl⟩:=yq I.ns
 ⟨od,⟨I.obj,rfl,rfl,ho⟩,hl⟩
section
variable {prog:U4}{w:World}{A:Around}{E:ZN}{s:Shared}{K:Z4}{x dx C f:Addr}{mA:ZH}{name:Str}{v:Value}
theorem get_map{Q:ZN}(X:K.In s.heap)(I:ObjM s.heap x dx C mA)(hg:PySem.W.plainGet K C name=true)(hh:PySem.W.hasDictIn K C=true)(ha:Q3 K (.ref C) name=some none)(hv:mA name=some v)(hv':PySem.W.handedIn v=true)(h:Q v {s with toks:=s.toks+1}):
  wpAny (model prog w) A (getAttr (.ref x) name expr) Q E s:=by
 refine aa I.look λod J hl=>?_;exact PySem.W.get_value X J (PySem.W.plainGet_of hg).1 (PySem.W.findObj_own hh ha rfl (by rw[hl,hv])) hv' h
theorem A0{Q:Value×List Value->Shared->Prop}(X:K.In s.heap)(I:ObjM s.heap x dx C mA)(hg:PySem.W.plainGet K C name=true)(hf:Q3 K (.ref C) name=some (some<|.ref f))(ht:PySem.W.isFn K (.ref f)=true)(hv:mA name=none)(h:Q (.ref f,[.ref x]) s):
  wpAny (model prog w) A (getMethod (.ref x) name pl) Q E s:=by
 refine aa I.look λod J hl=>?_;exact PySem.W.method_fn X J (PySem.W.plainGet_of hg).1 (PySem.W.plainGet_of hg).2 hf (beq_iff_eq.mp ht) (by show (PySem.W.lookIn name od).map (·.isSome)=some false;rw[hl,hv];rfl) h
theorem set_map{Q:Unit->Shared->Prop}(X:K.In s.heap)(I:ObjM s.heap x dx C mA)(hs:Q3 K (.ref C) "__setattr__"=some (some<|.builtin "object.__setattr__"))(hp:PySem.W.plainOver K C=true)(ht:PySem.W.takerIn K C name=some none)(hh:PySem.W.hasDictIn K C=true)(hw:PySem.Within mA ns)(hsz:ns.length<=W9)(h:∀h',ObjM h' x dx C (λy=>if y=name then some v else mA y)->U8 dx s.heap h'->Q () {s with heap:=h',toks:=s.toks+2}):
  wpAny (model prog w) A (setAttr (.ref x) name v) Q E s:=by
 refine aa I.look λod J hl=>?_;refine PySem.W.set_plain X J hs (PySem.W.osa_open (s:={s with toks:=s.toks+1}) (r:=none) X J hp ht λb=>?_);refine aa (PySem.W.any_some hh) λcd hc hd'=>?_;have hx:s.heap.get? x=some ⟨.ref C,some dx,.plain,#[]⟩:=I.obj;refine Z0<|Z5<|Z0<|Z0<|wpAny_loadPart hx<|Z0<|PySem.W.Looks.here (s:={s with toks:=s.toks+1}) (PySem.W.looks_clsIn X hc) ?_;rw[hd'];refine Z5 (a:=some dx)<|Z0<|Z5<|Z0 ?_;refine wpAny_nsSet1 (s:={s with toks:=s.toks+1}) I.ns λh' hn2 hs2=>?_;refine cH (hn2.count<|PySem.Within.cons name v hw) λoD esD epD hoD hdD hcD=>?_;refine Z0<|wpAny_lookBehind hoD (by rw[hdD];exact pastItsLine_dict<|b8 hcD (by rw[V9];lia)) ?_;exact Z5<|h _ ⟨(hs2.2 _<|R4 I.ne).trans I.obj,hn2,I.ne⟩ hs2
theorem A1{R:Result->Shared->Prop}(X:K.In s.heap)(hm:PySem.W.makesIn K C=true)(hi:Q3 K (.ref C) "__init__"=some (some<|.ref f))(hf:PySem.W.typeIn K (.ref f)=some (.type "function"))(h:codeAny (model prog w) (A.under<|.builtin "type.__call__" ⟨.ref C ::vs,kw⟩) (.call (.ref f) ⟨.ref (s.heap.objs.size+1) ::vs,kw⟩) (PySem.W.InitBack (s.heap.objs.size+1) R)
   {s with heap:=(s.heap.push M1).push (G7 C s.heap.objs.size)}):
  codeAny (model prog w) A (.call (.ref C) ⟨vs,kw⟩) R s:=by
 obtain⟨hh,g,d,t,os⟩:=s;exact PySem.W.make_core (PySem.W.makes_of X hm) (PySem.W.looks_findIn X hi) (λself=>PySem.W.bind_fn X self hf) (.inl rfl) h
end
noncomputable def fe(f:Str)(v:V):List (Str×V)->List (Str×V)
 |[]=>[(f,v)]
 |(g,x) ::r=>if g=f then (g,v) ::r else (g,x) ::fe f v r
theorem sP(f g:Str)(v:V):∀fs:List (Str×V),(fe f v fs).lookup g=if g=f then some v else fs.lookup g:=by
 intro fs;induction fs with
 |nil =>
  show J8 g [(f,v)]=_;by_cases h:g=f
  ·have hb:(g==f)=true:=beq_iff_eq.mpr h;simp only[J8,hb,if_pos h]
  ·have hb:(g==f)=false:=beq_eq_false_iff_ne.mpr h;simp only[J8,hb,if_neg h]
 |cons p r ih =>
  cases p with|mk k x=>?_;rw[show fe f v ((k,x) ::r)=(if k=f then (k,v) ::r else (k,x) ::fe f v r) from rfl];by_cases hk:k=f
  ·rw[if_pos hk];by_cases h:g=k
   ·have hb:(g==k)=true:=beq_iff_eq.mpr h;simp only[J8,hb,if_pos (h.trans hk)]
   ·have hb:(g==k)=false:=beq_eq_false_iff_ne.mpr h;simp only[J8,hb,if_neg fun e:g=f=>h<|e.trans hk.symm]
  ·rw[if_neg hk];by_cases h:g=k
   ·have hb:(g==k)=true:=beq_iff_eq.mpr h;simp only[J8,hb,if_neg fun e:g=f=>hk<|h.symm.trans e]
   ·have hb:(g==k)=false:=beq_eq_false_iff_ne.mpr h;simp only[J8,hb];exact ih
theorem qb(f:Str)(v:V):∀fs:List (Str×V),f∈(fe f v fs).map (·.1)/\∀g,g∈fs.map (·.1)->g∈(fe f v fs).map (·.1):=by
 intro fs;induction fs with
 |nil=>exact⟨V1,λg h=>nomatch h⟩
 |cons p r ih =>
  cases p with|mk k x=>?_;refine ax ih λi1 i2=>?_;rw[show fe f v ((k,x) ::r)=(if k=f then (k,v) ::r else (k,x) ::fe f v r) from rfl];by_cases hk:k=f
  ·rw[if_pos hk];subst hk;exact⟨by simp,λg h=>by simpa using h⟩
  ·rw[if_neg hk];refine⟨?_,λg h=>?_⟩
   ·rw[W7];exact W4 _ i1
   ·rw[W7]at h ⊢;rcases Y4.mp h with e|e
    ·exact Y4.mpr<|.inl e
    ·exact W4 _<|i2 g e
theorem sQ(f:Str)(v:V):∀fs:List (Str×V),(fe f v fs).length<=fs.length+1:=by
 intro fs;induction fs with
 |nil=>exact bD _
 |cons p r ih =>
  cases p with|mk k x=>?_;rw[show fe f v ((k,x) ::r)=(if k=f then (k,v) ::r else (k,x) ::fe f v r) from rfl];by_cases hk:k=f
  ·rw[if_pos hk,V9,V9];lia
  ·rw[if_neg hk,V9,V9];lia
theorem iz.some_of(r:iz (some v) o):∃u,o=some u/\RelV v u:=by
 cases o with
 |none=>exact(show False from r).elim
 |some u=>exact⟨u,rfl,r⟩
theorem iz.none_of(r:iz none o):o=none:=by
 cases o with
 |none=>rfl
 |some u=>exact(show False from r).elim
theorem yr(r:RelV v u):PySem.W.handedIn u=true:=by
 cases v with
 |non=>cases (show u=O1 from r);rfl
 |bl b=>cases (show u=Value.bool b from r);rfl
 |int i=>refine ao ((show ∃t,u=O9 i t from r)) λt e=>?_;cases e;rfl
 |str x=>refine ao ((show ∃t,u=Value.str x t from r)) λt e=>?_;cases e;rfl
 |byt b=>refine ao ((show ∃t,u=Value.bytes b t from r)) λt e=>?_;cases e;rfl
 |flt b=>refine ao ((show ∃t,u=Value.float b t from r)) λt e=>?_;cases e;rfl
 |ref a=>cases (show u=U3 a from r);rfl
 |ty n=>cases (show u=Value.type n from r);rfl
section
variable {P:U4}{w:World}{H:Hp}{h:Heap}{a C dx:Addr}{fs:List (Str×V)}
theorem mE(hok:jO P w H h)(e:H a=some (.ins C dx fs)):∃mA,ObjM h a dx C mA/\(∀f,iz (fs.lookup f) (mA f))/\PySem.Within mA (fs.map (·.1))/\fs.length<=1000/\H dx=some (.own a):=by refine gl ((show bE P w H h a (.ins C dx fs) from hok a _ e)) λd z ne ob zz=>aE zz λmA n r q=>?_;exact⟨mA,⟨ob,n,ne⟩,r,q,z,d⟩
end
structure Cls(K:Z4)(C:Addr):Prop where
 pg:PySem.W.plainGet K C Str.empty=true
 hd:PySem.W.hasDictIn K C=true
 po:PySem.W.plainOver K C=true
 sa:Q3 K (.ref C) "__setattr__"=some (some<|.builtin "object.__setattr__")
theorem Cls.get{K:Z4}(c:Cls K C)(f:Str):PySem.W.plainGet K C f=true:=c.pg
def bU(K:Z4)(C:Addr)(f:Str):Prop:=Q3 K (.ref C) f=some none
theorem bU.taker{K:Z4}(n:bU K C f):PySem.W.takerIn K C f=some none:=by unfold PySem.W.takerIn;rw[show Q3 K (.ref C) f=some none from n];rfl
structure Meth(K:Z4)(C:Addr)(m:Str)(f:Addr):Prop where
 at_:Q3 K (.ref C) m=some (some<|.ref f)
 fn:PySem.W.isFn K (.ref f)=true
 kp:R3 K (.ref f)=true
section
variable {X:Cx}{ZY:ZJ}{σ:St}{H:Hp}{s:Shared}{a C dx:Addr}{fs:List (Str×V)}{f:Str}{v:V}{A:Around}{E:ZN}
theorem uZ{Q:ZN}(I:Inv X ZY σ H s)(e:H a=some (.ins C dx fs))(c:Cls X.K C)(n:bU X.K C f)(l:fs.lookup f=some v)(h:∀u s',Inv X ZY σ H s'->RelV v u->Q u s'):wpAny (model X.prog X.w) A (getAttr (.ref a) f b) Q E s:=by refine ig (mE I.hok e) λmA O r x x x=>?_;refine aa (iz.some_of (v:=v) (o:=mA f) (by rw[<- l];exact r f)) λu hu ru=>?_;exact get_map I.kIn O (c.get f) c.hd n hu (yr ru)<|h u _ (I.tok _) ru
theorem v0{Q:Value×List Value->Shared->Prop}(I:Inv X ZY σ H s)(e:H a=some (.ins C dx fs))(c:Cls X.K C)(k:Meth X.K C m g)(l:fs.lookup m=none)(h:Q (.ref g,[.ref a]) s):wpAny (model X.prog X.w) A (getMethod (.ref a) m pl) Q E s:=by refine ig (mE I.hok e) λmA O r x x x=>?_;have hn:mA m=none:=iz.none_of (by rw[<- l];exact r m);exact A0 I.kIn O (c.get m) k.at_ k.fn hn h
theorem v3{Q:Unit->Shared->Prop}(I:Inv X ZY σ H s)(e:H a=some (.ins C dx fs))(c:Cls X.K C)(n:bU X.K C f)(hl:fs.length<1000)(ry:RelV y u)(h:∀s',Inv X ZY σ (aH H a<|.ins C dx<|fe f y fs) s'->Q () s'):wpAny (model X.prog X.w) A (setAttr (.ref a) f u) Q E s:=by
 refine ig (mE I.hok e) λmA O r wi i ho=>?_;have hz:(fs.map (·.1)).length<=W9:=by rw[Y0,V4];lia
 refine set_map I.kIn O c.sa c.po n.taker c.hd wi hz λh' O' sb=>h _ ?_;have hd:∃o,h'.get? dx=some o:=fM O'.ns λo i i e' i=>⟨o,e'⟩;refine I.write (x:=a) (e:=dx) (by rw[e];exact J1) (.inr ho) (λb q hb z=>(sb.2 b hb).trans z) hd ?_;refine⟨by rw[aq O.ne];exact ho,?_,O.ne,O'.obj,_,O'.ns,λg=>?_,λg hg=>?_⟩
 ·have:=sQ f y fs;lia
 ·show iz ((fe f y fs).lookup g) (if g=f then some u else mA g);rw[sP];by_cases q:g=f
  ·rw[if_pos q,if_pos q];exact ry
  ·rw[if_neg q,if_neg q];exact r g
 ·by_cases q:g=f
  ·rw[q];exact(qb f y fs).1
  ·refine(qb f y fs).2 g (wi g λz=>hg ?_);show (if g=f then some u else mA g)=none;rw[if_neg q];exact z
theorem Inv.made(I:Inv X ZY σ H s):Inv X ZY σ (aH (aH H s.heap.objs.size<|.own<|s.heap.objs.size+1) (s.heap.objs.size+1)<|.ins C s.heap.objs.size [])
  {s with heap:=(s.heap.push M1).push (G7 C s.heap.objs.size)}:=by
 have e1:(s.heap.push M1).get? s.heap.objs.size=some M1:=Y7 s.heap rfl;have e2:((s.heap.push M1).push (G7 C s.heap.objs.size)).get? (s.heap.objs.size+1)=some (G7 C s.heap.objs.size):=by
  have:=Y7 (s.heap.push M1) (o:=G7 C s.heap.objs.size) rfl
  rwa [L8]at this
 have e3:(s.heap.push M1).Ns s.heap.objs.size (λx=>none):=⟨M1,#[],_,e1,rfl,(λe he=>absurd he (by simp)),λx=>rfl⟩;have I1:=I.laid (a:=s.heap.objs.size) (o:=.own<|s.heap.objs.size+1) (h':=s.heap.push M1) (t':=s.toks) (λb u q=>Z3 _ q) (bD _) ⟨_,e1⟩;refine I1.laid (a:=s.heap.objs.size+1) (o:=.ins C s.heap.objs.size []) (t':=s.toks) (λb u q=>Z3 _ q) (bG<|L8 _ _) ?_;have ne:s.heap.objs.size≠s.heap.objs.size+1:=dH<|W5 _;refine⟨by rw[aq ne,am],T3 _,ne,e2,λx=>none,(Heap.Ns1.of_empty e3).at λo q=>Z3 _ q,λx=>J1,λy hy=>absurd rfl hy⟩
theorem attr_of{Q:ZN}(hb:attributeBase e f env (eval e env)=eval e env)(h:wpAny (model prog w) A (eval e env) (λo s₁=>wpAny (model prog w) A (getAttr o f true) Q E s₁) E s):wpAny (model prog w) A (eval (.Attribute e f pos) env) Q E s :=
 Attribute_any_ h (by rw[arm_eval_Attribute,hb])
end
def md(K:Z4)(ta:TE)(f:Str):TE:=λσ H Q=>ta σ H λx H1=>∃a C dx fs v,x=.ref a/\H1 a=some (.ins C dx fs)/\Cls K C/\bU K C f/\fs.lookup f=some v/\Q v H1
def sR(K:Z4)(ta tv:TE)(f:Str):TS:=λD σ H=>tv σ H λy H1=>ta σ H1 λx H2=>∃a C dx fs,x=.ref a/\H2 a=some (.ins C dx fs)/\Cls K C/\bU K C f/\fs.length<1000 /\
 D.nx σ (aH H2 a<|.ins C dx<|fe f y fs)
section
variable {X:Cx}{o e value:Expr}{f:Str}{pos pos':Pos}{ta tv:TE}
theorem pe_fld(he:PE X e ta)(hb:attributeBase e f X.env (eval e X.env)=eval e X.env):PE X (.Attribute e f pos) (md X.K ta f):=by intro ZY s σ H Q I h;refine attr_of hb (bM (he ZY s σ H _ I h) λu s1 zq=>ay zq λx H1 I1 rx zz=>yh zz λa C dx fs v ex ea c n l q=>?_);subst ex;obtain rfl:u=U3 a:=rx;exact uZ I1 ea c n l λu' s2 I2 ru=>⟨v,H1,I2,ru,q⟩
theorem kY(ha:PE X o ta)(hv:PE X value tv)(hs:swapsWith value (some<|.Attribute o f pos') pos.line X.env=pure false):PS X (.Assign [.Attribute o f pos'] value pos) (sR X.K ta tv f):=by intro ZY s σ H D I h;refine plainObj_wpAny_Assign_Attribute (bM (hv ZY s σ H _ I h) λu s1 zq=>ay zq λy H1 I1 ry q=>bM (ha ZY s1 σ H1 _ I1 q) λov s2 zq=>ay zq λx H2 I2 rx zz=>gu zz λa C dx zy0=>zM zy0 λfs ex ea c n l q2=> ?_) hs;subst ex;obtain rfl:ov=U3 a:=rx;exact v3 I2 ea c n l ry λs3 I3=>⟨σ,_,I3,q2⟩
end
section
variable {X:Cx}{ZY:ZJ}{σ:St}{H:Hp}{s:Shared}{A:Around}{E:ZN}{Q:ZN}{c:Value}{b:Bool}
inductive TyOf(K:Z4)(H:Hp):V->Value->Prop where
 |non:TyOf K H .non (.type "NoneType")
 |bl (x:Bool):TyOf K H (.bl x) (.type "bool")
 |int (i:Int):TyOf K H (.int i) (.type "int")
 |str (x:Str):TyOf K H (.str x) (.type "str")
 |flt (x:UInt64):TyOf K H (.flt x) (.type "float")
 |lst {a:Addr} {xs:List V} (e:H a=some (.lst xs)):TyOf K H (.ref a) (.type "list")
 |frz {a:Addr} {o:Obj} {xs:List V} (e:H a=some (.frz o<|.lst xs)):TyOf K H (.ref a) (.type "list")
 |tup {a:Addr} {xs:List V} (e:H a=some (.tup xs)):TyOf K H (.ref a) (.type "tuple")
 |dK {a:Addr} {kvs:List (Key×V)} (e:H a=some (.dK kvs)):TyOf K H (.ref a) (.type "dict")
 |dT {a:Addr} {kvs:List (List Key×V)} (e:H a=some (.dT kvs)):TyOf K H (.ref a) (.type "dict")
 |ins {a C dx:Addr} {fs:List (Str×V)} (e:H a=some (.ins C dx fs)) (cl:Cls K C) (ha:Q3 K (.ref C) "__class__"=some (some<|.builtin "object.__class__"))
   (hn:PySem.W.specialIn K (.builtin "object.__class__") "__get__"=some (some<|.builtin "getset_descriptor.__get__")) (htk:PySem.W.takesIn K (.builtin "object.__class__")=some true)
   (hm:PySem.W.mroIn K C (.type "object")=some true):TyOf K H (.ref a) (.ref C)
theorem yt(I:Inv X ZY σ H s)(rx:RelV x u)(ty:TyOf X.K H x t)(e:L9 X.K t c=some b)(h:∀tk,Q (.bool b) {s with toks:=tk}):
  wpAny (model X.prog X.w) A (call (.builtin "isinstance") [u,c]) Q E s:=by
 cases ty with
 |non=>cases (show u=O1 from rx);exact N3 PySem.W.kitx_none I.kIn J1 e (λz=>nomatch z) h
 |bl y=>cases (show u=Value.bool y from rx);exact N3 PySem.W.kitx_bool I.kIn J1 e (λz=>nomatch z) h
 |int i=>refine ao ((show ∃t,u=O9 i t from rx)) λt q=>?_;cases q;exact N3 PySem.W.kitx_int I.kIn J1 e (λz=>nomatch z) h
 |str y=>refine ao ((show ∃t,u=Value.str y t from rx)) λt q=>?_;cases q;exact N3 PySem.W.kitx_str I.kIn J1 e (λz=>nomatch z) h
 |flt y=>refine ao ((show ∃t,u=Value.float y t from rx)) λt q=>?_;cases q;exact N3 PySem.W.kitx_float I.kIn J1 e (λz=>nomatch z) h
 |@lst a xs ea =>cases (show u=U3 a from rx);refine ax ((show bE X.prog X.w H s.heap a (.lst xs) from I.hok a _ ea)) λv zz=>bv zz λv n v h1=>?_;exact N3 PySem.W.kitx_list I.kIn ⟨_,h1,rfl⟩ e (λz=>nomatch z) h
 |@frz a ob xs ea =>cases (show u=U3 a from rx);refine aV ((show bE X.prog X.w H s.heap a (.frz ob<|.lst xs) from I.hok a _ ea)) λv v zz=>bv zz λv n v h1=>?_;exact N3 PySem.W.kitx_list I.kIn ⟨_,h1,rfl⟩ e (λz=>nomatch z) h
 |@tup a xs ea =>cases (show u=U3 a from rx);refine ax ((show bE X.prog X.w H s.heap a (.tup xs) from I.hok a _ ea)) λv zz=>aa zz λv v p=>?_;refine aE p λo h1 h2 v=>?_;exact N3 PySem.W.kitx_tuple I.kIn ⟨o,h1,h2⟩ e (λz=>nomatch z) h
 |@dK a kvs ea =>cases (show u=U3 a from rx);refine aV ((show bE X.prog X.w H s.heap a (.dK kvs) from I.hok a _ ea)) λv v zz=>aa zz λvs v p=>?_;refine cH p λo es ep h1 h2 v=>?_;exact N3 PySem.W.kitx_dict I.kIn ⟨o,h1,h2.1⟩ e (λz=>nomatch z) h
 |@dT a kvs ea =>cases (show u=U3 a from rx);refine aV ((show bE X.prog X.w H s.heap a (.dT kvs) from I.hok a _ ea)) λv v zz=>aa zz λxs v zz=>cH zz λo es ep h1 h2 v=>?_;exact N3 PySem.W.kitx_dict I.kIn ⟨o,h1,h2.1⟩ e (λz=>nomatch z) h
 |@ins a C dx fs ea cl ha hn htk hm =>cases (show u=U3 a from rx);refine aa (mE I.hok ea) λmA O v=>?_;refine aa O.look λod J v=>?_;exact N3 (PySem.W.kitx_own (cl.get _) cl.hd ha hn htk hm) I.kIn J e (λz=>nomatch z) h
end
end L2
namespace L2
open PySem PySem.Spec PyProof.Rows
structure Room(k:Nat)(A:Around):Prop where
 hd:A.handled=none
 dp:A.depth+3*k+5<recursionLimit
 un:A.units+16*k+200<cLine
theorem Room.mono(r:Room k A)(h:j<=k):Room j A:=⟨r.hd,by have:=r.dp;lia,by have:=r.un;lia⟩
theorem Room.deeper(r:Room (k+1) A)(env:Env):Room k (A.deeper env) :=
 ⟨r.hd,by have:=r.dp;show A.depth+1+3*k+5<_;lia,by have:=r.un;show A.units+3+16*k+200<_;lia⟩
theorem Room.in1(r:Room (k+1) A):Room k A.in1 :=
 ⟨r.hd,by have:=r.dp;show A.depth+3*k+5<_;lia,by have:=r.un;show A.units+1+16*k+200<_;lia⟩
theorem v4{A:Around}:(A.under<|.builtin "type.__call__" ⟨.ref C ::us,kw⟩).depth=A.depth+1:=by
 first|rfl|simp[Around.under,Code.weight,Code.isCreation,Code.isGuard,Code.isCaller,Code.frames,Code.isFrame,guardIds]
theorem v5{A:Around}:(A.under<|.builtin "type.__call__" ⟨.ref C ::us,kw⟩).units=A.units+1:=by
 first|rfl|simp[Around.under,Code.cUnits,Code.frames,Code.isFrame]
theorem Room.make(r:Room (k+1) A)(C:Addr)(us:ZK)(kw:Zb):Room k (A.under<|.builtin "type.__call__" ⟨.ref C ::us,kw⟩) :=
 ⟨r.hd,by have:=r.dp;rw[v4];omega,by have:=r.un;rw[v5];omega⟩
theorem Room.depth(r:Room k A):A.depth<recursionLimit:=by have:=r.dp;omega
theorem Room.units(r:Room k A):A.units+64<cLine:=by have:=r.un;lia
def d9:TA:=λx H Q=>Q [] H
def be(ta:TE)(tr:TA):TA:=λσ H Q=>ta σ H λx H1=>tr σ H1 λxs H2=>Q (x ::xs) H2
section
variable {X:Cx}{e:Expr}{es:List Expr}{te:TE}{t:TA}{pos:Pos}
theorem ag:PA X [] d9:=λx x x x H Q I h=>Calls.spliced_nil ⟨[],H,I,.nil,h⟩
theorem a8(ha:PE X e te)(hr:PA X es t)(hs:autoParam (V6 (e ::es) X.env=(false,eval e X.env) ::V6 es X.env) L2.eX._auto_1):PA X (e ::es) (be te t):=by intro pos ZY s σ H Q I h;rw[hs];show wpAny _ _ (spliced ((false,eval e X.env) ::backTo pos (V6 es X.env))) _ _ s;refine Calls.spliced_cons (bM (ha ZY s σ H _ I h) λu s1 zq=>ay zq λx H1 I1 r1 q1=>?_);exact bM (hr pos ZY s1 σ H1 _ I1 q1) λus s2 zq=>ay zq λxs H2 I2 r2 q2=>⟨x ::xs,H2,I2,.cons r1 r2,q2⟩
def tTup(t:TA):TE:=λσ H Q=>t σ H λxs H1=>xs.length<=W9/\∀p,H1 p=none->Q (.ref p) (aH H1 p<|.tup xs)
def tLst(t:TA):TE:=λσ H Q=>t σ H λxs H1=>xs.length<=W9/\∀p,H1 p=none->Q (.ref p) (aH H1 p<|.lst xs)
theorem iB{x1}(h:PA X es t):PE X (.Tuple es x1 pos) (tTup t):=by intro ZY s σ H Q I hq;refine wpAny_Tuple_spliced (bM (h pos ZY s σ H _ I hq) λus s1 zq=>fL zq λxs H1 I1 r z q=>⟨by rw[<- r.length];exact z,?_⟩);have hf:H1 s1.heap.objs.size=none:=I1.hok.fresh<|bD _;refine⟨.ref s1.heap.objs.size,aH H1 s1.heap.objs.size<|.tup xs,I1.laid (t':=s1.toks) (λb u e=>Z3 _ e) (bD _) ?_,rfl,q _ hf⟩;exact⟨z,us,r,⟨_,Y7 _ rfl,rfl,_,rfl⟩⟩
theorem cJ(h:PA X es t):PE X (.List es pos) (tLst t):=by intro ZY s σ H Q I hq;refine wpAny_List_spliced (bM (h pos ZY s σ H _ I hq) λus s1 zq=>fL zq λxs H1 I1 r z q=>⟨by rw[<- r.length];exact z,?_⟩);have hf:H1 s1.heap.objs.size=none:=I1.hok.fresh<|bD _;refine⟨.ref s1.heap.objs.size,aH H1 s1.heap.objs.size<|.lst xs,I1.laid (t':=s1.toks) (λb u e=>Z3 _ e) (bD _) ?_,rfl,q _ hf⟩;exact⟨z,us,0,r,Y7 _ rfl⟩
end
noncomputable abbrev Sp:=List V->Hp->VK->XK->Prop
noncomputable abbrev CXT:=List Env->Hp->Shared->XK->Value->Shared->Prop
structure Env0(P:U4)(w:World)(K:Z4)(mg:ZH)(base:Heap)(A:Around)(outer:List Env)(s:Shared)(H:Hp):Prop where
 frames:A.frames=some outer
 mod:Mod K mg base
 bs:∀b o,base.get? b=some o->s.heap.get? b=some o/\H b=none
 bsz:base.objs.size<=s.heap.objs.size
 funs:s.heap.FunFrames base outer
 frf:∀b∈zJ outer,H b=none
 hok:jO P w H s.heap
 bare:AllBare s.gens
noncomputable def CE(outer:List Env)(P:U4)(w:World)(H:Hp)(s:Shared)(Q:VK)(u:Value)(s':Shared):Prop :=
 ∃v H',s'.os=s.os/\AllBare s'.gens/\Un (zJ outer) [] H H' s.heap s'.heap/\jO P w H' s'.heap/\RelV v u/\Q v H'
noncomputable def CR(CX:CXT)(outer:List Env)(P:U4)(w:World)(H:Hp)(s:Shared)(Q:VK)(E:XK)(r:Result)(s':Shared):Prop :=
 match r with
 |.ok (.ret u)=>CE outer P w H s Q u s'
 |.ok _=>False
 |.error e=>CX outer H s E e s'
structure FnOk(P:U4)(w:World)(K:Z4)(mg:ZH)(base:Heap)(CX:CXT)(k:Nat)(f:Addr)(fd:FuncData)(ps:ZF)(sp:Sp):Prop where
 len:∀vs H Q E,sp vs H Q E->vs.length=ps.length
 run:∀(A:Around) (outer:List Env) (s:Shared) (H:Hp) (args:Args) (us:ZK) (vs:List V) (Q:VK) (E:XK),Room k A->Env0 P w K mg base A outer s H->BindsTo s fd args (ps.zip us)->aP vs us->sp vs H Q E ->
  codeAny (model P w) A (.call (.ref f) args) (CR CX outer P w H s Q E) s
theorem Env0.make{K:Z4}{mg:ZH}(e:Env0 P w K mg base A outer s H)(C:Addr)(us:ZK)(kw:Zb):
  Env0 P w K mg base (A.under<|.builtin "type.__call__" ⟨.ref C ::us,kw⟩) outer s H:=⟨by first|exact e.frames|(simpa [Around.under,Code.envs,Code.isFrame,pushEnvs] using e.frames),e.mod,e.bs,e.bsz,e.funs,e.frf,e.hok,e.bare⟩
section
variable {X:Cx}{ZY:ZJ}{σ:St}{H:Hp}{s s':Shared}
theorem Inv.env0(I:Inv X ZY σ H s):Env0 X.prog X.w X.K X.mg X.base X.A X.stack s H :=
 ⟨I.ok.frames,I.ok.mod,I.bs,b8 I.ok.bsz I.sz,I.stack,I.stkFree,I.hok,I.bare⟩
theorem Inv.after(I:Inv X ZY σ H s)(h:CE X.stack X.prog X.w H s Q u s'):EP X ZY σ Q u s':=by refine ik h λv H' os bare un hok r q=>?_;obtain⟨hh,g,d,t,os'⟩:=s';obtain rfl:os'=s.os:=os;exact⟨v,H',I.call (h':=hh) (g':=g) (d':=d) (t':=t) (ch:=[]) un hok bare λb z=>absurd z (by simp),r,q⟩
end
def sS(sp:Sp)(dvs:List V)(E:XK)(t:TA):TE:=λσ H Q=>t σ H λvs H1=>sp (vs++dvs) H1 Q E
def qc(C:Addr)(m:Str)(sp:Sp)(dvs:List V)(E:XK)(ta:TE)(t:TA):TE:=λσ H Q=>ta σ H λx H1=>∃a dx fs,x=.ref a/\H1 a=some (.ins C dx fs)/\fs.lookup m=none /\
 t σ H1 λvs H2=>sp (x ::(vs++dvs)) H2 Q E
def wI(C:Addr)(sp:Sp)(dvs:List V)(E:XK)(t:TA):TE:=λσ H Q=>t σ H λvs H1=>∀x dx,H1 x=none->H1 dx=none->dx≠x ->
 sp (.ref x ::(vs++dvs)) (aH (aH H1 dx<|.own x) x<|.ins C dx []) (λv H2=>v=.non/\Q (.ref x) H2) E
noncomputable def Binds(K:Z4)(fd:FuncData)(ps:ZF)(ds:ZK):Prop :=
 ∀(s:Shared) (us:ZK),K.In s.heap->(us++ds).length=ps.length->BindsTo s fd ⟨us,[]⟩ (ps.zip<|us++ds)
theorem Binds.all{K:Z4}(h:∀us:List Value,us.length=ps.length->bindArgs fd ⟨us,[]⟩=pure (ps.zip us)):Binds K fd ps []:=λs us x hl=>by rw[V8]at hl ⊢;exact .of_eq<|h us hl
def kZ(CX:CXT)(X:Cx)(E:XK):Prop:=∀(ZY:ZJ) (σ:St) (H:Hp) (s:Shared) (e:Value) (s':Shared),Inv X ZY σ H s->CX X.stack H s E e s'->X.xe e s'
section
variable {X:Cx}{CX:CXT}{k:Nat}{f C:Addr}{fd:FuncData}{ps:ZF}{sp:Sp}{dvs:List V}{ds:ZK}{E:XK}{x m:Str}{p pos apos:Pos}{e o:Expr}{es:List Expr}{ta:TE}{t:TA}
theorem A2{σ:St}(F:FnOk X.prog X.w X.K X.mg X.base CX k f fd ps sp)(hr:Room k X.A)(hb:Binds X.K fd ps ds)(hd:aP dvs ds)(hx:kZ CX X E)(I:Inv X ZY σ H s)(r:aP vs us)(h:sp (vs++dvs) H Q E):wpAny (model X.prog X.w) X.A (call (.ref f) us) (EP X ZY σ Q) X.xe s:=by
 have r2:aP (vs++dvs) (us++ds):=r.append hd;have hl:(us++ds).length=ps.length:=by rw[<- r2.length];exact F.len _ _ _ _ h
 refine wpAny_call (codeAny_mono (F.run X.A X.stack s H ⟨us,[]⟩ (us++ds) (vs++dvs) Q E hr I.env0 (hb s us I.kIn hl) r2 h) λr s' hq=>?_);cases r with
 |error e=>exact hx ZY σ H s e s' I hq
 |ok fl =>
  cases fl with
  |ret u=>exact I.after hq
  |next=>exact M0 hq
  |brk=>exact M0 hq
  |cont=>exact M0 hq
theorem pe_call(F:FnOk X.prog X.w X.K X.mg X.base CX k f fd ps sp)(hr:Room k X.A)(hg:Gl X x)(hm:X.mg x=some (.ref f))(hk:R3 X.K (.ref f)=true)(hb:Binds X.K fd ps ds)(hd:aP dvs ds)(hx:kZ CX X E)(ha:PA X (e ::es) t)(hdb:autoParam ((x==("__debug__":Str))=false) L2.ir._auto_1)(he:autoParam (V6 (e ::es) X.env=(false,eval e X.env) ::V6 es X.env) L2.eX._auto_1)(hpl:autoParam ((backTo pos<|V6 es X.env).any (·.1)=false) L2.eX._auto_1):
  PE X (.Call (.Name x p) (e ::es) [] pos) (sS sp dvs E t):=by
 intro ZY s σ H Q I h;refine J2<|wz I hg hm ?_ hdb;refine PySem.W.callWith_K (h₀:=X.base) I.ok.mod.kin hk (bM (ha pos ZY s σ H _ I h) λus s1 zq=>ay zq λvs H1 I1 r q=>⟨I1.kIn,?_⟩) he hpl;exact A2 F hr hb hd hx I1 r q
theorem pe_meth{pl:Sem Bool}(he:PE X o ta)(c:Cls X.K C)(hm:Meth X.K C m f)(F:FnOk X.prog X.w X.K X.mg X.base CX k f fd ps sp)(hr:Room k X.A)(hb:Binds X.K fd ps ds)(hd:aP dvs ds)(hx:kZ CX X E)(ha:PA X (e ::es) t)(hst:autoParam (V6 (e ::es) X.env=(false,eval e X.env) ::V6 es X.env) L2.eX._auto_1)(hpl:autoParam ((backTo pos<|V6 es X.env).any (·.1)=false) L2.eX._auto_1)(ht:eval (.Call (.Attribute o m apos) (e ::es) [] pos) X.env=(do
   let ov <- eval o X.env
   standAt apos.atName
   let (f,first) <- holding [ov] (getMethod ov m pl)
   callWith pos f first (backTo pos<|V6 (e ::es) X.env) (backToKw pos<|keywordEach [] X.env)):=by rfl):
  PE X (.Call (.Attribute o m apos) (e ::es) [] pos) (qc C m sp dvs E ta t):=by
 intro ZY s σ H Q I h;refine PySem.W.methodCall_KW (pl:=pl) (bM (he ZY s σ H _ I h) λu s1 zq=>ay zq λx H1 I1 rx zz=>dh zz λa dx fs ex ea l q=>?_) ht;subst ex;obtain rfl:u=U3 a:=rx;refine v0 I1 ea c hm l ?_;refine PySem.W.callWith_K (first:=[.ref a]) (h₀:=X.base) I.ok.mod.kin hm.kp (bM (ha pos ZY s1 σ H1 _ I1 q) λus s2 zq=>ay zq λvs H2 I2 r q2=>⟨I2.kIn,?_⟩) hst hpl;exact A2 (us:=.ref a ::us) (vs:=.ref a ::vs) F hr hb hd hx I2 (.cons rfl r) q2
structure Mk(K:Z4)(C f:Addr):Prop where
 makes:PySem.W.makesIn K C=true
 init:Q3 K (.ref C) "__init__"=some (some<|.ref f)
 fn:PySem.W.isFn K (.ref f)=true
 kp:R3 K (.ref C)=true
theorem A3{σ:St}(M:Mk X.K C f)(F:FnOk X.prog X.w X.K X.mg X.base CX k f fd ps sp)(hr:Room (k+1) X.A)(hb:Binds X.K fd ps ds)(hd:aP dvs ds)(hx:kZ CX X E)(I:Inv X ZY σ H s)(r:aP vs us)(h:∀x dx,H x=none->H dx=none->dx≠x->sp (.ref x ::(vs++dvs)) (aH (aH H dx<|.own x) x<|.ins C dx []) (λv H2=>v=.non/\Q (.ref x) H2) E):
  wpAny (model X.prog X.w) X.A (call (.ref C) us) (EP X ZY σ Q) X.xe s:=by
 have hq:=h (s.heap.objs.size+1) s.heap.objs.size (I.hok.fresh<|P3 _) (I.hok.fresh<|bD _)<|dH<|W5 _;have I2:=Inv.made (C:=C) I;have r2:aP (V.ref (s.heap.objs.size+1) ::(vs++dvs)) (U3 (s.heap.objs.size+1) ::(us++ds)):=.cons rfl<|r.append hd;have hl:(U3 (s.heap.objs.size+1) ::us++ds).length=ps.length:=by have e:=r2.length;rw[F.len _ _ _ _ hq]at e;exact e.symm
 refine wpAny_call (A1 (f:=f) I.kIn M.makes M.init (beq_iff_eq.mp M.fn) (codeAny_mono (F.run _ X.stack _ _ ⟨U3 (s.heap.objs.size+1) ::us,[]⟩ (U3 (s.heap.objs.size+1) ::(us++ds)) _ _ E (hr.make C us [])
  (I2.env0.make C us []) (hb _ (U3 (s.heap.objs.size+1) ::us) I2.kIn hl) r2 hq) λr s' hq'=>?_))
 cases r with
 |error e=>exact hx ZY σ _ _ e s' I2 hq'
 |ok fl =>
  cases fl with
  |ret u =>refine fL (I2.after hq') λv H' I3 rv ev q3=>?_;subst ev;exact⟨rv,⟨V.ref<|s.heap.objs.size+1,H',I3,rfl,q3⟩⟩
  |next=>exact M0 hq'
  |brk=>exact M0 hq'
  |cont=>exact M0 hq'
theorem pe_make(M:Mk X.K C f)(F:FnOk X.prog X.w X.K X.mg X.base CX k f fd ps sp)(hr:Room (k+1) X.A)(hg:Gl X x)(hm:X.mg x=some (.ref C))(hb:Binds X.K fd ps ds)(hd:aP dvs ds)(hx:kZ CX X E)(ha:PA X (e ::es) t)(hdb:autoParam ((x==("__debug__":Str))=false) L2.ir._auto_1)(he:autoParam (V6 (e ::es) X.env=(false,eval e X.env) ::V6 es X.env) L2.eX._auto_1)(hpl:autoParam ((backTo pos<|V6 es X.env).any (·.1)=false) L2.eX._auto_1):
  PE X (.Call (.Name x p) (e ::es) [] pos) (wI C sp dvs E t):=by
 intro ZY s σ H Q I h;refine J2<|wz I hg hm ?_ hdb;refine PySem.W.callWith_K (h₀:=X.base) I.ok.mod.kin M.kp (bM (ha pos ZY s σ H _ I h) λus s1 zq=>ay zq λvs H1 I1 r q=>⟨I1.kIn,?_⟩) he hpl;exact A3 M F hr hb hd hx I1 r q
end
structure FnScope(N P:ZF)(sc:Scope):Prop where
 kind:sc.kind=.function
 co:sc.isCoroutine=false
 gen:sc.isGenerator=false
 nd:N.Nodup
 pre:N.take P.length=P
 par:∀x∈P,sc.names.lookup x=some .local\/sc.names.lookup x=some .cell
 nofree:∀y∈sc.names,y.2≠.free
theorem yu{kindOf:Str->Option K0}:∀{binds:Zb} {m:ZH},(∀v,(x,v)∉binds)->bindL kindOf binds m x=m x:=by
 intro binds;induction binds with
 |nil=>exact λa=>rfl
 |cons y r ih =>intro m h;cases y with|mk n v=>?_;unfold bindL;rw[ih λw hw=>h w<|W4 _ hw];have e:x≠n:=λz=>h v<|z▸V1;split<;>first|rfl|exact if_neg e
theorem yv{kindOf:Str->Option K0}:∀{binds:Zb} {m:ZH},(∀v,(x,v)∉binds)->bindC kindOf binds m x=m x:=by
 intro binds;induction binds with
 |nil=>exact λa=>rfl
 |cons y r ih =>intro m h;cases y with|mk n v=>?_;unfold bindC;rw[ih λw hw=>h w<|W4 _ hw];have e:x≠n:=λz=>h v<|z▸V1;split<;>first|rfl|exact if_neg e
theorem yw{kindOf:Str->Option K0}:∀{P:ZF} {vs:ZK} {i:Nat} {m:ZH},P.Nodup->P[i]?=some x->vs[i]?=some v->kindOf x=some .local ->
  bindL kindOf (P.zip vs) m x=some v:=by
 intro P;induction P with
 |nil=>exact λa h=>nomatch h
 |cons p P ih =>
  intro vs i m nd h1 h2 hk;cases vs with|nil=>exact nomatch h2|cons w vs=>?_;show bindL kindOf ((p,w) ::P.zip vs) m x=_;unfold bindL;cases i with
  |zero =>have e1:p=x:=Z8 h1;rw[<- e1,yu λv hv=>(List.nodup_cons.mp nd).1 (List.of_mem_zip hv).1,if_pos (e1▸hk)];exact(if_pos rfl).trans h2
  |succ i=>exact ih (i:=i) (List.nodup_cons.mp nd).2 h1 h2 hk
theorem yx{kindOf:Str->Option K0}:∀{P:ZF} {vs:ZK} {i:Nat} {m:ZH},P.Nodup->P[i]?=some x->vs[i]?=some v->kindOf x≠some .local ->
  bindC kindOf (P.zip vs) m x=some v:=by
 intro P;induction P with
 |nil=>exact λa h=>nomatch h
 |cons p P ih =>
  intro vs i m nd h1 h2 hk;cases vs with|nil=>exact nomatch h2|cons w vs=>?_;show bindC kindOf ((p,w) ::P.zip vs) m x=_;unfold bindC;cases i with
  |zero =>have e1:p=x:=Z8 h1;rw[<- e1,yv λv hv=>(List.nodup_cons.mp nd).1 (List.of_mem_zip hv).1,if_neg (e1▸hk)];exact(if_pos rfl).trans h2
  |succ i=>exact ih (i:=i) (List.nodup_cons.mp nd).2 h1 h2 hk
noncomputable def start(N:ZF)(vs:List V):St:=vs.map some++T8 (N.length-vs.length) none
noncomputable def me(CX:CXT)(P:U4)(w:World)(K:Z4)(mg:ZH)(base:Heap)(N:ZF)(qual:Str)(scope:Scope)(f:Addr)(cd:Value)(A:Around)(outer:List Env)(s:Shared)(H:Hp)(E:XK):Cx where
 prog:=P
 w:=w
 K:=K
 mg:=mg
 base:=base
 A:=A.deeper (envOfC qual scope s.heap.objs.size f cd)
 N:=N
 s₀:=s
 H₀:=H
 env:=envOfC qual scope s.heap.objs.size f cd
 outer:=outer
 stack:=envOfC qual scope s.heap.objs.size f cd ::outer
 ex:=[]
 calm:=true
 fn:=λx=>true
 pn:=[]
 xe:=λe s'=>wpAny (model P w) (A.deeper<|envOfC qual scope s.heap.objs.size f cd) (leaving (envOfC qual scope s.heap.objs.size f cd) e) (λx s''=>CX outer H s E e s'') (λe' s''=>CX outer H s E e' s'') s'
theorem sT{sc:Scope}(h:sc.names.lookup x=some .cell):∃c,(cellsFrom n sc.names []).lookup x=some c:=by have q:=PySem.W.cellsFrom_some sc.names n []<|.inl h;exact Option.isSome_iff_exists.mp q
theorem yy{K:Z4}{mg:ZH}(S:FnScope N ps scope)(hd:A.handled=none)(e0:Env0 P w K mg base A outer s H)(hl:vs.length=ps.length)(r:aP vs us)(x:InCallC s s.heap.objs.size (bindL (envOfC qual scope s.heap.objs.size f cd).kindOf (ps.zip us) λt=>none) (cellsFrom (s.heap.objs.size+1) scope.names []) (bindC (envOfC qual scope s.heap.objs.size f cd).kindOf (ps.zip us) λt=>none) s1):
  Inv (me CX P w K mg base N qual scope f cd A outer s H E) [] (start N vs) H s1:=by
 have hpl:ps.length<=N.length:=by have:=congrArg List.length S.pre;rw[S6]at this;lia
 refine bv x.done λh1 tk ZV hk=>?_;subst ZV;have noA:∀b:Addr,b∉(me CX P w K mg base N qual scope f cd A outer s H E).ex:=λb z=>absurd (show b∈([]:List Addr) from z) (by simp);refine⟨⟨e0.mod,S.kind,rfl,rfl,bD _,λy z c h1 h2=>?_,λy hy=>?_,λy c t h=>?_,λt=>hd,Around.frames_deeper e0.frames,.inr ⟨rfl,rfl⟩,λb z=>absurd z<|noA b,e0.bs,e0.bsz,λb t t=>noA b,λb z=>absurd z<|noA b,e0.funs,e0.frf⟩,
  rfl,e0.bare,Un.kept hk,⟨_,x.toInCall.ns,λi y v h1 h2 h3=>?_⟩,λy c h=>⟨_,x.cell y c h⟩,e0.hok.fresh<|bD _,λy c h=>?_,λp hp=>absurd (show p∈([]:List (Addr×Obj)) from hp) (by simp),e0.hok.kept hk,?_⟩
 ·exact name_of_addr x.apart (Q8 h1)<|Q8 h2
 ·have hy:scope.names.lookup y=some .cell\/scope.names.lookup y=some .free:=hy;rcases hy with hy|hy
  ·exact sT hy
  ·exact absurd rfl<|S.nofree _<|Q8 hy
 ·exact cT<|x.above y c<|Q8 h
 ·have hi:i<vs.length:=by
   unfold start at h2;by_cases hi:i<vs.length
   ·exact hi
   ·rw[Y6 (by simpa using hi)]at h2;rw[List.getElem?_replicate]at h2;split at h2<;>cases h2
  have ha:vs[i]?=some v:=by
   unfold start at h2;rw[X5 (by simpa using hi),X2]at h2;cases e:vs[i]? with
   |none=>rw[e]at h2;cases h2
   |some a=>rw[e]at h2;cases h2;rfl
  refine aa (r.get ha) λu hu rv=>?_;have hp:ps[i]?=some y:=by rw[<- S.pre,Q0 (by lia)];exact h1
  have ndP:ps.Nodup:=by rw[<- S.pre];exact S.nd.sublist<|List.take_sublist _ _
  refine⟨u,rv,?_⟩;rcases S.par y (U0 hp) with k|k
  ·exact .inl ⟨k,yw ndP hp hu k⟩
  ·refine ao (sT (n:=s.heap.objs.size+1) k) λc e=>?_;refine .inr ⟨.inl k,c,e,?_⟩;have q:=x.cell y c e;rw[yx ndP hp hu (by show scope.names.lookup y≠_;rw[k];decide)]at q;exact q
 ·exact e0.hok.fresh<|cT<|x.above y c<|Q8 h
 ·unfold start;show _=N.length;rw[Y9,Y0,List.length_replicate];lia
theorem fn_of{K:Z4}{mg:ZH}{dV kV doc pm ZP ct oc:Value}(lk:K.lookup f=some ⟨oc,od,.func<|R6 name qual params body scope dV kV doc pm an ZP ct,osl⟩)(hcd:N2 K ZP qual=true)(S:FnScope N ps scope)(len:∀vs H Q E,sp vs H Q E->vs.length=ps.length)(hbody:∀(A:Around) (outer:List Env) (s:Shared) (H:Hp) (vs:List V) (Q:VK) (E:XK),Room k (A.deeper<|envOfC qual scope s.heap.objs.size f ZP)->sp vs H Q E ->
   ∃t,mX (me CX P w K mg base N qual scope f ZP A outer s H E) body t/\t {nx:=λa H'=>Q .non H',rt:=Q} (start N vs) H):
  FnOk P w K mg base CX (k+1) f (R6 name qual params body scope dV kV doc pm an ZP ct) ps sp:=by
 refine⟨len,λA outer s H args us vs Q E hr e0 hb r hsp=>?_⟩;have hl:=len _ _ _ _ hsp;have KX:K.In s.heap:=e0.mod.kin.keeps λb o e=>(e0.bs b o e).1;have lim:s.heap.NoLimit:=e0.mod.nolimit.keeps λb o e=>(e0.bs b o e).1;have hkind:∀y∈ps.zip us,scope.names.lookup y.1=some .local\/(scope.names.lookup y.1=some .cell/\((cellsFrom (s.heap.objs.size+1) scope.names []).lookup y.1).isSome=true):=λ⟨n,v⟩ hy=>by
  rcases S.par n (List.of_mem_zip hy).1 with q|q
  ·exact .inl q
  ·exact .inr ⟨q,PySem.W.cellsFrom_some _ _ _<|.inl q⟩
 refine codeAny_call_function hr.depth (KX _ _ lk) rfl S.co S.gen rfl (PySem.W.codeRec_of KX hcd)<|hb _ _ _ _ ?_;refine wpAny_newFunctionEnv_cells S.kind hkind λenv he s1 x=>?_;subst he;refine⟨lim.keeps x.toInCall.keep,codeAny_func ?_⟩;refine aa (hbody A outer s H vs Q E (hr.deeper _) hsp) λt ht hq=>?_;have I:Inv (me CX P w K mg base N qual scope f ZP A outer s H E) [] (start N vs) H s1:=yy S hr.hd e0 hl r x;refine R0 (ht [] s1 (start N vs) H _ I hq) (λfl s' hs=>?_) λe s' hs=>hs;have fin:∀{σ':St} {H':Hp} {v:V} {u:Value},Inv (me CX P w K mg base N qual scope f ZP A outer s H E) [] σ' H' s'->RelV v u->Q v H'->CE outer P w H s Q u s' :=
  λ{σ' H' v u} J rv q=>⟨v,H',J.os,J.bare,J.base,J.hok,rv,q⟩
 cases fl with
 |ret u =>refine cH hs λv σ' H' J rv q=>?_;exact fin J rv q
 |next =>refine bv hs λσ' H' J q=>?_;exact fin (v:=V.non) (u:=O1) J rfl q
 |brk =>refine bv hs λa a a q=>?_;exact M0 q
 |cont =>refine bv hs λa a a q=>?_;exact M0 q
end L2
namespace L2
open PySem PySem.Spec PyProof.Rows
section
variable {X:Cx}{x:Str}{p pos:Pos}{e:Expr}{es:List Expr}{t:TA}{id T:String}{r:List V->Hp->VK->Prop}
def uP(r:List V->Hp->VK->Prop)(t:TA):TE:=λσ H Q=>t σ H λvs H1=>r vs H1 Q
theorem aI(hc:eN X (.builtin id) r)(hg:Gl X x)(hm:X.mg x=none)(hv:P5 x=some (.builtin id))(ha:PA X (e ::es) t)(hn:autoParam (x≠"__name__") L2.ir._auto_1)(hdb:autoParam ((x==("__debug__":Str))=false) L2.ir._auto_1)(he:autoParam (V6 (e ::es) X.env=(false,eval e X.env) ::V6 es X.env) L2.eX._auto_1)(hpl:autoParam ((backTo pos<|V6 es X.env).any (·.1)=false) L2.eX._auto_1):PE X (.Call (.Name x p) (e ::es) [] pos) (uP r t):=by intro ZY s σ H Q I h;refine J2<|gP I hg hm hv ?_ hn hdb;exact PyProof.Rows.callWith_builtin1 (bM (ha pos ZY s σ H _ I h) λus s1 zq=>ay zq λvs H1 I1 r1 q1=>hc ZY s1 σ H1 vs us Q I1 r1 q1) he hpl
theorem l6(hc:eN X (.type T) r)(hg:Gl X x)(hm:X.mg x=none)(hv:P5 x=some (.type T))(ha:PA X (e ::es) t)(hn:autoParam (x≠"__name__") L2.ir._auto_1)(hdb:autoParam ((x==("__debug__":Str))=false) L2.ir._auto_1)(he:autoParam (V6 (e ::es) X.env=(false,eval e X.env) ::V6 es X.env) L2.eX._auto_1)(hpl:autoParam ((backTo pos<|V6 es X.env).any (·.1)=false) L2.eX._auto_1):PE X (.Call (.Name x p) (e ::es) [] pos) (uP r t):=by intro ZY s σ H Q I h;refine J2<|gP I hg hm hv ?_ hn hdb;exact L5 (bM (ha pos ZY s σ H _ I h) λus s1 zq=>ay zq λvs H1 I1 r1 q1=>hc ZY s1 σ H1 vs us Q I1 r1 q1) he hpl
end
end L2
namespace HT
open PySem PyProof.Rows
noncomputable def lexLt:List Int->List Int->Bool
 |[],[]=>false
 |[],_ ::_=>true
 |_ ::_,[]=>false
 |x ::xs,y ::ys=>if x=y then lexLt xs ys else decide (x<y)
theorem v6(x y:Int)(xs ys:ZL):lexLt (x ::xs) (y ::ys)=if x=y then lexLt xs ys else decide (x<y):=rfl
theorem pj:lexLt [] []=false:=rfl
theorem nk(y:Int)(ys:ZL):lexLt [] (y ::ys)=true:=rfl
theorem nn(x:Int)(xs:ZL):lexLt (x ::xs) []=false:=rfl
theorem nq(A:Around)(s:Shared)(a:Int)(t:Tok)(c:Int)(u:Tok):∃e,S7 A s (.int a t) (.int c u) e/\(e=true↔a=c) :=
 ⟨(a==c),S7.int_int a t c u,by simp⟩
theorem A4(A:Around)(s:Shared)(a:Int)(t:Tok)(c:Int)(u:Tok)(prog:U4)(w:World)(E:ZN)(Q:ZN)(h:Q (.bool<|decide<|a<c) s):
  wpAny (model prog w) A (richCompare .Lt (.int a t)<|.int c u) Q E s :=
 (PyProof.Rows.lt_int h:wpAny (model prog w) A (R9 .Lt (.int a t)<|.int c u) Q E s)
section
open PySem.SeqAt
open PySem.AutoSeq1 (wpAny_loadPart')
open PySem.MeetsSeq PySem.MeetsSeq2 PySem.MeetsSeq3
theorem pA(l b:Addr)(items items2:Zp)(n n2:Nat)(dd dd2:Zr)(sl sl2:Za)(ns ms:ZL)(hi:K6 items.toList ns)(hj:K6 items2.toList ms):
  Meets (R5.«tuple.__lt__» ⟨[.ref l,.ref b],[]⟩)
   (λi R s=>s.heap.get? l=some {cls:=.type "tuple",dict:=dd,data:=.seq items n,slots:=sl}/\s.heap.get? b=some {cls:=.type "tuple",dict:=dd2,data:=.seq items2 n2,slots:=sl2} /\
    R (.ok<|.ret<|.bool<|lexLt ns ms) s) :=
 .of_wp λprog w A R s h=>by
  obtain⟨hp,g,d,tk,os⟩:=s;refine aV h λhl hb h=>?_;have f2:=AutoSeq1.sub_tuple_tuple;have z1:items.size=ns.length:=by rw[<- hi.length];simp
  have z2:items2.size=ms.length:=by rw[<- hj.length];simp
  wp_walk using wpAny_loadPart' hl,wpAny_loadPart' hb,wpAny_forIn_list _ (λrest b s'=>b.1=none/\s'=⟨hp,g,d,tk,os⟩/\∃(vs ws:ZK) (ns' ms':ZL),rest=vs.zip ws /\
   K6 vs ns'/\K6 ws ms'/\ns'.length+items2.size=ms'.length+items.size/\R (.ok<|.ret<|.bool<|lexLt ns' ms') ⟨hp,g,d,tk,os⟩) _
  case turn =>
   rintro⟨y,x⟩ rest b s' ⟨hb',rfl,vs,ws,ns',ms',hz,hvi,hwi,hlen,hR⟩;cases hvi with
   |nil=>rw[List.zip_nil_left]at hz;cases hz
   |cons a t hvi' =>
    cases hwi with
    |nil=>rw[List.zip_nil_right]at hz;cases hz
    |cons c u hwi' =>
     rw[List.zip_cons_cons]at hz;injection hz with hyx hrest;injection hyx with hy hx;subst hy hx;rw[v6]at hR;simp only[V9]at hlen;refine aa (nq A.in1 ⟨hp,g,d,tk,os⟩ a t c u) λe he hiff=>?_;refine Z0<|he prog w _ _ ?_;cases e with
     |true =>
      rw[if_pos (hiff.mp rfl)]at hR
      wp_walk
      exact⟨rfl,rfl,_,_,_,_,hrest,hvi',hwi',by lia,hR⟩
     |false =>
      rw[if_neg λq=>absurd (hiff.mpr q) Z7]at hR;have hri:=A4 A.in1 ⟨hp,g,d,tk,os⟩ a t c u prog w
      wp_walk using hri
      exact⟨_,rfl,by simpa using hR⟩
  case fin =>
   rintro⟨b1,b2⟩ s' ⟨hb',rfl,vs,ws,ns',ms',hz,hvi,hwi,hlen,hR⟩;simp only at hb';subst hb';have hv:lexLt ns' ms'=decide (items.size<items2.size):=by
    cases hvi with
    |nil =>
     cases hwi with
     |nil =>simp only[List.length_nil]at hlen;rw[pj];exact(decide_eq_false (by lia)).symm
     |cons c u hw =>simp only[List.length_nil,V9]at hlen;rw[nk];exact(decide_eq_true (by lia)).symm
    |cons a t hv =>
     cases hwi with
     |nil =>simp only[List.length_nil,V9]at hlen;rw[nn];exact(decide_eq_false (by lia)).symm
     |cons c u hw =>rw[List.zip_cons_cons]at hz;cases hz
   rw[hv]at hR
   wp_walk
   exact⟨_,rfl,by simpa [R5.Tuple.tupleCompareSizes] using hR⟩
  case h =>
   exact⟨rfl,rfl,items.toList,items2.toList,ns,ms,rfl,hi,hj,by lia,h⟩
end
section
variable {prog:U4}{w:World}{A:Around}{E:ZN}{s:Shared}
theorem jw{Q:ZN}(hl:IsTup s.heap l items)(hb:IsTup s.heap b items2)(hi:K6 items.toList ns)(hj:K6 items2.toList ms)(hu:A.units<cLine)(h:Q (.bool<|lexLt ns ms) s):wpAny (model prog w) A (R9 .Lt (.ref l)<|.ref b) Q E s:=by
 obtain⟨⟨cls,dd,data,sl⟩,ho,hc,n,hd⟩:=id hl;obtain⟨⟨cls2,dd2,data2,sl2⟩,ho2,hc2,n2,hd2⟩:=id hb;simp only at hc hd hc2 hd2;subst hc hd hc2 hd2;exact richCompare_meets_room (op:=.Lt) ⟨_,ho,rfl⟩ ⟨_,ho2,rfl⟩ PySem.F.slot_tuple_lt PySem.F.entry_tuple_lt (PySem.F.args_tuple_lt_2 _ _) (pA l b items items2 n n2 dd dd2 sl sl2 ns ms hi hj)
  ⟨ho,ho2,show Value.bool (lexLt ns ms)≠Value.notImplemented/\Q (.bool<|lexLt ns ms) s from ⟨(λx=>nomatch x),h⟩⟩ hu
theorem cat_tup{Q:ZN}(ht:IsTup s.heap t vs.toArray)(hb:IsTup s.heap b ws.toArray)(hv:vs≠[])(h1:ws=[]->Q (.ref t) s)(h2:ws≠[]->Q (.ref s.heap.objs.size) {s with heap:=s.heap.push {cls:=.type "tuple",data:=.seq (vs++ws).toArray}})(hsz:vs.length+ws.length<=W9):wpAny (model prog w) A (binaryOp .Add (.ref t)<|.ref b) Q E s:=by
 obtain⟨⟨cls,dd,data,sl⟩,ho,hc,n,hd⟩:=id ht;obtain⟨⟨cls2,dd2,data2,sl2⟩,ho2,hc2,n2,hd2⟩:=id hb;simp only at hc hd hc2 hd2;subst hc hd hc2 hd2;have e:vs.toArray++ws.toArray=(vs++ws).toArray:=by simp
 by_cases hw:ws=[]
 ·exact concat_meets ⟨_,ho,rfl⟩ ⟨_,ho2,rfl⟩ noFill_tuple_add seq_tuple_add PySem.F.slot_tuple_add PySem.F.entry_tuple_add (PySem.F.args_tuple_add_2 _ _)
   (tuple_addW1 t b vs.toArray ws.toArray n n2 dd dd2 sl sl2 (by simpa using hv) (by simp[hw])) ⟨ho,ho2,h1 hw⟩
 ·refine concat_meets ⟨_,ho,rfl⟩ ⟨_,ho2,rfl⟩ noFill_tuple_add seq_tuple_add PySem.F.slot_tuple_add PySem.F.entry_tuple_add (PySem.F.args_tuple_add_2 _ _)
   (tuple_addW2 t b vs.toArray ws.toArray n n2 dd dd2 sl sl2 (by simpa using hv) (by simpa using hw) (by rw[X1,X1];exact hsz)) ⟨ho,ho2,?_⟩
  rw[e];exact h2 hw
noncomputable def qd(n d:Nat):Option Int->Nat
 |none=>d
 |some v=>if v<0 then (v+(n:Int)).toNat else min v.toNat n
theorem A5(n d:Nat):qd n d none=d:=rfl
theorem qJ(n d k:Nat):qd n d (some (k:Int))=min k n:=by show (if (k:Int)<0 then ((k:Int)+(n:Int)).toNat else min (k:Int).toNat n)=min k n;rw[if_neg (by lia),V3]
end
end HT
namespace L2
open PySem PySem.Spec PyProof.Rows
noncomputable abbrev TO:=St->Hp->(Option Int->Hp->Prop)->Prop
noncomputable def PO(X:Cx)(e:Option Expr)(t:TO):Prop :=
 ∀(ZY:ZJ) (s:Shared) (σ:St) (H:Hp) (Q:Option Int->Hp->Prop),Inv X ZY σ H s->t σ H Q ->
  wpAny (model X.prog X.w) X.A (evalPart e X.env) (λu s'=>∃o H',Inv X ZY σ H' s'/\IsPart u o/\Q o H') X.xe s
def wJ:TO:=λx H Q=>Q none H
def tPart(t:TE):TO:=λσ H Q=>t σ H λx H1=>∃i,x=.int i/\Q (some i) H1
theorem intsAre_of:∀{us:ZK},aP (ns.map V.int) us->K6 us ns:=by
 induction ns with
 |nil=>intro us r;rw[List.map_nil]at r;cases r;exact .nil
 |cons n ns ih =>
  intro us r;rw[W7]at r;cases r with
  |cons r1 r2 =>refine ao r1 λt e=>?_;subst e;exact .cons n t<|ih r2
section
variable {X:Cx}{e:Expr}{te:TE}{lo hi:Option Expr}{tl th:TO}{pos p2:Pos}
theorem po_none:PO X none wJ:=by intro ZY s σ H Q I h;rw[evalPart_none];exact Z5 ⟨none,H,I,.none,h⟩
theorem jU(h:PE X e te):PO X (some e) (tPart te):=by intro ZY s σ H Q I hw;rw[evalPart_some];refine bM (h ZY s σ H _ I hw) λu s1 zq=>ay zq λx H1 I1 r1 q1=>?_;refine aa q1 λi ZW q=>?_;subst ZW;refine ao r1 λt ZW=>?_;subst ZW;exact⟨some i,H1,I1,.int i t,q⟩
noncomputable def SlR(X:Cx)(r:V->Option Int->Option Int->Hp->VK->Prop):Prop :=
 ∀(ZY:ZJ) (s:Shared) (σ:St) (H:Hp) (x:V) (v vl vu:Value) (lo hi:ZC) (sl:Addr) (Q:VK),Inv X ZY σ H s->RelV x v->s.heap.IsSliceOf sl vl vu .none->IsPart vl lo->IsPart vu hi->r x lo hi H Q ->
  ∃T id,typeLookup (.type T) "__getitem__"=pure (some<|.builtin id)/\s.TypeIs v T/\wpAny (model X.prog X.w) X.A (getItem v<|.ref sl) (EP X ZY σ Q) X.xe s
def tSl(r:V->Option Int->Option Int->Hp->VK->Prop)(te:TE)(tl th:TO):TE:=λσ H Q=>te σ H λx H1=>tl σ H1 λl H2=>th σ H2 λu H3=>r x l u H3 Q
theorem nr{r:V->Option Int->Option Int->Hp->VK->Prop}(hr:SlR X r)(he:PE X e te)(hl:PO X lo tl)(hu:PO X hi th):PE X (.Subscript e (.Slice lo hi none p2) pos) (tSl r te tl th):=by intro ZY s σ H Q I h;refine Subscript_ (bM (he ZY s σ H _ I h) λv s1 zq=>ay zq λx H1 I1 r1 q1=>?_);refine wpAny_Slice (bM (hl ZY s1 σ H1 _ I1 q1) λvl s2 zq=>ay zq λl H2 I2 pl q2=>bM (hu ZY s2 σ H2 _ I2 q2) λvu s3 zq=>ay zq λu H3 I3 pu q3=>?_);rw[evalPart_none];refine Z5 ?_;have I4:Inv X ZY σ H3 {s3 with heap:=s3.heap.push {cls:=.type "slice",data:=.fields #[vl,vu,.none]}}:=I3.kept (t':=s3.toks) λb ob q=>Z3 _ q;refine ay (hr ZY {s3 with heap:=s3.heap.push {cls:=.type "slice",data:=.fields #[vl,vu,.none]}} σ H3 x v vl vu l u s3.heap.objs.size Q I4 r1 (Heap.IsSliceOf.new ..) pl pu q3) λT id hT ht hg=>?_;show wpAny (model X.prog X.w) X.A (subscriptTail e (.Slice lo hi none p2) v<|.ref s3.heap.objs.size) (EP X ZY σ Q) X.xe {s3 with heap:=s3.heap.push {cls:=.type "slice",data:=.fields #[vl,vu,.none]}};exact tail_any (ops:=[.ref s3.heap.objs.size,v]) ht hT hg (by with_unfolding_all rfl)
noncomputable def yz(xs:List V)(lo hi:ZC):List V:=(xs.drop<|HT.qd xs.length 0 lo).take (HT.qd xs.length xs.length hi-HT.qd xs.length 0 lo)
theorem sU(xs:List V)(lo hi:ZC):(yz xs lo hi).length<=xs.length:=by unfold yz;rw[S6,J3];omega
noncomputable def rLtT(K:Z4):R2:=λx y H Q=>∃a b ns ms,x=.ref a/\y=.ref b/\j5 K H a (ns.map V.int)/\j5 K H b (ms.map V.int)/\Q (.bl<|HT.lexLt ns ms) H
theorem op_ltT(hu:X.A.units<cLine):jh X (R9 .Lt) (rLtT X.K):=by intro ZY s σ H x y v u Q I rx ry h;refine iq h λa b ns ms ZT ZS ha hb q=>?_;subst ZT;subst ZS;cases rx;cases ry;refine aE (I.tuple ha) λits r1 p1 a=>?_;refine aE (I.tuple hb) λits2 r2 p2 a=>?_;have i1:K6 its.toArray.toList ns:=intsAre_of r1;have i2:K6 its2.toArray.toList ms:=intsAre_of r2;exact HT.jw p1 p2 i1 i2 hu ⟨.bl<|HT.lexLt ns ms,H,I,rfl,q⟩
noncomputable def wK(K:Z4):R2:=λx y H Q=>∃a b xs ys,x=.ref a/\y=.ref b/\j5 K H a xs/\j5 K H b ys/\xs≠[]/\xs.length+ys.length<=W9 /\
 (ys=[]->Q (.ref a) H)/\(ys≠[]->∀p,H p=none->Q (.ref p) (aH H p<|.tup<|xs++ys))
theorem aP.nil_iff(r:aP xs us):us=[]↔xs=[]:=by
 cases r with
 |nil=>simp
 |cons _ _=>simp
theorem op_catT:jh X (binaryOp .Add) (wK X.K):=by intro ZY s σ H x y v u Q I rx ry h;refine gu h λa b xs zy0=>ig zy0 λys ZT ZS ha hb zy1=>jt zy1 λhx hz q1 q2=> ?_;subst ZT;subst ZS;cases rx;cases ry;refine aE (I.tuple ha) λits r1 p1 c=>?_;refine aE (I.tuple hb) λits2 r2 p2 c=>?_;refine HT.cat_tup p1 p2 (λz=>hx<|r1.nil_iff.mp z) (λz=>⟨.ref a,H,I,rfl,q1<|r2.nil_iff.mp z⟩) (λz=>?_) (by rw[<- r1.length,<- r2.length];exact hz);refine⟨.ref s.heap.objs.size,_,I.laid (t':=s.toks) (o:=.tup<|xs++ys) (λb ob q=>Z3 _ q) (bD _) ?_,rfl,q2 (λw=>z<|r2.nil_iff.mpr w) _<|I.hok.fresh<|bD _⟩;exact⟨by rw[Y9];exact hz,_,r1.append r2,IsTup.new _ _⟩
end
end L2
namespace L2
open PySem PySem.Spec PyProof.Rows
noncomputable def yA(n:Nat)(i:Int):Option Nat:=if 0<=i then (if i<n then some i.toNat else none) else if -(n:Int)<=i then some (i+n).toNat else none
noncomputable def Cb{α:Type}(xs:List α)(i:Int):Option α:=(yA xs.length i).bind λj=>xs[j]?
theorem wL(h:yA n i=some j):seqIndex? i n=some j/\j<n/\-(n:Int)<=i/\i<n:=by
 unfold yA at h;by_cases h0:0<=i
 ·rw[if_pos h0]at h;by_cases h1:i<n
  ·rw[if_pos h1]at h;have e:i.toNat=j:=Z8 h;exact⟨by rw[seqIndex_of h0 h1,e],by lia,by lia,h1⟩
  ·rw[if_neg h1]at h;cases h
 ·rw[if_neg h0]at h;by_cases h1:-(n:Int)<=i
  ·rw[if_pos h1]at h;have e:(i+n).toNat=j:=Z8 h;exact⟨by rw[seqIndex_neg (by lia) h1,e],by lia,h1,by lia⟩
  ·rw[if_neg h1]at h;cases h
theorem wM{α:Type}{xs:List α}{v:α}(h:Cb xs i=some v):∃j,seqIndex? i xs.length=some j/\xs[j]?=some v/\j<xs.length/\-(xs.length:Int)<=i/\i<xs.length:=by
 unfold Cb at h;cases e:yA xs.length i with
 |none=>rw[e]at h;cases h
 |some j =>rw[e]at h;refine jt (wL e) λh1 h2 h3 h4=>?_;exact⟨j,h1,h,h2,h3,h4⟩
def PlainIx(b:Expr):Prop:=∀o i,subscripted b false o i=operate [o,i] (getItem o i)
noncomputable def IxR(X:Cx)(r:R2):Prop :=
 ∀(value slice:Expr) (ZY:ZJ) (s:Shared) (σ:St) (H:Hp) (x y:V) (v u:Value) (Q:VK),Inv X ZY σ H s->RelV x v->RelV y u->r x y H Q ->
  subscripted slice false v u=operate [v,u] (getItem v u)->wpAny (model X.prog X.w) X.A (subscriptTail value slice v u) (EP X ZY σ Q) X.xe s
noncomputable def MtR(X:Cx)(id:String)(r:V->List V->Hp->VK->Prop):Prop :=
 ∀(ZY:ZJ) (s:Shared) (σ:St) (H:Hp) (x:V) (xs:List V) (v:Value) (us:ZK) (Q:VK),Inv X ZY σ H s->RelV x v->aP xs us->r x xs H Q ->
  wpAny (model X.prog X.w) X.A (call (.builtin id) (v ::us)) (EP X ZY σ Q) X.xe s
section
variable {X:Cx}{a b:Expr}{ta tb:TE}{pos:Pos}
theorem aS(hr:IxR X r)(ha:PE X a ta)(hb:PE X b tb)(hs:PlainIx b):PE X (.Subscript a b pos) (gT r ta tb):=by intro ZY s σ H Q I h;exact Subscript_ (binT ha hb I h λv u s2 x y H2 I2 rx ry q=>hr a b ZY s2 σ H2 x y v u Q I2 rx ry q<|hs _ _)
noncomputable def rIxL(K:Z4):R2:=λx y H Q=>∃p xs i v,x=.ref p/\y=.int i/\fm K H p xs/\Cb xs i=some v/\Q v H
noncomputable def qK(K:Z4):R2:=λx y H Q=>∃p xs i v,x=.ref p/\y=.int i/\j5 K H p xs/\Cb xs i=some v/\Q v H
theorem ix_list:IxR X (rIxL X.K):=by
 intro value slice ZY s σ H x y v u Q I rx ry h hs;refine iq h λp xs i z ZT ZS hq he q=>?_;subst ZT;subst ZS;cases rx;refine ao ry λt ZW=>?_;subst ZW;refine aE (I.list hq) λits r pl hz=>?_;refine ig (wM he) λj h1 h2 h3 h4 h5=>?_;refine aa (r.get h2) λw ew rw'=>?_;have hl:=r.length;have hn:=ng;have fin:EP X ZY σ Q w s:=⟨z,H,I,rw',q⟩;by_cases h0:0<=i
 ·have hj:i.toNat=j:=by rw[seqIndex_of h0 h5]at h1;exact Z8 h1
  exact item_listR pl.isList h0 (by lia) (by rw[hj];simpa using ew) fin hs
 ·have hj:(i+(its.toArray.size:Int)).toNat=j:=by rw[seqIndex_neg (by lia) h4]at h1;rw[X1,<- hl];exact Z8 h1
  exact subscriptTail_builtinR (x:=w) pl.isList.typeIs slot_list_getitem.lookup
   (wpAny_getItem_list_neg (Q:=λr s'=>r=w/\EP X ZY σ Q r s') pl.isList (by lia) (by rw[X1]<;>lia) (by lia) (by rw[hj];simpa using ew) ⟨rfl,fin⟩) hs
theorem ix_tup:IxR X (qK X.K):=by
 intro value slice ZY s σ H x y v u Q I rx ry h hs;refine iq h λp xs i z ZT ZS hq he q=>?_;subst ZT;subst ZS;cases rx;refine ao ry λt ZW=>?_;subst ZW;refine aE (I.tuple hq) λits r pl hz=>?_;refine ig (wM he) λj h1 h2 h3 h4 h5=>?_;refine aa (r.get h2) λw ew rw'=>?_;have hl:=r.length;have hn:=ng;have fin:EP X ZY σ Q w s:=⟨z,H,I,rw',q⟩;exact subscriptTail_builtinR (x:=w) pl.typeIs slot_tuple_getitem.lookup
  (getItem_tuple (j:=j) (Q:=λr s'=>r=w/\EP X ZY σ Q r s') pl (by lia) (by lia) (by rw[X1,<- hl];exact h1) (by simpa using ew) ⟨rfl,fin⟩) hs
theorem v7(its:ZK)(n j:Nat)(u:Value):X6 (·.setIfInBounds j u) {cls:=.type "list",data:=.seq its.toArray n}={cls:=.type "list",data:=.seq (its.set j u).toArray n}:=by simp[X6]
theorem Inv.lst{σ:St}(I:Inv X ZY σ H s)(h:H p=some (.lst xs)):
  ∃(its:ZK) (n:Nat),aP xs its/\s.heap.get? p=some {cls:=.type "list",data:=.seq its.toArray n}/\xs.length<=W9:=by
 refine ax (I.hok p _ h) λz zz=>bv zz λits n r e=>?_;exact⟨its,n,r,e,z⟩
theorem Inv.lstUpd{σ:St}{its its':ZK}{f:Obj->Obj}(I:Inv X ZY σ H s)(h:H p=some (.lst xs))(ho:s.heap.get? p=some {cls:=.type "list",data:=.seq its.toArray n})(hf:f {cls:=.type "list",data:=.seq its.toArray n}={cls:=.type "list",data:=.seq its'.toArray n'})(r:aP ys its')(hz:ys.length<=W9)(t:Nat):
  Inv X ZY σ (aH H p<|.lst ys) {s with heap:=s.heap.update p f,toks:=t}:=by
 have e:(s.heap.update p f).get? p=some {cls:=.type "list",data:=.seq its'.toArray n'}:=by rw[Q5 f ho (by rw[hf]<;>rfl),hf]
 refine I.write (x:=p) (e:=p) (by rw[h];trivial) (.inl rfl) (λb u hb q=>(Heap.get?_update_other _ _<|R4 hb).trans q) ⟨_,e⟩ ?_;exact⟨hz,its',n',r,e⟩
def rSetL:V->V->V->Hp->(Hp->Prop)->Prop:=λo i v H Q=>∃p xs k j,o=.ref p/\i=.int k/\H p=some (.lst xs)/\yA xs.length k=some j/\Q (aH H p<|.lst<|xs.set j v)
theorem set_list:PSet X rSetL:=by
 intro ZY s σ H o i v ov iv u Q I ro ri rv h;refine iq h λp xs k j ZT ZS hp hj q=>?_;subst ZT;subst ZS;cases ro;refine ao ri λt ZW=>?_;subst ZW;refine ay (I.lst hp) λits n r ho hz=>?_;refine jt (wL hj) λh1 h2 h3 h4=>?_;have hl:=r.length;have hn:=ng;have I':Inv X ZY σ (aH H p<|.lst<|xs.set j v) {s with heap:=s.heap.update p (X6 (·.setIfInBounds j u))} :=
  I.lstUpd hp ho (v7 its n j u) (r.set rv j) (by rw[G8];exact hz) s.toks
 by_cases h0:0<=k
 ·have hk:k.toNat=j:=by rw[seqIndex_of h0 h4]at h1;exact Z8 h1
  exact PySem.W.ki_setAt ho h0 (by lia) (by rw[X1,<- hl];exact h4) (by rw[hk];exact⟨_,I',q⟩)
 ·have hk:(k+(its.toArray.size:Int)).toNat=j:=by rw[seqIndex_neg (by lia) h3]at h1;rw[X1,<- hl];exact Z8 h1
  exact PySem.W.ki_setBack ho (by lia) (by rw[X1,<- hl];exact h3) (by lia) (by rw[hk];exact⟨_,I',q⟩)
theorem qL(lo hi:ZC)(n:Nat):(sliceBounds lo hi none n).1=((HT.qd n 0 lo:Nat):Int)/\(sliceBounds lo hi none n).2.1=((HT.qd n n hi:Nat):Int)/\(sliceBounds lo hi none n).2.2=1:=by
 refine⟨?_,?_,rfl⟩
 ·cases lo with
  |none=>simp[sliceBounds,HT.qd]
  |some i =>
   simp only[sliceBounds,HT.qd,Option.getD_none,show (1:Int) > 0 by decide,if_true];by_cases h:i<0
   ·simp only[h,if_true]<;>lia
   ·simp only[h,if_false]<;>lia
 ·cases hi with
  |none=>simp[sliceBounds,HT.qd]
  |some i =>
   simp only[sliceBounds,HT.qd,Option.getD_none,show (1:Int) > 0 by decide,if_true];by_cases h:i<0
   ·simp only[h,if_true]<;>lia
   ·simp only[h,if_false]<;>lia
theorem pB(its:ZK)(lo hi:ZC):slicePick its.toArray lo hi none=((its.drop<|HT.qd its.length 0 lo).take (HT.qd its.length its.length hi-HT.qd its.length 0 lo)).toArray:=by refine aV (qL lo hi its.toArray.size) λh1 h2 h3=>?_;unfold slicePick;rw[h1,h2,h3];simp only[sliceRange_one,pick_run,X1]<;>rfl
def rSlL(K:Z4):V->Option Int->Option Int->Hp->VK->Prop:=λx lo hi H Q=>∃a xs,x=.ref a/\fm K H a xs/\∀p,H p=none->Q (.ref p) (aH H p<|.lst<|yz xs lo hi)
theorem sl_list:SlR X (rSlL X.K):=by intro ZY s σ H x v vl vu lo hi sl Q I rx hs pl pu h;refine ay h λa xs ZV hx q=>?_;subst ZV;cases rx;refine aE (I.list hx) λits r ht hz=>?_;have hlen:=r.length;refine⟨"list",_,slot_list_getitem.lookup,ht.isList.typeIs,?_⟩;refine wpAny_getItem_list_slice ht.isList hs pl pu .none (by simp) ?_ (by rw[X1]<;>lia);rw[pB,<- hlen];refine⟨.ref s.heap.objs.size,_,I.laid (t':=s.toks) (o:=.lst<|yz xs lo hi) (λb ob q=>Z3 _ q) (bD _) ?_,rfl,q _<|I.hok.fresh<|bD _⟩;exact⟨b8 (sU xs lo hi) hz,_,0,(r.drop<|HT.qd xs.length 0 lo).take (HT.qd xs.length xs.length hi-HT.qd xs.length 0 lo),Y7 _ rfl⟩
noncomputable def jo:V->Bool
 |.non=>true
 |.bl _=>true
 |.int _=>true
 |.str _=>true
 |_=>false
noncomputable def A6:V->V->Bool
 |.non,.non=>true
 |.bl a,.bl b=>a==b
 |.bl a,.int b=>(if a then 1 else 0)==b
 |.int a,.bl b=>a==(if b then 1 else 0)
 |.int a,.int b=>a==b
 |.str a,.str b=>a==b
 |_,_=>false
theorem eqAt_V(ry:RelV y u)(rx:RelV x v)(fy:jo y=true)(fx:jo x=true):S7 A s u v (A6 y x):=by
 cases y with
 |non =>
  cases ry;cases x with
  |non=>cases rx;exact S7.same _
  |bl b=>cases rx;exact S7.none_bool b
  |int b=>refine ao rx λt ZW=>?_;subst ZW;exact S7.none_int b t
  |str b=>refine ao rx λt ZW=>?_;subst ZW;exact S7.none_str b t
  |_=>exact absurd (show false=true from fx) Z7
 |bl a =>
  cases ry;cases x with
  |non=>cases rx;exact S7.bool_none a
  |bl b=>cases rx;exact S7.bool_bool a b
  |int b=>refine ao rx λt ZW=>?_;subst ZW;exact S7.bool_int a b t
  |str b=>refine ao rx λt ZW=>?_;subst ZW;exact S7.bool_str a b t
  |_=>exact absurd (show false=true from fx) Z7
 |int a =>
  refine ao ry λt' ZW=>?_;subst ZW;cases x with
  |non=>cases rx;exact S7.int_none a t'
  |bl b=>cases rx;exact S7.int_bool a t' b
  |int b=>refine ao rx λt ZW=>?_;subst ZW;exact S7.int_int a t' b t
  |str b=>refine ao rx λt ZW=>?_;subst ZW;exact S7.int_str a t' b t
  |_=>exact absurd (show false=true from fx) Z7
 |str a =>
  refine ao ry λt' ZW=>?_;subst ZW;cases x with
  |non=>cases rx;exact S7.str_none a t'
  |bl b=>cases rx;exact S7.str_bool a t' b
  |int b=>refine ao rx λt ZW=>?_;subst ZW;exact S7.str_int a t' b t
  |str b=>refine ao rx λt ZW=>?_;subst ZW;exact S7.str_str a t' b t
  |_=>exact absurd (show false=true from fx) Z7
 |_=>exact absurd (show false=true from fy) Z7
noncomputable def v8(x:V)(u:Value):Bool:=match u with
 |.none=>A6 .non x
 |.bool b=>A6 (.bl b) x
 |.int i _=>A6 (.int i) x
 |.str z _=>A6 (.str z) x
 |_=>false
theorem A7(r:RelV y u)(f:jo y=true):v8 x u=A6 y x:=by
 cases y with
 |non=>cases r;rfl
 |bl b=>cases r;rfl
 |int i=>refine ao r λt ZW=>?_;subst ZW;rfl
 |str z=>refine ao r λt ZW=>?_;subst ZW;rfl
 |_=>exact absurd (show false=true from f) Z7
theorem mF:∀{xs:List V} {us:ZK},aP xs us->xs.all jo=true->us.any (v8 x)=xs.any λy=>A6 y x:=λp f=>by
 induction p with
 |nil=>rfl
 |cons r t ih =>rw[List.all_cons,E6]at f;rw[J4,J4,A7 r f.1,ih f.2]
theorem jV(rx:RelV x v)(fx:jo x=true):∀{xs:List V} {us:ZK},aP xs us->xs.all jo=true->∀u∈us,S7 A s u v (v8 x u):=by
 intro xs us p;induction p with
 |nil=>exact λa u hu=>nomatch hu
 |cons r t ih =>
  intro f u' hu;rw[List.all_cons,E6]at f;rcases Y4.mp hu with z|hu
  ·rw[z,A7 r f.1];exact eqAt_V r rx f.1 fx
  ·exact ih f.2 u' hu
noncomputable def inV(x:V)(xs:List V):Bool:=xs.any λy=>A6 y x
noncomputable def rIn(K:Z4)(neg:Bool):R2:=λx y H Q=>∃p xs,y=.ref p/\(fm K H p xs\/j5 K H p xs)/\jo x=true/\xs.all jo=true/\Q (.bl (if neg then !inV x xs else inV x xs)) H
theorem yB:jh X (R9 .In) (rIn X.K false):=by
 intro ZY s σ H x y v u Q I rx ry h;refine fk h λp xs ZV hq fx fs q=>?_;subst ZV;cases ry;rcases hq with hq|hq
 ·refine aE (I.list hq) λits r pl hz=>?_;refine SeqAt.in_listAt (v8 x) pl.isList (λw hw=>jV rx fx r fs w (by simpa using hw)) ⟨.bl _,H,I,rfl,?_⟩;rw[show its.toArray.any (v8 x)=its.any (v8 x) by simp,mF r fs];exact q
 ·refine aE (I.tuple hq) λits r pl hz=>?_;refine SeqAt.in_tupleAt (v8 x) pl (λw hw=>jV rx fx r fs w (by simpa using hw)) ⟨.bl _,H,I,rfl,?_⟩;rw[show its.toArray.any (v8 x)=its.any (v8 x) by simp,mF r fs];exact q
theorem qM:jh X (R9 .NotIn) (rIn X.K true):=by
 intro ZY s σ H x y v u Q I rx ry h;refine fk h λp xs ZV hq fx fs q=>?_;subst ZV;cases ry;rcases hq with hq|hq
 ·refine aE (I.list hq) λits r pl hz=>?_;refine SeqAt.notIn_listAt (v8 x) pl.isList (λw hw=>jV rx fx r fs w (by simpa using hw)) ⟨.bl _,H,I,rfl,?_⟩;rw[show its.toArray.any (v8 x)=its.any (v8 x) by simp,mF r fs];exact q
 ·refine aE (I.tuple hq) λits r pl hz=>?_;refine SeqAt.notIn_tupleAt (v8 x) pl (λw hw=>jV rx fx r fs w (by simpa using hw)) ⟨.bl _,H,I,rfl,?_⟩;rw[show its.toArray.any (v8 x)=its.any (v8 x) by simp,mF r fs];exact q
theorem qN:eN X (.builtin "len") (λxs H Q=>∃p ys,xs=[.ref p]/\(fm X.K H p ys\/j5 X.K H p ys)/\Q (.int ys.length) H):=by
 intro ZY s σ H xs us Q I r h;refine ay h λp ys ZV hq q=>?_;subst ZV;refine aa (vals1 r) λu ZW rx=>?_;subst ZW;cases rx;have hn:=ng;rcases hq with hq|hq
 ·refine aE (I.list hq) λits r' pl hz=>?_;have hlen:=r'.length;exact Calls.call_len_list pl.isList (by simp only[X1]<;>lia) ⟨.int ys.length,H,I.tok _,⟨s.toks+1,by rw[X1,hlen]⟩,q⟩
 ·refine aE (I.tuple hq) λits r' pl hz=>?_;have hlen:=r'.length;exact len_tuple pl (by simp only[X1]<;>lia) ⟨.int ys.length,H,I.tok _,⟨s.toks+1,by rw[X1,hlen]⟩,q⟩
def tyV(K:Z4)(T:String)(x:V)(H:Hp):Prop:=match x with
 |.str _=>T="str"
 |.int _=>T="int"
 |.ref p=>(T="list"/\∃xs,fm K H p xs)\/(T="tuple"/\∃o,K.lookup p=some o/\o.cls=.type "tuple"/\o.dict=none) \/
   (T="dict"/\((∃kvs,H p=some (.dK kvs))\/∃kvs,H p=some (.dT kvs)))\/(T="set"/\∃S n,H p=some (.set S n))
 |_=>False
theorem tyV_is{σ:St}(I:Inv X ZY σ H s)(r:RelV x v)(ty:tyV X.K T x H):
  s.TypeIs v T/\∀a,v=.ref a->∃ob,s.heap.get? a=some ob/\ob.dict=none:=by
 cases x with
 |str z =>refine ao r λt ZW=>?_;subst ZW;cases (show T="str" from ty);exact⟨typeIs_str s z t,λb e=>nomatch e⟩
 |int i =>refine ao r λt ZW=>?_;subst ZW;cases (show T="int" from ty);exact⟨typeIs_int s i t,λb e=>nomatch e⟩
 |ref p =>
  cases r;rcases ty with ⟨rfl,xs,hq⟩|⟨rfl,o,hk,hc,hd⟩|⟨rfl,hk⟩|⟨rfl,S,n,hk⟩
  ·refine aE (I.list hq) λits b pl b=>?_;refine⟨pl.isList.typeIs,λa e=>?_⟩;cases e;refine fL pl λo n e c hd b=>?_;exact⟨o,e,hd⟩
  ·refine⟨⟨o,I.kIn p o hk,hc⟩,λa e=>?_⟩;cases e;exact⟨o,I.kIn _ o hk,hd⟩
  ·have z:∃o,s.heap.get? p=some o/\o.ExactDict:=by
    rcases hk with ⟨kvs,hk⟩|⟨kvs,hk⟩
    ·refine aV (I.hok p _ hk) λb b zz=>aa zz λb b zz=>cH zz λo b b e ex b=>?_;exact⟨o,e,ex⟩
    ·refine aV (I.hok p _ hk) λb b zz=>aa zz λb b zz=>cH zz λo b b e ex b=>?_;exact⟨o,e,ex⟩
   refine aa z λo e ex=>?_;refine⟨⟨o,e,ex.1⟩,λa e2=>?_⟩;cases e2;exact⟨o,e,ex.2.1⟩
  ·refine sK (I.hok p _ hk) λo b b b e ex b=>?_;refine⟨⟨o,e,ex.1⟩,λa e2=>?_⟩;cases e2;exact⟨o,e,ex.2.1⟩
 |_=>exact M0 ty
def tBM(K:Z4)(T:String)(r:V->List V->Hp->VK->Prop)(to:TE)(t:TA):TE:=λσ H Q=>to σ H λx H1=>tyV K T x H1/\t σ H1 λxs H2=>r x xs H2 Q
variable {o e:Expr}{es:List Expr}{to:TE}{t:TA}{name:Str}{apos cpos:Pos}{T id:String}{r:V->List V->Hp->VK->Prop}
theorem pe_bm(pa:PlainAttrs T)(slot:Slot T name id)(hty:typeOf (.builtin id)=pure (.type "method_descriptor"))(hm:MtR X id r)(ho:PE X o to)(ha:PA X (e ::es) t)(hbase:autoParam (attributeBase o name X.env (eval o X.env)=eval o X.env) L2.eX._auto_1)(hfew:((backTo cpos<|V6 (e ::es) X.env).all (λx=>!x.1)&&(backToKw cpos<|keywordEach [] X.env).all (λx=>x.1.isSome)
  &&decide ((e ::es).length+([]:List Keyword).length+(if ([]:List Keyword).isEmpty then 0 else 1)<30))=true:=by rfl)(hline:autoParam ((apos.endLine==cpos.line)=true) L2.eX._auto_1)(hs:autoParam (V6 (e ::es) X.env=(false,eval e X.env) ::V6 es X.env) L2.eX._auto_1)(hplain:autoParam ((backTo cpos<|V6 es X.env).any (·.1)=false) L2.eX._auto_1):
  PE X (.Call (.Attribute o name apos) (e ::es) [] cpos) (tBM X.K T r to t):=by
 intro ZY s σ H Q I h;refine wpAny_Call_method_late hbase hfew hline rfl (bM (ho ZY s σ H _ I h) λv s1 zq=>fL zq λx H1 I1 r1 ty q1=>?_);refine ax (tyV_is I1 r1 ty) λh1 h2=>?_;refine⟨T,id,pa,slot,hty,h1,h2,?_⟩;have hA:=ha cpos ZY s1 σ H1 _ I1 q1;rw[hs]at hA ⊢;refine Calls.callWith_builtin (by show (false || (backTo cpos<|V6 es X.env).any (·.1))=false;rw[hplain]<;>rfl)<|Calls.evalArgs_plain ?_;exact bM hA λus s2 zq=>ay zq λvs H2 I2 r2 q2=>hm ZY s2 σ H2 x vs v us Q I2 r1 r2 q2
end
end L2
namespace L2
open PySem PySem.Spec PyProof.Rows
noncomputable def MtM(X:Cx)(id:String)(r:V->List V->Hp->VK->Prop):Prop :=
 ∀(ZY:ZJ) (s:Shared) (σ:St) (H:Hp) (x:V) (xs:List V) (v:Value) (us:ZK) (Q:VK),Inv X ZY σ H s->RelV x v->aP xs us->r x xs H Q ->
  wpAny (model X.prog X.w) X.A (call (.builtin id) (v ::us)) (EP X ZY σ Q) X.xe s
theorem aP.one:∀{x:V} {us:ZK},aP [x] us->∃u,us=[u]/\RelV x u:=λp=>by
 cases p with
 |cons r t=>cases t;exact⟨_,rfl,r⟩
theorem aP.eraseIdx:∀{xs:List V} {us:ZK} (i:Nat),aP xs us->aP (xs.eraseIdx i) (us.eraseIdx i):=by
 intro xs us i p;induction p generalizing i with
 |nil=>exact .nil
 |cons r t ih =>
  cases i with
  |zero=>exact t
  |succ i=>exact .cons r<|ih i
theorem qf{α:Type}:∀(l:List α) (i:Nat),(l.eraseIdx i).length<=l.length
 |[],_=>bD _
 |_ ::_,0=>P3 _
 |_ ::r,i+1=>N5<|qf r i
section
variable {X:Cx}{ZY:ZJ}{σ:St}{H:Hp}{s:Shared}{l:Addr}{xs ys:List V}
theorem Inv.lset{its its':ZK}{f:Array Value->Array Value}(I:Inv X ZY σ H s)(hH:H l=some (.lst xs))(e:s.heap.get? l=some {cls:=.type "list",data:=.seq its.toArray n})(hf:f its.toArray=its'.toArray)(hv:aP ys its')(hz:ys.length<=W9):
  Inv X ZY σ (aH H l<|.lst ys) {s with heap:=s.heap.update l<|X6 f,toks:=t'}:=by
 have q:=PySem.IsL.update e f;rw[hf]at q;refine I.write (x:=l) (e:=l) (by rw[hH];exact trivial) (.inl rfl) (λb' u hb hu=>(Heap.get?_update_other s.heap (X6 f)<|R4 hb).trans hu) ⟨_,q⟩ ?_;exact⟨hz,its',_,hv,q⟩
theorem Inv.lnew(I:Inv X ZY σ H s)(hv:aP ys its)(hz:ys.length<=W9):
  Inv X ZY σ (aH H s.heap.objs.size<|.lst ys) {s with heap:=s.heap.push {cls:=.type "list",data:=.seq its.toArray},toks:=t'} :=
 I.laid (λx x q=>Z3 _ q) (bD _) ⟨hz,its,0,hv,Y7 _ rfl⟩
theorem Inv.fresh(I:Inv X ZY σ H s):H s.heap.objs.size=none:=I.hok.fresh<|bD _
theorem Inv.lstM(I:Inv X ZY σ H s)(hH:H l=some (.lst xs)):xs.length<=W9/\∃(its:ZK) (n:Nat),aP xs its/\xs.length=its.length/\s.heap.get? l=some {cls:=.type "list",data:=.seq its.toArray n}:=by refine ax (I.hok l _ hH) λz zz=>bv zz λits n r e=>?_;exact⟨z,its,n,r,r.length,e⟩
end
section
variable {X:Cx}
def wN:V->List V->Hp->VK->Prop:=λx vs H Q=>∃l xs y,x=.ref l/\vs=[y]/\H l=some (.lst xs)/\xs.length<W9/\Q .non (aH H l<|.lst<|xs++[y])
theorem fF:MtM X "list.append" wN:=by
 intro ZY s σ H x vs v us Q I rx rv h;refine gM h λl xs y ZU ZT hH hz q=>?_;subst ZU;subst ZT;cases rx;refine aa rv.one λu ZW ru=>?_;subst ZW;refine ax (I.lstM hH) λz zz=>ay zz λits n r hl e=>?_;refine call_meets F.slot_list_append ⟨_,e,rfl⟩ F.entry_list_append (F.args_list_append_2 _ _) (PySem.list_append l its.toArray n u (by rw[X1];lia)) ⟨e,?_⟩;refine⟨.non,_,I.lset (its':=its++[u]) hH e (by simp) (r.append<|.cons ru .nil) ?_,rfl,q⟩;rw[Y9,List.length_singleton];lia
def va:V->List V->Hp->VK->Prop:=λx vs H Q=>∃l xs i k y,x=.ref l/\vs=[.int i]/\H l=some (.lst xs)/\-(2^63)<=i/\i<2^63/\seqIndex? i xs.length=some k/\xs[k]?=some y/\Q y (aH H l<|.lst<|xs.eraseIdx k)
theorem A8:MtM X "list.pop" va:=by
 intro ZY s σ H x vs v us Q I rx rv h;refine gu h λl xs i zy0=>fk zy0 λk y ZS eq6_ hH h1 zy1=>jt zy1 λh2 hk hy q=> ?_;subst ZS;subst eq6_;cases rx;refine aa rv.one λu ZW ru=>?_;subst ZW;refine ao ru λt ZW=>?_;subst ZW;refine ax (I.lstM hH) λz zz=>ay zz λits n r hl e=>?_;refine aa (r.get hy) λw hw rw'=>?_;refine call_meets F.slot_list_pop ⟨_,e,rfl⟩ F.entry_list_pop (F.args_list_pop_2 _ _)
  (MeetsSeq.list_pop_at l its.toArray n i t k w (fitsIndex_both h1 h2) (by rw[X1,<- hl];exact hk) (by rw[<- K8];exact hw) (by rw[X1];lia)) ⟨e,?_⟩
 refine⟨y,_,I.lset (its':=its.eraseIdx k) hH e ?_ (r.eraseIdx k) ?_,rw',q⟩
 ·show its.toArray.eraseIdxIfInBounds k=(its.eraseIdx k).toArray;rw[List.eraseIdxIfInBounds_toArray]
 ·have:=qf xs k;lia
end
section
set_option maxRecDepth 100000 in
end
end L2
namespace L2
open PySem PySem.Spec PyProof.Rows
section
variable {κ:Type}[DecidableEq κ]
noncomputable def dP(kvs:List (κ×V))(k:κ):Option V:=(kvs.find? λkv=>decide<|kv.1=k).map (·.2)
noncomputable def putK(kvs:List (κ×V))(k:κ)(v:V):List (κ×V) :=
 if (kvs.any λkv=>decide<|kv.1=k)=true then kvs.map (λkv=>if kv.1=k then (kv.1,v) else kv) else kvs++[(k,v)]
theorem iC{r:List (κ×V)}{k:κ}(e:p.1=k):dP (p ::r) k=some p.2:=by simp[dP,K4,e]
theorem iD{r:List (κ×V)}{k:κ}(e:¬ p.1=k):dP (p ::r) k=dP r k:=by simp[dP,K4,e]
theorem A9(k:κ):∀kvs:List (κ×V),(kvs.any λkv=>decide<|kv.1=k)=(dP kvs k).isSome:=by
 intro kvs;induction kvs with
 |nil=>rfl
 |cons p r ih =>
  rw[J4];by_cases e:p.1=k
  ·simp only[iC e,decide_eq_true e,Bool.true_or,Option.isSome_some]
  ·rw[iD e,decide_eq_false e,Bool.false_or];exact ih
theorem fY(kvs:List (κ×V))(k:κ)(v:V):(putK kvs k v).length<=kvs.length+1:=by
 unfold putK;split
 ·rw[Y0];lia
 ·rw[Y9,V9,List.length_nil];lia
theorem iz.isSome_eq(r:iz o u):o.isSome=u.isSome:=by
 cases o with
 |none=>cases u with
  |none=>rfl
  |some _=>exact(show False from r).elim
 |some _=>cases u with
  |none=>exact(show False from r).elim
  |some _=>rfl
theorem KV.val(r:KV kvs vs)(k:κ):iz (dP kvs k) (valueAt vs k):=by
 unfold KV at r;induction r with
 |nil=>exact J1
 |@cons p q ps qs h t ih =>
  refine ax h λh1 h2=>?_;by_cases e:p.1=k
  ·have e':q.1=k:=h1.symm.trans e;have b:valueAt (q ::qs) k=some q.2:=by simp[valueAt,K4,e']
   rw[iC e,b];exact h2
  ·have e':¬ q.1=k:=λz=>e<|h1.trans z;have b:valueAt (q ::qs) k=valueAt qs k:=by simp[valueAt,K4,e']
   rw[iD e,b];exact ih
theorem KV.any(r:KV kvs vs)(k:κ):(kvs.any λkv=>decide<|kv.1=k)=vs.any λkv=>decide (kv.1=k):=by
 unfold KV at r;induction r with
 |nil=>rfl
 |cons h t ih=>rw[J4,J4,ih,h.1]
theorem KV.repl(r:KV kvs vs)(k:κ)(ry:RelV y u):
  KV (kvs.map λkv=>if kv.1=k then (kv.1,y) else kv) (vs.map λkv=>if kv.1=k then (kv.1,u) else kv):=by
 unfold KV at r ⊢;induction r with
 |nil=>exact .nil
 |@cons p q ps qs h t ih =>
  rw[W7,W7];refine .cons ?_ ih;refine ax h λh1 h2=>?_;by_cases e:p.1=k
  ·rw[if_pos e,if_pos (h1.symm.trans e)];exact⟨h1,ry⟩
  ·rw[if_neg e,if_neg λz=>e<|h1.trans z];exact⟨h1,h2⟩
theorem KV.put(r:KV kvs vs)(k:κ)(ry:RelV y u):KV (putK kvs k y) (stored vs k u):=by
 unfold putK stored;rw[r.any k];by_cases e:(vs.any λkv=>decide<|kv.1=k)=true
 ·rw[if_pos e,if_pos e];exact r.repl k ry
 ·rw[if_neg e,if_neg e];exact Paired.snoc r ⟨rfl,ry⟩
theorem KV.length{vs:List (κ×Value)}(r:KV kvs vs):kvs.length=vs.length:=Paired.length r
end
theorem qg(r:RelV (kV k) u):(b9 P w).is k u=true:=by
 cases k with
 |inl i=>refine ao ((show ∃t,u=O9 i t from r)) λt e=>?_;subst e;exact iy P w i t
 |inr x=>refine ao ((show ∃t,u=Value.str x t from r)) λt e=>?_;subst e;exact sL P w x t
theorem yC:∀{ks:List Key} {us:ZK},aP (ks.map kV) us->ItemsAre (b9 P w) ks us:=by
 intro ks;induction ks with
 |nil=>intro us r;rw[List.map_nil]at r;cases r;exact .nil
 |cons k ks ih =>
  intro us r;rw[W7]at r;cases r with
  |cons h t=>exact .cons (qg h)<|ih t
abbrev KT(H:Hp):List (List Key×V)->List (List Key×Addr×Value)->Prop:=Paired λp q=>p.1=q.1/\H q.2.1=some (.tup<|p.1.map kV)/\RelV p.2 q.2.2
theorem KT.val(r:KT H kvs xs)(k:List Key):iz (dP kvs k) ((atKey xs k).map (·.2)):=by
 induction r with
 |nil=>exact J1
 |@cons p q ps qs h t ih =>
  refine aV h λh1 x h2=>?_;by_cases e:p.1=k
  ·have e':q.1=k:=h1.symm.trans e;have b:atKey (q ::qs) k=some q.2:=by simp[atKey,K4,e']
   rw[iC e,b];exact h2
  ·have e':¬ q.1=k:=λz=>e<|h1.trans z;have b:atKey (q ::qs) k=atKey qs k:=by simp[atKey,K4,e']
   rw[iD e,b];exact ih
theorem KT.repl(r:KT H kvs xs)(k:List Key)(ry:RelV y u):
  KT H (kvs.map λkv=>if kv.1=k then (kv.1,y) else kv) (xs.map<|putAt k u):=by
 induction r with
 |nil=>exact .nil
 |@cons p q ps qs h t ih =>
  rw[W7,W7];refine .cons ?_ ih;refine aV h λh1 h2 h3=>?_;unfold putAt;by_cases e:p.1=k
  ·rw[if_pos e,if_pos (h1.symm.trans e)];exact⟨h1,h2,ry⟩
  ·rw[if_neg e,if_neg λz=>e<|h1.trans z];exact⟨h1,h2,h3⟩
theorem KT.put(r:KT H kvs xs)(k:List Key)(hb:H b=some (.tup<|k.map kV))(ry:RelV y u):
  KT H (putK kvs k y) (storedH xs k b u):=by
 have e:(kvs.any λkv=>decide<|kv.1=k)=(atKey xs k).isSome:=by rw[A9,(r.val k).isSome_eq,Option.isSome_map]
 unfold putK storedH;rw[e];by_cases q:(atKey xs k).isSome=true
 ·rw[if_pos q,if_pos q];exact r.repl k ry
 ·rw[if_neg q,if_neg q];exact Paired.snoc r ⟨rfl,hb,ry⟩
theorem KT.keeps(r:KT H kvs xs)(ht:∀b ys,H b=some (.tup ys)->H' b=some (.tup ys)):KT H' kvs xs :=
 Paired.mapP r λx x z=>⟨z.1,ht _ _ z.2.1,z.2.2⟩
section
variable {P:U4}{w:World}{H:Hp}{h:Heap}{a:Addr}
theorem rd_of(ok:jO P w H h)(e:Rd H a u):bE P w H h a u:=e.ok ok
theorem qh(ok:jO P w H h)(e:Rd H a (.dK kvs)):kvs.length<=W9/\(a==M8)=false/\∃vs,KV kvs vs/\h.DictOf (b9 P w) a vs :=
 show bE P w H h a (.dK kvs) from rd_of ok e
theorem wO(ok:jO P w H h)(e:H a=some (.dK kvs)):kvs.length<=W9/\(a==M8)=false/\∃vs,KV kvs vs/\h.DictOf (b9 P w) a vs:=qh ok<|.inl e
theorem l7(ok:jO P w H h)(e:H a=some (.tup<|ks.map kV)):(tupleKind<|b9 P w).is h ks a:=by refine ax ((show bE P w H h a (.tup<|ks.map kV) from ok a _ e)) λx zz=>aa zz λits r zz=>aE zz λo h1 h2 zz=>ao zz λn h3=>?_;exact⟨o,its.toArray,n,h1,h2,h3,by simpa using yC r⟩
theorem qi(ok:jO P w H h)(e:Rd H a (.dT kvs)):kvs.length<=W9/\(a==M8)=false /\
  ∃xs,KT H kvs xs/\h.DictOfH (tupleKind<|b9 P w) a xs:=by
 refine aV ((show bE P w H h a (.dT kvs) from rd_of ok e)) λz y zz=>aa zz λxs r zz=>gM zz λo es ep h1 h2 h3 h4 h5=>?_;refine⟨z,y,xs,r,o,es,ep,h1,h2,h3,h4,λx hx=>?_,h5⟩;have all:∀{l:List (List Key×V)} {m:List (List Key×Addr×Value)},KT H l m->∀x∈m,(tupleKind<|b9 P w).is h x.1 x.2.1:=by
  intro l m q;induction q with
  |nil=>intro x hx;exact nomatch hx
  |@cons p q ps qs hq t ih =>
   intro x hx;rcases Y4.mp hx with e|hx
   ·subst e;exact l7 ok (by rw[<- hq.1];exact hq.2.1)
   ·exact ih x hx
 exact all r x hx
theorem Aa(ok:jO P w H h)(e:H a=some (.dT kvs)):kvs.length<=W9/\(a==M8)=false /\
  ∃xs,KT H kvs xs/\h.DictOfH (tupleKind<|b9 P w) a xs:=qi ok<|.inl e
end
noncomputable def mf(H:Hp)(a:Addr)(y:V)(r:Option V):Prop :=
 (∃kvs k,Rd H a (.dK kvs)/\y=kV k/\r=dP kvs k)\/∃kvs k b,Rd H a (.dT kvs)/\y=.ref b/\H b=some (.tup<|k.map kV)/\r=dP kvs k
noncomputable def Ab(H:Hp)(a:Addr)(y v:V)(H':Hp):Prop :=
 (∃kvs k,H a=some (.dK kvs)/\y=kV k/\kvs.length<W9/\H'=aH H a (.dK<|putK kvs k v)) \/
 ∃kvs k b,H a=some (.dT kvs)/\y=.ref b/\H b=some (.tup<|k.map kV)/\kvs.length<W9/\H'=aH H a (.dT<|putK kvs k v)
theorem mf.k{k:Key}(e:H a=some (.dK kvs)):mf H a (kV k) (dP kvs k):=.inl ⟨kvs,k,.inl e,rfl,rfl⟩
theorem Ab.k{k:Key}(e:H a=some (.dK kvs))(hl:kvs.length<W9):Ab H a (kV k) v (aH H a<|.dK<|putK kvs k v):=.inl ⟨kvs,k,e,rfl,hl,rfl⟩
section
variable {X:Cx}{ZY:ZJ}{σ:St}{H:Hp}{s:Shared}{a:Addr}{y v:V}{u r:Value}{o:Option V}{A:Around}{E:ZN}
theorem Inv.big(I:Inv X ZY σ H s):M8<s.heap.objs.size:=by have h:S8<s.heap.objs.size:=(I.mod.glob.keeps I.bk).lt;exact eJ (by decide) h
theorem yD{Q:ZN}(hu:A.units+1<cLine)(I:Inv X ZY σ H s)(g:mf H a y (some v))(ry:RelV y u)(h:∀w' s',Inv X ZY σ H s'->RelV v w'->Q w' s'):
  wpAny (model X.prog X.w) A (getItem (.ref a) u) Q E s:=by
 rcases g with ⟨kvs,k,e,ey,l⟩|⟨kvs,k,b,e,ey,eb,l⟩
 ·subst ey;refine aV (qh I.hok e) λz hd zz=>aa zz λvs rel dd=>?_;refine aa (iz.some_of (v:=v) (o:=valueAt vs k) (by rw[l];exact rel.val k)) λw' hw rw'=>?_;exact wpAny_getItem_of (qg ry) dd.mapOf hw<|h w' _ (I.tok _) rw'
 ·subst ey;cases (show u=U3 b from ry);refine aV (qi I.hok e) λz hd zz=>aa zz λxs rel dd=>?_;refine aa (iz.some_of (v:=v) (o:=(atKey xs k).map (·.2)) (by rw[l];exact rel.val k)) λw' hw rw'=>?_;refine aa (P4.mp hw) λp hp hp2=>?_;refine wpAny_getItem_heap (tupleKind_room_in1 hu) (l7 I.hok eb) dd hp ?_;rw[hp2];exact h w' _ (I.tok _) rw'
theorem d_in{Q:ZN}(hu:A.units+1<cLine)(I:Inv X ZY σ H s)(g:mf H a y o)(ry:RelV y u)(h:∀s',Inv X ZY σ H s'->Q (.bool o.isSome) s'):
  wpAny (model X.prog X.w) A (R9 .In u<|.ref a) Q E s:=by
 rcases g with ⟨kvs,k,e,ey,l⟩|⟨kvs,k,b,e,ey,eb,l⟩
 ·subst ey;refine aV (qh I.hok e) λz hd zz=>aa zz λvs rel dd=>?_;refine wpAny_in_of (qg ry) hd dd.mapOf ?_;rw[<- (rel.val k).isSome_eq,<- l];exact h _<|I.tok _
 ·subst ey;cases (show u=U3 b from ry);refine aV (qi I.hok e) λz hd zz=>aa zz λxs rel dd=>?_;refine wpAny_in_heap (tupleKind_room_in1 hu) (l7 I.hok eb) hd dd ?_;have q:=(rel.val k).isSome_eq;rw[Option.isSome_map]at q;rw[<- q,<- l];exact h _<|I.tok _
theorem d_notIn{Q:ZN}(hu:A.units+1<cLine)(I:Inv X ZY σ H s)(g:mf H a y o)(ry:RelV y u)(h:∀s',Inv X ZY σ H s'->Q (.bool<|!o.isSome) s'):
  wpAny (model X.prog X.w) A (R9 .NotIn u<|.ref a) Q E s:=by
 rcases g with ⟨kvs,k,e,ey,l⟩|⟨kvs,k,b,e,ey,eb,l⟩
 ·subst ey;refine aV (qh I.hok e) λz hd zz=>aa zz λvs rel dd=>?_;refine wpAny_notIn_of (qg ry) hd dd.mapOf ?_;rw[<- (rel.val k).isSome_eq,<- l];exact h _<|I.tok _
 ·subst ey;cases (show u=U3 b from ry);refine aV (qi I.hok e) λz hd zz=>aa zz λxs rel dd=>?_;refine wpAny_notIn_heap (tupleKind_room_in1 hu) (l7 I.hok eb) hd dd ?_;have q:=(rel.val k).isSome_eq;rw[Option.isSome_map]at q;rw[<- q,<- l];exact h _<|I.tok _
theorem mG(I:Inv X ZY σ H s)(mu:Mut (H a))(hs:U8 a s.heap h')(he:∃q,h'.get? a=some q)(new:bE X.prog X.w (aH H a ob) h' a ob):
  Inv X ZY σ (aH H a ob) {s with heap:=h',toks:=t'} :=
 I.write (x:=a) (e:=a) mu (.inl rfl) (λb q hb z=>(hs.2 b hb).trans z) he new
theorem Ac(z:kvs.length<=W9)(hd:(a==M8)=false)(rel:KV kvs vs)(dd:h'.DictOf (b9 P w) a vs):
  bE P w H' h' a (.dK kvs):=⟨z,hd,vs,rel,dd⟩
theorem yE{Q:Unit->Shared->Prop}(hu:A.units+1<cLine)(I:Inv X ZY σ H s)(g:Ab H a y v H')(ry:RelV y u)(rv:RelV v r)(h:∀s',Inv X ZY σ H' s'->Q () s'):
  wpAny (model X.prog X.w) A (setItem (.ref a) u r) Q E s:=by
 rcases g with ⟨kvs,k,e,ey,l,eH⟩|⟨kvs,k,b,e,ey,eb,l,eH⟩
 ·subst ey eH;refine aV (wO I.hok e) λz hd zz=>aa zz λvs rel dd=>?_;have hz:vs.length<=W9:=by rw[<- rel.length];exact z
  have hl:(putK kvs k v).length<=W9:=by have:=fY kvs k v;lia
  refine wpAny_setItem_pairs (hsz:=hz) (qg ry) dd λh' dd' hs=>h _ ?_;have he:∃q,h'.get? a=some q:=fM dd' λq x x hq x=>⟨q,hq⟩;exact mG I (by rw[e];exact J1) hs he<|Ac hl hd (rel.put k rv) dd'
 ·subst ey eH;cases (show u=U3 b from ry);refine aV (Aa I.hok e) λz hd zz=>aa zz λxs rel dd=>?_;have hz:xs.length<=W9:=by rw[<- Paired.length rel];exact z
  have hl:(putK kvs k v).length<=W9:=by have:=fY kvs k v;lia
  refine wpAny_setItem_heap (hsz:=hz) (tupleKind_room_in1 hu) (l7 I.hok eb) dd λh' dd' hs=>h _ ?_;refine jP dd' λq es ep hq h2 h3 h4 x h5=>?_;refine mG I (by rw[e];exact J1) hs ⟨q,hq⟩ ⟨hl,hd,_,(rel.put k eb rv).keeps λc ys ec=>?_,q,es,ep,hq,h2,h3,h4,h5⟩;rw[aq (ne_of ec e λz=>nomatch z)];exact ec
end
def NoSl(i:Expr):Prop:=∀ov iv,subscripted i false ov iv=operate [ov,iv] (getItem ov iv)
theorem subD_of{E:ZN}{T id:String}{Q:ZN}(hl:typeLookup (.type T) "__getitem__"=pure (some<|.builtin id))(hs:NoSl slice)(h:wpAny (model prog w) A (eval value env) (λo s₁=>wpAny (model prog w) A (eval slice env) (λi s₂=>s₂.TypeIs o T/\wpAny (model prog w) A (getItem o i) Q E s₂) E s₁) E s):
  wpAny (model prog w) A (eval (.Subscript value slice pos) env) Q E s:=by
 refine Subscript_ (R0 h (λo s₁ h₁=>R0 h₁ (λi s₂ h₂=>?_) λa a x=>x) λa a x=>x);refine ax h₂ λhT h₂=>?_;unfold subscriptTail;refine Z0 ?_;rw[getitemInPython_of_ne hT.not_modules];refine Z0<|wpAny_specialOf hT hl ?_;have fin:wpAny (model prog w) A (subscripted slice false o i) (λr s₃=>wpAny (model prog w) A (letTemporaryGo value o r >>= λa=>pure r) Q E s₃) E s₂:=by rw[hs o i];exact wpAny_operating (R0 h₂ (λr s₃ h₃=>Z0<|wpAny_letTemporaryGo<|Z5 h₃) λa a x=>x)
 first
  |exact Z5<|Z0 fin
  |exact Z0<|Z5<|Z0 fin
  |exact Z0 fin
theorem sV{σ:St}(I:Inv X ZY σ H s)(g:mf H a y o):s.TypeIs (.ref a) "dict":=by
 rcases g with ⟨kvs,k,e,_,_⟩|⟨kvs,k,b,e,_,_,_⟩
 ·refine aV (qh I.hok e) λx x zz=>aa zz λvs x dd=>?_;exact dd.typeIs
 ·refine aV (qi I.hok e) λx x zz=>aa zz λxs x dd=>?_;exact dd.typeIs
def Ad(td ty:TE):TE:=λσ H Q=>td σ H λx H1=>ty σ H1 λy H2=>∃a v,x=.ref a/\mf H2 a y (some v)/\Q v H2
def wQ(ty td:TE):TE:=λσ H Q=>ty σ H λy H1=>td σ H1 λx H2=>∃a o,x=.ref a/\mf H2 a y o/\Q (.bl<|!o.isSome) H2
def Ae(td ty tv:TE):TS:=λD σ H=>tv σ H λv H1=>td σ H1 λx H2=>ty σ H2 λy H3=>∃a H4,x=.ref a/\Ab H3 a y v H4/\D.nx σ H4
section
variable {X:Cx}{o i value:Expr}{pos pos':Pos}{td ty tv:TE}
theorem jW(hu:X.A.units+1<cLine)(ho:PE X o td)(hi:PE X i ty)(hs:NoSl i):PE X (.Subscript o i pos) (Ad td ty):=by intro ZY s σ H Q I h;refine subD_of PySem.F.slot_dict_getitem.lookup hs (bM (ho ZY s σ H _ I h) λu s1 zq=>ay zq λx H1 I1 rx q1=>bM (hi ZY s1 σ H1 _ I1 q1) λiv s2 zq=>ay zq λy H2 I2 ry zz=>ay zz λa v ex g q2=>?_);subst ex;obtain rfl:u=U3 a:=rx;exact⟨sV I2 g,yD hu I2 g ry λw' s3 I3 rw'=>⟨v,H2,I3,rw',q2⟩⟩
theorem yF(hu:X.A.units+1<cLine)(hi:PE X i ty)(ho:PE X o td):PC X .NotIn i o (wQ ty td):=by intro ZY s σ H Q I h;refine bM (hi ZY s σ H _ I h) λiv s1 zq=>ay zq λy H1 I1 ry q1=>bM (ho ZY s1 σ H1 _ I1 q1) λu s2 zq=>ay zq λx H2 I2 rx zz=>ay zz λa ov ex g q2=>?_;subst ex;obtain rfl:u=U3 a:=rx;exact d_notIn hu I2 g ry λs3 I3=>⟨.bl<|!ov.isSome,H2,I3,rfl,q2⟩
theorem qO(hu:X.A.units+1<cLine)(ho:PE X o td)(hi:PE X i ty)(hv:PE X value tv)(hs:swapsWith value (some<|.Subscript o i pos') pos.line X.env=pure false):
  PS X (.Assign [.Subscript o i pos'] value pos) (Ae td ty tv):=by
 intro ZY s σ H D I h;refine wpAny_Assign_Subscript (bM (hv ZY s σ H _ I h) λr s1 zq=>ay zq λv H1 I1 rv q1=>bM (ho ZY s1 σ H1 _ I1 q1) λu s2 zq=>ay zq λx H2 I2 rx q2=>bM (hi ZY s2 σ H2 _ I2 q2) λiv s3 zq=>ay zq λy H3 I3 ry zz=>ay zz λa H4 ex g q3=>?_) hs;subst ex;obtain rfl:u=U3 a:=rx;exact yE hu I3 g ry rv λs4 I4=>⟨σ,H4,I4,q3⟩
end
theorem sW(h:Heap)(hb:M8<h.objs.size):bE P w H (h.push {cls:=.type "dict",data:=.dict #[]}) h.objs.size (.dK []) :=
 ⟨T3 _,beq_eq_false_iff_ne.mpr<|R4<|dH hb,[],.nil,Heap.DictOf.new h⟩
theorem Af(h:Heap)(hb:M8<h.objs.size):bE P w H (h.push {cls:=.type "dict",data:=.dict #[]}) h.objs.size (.dT []) :=
 ⟨T3 _,beq_eq_false_iff_ne.mpr<|R4<|dH hb,[],.nil,_,#[],0,Y7 _ rfl,⟨rfl,rfl,rfl⟩,rfl,rfl,List.nodup_nil⟩
def vc:TE:=λx H Q=>∀p,H p=none->Q (.ref p) (aH H p<|.dK [])
def Ag:TE:=λx H Q=>∀p,H p=none->Q (.ref p) (aH H p<|.dT [])
section
variable {X:Cx}{pos:Pos}
theorem sX:PE X (.Dict [] [] pos) vc:=λZY s σ H Q I h =>
 wpAny_Dict_empty ⟨.ref s.heap.objs.size,_,I.laid (a:=s.heap.objs.size) (o:=.dK []) (t':=s.toks) (λx x q=>Z3 _ q) (bD _)<|sW s.heap I.big,rfl,h _<|I.hok.fresh<|bD _⟩
theorem Ah:PE X (.Dict [] [] pos) Ag:=λZY s σ H Q I h =>
 wpAny_Dict_empty ⟨.ref s.heap.objs.size,_,I.laid (a:=s.heap.objs.size) (o:=.dT []) (t':=s.toks) (λx x q=>Z3 _ q) (bD _)<|Af s.heap I.big,rfl,h _<|I.hok.fresh<|bD _⟩
end
def vd:List (TE×TE)->St->Hp->(List (V×V)->Hp->Prop)->Prop
 |[],_,H,Q=>Q [] H
 |(tk,tv) ::r,σ,H,Q=>tk σ H λx H1=>tv σ H1 λy H2=>vd r σ H2 λps H3=>Q ((x,y) ::ps) H3
abbrev VV:List (V×V)->List (Value×Value)->Prop:=Paired λp q=>RelV p.1 q.1/\RelV p.2 q.2
noncomputable def PPs(X:Cx)(pos:Pos)(keys:List (Option Expr))(values:List Expr)(trs:List (TE×TE)):Prop :=
 ∀(ZY:ZJ) (s:Shared) (σ:St) (H:Hp) (Q:List (V×V)->Hp->Prop),Inv X ZY σ H s->vd trs σ H Q ->
  wpAny (model X.prog X.w) X.A (evalPairs<|pairTrees keys values X.env pos) (λvs s'=>∃ps H',Inv X ZY σ H' s'/\VV ps vs/\Q ps H') X.xe s
theorem pps_nil:PPs X pos [] [] []:=λZY s σ H Q I h=>pairTrees_nil_walk ⟨[],H,I,.nil,h⟩
theorem Ai(hk:PE X k tk)(hv:PE X v tv)(hr:PPs X pos ks vs trs):
  PPs X pos (some k ::ks) (v ::vs) ((tk,tv) ::trs):=λZY s σ H Q I h =>
 pairTrees_cons_walk (bM (hk ZY s σ H _ I h) λu s1 zq=>ay zq λx H1 I1 rx q1=>bM (hv ZY s1 σ H1 _ I1 q1) λw2 s2 zq=>ay zq λy H2 I2 ry q2 =>
  bM (hr ZY s2 σ H2 _ I2 q2) λws s3 zq=>ay zq λps H3 I3 rel q3=>⟨(x,y) ::ps,H3,I3,.cons ⟨rx,ry⟩ rel,q3⟩)
noncomputable def jx(kvs more:List (Key×V)):List (Key×V):=more.foldl (λacc kv=>putK acc kv.1 kv.2) kvs
theorem KV.merge:∀{more:List (Key×V)} {rs:List (Key×Value)} {kvs:List (Key×V)} {vs:List (Key×Value)},KV more rs->KV kvs vs->KV (jx kvs more) (merged vs rs):=by
 intro more rs kvs vs r;unfold KV at r;induction r generalizing kvs vs with
 |nil=>intro q;exact q
 |@cons p q ps qs h t ih =>
  intro r0;have e:KV (putK kvs p.1 p.2) (stored vs q.1 q.2):=by have:=r0.put p.1 h.2;rw[<- h.1];exact this
  exact ih e
theorem pC:∀(more kvs:List (Key×V)),(jx kvs more).length<=kvs.length+more.length:=by
 intro more;induction more with
 |nil=>exact λkvs=>bD _
 |cons p r ih=>exact λkvs=>b8 (ih<|putK kvs p.1 p.2) (by have h2:=fY kvs p.1 p.2;rw[V9];lia)
theorem ve:∀{kvs:List (Key×V)} {ws:List (Value×Value)},VV (kvs.map λkv=>(kV kv.1,kv.2)) ws->∃rs,Carries (b9 P w) ws rs/\KV kvs rs:=by
 intro kvs;induction kvs with
 |nil=>intro ws r;rw[List.map_nil]at r;cases r;exact⟨[],J1,.nil⟩
 |cons p kvs ih =>
  intro ws r;rw[W7]at r;cases r with
  |@cons a b as bs h t=>exact aa (ih t) λrs c q=>⟨(p.1,b.2) ::rs,⟨qg h.1,rfl,c⟩,.cons ⟨rfl,h.2⟩ q⟩
def tDisp(trs:List (TE×TE)):TE:=λσ H Q=>∀p,H p=none->vd trs σ (aH H p<|.dK []) λps H2=>H2 p=some (.dK [])/\∃kvs:List (Key×V),ps=kvs.map (λkv=>(kV kv.1,kv.2))/\kvs.length<=15/\Q (.ref p) (aH H2 p<|.dK<|jx [] kvs)
theorem pe_disp(h:PPs X pos keys values trs)(hall:keys.all (·.isSome)=true)(hl:keys.length=values.length)(h0:keys≠[])(h15:keys.length<=15):PE X (.Dict keys values pos) (tDisp trs):=by
 intro ZY s σ H Q I q;have hn:=I.hok.fresh<|bD s.heap.objs.size;have I1:=I.laid (a:=s.heap.objs.size) (o:=.dK []) (h':=s.heap.push {cls:=.type "dict",data:=.dict #[]}) (t':=s.toks) (λx x q=>Z3 _ q) (bD _)<|sW s.heap I.big;refine wpAny_Dict_walk (knd:=b9 X.prog X.w) hall hl h0 h15 (bM (h ZY _ σ _ _ I1<|q _ hn) λws s2 zq=>fL zq λps H2 I2 rel e zz=>aE zz λkvs ep lk q2=>?_);subst ep;refine aa (ve (P:=X.prog) (w:=X.w) rel) λrs c rk=>?_;refine aV (wO I2.hok e) λz hd zz=>aa zz λvs0 r0 dd=>?_;cases r0;refine⟨rs,c,dd,λh' dd' hs=>⟨.ref s.heap.objs.size,_,?_,rfl,q2⟩⟩;have hz:(jx [] kvs).length<=W9:=by have h1:=pC kvs [];rw[List.length_nil]at h1;rw[V4];lia
 have he:∃q,h'.get? s.heap.objs.size=some q:=fM dd' λq x x hq x=>⟨q,hq⟩;exact mG I2 (by rw[e];exact J1) hs he<|Ac hz hd (rk.merge .nil) dd'
structure M2(X:Cx)(o:Expr)(m:Str)(apos:Pos)(e f:Expr)(cpos:Pos):Prop where
 base:attributeBase o m X.env (eval o X.env)=eval o X.env
 few:((backTo cpos<|V6 [e,f] X.env).all (λx=>!x.1)&&(backToKw cpos<|keywordEach [] X.env).all (λx=>x.1.isSome)
 &&decide (([e,f]:List Expr).length+([]:List Keyword).length+(if ([]:List Keyword).isEmpty then 0 else 1)<30))=true
 line:(apos.endLine==cpos.line)=true
 trees:backTo cpos (V6 [e,f] X.env)=[(false,eval e X.env),(false,eval f X.env)]
def IsD(H:Hp)(a:Addr):Prop:=(∃kvs,Rd H a (.dK kvs))\/∃kvs,Rd H a (.dT kvs)
theorem isD_at{σ:St}(I:Inv X ZY σ H s)(d:IsD H a):
  s.TypeIs (.ref a) "dict"/\(∀b,U3 a=.ref b->∃ob,s.heap.get? b=some ob/\ob.dict=none)/\(a==M8)=false:=by
 rcases d with ⟨kvs,e⟩|⟨kvs,e⟩
 ·refine aV (qh I.hok e) λx hd zz=>aa zz λvs x dd=>?_;refine⟨dd.typeIs,λb q=>?_,hd⟩;cases q;refine cH dd λob x x h1 h2 x=>?_;exact⟨ob,h1,h2.2.1⟩
 ·refine aV (qi I.hok e) λx hd zz=>aa zz λxs x dd=>?_;refine⟨dd.typeIs,λb q=>?_,hd⟩;cases q;refine cH dd λob x x h1 h2 x=>?_;exact⟨ob,h1,h2.2.1⟩
end L2
namespace Att
open PySem PySem.W PySem.Calls PyProof.Rows
theorem mi:∀(ns:ZL) (vs:ZK),WellAll P h vs (ns.map WData.int)->K6 vs ns:=by
 intro ns;induction ns with
 |nil =>intro vs w;rw[List.map_nil]at w;cases w;exact .nil
 |cons n ns ih =>
  intro vs w;rw[W7]at w;cases w with
  |cons a b =>cases a;exact .cons _ _<|ih _ b
theorem yG{l:OpenLaw}(hn:l.most=some n)(hpre:l.row.toRowW.claim.pre args=true)(hwl:WellAll P h vals args):
  ∃a vs ns,vals=[U3 a]/\args=[WData.list (ns.map WData.int)]/\h.get? a=some {cls:=.type "list",data:=.seq vs.toArray}/\K6 vs ns/\ns.length<=n:=by
 have hsh:WShape.hasAll [] args [.list .int]=true:=(pre_splitW hpre).1;have hc:l.pre.holds [] {args:=args}=true:=(pre_splitW hpre).2;refine ay (hasAllW_cons hsh) λd r ZV h1 h2=>?_;subst ZV;obtain rfl:=hasAllW_nil h2;refine aa (hasW_list h1) λxs ZW h3=>?_;subst ZW;refine ao (items_int h3) λns ZW=>?_;subst ZW;have hlen:ns.length<=n:=by
  unfold OpenLaw.pre at hc;have h4:(WTm.not<|.lt (.lit<|.int (n:Int))<|.len<|.arg 0).holds [] {args:=[.list (ns.map .int)]}=true:=by have h4:=(holds_andW hc).1;rw[hn]at h4;exact h4
  have h5:=condW_of h4<|w_not<|w_lt w_lit<|w_len_list<|w_arg rfl;rw[Y0]at h5;refine E7 λq=>?_;have q':(n:Int)<((ns.length:Nat):Int):=by omega
  first
   |(rw[decide_eq_true q']at h5;exact absurd h5 (by decide))
   |(simp at h5;omega)
 cases hwl with
 |cons w1 w2 =>
  cases w2;cases w1 with
  |list ho hall=>exact⟨_,_,ns,rfl,rfl,ho,mi ns _ hall,hlen⟩
theorem yH(l:OpenLaw)(args:List WData):l.row.toRowW.claim.post args (.bool true) args=true :=
 postW_of (r:=l.row.toRowW) (X:=(true==true))
  (show WShape.has [] (.bool true) .bool=true by first|rfl|decide|simp[WShape.has,WShape.arms,WShape.armsAll])
  (show (WTm.eq .res<|.lit<|.bool true).value [] {args:=args,res:=some<|.bool true,after:=args}=some (.bool<|true==true) from w_eq_bool (w_res rfl) w_lit) rfl
theorem sY{l:OpenLaw}{XP:(Str->Option Value)->Heap->Prop}{YP:World->Heap->Prop}(hn:l.most=some n)(hdf:d.params.defaults=[])(call:∀(w:World) (s₀ s₁:Shared) (mg mb:ZH) (fa:Addr) (o:Obj) (pm cd doc:Value) (a:Addr) (vs:ZK) (ns:ZL),
   Ground q loose [] XP w s₀ mg mb s₁.heap->YP w s₁.heap ->
   s₁.heap.get? fa=some o->o.data=.func (docDef d.name d.params d.body d.scope pm cd doc)->s₁.heap.CodeRec cd d.name->mg d.name=some (.ref fa) ->
   s₁.heap.get? a=some {cls:=.type "list",data:=.seq vs.toArray}->K6 vs ns->ns.length<=n->s₁.gens=#[] ->
   codeAny (model l.prog w) callerA (.call (.ref fa) ⟨[.ref a],[]⟩) (λr s'=>r=.ok (.ret<|.bool true)/\OldK s₁.heap s'.heap/\s'.os=s₁.os/\AllBare s'.gens) s₁):
  WalkO q loose XP YP l.row.toRowW d [] (λf vs=>PySem.call f vs):=by
 intro w s₀ s₁ mg mb G Y fa o pm cd doc dV kV ho hd hcd hD hmg hg args vals as hpre hlay hrd hwl hlo;obtain rfl:dV=.none:=Dflts.none hD hdf;obtain rfl:kV=.none:=Dflts.noKw hD;refine gM (yG hn hpre hwl) λa vs ns ZU ZT hobj hints hlen=>?_;subst ZU;subst ZT;refine enter_call (codeAny_mono (call w s₀ s₁ mg mb fa o pm cd doc a vs ns G Y ho (fd_plain hd) hcd hmg hobj hints hlen hg) λr s' hq=>?_);refine jt hq λZX h2 h3 h4=>?_;subst ZX;exact⟨.inl ⟨.bool true,.bool true,[],rfl,λx=>rfl,.bool true,yH l _,λx=>⟨List.Pairwise.nil,λx hm=>(nomatch hm)⟩⟩,h2,h3,h4⟩
end Att
namespace L2
open PySem PySem.Spec PyProof.Rows
theorem j7:∀{vs:ZK} {ns:ZL},K6 vs ns->aP (ns.map V.int) vs:=λp=>by
 induction p with
 |nil=>exact .nil
 |cons n t _ ih=>exact .cons ⟨t,rfl⟩ ih
def Only(H:Hp):Prop:=∀b,H b=none\/∃o xs,H b=some (.frz o<|.lst xs)
end L2
namespace L2
open PySem PySem.Spec PyProof.Rows
noncomputable def inClass(s:Stmt)(j:Nat):Stmt:=match s with
 |.ClassDef _ _ _ body _ _ _ _ _ _ _=>body.getD j<|.Pass ⟨0,0,0,0⟩
 |_=>.Pass ⟨0,0,0,0⟩
noncomputable def bK(s:Stmt):Arguments:=match s with
 |.FunctionDef _ a _ _ _ _ _ _ _ _=>a
 |_=>{posonlyargs:=[],args:=[],vararg:=none,kwonlyargs:=[],kw_defaults:=[],kwarg:=none,defaults:=[]}
noncomputable def aX(s:Stmt):List Stmt:=match s with
 |.FunctionDef _ _ b _ _ _ _ _ _ _=>b
 |_=>[]
noncomputable def ah(s:Stmt):Scope:=match s with
 |.FunctionDef _ _ _ _ _ _ sc _ _ _=>sc
 |_=>{kind:=.function,names:=[],isGenerator:=false,isCoroutine:=false}
abbrev sZ:CXT:=λx x x x x x=>False
abbrev E0:XK:=λx x x=>False
theorem Aj:kZ sZ X E0:=λx x x x x x x h=>h.elim
structure Fun(K:Z4)(x qual:Str)(st:Stmt)(f:Addr)(fd:FuncData):Prop where
 ex:∃(oc:Value) (od:Zr) (kV doc pm:Value) (an:Zr) (ZP ct:Value) (osl:Za),
  fd=R6 x qual (bK st) (aX st) (ah st) .none kV doc pm an ZP ct/\K.lookup f=some ⟨oc,od,.func fd,osl⟩/\N2 K ZP qual=true
 kp:R3 K (.ref f)=true
section
variable {P:U4}{w:World}{K:Z4}{mg:ZH}{base:Heap}
theorem Fun.ok{st:Stmt}(F:Fun K x qual st f fd)(S:FnScope N ps (ah st))(len:∀vs H Q E,sp vs H Q E->vs.length=ps.length)(hbody:∀(ZP:Value) (A:Around) (outer:List Env) (s:Shared) (H:Hp) (vs:List V) (Q:VK) (E:XK),Room k (A.deeper<|envOfC qual (ah st) s.heap.objs.size f ZP)->sp vs H Q E ->
   ∃t,mX (me sZ P w K mg base N qual (ah st) f ZP A outer s H E).nox (aX st) t/\t {nx:=λa H'=>Q .non H',rt:=Q} (start N vs) H):FnOk P w K mg base sZ (k+1) f fd ps sp:=by
 refine uR F.ex λoc od kV doc pm an ZP zz=>ay zz λct osl eq9_ lk hcd=>?_;subst eq9_;refine fn_of lk hcd S len λA outer s H vs Q E hr hsp=>?_;refine aa (hbody ZP A outer s H vs Q E hr hsp) λt h q=>?_;exact⟨t,h.nox,q⟩
theorem Fun.binds{st:Stmt}(F:Fun K x qual st f fd)(h:∀(kV doc pm:Value) (an:Zr) (ZP ct:Value) (us:ZK),us.length=ps.length->bindArgs (R6 x qual (bK st) (aX st) (ah st) .none kV doc pm an ZP ct) ⟨us,[]⟩=pure (ps.zip us)):Binds K fd ps []:=by refine uR F.ex λoc od kV doc pm an ZP zz=>ay zz λct osl eq9_ lk hcd=>?_;subst eq9_;exact .all<|h kV doc pm an ZP ct
theorem gU{st:Stmt}{kV doc pm ZP ct:Value}(l:K.lookup f=some ⟨oc,od,.func<|R6 x qual (bK st) (aX st) (ah st) .none kV doc pm an ZP ct,osl⟩)(c:N2 K ZP qual=true)(k:R3 K (.ref f)=true):Fun K x qual st f (R6 x qual (bK st) (aX st) (ah st) .none kV doc pm an ZP ct):=⟨⟨oc,od,kV,doc,pm,an,ZP,ct,osl,rfl,l,c⟩,k⟩
end
theorem bC(hr:Room k A):A.units+1<cLine:=dI (Nat.add_le_add_left (by decide:1<=64) _) hr.units
section
variable {X:Cx}
theorem pv(i:Nat){x:Str}{pos:Pos}(hN:autoParam (X.N[i]?=some x) L2.eX._auto_1)(hv:Vis X.env.scope x:=by first|exact Or.inl rfl|exact Or.inr (Or.inl rfl)|exact Or.inr<|Or.inr rfl)(hd:autoParam ((x==("__debug__":Str))=false) L2.ir._auto_1)(hcd:autoParam ((x==("__classdict__":Str))=false) L2.ir._auto_1):PE X (.Name x pos) (dO i):=pe_var hN hv hd hcd
end
def aY(H H':Hp):Prop:=∀b o,H b=some o->H' b=some o
theorem aY.refl(H:Hp):aY H H:=λx x h=>h
theorem aY.trans(a:aY H H1)(b:aY H1 H2):aY H H2:=λc o h=>b c o<|a c o h
theorem aY.free(e:aY H H')(h:H' l=Option.none):H l=Option.none:=by
 cases q:H l with
 |none=>rfl
 |some o =>rw[e l o q]at h;cases h
theorem aY.seq{K:Z4}(e:aY H H')(h:fm K H a xs):fm K H' a xs:=by
 rcases h with (h|⟨o,h⟩)|h
 ·exact .inl<|.inl<|e _ _ h
 ·exact .inl<|.inr ⟨o,e _ _ h⟩
 ·exact .inr h
end L2
set_option maxHeartbeats 1000000
namespace Fl
noncomputable def mn(i j:Int):Int:=if j<i then j else i
noncomputable def mx(i j:Int):Int:=if j > i then j else i
noncomputable def cellAt(ns:ZL)(k:Nat):Int:=ns.getD k 0
theorem mx_le(h1:a<=k)(h2:b<=k):mx a b<=k:=by unfold mx;split<;>assumption
theorem le_mxl(a b:Int):a<=mx a b:=by
 unfold mx;split
 ·exact Int.le_of_lt (by assumption)
 ·exact Int.le_refl _
theorem mn_lel(a b:Int):mn a b<=a:=by
 unfold mn;split
 ·exact Int.le_of_lt (by assumption)
 ·exact Int.le_refl _
theorem jX{i j c:Nat}(hj:j<c):(i*c+j)/c=i/\(i*c+j)%c=j:=by
 have hc:0<c:=by lia
 constructor
 ·rw[Nat.mul_comm,Nat.mul_add_div hc,Nat.div_eq_of_lt hj];lia
 ·rw[Nat.mul_comm,Nat.mul_add_mod,Nat.mod_eq_of_lt hj]
end Fl
namespace Fl
noncomputable def mj(a b:Int):Int:=if a-b<0 then -(a-b) else a-b
theorem t4(a b:Int):mj a b=mj b a:=by unfold mj;split<;>split<;>lia
noncomputable def sI(c:Nat)(reach:Int)(x o:Nat):Bool :=
 decide (mj (o/c:Nat) (x/c:Nat)+mj (o%c:Nat) (x%c:Nat)=1\/(reach=8/\mj (o/c:Nat) (x/c:Nat)=1/\mj (o%c:Nat) (x%c:Nat)=1))
noncomputable def gV(m c:Nat)(reach:Int)(x:Nat):List Nat:=(X9<|m*c).filter (sI c reach x)
theorem Ak(c:Nat)(reach:Int)(x o:Nat):sI c reach x o=sI c reach o x:=by unfold sI;rw[t4 (o/c:Nat),t4 (o%c:Nat)]
theorem fq:o∈gV m c reach x↔o<m*c/\sI c reach x o=true:=by unfold gV;rw[P0,P7]
theorem mH(m c:Nat)(reach:Int)(x:Nat):(gV m c reach x).length<=m*c:=by unfold gV;exact b8 (K9 _ _) (by rw[U1];exact bD _)
theorem qj(p:Zo)(n:Nat):(X9<|n+1).filter p=(X9 n).filter p++(if p n=true then [n] else []):=by
 rw[List.range_succ,List.filter_append];congr 1;by_cases h:p n=true
 ·rw[if_pos h];simp[h]
 ·rw[if_neg h];simp[h]
theorem j8(p:Zo)(a:Nat):∀(b:Nat),a<=b->(∀i,a<=i->i<b->p i=false)->(X9 b).filter p=(X9 a).filter p:=by
 intro b;induction b with
 |zero=>exact λh x=>Nat.le_zero.mp h▸rfl
 |succ b ih =>
  intro h hp;by_cases e:a=b+1
  ·rw[e]
  ·rw[qj,ih (by lia) λi h1 h2=>hp i h1 (by exact eJ h2<|W5 _),hp b (by lia) (by exact W5 _)];simp
theorem adj_at(hk:k<c)(reach:Int)(x r:Nat):sI c reach x (r*c+k)=decide (mj (r:Nat) (x/c:Nat)+mj (k:Nat) (x%c:Nat)=1\/(reach=8/\mj (r:Nat) (x/c:Nat)=1/\mj (k:Nat) (x%c:Nat)=1)):=by refine ax (jX (i:=r) hk) λe1 e2=>?_;unfold sI;rw[e1,e2]
theorem lK(hc:0<c)(h:o/c+1<x/c\/x/c+1<o/c):sI c reach x o=false:=by unfold sI;rw[decide_eq_false_iff_not];unfold mj;split<;>split<;>omega
theorem lL(h:o%c+1<x%c\/x%c+1<o%c):sI c reach x o=false:=by unfold sI;rw[decide_eq_false_iff_not];unfold mj;split<;>split<;>lia
end Fl
namespace Gr
inductive Rch(nb:ZE)(ok:Zt)(x:Nat):Nat->Prop where
 |here:Rch nb ok x x
 |on {y z:Nat}:Rch nb ok x y->nb y z->ok z->Rch nb ok x z
section
variable {nb:ZE}{ok:Zt}{x y z:Nat}
theorem Rch.closed{S:Zt}(hx:S x)(hc:∀y z,S y->nb y z->ok z->S z)(h:Rch nb ok x y):S y:=by
 induction h with
 |here=>exact hx
 |on _ h1 h2 ih=>exact hc _ _ ih h1 h2
theorem Rch.trans(h:Rch nb ok x y)(h':Rch nb ok y z):Rch nb ok x z:=by
 induction h' with
 |here=>exact h
 |on _ h1 h2 ih=>exact .on ih h1 h2
theorem Rch.ok_(hx:ok x)(h:Rch nb ok x y):ok y:=by
 cases h with
 |here=>exact hx
 |on _ _ h=>exact h
theorem Rch.symm(sy:∀a b,nb a b->nb b a)(hx:ok x)(h:Rch nb ok x y):Rch nb ok y x:=by
 induction h with
 |here=>exact .here
 |on h1 h2 h3 ih=>exact Rch.trans (.on .here (sy _ _ h2)<|h1.ok_ hx) ih
theorem Rch.mono{nb':ZE}{ok':Zt}(h1:∀a b,nb a b->ok b->nb' a b/\ok' b)(h:Rch nb ok x y):Rch nb' ok' x y:=by
 induction h with
 |here=>exact .here
 |on _ h2 h3 ih=>exact .on ih (h1 _ _ h2 h3).1 (h1 _ _ h2 h3).2
end
theorem jY:∀(n:Nat) {l:ZM},l.Nodup->(∀x∈l,x<n)->l.length<=n:=by
 intro n;induction n with
 |zero =>
  intro l hn h;cases l with
  |nil=>exact bD _
  |cons a l=>exact absurd (h a<|Y4.mpr<|.inl rfl)<|O6 _
 |succ n ih =>
  intro l hn h;have h1:=ih (l:=l.erase n) (hn.erase n) λx hx=>by have:=(hn.mem_erase_iff).mp hx;have:=h x this.2;have:x≠n:=(hn.mem_erase_iff.mp hx).1;lia
  rw[List.length_erase]at h1;split at h1
  ·lia
  ·exact cT<|dI h1<|W5 _
structure Sea(nb:Zy)(ok:Zo)(x:Nat)(ks ws:ZM):Prop where
 nd:ks.Nodup
 x_in:x∈ks
 rch:∀k∈ks,Rch (λa b=>b∈nb a) (λa=>ok a=true) x k
 sub:∀w∈ws,w∈ks
 clo:∀k∈ks,k∉ws->∀o∈nb k,ok o=true->o∈ks
structure SeaAt(nb:Zy)(ok:Zo)(x u:Nat)(done ks ws:ZM):Prop where
 nd:ks.Nodup
 x_in:x∈ks
 rch:∀k∈ks,Rch (λa b=>b∈nb a) (λa=>ok a=true) x k
 sub:∀w∈ws,w∈ks
 clo:∀k∈ks,k∉ws->k≠u->∀o∈nb k,ok o=true->o∈ks
 u_in:u∈ks
 dn:∀o∈done,ok o=true->o∈ks
section
variable {nb:Zy}{ok:Zo}{x u o:Nat}{done ks ws:ZM}
theorem Sea.start:Sea nb ok x [x] [x]:=⟨by simp,by simp,λk hk=>by simp at hk;subst hk;exact .here,λw hw=>hw,λk hk hn=>absurd hk hn⟩
theorem Sea.take(s:Sea nb ok x ks ws)(hu:u∈ws)(hw:∀w∈ws,w=u\/w∈ws')(hs:∀w∈ws',w∈ws):SeaAt nb ok x u [] ks ws' :=
 ⟨s.nd,s.x_in,s.rch,λw h=>s.sub w<|hs w h,λk hk hn hne o ho=>s.clo k hk (λz=>(hw k z).elim hne hn) o ho,s.sub u hu,λa h=>nomatch h⟩
theorem SeaAt.skip(s:SeaAt nb ok x u done ks ws)(h:ok o=true->o∈ks):SeaAt nb ok x u (done++[o]) ks ws :=
 ⟨s.nd,s.x_in,s.rch,s.sub,s.clo,s.u_in,λp hp=>by
  rcases W0.mp hp with z|z
  ·exact s.dn p z
  ·rw[Y3.mp z];exact h⟩
theorem SeaAt.add(s:SeaAt nb ok x u done ks ws)(ho:o∈nb u)(hok:ok o=true)(hn:o∉ks)(hw:∀w,w∈ws'↔w∈ws\/w=o):SeaAt nb ok x u (done++[o]) (ks++[o]) ws':=by
 refine⟨?_,U7 _ s.x_in,λk hk=>?_,λw h=>?_,λk hk hnk hne p hp hp'=>?_,U7 _ s.u_in,λp hp hp'=>?_⟩
 ·rw[List.nodup_append];exact⟨s.nd,by simp,λa ha b hb=>by rw[Y3.mp hb];rintro rfl;exact hn ha⟩
 ·rcases W0.mp hk with z|z
  ·exact s.rch k z
  ·rw[Y3.mp z];exact .on (s.rch u s.u_in) ho hok
 ·rcases(hw w).mp h with z|z
  ·exact U7 _<|s.sub w z
  ·rw[z];exact Y8 _ (by simp)
 ·rcases W0.mp hk with z|z
  ·exact U7 _<|s.clo k z (λq=>hnk<|(hw k).mpr (.inl q)) hne p hp hp'
  ·exact absurd ((hw k).mpr (.inr<|Y3.mp z)) hnk
 ·rcases W0.mp hp with z|z
  ·exact U7 _<|s.dn p z hp'
  ·exact Y8 _ z
theorem SeaAt.fin(s:SeaAt nb ok x u (nb u) ks ws):Sea nb ok x ks ws :=
 ⟨s.nd,s.x_in,s.rch,s.sub,λk hk hn o ho hok=>by
  by_cases e:k=u
  ·subst e;exact s.dn o ho hok
  ·exact s.clo k hk hn e o ho hok⟩
theorem Sea.all(s:Sea nb ok x ks []):y∈ks↔Rch (λa b=>b∈nb a) (λa=>ok a=true) x y :=
 ⟨s.rch y,λh=>h.closed (S:=λz=>z∈ks) s.x_in λa b ha hb hok=>s.clo a ha (by simp) b hb hok⟩
end
end Gr
namespace Gr
def Lv(n:Nat)(ρ:ZG)(k:Nat)(z:Nat):Prop:=z<n/\ρ z<k
structure Fst(A:ZE)(n:Nat)(ρ:ZG)(k x r:Nat):Prop where
 rch:Rch A (Lv n ρ k) x r
 lv:Lv n ρ k r
 min:∀y,Rch A (Lv n ρ k) x y->ρ r<=ρ y
inductive Liv(par:Zl):Nat->Nat->Prop where
 |root {s:Nat}:par s=none->Liv par s s
 |up {s m e r:Nat}:par s=some (m,e)->Liv par e r->Liv par s r
section
variable {A:ZE}{n:Nat}{ρ:ZG}{k:Nat}{par par':Zl}
theorem Liv.det(h:Liv par s r)(h':Liv par s r'):r=r':=by
 induction h with
 |root e=>cases h' with
  |root=>rfl
  |up e'=>rw[e]at e';cases e'
 |up e _ ih=>cases h' with
  |root e'=>rw[e]at e';cases e'
  |up e' q=>rw[e]at e';cases e';exact ih q
theorem Liv.end_(h:Liv par s r):par r=none:=by
 induction h with
 |root e=>exact e
 |up _ _ ih=>exact ih
theorem Liv.more(hp:∀z,par z≠none->par' z=par z)(h:Liv par s r)(h':Liv par' r r'):Liv par' s r':=by
 induction h with
 |root=>exact h'
 |up e _ ih=>exact .up ((hp _ (by rw[e];exact nofun)).trans e)<|ih h'
theorem Lv.up(h:Lv n ρ k z):Lv n ρ (k+1) z:=⟨h.1,by have:=h.2;exact eJ this<|W5 _⟩
theorem Rch.up(h:Rch A (Lv n ρ k) x y):Rch A (Lv n ρ<|k+1) x y:=h.mono λa a h1 h2=>⟨h1,h2.up⟩
theorem Fst.same(inj:∀x y,x<n->y<n->ρ x=ρ y->x=y)(h:Fst A n ρ k x r)(h':Fst A n ρ k x r'):r=r' :=
 inj r r' h.lv.1 h'.lv.1 (T5 (h.min _ h'.rch)<|h'.min _ h.rch)
theorem Fst.of_rch(sy:∀a b,A a b->A b a)(hx:Lv n ρ k x)(h:Rch A (Lv n ρ k) x y)(f:Fst A n ρ k x r):Fst A n ρ k y r :=
 ⟨(h.symm sy hx).trans f.rch,f.lv,λz hz=>f.min z<|h.trans hz⟩
theorem Rch.new(sy:∀a b,A a b->A b a)(inj:∀x y,x<n->y<n->ρ x=ρ y->x=y)(hc:c<n)(hρ:ρ c=k)(hx:Lv n ρ k x)(h:Rch A (Lv n ρ<|k+1) x y):
  Rch A (Lv n ρ k) x y\/∃o,A c o/\Lv n ρ k o/\Rch A (Lv n ρ k) x o/\(y=c\/∃o',A c o'/\Lv n ρ k o'/\Rch A (Lv n ρ k) o' y):=by
 have two:∀{z:Nat},Lv n ρ (k+1) z->Lv n ρ k z\/z=c:=λ{z} h=>by
  by_cases e:ρ z<k
  ·exact .inl ⟨h.1,e⟩
  ·exact .inr<|inj z c h.1 hc (by have:=h.2;exact T5 (b8 (T1 this)<|bG hρ.symm)<|b8 (bG hρ)<|U6.mp e)
 induction h with
 |here=>exact .inl .here
 |@on y z h1 h2 h3 ih =>
  rcases ih with q|zr1_
  ·rcases two h3 with w|rfl
   ·exact .inl<|.on q h2 w
   ·exact .inr<|jQ y (sy _ _ h2) (q.ok_ hx) q<|.inl rfl
  ·refine ju zr1_ λo o1 o2 o3 q=>?_;rcases two h3 with w|rfl
   ·rcases q with rfl|zr2_
    ·exact .inr<|jQ o o1 o2 o3<|.inr<|cD z h2 w .here
    ·refine aE zr2_ λo' p1 p2 p3=>?_;exact .inr<|jQ o o1 o2 o3<|.inr<|cD o' p1 p2<|.on p3 h2 w
   ·exact .inr<|jQ o o1 o2 o3<|.inl rfl
theorem Rch.newc(sy:∀a b,A a b->A b a)(inj:∀x y,x<n->y<n->ρ x=ρ y->x=y)(hc:c<n)(hρ:ρ c=k)(h:Rch A (Lv n ρ<|k+1) c y):y=c\/∃o',A c o'/\Lv n ρ k o'/\Rch A (Lv n ρ k) o' y:=by
 have two:∀{z:Nat},Lv n ρ (k+1) z->Lv n ρ k z\/z=c:=λ{z} h=>by
  by_cases e:ρ z<k
  ·exact .inl ⟨h.1,e⟩
  ·exact .inr<|inj z c h.1 hc (by have:=h.2;exact T5 (b8 (T1 this)<|bG hρ.symm)<|b8 (bG hρ)<|U6.mp e)
 induction h with
 |here=>exact .inl rfl
 |@on y z h1 h2 h3 ih =>
  rcases two h3 with w|rfl
  ·rcases ih with rfl|zr3_
   ·exact .inr<|cD z h2 w .here
   ·refine aE zr3_ λo' p1 p2 p3=>?_;exact .inr<|cD o' p1 p2<|.on p3 h2 w
  ·exact .inl rfl
structure UF(A:ZE)(n:Nat)(ρ:ZG)(k:Nat)(home:Ze)(par:Zl):Prop where
 dom:∀x,home x≠none->Lv n ρ k x
 has:∀x,Lv n ρ k x->∃s,home x=some s
 hm:∀x s,home x=some s->Fst A n ρ (ρ x+1) x s
 own:∀x s,home x=some s->home s=some s
 pr:∀s m e,par s=some (m,e)->home s=some s/\home e=some e/\Lv n ρ k m/\ρ s<ρ m/\Fst A n ρ (ρ m) s s/\Fst A n ρ (ρ m+1) s e/\e≠s
 liv:∀x s,home x=some s->∃r,Liv par s r/\Fst A n ρ k x r
theorem UF.start:UF A n ρ 0 (λx=>none) (λx=>none):=⟨λx h=>absurd rfl h,λx h=>absurd h.2<|O6 _,λx x h=>(nomatch h),λx x h=>(nomatch h),λx x x h=>(nomatch h),λx x h=>(nomatch h)⟩
variable {home home':Ze}
theorem UF.root(u:UF A n ρ k home par)(hs:home s=some s)(h:Liv par s r):home r=some r:=by
 induction h with
 |root=>exact hs
 |up e _ ih=>exact ih (u.pr _ _ _ e).2.1
theorem UF.rk_pr(inj:∀x y,x<n->y<n->ρ x=ρ y->x=y)(u:UF A n ρ k home par)(h:par s=some (m,e)):ρ e<ρ s:=by refine gl (u.pr s m e h) λh1 h2 h3 h4 zy0=>aV zy0 λh5 h6 h7=> ?_;have:=h6.min s .here;have ne:ρ e≠ρ s:=λz=>h7<|inj e s h6.lv.1 h5.lv.1 z;lia
theorem UF.alone(sy:∀a b,A a b->A b a)(inj:∀x y,x<n->y<n->ρ x=ρ y->x=y)(u:UF A n ρ k home par)(hc:c<n)(hρ:ρ c=k)(no:∀o,A c o->¬ Lv n ρ k o)(h1:home' c=some c)(h2:∀x,x≠c->home' x=home x):UF A n ρ (k+1) home' par:=by
 have ncl:¬ Lv n ρ k c:=λz=>by have:=z.2;exact U6.mpr (bG hρ.symm) this
 have nec:∀{x s:Nat},home x=some s->x≠c:=λ{x s} h z=>ncl<|u.dom c (by rw[<- z,h];exact nofun);have fc:Fst A n ρ (k+1) c c:=⟨.here,⟨hc,by exact dI (bG hρ)<|W5 _⟩,λy hy=>by
  rcases hy.newc sy inj hc hρ with rfl|zr4_
  ·exact bD _
  ·refine aE zr4_ λo p1 p2 i=>?_;exact absurd p2<|no o p1⟩
 refine⟨λx hx=>?_,λx hx=>?_,λx s hx=>?_,λx s hx=>?_,λs m e h=>?_,λx s hx=>?_⟩
 ·by_cases e:x=c
  ·subst e;exact⟨hc,by exact dI (bG hρ)<|W5 _⟩
  ·rw[h2 x e]at hx;exact(u.dom x hx).up
 ·by_cases e:x=c
  ·subst e;exact⟨x,h1⟩
  ·rw[h2 x e];refine u.has x ⟨hx.1,?_⟩;have:ρ x≠k:=λz=>e<|inj x c hx.1 hc (by exact T5 (b8 (bG z)<|bG hρ.symm)<|b8 (bG hρ)<|bG z.symm);have:=hx.2;lia
 ·by_cases e:x=c
  ·subst e;rw[h1]at hx;cases hx;rw[hρ];exact fc
  ·rw[h2 x e]at hx;exact u.hm x s hx
 ·by_cases e:x=c
  ·subst e;rw[h1]at hx;cases hx;exact h1
  ·rw[h2 x e]at hx;have:=u.own x s hx;rw[h2 s (nec this)];exact this
 ·refine gl (u.pr s m e h) λg1 g2 g3 g4 zy0=>aV zy0 λg5 g6 g7=> ?_;exact⟨(by rw[h2 s (nec g1)];exact g1),(by rw[h2 e (nec g2)];exact g2),g3.up,g4,g5,g6,g7⟩
 ·by_cases e:x=c
  ·subst e;rw[h1]at hx;cases hx;refine(aF x (.root ?_) fc);cases q:par x with
   |none=>rfl
   |some p=>exact absurd rfl<|nec (u.pr x p.1 p.2 q).1
  ·rw[h2 x e]at hx;refine aa (u.liv x s hx) λr l f=>?_;have lx:=u.dom x (by rw[hx];exact nofun);refine⟨r,l,f.rch.up,f.lv.up,λy hy=>?_⟩;rcases hy.new sy inj hc hρ lx with q|zr5_
   ·exact f.min y q
   ·refine aE zr5_ λo p1 p2 i=>?_;exact absurd p2<|no o p1
theorem UF.meet(sy:∀a b,A a b->A b a)(inj:∀x y,x<n->y<n->ρ x=ρ y->x=y)(u:UF A n ρ k home par){met:ZM}(hc:c<n)(hρ:ρ c=k)(m1:∀o s,A c o->home o=some s->∃r,r∈met/\Liv par s r)(m2:∀r,r∈met->∃o s,A c o/\home o=some s/\Liv par s r)(he:elder∈met)(hmin:∀r,r∈met->ρ elder<=ρ r)(h1:home' c=some elder)(h2:∀x,x≠c->home' x=home x)(p1:∀s,s∈met->s≠elder->par' s=some (c,elder))(p2:∀s,¬ (s∈met/\s≠elder)->par' s=par s):UF A n ρ (k+1) home' par':=by
 have ncl:¬ Lv n ρ k c:=λz=>by have:=z.2;exact U6.mpr (bG hρ.symm) this
 have nec:∀{x s:Nat},home x=some s->x≠c:=λ{x s} h z=>ncl<|u.dom c (by rw[<- z,h];exact nofun);have L0:∀o,A c o->Lv n ρ k o->∃r,r∈met/\Fst A n ρ k o r:=λo ho lo=>by refine ao (u.has o lo) λs hs=>?_;refine aa (m1 o s ho hs) λr g1 g2=>?_;refine aa (u.liv o s hs) λr' g3 g4=>?_;have:=g2.det g3;subst this;exact(aF r g1 g4)
 have L0':∀r,r∈met->∃o,A c o/\Lv n ρ k o/\Fst A n ρ k o r:=λr hr=>by refine ay (m2 r hr) λo s g1 g2 g3=>?_;refine aa (u.liv o s g2) λr' g4 g5=>?_;have:=g3.det g4;subst this;exact(cD o g1 (u.dom o (by rw[g2];exact nofun)) g5)
 have lc:Lv n ρ (k+1) c:=⟨hc,by exact dI (bG hρ)<|W5 _⟩;have L1:Fst A n ρ (k+1) c elder:=by
  refine aE (L0' elder he) λo g1 g2 g3=>?_;refine⟨Rch.trans (.on .here g1 g2.up) g3.rch.up,g3.lv.up,λy hy=>?_⟩;rcases hy.newc sy inj hc hρ with rfl|zr6_
  ·have:=g3.lv.2;exact cT<|bZ this<|bG hρ.symm
  ·refine aE zr6_ λo' q1 q2 q3=>?_;refine aa (L0 o' q1 q2) λr' r1 r2=>?_;exact b8 (hmin r' r1)<|r2.min y q3
 have L2:∀x r,Lv n ρ k x->Fst A n ρ k x r->r∈met->Fst A n ρ (k+1) x elder:=λx r lx f hr=>by refine aE (L0' r hr) λo g1 g2 g3=>?_;have xc:Rch A (Lv n ρ<|k+1) x c:=.on ((f.rch.trans<|g3.rch.symm sy g2).up) (sy _ _ g1) lc;exact⟨xc.trans L1.rch,L1.lv,λy hy=>L1.min y<|(xc.symm sy lx.up).trans hy⟩
 have L3:∀x r,Lv n ρ k x->Fst A n ρ k x r->r∉met->Fst A n ρ (k+1) x r:=λx r lx f hr=>by
  refine⟨f.rch.up,f.lv.up,λy hy=>?_⟩;rcases hy.new sy inj hc hρ lx with q|zr7_
  ·exact f.min y q
  ·refine ju zr7_ λo q1 q2 q3 i=>?_;refine aa (L0 o q1 q2) λr' r1 r2=>?_;have:=(f.of_rch sy lx q3).same inj r2;exact absurd (this▸r1) hr
 have pn:∀r,r∈met->par r=none:=λr hr=>by refine ay (m2 r hr) λo s g1 g2 g3=>?_;exact g3.end_
 have hr:∀r,r∈met->home r=some r:=λr hr=>by refine ay (m2 r hr) λo s g1 g2 g3=>?_;exact u.root (u.own o s g2) g3
 have keep:∀z,par z≠none->par' z=par z:=λz hz=>p2 z λq=>hz<|pn z q.1;have le:Liv par' elder elder:=.root<|(p2 elder λq=>q.2 rfl).trans (pn elder he);refine⟨λx hx=>?_,λx hx=>?_,λx s hx=>?_,λx s hx=>?_,λs m e h=>?_,λx s hx=>?_⟩
 ·by_cases e:x=c
  ·subst e;exact lc
  ·rw[h2 x e]at hx;exact(u.dom x hx).up
 ·by_cases e:x=c
  ·subst e;exact⟨elder,h1⟩
  ·rw[h2 x e];refine u.has x ⟨hx.1,?_⟩;have:ρ x≠k:=λz=>e<|inj x c hx.1 hc (by exact T5 (b8 (bG z)<|bG hρ.symm)<|b8 (bG hρ)<|bG z.symm);have:=hx.2;omega
 ·by_cases e:x=c
  ·subst e;rw[h1]at hx;cases hx;rw[hρ];exact L1
  ·rw[h2 x e]at hx;exact u.hm x s hx
 ·by_cases e:x=c
  ·subst e;rw[h1]at hx;cases hx;rw[h2 _ (nec<|hr _ he)];exact hr _ he
  ·rw[h2 x e]at hx;have:=u.own x s hx;rw[h2 s (nec this)];exact this
 ·by_cases q:s∈met/\s≠elder
  ·rw[p1 s q.1 q.2]at h;cases h;have hs:=hr s q.1;refine aE (L0' s q.1) λo g1 g2 g3=>?_;have fs:=g3.of_rch sy g2 g3.rch;refine⟨(by rw[h2 s (nec hs)];exact hs),(by rw[h2 _ (nec<|hr _ he)];exact hr _ he),lc,?_,(by rw[hρ];exact fs),(by rw[hρ];exact L2 s s g3.lv fs q.1),(λz=>q.2 z.symm)⟩;have:=g3.lv.2;exact bZ this<|bG hρ.symm
  ·rw[p2 s q]at h;refine gl (u.pr s m e h) λg1 g2 g3 g4 zy0=>aV zy0 λg5 g6 g7=> ?_;exact⟨(by rw[h2 s (nec g1)];exact g1),(by rw[h2 e (nec g2)];exact g2),g3.up,g4,g5,g6,g7⟩
 ·by_cases e:x=c
  ·subst e;rw[h1]at hx;cases hx;exact(aF _ le L1)
  ·rw[h2 x e]at hx;refine aa (u.liv x s hx) λr l f=>?_;have lx:=u.dom x (by rw[hx];exact nofun);by_cases q:r∈met
   ·refine(aF elder (l.more keep ?_)<|L2 x r lx f q);by_cases qe:r=elder
    ·rw[qe];exact le
    ·exact .up (p1 r q qe) le
   ·exact(aF r (l.more keep<|.root<|(p2 r λz=>q z.1).trans l.end_)<|L3 x r lx f q)
end
end Gr
namespace Srt
theorem mid(h:l<r)(h3:r-l<=f+1):l<=(l+r)/2/\(l+r)/2<r/\(l+r)/2-l<=f/\r-((l+r)/2+1)<=f:=by
 have a:l<=(l+r)/2:=(Nat.le_div_iff_mul_le (by decide)).mpr (by rw[Nat.mul_two];exact Nat.add_le_add_left (cT h) l);have b:(l+r)/2<r:=(Nat.div_lt_iff_lt_mul (by decide)).mpr (by rw[Nat.mul_two];exact Nat.add_lt_add_right h r);have c:r-(l+1)<=f:=by rw[Nat.sub_add_eq];exact Nat.sub_le_of_le_add h3
 refine⟨a,b,b8 (Nat.sub_le_sub_right (Nat.le_sub_one_of_lt b) l) ?_,b8 (Nat.sub_le_sub_left (N5 a) r) c⟩;rw[Nat.sub_sub,Nat.add_comm];exact c
open PySem PySem.W PyProof.Rows
structure Lin(c:Zn)(n:Nat):Prop where
 irr:∀i,i<n->c i i=false
 tr:∀i j k,i<n->j<n->k<n->c i j=true->c j k=true->c i k=true
 tot:∀i j,i<n->j<n->i≠j->c i j=false->c j i=true
structure Arr(n:Nat)(p:Zk):Prop where
 sz:p.size=n
 pm:p.toList.Perm (X9 n)
noncomputable abbrev at'(p:Zk)(i:Nat):Nat:=p.getD i 0
def Up(c:Zn)(p:Zk)(k:Nat):Prop:=∀i j,i<j->j<k->c (at' p i) (at' p j)=true
section
variable {c:Zn}{n:Nat}(L:Lin c n)
include L
end
end Srt
namespace L2
open PySem PySem.Spec PyProof.Rows
theorem vg{env:Env}:∀(names:List (Str×K0)) (cs:Zq),(∀y∈names,y.2=.free->∃c,env.cells.lookup y.1=some c) ->
  ∃cl,(forIn names cs λ(x:Str×K0) (r:Zq)=>(match x with
   |(name,kind)=>if (kind==E4)=true then do let a <- cellOf env name;pure (ForInStep.yield ((name,a) ::r)) else pure (ForInStep.yield r):Sem (ForInStep<|List<|Str×Addr)))=pure cl /\
   (∀p∈cl,p∈cs\/env.cells.lookup p.1=some p.2)/\(∀p∈cs,p∈cl)/\∀y∈names,y.2=.free->∃c,(y.1,c)∈cl:=by
 intro names;induction names with
 |nil=>exact λcs b=>(jQ cs rfl (λp h=>.inl h) (λp h=>h) λy h=>nomatch h)
 |cons x r ih =>
  intro cs h;cases x with|mk n k=>?_;by_cases hk:k=.free
  ·refine ao (h (n,k) V1 hk) λc hc=>?_;refine ju (ih ((n,c) ::cs) λy hy=>h y<|W4 _ hy) λcl e h1 h2 h3=>?_;refine(jQ cl ?_ (λp hp=>?_) (λp hp=>h2 p<|W4 _ hp) λy hy hf=>?_)
   ·rw[List.forIn_cons];have e1:cellOf env n=pure c:=by unfold cellOf;rw[hc]
    simp only[hk,beq_self_eq_true,if_true,e1,pure_bind];exact e
   ·exact(h1 p hp).elim (λz=>(Y4.mp z).elim (λz=>.inr<|z▸hc) .inl) .inr
   ·exact(Y4.mp hy).elim (λz=>⟨c,z▸h2 _ V1⟩) λz=>h3 y z hf
  ·refine ju (ih cs λy hy=>h y<|W4 _ hy) λcl e h1 h2 h3=>?_;refine(jQ cl ?_ h1 h2 λy hy hf=>?_)
   ·have hb:(k==E4)=false:=by simpa using hk
    rw[List.forIn_cons];simp only[hb,Q4,if_false,pure_bind];exact e
   ·exact(Y4.mp hy).elim (λz=>absurd ((congrArg Prod.snd z).symm.trans hf) hk) λz=>h3 y z hf
theorem pE{β:Type}{c:β}:∀{l:List (Str×β)},(x,c)∈l->∃d,l.lookup x=some d:=by
 intro l;induction l with
 |nil=>exact λh=>nomatch h
 |cons y r ih =>
  intro h;rw[E8];cases hb:x==y.1 with
  |true=>exact⟨y.2,rfl⟩
  |false=>exact(Y4.mp h).elim (λz=>absurd hb (by rw[<- z];simp)) ih
theorem jy(h:∀y∈scope.names,y.2=.free->∃c,env.cells.lookup y.1=some c):
  ∃cl,closureFor scope env=pure cl/\(∀x c,cl.lookup x=some c->env.cells.lookup x=some c)/\∀y∈scope.names,y.2=.free->∃c,cl.lookup y.1=some c:=by
 refine ju (vg (env:=env) scope.names [] h) λcl e h1 a h3=>?_;refine(cD cl ?_ (λx c hx=>?_) λy hy hf=>?_)
 ·unfold closureFor;show (forIn scope.names [] _ >>= λcs=>pure cs)=pure cl;refine Eq.trans (congrArg (λm=>m >>= λcs=>pure cs) e) ?_;rw[pure_bind]
 ·rcases h1 _ (Q8 hx) with z|z
  ·exact nomatch z
  ·exact z
 ·refine ao (h3 y hy hf) λc hc=>?_;exact pE hc
theorem ji{env:Env}:∀{names:List (Str×K0)} {x:Str},names.lookup x=some .free->∃k,
  (names.map λ(n,k)=>if (k==E4&&env.scope.kind==.function&&env.kindOf n==some .cell) then (n,K0.cell) else (n,k)).lookup x=some k/\(k=.cell\/k=.free):=by
 intro names x;induction names with
 |nil=>exact λh=>nomatch h
 |cons y r ih =>
  intro h;cases y with|mk n k=>?_;show ∃k',J8 x ((if (k==E4&&env.scope.kind==.function&&env.kindOf n==some .cell)=true then (n,K0.cell) else (n,k)) ::_)=some k'/\_;cases hx:x==n with
  |true =>
   simp only[E8,hx]at h;cases h;by_cases hc:(E4==E4&&env.scope.kind==.function&&env.kindOf n==some .cell)=true
   ·exact(aF .cell (by rw[if_pos hc];simp[E8,hx])<|.inl rfl)
   ·exact(aF .free (by rw[if_neg hc];simp[E8,hx])<|.inr rfl)
  |false =>
   simp only[E8,hx]at h;refine aa (ih h) λk' e hk=>?_;refine(aF k' ?_ hk);by_cases hc:(k==E4&&env.scope.kind==.function&&env.kindOf n==some .cell)=true
   ·rw[if_pos hc];simp only[E8,hx];exact e
   ·rw[if_neg hc];simp only[E8,hx];exact e
section
variable {prog:U4}{w:World}{A:Around}{R:Result->Shared->Prop}{s:Shared}
theorem qP{elt target iter:Expr}{ifs:List Expr}{scope:Scope}{pos:Pos}{it acc:Value}{env:Env}(I:Nat->Shared->Prop)(turn:∀n s,I n s->wpAny (model prog w) A (pyNext it) (λr s₁=>match r with
   |none=>R (.ok .next) s₁
   |some v=>wpAny (model prog w) A (letOwnedTupleGo target it v) (λa s'=>wpAny (model prog w) A (assign target env v) (λa s₂ =>
     wpAny (model prog w) A (forIn ifs true λc r=>if r=true then do let ok <- isTrue c env (eval c env);pure (ForInStep.yield ok) else pure (ForInStep.yield r)) (λok s₃ =>
      if ok=true then wpAny (model prog w) A (eval elt env) (λx s₄ =>
       wpAny (model prog w) A (call (.builtin "list.append") [acc,x]) (λa s₅=>∃m,m<n/\I m s₅) (λa a=>False) s₄) (λa a=>False) s₃
      else ∃m,m<n/\I m s₃) (λa a=>False) s₂) (λa a=>False) s') (λa a=>False) s₁) (λa a=>False) s)(n:Nat)(h:I n s):codeAny (model prog w) A (.compLoop (.ListComp elt [⟨target,iter,ifs,0⟩] scope pos) 0 it acc env) R s:=by
 refine codeAny_loop rfl I (λn s hI=>?_) n h;show wpAny _ A ((compTurn (.ListComp elt [⟨target,iter,ifs,0⟩] scope pos) 0 it acc env).onRaise (λx=>do noteFrame x env;theTreesLotGoes x)) _ _ s;refine wpAny_noted ?_;rw[compTurn_list];refine Z0<|wpAny_standAt<|Z0 (R0 (turn n s hI) (λr s₁ h₁=>?_) λa a z=>z.elim);cases r with
 |none=>exact Z5 h₁
 |some v =>
  refine Z0 (R0 h₁ (λa s' h'=>?_) λa a z=>z.elim);refine Z0 (R0 h' (λa s₂ h₂=>Z0 (R0 h₂ (λok s₃ h₃=>?_) λa a z=>z.elim)) λa a z=>z.elim);cases ok with
  |false=>exact Z5 ⟨rfl,h₃⟩
  |true =>exact Z0<|Z0 (R0 h₃ (λx s₄ h₄=>Z0 (R0 h₄ (λa s₅ h₅=>Z5<|Z5 ⟨rfl,h₅⟩) λa a z=>z.elim)) λa a z=>z.elim)
end
noncomputable def dr(X:Cx)(N':ZF)(scope:Scope)(cl:Zq)(fp:Zx)(s3:Shared)(H3:Hp):Cx where
 prog:=X.prog
 w:=X.w
 K:=X.K
 mg:=X.mg
 base:=X.base
 A:=X.A
 N:=N'
 s₀:=s3
 H₀:=H3
 env:=compEnvC scope cl s3.heap.objs.size X.env
 outer:=X.stack
 stack:=X.stack
 ex:=fp
 calm:=X.calm
 fn:=λx=>false
 pn:=[]
 xe:=λx x=>False
def t5(X:Cx)(scope:Scope):List (Str×Nat)->Prop
 |[]=>True
 |p ::r=>(X.N[p.2]?=some p.1/\scope.names.lookup p.1=some .free/\(X.env.kindOf p.1=some .cell\/X.env.kindOf p.1=some .free))/\t5 X scope r
theorem t5.get:∀{cap:ZD},t5 X scope cap->∀p∈cap,X.N[p.2]?=some p.1/\scope.names.lookup p.1=some .free/\(X.env.kindOf p.1=some .cell\/X.env.kindOf p.1=some .free):=by
 intro cap;induction cap with
 |nil=>exact λx p h=>nomatch h
 |cons y r ih=>exact λz p h=>(Y4.mp h).elim (λe=>e▸z.1) (ih z.2 p)
noncomputable def pF(loc:ZF)(cap:ZD)(σ:St):St:=loc.map (λx=>none)++cap.map λp=>(σ[p.2]?).join
theorem st0_len:(pF loc cap σ).length=(loc++cap.map (·.1)).length:=by unfold pF;simp
theorem st0_get{i:Nat}(h:(pF loc cap σ)[i]?=some (some v)):∃p,p∈cap/\(loc++cap.map (·.1))[i]?=some p.1/\σ[p.2]?=some (some v):=by
 unfold pF at h;by_cases hi:i<loc.length
 ·rw[X5 (by simpa using hi),X2]at h;cases e:loc[i]? with
  |none=>rw[e]at h;cases h
  |some a=>rw[e]at h;cases h
 ·rw[Y6 (by simpa using hi),X2,Y0]at h;cases e:cap[i-loc.length]? with
  |none=>rw[e]at h;cases h
  |some p =>
   rw[e]at h;have h':(σ[p.2]?).join=some v:=Z8 h;refine(cD p (U0 e) ?_ ?_)
   ·rw[Y6 (by exact U6.mp hi),X2,e];rfl
   ·cases e2:σ[p.2]? with
    |none=>rw[e2]at h';cases h'
    |some o=>rw[e2]at h';exact congrArg some h'
def Wk:St->St->Prop
 |[],[]=>True
 |none ::r,_ ::t=>Wk r t
 |some v ::r,o ::t=>o=some v/\Wk r t
 |_,_=>False
theorem Wk.len:∀{a b:St},Wk a b->a.length=b.length:=by
 intro a;induction a with
 |nil=>intro b h;cases b with|nil=>rfl|cons=>exact M0 h
 |cons o r ih =>
  intro b h;cases b with
  |nil=>cases o<;>exact M0 h
  |cons o' t=>cases o with|none=>exact congrArg Nat.succ (ih (b:=t) h)|some v=>exact congrArg Nat.succ<|ih (b:=t) h.2
theorem Wk.get:∀{a b:St},Wk a b->∀(i:Nat) (v:V),a[i]?=some (some v)->b[i]?=some (some v):=by
 intro a;induction a with
 |nil=>exact λc i v e=>nomatch e
 |cons o r ih =>
  intro b h i v e;cases b with
  |nil=>cases o<;>exact M0 h
  |cons o' t =>
   cases i with
   |zero=>cases o with|none=>exact nomatch e|some x=>exact(congrArg some h.1).trans e
   |succ i=>cases o with|none=>exact ih (b:=t) h i v e|some x=>exact ih (b:=t) h.2 i v e
noncomputable def freeOk(ns ms:List (Str×K0)):Bool:=ns.all λy=>match y.2 with
 |.free=>match ms.lookup y.1 with
  |some .cell=>true
  |some .free=>true
  |_=>false
 |_=>true
theorem nz(h:freeOk ns ms=true):∀y∈ns,y.2=.free->ms.lookup y.1=some .cell\/ms.lookup y.1=some .free:=by
 intro y hy hf;have q:=List.all_eq_true.mp h y hy;rw[hf]at q;cases e:ms.lookup y.1 with
 |none=>rw[e]at q;cases q
 |some k =>rw[e]at q;cases k<;>first|exact .inl rfl|exact .inr rfl|cases q
structure CompScope(X:Cx)(loc:ZF)(cap:ZD)(scope:Scope):Prop where
 kind:scope.kind=.function
 nocell:∀y∈scope.names,y.2≠.cell
 names:∀y∈scope.names,y.2=.local->scope.names.lookup y.1=some .local
 free0:freeOk scope.names X.env.scope.names=true
 cap:t5 X scope cap
 xkind:X.env.scope.kind=.function
theorem CompScope.free{cap:ZD}(S:CompScope X loc cap scope):∀y∈scope.names,y.2=.free->X.env.kindOf y.1=some .cell\/X.env.kindOf y.1=some .free:=nz S.free0
section
variable {X:Cx}{ZY:ZJ}{σ:St}{H:Hp}{s:Shared}{loc:ZF}{cap:ZD}{scope:Scope}{cl:Zq}{fp:Zx}
theorem Al(S:CompScope X loc cap scope)(I:Inv X ZY σ H s)(hcl:∀x c,cl.lookup x=some c->X.env.cells.lookup x=some c)(hcl2:∀y∈scope.names,y.2=.free->∃c,cl.lookup y.1=some c)(hf:∀b∈fp,jT X ZY H b)(hlt:∀b∈fp,b<s.heap.objs.size)(hns:h1.Ns s.heap.objs.size λa=>none)(hk:∀b o,s.heap.get? b=some o->h1.get? b=some o):
  Inv (dr X (loc++cap.map (·.1)) scope cl fp s H) [] (pF loc cap σ) H {s with heap:=h1}:=by
 have fromK:∀x,(relabel scope X.env).names.lookup x=some .cell\/(relabel scope X.env).names.lookup x=some .free->∃y∈scope.names,y.2=.free/\y.1=x:=by
  intro x hx;have:∃k,(relabel scope X.env).names.lookup x=some k/\(k=.cell\/k=.free):=by
   rcases hx with z|z
   ·exact(aF _ z<|.inl rfl)
   ·exact(aF _ z<|.inr rfl)
  refine aa this λk e hk=>?_;have hm:=Q8 e;refine aa (U9.mp hm) λy hy e2=>?_;obtain⟨n,k'⟩:=y;have e3:(if (k'==E4&&X.env.scope.kind==.function&&X.env.kindOf n==some .cell)=true then (n,K0.cell) else (n,k'))=(x,k):=e2;by_cases hc:(k'==E4&&X.env.scope.kind==.function&&X.env.kindOf n==some .cell)=true
  ·rw[if_pos hc]at e3;injection e3 with e4 _;simp only[E6]at hc;exact(cD (n,k') hy (by simpa using hc.1.1) e4)
  ·rw[if_neg hc]at e3;injection e3 with e4 e5;rcases hk with z|z
   ·rw[z]at e5;exact absurd e5<|S.nocell _ hy
   ·rw[z]at e5;exact(cD (n,k') hy e5 e4)
 refine⟨⟨I.ok.mod,S.kind,I.ok.glob,I.ok.blt,bD _,λx y c h1 h2=>I.ok.inj x y c (hcl x c h1)<|hcl y c h2,λx hx=>?_,λx c h a=>absurd h (by show ¬ (false=true);decide),I.ok.hd,I.ok.frames,.inl rfl,λb hb=>⟨dH<|hlt b hb,λx c e=>(hf b hb).2.2.2.2.1 x c (hcl x c e)⟩,I.bs,
   b8 I.ok.bsz I.sz,λb o e z=>?_,λb hb z=>?_,I.stack,I.stkFree⟩,
  rfl,I.bare,Un.kept hk,(aF _ hns λi x v h1 h2 h3=>?_),λx c e=>?_,I.hok.fresh<|bD _,λx c e=>I.freeC x c<|hcl x c e,λp hp=>absurd (show p∈([]:List (Addr×Obj)) from hp) (by simp),I.hok.kept hk,st0_len⟩
 ·refine aE (fromK x hx) λy hy hfr e=>?_;subst e;exact hcl2 y hy hfr
 ·
  have hb:=hf b z;rcases hb.2.2.2.1 with q|q
  ·exact I.ok.noex b o e q
  ·exact absurd (bZ (X0 e)<|b8 I.ok.bsz q)<|L6 _
 ·have z':=I.stkSub b z;rcases Y4.mp z' with q|q
  ·exact(hf b hb).2.1 q
  ·exact(hf b hb).2.2.1 q
 ·refine aE (st0_get h2) λp hp e1 e2=>?_;have e3:x=p.1:=Z8<|h1.symm.trans e1;subst e3;refine aV (S.cap.get p hp) λc1 c2 c3=>?_;refine aa I.loc λm a hl=>?_;have vis:Vis X.env.scope p.1:=by
   rcases c3 with k|k
   ·exact .inr<|.inl k
   ·exact .inr<|.inr k
  refine aa (hl p.2 p.1 v c1 e2 vis) λu r l=>?_;refine(aF u r<|.inr ⟨?_,?_⟩)
  ·refine aa (ji (env:=X.env) c2) λk e hk=>?_;rcases hk with z|z
   ·subst z;exact .inl e
   ·subst z;exact .inr e
  ·rcases l with zr2_|zr1_
   ·refine ax zr2_ λk a=>?_;rcases c3 with z|z
    ·rw[k]at z;cases z
    ·rw[k]at z;cases z
   ·refine ax zr1_ λa zz=>aa zz λc e hc=>?_;refine ao (hcl2 (p.1,.free) (Q8 c2) rfl) λc' hc'=>?_;have:c'=c:=Z8<|(hcl _ _ hc').symm.trans e;subst this;refine aa hc λo ho hd=>?_;exact⟨c',hc',o,hk _ o ho,hd⟩
 ·refine bv (I.cell x c<|hcl x c e) λv o ho hd=>?_;exact⟨v,o,hk _ o ho,hd⟩
end
noncomputable def Am(g:TG)(tt:TT)(te:TE)(loc:ZF)(cap:ZD)(σ:St)(D:Addr)(ys:List V)(N:List V->Hp->Prop)(x:V)(H':Hp):Prop :=
 g x (pF loc cap σ) H' λσ3 H3=>Wk (pF loc cap σ) σ3/\tt σ3 H3 λb H4=>if b=true then te σ3 H4 λv H5=>H5 D=some (.lst ys)/\ys.length<W9/\N (ys++[v]) (aH H5 D<|.lst<|ys++[v]) else N ys H4
noncomputable def wR(g:TG)(tt:TT)(te:TE)(loc:ZF)(cap:ZD)(σ:St)(D:Addr)(Q:VK)(J:It)(H1:Hp):Prop :=
 ∃W:Nat->Nat->List V->Hp->Prop,(∃m,W 0 m [] (aH H1 D<|.lst []))/\∀i m ys H2,W i m ys H2->H2 D=some (.lst ys) /\
  ((J.stop i H2/\Q (.ref D) H2)\/(J.go i H2/\∃N:List V->Hp->Prop,(∀ys' H',N ys' H'->∃m',m'<m/\W (i+1) m' ys' H')/\∀x H',J.yld i H2 x H'->Am g tt te loc cap σ D ys N x H'))
def wU(wi:TI)(loc:ZF)(cap:ZD)(g:TG)(tt:TT)(te:TE):TE:=λσ H Q=>wi σ H λJ H1=>∀D,H1 D=none->wR g tt te loc cap σ D Q J H1
def An:TT:=λx H Q=>Q true H
noncomputable def vh(X:Cx)(ifs:List Expr)(t:TT):Prop :=
 ∀(ZY:ZJ) (s:Shared) (σ:St) (H:Hp) (Q:Bool->Hp->Prop),Inv X ZY σ H s->t σ H Q ->
  wpAny (model X.prog X.w) X.A (forIn ifs true λc r=>if r=true then do let ok <- isTrue c X.env (eval c X.env);pure (ForInStep.yield ok) else pure (ForInStep.yield r)) (TP X ZY σ Q) X.xe s
theorem dt:vh X [] An:=λx x x H x I h=>wpAny_tests_nil ⟨H,I,h⟩
theorem iE(hc:PT X c t):vh X [c] t:=λZY s σ H Q I h=>wpAny_tests_one<|hc ZY s σ H Q I h
section
variable {X:Cx}{tg iter elt:Expr}{ifs:List Expr}{scope:Scope}{loc:ZF}{cap:ZD}{pos:Pos}{wi:TI}{g:TG}{tt:TT}{te:TE}
theorem yI{tn:Nat->Heap->Prop}{RR:Result->Shared->Prop}{W:Nat->Nat->List V->Hp->Prop}{Q:VK}(hc:Y.calm=true)(hx:Y.xe=λa a=>False)(hg:PG Y tg g)(ht:vh Y ifs tt)(he:PE Y elt te)(T:Turn Y.prog Y.w Y.K tg J fp it tn)(st4:tn 0 s4.heap)(I4:Inv Y [] (pF loc cap σ) H3 s4)(f3:∀b∈fp,H3 b=none)(w0:W 0 m0 [] H3)(fpC:∀{H':Hp},(∀b∈fp,H' b=none)->∀b∈fp,jT Y [] H' b)(turn:∀i m ys H2,W i m ys H2->H2 D=some (.lst ys)/\((J.stop i H2/\Q (.ref D) H2)\/(J.go i H2/\∃N:List V->Hp->Prop,(∀ys' H',N ys' H'->∃m',m'<m/\W (i+1) m' ys' H')/\∀x H',J.yld i H2 x H'->Am g tt te loc cap σ D ys N x H')))(fin:∀{H':Hp} {s':Shared},Inv Y [] (pF loc cap σ) H' s'->Q (.ref D) H'->RR (.ok .next) s'):
  codeAny (model Y.prog Y.w) Y.A (.compLoop (.ListComp elt [⟨tg,iter,ifs,0⟩] scope pos) 0 (.ref it) (.ref D) Y.env) RR s4:=by
 unfold PG at hg;unfold vh at ht;unfold PE at he;rw[hx]at hg ht he;have ma:=fF (X:=Y);unfold MtM at ma;rw[hx]at ma;refine qP (λn s'=>∃i ys H',Inv Y [] (pF loc cap σ) H' s'/\tn i s'.heap/\(∀b∈fp,H' b=none)/\W i n ys H') ?_ m0 ⟨0,[],H3,I4,st4,f3,w0⟩;intro n s5 zq;refine dh zq λi ys H5 I5 st5 fr5 w5=>?_;refine ax (turn i n ys H5 w5) λhd5 alt=>?_;rcases alt with zr4_|zr3_
 ·refine ax zr4_ λstop q=>?_;refine bM (T.done Y rfl rfl rfl hc i [] s5 _ H5 (λa a=>False) I5 (fpC fr5) st5 stop) λr s6 zq=>ax zq λhr I6=>?_;subst hr;exact fin I6 q
 ·refine ax zr3_ λgo zz=>aa zz λN hN step=>?_;refine bM (T.item Y rfl rfl rfl hc i [] s5 _ H5 (λa a=>False) I5 (fpC fr5) st5 go) λr s6 zq=>aa zq λu hr h6=>?_;subst hr;refine bM h6 λa s7 zq=>fk zq λx H7 I7 r7 y7 st7 fr7=>?_;have I7':=I7.pinned (fpC fr7)<|T.obj _ _ st7;refine bM (hg _ s7 _ H7 x u _ I7' r7<|step x H7 y7) λa s8 zq=>bv zq λσ8 H8 I8 q8=>?_;refine ax q8 λwk q8=>?_;have again:∀{H9:Hp} {s9:Shared} {zs:List V},Inv Y ([]++n6 fp s7.heap) σ8 H9 s9->N zs H9->∃m,m<n/\∃i ys H',Inv Y [] (pF loc cap σ) H' s9/\tn i s9.heap/\(∀b∈fp,H' b=none)/\W i m ys H':=λ{H9 s9 zs} I9 n9=>by refine aa (hN zs H9 n9) λm' hm w9=>?_;refine⟨m',hm,i+1,zs,H9,(I9.weak wk.len wk.get).unpinned,T.keep _ _ _ st7 λb hb o e=>(I9.pin (b,o)<|Y8 _<|Y8 _<|gR hb e).1,λb hb=>?_,w9⟩;refine aa (T.obj _ _ st7 b hb) λo e d=>?_;exact(I9.pin (b,o)<|Y8 _<|Y8 _<|gR hb e).2.1
  refine bM (ht _ s8 σ8 H8 _ I8 q8) λok s9 zq=>aa zq λH9 I9 q9=>?_;cases ok with
  |false =>rw[if_neg Z7]at q9 ⊢;exact again I9 q9
  |true =>rw[if_pos rfl]at q9 ⊢;refine bM (he _ s9 σ8 H9 _ I9 q9) λu' s10 zq=>fk zq λv H10 I10 r10 hD10 hl10 n10=>?_;refine bM (ma _ s10 σ8 H10 (.ref D) [v] (.ref D) [u'] (λa H11=>N (ys++[v]) H11) I10 rfl (.cons r10 .nil) ⟨_,ys,v,rfl,rfl,hD10,hl10,n10⟩) λa s11 zq=>ay zq λa H11 I11 a n11=>?_;exact again I11 n11
theorem nA{σ:St}{tn:Nat->Heap->Prop}{E:ZN}{RR:Value->Addr->Result->Shared->Prop}(hc:X.calm=true)(S:CompScope X loc cap scope)(hg:∀cl fp s3 H3,PG (dr X (loc++cap.map (·.1)) scope cl fp s3 H3) tg g)(ht:∀cl fp s3 H3,vh (dr X (loc++cap.map (·.1)) scope cl fp s3 H3) ifs tt)(he:∀cl fp s3 H3,PE (dr X (loc++cap.map (·.1)) scope cl fp s3 H3) elt te)(hcl:∀x c,cl.lookup x=some c->X.env.cells.lookup x=some c)(hcl2:∀y∈scope.names,y.2=.free->∃c,cl.lookup y.1=some c)(I:Inv X ZY σ H s)(T:Turn X.prog X.w X.K tg J fp it tn)(st:tn 0 s.heap)(hf:∀b∈fp,jT X ZY H b)(h:∀D,H D=none->wR g tt te loc cap σ D Q J H)(hRR:∀D C s' H' m,Inv X ZY σ H' s'->jT X ZY H' C->s'.heap.Ns C m->Q (.ref D) H'->RR (.ref D) C (.ok .next) s'):
  wpAny (model X.prog X.w) X.A (newList []) (λacc s₃=>wpAny (model X.prog X.w) X.A (newFunctionEnv scope X.env.globals cl [] X.env.qual none .none<|some X.env) (λcenv s₄ =>
   codeAny (model X.prog X.w) X.A (.compStart (.ListComp elt [⟨tg,iter,ifs,0⟩] scope pos) 0 (.ref it) acc {cenv with scope:=relabel scope X.env}) (RR acc cenv.locals) s₄) E s₃) E s:=by
 have hlt:∀b∈fp,b<s.heap.objs.size:=λb hb=>aa (T.obj 0 _ st b hb) λo e a=>X0 e;have hD:H s.heap.objs.size=none:=I.hok.fresh<|bD _;refine aa (h _ hD) λW nn1 turn=>?_;refine ao nn1 λm0 w0=>?_;refine O0<|wpAny_newFunctionEnv S.nocell (by intro y hy;simp at hy) (λh₁ hns₁ hsb₁=>?_) S.kind;have hD2:({cls:=.type "list",dict:=none,data:=.seq ([]:List Value).toArray}:Obj)={cls:=.type "list",data:=.seq ([]:List Value).toArray 0}:=rfl;have I3:Inv X ZY σ (aH H s.heap.objs.size<|.lst []) {s with heap:=s.heap.push {cls:=.type "list",dict:=none,data:=.seq ([]:List Value).toArray}} :=
  I.laid (t':=s.toks) (λb o e=>Z3 _ e) (bD _) ⟨T3 _,[],0,.nil,Y7 _ rfl⟩
 generalize hS3:({s with heap:=s.heap.push {cls:=.type "list",dict:=none,data:=.seq ([]:List Value).toArray}}:Shared)=s3 at I3 hns₁ hsb₁ ⊢;generalize hH3:aH H s.heap.objs.size (.lst [])=H3 at I3 w0;have sz3:s3.heap.objs.size=s.heap.objs.size+1:=by rw[<- hS3];exact L8 ..
 have fp3:∀b∈fp,jT X ZY H3 b:=λb hb=>by refine ax (hf b hb) λf0 fr=>?_;refine⟨?_,fr⟩;rw[<- hH3,aq (dH<|hlt b hb)];exact f0
 have ltq3:∀b∈fp,b<s3.heap.objs.size:=λb hb=>by rw[sz3];exact T7<|hlt b hb
 have k1:∀b o,s3.heap.get? b=some o->h₁.get? b=some o:=λb o e=>hsb₁.extBut b o (dH<|X0 e)<|Z3 _ e;have I4:Inv (dr X (loc++cap.map (·.1)) scope cl fp s3 H3) [] (pF loc cap σ) H3 {s3 with heap:=h₁}:=Al S I3 hcl hcl2 fp3 ltq3 (by simpa using hns₁) k1;have st4:tn 0 h₁:=T.keep 0 _ _ st λb hb o e=>k1 b o (by rw[<- hS3];exact Z3 _ e);have fpC:∀{H':Hp},(∀b∈fp,H' b=none)->∀b∈fp,jT (dr X (loc++cap.map (·.1)) scope cl fp s3 H3) [] H' b:=λ{H'} hn b hb =>
  ⟨hn b hb,dH<|ltq3 b hb,λz=>(I4.ok.exfs b hb z),.inl hb,λx c e=>(hf b hb).2.2.2.2.1 x c (hcl x c e),λp hp=>absurd (show p∈([]:List (Addr×Obj)) from hp) (by simp)⟩
 have toks0:({s3 with heap:=h₁,toks:=s3.toks+([]:List (Str×Value)).length}:Shared)={s3 with heap:=h₁}:=rfl;rw[toks0];have fin:∀{H':Hp} {s':Shared} {σ':St},Inv (dr X (loc++cap.map (·.1)) scope cl fp s3 H3) [] σ' H' s'->Inv X ZY σ H' s':=λ{H' s' σ'} J' =>
  I3.call' J'.os J'.base J'.hok J'.bare λb hb=>by refine yg (hf b hb) λa f1 f2 f3 f4 f5=>?_;exact(qF f3 f1 f4 f5)
 have loop:codeAny (model X.prog X.w) X.A (.compLoop (.ListComp elt [⟨tg,iter,ifs,0⟩] scope pos) 0 (.ref it) (.ref s.heap.objs.size)<|compEnvC scope cl s3.heap.objs.size X.env) (RR (.ref s.heap.objs.size) s3.heap.objs.size) {s3 with heap:=h₁} :=
  yI (Y:=dr X (loc++cap.map (·.1)) scope cl fp s3 H3) hc rfl (hg cl fp s3 H3) (ht cl fp s3 H3) (he cl fp s3 H3) T st4 I4 (λb hb=>(fp3 b hb).1) w0 fpC turn λI6 q=>aa I6.loc λm hn a=>hRR _ _ _ _ m (fin I6) (I3.fpOk (bD _) I6.free) hn q
 exact codeAny_compStart_list loop<|T.self _ 0 _ _ _ st4 loop
theorem dZ(hc:X.calm=true)(S:CompScope X loc cap scope)(hi:PI X tg iter wi)(hg:∀cl fp s3 H3,PG (dr X (loc++cap.map (·.1)) scope cl fp s3 H3) tg g)(ht:∀cl fp s3 H3,vh (dr X (loc++cap.map (·.1)) scope cl fp s3 H3) ifs tt)(he:∀cl fp s3 H3,PE (dr X (loc++cap.map (·.1)) scope cl fp s3 H3) elt te)(hs:autoParam (∀x,foldedSetIterable iter X.env x=pure x) L2.a1q._auto_1):
  PE X (.ListComp elt [⟨tg,iter,ifs,0⟩] scope pos) (wU wi loc cap g tt te):=by
 intro ZY s σ H Q I h;refine aE (jy (scope:=scope) (env:=X.env) λy hy hf=>I.ok.has y.1<|S.free y hy hf) λcl hcl0 hcl hcl2=>?_;rw[eval_ListComp];refine wpAny_comprehension_free (use:=none) rfl hs hcl0 S.kind S.names (bM (hi ZY s σ H _ I h) λv s1 h1=>bM h1 λitv s2 h2=>?_);refine yh h2 λit fp tn J H2 e I2 T st2 f2 R=>?_;subst e;refine nA (RR:=λacc C=>compPost (model X.prog X.w) X.A X.xe none (EP X ZY σ Q) acc C) hc S hg ht he hcl hcl2 I2 T st2 f2 R ?_;intro D C s' H' m I' fC hn q;exact⟨m,hn,λh'' hs''=>⟨.ref D,H',I'.turned (t':=s'.toks) (λb o hb e=>(hs''.2 b hb).trans e) fC.1 fC.2.1 fC.2.2.2.1 fC.2.2.2.2.1 fC.2.2.2.2.2,rfl,q⟩⟩
theorem gW{i:Nat}{x:Str}{pos' spos:Pos}(hc:X.calm=true)(S:CompScope X loc cap scope)(hN:X.N.Nodup)(hi':X.N[i]?=some x)(hx:Loc X.env.scope x)(hi:PI X tg iter wi)(hg:∀cl fp s3 H3,PG (dr X (loc++cap.map (·.1)) scope cl fp s3 H3) tg g)(ht:∀cl fp s3 H3,vh (dr X (loc++cap.map (·.1)) scope cl fp s3 H3) ifs tt)(he:∀cl fp s3 H3,PE (dr X (loc++cap.map (·.1)) scope cl fp s3 H3) elt te)(hsw:autoParam (swapsWith (.ListComp elt [⟨tg,iter,ifs,0⟩] scope pos) (some<|.Name x pos') spos.line X.env=pure true) L2.eX._auto_1)(hf:X.fn x=true\/X.env.scope.names.lookup x=some .local:=by first|exact .inl rfl|exact .inr rfl|assumption)(hs:autoParam (∀x,foldedSetIterable iter X.env x=pure x) L2.a1q._auto_1):
  PS X (.Assign [.Name x pos'] (.ListComp elt [⟨tg,iter,ifs,0⟩] scope pos) spos) (m8 (wU wi loc cap g tt te)<|dj i):=by
 intro ZY s σ H D I h;refine aE (jy (scope:=scope) (env:=X.env) λy hy hf=>I.ok.has y.1<|S.free y hy hf) λcl hcl0 hcl hcl2=>?_;rw[exec_Assign_Name_used _ _ _ _ hsw];refine Z0<|wpAny_standAt<|Z0 ?_;show wpAny _ X.A (do let _ <- comprehension (.ListComp elt [⟨tg,iter,ifs,0⟩] scope pos) scope X.env _ (newList []) false (eval iter X.env) (some<|assign (.Name x pos') X.env)) _ _ s;refine Z0 (bM (wpAny_comprehension_free (use:=some<|assign (.Name x pos') X.env) (Q:=λc s'=>SP X ZY D .next s') rfl hs hcl0 S.kind S.names
  (bM (hi ZY s σ H _ I h) λv s1 h1=>bM h1 λitv s2 h2=>?_)) λc s' hq=>Z5<|Z5 hq)
 refine yh h2 λit fp tn J H2 e I2 T st2 f2 R=>?_;subst e;refine nA (RR:=λacc C=>compPost (model X.prog X.w) X.A X.xe (some<|assign (.Name x pos') X.env) (λc s'=>SP X ZY D .next s') acc C) hc S hg ht he hcl hcl2 I2 T st2 f2 R ?_;intro D' C s' H' m I' fC hn q;show wpAny _ X.A (assign (.Name x pos') X.env<|.ref D') _ _ s';refine wpAny_assign_Name<|pZ I' hN hi' hx (v:=.ref D') rfl (λs'' I'' zq=>aa zq λa hsb ha=>?_) hf;have hCa:C≠a:=by
  rcases ha with z|z
  ·rw[z];exact fC.2.1
  ·exact R4<|fC.2.2.2.2.1 x a z
 refine(aF m (hn.sameBut hsb hCa) λh'' hs''=>⟨_,H',I''.turned (t':=s''.toks) (λb o hb e=>(hs''.2 b hb).trans e) fC.1 fC.2.1 fC.2.2.2.1 fC.2.2.2.2.1 fC.2.2.2.2.2,q⟩)
end
end L2
namespace L2
open PySem PySem.Spec PyProof.Rows
section
variable {X:Cx}{ZY:ZJ}{σ:St}{H:Hp}{s:Shared}{h':Heap}
theorem Inv.turnedL{ch:Zx}(I:Inv X ZY σ H s)(hch:∀b∈ch,jT X ZY H b)(k:∀b u,b∉ch->s.heap.get? b=some u->h'.get? b=some u):Inv X ZY σ H {s with heap:=h',toks:=t'}:=by
 have nch:∀b u,H b=some u->b∉ch:=λb u e z=>by rw[(hch b z).1]at e;cases e
 refine I.step (g':=s.gens) (d':=s.drawn) (ch:=ch) (λb hb=>?_) (λb u x x hc e x=>k b u hc e) (λb u x x hc e x=>⟨u.slots,k b u hc e⟩)
  (λb u x x n=>n) (λb u hc e=>⟨u,k b u hc e⟩) (λb xs e=>e) (λb u xs e=>e) (λb ps e=>⟨#[],by rw[e];simp⟩) (λm hm=>?_) (λb u e=>?_) I.bare
 ·have f:=hch b hb;exact(qF f.2.2.2.1 f.2.1 f.2.2.2.2.1 f.2.2.2.2.2)
 ·refine fM hm λo es ep ho r=>?_;exact⟨o,es,ep,k _ o (λz=>(hch _ z).2.1 rfl) ho,r⟩
 ·refine(I.hok b u e).stay (λc v hc q=>k c v ?_ q) (λc q=>q) λc xs q=>q;rcases hc with z|z
  ·rw[z];exact nch b u e
  ·exact nch c _ z
theorem Inv.turnNew{a:Addr}{o:HO}{ch:Zx}{t':Nat}(I:Inv X ZY σ H s)(hch:∀b∈ch,jT X ZY H b)(ha:s.heap.objs.size<=a)(k:∀b u,b∉ch->s.heap.get? b=some u->h'.get? b=some u)(new:bE X.prog X.w (aH H a o) h' a o):Inv X ZY σ (aH H a o) {s with heap:=h',toks:=t'}:=by
 have hn:H a=none:=I.hok.fresh ha;have fa:=I.fpOk ha hn;have hne:∀b u,H b=some u->b≠a:=λb u e=>ai e hn;have nch:∀b u,H b=some u->b∉ch:=λb u e z=>by rw[(hch b z).1]at e;cases e
 refine I.step (g':=s.gens) (d':=s.drawn) (ch:=a ::ch) (λb hb=>?_) (λb u x x hc e x=>k b u (λz=>hc<|W4 _ z) e) (λb u x x hc e x=>⟨u.slots,k b u (λz=>hc<|W4 _ z) e⟩)
  (λb u hc x n=>by rw[aq λz=>hc (by rw[z];exact V1)];exact n) (λb u hc e=>⟨u,k b u (λz=>hc<|W4 _ z) e⟩)
  (λb xs e=>by rw[aq (hne b _ e)];exact e) (λb u xs e=>by rw[aq (hne b _ e)];exact e) (λb ps e=>⟨#[],by rw[aq (hne b _ e),e];simp⟩) (λm hm=>?_) (λb u e=>?_) I.bare
 ·rcases Y4.mp hb with z|z
  ·rw[z];exact(qF fa.2.2.2.1 fa.2.1 fa.2.2.2.2.1 fa.2.2.2.2.2)
  ·have f:=hch b z;exact(qF f.2.2.2.1 f.2.1 f.2.2.2.2.1 f.2.2.2.2.2)
 ·refine fM hm λo es ep ho r=>?_;exact⟨o,es,ep,k _ o (λz=>(hch _ z).2.1 rfl) ho,r⟩
 ·by_cases hb:b=a
  ·subst hb;rw[am]at e;cases e;exact new
  ·rw[aq hb]at e;refine(I.hok b u e).stay (λc v hc q=>k c v ?_ q) (λc q=>by rw[aq (hne c _ q)];exact q) λc xs q=>by rw[aq (hne c _ q)];exact q
   rcases hc with z|z
   ·rw[z];exact nch b u e
   ·exact nch c _ z
end
noncomputable def Ite(K:Z4)(a:Addr):It :=
 ⟨λi H=>∃xs x,fm K H a xs/\xs[i]?=some x,λi H x H'=>∃p y,x=.ref p/\H p=none/\H'=aH H p (.tup [.int (i:Nat),y])/\∀xs,fm K H a xs->xs[i]?=some y,λi H=>∃xs,fm K H a xs/\xs.length<=i⟩
theorem yJ{K:Z4}(a e it:Addr)(hne:e≠it):
  Turn P w K (.Tuple elts x1 pos) (Ite K a) [e,it] e (λi h=>(∃old,IsEnum h e it ((i:Nat):Int) old)/\h.IsListIter it a i) where
 mem:=by simp
 obj:=λi h st b hb=>by
  refine ax st λnn1 hi=>?_;refine ao nn1 λold he=>?_;have hb':b=e\/b=it:=by simpa using hb
  rcases hb' with z|z
  ·rw[z];exact(aF _ he (λv q=>by have q':Data.fields _=Data.cell v:=q;cases q'))
  ·rw[z];refine aE hi λo e' c d=>?_;exact(aF o e' (λv q=>by rw[d]at q;cases q))
 keep:=λi h h' st k=>by refine ax st λnn2 hi=>?_;refine ao nn2 λold he=>?_;exact⟨⟨old,k e (by simp) _ he⟩,hi.at λo q=>k it (by simp) o q⟩
 item:=by
  intro X hP hw hK hc i ZY s σ H E I hf st hg;subst hP hw hK;refine ax st λnn3 hit=>?_;refine ao nn3 λold he=>?_;refine bv hg λxs x hq hx=>?_;refine aE (I.list hq) λits rv p hz=>?_;refine aa (rv.get hx) λu hu ru=>?_;refine wpAny_pyNext_enum_item he hit p.isList (x:=u) (by simpa using hu) hne λh1 heo hit1 ht1 hz1 hk1=>?_;refine(aF _ rfl (wpAny_letOwnedTupleGo_enum heo λh2 he2 hs2=>?_));replace hs2:U8 e h1 h2:=hs2;replace he2:IsEnum h2 e it ((i:Int)+1) u:=he2;have hlt:e<s.heap.objs.size:=X0 he;have hk2:∀b o,b∉[e,it]->s.heap.get? b=some o->h2.get? b=some o:=λb o hb q=>by have b1:b≠e:=λz=>hb (by simp[z]);have b2:b≠it:=λz=>hb (by simp[z]);exact(hs2.2 b b1).trans (hk1 b o b1 b2 q)
  have t2:h2.get? s.heap.objs.size=some {cls:=.type "tuple",data:=.seq #[.int (i:Nat) s.toks,u]}:=(hs2.2 _<|M6 hlt).trans ht1;refine(yi (.ref s.heap.objs.size) _ (I.turnNew (t':=s.toks+1) (ch:=[e,it]) (a:=s.heap.objs.size) (o:=.tup [.int (i:Nat),x]) hf (bD _) hk2 ?_) rfl ⟨_,x,rfl,I.hok.fresh<|bD _,rfl,λys hy=>by rw[I.list_inj hy hq];exact hx⟩ ⟨⟨u,?_⟩,hit1.extBut hs2.extBut<|R4 hne⟩ λb hb=>?_)
  ·exact⟨by show 2<=W9;decide,[.int (i:Nat) s.toks,u],.cons ⟨_,rfl⟩<|.cons ru .nil,⟨_,t2,rfl,_,rfl⟩⟩
  ·have e1:((i+1:Nat):Int)=(i:Int)+1:=by push_cast;rfl
   rw[e1];exact he2
  ·have f:=hf b hb;have hbl:b≠s.heap.objs.size:=by
    have hb':b=e\/b=it:=by simpa using hb
    rcases hb' with z|z
    ·rw[z];exact dH hlt
    ·refine aa hit λo e' y=>?_;rw[z];exact dH<|X0 e'
   rw[aq hbl];exact f.1
 done:=by intro X hP hw hK hc i ZY s σ H E I hf st hg;subst hP hw hK;refine ax st λnn4 hit=>?_;refine ao nn4 λold he=>?_;refine aa hg λxs hq hx=>?_;refine aE (I.list hq) λits rv p hz=>?_;have hl:=rv.length;exact wpAny_pyNext_enum_end (I.ok.hd hc) he hit p.isList (by simp;exact b8 (bG hl.symm) hx) λh' eb=>⟨rfl,I.turnedL (t':=s.toks) (ch:=[e,it]) hf λb o hb q=>eb b o (λz=>hb (by simp[z])) q⟩
 self:=λy y y y y st h=>by refine ax st λnn5 y=>?_;refine ao nn5 λold he=>?_;exact wpAny_pyIter_enum he h
section
variable {X:Cx}{elts:List Expr}{x1:Nat}{tpos:Pos}
def Ao(K:Z4)(ta:TA):TI:=λσ H R=>ta σ H λvs H1=>∃a,vs=[.ref a]/\(∃xs,fm K H1 a xs)/\R (Ite K a) H1
theorem pi_enum{a:Expr}{ta:TA}{p pos:Pos}(hg:Gl X "enumerate")(hm:X.mg "enumerate"=none)(ha:PA X [a] ta)(hs:autoParam (V6 [a] X.env=[(false,eval a X.env)]) L2.eX._auto_1):
  PI X (.Tuple elts x1 tpos) (.Call (.Name "enumerate" p) [a] [] pos) (Ao X.K ta):=by
 intro ZY s σ H R I h;refine Call_<|gP I hg hm boot_enumerate<|L5 (bM (ha pos ZY s σ H _ I h) λus s1 zq=>ay zq λvs H1 I1 r1 q1=>?_) hs rfl;refine aE q1 λl e nn6 q=>?_;refine ao nn6 λxs hq=>?_;subst e;refine aa (vals1 r1) λu ZW ru=>?_;subst ZW;cases ru;refine aE (I1.list hq) λits rv pl hz=>?_;refine call_enumerate_list pl.isList λh' he hit hsz hk=>wpAny_pyIter_enum he ?_;have I2:Inv X ZY σ H1 {s1 with heap:=h'}:=I1.kept (t':=s1.toks) hk;refine⟨s1.heap.objs.size+1,[s1.heap.objs.size+1,s1.heap.objs.size],_,_,H1,rfl,I2,yJ l _ _<|Nat.succ_ne_self _,⟨⟨_,he⟩,hit⟩,λb hb=>?_,q⟩;have hb':b=s1.heap.objs.size+1\/b=s1.heap.objs.size:=by simpa using hb
 have hle:s1.heap.objs.size<=b:=by
  rcases hb' with z|z
  ·rw[z];exact P3 _
  ·rw[z];exact bD _
 exact I1.fpOk hle<|I1.hok.fresh hle
end
theorem fits(h:-(2^62)<=x)(h':x<=2^62):R5.Range.rangeFitsLong x=true:=by simp only[R5.Range.rangeFitsLong,E6,decide_eq_true_eq];exact⟨Int.le_trans (by decide) h,Int.lt_of_le_of_lt h' (by decide)⟩
end L2
namespace L2
open PySem PySem.Spec PyProof.Rows
mutual
def iF(K:Z4)(H:Hp):PyData->V->Prop
 |.none,v=>v=.non
 |.bool b,v=>v=.bl b
 |.int i,v=>v=.int i
 |.str x,v=>v=.str x
 |.list ds,v=>∃a xs,v=.ref a/\fm K H a xs/\fZ K H ds xs
 |.tuple ds,v=>∃a xs,v=.ref a/\j5 K H a xs/\fZ K H ds xs
 |.dict _,_=>False
def fZ(K:Z4)(H:Hp):List PyData->List V->Prop
 |[],xs=>xs=[]
 |d ::ds,xs=>∃x r,xs=x ::r/\iF K H d x/\fZ K H ds r
end
section
variable {X:Cx}{ZY:ZJ}{σ:St}{H:Hp}{s:Shared}
theorem iF.reads(I:Inv X ZY σ H s):∀{v:V} {u:Value},iF X.K H d v->RelV v u->∃as,Reads s.heap u d as:=by
 refine PyData.rec (motive_1:=λd=>∀{v:V} {u:Value},iF X.K H d v->RelV v u->∃as,Reads s.heap u d as) (motive_2:=λds=>∀{xs:List V} {us:ZK},fZ X.K H ds xs->aP xs us->∃as,ReadsAll s.heap us ds as) (motive_3:=λa=>True) (motive_4:=λa=>True)
  ?_ ?_ ?_ ?_ ?_ ?_ (λa a a a h a=>M0 h) ?_ ?_ trivial (λa a a a=>trivial) (λa a a a=>trivial) d
 ·intro v u h r;cases h;cases r;exact⟨_,.none⟩
 ·intro b v u h r;cases h;cases r;exact⟨_,.bool b⟩
 ·intro i v u h r;cases h;refine ao r λt z=>⟨[],?_⟩;rw[z];exact .int i t
 ·intro x v u h r;cases h;refine ao r λt z=>⟨[],?_⟩;rw[z];exact .str x t
 ·intro ds ih v u h r;refine ay h λa xs h1 h2 h3=>?_;cases h1;cases r;exact aa (I.list h2) λits rv z=>ax z λz a=>fL z λo n e hc a hd=>ao (ih h3 rv) λas q=>⟨_,.list e hc hd (by simpa using q)⟩
 ·intro ds ih v u h r;refine ay h λa xs h1 h2 h3=>?_;cases h1;cases r;exact aa (I.tuple h2) λits rv z=>ax z λz a=>aE z λo e hc z=>ao z λn hd=>ao (ih h3 rv) λas q=>⟨_,.tuple e hc hd (by simpa using q)⟩
 ·intro xs us h r;cases h;cases r;exact⟨_,.nil⟩
 ·intro d ds ih1 ih2 xs us h r;refine ay h λx t h1 h2 h3=>?_;cases h1;cases r with
  |cons r1 r2=>exact ao (ih1 h2 r1) λas q1=>ao (ih2 h3 r2) λbs q2=>⟨_,.cons q1 q2⟩
end
section
variable {X:Cx}
noncomputable def rEqD(K:Z4):R2:=λx y H Q=>∃dx dy,iF K H dx x/\iF K H dy y/\dx.canLay0=true/\dy.canLay0=true/\min dx.depth dy.depth<=60/\Q (.bl<|PyData.eqv dx dy) H
noncomputable def rNeD(K:Z4):R2:=λx y H Q=>∃dx dy,iF K H dx x/\iF K H dy y/\dx.canLay0=true/\dy.canLay0=true/\min dx.depth dy.depth<=60/\Q (.bl<|!PyData.eqv dx dy) H
theorem op_eqD(hu:X.A.units+64<cLine):jh X (R9 .Eq) (rEqD X.K):=by intro ZY s σ H x y v u Q I rx ry h;refine ik h λdx dy h1 h2 c1 c2 dp q=>?_;refine ao (iF.reads I h1 rx) λas ra=>?_;refine ao (iF.reads I h2 ry) λbs rb=>?_;exact SeqAt.compareEq_reads ra rb c1 c2 (by lia) ⟨.bl _,H,I,rfl,q⟩
theorem eO:jh X (binaryOp .FloorDiv) (rI (λx j=>0<j/\j<2^64) λi j=>.int<|i/j):=opI λi j x x x x x hc q=>by
 have h1:(0:Int)<j:=hc.1;have h2:j<2^64:=hc.2;refine floordiv_int (by exact Int.ne_of_gt h1) (by rw[Int.fdiv_eq_ediv_of_nonneg i (by exact Int.le_of_lt h1)];exact q)<|.inl<|PyProof.noPylong_of_log2 ?_;have h3:j.natAbs≠0:=by omega
 have h4:j.natAbs.log2<64:=(Nat.log2_lt h3).mpr (by omega);exact eJ h4 (by decide)
theorem t6:eN X (.builtin "isinstance") (λxs H Q=>∃x t b,xs=[x,.ty T]/\TyOf X.K H x t/\L9 X.K t (.type T)=some b/\Q (.bl b) H):=by intro ZY s σ H xs us Q I r h;refine dh h λx t b ZU ty e q=>?_;subst ZU;refine ay (vals2 r) λu c ZV ru rc=>?_;subst ZV;have rc':c=Value.type T:=rc;subst rc';exact yt I ru ty e λtk=>⟨.bl b,H,I.tok _,rfl,q⟩
end
section
variable {K:Z4}
theorem t7:L9 K (.type "int") (.type "int")=some true:=by with_unfolding_all rfl
theorem qQ:L9 K (.type "int") (.type "bool")=some false:=by with_unfolding_all rfl
theorem t8:L9 K (.type "tuple") (.type "tuple")=some true:=by with_unfolding_all rfl
end
end L2
namespace L2
open PySem PySem.Spec PyProof.Rows
section
variable {g:TG}{tt:TT}{te:TE}{loc:ZF}{cap:ZD}{σ:St}{Q:VK}{J:It}{D:Addr}{H:Hp}
theorem comp_it(Pv:Nat->List V->Hp->Prop)(h0:Pv 0 [] (aH H D<|.lst []))(hD:∀i ys H,i<=n->Pv i ys H->H D=some (.lst ys))(go:∀i ys H,i<n->Pv i ys H->J.go i H)(st:∀ys H,Pv n ys H->J.stop n H)(hs:∀i ys H x H',i<n->Pv i ys H->J.yld i H x H'->Am g tt te loc cap σ D ys (Pv<|i+1) x H')(hd:∀ys H,Pv n ys H->Q (.ref D) H):wR g tt te loc cap σ D Q J H:=by
 refine⟨λi m ys H=>m=n-i/\i<=n/\Pv i ys H,(cD n (by simp) (T3 _) h0),?_⟩;intro i m ys H zq;refine aV zq λZX hi p=>?_;subst ZX;refine⟨hD i ys H hi p,?_⟩;by_cases hlt:i<n
 ·exact .inr ⟨go i ys H hlt p,Pv<|i+1,λys' H' p'=>(jQ (n-(i+1)) (by omega) rfl hlt p'),λx H' y=>hs i ys H x H' hlt p y⟩
 ·have e:i=n:=by exact T5 hi<|U6.mp hlt
  subst e;exact .inl ⟨st ys H p,hd ys H p⟩
end
def aL(K:Z4)(mg:ZH)(x:Str)(st:Stmt)(ps:ZF):Prop:=∃f fd,Fun K x x st f fd/\Binds K fd ps []/\mg x=some (.ref f)
noncomputable def i9(P:U4)(w:World)(K:Z4)(mg:ZH)(base:Heap)(k:Nat)(x:Str)(ps:ZF)(sp:Sp):Prop :=
 ∃f fd,FnOk P w K mg base sZ k f fd ps sp/\mg x=some (.ref f)/\R3 K (.ref f)=true/\Binds K fd ps []
section
variable {P:U4}{w:World}{K:Z4}{mg:ZH}{base:Heap}
theorem aL.has{st:Stmt}(D:aL K mg x st ps)(S:FnScope N ps (ah st))(len:∀vs H Q E,sp vs H Q E->vs.length=ps.length)(hbody:∀(f:Addr) (ZP:Value) (A:Around) (outer:List Env) (s:Shared) (H:Hp) (vs:List V) (Q:VK) (E:XK),Room k (A.deeper<|envOfC x (ah st) s.heap.objs.size f ZP)->sp vs H Q E ->
   ∃t,mX (me sZ P w K mg base N x (ah st) f ZP A outer s H E).nox (aX st) t/\t {nx:=λa H'=>Q .non H',rt:=Q} (start N vs) H):i9 P w K mg base (k+1) x ps sp:=by
 refine ay D λf fd F b hm=>?_;exact⟨f,fd,F.ok S len λZP A outer s H vs Q E hr h=>hbody f ZP A outer s H vs Q E hr h,hm,F.kp,b⟩
end
section
variable {X:Cx}{k:Nat}{ps:ZF}{sp:Sp}{x:Str}{p pos:Pos}{e:Expr}{es:List Expr}{t:TA}
theorem av(G:i9 X.prog X.w X.K X.mg X.base k x ps sp)(hr:Room k X.A)(hg:Gl X x)(ha:PA X (e ::es) t)(hdb:autoParam ((x==("__debug__":Str))=false) L2.ir._auto_1)(he:autoParam (V6 (e ::es) X.env=(false,eval e X.env) ::V6 es X.env) L2.eX._auto_1)(hpl:autoParam ((backTo pos<|V6 es X.env).any (·.1)=false) L2.eX._auto_1):
  PE X (.Call (.Name x p) (e ::es) [] pos) (sS sp [] E0 t):=by
 refine fL G λf fd F hm hk hb=>?_;exact pe_call F hr hg hm hk hb .nil Aj ha hdb he hpl
end
structure Blt(mg:ZH):Prop where
 len:mg "len"=none
 range:mg "range"=none
 enumerate:mg "enumerate"=none
 zip:mg "zip"=none
 min:mg "min"=none
 max:mg "max"=none
 abs:mg "abs"=none
 isinstance:mg "isinstance"=none
 int_:mg "int"=none
 bool_:mg "bool"=none
 list_:mg "list"=none
 tuple_:mg "tuple"=none
 sorted:mg "sorted"=none
 set_:mg "set"=none
theorem iG:P5 "len"=some (.builtin "len"):=by decide +kernel
theorem jz:P5 "min"=some (.builtin "min"):=by decide +kernel
theorem jA:P5 "max"=some (.builtin "max"):=by decide +kernel
theorem vi:P5 "abs"=some (.builtin "abs"):=by decide +kernel
theorem gn:P5 "isinstance"=some (.builtin "isinstance"):=by decide +kernel
theorem gB:P5 "sorted"=some (.builtin "sorted"):=by decide +kernel
theorem Ap:P5 "int"=some (.type "int"):=by decide +kernel
theorem bo_bool:P5 "bool"=some (.type "bool"):=by decide +kernel
theorem bo_list:P5 "list"=some (.type "list"):=by decide +kernel
theorem Aq:P5 "tuple"=some (.type "tuple"):=by decide +kernel
theorem bo_set:P5 "set"=some (.type "set"):=by decide +kernel
abbrev Ints(K:Z4)(H:Hp)(a:Addr)(ns:ZL):Prop:=fm K H a<|ns.map V.int
theorem gX{α β:Type}{F:α->β->Prop}:∀{l₁:List α} {l₂:List β} {i:Nat} {y:β},Paired F l₁ l₂->l₂[i]?=some y->∃x,l₁[i]?=some x/\F x y:=by
 intro l₁ l₂ i z p;induction p generalizing i with
 |nil=>exact λe=>nomatch e
 |cons r t ih =>
  cases i with
  |zero=>exact λe=>aF _ rfl<|Z8 e▸r
  |succ i=>exact λe=>ih (i:=i) e
theorem g8{α β:Type}{F:α->β->Prop}:∀{l₁:List α} {l₂:List β} {i:Nat} {x:α},Paired F l₁ l₂->l₁[i]?=some x->∃y,l₂[i]?=some y/\F x y:=by
 intro l₁ l₂ i z p;induction p generalizing i with
 |nil=>exact λe=>nomatch e
 |cons r t ih =>
  cases i with
  |zero=>exact λe=>aF _ rfl<|Z8 e▸r
  |succ i=>exact λe=>ih (i:=i) e
theorem nB{K:Z4}{mg:ZH}{st:Stmt}{kV doc pm ZP ct:Value}(X:K.In h)(G:h.Ns S8 mg)(a:PySem.W.nsIn K S8 x=some (some<|.ref f))(l:K.lookup f=some ⟨oc,od,.func<|R6 x x (bK st) (aX st) (ah st) .none kV doc pm an ZP ct,osl⟩)(c:N2 K ZP x=true)(k:R3 K (.ref f)=true)(hb:∀(kV doc pm:Value) (an:Zr) (ZP ct:Value) (us:ZK),us.length=ps.length->bindArgs (R6 x x (bK st) (aX st) (ah st) .none kV doc pm an ZP ct) ⟨us,[]⟩=pure (ps.zip us)):aL K mg x st ps :=
 ⟨f,_,gU (st:=st) l c k,(gU (st:=st) l c k).binds hb,PySem.W.mg_of X G a⟩
theorem aQ(h:H p=none):aY H (aH H p o):=λb u e=>by rw[aq (ai e h)];exact e
section
variable {X:Cx}{K:Z4}
theorem nC(h:X.K=K):SlR X (rSlL K):=by subst h;exact sl_list
theorem aJ(h:X.K=K):IxR X (rIxL K):=by subst h;exact ix_list
theorem bH(h:X.K=K):IxR X (qK K):=by subst h;exact ix_tup
theorem Ar(h:X.K=K):jh X (R9 .In) (rIn K false):=by subst h;exact yB
theorem yK(h:X.K=K):jh X (R9 .NotIn) (rIn K true):=by subst h;exact qM
theorem wV(h:X.K=K)(hu:X.A.units+64<cLine):jh X (R9 .Eq) (rEqD K):=by subst h;exact op_eqD hu
def rLen(K:Z4):List V->Hp->VK->Prop:=λxs H Q=>∃p ys,xs=[.ref p]/\(fm K H p ys\/j5 K H p ys)/\Q (.int ys.length) H
theorem de(h:X.K=K):eN X (.builtin "len") (rLen K):=by subst h;exact qN
def rIsi(K:Z4)(T:String):List V->Hp->VK->Prop:=λxs H Q=>∃x t b,xs=[x,.ty T]/\TyOf K H x t/\L9 K t (.type T)=some b/\Q (.bl b) H
theorem l8(h:X.K=K):eN X (.builtin "isinstance") (rIsi K T):=by subst h;exact t6
def tTru(K:Z4)(ta:TE):TT:=λσ H Q=>ta σ H λx H'=>∃k,TruV K x H' k/\Q k H'
theorem qR(h:X.K=K)(ha:PE X a ta)(he:∀whole,isTrue a X.env whole=(do let v <- whole;standAt a.pos;holding [v] (truthy v))):PT X a (tTru K ta):=by subst h;exact zZ ha he
theorem bu(h:X.K=K)(hl:PE X l tl):PI X tg l (zT K tl):=by subst h;exact pi_list hl
theorem As{elts:List Expr}{x1:Nat}{tpos:Pos}{a:Expr}{ta:TA}{p pos:Pos}(h:X.K=K)(hg:Gl X "enumerate")(hm:X.mg "enumerate"=none)(ha:PA X [a] ta)(hs:autoParam (V6 [a] X.env=[(false,eval a X.env)]) L2.eX._auto_1):
  PI X (.Tuple elts x1 tpos) (.Call (.Name "enumerate" p) [a] [] pos) (Ao K ta):=by subst h;exact pi_enum hg hm ha hs
theorem qS{es:List Expr}{k:Nat}{t:TGs}{n:Nat}{pos:Pos}(h:X.K=K)(hc:X.calm=true)(hs:PGs X es t)(hn:autoParam ((assignEach es X.env).length=n) L2.eX._auto_1)(hst:autoParam ((assignEach es X.env).findIdx? (·.1)=none) L2.eX._auto_1):
  PG X (.Tuple es k pos) (zR K n t):=by subst h;exact pg_tup hc hs hn hst
section
variable {o e:Expr}{es:List Expr}{to:TE}{t:TA}{name:Str}{apos cpos:Pos}{T id:String}{r:V->List V->Hp->VK->Prop}
theorem jB(h:X.K=K)(pa:PlainAttrs T)(slot:Slot T name id)(hty:typeOf (.builtin id)=pure (.type "method_descriptor"))(hm:MtR X id r)(ho:PE X o to)(ha:PA X (e ::es) t)(hbase:autoParam (attributeBase o name X.env (eval o X.env)=eval o X.env) L2.eX._auto_1)(hfew:((backTo cpos<|V6 (e ::es) X.env).all (λx=>!x.1)&&(backToKw cpos<|keywordEach [] X.env).all (λx=>x.1.isSome)
  &&decide ((e ::es).length+([]:List Keyword).length+(if ([]:List Keyword).isEmpty then 0 else 1)<30))=true:=by rfl)(hline:autoParam ((apos.endLine==cpos.line)=true) L2.eX._auto_1)(hs:autoParam (V6 (e ::es) X.env=(false,eval e X.env) ::V6 es X.env) L2.eX._auto_1)(hplain:autoParam ((backTo cpos<|V6 es X.env).any (·.1)=false) L2.eX._auto_1):
  PE X (.Call (.Attribute o name apos) (e ::es) [] cpos) (tBM K T r to t):=by subst h;exact pe_bm pa slot hty hm ho ha hbase hfew hline hs hplain
end
end
class Kon where
 T:List Addr
 Q:Addr->Str
def aW(c:Addr)(q:Str):Heap->Prop:=λh=>h.CodeRec (.ref c) q
def dJ:HO->Prop
 |.tbl _=>False
 |_=>True
structure TbG[Kn:Kon](H:Hp):Prop where
 there:∀P∈Kon.T,∃ps,H P=some (.tbl ps)
 good:∀P ps,H P=some (.tbl ps)->TriplesOk ps.toList/\∀pos cv,codeAmong pos ps.toList=some cv->∃c,cv=.ref c/\H c=some (.ext<|aW c<|Kon.Q P)
structure Sm[Kn:Kon](H H':Hp):Prop where
 kp:∀b o,dJ o->H b=some o->H' b=some o
 tb:∀b ps,H b=some (.tbl ps)->∃more,H' b=some (.tbl<|ps++more)
 tg:TbG H->TbG H'
section
variable [Kn:Kon]{H H1 H2 H':Hp}{p:Addr}{o:HO}
theorem Sm.refl(H:Hp):Sm H H:=⟨λx x x h=>h,λx ps h=>⟨#[],by rw[h];simp⟩,λh=>h⟩
theorem Sm.trans(a:Sm H H1)(b:Sm H1 H2):Sm H H2:=⟨λc o n h=>b.kp c o n<|a.kp c o n h,λc ps h=>by refine ao (a.tb c ps h) λm1 e1=>?_;refine ao (b.tb c _ e1) λm2 e2=>?_;exact⟨m1++m2,by rw[e2,Array.append_assoc]⟩,λh=>b.tg<|a.tg h⟩
theorem Sm.some(e:Sm H H'){b:Addr}(h:H b=some o):∃o',H' b=some o':=by
 cases o with
 |tbl ps=>refine ao (e.tb b ps h) λm q=>?_;exact⟨_,q⟩
 |_=>refine⟨_,e.kp b _ ?_ h⟩;trivial
theorem Sm.free(e:Sm H H')(h:H' l=Option.none):H l=Option.none:=by
 cases q:H l with
 |none=>rfl
 |some o=>refine ao (e.some q) λo' z=>?_;rw[h]at z;cases z
theorem nD{Q:Prop}(q:aH H p o b=some u)(f:b=p->o=u->Q)(g:b≠p->H b=some u->Q):Q:=(Decidable.em<|b=p).elim (λe=>f e<|Z8<|am.symm.trans<|(congrArg (aH H p o) e).symm.trans q) λn=>g n<|(aq n).symm.trans q
theorem fi(n:b≠p)(q:H b=some u):aH H p o b=some u:=(aq n).trans q
theorem TbG.mv(g:TbG H)(k1:∀P ps,H P=some (.tbl ps)->H' P=some (.tbl ps))(k2:∀c q,H c=some (.ext<|aW c q)->H' c=some (.ext<|aW c q))(n:∀P ps,H' P=some (.tbl ps)->H P=some (.tbl ps)):TbG H' :=
 ⟨λP hP=>(g.there P hP).imp λps e=>k1 P ps e,λP ps q=>⟨(g.good P ps<|n P ps q).1,λpos cv hc=>((g.good P ps<|n P ps q).2 pos cv hc).imp λc z=>⟨z.1,k2 c _ z.2⟩⟩⟩
theorem qT(e:o=.tbl ps)(n:dJ o):False:=by subst e;exact n
theorem TbG.poke(g:TbG H)(n:dJ o)(h1:∀q,H p≠some (.ext<|aW p q))(h2:∀ps,H p≠some (.tbl ps)):TbG (aH H p o):=g.mv (λP ps q=>fi (λz=>h2 ps<|z▸q) q) (λc n q=>fi (λz=>h1 n<|z▸q) q) λP ps q=>nD q (λx e=>(qT e n).elim) λx q=>q
theorem TbG.pokN(g:TbG H)(n:dJ o)(h:H p=none):TbG (aH H p o):=g.poke n (λx z=>nomatch h.symm.trans z) λx z=>nomatch h.symm.trans z
theorem qU(h:H p=none)(n:dJ o):Sm H (aH H p o):=⟨λx x x q=>fi (ai q h) q,λx ps q=>⟨#[],by rw[Array.append_empty];exact fi (ai q h) q⟩,λg=>g.pokN n h⟩
def NoCode(φ:Heap->Prop):Prop:=∀c q,φ≠aW c q
def Own:HO->Prop
 |.lst _=>True
 |.dK _=>True
 |.dT _=>True
 |.ext φ=>NoCode φ
 |_=>False
theorem Own.noTbl(h:Own u):dJ u:=by cases u<;>first|exact h|trivial
theorem qV(a:Own u)(e:u=.ext (aW c q)):False:=by subst e;exact a c q rfl
theorem TbG.pokO(g:TbG H)(n:dJ o)(h:H p=some u)(a:Own u):TbG (aH H p o):=g.poke n (λx z=>qV a<|Z8<|h.symm.trans z) λx z=>qT (Z8<|h.symm.trans z) a.noTbl
theorem sm_chg(e:Sm H H1)(h0:H p=none)(h:H1 p=some u)(a:Own u)(b:Own u'):Sm H (aH H1 p u'):=⟨λc o n q=>fi (ai q h0)<|e.kp c o n q,λc ps q=>(e.tb c ps q).imp λx z=>fi (ai q h0) z,λg=>(e.tg g).pokO b.noTbl h a⟩
theorem qW(e:Sm H H1)(h0:H p=none)(h:H1 p=some u)(a:Own u):Sm H (λb=>if b=p then Option.none else H1 b):=by have k:∀{c:Addr} {o:HO},H1 c=some o->c≠p->(if c=p then Option.none else H1 c)=some o:=λq n=>(if_neg n).trans q;have ne:∀{c:Addr} {o:HO},H1 c=some o->(u=o->False)->c≠p:=λq n z=>n<|Z8<|h.symm.trans<|z▸q;exact⟨λc o n q=>k (e.kp c o n q)<|ai q h0,λc ps q=>(e.tb c ps q).imp λx z=>k z<|ai q h0,λg=>(e.tg g).mv (λx x q=>k q (ne q λz=>qT z a.noTbl)) (λx x q=>k q (ne q λz=>qV a z)) λP x q=>(Decidable.em<|P=p).elim (λz=>nomatch (if_pos z).symm.trans q) λn=>(if_neg n).symm.trans q⟩
end
def NT(F:Hp):Prop:=∀b ps,F b≠some (.tbl ps)
theorem nE(h:NT F)(n:dJ o):NT (aH F p o):=λb ps q=>by
 by_cases e:b=p
 ·subst e;rw[am]at q;cases q;exact n
 ·rw[aq e]at q;exact h b ps q
structure Rp(α:Type) where
 rel:Hp->V->α->Prop
 mono:∀{H H':Hp} {v:V} {a:α},aY H H'->rel H v a->rel H' v a
theorem Paired.imp2{α β:Type}{F G:α->β->Prop}(h:∀a b,F a b->G a b):∀{l:List α} {m:List β},Paired F l m->Paired G l m:=λp=>Paired.mapP p h
theorem Paired.setB{α β:Type}{F:α->β->Prop}{x:α}{y:β}(h:F x y):∀{l:List α} {m:List β} (i:Nat),Paired F l m->Paired F (l.set i x) (m.set i y):=by
 intro l m i p;induction p generalizing i with
 |nil=>exact .nil
 |cons r t ih =>
  cases i with
  |zero=>exact .cons h t
  |succ i=>exact .cons r<|ih i
theorem Paired.app{α β:Type}{F:α->β->Prop}:∀{l l':List α} {m m':List β},Paired F l m->Paired F l' m'->Paired F (l++l') (m++m'):=λp s=>by
 induction p with
 |nil=>exact s
 |cons r _ ih=>exact .cons r ih
theorem Paired.takeB{α β:Type}{F:α->β->Prop}:∀{l:List α} {m:List β} (n:Nat),Paired F l m->Paired F (l.take n) (m.take n):=by
 intro l m n p;induction p generalizing n with
 |nil=>cases n<;>exact .nil
 |cons r t ih =>
  cases n with
  |zero=>exact .nil
  |succ n=>exact .cons r<|ih n
theorem Paired.dropB{α β:Type}{F:α->β->Prop}:∀{l:List α} {m:List β} (n:Nat),Paired F l m->Paired F (l.drop n) (m.drop n):=by
 intro l m n p;induction p generalizing n with
 |nil=>cases n<;>exact .nil
 |cons r t ih =>
  cases n with
  |zero=>exact .cons r t
  |succ n=>exact ih n
noncomputable def a9:Rp Int:=⟨λx v a=>v=.int a,λx h=>h⟩
noncomputable def bF:Rp Bool:=⟨λx v a=>v=.bl a,λx h=>h⟩
noncomputable def fg{α:Type}(r:Rp α):Rp (Option α):=⟨λH v a=>match a with|none=>v=.non|some x=>r.rel H v x,λ{_ _ _ a} e h=>by
 cases a with
 |none=>exact h
 |some x=>exact r.mono e h⟩
theorem aY.rd(e:aY H H')(h:Rd H a u):Rd H' a u:=by
 rcases h with h|zr1_
 ·exact .inl<|e _ _ h
 ·refine ao zr1_ λo h=>?_;exact .inr ⟨o,e _ _ h⟩
noncomputable def rL{α:Type}(r:Rp α):Rp (List α):=⟨λH v xs=>∃p vs,v=.ref p/\Rd H p (.lst vs)/\Paired (r.rel H) vs xs,λe zq=>ay zq λp vs h1 h2 h3=>(d4 p vs h1 (e.rd h2)<|Paired.imp2 (λx x q=>r.mono e q) h3)⟩
noncomputable def rT1{α:Type}(r:Rp α):Rp α:=⟨λH v x=>∃p a,v=.ref p/\H p=some (.tup [a])/\r.rel H a x,λe zq=>ay zq λp a h1 h2 h3=>(d4 p a h1 (e _ _ h2)<|r.mono e h3)⟩
noncomputable def cF{α β:Type}(r:Rp α)(s:Rp β):Rp (α×β):=⟨λH v x=>∃p a b,v=.ref p/\H p=some (.tup [a,b])/\r.rel H a x.1/\s.rel H b x.2,
 λe zq=>dh zq λp a b h1 h2 h3 h4=>⟨p,a,b,h1,e _ _ h2,r.mono e h3,s.mono e h4⟩⟩
noncomputable def ml{α β γ:Type}(r:Rp α)(s:Rp β)(t:Rp γ):Rp (α×β×γ):=⟨λH v x=>∃p a b c,v=.ref p/\H p=some (.tup [a,b,c])/\r.rel H a x.1/\s.rel H b x.2.1/\t.rel H c x.2.2,
 λe zq=>iq zq λp a b c h1 h2 h3 h4 h5=>⟨p,a,b,c,h1,e _ _ h2,r.mono e h3,s.mono e h4,t.mono e h5⟩⟩
abbrev im{α:Type}(r:Rp α)(H:Hp):Key×V->Int×α->Prop:=λw k=>w.1=.inl k.1/\r.rel H w.2 k.2
noncomputable def rD{α:Type}(r:Rp α):Rp (List<|Int×α):=⟨λH v kvs=>∃p ws,v=.ref p/\H p=some (.dK ws)/\Paired (im r H) ws kvs,
 λe zq=>ay zq λp ws h1 h2 h3=>(d4 p ws h1 (e _ _ h2)<|Paired.imp2 (λx x q=>⟨q.1,r.mono e q.2⟩) h3)⟩
noncomputable def del(F:Hp)(p:Addr):Hp:=λb=>if b=p then none else F b
theorem cw(h:b≠p):del F p b=F b:=by unfold del;rw[if_neg h]
theorem eP:del F p p=none:=by unfold del;rw[if_pos rfl]
set_option tactic.hygienic true in
theorem eQ(h:del F p b=some o):b≠p/\F b=some o:=by
 unfold del at h;split at h
 ·cases h
 ·rename_i q;exact⟨q,h⟩
def Chg:HO->Prop
 |.lst _=>True
 |.dK _=>True
 |.dT _=>True
 |.ins _ _ _=>True
 |_=>False
def Flat{α:Type}(r:Rp α):Prop:=∀{F:Hp} {p:Addr} {o:HO} {v:V} {a:α},F p=some o->Chg o->r.rel F v a->r.rel (del F p) v a
theorem cK:Flat a9:=λx x h=>h
theorem wW{α:Type}{r:Rp α}(f:Flat r):Flat (fg r):=λ{_ _ _ _ a} h c q=>by
 cases a with
 |none=>exact q
 |some x=>exact f h c q
theorem tup_del(h:F p=some o)(c:Chg o)(q:F a=some (.tup xs)):del F p a=some (.tup xs):=by
 rw[cw]
 ·exact q
 ·rintro rfl;rw[h]at q;cases q;exact c
theorem flat_t3{α β γ:Type}{r:Rp α}{s:Rp β}{t:Rp γ}(f:Flat r)(g:Flat s)(k:Flat t):Flat (ml r s t) :=
 λh c zq=>iq zq λp a b d h1 h2 h3 h4 h5=>⟨p,a,b,d,h1,tup_del h c h2,f h c h3,g h c h4,k h c h5⟩
noncomputable def nF(K:Z4):Rp (List Int):=⟨λH v xs=>∃p vs,v=.ref p/\fm K H p vs/\Paired (a9.rel H) vs xs,λe zq=>ay zq λp vs h1 h2 h3=>(d4 p vs h1 (e.seq h2)<|Paired.imp2 (λx x q=>a9.mono e q) h3)⟩
structure Sq(K:Z4){α:Type}(rl:Rp (List α))(r:Rp α):Prop where
 get:∀{H v xs},rl.rel H v xs->∃p vs,v=.ref p/\fm K H p vs/\Paired (r.rel H) vs xs
theorem bi{K:Z4}{α:Type}{r:Rp α}:Sq K (rL r) r:=⟨λzq=>ay zq λp vs h1 h2 h3=>(d4 p vs h1 (.inl h2) h3)⟩
theorem sq_s{K:Z4}:Sq K (nF K) a9:=⟨λh=>h⟩
inductive Slot:Type 1 where
 |any
 |fr {α:Type} (r:Rp α) (a:α)
 |ol {α:Type} (r:Rp α) (φ:Zz) (xs:List α)
 |od {α:Type} (r:Rp α) (φ:Zz) (kvs:List (Int×α))
 |ot {α:Type} (r:Rp α) (kvs:List ((Int×Int)×α))
abbrev vj{α:Type}(r:Rp α)(H:Hp):List Key×V->(Int×Int)×α->Prop:=λw k=>w.1=[.inl k.1.1,.inl k.1.2]/\r.rel H w.2 k.2
structure NwL(H0 F:Hp)(us:List V)(ZZ:ZI):Prop where
 pr:Paired (λv row=>∃q vs,v=.ref q/\F q=some (.lst vs)/\Paired (a9.rel F) vs row) us ZZ
 nd:us.Nodup
 nw:∀q,V.ref q∈us->H0 q=none
theorem NwL.mono(e:aY F F')(h:NwL H0 F us ZZ):NwL H0 F' us ZZ :=
 ⟨Paired.imp2 (λx x z=>ay z λq vs h1 h2 h3=>⟨q,vs,h1,e _ _ h2,Paired.imp2 (λx x y=>y) h3⟩) h.pr,h.nd,h.nw⟩
noncomputable def Slot.own:Slot->Bool
 |.ol _ _ _=>true
 |.od _ _ _=>true
 |.ot _ _=>true
 |_=>false
def wX:Addr->Prop:=λx=>True
def dQ(H0 F H:Hp):Slot->Option V->Prop
 |.any,_=>True
 |.fr r a,o=>∃v,o=some v/\r.rel F v a
 |.ol r φ xs,o=>∃p vs,o=some (.ref p)/\φ p/\H0 p=none/\F p=none/\H p=some (.lst vs)/\Paired (r.rel F) vs xs
 |.od r φ kvs,o=>∃p ws,o=some (.ref p)/\φ p/\H0 p=none/\F p=none/\H p=some (.dK ws)/\Paired (im r F) ws kvs
 |.ot r kvs,o=>∃p ws,o=some (.ref p)/\H0 p=none/\F p=none/\H p=some (.dT ws)/\Paired (vj r F) ws kvs
def Cc:Option HO->Prop
 |none=>True
 |some (.tup _)=>True
 |some _=>False
theorem wY(h:o=none):Cc o:=h▸trivial
theorem Au(z:Cc o)(e:o=some u)(h:Own u):False:=by subst e;cases u<;>first|exact z|exact h
theorem Sm.un[Kn:Kon](e:Sm H H')(h:Cc (H' l)):Cc (H l):=by
 cases q:H l with
 |none=>trivial
 |some o =>
  cases o with
  |tup _=>trivial
  |tbl ps=>refine ao (e.tb l ps q) λm z=>?_;rw[z]at h;exact h
  |_=>have z:=e.kp l _ (by trivial) q;rw[z]at h;exact h
theorem fX{σ:St}{i:Nat}{B:Type}{q1 q2 q3 q4 q5:Addr->B->Prop}{Q:Prop}(h:∃o,σ[i]?=some o/\∃p w,o=some (V.ref p)/\q1 p w/\q2 p w/\q3 p w/\q4 p w/\q5 p w)(f:∀p w,σ[i]?=some (some<|V.ref p)->q1 p w->q2 p w->q3 p w->q4 p w->q5 p w->Q):Q:=aa h λo a z=>ik z λp w e a1 a2 a3 a4 a5=>f p w (e▸a) a1 a2 a3 a4 a5
structure Fc where
 H0:Hp
 F0:Hp
 L:Hp
structure Fr[Kn:Kon](C:Fc)(F H:Hp):Prop where
 keep:Sm C.H0 H
 low:aY C.L F
 sub:aY F H
 base:∀b o,F b=some o->C.F0 b=some o\/Cc (C.H0 b)
 nt:NT F
 tg:TbG H
structure SR[Kn:Kon](C:Fc)(F:Hp)(Γ:List Slot)(σ:St)(H:Hp):Prop extends Fr C F H where
 len:σ.length=Γ.length
 at_:∀(i:Nat) s,Γ[i]?=some s->∃o,σ[i]?=some o/\dQ C.H0 F H s o
 inj:∀(i j:Nat) s t p,Γ[i]?=some s->Γ[j]?=some t->s.own=true->t.own=true->σ[i]?=some (some<|.ref p)->σ[j]?=some (some<|.ref p)->i=j
structure Ext[Kn:Kon](F H F' H':Hp):Prop where
 hh:Sm H H'
 ff:aY F F'
 sub:aY F' H'
 nw:∀b o,F' b=some o->F b=some o\/Cc (H b)
 nt:NT F->NT F'
section
variable [Kn:Kon]
theorem Ext.refl(h:aY F H):Ext F H F H:=⟨Sm.refl _,aY.refl _,h,λx x q=>.inl q,λz=>z⟩
theorem Ext.trans(a:Ext F H F1 H1)(b:Ext F1 H1 F2 H2):Ext F H F2 H2:=⟨a.hh.trans b.hh,a.ff.trans b.ff,b.sub,λc o h=>by
 rcases b.nw c o h with q|q
 ·exact a.nw c o q
 ·exact .inr<|a.hh.un q,λz=>b.nt<|a.nt z⟩
theorem Ext.new{F H:Hp}{p:Addr}{o:HO}(h:aY F H)(hp:H p=none)(n:autoParam (dJ o) L2.a4q._auto_1):Ext F H (aH F p o) (aH H p o) :=
 ⟨qU hp n,aQ<|h.free hp,λb u q=>by
  by_cases e:b=p
  ·subst e;rw[am]at q ⊢;exact q
  ·rw[aq e]at q ⊢;exact h b u q,λb u q=>by
  by_cases e:b=p
  ·subst e;exact .inr (wY hp)
  ·rw[aq e]at q;exact .inl q,λz=>nE z n⟩
theorem Ext.newH{F H:Hp}{p:Addr}{o:HO}(h:aY F H)(hp:H p=none)(n:autoParam (dJ o) L2.a4q._auto_1):Ext F H F (aH H p o):=⟨qU hp n,aY.refl _,h.trans<|aQ hp,λx x q=>.inl q,λz=>z⟩
theorem Fr.grow(f:Fr C F H)(e:Ext F H F' H'):Fr C F' H':=⟨f.keep.trans e.hh,f.low.trans e.ff,e.sub,λb o h=>by
 rcases e.nw b o h with q|q
 ·exact f.base b o q
 ·exact .inr<|f.keep.un q,e.nt f.nt,e.hh.tg f.tg⟩
theorem none_of{α:Type _}{o:Option α}(h:∀w,o=some w->False):o=none:=by
 cases o with
 |none=>rfl
 |some w=>exact(h w rfl).elim
theorem dQ.mov(h:dQ H0 F H s o)(lo:aY F F')(k:∀p u,o=some (.ref p)->s.own=true->F p=none->H p=some u->Own u->F' p=none/\H' p=some u):dQ H0 F' H' s o:=by
 cases s with
 |any=>trivial
 |fr r a=>exact aa h λv h1 h2=>aF v h1<|r.mono lo h2
 |ol r φ xs=>exact ik h λp vs h1 h0 h2 h3 h4 h5=>ax (k p _ h1 rfl h3 h4 trivial) λa b=>⟨p,vs,h1,h0,h2,a,b,(Paired.imp2 (λx x q=>r.mono lo q) h5)⟩
 |od r φ kvs=>exact ik h λp ws h1 h0 h2 h3 h4 h5=>ax (k p _ h1 rfl h3 h4 trivial) λa b=>⟨p,ws,h1,h0,h2,a,b,(Paired.imp2 (λx x q=>⟨q.1,r.mono lo q.2⟩) h5)⟩
 |ot r kvs=>exact fk h λp ws h1 h2 h3 h4 h5=>ax (k p _ h1 rfl h3 h4 trivial) λa b=>yi p ws h1 h2 a b<|Paired.imp2 (λx x q=>⟨q.1,r.mono lo q.2⟩) h5
theorem dQ.grow(e:Ext F H F' H')(h:dQ H0 F H s o):dQ H0 F' H' s o:=h.mov e.ff λp x x x h1 h2 hu=>⟨none_of λw q=>(e.nw p w q).elim (λz=>nomatch h1.symm.trans z) λz=>Au z h2 hu,e.hh.kp _ _ hu.noTbl h2⟩
section
variable {C:Fc}{F H F' H':Hp}{Γ:List Slot}{σ:St}
theorem SR.grow(S:SR C F Γ σ H)(e:Ext F H F' H'):SR C F' Γ σ H':=⟨S.toFr.grow e,S.len,λi s h=>by refine aa (S.at_ i s h) λo h1 h2=>?_;exact(aF o h1<|h2.grow e),S.inj⟩
theorem SR.fr{α:Type}{r:Rp α}{a:α}{i:Nat}(S:SR C F Γ σ H)(h:Γ[i]?=some (.fr r a)):∃v,σ[i]?=some (some v)/\r.rel F v a:=by refine aa (S.at_ i _ h) λo h1 zz=>aa zz λv ZU h2=>?_;subst ZU;exact(aF v h1 h2)
theorem vk{α:Type _}{l:List α}{x:α}(h:i<l.length):(l.set i x)[i]?=some x:=List.getElem?_set_self h
theorem ej{α:Type _}{l:List α}{x:α}(h:i≠j):(l.set i x)[j]?=l[j]?:=List.getElem?_set_ne h
theorem jZ{α:Type _}{l:List α}{x y:α}(e:i=j)(hl:i<l.length)(h:(l.set i x)[j]?=some y):x=y:=by subst e;exact Z8<|(vk hl).symm.trans h
theorem gp{α:Type _}{l:List α}{x y:α}{Q:Prop}(h:(l.set i x)[j]?=some y)(f:i=j->x=y->i<l.length->Q)(g:i≠j->l[j]?=some y->Q):Q:=(Decidable.em<|i=j).elim (λe=>have hl:i<l.length:=by rw[e,<- G8];exact(Z6.mp h).1
 f e (jZ e hl h) hl) λn=>g n<|(ej n).symm.trans h
theorem SR.pt(i:Nat)(S:SR C F Γ σ H)(fr:Fr C F' H')(k:∀(j:Nat) t,i≠j->Γ[j]?=some t->∃o,σ[j]?=some o/\dQ C.H0 F' H' t o)(h:dQ C.H0 F' H' s v)(np:s.own=true->∀p,v=some (.ref p)->∀(j:Nat) t,i≠j->Γ[j]?=some t->t.own=true->σ[j]?=some (some<|.ref p)->False):SR C F' (Γ.set i s) (σ.set i v) H':=by
 have lt:i<Γ.length->i<σ.length:=λl=>Nat.lt_of_lt_of_eq l S.len.symm;exact⟨fr,by rw[G8,G8];exact S.len,λj t q=>gp q (λe1 e2 l=>aF v (e1▸vk (lt l))<|e2▸h) λn q=>aa (k j t n q) λo h1 h2=>aF o ((ej n).trans h1) h2,
  λj m a t p q1 q2 o1 o2 e1 e2=>gp q1 (λa1 a2 l=>gp q2 (λb1 x x=>a1.symm.trans b1) λn q2=>(np (a2▸o1) p (jZ a1 (lt l) e1) m t n q2 o2<|(ej n).symm.trans e2).elim) λn1 q1=>gp q2 (λb1 b2 l=>(np (b2▸o2) p (jZ b1 (lt l) e2) j a n1 q1 o1<|(ej n1).symm.trans e1).elim) λn2 q2=>S.inj j m a t p q1 q2 o1 o2 ((ej n1).symm.trans e1)<|(ej n2).symm.trans e2⟩
theorem wZ{α:Type _}{l:List α}{a:α}(h:l[i]?=some a):l.set i a=l:=by
 apply List.ext_getElem?;intro j;by_cases e:i=j
 ·subst e;rw[vk (Z6.mp h).1,h]
 ·rw[ej e]
theorem SR.pk(S:SR C F Γ σ H)(hi:Γ[i]?=some s)(ho:s'.own=true->s.own=true)(e1:σ[i]?=some o)(fr:Fr C F' H')(k:∀(j:Nat) t,i≠j->Γ[j]?=some t->∃o,σ[j]?=some o/\dQ C.H0 F' H' t o)(h:dQ C.H0 F' H' s' o):SR C F' (Γ.set i s') σ H' :=
 wZ e1▸S.pt i fr k h λy p z j t n q o2 e2=>n<|S.inj i j s t p hi q (ho y) o2 (z▸e1) e2
theorem SR.mvAt{j:Nat}(S:SR C F Γ σ H)(q:Γ[j]?=some t)(lo:aY F F')(k:∀p u,t.own=true->σ[j]?=some (some<|.ref p)->F p=none->H p=some u->Own u->F' p=none/\H' p=some u):∃o,σ[j]?=some o/\dQ C.H0 F' H' t o:=aa (S.at_ j t q) λo h1 h2=>aF o h1 (h2.mov lo λp u e ow f h ou=>k p u ow (e▸h1) f h ou)
theorem SR.oth{i j:Nat}(S:SR C F Γ σ H)(hi:Γ[i]?=some s)(ho:s.own=true)(hp:σ[i]?=some (some<|.ref p))(n:i≠j)(q:Γ[j]?=some t)(o:t.own=true)(e:σ[j]?=some (some<|.ref p')):p'≠p:=λz=>n<|S.inj i j s t p hi q ho o hp<|z▸e
theorem SR.setF{α:Type}{r:Rp α}{a:α}(i:Nat)(S:SR C F Γ σ H)(h:r.rel F v a):SR C F (Γ.set i<|.fr r a) (σ.set i<|some v) H:=S.pt i S.toFr (λj t x q=>S.at_ j t q) ⟨v,rfl,h⟩ λz=>nomatch z
theorem vm(hs:s.own=true)(h:dQ H0 F H s (some<|.ref p)):∃u,H p=some u/\Own u:=by
 cases s with
 |any=>cases hs
 |fr r a=>cases hs
 |ol r φ xs=>refine ik h λp' vs h1 x x x h4 x=>?_;cases h1;exact(aF _ h4 trivial)
 |od r φ kvs=>refine ik h λp' vs h1 x x x h4 x=>?_;cases h1;exact(aF _ h4 trivial)
 |ot r kvs=>refine fk h λp' us h1 x x h4 x=>?_;cases h1;exact(aF _ h4 trivial)
theorem SR.np{j:Nat}(S:SR C F Γ σ H)(hp:H p=none)(q:Γ[j]?=some t)(o:t.own=true)(e:σ[j]?=some (some<|.ref p)):False:=aa (S.at_ j t q) λo' h1 h2=>aa (vm o<|Z8 (h1.symm.trans e)▸h2) λx z x=>nomatch hp.symm.trans z
theorem xf(hs:s.own=true)(h:dQ H0 F (aH H p u) s (some<|.ref p)):Own u:=aa (vm hs h) λx e1 e2=>Z8 (am.symm.trans e1)▸e2
theorem SR.setO(i:Nat)(S:SR C F Γ σ H)(hp:H p=none)(hs:s.own=true)(h:dQ C.H0 F (aH H p u) s (some<|.ref p)):SR C F (Γ.set i s) (σ.set i<|some<|.ref p) (aH H p u):=by have e:Ext F H F (aH H p u):=Ext.newH S.sub hp (xf hs h).noTbl;exact S.pt i (S.toFr.grow e) (λj t x q=>(S.grow e).at_ j t q) h λx p' z j t x q o e=>S.np hp q o<|e.trans<|congrArg some z.symm
theorem SR.chg(S:SR C F Γ σ H)(hi:Γ[i]?=some s)(ho:s.own=true)(hp:σ[i]?=some (some<|.ref p))(h0:C.H0 p=none)(hF:F p=none)(hs:s'.own=true)(h:dQ C.H0 F (aH H p u) s' (some<|.ref p)):
  SR C F (Γ.set i s') σ (aH H p u):=by
 refine aa (S.at_ i s hi) λo z1 z2=>aa (vm ho<|Z8 (z1.symm.trans hp)▸z2) λu0 hu0 ou0=>?_;have ou:=xf hs h;exact S.pk hi (λx=>ho) hp ⟨sm_chg S.keep h0 hu0 ou0 ou,S.low,λb o q=>fi (ai q hF)<|S.sub b o q,S.base,S.nt,S.tg.pokO ou.noTbl hu0 ou0⟩ (λj t n q=>S.mvAt q (aY.refl _) λp' x o e f hu x=>⟨f,fi (S.oth hi ho hp n q o e) hu⟩) h
end
inductive SubS:Slot->Slot->Prop where
 |any {s:Slot}:SubS s .any
 |rfl {s:Slot}:SubS s s
 |frz {α:Type} {r:Rp α} {φ:Zz} {xs:List α}:SubS (.ol r φ xs) (.fr (rL r) xs)
 |frd {α:Type} {r:Rp α} {φ:Zz} {kvs:List (Int×α)}:SubS (.od r φ kvs) (.fr (rD r) kvs)
 |ttD {α:Type} {r:Rp α} {φ:Zz} {kvs:List (Int×α)}:SubS (.od r φ kvs) (.od r wX kvs)
 |tt {α:Type} {r:Rp α} {φ:Zz} {xs:List α}:SubS (.ol r φ xs) (.ol r wX xs)
inductive SubL:List Slot->List Slot->Prop where
 |nil:SubL [] []
 |cons {s s':Slot} {Γ Γ':List Slot}:SubS s s'->SubL Γ Γ'->SubL (s ::Γ) (s' ::Γ')
theorem aB(h:SubL Γ Γ'):SubL (s ::Γ) (s ::Γ'):=.cons .rfl h
theorem da(h:SubL Γ Γ'):SubL (s ::Γ) (.any ::Γ'):=.cons .any h
theorem SR.freeze(S:SR C F Γ σ H)(hi:Γ[i]?=some s)(p:Addr)(u:HO)(s':Slot)(hs':s'.own=false)(hs:s.own=true)(e1:σ[i]?=some (some<|.ref p))(e2:C.H0 p=none)(e3:F p=none)(e4:H p=some u)(e5:dQ C.H0 (aH F p u) H s' (some<|.ref p))(ou:Own u):SR C (aH F p u) (Γ.set i s') σ H :=
 S.pk hi (λx=>hs) e1 ⟨S.keep,S.low.trans<|aQ e3,λb o q=>nD q (λa b=>a▸b▸e4) λx q=>S.sub b o q,λb o q=>nD q (λe x=>.inr<|wY<|e▸e2) λx q=>S.base b o q,nE S.nt ou.noTbl,S.tg⟩ (λj t n q=>S.mvAt q (aQ e3) λp' x o e f hu x=>⟨(aq<|S.oth hi hs e1 n q o e).trans f,hu⟩) e5
theorem SR.weak1(S:SR C F Γ σ H)(hi:Γ[i]?=some s)(h:SubS s s'):∃F',aY F F'/\SR C F' (Γ.set i s') σ H:=by
 have stay:∀s',(∀o,dQ C.H0 F H s o->dQ C.H0 F H s' o)->(s'.own=true->s.own=true)->∃F',aY F F'/\SR C F' (Γ.set i s') σ H:=λs' h1 h2=>aa (S.at_ i s hi) λo z1 z2=>aF F (aY.refl _)<|S.pk hi h2 z1 S.toFr (λj t x q=>S.at_ j t q)<|h1 o z2;cases h with
 |any=>exact stay _ (λx x=>trivial) (λz=>by cases z)
 |rfl=>exact stay _ (λx z=>z) λz=>z
 |tt=>exact stay _ (λx zq=>ay zq λp vs a x b=>⟨p,vs,a,trivial,b⟩) λz=>z
 |ttD=>exact stay _ (λx zq=>ay zq λp vs a x b=>⟨p,vs,a,trivial,b⟩) λz=>z
 |frz =>refine fX (S.at_ i _ hi) λp vs h1 h2 h3 h4 h5 h6=>?_;exact(aF _ (aQ h4)<|S.freeze hi p _ _ rfl rfl h1 h3 h4 h5 ⟨_,rfl,p,vs,rfl,Rd.of am,Paired.imp2 (λx x z=>Rp.mono _ (aQ h4) z) h6⟩ trivial)
 |frd =>refine fX (S.at_ i _ hi) λp vs h1 h2 h3 h4 h5 h6=>?_;exact(aF _ (aQ h4)<|S.freeze hi p _ _ rfl rfl h1 h3 h4 h5 ⟨_,rfl,p,vs,rfl,am,Paired.imp2 (λx x z=>⟨z.1,Rp.mono _ (aQ h4) z.2⟩) h6⟩ trivial)
theorem SR.weakL(h:SubL Γ Γ'):∀(Δ:List Slot) {F:Hp},SR C F (Δ++Γ) σ H->∃F',aY F F'/\SR C F' (Δ++Γ') σ H:=by
 induction h with
 |nil=>exact λΔ F S=>(aF F (aY.refl _) S)
 |@cons s s' Γ Γ' h1 _ ih =>
  intro Δ F S;refine aa (S.weak1 (i:=Δ.length) (s:=s) (s':=s') (by simp) h1) λF1 e1 S1=>?_;have e:(Δ++s ::Γ).set Δ.length s'=(Δ++[s'])++Γ:=by simp
  rw[e]at S1;refine aa (ih (Δ++[s']) S1) λF2 e2 S2=>?_;exact(aF F2 (e1.trans e2) (by simpa using S2))
theorem SR.weak(S:SR C F Γ σ H)(h:SubL Γ Γ'):∃F',aY F F'/\SR C F' Γ' σ H:=SR.weakL h [] S
theorem SR.lower(S:SR C F Γ σ H):SR {C with L:=F} F Γ σ H:=⟨⟨S.keep,aY.refl _,S.sub,S.base,S.nt,S.tg⟩,S.len,S.at_,S.inj⟩
theorem SR.raise(S:SR {C with L:=F} F1 Γ σ H)(h:aY C.L F):SR C F1 Γ σ H:=⟨⟨S.keep,h.trans S.low,S.sub,S.base,S.nt,S.tg⟩,S.len,S.at_,S.inj⟩
theorem Fr.raise(S:Fr {C with L:=F} F1 H)(h:aY C.L F):Fr C F1 H:=⟨S.keep,h.trans S.low,S.sub,S.base,S.nt,S.tg⟩
end
end L2
namespace Pu
theorem bs{α β:Type}{a:α}{f:α->Option β}:(some a).bind f=f a:=Eq.trans (cG a f)<|Eq.refl _
noncomputable def l9(i j:Int):Option Int:=if 0<j/\j<2^64 then some (i/j) else none
noncomputable def fmod(i j:Int):Option Int:=if 0<j then some (i%j) else none
noncomputable def mul(i j:Int):Option Int:=if (-(2^64)<i/\i<2^64)\/(-(2^64)<j/\j<2^64) then some (i*j) else none
noncomputable def pow(i j:Int):Option Int:=if 0<=j/\j<=1000000/\i.natAbs<2^64 then some (i^j.toNat) else none
noncomputable def mn(i j:Int):Int:=if j<i then j else i
noncomputable def mx(i j:Int):Int:=if j > i then j else i
noncomputable def ab(i:Int):Int:=if i<0 then -i else i
noncomputable def ofb(b:Bool):Int:=if b then 1 else 0
noncomputable abbrev at_{α:Type}(xs:List α)(i:Int):Option α:=L2.Cb xs i
noncomputable def ln{α:Type}(xs:List α):Int:=xs.length
noncomputable def cut{α:Type}(xs:List α)(lo hi:ZC):List α:=(xs.drop<|HT.qd xs.length 0 lo).take (HT.qd xs.length xs.length hi-HT.qd xs.length 0 lo)
noncomputable def app{α:Type}(xs:List α)(a:α):Option (List α):=if xs.length<16777216 then some (xs++[a]) else none
noncomputable def cat{α:Type}(xs ys:List α):Option (List α):=if xs.length+ys.length<=16777216 then some (xs++ys) else none
noncomputable def nats(n:Nat):List Int:=(X9 n).map λ(i:Nat)=>(i:Int)
noncomputable def lb(j:Int):Option (List Int):=if -(2^62)<=j/\j<2^62 then some (nats j.toNat) else none
noncomputable def t9(i j:Int):Option (List Int):=if -(2^62)<=i/\i<2^62/\-(2^62)<=j/\j<2^62 then some ((X9 (j-i).toNat).map λ(k:Nat)=>i+(k:Int)) else none
noncomputable def qX{α:Type}(xs:List α):List (Int×α):=(xs.zipIdx).map λp=>((p.2:Int),p.1)
noncomputable def find{α:Type}(kvs:List (Int×α))(k:Int):Option α:=(kvs.find? λkv=>decide<|kv.1=k).map (·.2)
noncomputable def put{α:Type}(kvs:List (Int×α))(k:Int)(v:α):List (Int×α) :=
 if (kvs.any λkv=>decide<|kv.1=k)=true then kvs.map (λkv=>if kv.1=k then (kv.1,v) else kv) else kvs++[(k,v)]
noncomputable def qk{β α:Type}(f:β->Option α):List β->Option (List α)
 |[]=>some []
 |x ::xs=>(f x).bind λa=>(qk f xs).bind λas=>some (a ::as)
noncomputable def ck{β α:Type}(t:β->Option Bool)(f:β->Option α):List β->Option (List α)
 |[]=>some []
 |x ::xs=>(t x).bind λb=>if b=true then (f x).bind λa=>(ck t f xs).bind λas=>some (a ::as) else ck t f xs
noncomputable def comp{β α:Type}(f:β->Option α)(xs:List β):Option (List α):=if xs.length<=16777216 then qk f xs else none
noncomputable def du{β α:Type}(t:β->Option Bool)(f:β->Option α)(xs:List β):Option (List α):=if xs.length<=16777216 then ck t f xs else none
inductive Ctl(S R:Type) where
 |nx (s:S)|bk (s:S)|rt (r:R)
noncomputable def di{S β:Type}(f:S->β->Option S):List β->S->Option S
 |[],s=>some s
 |x ::xs,s=>(f s x).bind λs=>di f xs s
noncomputable def gY{S R β:Type}(f:S->β->Option (Ctl S R)):List β->S->Option (Ctl S R)
 |[],s=>some<|.nx s
 |x ::xs,s=>(f s x).bind λc=>match c with
  |.nx s=>gY f xs s
  |.bk s=>some<|.nx s
  |.rt r=>some<|.rt r
noncomputable def mI{S:Type}(t:S->Option Bool)(f:S->Option S):Nat->S->Option S
 |0,_=>none
 |n+1,s=>(t s).bind λb=>if b=true then (f s).bind λs=>mI t f n s else some s
theorem yL{S β:Type}{f:S->β->Option S}{x:β}{xs:List β}{s:S}:di f (x ::xs) s=(f s x).bind λs=>di f xs s:=rfl
theorem ql{S R β:Type}{f:S->β->Option (Ctl S R)}{x:β}{xs:List β}{s:S}:gY f (x ::xs) s=(f s x).bind λc=>match c with
  |.nx s=>gY f xs s
  |.bk s=>some<|.nx s
  |.rt r=>some (.rt r):=rfl
theorem tj{S:Type}{t:S->Option Bool}{f:S->Option S}{s:S}:mI t f (n+1) s=(t s).bind λb=>if b=true then (f s).bind λs=>mI t f n s else some s:=rfl
theorem vo{β α:Type}{f:β->Option α}{x:β}{xs:List β}:qk f (x ::xs)=(f x).bind λa=>(qk f xs).bind λas=>some (a ::as):=rfl
noncomputable def Av{S R:Type}(t:S->Option Bool)(f:S->Option (Ctl S R)):Nat->S->Option (Ctl S R)
 |0,_=>none
 |n+1,s=>(t s).bind λb=>if b=true then (f s).bind λc=>match c with
  |.nx s=>Av t f n s
  |.bk s=>some<|.nx s
  |.rt r=>some (.rt r) else some (.nx s)
noncomputable def andThen{S R T:Type}(o:Option (Ctl S R))(k:S->Option T)(e:R->T):Option T:=o.bind λc=>match c with
 |.nx s=>k s
 |.bk s=>k s
 |.rt r=>some<|e r
end Pu
namespace L2
section
open PySem PySem.Spec PyProof.Rows
theorem ae{α β:Type}{o:Option α}{f:α->Option β}{b:β}(h:o.bind f=some b):∃a,o=some a/\f a=some b:=by
 cases o with
 |none=>cases h
 |some a=>exact(aF a rfl h)
variable [Kn:Kon]
section
variable (Γ:List Slot){α:Type}
def EV(t:TE)(o:Option α)(r:Rp α):Prop:=∀C F σ H Q a,SR C F Γ σ H->o=some a->(∀v F' H',Ext F H F' H'->r.rel F' v a->Q v H')->t σ H Q
def ia(t:TE)(o:Option (List α))(r:Rp α):Prop:=∀C F σ H Q xs,SR C F Γ σ H->o=some xs->(∀p vs F' H1,Ext F H F' H1->H1 p=none->Paired (r.rel F') vs xs->Q (.ref p) (aH H1 p<|.lst vs))->t σ H Q
def EVD(t:TE)(o:Option (List<|Int×α))(r:Rp α):Prop:=∀C F σ H Q kvs,SR C F Γ σ H->o=some kvs->(∀p ws F' H1,Ext F H F' H1->H1 p=none->Paired (im r F') ws kvs->Q (.ref p) (aH H1 p<|.dK ws))->t σ H Q
def ET(t:TT)(o:Option Bool):Prop:=∀C F σ H Q b,SR C F Γ σ H->o=some b->(∀F' H',Ext F H F' H'->Q b H')->t σ H Q
structure Walks(J:It)(F:Hp){β:Type}(r:Rp β)(xs:List β):Prop where
 go:∀i H,aY F H->i<xs.length->J.go i H
 stop:∀H,aY F H->J.stop xs.length H
 yld:∀i H x H' F1,aY F H->i<xs.length->J.yld i H x H'->aY F F1->aY F1 H->∃F2 a,xs[i]?=some a/\Ext F1 H F2 H'/\r.rel F2 x a
def IV(t:TI)(o:Option (List α))(r:Rp α):Prop:=∀C F σ H R xs,SR C F Γ σ H->o=some xs->(∀J F' H',Ext F H F' H'->Walks J F' r xs->R J H')->t σ H R
def EO(t:TO)(o:Option (Option Int)):Prop:=∀C F σ H Q a,SR C F Γ σ H->o=some a->(∀F' H',Ext F H F' H'->Q a H')->t σ H Q
end
section
variable {Γ:List Slot}{α β γ:Type}{r:Rp α}{s:Rp β}{ta tb tc:TE}{oa:Option α}{ob:Option β}{K:Z4}
theorem a7(i:Nat)(h:Γ[i]?=some (.fr r a)):EV Γ (dO i) (some a) r:=by intro C F σ H Q a' S e k;cases e;refine aa (S.fr h) λv h1 h2=>?_;exact⟨v,h1,k v F H (Ext.refl S.sub) h2⟩
theorem ev_c(h:∀F,r.rel F v a):EV Γ (tC v) (some a) r:=by intro C F σ H Q a' S e k;cases e;exact k v F H (Ext.refl S.sub)<|h F
theorem au:EV Γ (tC<|.int n) (some n) a9:=ev_c λx=>rfl
theorem xg:EV Γ (tC<|.bl b) (some b) bF:=ev_c λx=>rfl
theorem k0:EV Γ (tC .non) (some none) (fg r):=ev_c λx=>rfl
theorem EV.cast(h:EV Γ t o r)(e:o'=o):EV Γ t o' r:=e▸h
theorem g9(h:EV Γ t oa r):EV Γ t (oa.bind λa=>some<|some a) (fg r):=by intro C F σ H Q a' S e k;refine aa (ae e) λa e1 e2=>?_;cases e2;exact h C F σ H Q a S e1 k
theorem iH(h:EV Γ t o (fg r)):EV Γ t (o.bind λa=>a) r:=by intro C F σ H Q a' S e k;refine aa (ae e) λa e1 e2=>?_;subst e2;exact h C F σ H Q _ S e1 k
theorem EV.two{q:V->V->Hp->Prop}(ha:EV Γ ta oa r)(hb:EV Γ tb ob s)(S:SR C F Γ σ H)(e1:oa=some a)(e2:ob=some b)(k:∀x y F' H',Ext F H F' H'->r.rel F' x a->s.rel F' y b->q x y H'):ta σ H λx H1=>tb σ H1 λy H2=>q x y H2 :=
 ha C F σ H _ a S e1 λx F1 H1 x1 r1=>hb C F1 σ H1 _ b (S.grow x1) e2 λy F2 H2 x2 r2=>k x y F2 H2 (x1.trans x2) (r.mono x2.ff r1) r2
theorem iI{f:α->β->Option γ}(hR:∀F H x y a b c Q,aY F H->r.rel F x a->s.rel F y b->f a b=some c->(∀v,t.rel F v c->Q v H)->R x y H Q)(ha:EV Γ ta oa r)(hb:EV Γ tb ob s):
  EV Γ (gT R ta tb) (oa.bind λa=>ob.bind λb=>f a b) t:=by
 intro C F σ H Q c S e k;refine aa (ae e) λa e1 e=>?_;refine aa (ae e) λb e2 e3=>?_;exact EV.two ha hb S e1 e2 λx y F' H' x1 r1 r2=>hR F' H' x y a b c _ x1.sub r1 r2 e3 λv rv=>k v F' H' x1 rv
theorem xh{g:Int->Int->V}{f:Int->Int->γ}(hg:∀H i j,t.rel H (g i j) (f i j))(ha:EV Γ ta ox a9)(hb:EV Γ tb oy a9):EV Γ (gT (uO g) ta tb) (ox.bind λa=>oy.bind λb=>some<|f a b) t :=
 iI (λF H x y a b c Q h r1 r2 e k=>by cases e;exact⟨a,b,r1,r2,k _<|hg F a b⟩) ha hb
theorem ev_i{Cn:Int->Int->Prop}{g:Int->Int->V}{f:Int->Int->Option γ}(hg:∀H i j c,f i j=some c->Cn i j/\t.rel H (g i j) c)(ha:EV Γ ta ox a9)(hb:EV Γ tb oy a9):
  EV Γ (gT (rI Cn g) ta tb) (ox.bind λa=>oy.bind λb=>f a b) t :=
 iI (λF H x y a b c Q h r1 r2 e k=>by refine ax (hg F a b c e) λh1 h2=>?_;exact⟨a,b,r1,r2,h1,k _ h2⟩) ha hb
section
variable {ox oy:ZC}
theorem bj(ha:EV Γ ta ox a9)(hb:EV Γ tb oy a9):EV Γ (gT (uO λi j=>.int<|i+j) ta tb) (ox.bind λa=>oy.bind λb=>some<|a+b) a9:=xh (λx x x=>rfl) ha hb
theorem gq(ha:EV Γ ta ox a9)(hb:EV Γ tb oy a9):EV Γ (gT (uO λi j=>.int<|i-j) ta tb) (ox.bind λa=>oy.bind λb=>some<|a-b) a9:=xh (λx x x=>rfl) ha hb
theorem ev_lt(ha:EV Γ ta ox a9)(hb:EV Γ tb oy a9):EV Γ (gT (uO λi j=>.bl<|decide<|i<j) ta tb) (ox.bind λa=>oy.bind λb=>some<|decide<|a<b) bF:=xh (λx x x=>rfl) ha hb
theorem ev_gt(ha:EV Γ ta ox a9)(hb:EV Γ tb oy a9):EV Γ (gT (uO λi j=>.bl<|decide<|j<i) ta tb) (ox.bind λa=>oy.bind λb=>some<|decide<|b<a) bF:=xh (λx x x=>rfl) ha hb
set_option tactic.hygienic true in
theorem gr(ha:EV Γ ta ox a9)(hb:EV Γ tb oy a9):EV Γ (gT (rI yo λi j=>.int<|i*j) ta tb) (ox.bind λa=>oy.bind λb=>Pu.mul a b) a9:=ev_i (λx i j c e=>by
 unfold Pu.mul at e;split at e
 ·rename_i h;cases e;exact⟨h,rfl⟩
 ·cases e) ha hb
set_option tactic.hygienic true in
theorem nG(ha:EV Γ ta ox a9)(hb:EV Γ tb oy a9):EV Γ (gT (rI (λx j=>0<j) λi j=>.int<|i%j) ta tb) (ox.bind λa=>oy.bind λb=>Pu.fmod a b) a9:=ev_i (λx i j c e=>by
 unfold Pu.fmod at e;split at e
 ·rename_i h;cases e;exact⟨h,rfl⟩
 ·cases e) ha hb
set_option tactic.hygienic true in
theorem gZ(ha:EV Γ ta ox a9)(hb:EV Γ tb oy a9):EV Γ (gT (rI (λx j=>0<j/\j<2^64) λi j=>.int<|i/j) ta tb) (ox.bind λa=>oy.bind λb=>Pu.l9 a b) a9:=ev_i (λx i j c e=>by
 unfold Pu.l9 at e;split at e
 ·rename_i h;cases e;exact⟨h,rfl⟩
 ·cases e) ha hb
set_option tactic.hygienic true in
theorem ev_pow(ha:EV Γ ta ox a9)(hb:EV Γ tb oy a9):EV Γ (gT (rI CPow λi j=>.int<|i^j.toNat) ta tb) (ox.bind λa=>oy.bind λb=>Pu.pow a b) a9:=ev_i (λx i j c e=>by
 unfold Pu.pow at e;split at e
 ·rename_i h;cases e;exact⟨h,rfl⟩
 ·cases e) ha hb
theorem Aw(ha:EV Γ ta ox a9):EV Γ (tUn (rU λi=>.int<|-i) ta) (ox.bind λa=>some<|-a) a9:=by intro C F σ H Q c S e k;refine aa (ae e) λa e1 e=>?_;cases e;exact ha C F σ H _ a S e1 λv F' H' x1 r1=>⟨a,r1,k _ F' H' x1 rfl⟩
end
theorem gs{f:α->β->Bool}(hf:∀H x y a b,r.rel H x a->s.rel H y b->uW x y=true/\decide (x=y)=f a b)(ha:EV Γ ta oa r)(hb:EV Γ tb ob s):EV Γ (gT rEq ta tb) (oa.bind λa=>ob.bind λb=>some<|f a b) bF :=
 iI (λF H x y a b c Q h r1 r2 e k=>by cases e;refine ax (hf F x y a b r1 r2) λh1 h2=>?_;exact⟨h1,by rw[h2];exact k _ rfl⟩) ha hb
theorem lf{f:α->β->Bool}(hf:∀H x y a b,r.rel H x a->s.rel H y b->uW x y=true/\decide (x=y)=f a b)(ha:EV Γ ta oa r)(hb:EV Γ tb ob s):EV Γ (gT rNe ta tb) (oa.bind λa=>ob.bind λb=>some<|!f a b) bF :=
 iI (λF H x y a b c Q h r1 r2 e k=>by cases e;refine ax (hf F x y a b r1 r2) λh1 h2=>?_;exact⟨h1,by rw[h2];exact k _ rfl⟩) ha hb
theorem gb(H:Hp)(x y:V)(a b:Int)(h1:a9.rel H x a)(h2:a9.rel H y b):uW x y=true/\decide (x=y)=decide (a=b):=by cases h1;cases h2;exact⟨rfl,by rw[V7];simp⟩
theorem sc_bb(H:Hp)(x y:V)(a b:Bool)(h1:bF.rel H x a)(h2:bF.rel H y b):uW x y=true/\decide (x=y)=decide (a=b):=by cases h1;cases h2;exact⟨rfl,by rw[V7];simp⟩
theorem sc_oo(H:Hp)(x y:V)(a b:ZC)(h1:(fg a9).rel H x a)(h2:(fg a9).rel H y b):uW x y=true/\decide (x=y)=decide (a=b):=by
 cases a with
 |none =>
  cases h1;cases b with
  |none=>cases h2;exact⟨rfl,by rw[V7];simp⟩
  |some i=>cases h2;exact⟨rfl,by rw[V7];simp⟩
 |some j =>
  cases h1;cases b with
  |none=>cases h2;exact⟨rfl,by rw[V7];simp⟩
  |some i=>cases h2;exact⟨rfl,by rw[V7];simp⟩
theorem Ax(ha:EV Γ ta o (fg r))(hr:∀F a,¬ r.rel F .non a):EV Γ (gT (λx y H Q=>y=.non/\Q (.bl<|decide<|x=.non) H) ta<|tC .non) (o.bind λa=>some a.isNone) bF:=by
 intro C F σ H Q c S e k;refine aa (ae e) λa e1 e=>?_;cases e;refine ha C F σ H _ a S e1 λv F' H' x1 r1=>⟨rfl,?_⟩;have:decide (v=.non)=a.isNone:=by
  cases a with
  |none=>cases r1;rfl
  |some x=>exact decide_eq_false λz=>hr F' x (by subst z;exact r1)
 rw[this];exact k _ F' H' x1 rfl
theorem xi(ha:EV Γ ta o (fg r))(hr:∀F a,¬ r.rel F .non a):EV Γ (gT (λx y H Q=>y=.non/\Q (.bl<|!decide (x=.non)) H) ta<|tC .non) (o.bind λa=>some a.isSome) bF:=by
 intro C F σ H Q c S e k;refine aa (ae e) λa e1 e=>?_;cases e;refine ha C F σ H _ a S e1 λv F' H' x1 r1=>⟨rfl,?_⟩;have:(!decide (v=.non))=a.isSome:=by
  cases a with
  |none=>cases r1;rfl
  |some x=>show (!decide (v=.non))=true;rw[decide_eq_false λz=>hr F' x (by subst z;exact r1)];rfl
 rw[this];exact k _ F' H' x1 rfl
theorem vp(F:Hp)(a:Int):¬ a9.rel F .non a:=λh=>nomatch h
theorem nn_t2(F:Hp)(a:α×β):¬ (cF r s).rel F .non a:=λzq=>fM zq λx x x h x=>nomatch h
theorem Ay{g g':Int->Int->Bool}(ha:EV Γ ta ox a9)(hb:EV Γ tb oy a9)(hc:EV Γ tc oz a9):
  EV Γ (uX (uO λi j=>.bl<|g i j) (uO λi j=>.bl<|g' i j) ta tb tc) (ox.bind λa=>oy.bind λb=>if g a b=true then oz.bind λc=>some (g' b c) else some false) bF:=by
 intro C F σ H Q d S e k;refine aa (ae e) λa e1 e=>?_;refine aa (ae e) λb e2 e=>?_;refine EV.two ha hb S e1 e2 λx y F' H' x1 r1 r2=>⟨a,b,r1,r2,g a b,rfl,?_⟩;by_cases h:g a b=true
 ·rw[if_pos h]at e ⊢;refine aa (ae e) λc e3 e=>?_;cases e;exact hc C F' σ H' _ c (S.grow x1) e3 λz F2 H2 x2 r3=>⟨b,c,r2,r3,k _ F2 H2 (x1.trans x2) rfl⟩
 ·rw[if_neg h]at e ⊢;cases e;exact k _ F' H' x1 rfl
section
variable {t u:TT}{o o':Option Bool}
theorem cy(h:EV Γ ta o bF):ET Γ (zX ta) o:=λC F σ H Q b S e k=>h C F σ H _ b S e λv F' H' x1 r1=>(aF b r1<|k F' H' x1)
theorem qY(h:EV Γ ta o bF):ET Γ (tB ta) o:=λC F σ H Q b S e k=>h C F σ H _ b S e λv F' H' x1 r1=>(aF b r1<|k F' H' x1)
theorem Az(h:ET Γ t o)(h':ET Γ u o'):ET Γ (tAnd t u) (o.bind λb=>if b=true then o' else some false):=by
 intro C F σ H Q d S e k;refine aa (ae e) λa e1 e=>?_;refine h C F σ H _ a S e1 λF' H' x1=>?_;cases a with
 |true=>exact h' C F' σ H' _ d (S.grow x1) e λF2 H2 x2=>k F2 H2<|x1.trans x2
 |false=>cases e;exact k F' H' x1
theorem AA(h:ET Γ t o)(h':ET Γ u o'):ET Γ (tOr t u) (o.bind λb=>if b=true then some true else o'):=by
 intro C F σ H Q d S e k;refine aa (ae e) λa e1 e=>?_;refine h C F σ H _ a S e1 λF' H' x1=>?_;cases a with
 |true=>cases e;exact k F' H' x1
 |false=>exact h' C F' σ H' _ d (S.grow x1) e λF2 H2 x2=>k F2 H2<|x1.trans x2
theorem nH(h:ET Γ t o):ET Γ (tNot t) (o.bind λb=>some<|!b):=by intro C F σ H Q d S e k;refine aa (ae e) λa e1 e=>?_;cases e;exact h C F σ H _ a S e1 λF' H' x1=>k F' H' x1
theorem et_true:ET Γ An (some true):=λC F σ H Q b S e k=>by cases e;exact k F H<|Ext.refl S.sub
theorem qZ(sq:Sq K rl r)(h:EV Γ ta ol rl):ET Γ (tTru K ta) (ol.bind λxs=>some<|!xs.isEmpty):=by
 intro C F σ H Q d S e k;refine aa (ae e) λa e1 e=>?_;cases e;refine h C F σ H _ a S e1 λv F' H' x1 hv=>?_;refine ay (sq.get hv) λp vs e2 h2 h3=>?_;refine(aF (!vs.isEmpty) ?_ ?_)
 ·subst e2;exact .inl<|aF vs (x1.sub.seq h2) rfl
 ·have:(!vs.isEmpty)=!a.isEmpty:=by cases h3<;>rfl
  rw[this];exact k F' H' x1
theorem ev_not(h:EV Γ ta o bF):EV Γ (tNotV ta) (o.bind λb=>some<|!b) bF:=by intro C F σ H Q d S e k;refine aa (ae e) λa e1 e=>?_;cases e;exact h C F σ H _ a S e1 λv F' H' x1 r1=>(aF a r1<|k _ F' H' x1 rfl)
theorem ev_and(h:EV Γ ta o bF)(h':EV Γ tb o' bF):EV Γ (zP ta tb) (o.bind λb=>if b=true then o' else some false) bF:=by
 intro C F σ H Q d S e k;refine aa (ae e) λa e1 e=>?_;refine h C F σ H _ a S e1 λv F' H' x1 r1=>(aF a r1 ?_);cases a with
 |true=>exact h' C F' σ H' _ d (S.grow x1) e λw F2 H2 x2 r2=>k w F2 H2 (x1.trans x2) r2
 |false=>cases e;exact k _ F' H' x1 rfl
theorem vq(ht:ET Γ t o)(ha:EV Γ ta oa r)(hb:EV Γ tb oa' r):EV Γ (tIf t ta tb) (o.bind λb=>if b=true then oa else oa') r:=by
 intro C F σ H Q d S e k;refine aa (ae e) λa e1 e=>?_;refine ht C F σ H _ a S e1 λF' H' x1=>?_;cases a with
 |true=>exact ha C F' σ H' _ d (S.grow x1) e λw F2 H2 x2 r2=>k w F2 H2 (x1.trans x2) r2
 |false=>exact hb C F' σ H' _ d (S.grow x1) e λw F2 H2 x2 r2=>k w F2 H2 (x1.trans x2) r2
end
end
end
section
open PySem PySem.Spec PyProof.Rows
variable [Kn:Kon]
theorem vt{α:Type}{r:V->α->Prop}{xs:List α}{a:α}(p:Paired r vs xs)(h:Cb xs i=some a):∃v,Cb vs i=some v/\r v a:=by unfold Cb at h ⊢;rw[p.length];refine aa (ae h) λj e1 e2=>?_;refine aa (gX p e2) λv h1 h2=>?_;exact(aF v (by rw[e1];exact h1) h2)
theorem vw{α:Type}{r:V->α->Prop}{xs:List α}{lo hi:ZC}(p:Paired r vs xs):Paired r (yz vs lo hi) (Pu.cut xs lo hi):=by unfold yz Pu.cut;rw[p.length];exact Paired.takeB _<|Paired.dropB _ p
theorem iJ{α:Type}{r:Rp α}:∀{ws:List (Key×V)} {kvs:List (Int×α)},Paired (im r F) ws kvs->(∀a,Pu.find kvs k=some a->∃v,dP ws (.inl k)=some v/\r.rel F v a)/\(Pu.find kvs k=none->dP ws (.inl k)=none):=λp=>by
 induction p with
 |nil=>exact⟨λa h=>(nomatch h),λx=>rfl⟩
 |@cons w kv ws kvs h t ih =>
  refine ax h λe1 e2=>?_;by_cases q:kv.1=k
  ·have e3:w.1=P8 k:=by rw[e1,q]
   have ef:Pu.find (kv ::kvs) k=some kv.2:=by unfold Pu.find;rw[List.find?_cons_of_pos (by simpa using q)];rfl
   rw[ef,iC e3];exact⟨λa h=>by cases h;exact(aF _ rfl e2),λh=>(nomatch h)⟩
  ·have e3:¬ w.1=P8 k:=by rw[e1];intro z;exact q<|P8.inj z
   have ef:Pu.find (kv ::kvs) k=Pu.find kvs k:=by unfold Pu.find;rw[List.find?_cons_of_neg (by simpa using q)]
   rw[ef,iD e3];exact ih
theorem Paired.mapB{α β α' β':Type}{F:α->β->Prop}{G:α'->β'->Prop}{f:α->α'}{g:β->β'}(h:∀a b,F a b->G (f a) (g b)):∀{l:List α} {m:List β},Paired F l m->Paired G (l.map f) (m.map g):=λp=>by
 induction p with
 |nil=>exact .nil
 |cons r _ ih=>exact .cons (h _ _ r) ih
theorem vx{α:Type}{r:Rp α}:∀{ws:List (Key×V)} {kvs:List (Int×α)},Paired (im r F) ws kvs->(ws.any λkv=>decide<|kv.1=P8 k)=kvs.any λkv=>decide (kv.1=k):=λp=>by
 induction p with
 |nil=>rfl
 |cons h _ ih =>rw[J4,J4,ih,h.1];congr 1;rw[V7];simp
theorem vy{α:Type}{r:Rp α}{a:α}(hv:r.rel F v a){kvs:List (Int×α)}(p:Paired (im r F) ws kvs):Paired (im r F) (putK ws (.inl k) v) (Pu.put kvs k a):=by
 unfold putK Pu.put;rw[vx p];split
 ·refine Paired.mapB (λw kv h=>?_) p;by_cases q:kv.1=k
  ·rw[if_pos q,if_pos (by rw[h.1,q])];exact⟨h.1,hv⟩
  ·rw[if_neg q,if_neg (by rw[h.1];intro z;exact q<|P8.inj z)];exact h
 ·exact Paired.app p<|.cons ⟨rfl,hv⟩ .nil
section
variable {X:Cx}
noncomputable def AB:R2:=λx y H Q=>∃l b xs zs,x=.ref l/\y=.ref b/\Rd H l (.lst xs)/\Rd H b (.lst zs)/\xs.length+zs.length<=W9/\∀p,H p=none->Q (.ref p) (aH H p<|.lst<|xs++zs)
theorem re:jh X (binaryOp .Add) AB:=by
 intro ZY s σ H x y v u Q I rx ry h;refine gu h λl b xs zy0=>zM zy0 λzs ZT ZS hH hB hz q=> ?_;subst ZT;subst ZS;cases rx;cases ry;refine ax ((show bE X.prog X.w H s.heap l (.lst xs) from hH.ok I.hok)) λz zz=>bv zz λits n r e=>?_;refine ax ((show bE X.prog X.w H s.heap b (.lst zs) from hB.ok I.hok)) λz2 zz=>bv zz λits2 n2 r2 e2=>?_;have hl:=r.length;have hl2:=r2.length;refine PySem.P.add_list e e2 ?_ (by rw[X1,X1];lia);have ea:its.toArray++its2.toArray=(its++its2).toArray:=by simp
 rw[ea];exact⟨.ref _,_,I.lnew (t':=s.toks) (r.append r2) (by rw[Y9];lia),rfl,q _ I.fresh⟩
end
section
variable (Γ:List Slot){α τ:Type}
def EVs(n:Nat)(t:TA)(o:Option (List α))(r:Rp α):Prop:=∀C F σ H Q xs,SR C F Γ σ H->o=some xs->(∀vs F' H',Ext F H F' H'->vs.length=n->Paired (r.rel F') vs xs->Q vs H')->t σ H Q
structure RpA(τ:Type) where
 rel:Hp->List V->τ->Prop
 mono:∀{H H':Hp} {vs:List V} {a:τ},aY H H'->rel H vs a->rel H' vs a
 slots:τ->List Slot
 ok:∀{F:Hp} {vs:List V} {a:τ},rel F vs a->vs.length=(slots a).length/\∀(i:Nat) s,(slots a)[i]?=some s->s.own=false/\∃v,vs[i]?=some v/\∀H0 H,dQ H0 F H s (some v)
noncomputable def cm{α:Type}(r:Rp α):RpA α:=⟨λH vs a=>∃v,vs=[v]/\r.rel H v a,λe zq=>aa zq λv h1 h2=>(aF v h1<|r.mono e h2),λa=>[.fr r a],λ{F vs a} zq=>aa zq λv h1 h2=>by
 subst h1;refine⟨rfl,λi s h=>?_⟩
 match i,h with
 |0,h=>cases h;exact⟨rfl,v,rfl,λx x=>⟨v,rfl,h2⟩⟩
 |i+1,h=>simp at h⟩
noncomputable def aG{α τ:Type}(r:Rp α)(ra:RpA τ):RpA (α×τ):=⟨λH vs a=>∃v ws,vs=v ::ws/\r.rel H v a.1/\ra.rel H ws a.2,λe zq=>ay zq λv ws h1 h2 h3=>(d4 v ws h1 (r.mono e h2)<|ra.mono e h3),λa=>.fr r a.1 ::ra.slots a.2,λ{F vs a} zq=>ay zq λv ws h1 h2 h3=>by
 subst h1;refine ax (ra.ok h3) λl g=>?_;refine⟨by simp[l],λi s h=>?_⟩
 match i,h with
 |0,h=>cases h;exact⟨rfl,v,rfl,λx x=>⟨v,rfl,h2⟩⟩
 |i+1,h=>exact g i s (by simpa using h)⟩
def EA(t:TA)(o:Option τ)(ra:RpA τ):Prop:=∀C F σ H Q a,SR C F Γ σ H->o=some a->(∀vs F' H',Ext F H F' H'->ra.rel F' vs a->Q vs H')->t σ H Q
def p8{γ:Type}(ra:RpA τ)(r:Rp γ)(f:τ->Option γ):Sp:=λvs H Q x=>∃F a c,aY F H/\NT F/\TbG H/\ra.rel F vs a/\f a=some c/\∀v F' H',Ext F H F' H'->r.rel F' v c->Q v H'
def qm{γ:Type}(ra:RpA τ)(r:Rp γ)(f:τ->Option (List γ)):Sp:=λvs H Q x=>∃F a xs,aY F H/\NT F/\TbG H/\ra.rel F vs a/\f a=some xs/\∀p vs F' H1,Ext F H F' H1->H1 p=none->Paired (r.rel F') vs xs->Q (.ref p) (aH H1 p<|.lst vs)
def spD{γ:Type}(ra:RpA τ)(r:Rp γ)(f:τ->Option (List<|Int×γ)):Sp:=λvs H Q x=>∃F a xs,aY F H/\NT F/\TbG H/\ra.rel F vs a/\f a=some xs/\∀p vs F' H1,Ext F H F' H1->H1 p=none->Paired (im r F') vs xs->Q (.ref p) (aH H1 p<|.dK vs)
end
section
variable {Γ:List Slot}{α β γ τ:Type}{r:Rp α}{s:Rp β}{q:Rp γ}{ta tb tc:TE}{oa:Option α}{ob:Option β}{oc:Option γ}{K:Z4}{t:TA}{ra:RpA τ}{oτ:Option τ}{oi:ZC}
theorem aA(h:EV Γ ta oa r):EA Γ (be ta d9) oa (cm r):=λC F σ H Q a S e k=>h C F σ H _ a S e λv F' H' x1 r1=>k _ F' H' x1 ⟨v,rfl,r1⟩
theorem aj(h:EV Γ ta oa r)(h':EA Γ t oτ ra):EA Γ (be ta t) (oa.bind λa=>oτ.bind λb=>some (a,b)) (aG r ra):=by intro C F σ H Q c S e k;refine aa (ae e) λa e1 e=>?_;refine aa (ae e) λb e2 e=>?_;cases e;exact h C F σ H _ a S e1 λv F' H' x1 r1=>h' C F' σ H' _ b (S.grow x1) e2 λvs F2 H2 x2 r2=>k _ F2 H2 (x1.trans x2) ⟨v,vs,rfl,r.mono x2.ff r1,r2⟩
theorem aM{f:τ->Option γ}(h:EA Γ t oτ ra):EV Γ (sS (p8 ra q f) [] E0 t) (oτ.bind f) q:=by intro C F σ H Q c S e k;refine aa (ae e) λa e1 e=>?_;exact h C F σ H _ a S e1 λvs F' H' x1 r1=>⟨F',a,c,x1.sub,x1.nt S.nt,x1.hh.tg S.tg,by rw[V8];exact r1,e,λv F2 H2 x2 r2=>k v F2 H2 (x1.trans x2) r2⟩
theorem aU{f:τ->Option (List γ)}(h:EA Γ t oτ ra):ia Γ (sS (qm ra q f) [] E0 t) (oτ.bind f) q:=by intro C F σ H Q c S e k;refine aa (ae e) λa e1 e=>?_;exact h C F σ H _ a S e1 λvs F' H' x1 r1=>⟨F',a,c,x1.sub,x1.nt S.nt,x1.hh.tg S.tg,by rw[V8];exact r1,e,λp ws F2 H2 x2 hp r2=>k p ws F2 H2 (x1.trans x2) hp r2⟩
theorem tm{f:τ->Option (List<|Int×γ)}(h:EA Γ t oτ ra):EVD Γ (sS (spD ra q f) [] E0 t) (oτ.bind f) q:=by intro C F σ H Q c S e k;refine aa (ae e) λa e1 e=>?_;exact h C F σ H _ a S e1 λvs F' H' x1 r1=>⟨F',a,c,x1.sub,x1.nt S.nt,x1.hh.tg S.tg,by rw[V8];exact r1,e,λp ws F2 H2 x2 hp r2=>k p ws F2 H2 (x1.trans x2) hp r2⟩
theorem ia.ev(h:ia Γ ta o r):EV Γ ta o (rL r):=λC F σ H Q xs S e k=>h C F σ H Q xs S e λp vs F' H1 x1 hp r1 =>
 k _ _ _ (x1.trans<|Ext.new x1.sub hp) ⟨p,vs,rfl,Rd.of am,Paired.imp2 (λx x z=>r.mono (aQ<|x1.sub.free hp) z) r1⟩
theorem EVD.ev(h:EVD Γ ta o r):EV Γ ta o (rD r):=λC F σ H Q xs S e k=>h C F σ H Q xs S e λp vs F' H1 x1 hp r1 =>
 k _ _ _ (x1.trans<|Ext.new x1.sub hp) ⟨p,vs,rfl,am,Paired.imp2 (λx x z=>⟨z.1,r.mono (aQ<|x1.sub.free hp) z.2⟩) r1⟩
theorem ev_tup1(ha:EV Γ ta oa r):EV Γ (tTup<|be ta d9) oa (rT1 r):=by intro C F σ H Q a S e1 k;exact ha C F σ H _ a S e1 λx F' H' x1 r1=>⟨by show 1<=W9;decide,λp hp=>k _ _ _ (x1.trans<|Ext.new x1.sub hp) ⟨p,x,rfl,am,r.mono (aQ<|x1.sub.free hp) r1⟩⟩
theorem k7(ha:EV Γ ta oa r)(hb:EV Γ tb ob s):EV Γ (tTup<|be ta<|be tb d9) (oa.bind λa=>ob.bind λb=>some (a,b)) (cF r s):=by intro C F σ H Q c S e k;refine aa (ae e) λa e1 e=>?_;refine aa (ae e) λb e2 e=>?_;cases e;exact EV.two (q:=λx y H2=>[x,y].length<=W9/\∀p,H2 p=none->Q (.ref p) (aH H2 p<|.tup [x,y])) ha hb S e1 e2 λx y F' H' x1 r1 r2=>⟨by show 2<=W9;decide,λp hp=>k _ _ _ (x1.trans<|Ext.new x1.sub hp) ⟨p,x,y,rfl,am,r.mono (aQ<|x1.sub.free hp) r1,s.mono (aQ<|x1.sub.free hp) r2⟩⟩
theorem xj(ha:EV Γ ta oa r)(hb:EV Γ tb ob s)(hc:EV Γ tc oc q):EV Γ (tTup<|be ta<|be tb<|be tc d9) (oa.bind λa=>ob.bind λb=>oc.bind λc=>some (a,b,c)) (ml r s q):=by intro C F σ H Q c S e k;refine aa (ae e) λa e1 e=>?_;refine aa (ae e) λb e2 e=>?_;refine aa (ae e) λc e3 e=>?_;cases e;refine EV.two (q:=λx y H2=>tc σ H2 λz H3=>[x,y,z].length<=W9/\∀p,H3 p=none->Q (.ref p) (aH H3 p<|.tup [x,y,z])) ha hb S e1 e2 λx y F' H' x1 r1 r2=>?_;refine hc C F' σ H' _ c (S.grow x1) e3 λz F2 H2 x2 r3=>⟨by show 3<=W9;decide,λp hp=>?_⟩;have e:=aQ (o:=.tup [x,y,z])<|x2.sub.free hp;exact k _ _ _ ((x1.trans x2).trans (Ext.new x2.sub hp)) ⟨p,x,y,z,rfl,am,r.mono (x2.ff.trans e) r1,s.mono (x2.ff.trans e) r2,q.mono e r3⟩
theorem nI{T:Type}{u:Rp T}{o:Option T}(get:T->γ)(h:EV Γ ta o u)(hg:∀F H v a Q,aY F H->u.rel F v a->(∀w,q.rel F w (get a)->Q w H)->qK K v (.int n) H Q):EV Γ (gT (qK K) ta<|tC<|.int n) (o.bind λp=>some<|get p) q:=by intro C F σ H Q c S e k;refine aa (ae e) λa e1 e=>?_;cases e;exact h C F σ H _ a S e1 λv F' H' x1 r1=>hg F' H' v a _ x1.sub r1 λw rw=>k w F' H' x1 rw
theorem xk(h:EV Γ ta o (cF r s)):EV Γ (gT (qK K) ta<|tC<|.int 0) (o.bind λp=>some p.1) r:=nI (·.1) h λF H v a Q sb zq k=>dh zq λp x y e h1 h2 h3=>⟨p,_,_,x,e,rfl,j5.of<|sb _ _ h1,rfl,k x h2⟩
theorem gc(h:EV Γ ta o (cF r s)):EV Γ (gT (qK K) ta<|tC<|.int 1) (o.bind λp=>some p.2) s:=nI (·.2) h λF H v a Q sb zq k=>dh zq λp x y e h1 h2 h3=>⟨p,_,_,y,e,rfl,j5.of<|sb _ _ h1,rfl,k y h3⟩
theorem k8(h:EV Γ ta o (ml r s q)):EV Γ (gT (qK K) ta<|tC<|.int 0) (o.bind λp=>some p.1) r:=nI (·.1) h λF H v a Q sb zq k=>iq zq λp x y z e h1 h2 h3 h4=>⟨p,_,_,x,e,rfl,j5.of<|sb _ _ h1,rfl,k x h2⟩
theorem rg(h:EV Γ ta o (ml r s q)):EV Γ (gT (qK K) ta<|tC<|.int 1) (o.bind λp=>some p.2.1) s:=nI (·.2.1) h λF H v a Q sb zq k=>iq zq λp x y z e h1 h2 h3 h4=>⟨p,_,_,y,e,rfl,j5.of<|sb _ _ h1,rfl,k y h3⟩
theorem xl(h:EV Γ ta o (ml r s q)):EV Γ (gT (qK K) ta<|tC<|.int 2) (o.bind λp=>some p.2.2) q:=nI (·.2.2) h λF H v a Q sb zq k=>iq zq λp x y z e h1 h2 h3 h4=>⟨p,_,_,z,e,rfl,j5.of<|sb _ _ h1,rfl,k z h4⟩
theorem ce:EVs Γ 0 d9 (some []) r:=λC F σ H Q xs S e k=>by cases e;exact k [] F H (Ext.refl S.sub) rfl .nil
theorem cL(h:EV Γ ta oa r)(h':EVs Γ n t o r):EVs Γ (n+1) (be ta t) (oa.bind λa=>o.bind λb=>some (a ::b)) r:=by intro C F σ H Q c S e k;refine aa (ae e) λa e1 e=>?_;refine aa (ae e) λb e2 e=>?_;cases e;exact h C F σ H _ a S e1 λv F' H' x1 r1=>h' C F' σ H' _ b (S.grow x1) e2 λvs F2 H2 x2 l r2=>k _ F2 H2 (x1.trans x2) (by simp[l])<|.cons (r.mono x2.ff r1) r2
theorem ci{n:Nat}{o:Option (List α)}(h:EVs Γ n t o r)(hn:autoParam (n<=16777216) L2.ir._auto_1):ia Γ (tLst t) o r:=λC F σ H Q xs S e k=>h C F σ H _ xs S e λvs F' H' x1 l r1=>⟨by rw[l,V4];exact hn,λp hp=>k p vs F' H' x1 hp r1⟩
theorem bc(sq:Sq K rl r)(h:EV Γ ta o rl)(hi:EV Γ tb oi a9):EV Γ (gT (rIxL K) ta tb) (o.bind λxs=>oi.bind λi=>Pu.at_ xs i) r :=
 iI (r:=rl) (s:=a9) (λF H x y a b c Q sb hx r2 e3 k=>by refine ay (sq.get hx) λp vs e h1 h2=>?_;refine aa (vt h2 e3) λv h3 h4=>?_;exact⟨p,vs,b,v,e,r2,sb.seq h1,h3,k v h4⟩) h hi
theorem rj(h:EV Γ ta o (rD r))(hi:EV Γ tb oi a9):EV Γ (Ad ta tb) (o.bind λxs=>oi.bind λi=>Pu.find xs i) r:=by intro C F σ H Q c S e k;refine aa (ae e) λa e1 e=>?_;refine aa (ae e) λb e2 e=>?_;refine EV.two (q:=λx y H2=>∃a v,x=.ref a/\mf H2 a y (some v)/\Q v H2) h hi S e1 e2 λx y F' H' x1 zq r2=>ay zq λp ws e3 h1 h2=>?_;refine aa ((iJ (k:=b) h2).1 c e) λv h3 h4=>?_;exact(d4 p v e3 (.inl<|d4 ws (.inl b) (.inl<|x1.sub _ _ h1) r2 h3.symm)<|k v F' H' x1 h4)
theorem yM(hi:EV Γ tb oi a9)(h:EV Γ ta o (rD r)):EV Γ (wQ tb ta) (oi.bind λi=>o.bind λxs=>some<|!(Pu.find xs i).isSome) bF:=by
 intro C F σ H Q c S e k;refine aa (ae e) λb e2 e=>?_;refine aa (ae e) λa e1 e=>?_;cases e;refine EV.two (q:=λy x H2=>∃a o,x=.ref a/\mf H2 a y o/\Q (.bl<|!o.isSome) H2) hi h S e2 e1 λy x F' H' x1 r2 zq=>ay zq λp ws e3 h1 h2=>?_;refine(d4 p (dP ws<|.inl b) e3 (.inl<|d4 ws (.inl b) (.inl<|x1.sub _ _ h1) r2 rfl) ?_);have:(dP ws<|.inl b).isSome=(Pu.find a b).isSome:=by
  refine ax (iJ (k:=b) h2) λg1 g2=>?_;cases q:Pu.find a b with
  |none=>rw[g2 q];rfl
  |some z=>refine aa (g1 z q) λv h3 s=>?_;rw[h3];rfl
 rw[this];exact k _ F' H' x1 rfl
set_option tactic.hygienic true in
theorem rm(h:EV Γ ta o (rL r))(h':EV Γ tb o' (rL r)):ia Γ (gT AB ta tb) (o.bind λxs=>o'.bind λys=>Pu.cat xs ys) r:=by
 intro C F σ H Q c S e k;refine aa (ae e) λa e1 e=>?_;refine aa (ae e) λb e2 e=>?_;unfold Pu.cat at e;split at e
 ·rename_i hl;cases e;exact EV.two (q:=λx y H2=>AB x y H2 Q) h h' S e1 e2 λx y F' H' x1 zq zp=>ay zq λp vs e3 h1 h2=>ay zp λp' vs' e4 h3 h4=>⟨p,p',vs,vs',e3,e4,x1.sub.rd h1,x1.sub.rd h3,by rw[h2.length,h4.length,V4];exact hl,λp hp=>k p _ F' H' x1 hp<|Paired.app h2 h4⟩
 ·cases e
theorem eo_none:EO Γ wJ (some none):=λC F σ H Q a S e k=>by cases e;exact k F H<|Ext.refl S.sub
theorem k9(h:EV Γ ta oi a9):EO Γ (tPart ta) (oi.bind λi=>some<|some i):=by intro C F σ H Q c S e k;refine aa (ae e) λa e1 e=>?_;cases e;exact h C F σ H _ a S e1 λv F' H' x1 r1=>(aF a r1<|k F' H' x1)
theorem rp(sq:Sq K rl r)(h:EV Γ ta o rl)(h1:EO Γ tl ol)(h2:EO Γ th oh):ia Γ (tSl (rSlL K) ta tl th) (o.bind λxs=>ol.bind λlo=>oh.bind λhi=>some<|Pu.cut xs lo hi) r:=by
 intro C F σ H Q c S e k;refine aa (ae e) λa e1 e=>?_;refine aa (ae e) λlo e2 e=>?_;refine aa (ae e) λhi e3 e=>?_;cases e;refine h C F σ H _ a S e1 λx F1 H1 x1 hx=>?_;refine ay (sq.get hx) λp vs e4 z1 z2=>?_;exact h1 C F1 σ H1 _ lo (S.grow x1) e2 λF2 H2 x2=>h2 C F2 σ H2 _ hi ((S.grow x1).grow x2) e3 λF3 H3 x3 =>
  ⟨p,vs,e4,x3.sub.seq<|x3.ff.seq<|x2.ff.seq z1,λp hp=>k p _ F3 H3 ((x1.trans x2).trans x3) hp<|vw<|Paired.imp2 (λx x z=>r.mono (x2.ff.trans x3.ff) z) z2⟩
theorem jC(sq:Sq K rl r)(h:EV Γ ta o rl):EV Γ (uP (rLen K)<|be ta d9) (o.bind λxs=>some<|Pu.ln xs) a9:=by intro C F σ H Q c S e k;refine aa (ae e) λa e1 e=>?_;cases e;refine h C F σ H _ a S e1 λv F' H' x1 hv=>?_;refine ay (sq.get hv) λp vs e2 h1 h2=>?_;exact⟨p,vs,by rw[e2],.inl<|x1.sub.seq h1,k _ F' H' x1 (by rw[h2.length];rfl)⟩
theorem vz(h:EV Γ ta oi a9):EV Γ (uP (λxs H Q=>∃i,xs=[.int i]/\Q (.int (if i<0 then -i else i)) H)<|be ta d9) (oi.bind λi=>some<|Pu.ab i) a9:=by intro C F σ H Q c S e k;refine aa (ae e) λa e1 e=>?_;cases e;exact h C F σ H _ a S e1 λv F' H' x1 r1=>⟨a,by rw[r1],k _ F' H' x1 rfl⟩
theorem j9(h:EV Γ ta oi a9)(h':EV Γ tb oj a9):EV Γ (uP (λxs H Q=>∃i j,xs=[.int i,.int j]/\Q (.int (if j<i then j else i)) H)<|be ta<|be tb d9) (oi.bind λi=>oj.bind λj=>some<|Pu.mn i j) a9:=by intro C F σ H Q c S e k;refine aa (ae e) λa e1 e=>?_;refine aa (ae e) λb e2 e=>?_;cases e;exact EV.two (q:=λx y H2=>∃i j,[x,y]=[.int i,.int j]/\Q (.int (if j<i then j else i)) H2) h h' S e1 e2 λx y F' H' x1 r1 r2=>⟨a,b,(by rw[r1,r2]),k _ F' H' x1 rfl⟩
theorem kd(h:EV Γ ta oi a9)(h':EV Γ tb oj a9):EV Γ (uP (λxs H Q=>∃i j,xs=[.int i,.int j]/\Q (.int (if j > i then j else i)) H)<|be ta<|be tb d9) (oi.bind λi=>oj.bind λj=>some<|Pu.mx i j) a9:=by intro C F σ H Q c S e k;refine aa (ae e) λa e1 e=>?_;refine aa (ae e) λb e2 e=>?_;cases e;exact EV.two (q:=λx y H2=>∃i j,[x,y]=[.int i,.int j]/\Q (.int (if j > i then j else i)) H2) h h' S e1 e2 λx y F' H' x1 r1 r2=>⟨a,b,(by rw[r1,r2]),k _ F' H' x1 rfl⟩
theorem ev_intB(h:EV Γ ta o bF):EV Γ (uP (λxs H Q=>(∃i,xs=[.int i]/\Q (.int i) H)\/∃k,xs=[.bl k]/\Q (.int (if k then 1 else 0)) H)<|be ta d9) (o.bind λb=>some<|Pu.ofb b) a9:=by intro C F σ H Q c S e k;refine aa (ae e) λa e1 e=>?_;cases e;exact h C F σ H _ a S e1 λv F' H' x1 r1=>.inr<|aF a (by rw[r1])<|k _ F' H' x1 rfl
structure Fe[DecidableEq α](r:Rp α):Prop where
 flat:∀{F v a},r.rel F v a->jo v=true
 eq:∀{F v w a b},r.rel F v a->r.rel F w b->A6 v w=decide (a=b)
theorem vA:Fe a9:=⟨λh=>by cases h;rfl,λh h'=>by cases h;cases h';exact(by rw[V7];simp[A6])⟩
theorem qo[DecidableEq α](f:Fe r)(hx:r.rel F x a):∀{vs:List V} {xs:List α},Paired (r.rel F) vs xs->inV x vs=decide (a∈xs)/\vs.all jo=true:=λp=>by
 induction p with
 |nil=>exact⟨by simp[inV],rfl⟩
 |@cons v y vs ys h t ih =>
  refine ax ih λi1 i2=>?_;refine⟨?_,by rw[List.all_cons,f.flat h,i2];rfl⟩;have:inV x (v ::vs)=(A6 v x || inV x vs):=rfl;rw[this,i1,f.eq h hx,V7,Bool.or_eq_true,decide_eq_true_eq,decide_eq_true_eq,decide_eq_true_eq,Y4]
  constructor
  ·rintro(z|z)
   ·exact .inl z.symm
   ·exact .inr z
  ·rintro(z|z)
   ·exact .inl z.symm
   ·exact .inr z
theorem AC[DecidableEq α](f:Fe r)(h:EV Γ ta oa r)(h':EV Γ tb o (rL r)):EV Γ (gT (rIn K false) ta tb) (oa.bind λa=>o.bind λxs=>some<|decide<|a∈xs) bF :=
 iI (r:=r) (s:=rL r) (λF H x y a b c Q sb r1 zq e3 k=>ay zq λp vs e h1 h2=>by cases e3;refine ax (qo f r1 h2) λi1 i2=>?_;exact⟨p,vs,e,.inl<|.inl<|sb.rd h1,f.flat r1,i2,by rw[if_neg Z7,i1];exact k _ rfl⟩) h h'
theorem yN[DecidableEq α](f:Fe r)(h:EV Γ ta oa r)(h':EV Γ tb o (rL r)):EV Γ (gT (rIn K true) ta tb) (oa.bind λa=>o.bind λxs=>some<|!decide (a∈xs)) bF :=
 iI (r:=r) (s:=rL r) (λF H x y a b c Q sb r1 zq e3 k=>ay zq λp vs e h1 h2=>by cases e3;refine ax (qo f r1 h2) λi1 i2=>?_;exact⟨p,vs,e,.inl<|.inl<|sb.rd h1,f.flat r1,i2,by rw[if_pos rfl,i1];exact k _ rfl⟩) h h'
theorem TyOf.same{t:Value}(e:aY F H)(h:TyOf K F v t):TyOf K H v t:=by
 cases h with
 |non=>exact .non
 |bl x=>exact .bl x
 |int i=>exact .int i
 |str x=>exact .str x
 |flt x=>exact .flt x
 |lst h=>exact .lst<|e _ _ h
 |frz h=>exact .frz<|e _ _ h
 |tup h=>exact .tup<|e _ _ h
 |dK h=>exact .dK<|e _ _ h
 |dT h=>exact .dT<|e _ _ h
 |ins h a b c d f=>exact .ins (e _ _ h) a b c d f
theorem vB{f:α->Bool}(h:EV Γ ta oa r)(hf:∀F v a,r.rel F v a->∃t,TyOf K F v t/\L9 K t (.type T)=some (f a)):EV Γ (uP (rIsi K T)<|be ta<|be (tC<|.ty T) d9) (oa.bind λa=>some<|f a) bF:=by intro C F σ H Q c S e k;refine aa (ae e) λa e1 e=>?_;cases e;refine h C F σ H _ a S e1 λv F' H' x1 r1=>?_;refine aa (hf F' v a r1) λt h1 h2=>?_;exact⟨v,t,f a,rfl,h1.same x1.sub,h2,k _ F' H' x1 rfl⟩
theorem isi_ii(F:Hp)(v:V)(a:Int)(h:a9.rel F v a):∃t,TyOf K F v t/\L9 K t (.type "int")=some ((λx=>true) a):=(aF _ (by cases h;exact .int a) t7)
theorem isi_ib(F:Hp)(v:V)(a:Int)(h:a9.rel F v a):∃t,TyOf K F v t/\L9 K t (.type "bool")=some ((λx=>false) a):=(aF _ (by cases h;exact .int a) qQ)
theorem isi_t3(F:Hp)(v:V)(a:α×β×γ)(h:(ml r s q).rel F v a):∃t,TyOf K F v t/\L9 K t (.type "tuple")=some ((λb=>true) a):=by obtain⟨p,x,y,z,rfl,h,_⟩:=h;exact(aF _ (.tup h) t8)
end
end
section
open PySem PySem.Spec PyProof.Rows
variable [Kn:Kon]
section
variable {Γ:List Slot}{α β γ S R:Type}{r:Rp α}{s:Rp β}{q:Rp γ}{ta tb:TE}{ob:Option β}{K:Z4}{oi:ZC}
theorem eA{F H F' H':Hp}{p:Addr}{u:HO}(hF:F p=none)(hH:H p=some u)(e:Ext (aH F p u) H F' H')(nu:autoParam (dJ u) L2.a4q._auto_1):Ext F H (del F' p) H'/\F' p=some u:=by
 refine⟨⟨e.hh,λb o h=>?_,λb o h=>e.sub b o (eQ h).2,λb o h=>?_,λz b ps q=>e.nt (nE z nu) b ps (eQ q).2⟩,e.ff p u am⟩
 ·have n:b≠p:=ai h hF;rw[cw n];exact e.ff b o (by rw[aq n];exact h)
 ·refine ax (eQ h) λn h=>?_;rcases e.nw b o h with z|z
  ·rw[aq n]at z;exact .inl z
  ·exact .inr z
theorem SR.borrow{φ:Zz}(S:SR C F Γ σ H)(hi:Γ[i]?=some (.ol r φ xs)):∃p vs,F p=none/\H p=some (.lst vs)/\SR C (aH F p<|.lst vs) (Γ.set i<|.fr (rL r) xs) σ H:=by refine fX (S.at_ i _ hi) λp vs h1 h2 h3 h4 h5 h6=>?_;exact(d4 p vs h4 h5<|S.freeze hi p _ _ rfl rfl h1 h3 h4 h5 ⟨_,rfl,p,vs,rfl,Rd.of am,Paired.imp2 (λx x z=>Rp.mono _ (aQ h4) z) h6⟩ trivial)
theorem SR.borrowD{φ:Zz}(S:SR C F Γ σ H)(hi:Γ[i]?=some (.od r φ kvs)):∃p ws,F p=none/\H p=some (.dK ws)/\SR C (aH F p<|.dK ws) (Γ.set i<|.fr (rD r) kvs) σ H:=by refine fX (S.at_ i _ hi) λp vs h1 h2 h3 h4 h5 h6=>?_;exact(d4 p vs h4 h5<|S.freeze hi p _ _ rfl rfl h1 h3 h4 h5 ⟨_,rfl,p,vs,rfl,am,Paired.imp2 (λx x z=>⟨z.1,Rp.mono _ (aQ h4) z.2⟩) h6⟩ trivial)
noncomputable abbrev brw(Γ:List Slot)(i:Nat){α:Type}(r:Rp α)(xs:List α):List Slot:=Γ.set i<|.fr (rL r) xs
noncomputable abbrev brwD(Γ:List Slot)(i:Nat){α:Type}(r:Rp α)(kvs:List (Int×α)):List Slot:=Γ.set i<|.fr (rD r) kvs
theorem ev_bor{φ:Zz}(i:Nat)(hi:Γ[i]?=some (.ol r φ xs))(fl:Flat s)(h:EV (brw Γ i r xs) tb ob s):EV Γ tb ob s:=by intro C F σ H Q b S e k;refine ay (S.borrow hi) λp vs h1 h2 S'=>?_;refine h C _ σ H Q b S' e λv F' H' x1 r1=>?_;refine ax (eA h1 h2 x1) λx2 h3=>?_;exact k v _ H' x2<|fl h3 trivial r1
theorem ev_borD{φ:Zz}(i:Nat)(hi:Γ[i]?=some (.od r φ kvs))(fl:Flat s)(h:EV (brwD Γ i r kvs) tb ob s):EV Γ tb ob s:=by intro C F σ H Q b S e k;refine ay (S.borrowD hi) λp vs h1 h2 S'=>?_;refine h C _ σ H Q b S' e λv F' H' x1 r1=>?_;refine ax (eA h1 h2 x1) λx2 h3=>?_;exact k v _ H' x2<|fl h3 trivial r1
theorem evl_bor{φ:Zz}(i:Nat)(hi:Γ[i]?=some (.ol r φ xs))(fl:Flat s)(h:ia (brw Γ i r xs) tb o s):ia Γ tb o s:=by intro C F σ H Q b S e k;refine ay (S.borrow hi) λp vs h1 h2 S'=>?_;refine h C _ σ H Q b S' e λv ws F' H' x1 hv r1=>?_;refine ax (eA h1 h2 x1) λx2 h3=>?_;exact k v ws _ H' x2 hv<|Paired.imp2 (λx x z=>fl h3 trivial z) r1
theorem AD{φ:Zz}(i:Nat)(hi:Γ[i]?=some (.od r φ kvs))(fl:Flat s)(h:ia (brwD Γ i r kvs) tb o s):ia Γ tb o s:=by intro C F σ H Q b S e k;refine ay (S.borrowD hi) λp vs h1 h2 S'=>?_;refine h C _ σ H Q b S' e λv ws F' H' x1 hv r1=>?_;refine ax (eA h1 h2 x1) λx2 h3=>?_;exact k v ws _ H' x2 hv<|Paired.imp2 (λx x z=>fl h3 trivial z) r1
theorem AE{φ:Zz}(i:Nat)(hi:Γ[i]?=some (.ol r φ xs))(h:ET (brw Γ i r xs) t o):ET Γ t o:=by intro C F σ H Q b S e k;refine ay (S.borrow hi) λp vs h1 h2 S'=>?_;refine h C _ σ H Q b S' e λF' H' x1=>?_;refine ax (eA h1 h2 x1) λx2 h3=>?_;exact k _ H' x2
theorem et_borD{φ:Zz}(i:Nat)(hi:Γ[i]?=some (.od r φ kvs))(h:ET (brwD Γ i r kvs) t o):ET Γ t o:=by intro C F σ H Q b S e k;refine ay (S.borrowD hi) λp vs h1 h2 S'=>?_;refine h C _ σ H Q b S' e λF' H' x1=>?_;refine ax (eA h1 h2 x1) λx2 h3=>?_;exact k _ H' x2
theorem bS(sq:Sq K rl r)(h:EV Γ ta o rl):IV Γ (zT K ta) o r:=λC F σ H R xs S e k=>h C F σ H _ xs S e λv F' H' x1 hv=>by
 refine ay (sq.get hv) λp vs e2 h1 h2=>?_;exact(cD p e2 ⟨vs,x1.sub.seq h1⟩ (k _ F' H' x1
  ⟨λi H2 sb hi=>⟨vs,vs[i]'(by rw[h2.length];exact hi),sb.seq h1,by simp⟩,λH2 sb=>⟨vs,sb.seq h1,by rw[h2.length];exact bD _⟩,λi H2 x H3 F1 sb hi zq s1 s2=>ax zq λe3 y=>by subst e3;obtain⟨w,g1,g2⟩:=gX h2<|Y5 hi;have ex:x=w:=Z8<|(y vs<|sb.seq h1).symm.trans g1;subst ex;exact(d4 F1 (xs[i]) (Y5 hi) (Ext.refl s2)<|r.mono s1 g2)⟩))
theorem nJ{f:Nat->Int}(hj:J=⟨λi a=>i<n,λi H x H'=>H'=H/\x=.int (f i),λi a=>n<=i⟩):Walks J F a9 ((X9 n).map f):=by
 subst hj;refine⟨λi H a hi=>by simpa using hi,λH a=>by simp,λi H2 x H3 F1 sb hi zq s1 s2=>ax zq λe3 y=>?_⟩;subst e3 y;have hi':i<n:=by simpa using hi
 exact(d4 F1 (f i) (by simp[hi']) (Ext.refl s2) rfl)
set_option tactic.hygienic true in
theorem ke(h:EV Γ ta oi a9):IV Γ (iRng1<|be ta d9) (oi.bind λj=>Pu.lb j) a9:=by
 intro C F σ H R xs S e k;refine aa (ae e) λj e1 e=>?_;unfold Pu.lb at e;split at e
 ·rename_i hb;cases e;refine h C F σ H _ j S e1 λv F' H' x1 r1=>⟨j,by rw[r1],hb.1,hb.2,k _ F' H' x1 ?_⟩;refine nJ (f:=λi=>(i:Int)) ?_;unfold Itr;simp
 ·cases e
set_option tactic.hygienic true in
theorem xm(h:EV Γ ta oi a9)(h':EV Γ tb oj a9):IV Γ (iRng2<|be ta<|be tb d9) (oi.bind λi=>oj.bind λj=>Pu.t9 i j) a9:=by
 intro C F σ H R xs S e k;refine aa (ae e) λi e1 e=>?_;refine aa (ae e) λj e2 e=>?_;unfold Pu.t9 at e;split at e
 ·rename_i hb;cases e;refine EV.two (q:=λx y H2=>∃i j:Int,[x,y]=[.int i,.int j]/\(-(2^62)<=i/\i<2^62/\-(2^62)<=j/\j<2^62)/\R (Itr i (j-i).toNat) H2) h h' S e1 e2 λx y F' H' x1 r1 r2=>(d4 i j (by rw[r1,r2]) hb<|k _ F' H' x1 ?_);exact nJ (f:=λk=>i+(k:Int)) rfl
 ·cases e
theorem iv_enum(sq:Sq K rl r)(h:EV Γ ta o rl):IV Γ (Ao K<|be ta d9) (o.bind λxs=>some<|Pu.qX xs) (cF a9 r):=by
 intro C F σ H R ys S e k;refine aa (ae e) λxs e1 e=>?_;cases e;refine h C F σ H _ xs S e1 λv F' H' x1 hv=>?_;refine ay (sq.get hv) λp vs e2 h1 h2=>?_;refine⟨p,by rw[e2],⟨vs,x1.sub.seq h1⟩,k _ F' H' x1 ?_⟩;have len:(Pu.qX xs).length=vs.length:=by unfold Pu.qX;simp[h2.length]
 refine⟨λi H2 sb hi=>⟨vs,vs[i]'(by rw[<- len];exact hi),sb.seq h1,by simp⟩,λH2 sb=>⟨vs,sb.seq h1,by rw[len];exact bD _⟩,λi H2 x H3 F1 sb hi y s1 s2=>?_⟩;refine fL y λt z e4 ht e5 hz=>?_;subst e4 e5;have hi':i<xs.length:=by rw[<- h2.length,<- len];exact hi
 obtain⟨w,g1,g2⟩:=gX h2<|Y5 hi';have ex:z=w:=Z8<|(hz vs<|sb.seq h1).symm.trans g1;subst ex;refine⟨_,((i:Int),xs[i]),?_,Ext.new s2 ht,t,_,_,rfl,am,rfl,r.mono (s1.trans<|aQ<|s2.free ht) g2⟩;unfold Pu.qX;rw[X2,List.getElem?_zipIdx,Y5 hi'];simp
def GV(Γ:List Slot)(m:Nat)(g:TG)(r:Rp α)(Γt:α->List Slot):Prop:=∀C F σ H v x k,SR C F Γ σ H->r.rel F v x->(∀σ',SR C F (Γt x) σ' H->((∀j,j<m->σ[j]?=some none)->Wk σ σ')->k σ' H)->g v σ H k
theorem Wk.refl:∀{a:St},Wk a a:=by
 intro a;induction a with
 |nil=>trivial
 |cons o r ih=>cases o with|none=>exact ih|some v=>exact⟨rfl,ih⟩
theorem Wk.set:∀{a b:St} {i:Nat} {v:V},Wk a b->a[i]?=some none->Wk a (b.set i<|some v):=by
 intro a;induction a with
 |nil=>exact λc e=>nomatch e
 |cons x r ih =>
  intro b i v h e;cases b with
  |nil=>cases x<;>exact h.elim
  |cons o t =>
   cases x with
   |none =>
    cases i with
    |zero=>exact h
    |succ i=>exact ih (b:=t) (i:=i) h e
   |some x =>
    cases i with
    |zero=>exact nomatch e
    |succ i=>exact⟨h.1,ih (b:=t) (i:=i) h.2 e⟩
theorem bb(i:Nat):GV Γ (i+1) (dj i) r (λx=>Γ.set i<|.fr r x):=λC F σ H v x k S h q=>q _ (S.setF i h) λz=>Wk.refl.set<|z i (by exact W5 _)
theorem gv_pair(i j:Nat):GV Γ (i+j+1) (zR K 2<|jR (dj i)<|jR (dj j) gNil) (cF r s) (λx=>(Γ.set i<|.fr r x.1).set j (.fr s x.2)):=λC F σ H v x k S zq q=>dh zq λp a b e h1 h2 h3 =>
 ⟨p,_,e,j5.of<|S.sub _ _ h1,rfl,a,[b],rfl,b,[],rfl,rfl,q _ ((S.setF i h2).setF j h3) λz=>(Wk.refl.set<|z i (by exact M3<|T4 _ _)).set (z j (by exact M3<|Nat.le_add_left _ _))⟩
theorem gv_trip(i j l:Nat):GV Γ (i+j+l+1) (zR K 3<|jR (dj i)<|jR (dj j)<|jR (dj l) gNil) (ml r s q) (λx=>((Γ.set i<|.fr r x.1).set j (.fr s x.2.1)).set l (.fr q x.2.2)):=λC F σ H v x k S zq q=>iq zq λp a b c e h1 h2 h3 h4 =>
 ⟨p,_,e,j5.of<|S.sub _ _ h1,rfl,a,[b,c],rfl,b,[c],rfl,c,[],rfl,rfl,q _ (((S.setF i h2).setF j h3).setF l h4) λz=>((Wk.refl.set<|z i (by lia)).set (z j (by lia))).set (z l (by exact M3<|Nat.le_add_left _ _))⟩
noncomputable def yO(loc:ZF)(cap:ZD)(Γ:List Slot):List Slot:=loc.map (λx=>Slot.any)++cap.map λp=>(Γ[p.2]?).getD .any
theorem SR.comp(S:SR C F Γ σ H)(hc:(cap.map (·.2)).Nodup):SR C F (yO loc cap Γ) (pF loc cap σ) H:=by
 have get:∀(i:Nat) s,(yO loc cap Γ)[i]?=some s->s=.any\/∃p,loc.length<=i/\cap[i-loc.length]?=some p/\Γ[p.2]?=some s:=λi s h=>by
  unfold yO at h;by_cases hi:i<loc.length
  ·rw[X5 (by simpa using hi),X2]at h;cases q:loc[i]? with
   |none=>rw[q]at h;cases h
   |some _=>rw[q]at h;cases h;exact .inl rfl
  ·rw[Y6 (by simp;exact U6.mp hi),Y0,X2]at h;cases q:cap[i-loc.length]? with
   |none=>rw[q]at h;cases h
   |some p =>
    rw[q]at h;have h:(Γ[p.2]?).getD .any=s:=by simpa using h
    cases q2:Γ[p.2]? with
    |none=>rw[q2]at h;exact .inl h.symm
    |some s'=>rw[q2]at h;cases h;exact .inr<|cD p (by exact U6.mp hi) rfl q2
 have stg:∀(i:Nat) p,loc.length<=i->cap[i-loc.length]?=some p->(pF loc cap σ)[i]?=some (σ[p.2]?).join:=λi p hi h=>by unfold pF;rw[Y6 (by simp;exact hi),Y0,X2,h];rfl
 refine⟨S.toFr,by unfold pF yO;simp,λi s h=>?_,λi j s t p h1 h2 o1 o2 e1 e2=>?_⟩
 ·rcases get i s h with rfl|zr1_
  ·have:i<(pF loc cap σ).length:=by have:=(Z6.mp h).1;unfold yO at this;unfold pF;simpa using this
   exact(aF _ (Y5 this) trivial)
  ·refine aE zr1_ λp hi h1 h2=>?_;refine aa (S.at_ _ s h2) λo h3 h4=>?_;exact(aF o (by rw[stg i p hi h1,h3];rfl) h4)
 ·rcases get i s h1 with rfl|⟨p1,hi1,g1,g2⟩
  ·cases o1
  rcases get j t h2 with rfl|⟨p2,hi2,g3,g4⟩
  ·cases o2
  have e3:σ[p1.2]?=some (some<|.ref p):=by refine aa (S.at_ _ s g2) λo h3 x=>?_;rw[stg i p1 hi1 g1,h3]at e1;rw[h3];exact e1
  have e4:σ[p2.2]?=some (some<|.ref p):=by refine aa (S.at_ _ t g4) λo h3 x=>?_;rw[stg j p2 hi2 g3,h3]at e2;rw[h3];exact e2
  have e5:=S.inj _ _ s t p g2 g4 o1 o2 e3 e4;have a1:(cap.map (·.2))[i-loc.length]?=some p1.2:=by rw[X2,g1];rfl
  have a2:(cap.map (·.2))[j-loc.length]?=some p1.2:=by rw[X2,g3,e5];rfl
  have l1:=(Z6.mp a1).1;have l2:=(Z6.mp a2).1;have:i-loc.length=j-loc.length:=(List.getElem?_inj l1 hc).mp (a1.trans a2.symm);lia
end
end
end L2
namespace Pu
section
variable {β α:Type}{t:β->Option Bool}{f:β->Option α}
theorem lg:∀(l m:List β),ck t f (l++m)=(ck t f l).bind λa=>(ck t f m).bind λb=>some (a++b):=by
 intro l m;induction l with
 |nil=>cases h:ck t f m<;>simp[ck,h]
 |cons x l ih =>
  rw[List.cons_append,ck,ck,ih];cases t x with
  |none=>rfl
  |some b =>
   cases b with
   |false=>rfl
   |true =>
    cases f x with
    |none=>rfl
    |some a =>
     cases h1:ck t f l with
     |none=>rfl
     |some as=>cases h2:ck t f m<;>rfl
theorem yP:∀{l:List β} {as:List α},ck t f l=some as->as.length<=l.length:=by
 intro l;induction l with
 |nil=>exact λh=>Z8 h▸bD _
 |cons x l ih =>
  intro as h;rw[ck]at h;refine aa (L2.ae h) λb a h=>?_;cases b with
  |false=>exact G4<|ih h
  |true=>exact aa (L2.ae h) λa a h=>aa (L2.ae h) λas' h1 h=>Z8 h▸N5 (ih h1)
theorem AF(h:ck t f xs=some as)(hx:xs[i]?=some x):∃p b,ck t f (xs.take i)=some p/\t x=some b/\(b=true->∃c,f x=some c/\ck t f (xs.take<|i+1)=some (p++[c]))/\(b=false->ck t f (xs.take<|i+1)=some p):=by
 have hi:=(Z6.mp hx).1;have ex:=(Z6.mp hx).2;have e:xs=xs.take i++(x ::xs.drop (i+1)):=by rw[<- ex,List.getElem_cons_drop,W3]
 rw[e,lg]at h;refine aa (L2.ae h) λp h1 h=>?_;refine aa (L2.ae h) λw h2 a=>?_;rw[ck]at h2;refine aa (L2.ae h2) λb h3 h2=>?_;have et:xs.take (i+1)=xs.take i++[x]:=by rw[<- ex,List.take_append_getElem]
 refine⟨p,b,h1,h3,(λhb=>?_),(λhb=>?_)⟩
 ·subst hb;rw[if_pos rfl]at h2;refine aa (L2.ae h2) λc h4 a=>?_;exact(aF c h4 (by rw[et,lg,h1];simp[ck,h3,h4]))
 ·subst hb;rw[et,lg,h1];simp[ck,h3]
theorem AG:∀(xs:List β),qk f xs=ck (λa=>some true) f xs:=by
 intro xs;induction xs with
 |nil=>rfl
 |cons x xs ih=>rw[qk,ck,ih];rfl
end
end Pu
namespace L2
section
open PySem PySem.Spec PyProof.Rows
variable [Kn:Kon]
section
variable {Γ:List Slot}{α β S:Type}{r:Rp α}{rb:Rp β}
set_option tactic.hygienic true in
theorem yQ{t:β->Option Bool}{f:β->Option α}{Γt:β->List Slot}(S:SR C F' Γ σ H1)(W:Walks J F' rb xs)(hc:(cap.map (·.2)).Nodup)(hm:m<=loc.length)(hg:GV (yO loc cap Γ) m g rb Γt)(ht:∀x,ET (Γt x) tt (t x))(he:∀x,EV (Γt x) te (f x) r)(e:Pu.du t f xs=some as)(k:∀p vs F2 H2,Ext F' H1 F2 H2->H2 p=none->Paired (r.rel F2) vs as->Q (.ref p) (aH H2 p<|.lst vs))(D:Addr)(hD:H1 D=none):wR g tt te loc cap σ D Q J H1:=by
 unfold Pu.du at e;split at e
 case isFalse=>cases e
 rename_i hl;have sn:∀j,j<m->(pF loc cap σ)[j]?=some none:=λj hj=>by unfold pF;rw[X5 (by simp;exact bZ hj hm),X2,Y5 (by exact bZ hj hm)];rfl
 refine comp_it (n:=xs.length) (λi ys H2=>∃F1 G p,H2=aH G D (.lst ys)/\G D=none/\Ext F' H1 F1 G/\Pu.ck t f (xs.take i)=some p/\Paired (r.rel F1) ys p) ⟨F',H1,[],rfl,hD,Ext.refl S.sub,(by rw[List.take_zero];rfl),.nil⟩ ?_ ?_ ?_ ?_ ?_
 ·intro i ys H2 _ zq;refine fM zq λF1 G p ZU s=>?_;subst ZU;exact am
 ·intro i ys H2 hi zq;refine dh zq λF1 G p ZU hG x2 s=>?_;subst ZU;exact W.go i _ (x2.ff.trans<|x2.sub.trans<|aQ hG) hi
 ·intro ys H2 zq;refine dh zq λF1 G p ZU hG x2 s=>?_;subst ZU;exact W.stop _<|x2.ff.trans<|x2.sub.trans<|aQ hG
 ·rintro i ys H2 x H' hi ⟨F1,G,p,rfl,hG,x2,hp,pr⟩ y;have sFH:=x2.sub.trans<|aQ (o:=.lst ys) hG;refine ay (W.yld i _ x H' F1 (x2.ff.trans sFH) hi y x2.ff sFH) λF2 a ha x3 ra=>?_;have F1D:F1 D=none:=x2.sub.free hG;have noD:∀{A B:Hp},Ext F1 (aH G D<|.lst ys) A B->A D=none:=λ{A B} x=>by
   cases q:A D with
   |none=>rfl
   |some o =>
    rcases x.nw D o q with z|z
    ·rw[F1D]at z;cases z
    ·rw[am]at z;cases z
  have S3:SR C F2 (yO loc cap Γ) (pF loc cap σ) H':=((((S.grow x2).comp hc).grow (Ext.newH x2.sub hG)).grow x3);have fin:∀{A B:Hp} {zs:List V} {pp:List α},Ext F1 (aH G D<|.lst ys) A B->Pu.ck t f (xs.take<|i+1)=some pp->Paired (r.rel A) zs pp->∃F1 G p,aH B D (.lst zs)=aH G D (.lst zs)/\G D=none/\Ext F' H1 F1 G/\Pu.ck t f (xs.take<|i+1)=some p/\Paired (r.rel F1) zs p:=λ{A B zs pp} x hpp pz=>by
   refine⟨A,del B D,pp,?_,eP,⟨qW (x2.hh.trans<|(qU (o:=.lst ys) hG trivial).trans x.hh) hD (x.hh.kp D (.lst ys) trivial am) trivial,x2.ff.trans x.ff,λb o h=>?_,λb o h=>?_,λz=>x.nt<|x2.nt z⟩,hpp,pz⟩
   ·funext b;unfold aH del;split<;>rfl
   ·rw[cw (ai h<|noD x)];exact x.sub b o h
   ·rcases x.nw b o h with z|z
    ·exact x2.nw b o z
    ·have n:b≠D:=by rintro rfl;rw[am]at z;cases z
     rw[aq n]at z;exact .inr<|x2.hh.un z
  refine fL (Pu.AF e ha) λp' b h1 h2 h3 h4=>?_;rw[hp]at h1;cases h1;refine hg C F2 _ H' x a _ S3 ra λσ' S4 wk=>⟨wk sn,?_⟩;refine ht a C F2 σ' H' _ b S4 h2 λF3 H3 x4=>?_;cases b with
  |false =>
   have hB:H3 D=some (.lst ys):=(x3.trans x4).hh.kp D (.lst ys) trivial am;refine gM (fin (x3.trans x4) (h4 rfl)<|Paired.imp2 (λs s z=>r.mono (x3.ff.trans x4.ff) z) pr) λF5 G5 p5 q1 q2 q3 q4 q5=>?_;refine⟨F5,G5,p5,?_,q2,q3,q4,q5⟩;rw[<- q1];funext b;unfold aH;split
   ·rename_i z;rw[z];exact hB
   ·rfl
  |true =>refine aa (h3 rfl) λc h5 h6=>?_;refine he a C F3 σ' H3 _ c (S4.grow x4) h5 λv F4 H4 x5 rv=>?_;have x6:=(x3.trans x4).trans x5;refine(pc (x6.hh.kp D (.lst ys) trivial am) ?_<|fin x6 h6<|Paired.app (Paired.imp2 (λs s z=>r.mono x6.ff z) pr)<|.cons rv .nil);have:=Pu.yP hp;rw[pr.length,V4];rw[S6]at this;lia
 ·intro ys H2 zq;refine gM zq λF1 G p ZU hG x2 hp pr=>?_;subst ZU;rw[N6,e]at hp;cases hp;exact k D ys F1 G x2 hG pr
theorem dR{t:β->Option Bool}{f:β->Option α}{Γt:β->List Slot}(hi:IV Γ wi ox rb)(hc:(cap.map (·.2)).Nodup)(hm:m<=loc.length)(hg:GV (yO loc cap Γ) m g rb Γt)(ht:∀x,ET (Γt x) tt (t x))(he:∀x,EV (Γt x) te (f x) r):ia Γ (wU wi loc cap g tt te) (ox.bind λxs=>Pu.du t f xs) r:=by intro C F σ H Q as S e k;refine aa (ae e) λxs e1 e=>?_;exact hi C F σ H _ xs S e1 λJ F' H1 x1 W D hD=>yQ (S.grow x1) W hc hm hg ht he e (λp vs F2 H2 x2=>k p vs F2 H2<|x1.trans x2) D hD
theorem dv{f:β->Option α}{Γt:β->List Slot}(hi:IV Γ wi ox rb)(hc:(cap.map (·.2)).Nodup)(hm:m<=loc.length)(hg:GV (yO loc cap Γ) m g rb Γt)(he:∀x,EV (Γt x) te (f x) r):ia Γ (wU wi loc cap g An te) (ox.bind λxs=>Pu.comp f xs) r:=by
 have h:=dR (t:=λa=>some true) hi hc hm hg (λa=>et_true) he;have e:(λxs=>Pu.du (λa=>some true) f xs)=λxs=>Pu.comp f xs:=by funext xs;unfold Pu.du Pu.comp;rw[Pu.AG]
 rw[e]at h;exact h
end
end
section
open PySem PySem.Spec PyProof.Rows
variable [Kn:Kon]
section
variable {α S T R:Type}
def BV(Γ:List Slot)(t:TS)(o:Option T)(fin:Fc->T->Ends->Prop):Prop:=∀C F σ H D x,SR C F Γ σ H->o=some x->fin C x D->t D σ H
def rq(r:Rp α):Fc->α->Ends->Prop:=λC a D=>∀v F H,Fr C F H->r.rel F v a->D.rt v H
def AH(r:Rp α):Fc->List α->Ends->Prop:=λC xs D=>∀p vs F H,Fr C F H->H p=none->Paired (r.rel F) vs xs->D.rt (.ref p) (aH H p<|.lst vs)
def finD(r:Rp α):Fc->List (Int×α)->Ends->Prop:=λC xs D=>∀p vs F H,Fr C F H->H p=none->Paired (im r F) vs xs->D.rt (.ref p) (aH H p<|.dK vs)
theorem xn(g:TbG H)(h:H p=some u)(a:Own u):TbG (del H p):=by have ne:∀{c:Addr} {o:HO},H c=some o->(u=o->False)->c≠p:=λq n z=>n<|Z8<|h.symm.trans<|z▸q;exact g.mv (λx x q=>(cw (ne q λz=>qT z a.noTbl)).trans q) (λx x q=>(cw (ne q λz=>qV a z)).trans q) λx x q=>(eQ q).2
structure RFin(rf:Fc->R->Ends->Prop):Prop where
 lo:∀{C F x D},aY C.L F->rf C x D->rf {C with L:=F} x D
 en:∀{C x D nx bk ct},rf C x D->rf C x {D with nx:=nx,bk:=bk,ct:=ct}
theorem rfV:RFin (rq r):=⟨λe h v F H f q=>h v F H (f.raise e) q,λh=>h⟩
def finS(Γf:S->List Slot):Fc->S->Ends->Prop:=λC s D=>∀F σ H,SR C F (Γf s) σ H->D.nx σ H/\D.ct σ H
def yR(Γf:S->List Slot)(rf:Fc->R->Ends->Prop):Fc->Pu.Ctl S R->Ends->Prop:=λC c D=>match c with
 |.nx s=>∀F σ H,SR C F (Γf s) σ H->D.nx σ H/\D.ct σ H
 |.bk s=>∀F σ H,SR C F (Γf s) σ H->D.bk σ H
 |.rt r=>rf C r D
def finJ(Γj:S->List Slot):Fc->S->Ends->Prop:=λC s D=>∀F σ H,SR C F (Γj s) σ H->D.nx σ H
end
section
variable {Γ:List Slot}{α β S T R:Type}{r:Rp α}{s:Rp β}{te:TE}{oa:Option α}{u t t':TS}{o o':Option T}{fin:Fc->T->Ends->Prop}
theorem BV.cast(h:BV Γ t o fin)(e:o'=o):BV Γ t o' fin:=e▸h
theorem bL(h:BV Γ (cI t mZ) o fin):BV Γ t o fin:=h
theorem kf(h:BV Γ (cI t<|cI t' u) o fin):BV Γ (cI (cI t t') u) o fin:=h
theorem c7(h:BV Γ u o fin):BV Γ (cI mZ u) o fin:=h
theorem aD{f:α->Option T}(i:Nat)(he:EV Γ te oa r)(h:∀a,BV (Γ.set i<|.fr r a) u (f a) fin):BV Γ (cI (m8 te<|dj i) u) (oa.bind f) fin:=by intro C F σ H D x S e k;refine aa (ae e) λa e1 e=>?_;exact he C F σ H _ a S e1 λv F' H' x1 r1=>h a C F' _ H' D x ((S.grow x1).setF i r1) e k
theorem kg{f:List α->Option T}(i:Nat)(he:ia Γ te ol r)(h:∀a,BV (Γ.set i<|.ol r wX a) u (f a) fin):BV Γ (cI (m8 te<|dj i) u) (ol.bind f) fin:=by intro C F σ H D x S e k;refine aa (ae e) λa e1 e=>?_;exact he C F σ H _ a S e1 λp vs F' H' x1 hp r1=>h a C F' _ _ D x ((S.grow x1).setO i hp rfl ⟨p,vs,rfl,trivial,(S.grow x1).keep.free hp,x1.sub.free hp,am,r1⟩) e k
theorem xo{f:List (Int×α)->Option T}(i:Nat)(he:EVD Γ te ol r)(h:∀a,BV (Γ.set i<|.od r wX a) u (f a) fin):BV Γ (cI (m8 te<|dj i) u) (ol.bind f) fin:=by intro C F σ H D x S e k;refine aa (ae e) λa e1 e=>?_;exact he C F σ H _ a S e1 λp vs F' H' x1 hp r1=>h a C F' _ _ D x ((S.grow x1).setO i hp rfl ⟨p,vs,rfl,trivial,(S.grow x1).keep.free hp,x1.sub.free hp,am,r1⟩) e k
theorem bv_asg{Γt:α->List Slot}{f:α->Option T}(he:EV Γ te oa r)(hg:GV Γ m g r Γt)(h:∀a,BV (Γt a) u (f a) fin):BV Γ (cI (m8 te g) u) (oa.bind f) fin:=by intro C F σ H D x S e k;refine aa (ae e) λa e1 e=>?_;exact he C F σ H _ a S e1 λv F' H' x1 r1=>hg C F' σ H' v a _ (S.grow x1) r1 λσ' S' b=>h a C F' σ' H' D x S' e k
theorem eS(hc:ET Γ tt oc)(h1:BV Γ (cI t u) o fin)(h2:BV Γ (cI t' u) o' fin):BV Γ (cI (tIfS tt t t') u) (oc.bind λb=>if b=true then o else o') fin:=by
 intro C F σ H D x S e k;refine aa (ae e) λb e1 e=>?_;refine hc C F σ H _ b S e1 λF' H' x1=>?_;cases b with
 |true=>exact h1 C F' σ H' D x (S.grow x1) e k
 |false=>exact h2 C F' σ H' D x (S.grow x1) e k
theorem xp{Γj:S->List Slot}{f:S->Option T}(h1:BV Γ t oj (finJ Γj))(h:∀s,BV (Γj s) u (f s) fin):BV Γ (cI t u) (oj.bind f) fin:=by intro C F σ H D x S e k;refine aa (ae e) λs e1 e=>?_;exact h1 C F σ H _ s S e1 λF' σ' H' S'=>h s C F' σ' H' D x S' e k
theorem kh{Γj:S->List Slot}(st:S)(hs:SubL Γ (Γj st)):BV Γ mZ (some st) (finJ Γj):=λC F σ H D x S e k=>by cases e;refine aa (S.weak hs) λF' a S'=>?_;exact k F' σ H S'
theorem bI(he:EV Γ te oa r):BV Γ (pf te) oa (rq r):=λC F σ H D x S e k=>he C F σ H _ x S e λv F' H' x1 r1=>k v F' H' (S.toFr.grow x1) r1
theorem cE(he:ia Γ te ol r):BV Γ (pf te) ol (AH r):=λC F σ H D x S e k=>he C F σ H _ x S e λp vs F' H' x1 hp r1=>k p vs F' H' (S.toFr.grow x1) hp r1
set_option tactic.hygienic true in
theorem rA{φ:Zz}(i:Nat)(hi:Γ[i]?=some (.ol r φ xs)):BV Γ (pf<|dO i) (some xs) (AH r):=λC F σ H D x S e k=>by
 cases e;refine fX (S.at_ i _ hi) λp vs h1 h2 h3 h4 h5 h6=>?_;refine⟨.ref p,h1,?_⟩;have eH:H=aH (del H p) p (.lst vs):=by
  funext b;unfold aH del;split
  ·rename_i z;rw[z];exact h5
  ·rfl
 rw[eH];have sd:Sm C.H0 (del H p):=qW S.keep h3 h5 trivial;refine k p vs F (del H p) ⟨sd,S.low,λb o h=>?_,S.base,S.nt,xn S.tg h5 trivial⟩ eP h6;rw[cw (ai h h4)];exact S.sub b o h
set_option tactic.hygienic true in
theorem AI{φ:Zz}(i:Nat)(hi:Γ[i]?=some (.od r φ xs)):BV Γ (pf<|dO i) (some xs) (finD r):=λC F σ H D x S e k=>by
 cases e;refine fX (S.at_ i _ hi) λp vs h1 h2 h3 h4 h5 h6=>?_;refine⟨.ref p,h1,?_⟩;have eH:H=aH (del H p) p (.dK vs):=by
  funext b;unfold aH del;split
  ·rename_i z;rw[z];exact h5
  ·rfl
 rw[eH];have sd:Sm C.H0 (del H p):=qW S.keep h3 h5 trivial;refine k p vs F (del H p) ⟨sd,S.low,λb o h=>?_,S.base,S.nt,xn S.tg h5 trivial⟩ eP h6;rw[cw (ai h h4)];exact S.sub b o h
theorem d5(h:BV Γ (pf te) o fin):BV Γ (cI (pf te) u) o fin:=λC F σ H D x S e k=>h C F σ H D x S e k
theorem mJ{Γf:S->List Slot}{rf:Fc->R->Ends->Prop}(h:BV Γ (pf te) oR rf):BV Γ (pf te) (oR.bind λa=>some<|.rt a) (yR Γf rf):=λC F σ H D x S e k=>by refine aa (ae e) λa e1 e=>?_;cases e;exact h C F σ H D a S e1 k
theorem cj{Γf:S->List Slot}(st:S)(hs:SubL Γ (Γf st)):BV Γ mZ (some st) (finS Γf):=λC F σ H D x S e k=>by cases e;refine aa (S.weak hs) λF' a S'=>?_;exact(k F' σ H S').1
theorem nK{Γf:S->List Slot}{rf:Fc->R->Ends->Prop}(st:S)(hs:SubL Γ (Γf st)):BV Γ mZ (some<|.nx st) (yR Γf rf):=λC F σ H D x S e k=>by cases e;refine aa (S.weak hs) λF' a S'=>?_;exact(k F' σ H S').1
end
end
section
open PySem PySem.Spec PyProof.Rows
variable [Kn:Kon]
section
variable {Γ:List Slot}{α β S T R:Type}{r:Rp α}{s:Rp β}{rb:Rp β}{ta tb te:TE}{oa:Option α}{K:Z4}{oi:ZC}{u t tl:TS}{o:Option T}{fin:Fc->T->Ends->Prop}
theorem AJ{Γf:S->List Slot}{Γt:S->β->List Slot}{body:S->β->Option (Pu.Ctl S R)}{rf:Fc->R->Ends->Prop}{f:S->Option T}{e:R->T}{st:S}(S2:SR C F2 (Γf st) σ H)(e0:Pu.andThen (Pu.gY body xs st) f e=some x)(k:fin C x D)(hw:∀i F3 s' σ H,SR {C with L:=F2} F3 (Γf s') σ H->J.stop xs.length H/\∀hi:i<xs.length,J.go i H/\∀v H',J.yld i H v H'->∃F4,Ext F3 H F4 H'/\rb.rel F4 v xs[i])(hg:∀s,GV (Γf s) m g rb (Γt s))(hb:∀s x,BV (Γt s x) tl (body s x) (yR Γf rf))(hr:RFin rf)(he:∀C x D,fin C (e x) D->rf C x D)(h:∀s,BV (Γf s) u (f s) fin):cI (tFor (λa H R=>R J H) g tl) u D σ H:=by
 have L1:aY C.L F2:=S2.low;refine⟨λi m σ H=>∃F3 s',m=xs.length-i/\i<=xs.length/\SR {C with L:=F2} F3 (Γf s') σ H/\Pu.andThen (Pu.gY body (xs.drop i) s') f e=some x,⟨xs.length,F2,st,by simp,T3 _,S2.lower,by rw[List.drop_zero];exact e0⟩,?_⟩;intro i m σ H zq;refine fL zq λF3 s' ZV hil S3 e3=>?_;subst ZV;by_cases hlt:i<xs.length
 ·refine .inr ⟨((hw i F3 s' σ H S3).2 hlt).1,λσ' H'=>∃F3 s',i+1<=xs.length/\SR {C with L:=F2} F3 (Γf s') σ' H'/\Pu.andThen (Pu.gY body (xs.drop<|i+1) s') f e=some x,
   λσ' H' zq=>ay zq λF3 s' h1 h2 h3=>⟨xs.length-(i+1),by omega,F3,s',rfl,h1,h2,h3⟩,λv H' y=>?_⟩
  refine aa (((hw i F3 s' σ H S3).2 hlt).2 v H' y) λF4 x4 ra=>?_;rw[<- List.getElem_cons_drop (h:=hlt),Pu.gY]at e3;unfold Pu.andThen at e3;refine aa (ae e3) λc1 e4 e5=>?_;refine aa (ae e4) λc e6 e7=>?_;refine hg s' _ F4 σ H' v xs[i] _ (S3.grow x4) ra λσ' S4 a=>?_;refine hb s' xs[i] _ F4 σ' H' _ c S4 e6 ?_;cases c with
  |nx s2 =>
   have e8:Pu.andThen (Pu.gY body (xs.drop<|i+1) s2) f e=some x:=by unfold Pu.andThen;rw[show Pu.gY body (xs.drop<|i+1) s2=some c1 from e7];exact e5
   exact λF5 σ5 H5 S5=>⟨⟨F5,s2,hlt,S5,e8⟩,⟨F5,s2,hlt,S5,e8⟩⟩
  |bk s2 =>cases e7;exact λF5 σ5 H5 S5=>h s2 C F5 σ5 H5 D x (S5.raise L1) e5 k
  |rt r2 =>cases e7;cases e5;exact hr.en<|hr.lo L1<|hr.en (nx:=u D) (bk:=D.bk) (ct:=D.ct)<|he C r2 D k
 ·have ei:i=xs.length:=by exact T5 hil<|U6.mp hlt
  subst ei;rw[List.drop_length,Pu.gY]at e3;exact .inl ⟨(hw 0 F3 s' σ H S3).1,h s' C F3 σ H D x (S3.raise L1) e3 k⟩
theorem Walks.at_{C:Fc}(W:Walks J F rb xs)(f2:aY F F2)(S3:SR {C with L:=F2} F3 Γ' σ H):J.stop xs.length H/\∀hi:i<xs.length,J.go i H/\∀v H',J.yld i H v H'->∃F4,Ext F3 H F4 H'/\rb.rel F4 v xs[i]:=by have fH:aY F H:=f2.trans<|S3.low.trans S3.sub;exact⟨W.stop H fH,λhlt=>⟨W.go i H fH hlt,λv H' y=>ay (W.yld i H v H' F3 fH hlt y (f2.trans S3.low) S3.sub) λF4 a ha x4 ra=>⟨F4,x4,(Z6.mp ha).2▸ra⟩⟩⟩
theorem rB{Γf:S->List Slot}{Γt:S->β->List Slot}{body:S->β->Option (Pu.Ctl S R)}{rf:Fc->R->Ends->Prop}{f:S->Option T}{e:R->T}(st:S)(hi:IV Γ wi ox rb)(hs:SubL Γ (Γf st))(hg:∀s,GV (Γf s) m g rb (Γt s))(hb:∀s x,BV (Γt s x) tl (body s x) (yR Γf rf))(hr:RFin rf)(he:∀C x D,fin C (e x) D->rf C x D)(h:∀s,BV (Γf s) u (f s) fin):BV Γ (cI (tFor wi g tl) u) (ox.bind λxs=>Pu.andThen (Pu.gY body xs st) f e) fin:=by intro C F σ H D x S0 e0 k;refine aa (ae e0) λxs e1 e0=>?_;exact hi C F σ H _ xs S0 e1 λJ F' H1 x1 W=>aa ((S0.grow x1).weak hs) λF2 f2 S2=>AJ S2 e0 k (λi F3 s' σ H S3=>W.at_ f2 S3) hg hb hr he h
theorem forS_C{S β T:Type}{body:S->β->Option S}{f:S->Option T}{e:Empty->T}:∀(xs:List β) (st:S),(Pu.di body xs st).bind f=Pu.andThen (Pu.gY (λs x=>(body s x).map .nx) xs st) f e:=by
 intro xs;induction xs with
 |nil=>exact λa=>rfl
 |cons x xs ih =>
  intro st;show ((body st x).bind λs=>Pu.di body xs s).bind f=Pu.andThen (((body st x).map Pu.Ctl.nx).bind _) f e;cases body st x with
  |none=>rfl
  |some s=>exact ih s
theorem bv_nx{Γf:S->List Slot}{o:Option S}{rf:Fc->R->Ends->Prop}(h:BV Γ t o (finS Γf)):BV Γ t (o.map .nx) (yR Γf rf):=λC F σ H D y X e k=>aa (P4.mp e) λz e1 e2=>h C F σ H D z X e1 (by rw[<- e2]at k;exact k)
def rfE:Fc->Empty->Ends->Prop:=λa x a=>x.elim
theorem rfE_ok:RFin rfE:=⟨λ{_ _ x _}=>x.elim,λ{_ x _ _ _ _}=>x.elim⟩
theorem eB{Γf:S->List Slot}{Γt:S->β->List Slot}{body:S->β->Option S}{f:S->Option T}(st:S)(hi:IV Γ wi ox rb)(hs:SubL Γ (Γf st))(hg:∀s,GV (Γf s) m g rb (Γt s))(hb:∀s x,BV (Γt s x) tl (body s x) (finS Γf))(h:∀s,BV (Γf s) u (f s) fin):BV Γ (cI (tFor wi g tl) u) (ox.bind λxs=>(Pu.di body xs st).bind f) fin :=
 (rB (rf:=rfE) (e:=Empty.elim) st hi hs hg (λs x=>bv_nx<|hb s x) rfE_ok (λa x=>x.elim) h).cast (congrArg ox.bind (funext λxs=>forS_C xs st))
theorem bv_whC{Γf:S->List Slot}{tf:S->Option Bool}{body:S->Option (Pu.Ctl S R)}{rf:Fc->R->Ends->Prop}{f:S->Option T}{e:R->T}(n:Nat)(st:S)(hs:SubL Γ (Γf st))(ht:∀s,ET (Γf s) tt (tf s))(hb:∀s,BV (Γf s) tl (body s) (yR Γf rf))(hr:RFin rf)(he:∀C x D,fin C (e x) D->rf C x D)(h:∀s,BV (Γf s) u (f s) fin):BV Γ (cI (uT tt tl) u) (Pu.andThen (Pu.Av tf body n st) f e) fin:=by
 intro C F σ H D x S0 e0 k;refine aa (S0.weak hs) λF2 f2 S2=>?_;refine⟨λm σ H=>∃F3 s',SR C F3 (Γf s') σ H/\Pu.andThen (Pu.Av tf body m s') f e=some x,⟨n,F2,st,S2,e0⟩,?_⟩;intro m σ H zq;refine bv zq λF3 s' S3 e3=>?_;cases m with
 |zero=>exact absurd e3 (by simp[Pu.Av,Pu.andThen])
 |succ m =>
  rw[Pu.Av]at e3;unfold Pu.andThen at e3;refine aa (ae e3) λc1 e4 e5=>?_;refine aa (ae e4) λb e6 e7=>?_;refine ht s' C F3 σ H _ b S3 e6 λF4 H4 x4=>?_;cases b with
  |false =>rw[if_neg Z7]at e7 ⊢;cases e7;exact h s' C F4 σ H4 D x (S3.grow x4) e5 k
  |true =>
   rw[if_pos rfl]at e7 ⊢;refine aa (ae e7) λc e8 e9=>?_;refine⟨λσ' H'=>∃F3 s',SR C F3 (Γf s') σ' H'/\Pu.andThen (Pu.Av tf body m s') f e=some x,λσ' H' zq=>bv zq λF3 s' h1 h2=>⟨m,by exact W5 _,F3,s',h1,h2⟩,hb s' C F4 σ H4 _ c (S3.grow x4) e8 ?_⟩;cases c with
   |nx s2=>exact λF5 σ5 H5 S5=>⟨⟨F5,s2,S5,by unfold Pu.andThen;rw[show Pu.Av tf body m s2=some c1 from e9];exact e5⟩,⟨F5,s2,S5,by unfold Pu.andThen;rw[show Pu.Av tf body m s2=some c1 from e9];exact e5⟩⟩
   |bk s2 =>cases e9;exact λF5 σ5 H5 S5=>h s2 C F5 σ5 H5 D x S5 e5 k
   |rt r2 =>cases e9;cases e5;exact hr.en<|hr.en (nx:=u D) (bk:=D.bk) (ct:=D.ct)<|he C r2 D k
theorem vC{Γf:S->List Slot}{tf:S->Option Bool}{body:S->Option S}{f:S->Option T}(n:Nat)(st:S)(hs:SubL Γ (Γf st))(ht:∀s,ET (Γf s) tt (tf s))(hb:∀s,BV (Γf s) tl (body s) (finS Γf))(h:∀s,BV (Γf s) u (f s) fin):BV Γ (cI (uT tt tl) u) ((Pu.mI tf body n st).bind f) fin:=by
 intro C F σ H D x S0 e0 k;refine aa (S0.weak hs) λF2 f2 S2=>?_;refine⟨λm σ H=>∃F3 s',SR C F3 (Γf s') σ H/\(Pu.mI tf body m s').bind f=some x,⟨n,F2,st,S2,e0⟩,?_⟩;intro m σ H zq;refine bv zq λF3 s' S3 e3=>?_;cases m with
 |zero=>exact absurd e3 (by simp[Pu.mI])
 |succ m =>
  rw[Pu.mI]at e3;refine aa (ae e3) λc1 e4 e5=>?_;refine aa (ae e4) λb e6 e7=>?_;refine ht s' C F3 σ H _ b S3 e6 λF4 H4 x4=>?_;cases b with
  |false =>rw[if_neg Z7]at e7 ⊢;cases e7;exact h s' C F4 σ H4 D x (S3.grow x4) e5 k
  |true =>rw[if_pos rfl]at e7 ⊢;refine aa (ae e7) λc e8 e9=>?_;refine⟨λσ' H'=>∃F3 s',SR C F3 (Γf s') σ' H'/\(Pu.mI tf body m s').bind f=some x,λσ' H' zq=>bv zq λF3 s' h1 h2=>⟨m,by exact W5 _,F3,s',h1,h2⟩,hb s' C F4 σ H4 _ c (S3.grow x4) e8 ?_⟩;exact λF5 σ5 H5 S5=>⟨⟨F5,c,S5,by rw[e9];exact e5⟩,⟨F5,c,S5,by rw[e9];exact e5⟩⟩
section
variable {φ:Zz}{xs:List α}{kvs:List (Int×α)}
set_option tactic.hygienic true in
theorem gC{f:List α->Option T}(i:Nat)(hi:Γ[i]?=some (.ol r φ xs))(he:EV Γ te oa r)(h:∀ys,BV (Γ.set i<|.ol r φ ys) u (f ys) fin):BV Γ (cI (wC<|tBM K "list" wN (dO i) (be te d9)) u) (oa.bind λa=>(Pu.app xs a).bind f) fin:=by
 intro C F σ H D x S e k;refine aa (ae e) λa e1 e=>?_;refine aa (ae e) λys e2 e=>?_;refine fX (S.at_ i _ hi) λp vs h1 h2 h3 h4 h5 h6=>?_;refine⟨.ref p,h1,.inl ⟨rfl,vs,fm.of h5⟩,he C F σ H _ a S e1 λv F' H' x1 r1=>?_⟩;have S':=S.grow x1;refine fX (S'.at_ i _ hi) λp' vs' q1 q2 q3 q4 q5 q6=>?_;rw[h1]at q1;cases q1;unfold Pu.app at e2;split at e2
 ·rename_i hl;cases e2;refine⟨p,vs',v,rfl,rfl,q5,by rw[q6.length,V4];exact hl,?_⟩;exact h _ C F' σ _ D x (S'.chg hi rfl h1 q3 q4 rfl ⟨p,_,rfl,q2,q3,q4,am,Paired.app q6<|.cons r1 .nil⟩) e k
 ·cases e2
theorem bv_pop0{f:α->List α->Option T}(i j:Nat)(hi:Γ[i]?=some (.ol r φ xs))(hij:i≠j)(h:∀a ys,BV ((Γ.set i<|.ol r φ ys).set j (.fr r a)) u (f a ys) fin):BV Γ (cI (m8 (tBM K "list" va (dO i) (be (tC<|.int 0) d9))<|dj j) u) (match xs with|[]=>none|a ::ys=>f a ys) fin:=by
 intro C F σ H D x S e k;refine fX (S.at_ i _ hi) λp vs h1 h2 h3 h4 h5 h6=>?_;cases h6 with
 |nil=>cases e
 |@cons v a vs ys q6 q7 =>
  refine⟨.ref p,h1,.inl ⟨rfl,_,fm.of h5⟩,p,v ::vs,0,0,v,rfl,rfl,h5,by decide,by decide,?_,rfl,?_⟩
  ·unfold seqIndex?;simp
  ·exact h a ys C F _ _ D x ((S.chg (s':=.ol r φ ys) hi rfl h1 h3 h4 rfl ⟨p,_,rfl,h2,h3,h4,am,q7⟩).setF j q6) e k
def tp(Γ:List Slot)(to:TE)(i:Nat):Prop:=∀C F σ H Q v,SR C F Γ σ H->σ[i]?=some (some v)->Q v H->to σ H Q
theorem xq(i:Nat):tp Γ (dO i) i:=λx x x x x v x h q=>⟨v,h,q⟩
set_option tactic.hygienic true in
theorem xr{f:List (Int×α)->Option T}(i:Nat)(ho:tp Γ to i)(hi:Γ[i]?=some (.od r φ kvs))(hk:EV Γ tb oi a9)(he:EV Γ te oa r)(h:∀ys,BV (Γ.set i<|.od r φ ys) u (f ys) fin):
  BV Γ (cI (Ae to tb te) u) (oa.bind λa=>oi.bind λk=>if kvs.length<16777216 then f (Pu.put kvs k a) else none) fin:=by
 intro C F σ H D x S e k;refine aa (ae e) λa e1 e=>?_;refine aa (ae e) λn e2 e=>?_;split at e
 case isFalse=>cases e
 rename_i hl;refine he C F σ H _ a S e1 λv F' H' x1 r1=>?_;refine aa (S.at_ i _ hi) λo h1 zz=>bv zz λp vs ZT b=>?_;subst ZT;refine ho C F' σ H' _ (.ref p) (S.grow x1) h1 (hk C F' σ H' _ n (S.grow x1) e2 λw F2 H2 x2 r2=>?_);have S':=(S.grow x1).grow x2;refine fX (S'.at_ i _ hi) λp' vs' q1 q2 q3 q4 q5 q6=>?_;rw[h1]at q1;cases q1;cases r2;refine(d4 p _ rfl (Ab.k (k:=P8 n) q5 (by rw[q6.length,V4];exact hl)) ?_);exact h _ C F2 σ _ D x (S'.chg hi rfl h1 q3 q4 rfl ⟨p,_,rfl,q2,q3,q4,am,vy (r.mono x2.ff r1) q6⟩) e k
theorem AK{f:List (Int×α)->Option T}(i:Nat)(hi:Γ[i]?=some (.od r φ kvs))(hk:EV Γ tb oi a9)(he:EV Γ te oa r)(h:∀ys,BV (Γ.set i<|.od r φ ys) u (f ys) fin):
  BV Γ (cI (Ae (dO i) tb te) u) (oa.bind λa=>oi.bind λk=>if kvs.length<16777216 then f (Pu.put kvs k a) else none) fin:=xr i (xq i) hi hk he h
end
theorem evd_new:EVD Γ vc (some []) r:=λC F σ H Q kvs S e k=>by cases e;exact λp hp=>k p [] F H (Ext.refl S.sub) hp .nil
theorem evd_one(hk:EV Γ ta oi a9)(hv:EV Γ tb oa r):EVD Γ (tDisp [(ta,tb)]) (oi.bind λi=>oa.bind λa=>some [(i,a)]) r:=by
 intro C F σ H Q kvs S e k;refine aa (ae e) λi e1 e=>?_;refine aa (ae e) λa e2 e=>?_;cases e;intro p hp;have S1:=S.grow<|Ext.newH (o:=.dK []) S.sub hp;have go:ta σ (aH H p<|.dK []) λx H1=>tb σ H1 λy H2=>H2 p=some (.dK [])/\∃kvs:List (Key×V),[(x,y)]=kvs.map (λkv=>(kV kv.1,kv.2))/\kvs.length<=15/\Q (.ref p) (aH H2 p<|.dK<|jx [] kvs):=by
  refine EV.two (q:=λx y H2=>H2 p=some (.dK [])/\∃kvs:List (Key×V),[(x,y)]=kvs.map (λkv=>(kV kv.1,kv.2))/\kvs.length<=15/\Q (.ref p) (aH H2 p<|.dK<|jx [] kvs)) hk hv S1 e1 e2 λx y F' H' x1 r1 r2=>⟨x1.hh.kp p (.dK []) trivial am,[(.inl i,y)],by rw[r1];rfl,by simp,?_⟩;have Fp:F p=none:=S.sub.free hp;have Fp':F' p=none:=by
   cases q:F' p with
   |none=>rfl
   |some o =>
    rcases x1.nw p o q with z|z
    ·rw[Fp]at z;cases z
    ·rw[am]at z;cases z
  have eH:aH H' p (.dK<|jx [] [(P8 i,y)])=aH (del H' p) p (.dK [(P8 i,y)]):=by funext b;unfold aH del;split<;>rfl
  rw[eH];refine k p _ F' (del H' p) ⟨qW ((qU (o:=.dK []) hp trivial).trans x1.hh) hp (x1.hh.kp p (.dK []) trivial am) trivial,x1.ff,λb o h=>?_,λb o h=>?_,x1.nt⟩ eP<|.cons ⟨rfl,r2⟩ .nil
  ·rw[cw (ai h Fp')];exact x1.sub b o h
  ·rcases x1.nw b o h with z|z
   ·exact .inl z
   ·have n:b≠p:=by rintro rfl;rw[am]at z;cases z
    rw[aq n]at z;exact .inr z
 exact go
end
section
variable {P:U4}{w:World}{K:Z4}{mg:ZH}{base:Heap}{x:Str}{st:Stmt}{N ps:ZF}{k:Nat}{τ γ:Type}{ra:RpA τ}{r:Rp γ}
theorem SR.begin_(sb:aY F H)(nt:NT F)(tg:TbG H)(h:ra.rel F vs a)(hn:N.length-vs.length=n):SR ⟨H,F,F⟩ F (ra.slots a++T8 n .any) (start N vs) H:=by
 refine ax (ra.ok h) λl g=>?_;have noown:∀(i:Nat) s,(ra.slots a++T8 n .any)[i]?=some s->s.own=false:=λi s h=>by
  by_cases hi:i<(ra.slots a).length
  ·rw[X5 hi]at h;exact(g i s h).1
  ·rw[Y6 (by exact U6.mp hi)]at h;have:=U0 h;rw[List.mem_replicate]at this;rw[this.2];rfl
 refine⟨⟨Sm.refl _,aY.refl _,sb,λb o h=>.inl h,nt,tg⟩,?_,λi s hs=>?_,λi j s t p h1 h2 o1 o2 x x=>?_⟩
 ·unfold start;rw[Y9,Y9,Y0,List.length_replicate,List.length_replicate,l,<- hn,l]
 ·unfold start;by_cases hi:i<(ra.slots a).length
  ·rw[X5 hi]at hs;refine ax (g i s hs) λx zz=>aa zz λv g1 g2=>?_;exact(aF (some v) (by rw[X5 (by simp[l,hi]),X2,g1];rfl)<|g2 H H)
  ·rw[Y6 (by exact U6.mp hi)]at hs;have hm:=U0 hs;rw[List.mem_replicate]at hm;have hlt:=(Z6.mp hs).1;rw[List.length_replicate]at hlt;rw[hm.2];exact(aF none (by rw[Y6 (by simp;exact b8 (bG l)<|U6.mp hi),Y0,List.getElem?_replicate,if_pos (by lia)]) trivial)
 ·rw[noown i s h1]at o1;cases o1
noncomputable abbrev iK(P:U4)(w:World)(K:Z4)(mg:ZH)(base:Heap)(x:Str)(st:Stmt)(N:ZF)(k:Nat)(G:TS->Prop):Prop :=
 ∀(f:Addr) (ZP:Value) (A:Around) (outer:List Env) (s:Shared) (H:Hp) (E:XK),Room k (A.deeper<|envOfC x (ah st) s.heap.objs.size f ZP)->∃t,mX (me sZ P w K mg base N x (ah st) f ZP A outer s H E).nox (aX st) t/\G t
theorem aL.pV{f:τ->Option γ}(D:aL K mg x st ps)(S:FnScope N ps (ah st))(hl:∀a,(ra.slots a).length=ps.length)(hn:N.length-ps.length=n)(h:iK P w K mg base x st N k λt=>∀a,BV (ra.slots a++T8 n .any) t (f a) (rq r)):i9 P w K mg base (k+1) x ps (p8 ra r f):=by
 refine D.has S (λvs H Q E h=>?_) λfa ZP A outer s H vs Q E hr hsp=>?_
 ·refine gM h λF a c b b b h1 b=>?_;rw[(ra.ok h1).1,hl]
 ·refine aa (h fa ZP A outer s H E hr) λt h1 h2=>?_;refine jP hsp λF a c sb nt tg hr' hf q=>?_;refine(aF t h1<|h2 a _ F _ H _ c (SR.begin_ sb nt tg hr' (by rw[(ra.ok hr').1,hl];exact hn)) hf ?_);exact λv F' H' fr rv=>q v F' H' ⟨fr.keep,fr.low,fr.sub,fr.base,λb=>fr.nt⟩ rv
theorem aL.pL{f:τ->Option (List γ)}(D:aL K mg x st ps)(S:FnScope N ps (ah st))(hl:∀a,(ra.slots a).length=ps.length)(hn:N.length-ps.length=n)(h:iK P w K mg base x st N k λt=>∀a,BV (ra.slots a++T8 n .any) t (f a) (AH r)):i9 P w K mg base (k+1) x ps (qm ra r f):=by
 refine D.has S (λvs H Q E h=>?_) λfa ZP A outer s H vs Q E hr hsp=>?_
 ·refine gM h λF a c b b b h1 b=>?_;rw[(ra.ok h1).1,hl]
 ·refine aa (h fa ZP A outer s H E hr) λt h1 h2=>?_;refine jP hsp λF a c sb nt tg hr' hf q=>?_;refine(aF t h1<|h2 a _ F _ H _ c (SR.begin_ sb nt tg hr' (by rw[(ra.ok hr').1,hl];exact hn)) hf ?_);exact λp vs F' H' fr hp rv=>q p vs F' H' ⟨fr.keep,fr.low,fr.sub,fr.base,λb=>fr.nt⟩ hp rv
theorem aL.pD{f:τ->Option (List<|Int×γ)}(D:aL K mg x st ps)(S:FnScope N ps (ah st))(hl:∀a,(ra.slots a).length=ps.length)(hn:N.length-ps.length=n)(h:iK P w K mg base x st N k λt=>∀a,BV (ra.slots a++T8 n .any) t (f a) (finD r)):i9 P w K mg base (k+1) x ps (spD ra r f):=by
 refine D.has S (λvs H Q E h=>?_) λfa ZP A outer s H vs Q E hr hsp=>?_
 ·refine gM h λF a c b b b h1 b=>?_;rw[(ra.ok h1).1,hl]
 ·refine aa (h fa ZP A outer s H E hr) λt h1 h2=>?_;refine jP hsp λF a c sb nt tg hr' hf q=>?_;refine(aF t h1<|h2 a _ F _ H _ c (SR.begin_ sb nt tg hr' (by rw[(ra.ok hr').1,hl];exact hn)) hf ?_);exact λp vs F' H' fr hp rv=>q p vs F' H' ⟨fr.keep,fr.low,fr.sub,fr.base,λb=>fr.nt⟩ hp rv
end
end
open PySem PySem.Spec PyProof.Rows
structure Dt{α:Type}[DecidableEq α](r:Rp α) where
 dat:α->PyData
 n:Nat
 ok:∀{K:Z4} {H v a},r.rel H v a->iF K H (dat a) v
 lay:∀a,(dat a).canLay0=true
 dep:∀a,(dat a).depth<=n
 eqv:∀a b,PyData.eqv (dat a) (dat b)=decide (a=b)
noncomputable def tq:Dt a9:=⟨.int,0,λh=>by unfold iF;exact h,λx=>by rw[PyData.canLay0],λx=>by rw[PyData.depth];exact bD _,λa b=>by rw[PyData.eqv,V7];simp⟩
section
variable {α β γ:Type}[DecidableEq α][DecidableEq β][DecidableEq γ]{r:Rp α}{s:Rp β}{q:Rp γ}
theorem AL{K:Z4}(d:Dt r):∀{vs:List V} {xs:List α},Paired (r.rel H) vs xs->fZ K H (xs.map d.dat) vs:=λp=>by
 induction p with
 |nil=>unfold fZ;rfl
 |cons h _ ih=>rw[W7];unfold fZ;exact(d4 _ _ rfl (d.ok h) ih)
theorem layAll(d:Dt r):∀xs:List α,PyData.canLayAll0 (xs.map d.dat)=true:=by
 intro xs;induction xs with
 |nil=>exact PyData.canLayAll0.eq_1
 |cons x xs ih=>rw[W7,PyData.canLayAll0,ih,d.lay];rfl
theorem depAll(d:Dt r):∀xs:List α,PyData.depthAll (xs.map d.dat)<=d.n:=by
 intro xs;induction xs with
 |nil=>rw[List.map_nil,PyData.depthAll];exact T3 _
 |cons x xs ih=>rw[W7,PyData.depthAll];exact Nat.max_le.mpr ⟨d.dep x,ih⟩
theorem yS(d:Dt r):∀xs ys:List α,L7 (xs.map d.dat) (ys.map d.dat)=decide (xs=ys):=by
 intro xs;induction xs with
 |nil=>intro ys;cases ys<;>simp[L7]
 |cons x xs ih =>intro ys;cases ys with|nil=>simp[L7]|cons y ys=>?_;rw[W7,W7,L7,ih ys,d.eqv];by_cases h:x=y<;>by_cases h':xs=ys<;>simp[h,h']
noncomputable def dL(d:Dt r):Dt (rL r):=⟨λxs=>.list<|xs.map d.dat,d.n+1,λ{K H v a} h=>by refine ay h λp vs ZV h1 h2=>?_;subst ZV;unfold iF;exact(d4 p vs rfl (.inl h1)<|AL d h2),
 λa=>by rw[PyData.canLay0];exact layAll d a,λa=>by rw[PyData.depth];have:=depAll d a;exact dI this<|W5 _,λa b=>by rw[PyData.eqv];exact yS d a b⟩
noncomputable def dT2(d:Dt r)(e:Dt s):Dt (cF r s):=⟨λx=>.tuple [d.dat x.1,e.dat x.2],max d.n e.n+1,λ{K H v a} h=>by refine dh h λp x y ZU h1 h2 h3=>?_;subst ZU;unfold iF;refine(d4 p _ rfl (j5.of h1) ?_);unfold fZ;refine(d4 _ _ rfl (d.ok h2) ?_);unfold fZ;refine(d4 _ _ rfl (e.ok h3) ?_);unfold fZ;rfl,
 λa=>by simp[PyData.canLay0,PyData.canLayAll0,d.lay,e.lay],λa=>by have:=d.dep a.1;have:=e.dep a.2;simp[PyData.depth,PyData.depthAll];lia,λa b=>by rw[PyData.eqv,L7,L7,L7,d.eqv,e.eqv,V7];obtain⟨a1,a2⟩:=a;obtain⟨b1,b2⟩:=b;simp⟩
noncomputable def dT3(d:Dt r)(e:Dt s)(f:Dt q):Dt (ml r s q):=⟨λx=>.tuple [d.dat x.1,e.dat x.2.1,f.dat x.2.2],max d.n (max e.n f.n)+1,λ{K H v a} h=>by refine iq h λp x y z ZT h1 h2 h3 h4=>?_;subst ZT;unfold iF;refine(d4 p _ rfl (j5.of h1) ?_);unfold fZ;refine(d4 _ _ rfl (d.ok h2) ?_);unfold fZ;refine(d4 _ _ rfl (e.ok h3) ?_);unfold fZ;refine(d4 _ _ rfl (f.ok h4) ?_);unfold fZ;rfl,
 λa=>by simp[PyData.canLay0,PyData.canLayAll0,d.lay,e.lay,f.lay],λa=>by have:=d.dep a.1;have:=e.dep a.2.1;have:=f.dep a.2.2;simp[PyData.depth,PyData.depthAll];omega,λa b=>by rw[PyData.eqv,L7,L7,L7,L7,d.eqv,e.eqv,f.eqv,V7];obtain⟨a1,a2,a3⟩:=a;obtain⟨b1,b2,b3⟩:=b;simp⟩
theorem AM[Kn:Kon]{Γ:List Slot}{K:Z4}{ta tb:TE}{oa ob:Option α}(d:Dt r)(ha:EV Γ ta oa r)(hb:EV Γ tb ob r)(hn:autoParam (d.n<=60) L2.ir._auto_1):EV Γ (gT (rEqD K) ta tb) (oa.bind λa=>ob.bind λb=>some<|decide<|a=b) bF :=
 iI (r:=r) (s:=r) (λF H x y a b c Q sb r1 r2 e k=>by
  cases e;refine⟨_,_,d.ok<|r.mono sb r1,d.ok<|r.mono sb r2,d.lay _,d.lay _,?_,?_⟩
  ·have:=d.dep a;lia
  ·rw[d.eqv];exact k _ rfl) ha hb
theorem ev_neD[Kn:Kon]{Γ:List Slot}{K:Z4}{ta tb:TE}{oa ob:Option α}(d:Dt r)(ha:EV Γ ta oa r)(hb:EV Γ tb ob r)(hn:autoParam (d.n<=60) L2.ir._auto_1):EV Γ (gT (rNeD K) ta tb) (oa.bind λa=>ob.bind λb=>some<|!decide (a=b)) bF :=
 iI (r:=r) (s:=r) (λF H x y a b c Q sb r1 r2 e k=>by
  cases e;refine⟨_,_,d.ok<|r.mono sb r1,d.ok<|r.mono sb r2,d.lay _,d.lay _,?_,?_⟩
  ·have:=d.dep a;omega
  ·rw[d.eqv];exact k _ rfl) ha hb
end
section
variable [Kn:Kon]
section
variable {Γ:List Slot}{α:Type}{r:Rp α}{ta tb tc:TE}{ox:ZC}{n m v:Int}
theorem eC(ha:EV Γ ta ox a9)(hb:EV Γ tb (some n) a9)(hn:0<n):EV Γ (gT (rI (λx j=>0<j) λi j=>.int<|i%j) ta tb) (ox.bind λa=>some<|a%n) a9 :=
 (nG ha hb).cast (by unfold Pu.fmod;simp[hn])
theorem tu(ha:EV Γ ta ox a9)(hb:EV Γ tb (some n) a9)(hn:0<n/\n<2^64):EV Γ (gT (rI (λx j=>0<j/\j<2^64) λi j=>.int<|i/j) ta tb) (ox.bind λa=>some<|a/n) a9 :=
 (gZ ha hb).cast (by unfold Pu.l9;simp only[cG,if_pos hn])
theorem ki(ha:EV Γ ta ox a9)(hb:EV Γ tb (some n) a9)(hn:-(2^64)<n/\n<2^64):EV Γ (gT (rI yo λi j=>.int<|i*j) ta tb) (ox.bind λa=>some<|a*n) a9 :=
 (gr ha hb).cast (by
  have e:∀a,Pu.mul a n=some (a*n):=λa=>if_pos<|.inr hn;simp only[cG,e])
theorem nL(ha:EV Γ ta (some n) a9)(hb:EV Γ tb ox a9)(hn:-(2^64)<n/\n<2^64):EV Γ (gT (rI yo λi j=>.int<|i*j) ta tb) (ox.bind λa=>some<|n*a) a9 :=
 (gr ha hb).cast (by
  have e:∀a,Pu.mul n a=some (n*a):=λa=>if_pos<|.inl hn;simp only[cG,e])
theorem rC(ha:EV Γ ta (some n) a9)(hb:EV Γ tb (some m) a9)(h:Pu.pow n m=some v):EV Γ (gT (rI CPow λi j=>.int<|i^j.toNat) ta tb) (some v) a9 :=
 (ev_pow ha hb).cast (by simp only[cG,h])
section
variable {t u:TT}{a b:Bool}
theorem AN(h:ET Γ t (some a))(h':ET Γ u (some b)):ET Γ (tOr t u) (some (a || b)):=by have:=AA h h';cases a<;>exact this
theorem xt(h:EV Γ ta (some a) bF)(h':EV Γ tb (some b) bF):EV Γ (zP ta tb) (some<|a&&b) bF:=by have:=ev_and h h';cases a<;>exact this
theorem xu(ht:ET Γ t (some a))(ha:EV Γ ta (some x) r)(hb:EV Γ tb (some y) r):EV Γ (tIf t ta tb) (some (if a=true then x else y)) r:=by have:=vq ht ha hb;cases a<;>exact this
theorem yT{g g':Int->Int->Bool}(ha:EV Γ ta (some x) a9)(hb:EV Γ tb (some y) a9)(hc:EV Γ tc (some z) a9):EV Γ (uX (uO λi j=>.bl<|g i j) (uO λi j=>.bl<|g' i j) ta tb tc) (some<|g x y&&g' y z) bF :=
 (Ay ha hb hc).cast (by simp only[cG];cases g x y<;>rfl)
end
end
def vD(K:Z4):Sp:=λvs H Q x=>∃(a:Addr) (ns:ZL),vs=[.ref a]/\Ints K H a ns/\ns.length<=63/\TbG H/\∀H',Q (.bl true) H'
theorem paired_ints:∀ns:List Int,Paired (a9.rel H) (ns.map V.int) ns:=by
 intro ns;induction ns with
 |nil=>exact .nil
 |cons _ _ ih=>exact .cons rfl ih
noncomputable def ntF(H:Hp):Hp:=λb=>match H b with
 |some (.tbl _)=>none
 |x=>x
set_option tactic.hygienic true in
theorem tw(h:ntF H b=some o):H b=some o/\dJ o:=by
 unfold ntF at h;split at h
 ·cases h
 ·rename_i x hx;refine⟨h,?_⟩;cases o with
  |tbl ps=>exact absurd h<|hx ps
  |_=>trivial
set_option tactic.hygienic true in
theorem AO(h:H b=some o)(n:dJ o):ntF H b=some o:=by
 unfold ntF;split
 ·rename_i ps e;rw[h]at e;cases e;exact n.elim
 ·exact h
theorem ntF_seq{K:Z4}(h:fm K H a xs):fm K (ntF H) a xs:=by
 rcases h with (h|⟨o,h⟩)|h
 ·exact .inl<|.inl<|AO h trivial
 ·exact .inl<|.inr ⟨o,AO h trivial⟩
 ·exact .inr h
theorem Fun.law{K:Z4}{mg:ZH}{st:Stmt}{fl:List Int->Option Bool}(F:Fun K "law" "law" st f fd)(S:FnScope N [p] (ah st))(hn:N.length-1=n)(hl:∀ns,ns.length<=63->fl ns=some true)(h:iK P w K mg base "law" st N k λt=>∀a,BV ((cm<|nF K).slots a++T8 n .any) t (fl a) (rq bF)):FnOk P w K mg base sZ (k+1) f fd [p] (vD K):=by
 refine F.ok S (λvs H Q E h=>?_) λZP A outer s H vs Q E hr hsp=>?_
 ·refine bv h λa ns ZV x=>?_;subst ZV;rfl
 ·refine aa (h f ZP A outer s H E hr) λt h1 h2=>?_;refine fk hsp λa ns ZV hS hlen tg q=>?_;subst ZV;refine(aF t h1<|h2 ns _ (ntF H) _ H _ true (SR.begin_ (ra:=cm<|nF K) (λb o h=>(tw h).1) (λb ps h=>(tw h).2) tg ⟨.ref a,rfl,a,_,rfl,ntF_seq hS,paired_ints ns⟩ hn) (hl ns hlen) ?_);intro v F' H' _ rv;cases rv;exact q H'
@[reducible] noncomputable def kon0:Kon:=⟨[],λx=>""⟩
theorem tbg0(h:Only H):@TbG kon0 H:=@TbG.mk kon0 H (λP hP=>nomatch hP) λP ps e=>by
 rcases h P with z|zr1_
 ·rw[z]at e;cases e
 ·refine ii zr1_ λo xs z=>?_;rw[z]at e;cases e
end
end L2
namespace Pu
noncomputable def pG(ns:ZL):List Int:=ns.mergeSort λa b=>decide<|a<=b
theorem fG(ns:ZL):(pG ns).Perm ns:=F6 _ _
theorem lM(ns:ZL):(pG ns).Pairwise (·<=·):=by have h:=G6 (le:=λa b:Int=>decide<|a<=b) (λa b c h1 h2=>by simp at *;exact Int.le_trans h1 h2) (λa b=>by simp;lia) ns;exact h.imp λh=>by simpa using h
noncomputable def sortI(ns:ZL):Option (List Int):=if ns.length<64 then some (pG ns) else none
noncomputable def cx(a b:ZA):Bool:=decide<|a.1<b.1\/a.1=b.1/\a.2<b.2
noncomputable def mK(a b:ZA):Bool:=decide<|a.1<b.1\/a.1=b.1/\a.2<=b.2
noncomputable def mq(ps:Zw):List (Int×Int):=ps.mergeSort mK
theorem df(ps:Zw):(mq ps).Perm ps:=F6 _ _
theorem lh(a b c:ZA)(h1:mK a b=true)(h2:mK b c=true):mK a c=true:=by unfold mK at *;simp only[decide_eq_true_eq]at *;lia
theorem li(a b:ZA):(mK a b || mK b a)=true:=by unfold mK;simp only[Bool.or_eq_true,decide_eq_true_eq];lia
theorem lN(ps:Zw):(mq ps).Pairwise λa b=>mK a b=true:=G6 lh li ps
theorem tD(h1:mK a b=true)(h2:mK b a=true):a=b:=by
 unfold mK at *;simp only[decide_eq_true_eq]at *;obtain⟨a1,a2⟩:=a;obtain⟨b1,b2⟩:=b;simp only at *;have e1:a1=b1:=by lia
 have e2:a2=b2:=by lia
 rw[e1,e2]
theorem gd{α:Type}{le:α->α->Prop}(anti:∀a b,le a b->le b a->a=b){l m:List α}(hp:l.Perm m)(hl:l.Pairwise le)(hm:m.Pairwise le):l=m :=
 hp.eq_of_pairwise (λa b x x h1 h2=>anti a b h1 h2) hl hm
end Pu
namespace L2
section
open PySem PySem.Spec PyProof.Rows
variable [Kn:Kon]
theorem kj:∀{vs:ZK},aP (ns.map V.int) vs->K6 vs ns:=by
 induction ns with
 |nil=>intro vs h;cases h;exact .nil
 |cons n ns ih =>
  intro vs h;cases h with
  |cons r t=>refine ao r λk ZW=>?_;subst ZW;exact .cons n k<|ih t
section
variable {X:Cx}{K:Z4}
theorem op_neDK(h:X.K=K)(hu:X.A.units+64<cLine):jh X (R9 .NotEq) (rNeD K):=by subst h;intro ZY s σ H x y v u Q I rx ry h;refine ik h λdx dy h1 h2 c1 c2 dp q=>?_;refine ao (iF.reads I h1 rx) λas ra=>?_;refine ao (iF.reads I h2 ry) λbs rb=>?_;exact SeqAt.compareNe_reads ra rb c1 c2 (by lia) ⟨.bl _,H,I,rfl,q⟩
end
section
variable {vs:ZK}
open PySem.W
noncomputable def dM(vs:ZK)(p:Zk):Array Value:=Z9 (p.toList.map λi=>vs.getD i O1)
theorem nM(p:Zk):(dM vs p).size=p.size:=by unfold dM;simp
end
section
variable {X:Cx}
open PySem.W
theorem nN(a b:ZA):HT.lexLt [a.1,a.2] [b.1,b.2]=Pu.cx a b:=by
 unfold Pu.cx HT.lexLt HT.lexLt HT.lexLt;by_cases h:a.1=b.1
 ·rw[if_pos h];by_cases h':a.2=b.2
  ·rw[if_pos h',V7];simp;lia
  ·rw[if_neg h',V7];simp;lia
 ·rw[if_neg h,V7];simp;lia
def gf(h:Heap)(vs:ZK)(ps:Zw):Prop:=Paired (λv p=>∃a o xs n t u,v=U3 a/\h.get? a=some o/\o.cls=.type "tuple"/\o.data=.seq xs n/\xs=#[O9 p.1 t,O9 p.2 u]) vs ps
theorem gf.kept(p:gf h vs ps)(k:∀b o,h.get? b=some o->h'.get? b=some o):gf h' vs ps:=Paired.imp2 (λx x zq=>gu zq λa o xs zy0=>cH zy0 λn t u e1 e2 e3=> ⟨a,o,xs,n,t,u,e1,k _ _ e2,e3⟩) p
theorem gf.tups:∀{vs:ZK} {ps:Zw},gf h vs ps->∃fs,KatTups h vs fs/\fs.length=ps.length/\∀v∈fs,∃i t,v=O9 i t:=λp=>by
 induction p with
 |nil=>exact(cD ([]) trivial rfl λx h=>nomatch h)
 |cons z r ih =>
  refine oq65 z λa o xs n t u e1 e2 e3 e4 e5=>?_;refine aE ih λfs g1 g2 g3=>?_;subst e1 e5;refine(cD (_ ::fs) (KatTups.cons e2 e3 e4 rfl g1) (by simp[g2]) λv hv=>?_);rcases Y4.mp hv with rfl|hv
  ·exact⟨_,_,rfl⟩
  ·exact g3 v hv
theorem xw{x y:ZA}(h:x.1=y.1):Pu.cx x y=decide (x.2<y.2):=by unfold Pu.cx;rw[h];simp
theorem lt2_eq{x y:ZA}(h:x.1=y.1)(h2:x.2=y.2):Pu.cx x y=false:=by rw[xw h,h2];exact decide_eq_false<|Int.lt_irrefl _
theorem lt2_fst{x y:ZA}(h:x.1≠y.1):Pu.cx x y=decide (x.1<y.1):=by unfold Pu.cx;simp[h]
theorem qp(p:gf s.heap vs ps){C:Zd}(hi:i<vs.length)(hj:j<vs.length)(h:C (Pu.cx (ps.getD i (0,0))<|ps.getD j (0,0)) s):
  kas_ask prog w A (tuples' true) vs i j C s:=by
 have hl:vs.length=ps.length:=Paired.length p;have at':∀k,k<vs.length->∃a o xs n t u,vs.getD k O1=U3 a/\s.heap.get? a=some o/\o.data=.seq xs n/\xs=#[O9 (ps.getD k (0,0)).1 t,O9 (ps.getD k (0,0)).2 u]:=λk hk=>by
  have zq:=g8 p<|Y5 hk;refine aa zq λy e zz=>oq65 zz λa o xs n t u e1 e2 e3 e4 e5=>?_;have h1:vs.getD k O1=vs[k]:=by simp[hk]
  have h2:ps.getD k (0,0)=y:=by simp[e]
  rw[h1,h2];exact⟨a,o,xs,n,t,u,e1,e2,e4,e5⟩
 refine gu (at' i hi) λa o xs zy0=>dh zy0 λn t u e1 e2 e3 e4=> ?_;refine gu (at' j hj) λa' o' xs' zy0=>dh zy0 λn' t' u' f1 f2 f3 f4=> ?_;unfold kas_ask;rw[e1,f1];generalize ps.getD i (0,0)=x at *;generalize ps.getD j (0,0)=y at *;subst e4 f4;refine kat_lt e2 e3 f2 f3 ?_;refine kat_cons<|wpAny_eqBool_int ?_;have second:x.1=y.1->KatLex prog w A true (decide<|(#[O9 x.1 t,O9 x.2 u]:Array Value).size<(#[O9 y.1 t',O9 y.2 u']:Array Value).size) C [(O9 x.2 u,O9 y.2 u')] 1 s:=λh1=>by
  refine kat_cons<|wpAny_eqBool_int ?_;by_cases h2:x.2=y.2
  ·rw[show (x.2==y.2)=true by simpa using h2];refine kat_yes<|kat_nil ?_;have e:Pu.cx x y=false:=lt2_eq h1 h2;rw[e]at h;exact h
  ·rw[show (x.2==y.2)=false by simpa using h2];refine kat_no<|kat_one _ _ ?_;refine lt_int ?_;have e:Pu.cx x y=decide (x.2<y.2):=xw h1;rw[e]at h;exact h
 by_cases h1:x.1=y.1
 ·rw[show (x.1==y.1)=true by simpa using h1];exact kat_yes<|second h1
 ·rw[show (x.1==y.1)=false by simpa using h1];refine kat_no ?_;refine oneLt_int ?_;have e:Pu.cx x y=decide (x.1<y.1):=lt2_fst h1;rw[e]at h;exact h
theorem qr{ps:Zw}(hn:ps.Nodup):Srt.Lin (λi j=>Pu.cx (ps.getD i (0,0))<|ps.getD j (0,0)) ps.length:=by
 refine⟨λi a=>?_,λi j k a a a h1 h2=>?_,λi j hi hj hne h=>?_⟩
 ·unfold Pu.cx;rw[decide_eq_false_iff_not];lia
 ·unfold Pu.cx at *;rw[decide_eq_true_eq]at *;lia
 ·have ne:ps.getD i (0,0)≠ps.getD j (0,0):=by
   intro e;have e1:ps.getD i (0,0)=ps[i]:=by simp[hi]
   have e2:ps.getD j (0,0)=ps[j]:=by simp[hj]
   rw[e1,e2]at e;exact hne<|(List.getElem_inj hn).mp e
  generalize ps.getD i (0,0)=x at *;generalize ps.getD j (0,0)=y at *;unfold Pu.cx at *;rw[decide_eq_false_iff_not]at h;rw[decide_eq_true_eq];obtain⟨x1,x2⟩:=x;obtain⟨y1,y2⟩:=y;have:¬ (x1=y1/\x2=y2):=λz=>ne (by rw[z.1,z.2]);simp only at *;lia
theorem aP.pairs{σ:St}(I:Inv X ZY σ H s):∀{vs:List V} {its:ZK} {ps:Zw},aP vs its->Paired ((cF a9 a9).rel H) vs ps->gf s.heap its ps:=λ{vs its ps} p0 p1=>by
 induction p0 generalizing ps with
 |nil=>cases p1;exact .nil
 |cons r t ih =>
  cases p1 with
  |cons z q =>
   refine .cons ?_<|ih q;refine dh z λp a b e1 e2 e3 e4=>?_;subst e1;cases r;cases e3;cases e4;refine ax ((show bE X.prog X.w H s.heap p (.tup [.int _,.int _]) from I.hok p _ e2)) λx zz=>aa zz λits' rv zz=>aE zz λo h1 h2 zz=>ao zz λn h3=>?_;cases rv with
   |cons r1 rv =>
    cases rv with
    |cons r2 rv =>cases rv;refine ao r1 λt1 ZW=>?_;subst ZW;refine ao r2 λt2 ZW=>?_;subst ZW;exact⟨p,o,_,n,t1,t2,rfl,h1,h2,h3,rfl⟩
theorem AQ(hn:ps.Nodup)(a:Srt.Arr ps.length p)(u:Srt.Up (λi j=>Pu.cx (ps.getD i (0,0))<|ps.getD j (0,0)) p ps.length):p.toList.map (λi=>ps.getD i (0,0))=Pu.mq ps:=by
 have e0:ps=(X9 ps.length).map λi=>ps.getD i (0,0):=by
  apply List.ext_getElem
  ·simp
  ·intro i h1 h2;simp[h1]
 refine Pu.gd (le:=λa b=>Pu.mK a b=true) (λa b=>Pu.tD) ?_ ?_<|Pu.lN ps
 ·refine List.Perm.trans ?_ (Pu.df ps).symm;have:=a.pm.map λi=>ps.getD i (0,0);rw[<- e0]at this;exact this
 ·rw[N9];intro i j hi hj hij;have hsz:p.toList.length=ps.length:=by rw[W8];exact a.sz
  rw[Y0]at hi hj;have h:=u i j hij (by exact bZ hj<|bG hsz);have g:∀k (hk:k<p.toList.length),Srt.at' p k=p.toList[k]:=λk hk=>by unfold Srt.at';simp at hk;simp[hk]
  rw[g i hi,g j hj]at h;rw[List.getElem_map,List.getElem_map];unfold Pu.cx at h;unfold Pu.mK;rw[decide_eq_true_eq]at *;omega
end
section
variable {X:Cx}
open PySem.W
theorem km{α β:Type}{F:α->β->Prop}{l:List α}{m:List β}{x:α}{y:β}(p:Paired F l m)(hi:i<l.length):F (l.getD i x) (m.getD i y):=by
 obtain⟨b,e1,e2⟩:=g8 p<|Y5 hi;have h1:l.getD i x=l[i]:=by simp[hi]
 have h2:m.getD i y=b:=by simp[e1]
 rw[h1,h2];exact e2
theorem cu{α β γ:Type}{F:β->γ->Prop}{f:α->β}{g:α->γ}:∀{l:List α},(∀a∈l,F (f a) (g a))->Paired F (l.map f) (l.map g)
 |[],_=>.nil
 |a ::l,h=>.cons (h a<|Y4.mpr<|.inl rfl) (cu λb hb=>h b<|Y4.mpr<|.inr hb)
def AR:List V->Hp->VK->Prop:=λxs H Q=>∃p ws ks,xs=[.ref p]/\H p=some (.dK ws)/\ws.map (·.1)=ks.map P8/\ks.length<64/\∀q,H q=none->Q (.ref q) (aH H q<|.lst<|(Pu.pG ks).map V.int)
theorem vE(hc:X.calm=true):eN X (.builtin "sorted") AR:=by
 intro ZY s σ H xs us Q I r hh;refine gM hh λp ws ks ZU hD hK ZQ q=>?_;subst ZU;refine aa (vals1 r) λu ZW ru=>?_;subst ZW;cases ru;refine aV (wO I.hok hD) λhz lo zz=>aa zz λkvs hkv hdo=>?_;refine ao hdo.dictAt λep hat=>?_;have hl:=hkv.length;have hl2:ws.length=ks.length:=by have:=congrArg List.length hK;simpa using this
 refine D9 kind_sorted plain_sorted entry_sorted (args_sorted1 _) ?_;unfold R5.«sorted»;refine Z0 (m:=checkCount "sorted" 1 1 _)<|Z5 ?_;refine Z0 (kdu_collect (A:=X.A.in1) (kdl_dict (knd:=b9 X.prog X.w) (kvs:=kvs) (ep:=ep) lo) (I.ok.hd hc) hat (by exact b8 (bG hl.symm) hz) λh' tk acc hk hacc=>?_);have I1:=I.kept (t':=tk) hk;have hlen:acc.toList.length=ks.length:=by rw[W8,hacc.1];exact T5 (b8 (bG hl.symm)<|bG hl2)<|b8 (bG hl2.symm)<|bG hl
 have hI:K6 acc.toList ks:=by
  have key:∀(l:ZK) (m:ZL),l.length=m.length->(∀(i:Nat) v,l[i]?=some v->∃n t,m[i]?=some n/\v=O9 n t)->K6 l m:=by
   intro l;induction l with
   |nil=>intro m e _;cases m with
    |nil=>exact .nil
    |cons _ _=>simp at e
   |cons v l ih=>intro m e h;cases m with
    |nil=>simp at e
    |cons n m =>refine bv (h 0 v rfl) λn' t e1 ZU=>?_;subst ZU;cases e1;exact .cons n t (ih m (by simpa using e) λi v hv=>h (i+1) v (by simpa using hv))
  refine key _ _ hlen λi v hv=>?_;obtain⟨k,x,h1,h2⟩:=hacc.2 i v (by rw[<- K8];exact hv);obtain⟨y,e1,e2,e3⟩:=gX hkv h1;have e4:(ws.map (·.1))[i]?=some y.1:=by rw[X2,e1];rfl
  rw[hK,X2]at e4;cases q:ks[i]? with
  |none=>rw[q]at e4;cases e4
  |some n =>rw[q]at e4;have e5:y.1=P8 n:=(Z8 e4).symm;have e6:k=P8 n:=e2.symm.trans e5;subst e6;refine ao (Value.isInt_shape (k:=n) (v:=v) h2) λt e7=>?_;exact⟨n,t,rfl,e7⟩
 refine Z0<|E5 ?_ (by rw[hlen,V4];exact cT<|eJ ZQ (by decide));have hoL:(h'.push<|seqObj "list" acc.toList.toArray 0).get? h'.objs.size=some (seqObj "list" acc.toList.toArray 0):=Y7 _ rfl;refine Z0 (T6 (R7 slot_list_sort ⟨_,hoL,rfl⟩ entry_list_sort
  (list_sort_tree (s:={s with heap:=h'.push<|seqObj "list" acc.toList.toArray 0,toks:=tk}) hoL hI (by exact dI (bG hlen) ZQ) λout ns' a1 a2 a3=>(aF _ rfl ?_)) (args_list_sort _)))
 have e:ns'=Pu.pG ks:=PySem.W.ksm_same (a2.trans (Pu.fG ks).symm) a3<|Pu.lM ks;subst e;refine ao (sortedHeap_at (out:=out) hoL) λe1 hat1=>?_;refine Z5 ⟨_,rfl,.ref _,_,I1.laid (t':=tk) (o:=.lst<|(Pu.pG ks).map V.int) (λb ob q=>?_) (bD _) ⟨?_,out.toList,e1,j7 a1,hat1⟩,rfl,q _<|I1.hok.fresh<|bD _⟩
 ·have hlt:b<h'.objs.size:=X0 q;rw[sortedHeap_old (dH hlt) (by rw[size_push'];exact T7 hlt)];exact Z3 _ q
 ·rw[Y0,(Pu.fG ks).length_eq,V4];exact cT<|eJ ZQ (by decide)
end
section
theorem dz:∀{vs:List V} {ns:ZL},Paired (a9.rel F) vs ns->vs=ns.map V.int:=λp=>by
 induction p with
 |nil=>rfl
 |cons h _ ih=>rw[W7,<- ih];cases h;rfl
end
end
end L2
namespace Pu
section
variable {α:Type}
noncomputable def index(xs:ZL)(k:Int):Option Int:=if k∈xs/\xs.length<=16777216 then some (xs.idxOf k:Int) else none
noncomputable def lj(σ:ZL)(k:Int):List Int:=if σ.any (·==k) then σ else σ++[k]
noncomputable def ded(ns:ZL):List Int:=ns.foldl lj []
noncomputable def pop0{α T:Type}(xs:List α)(f:α->List α->Option T):Option T:=match xs with
 |[]=>none
 |a ::ys=>f a ys
noncomputable def mset(ns:ZL):Option (List Int):=if ns.length+1<4096 then some (ded ns) else none
end
end Pu
namespace L2
section
open PySem PySem.Spec PyProof.Rows
variable [Kn:Kon]
section
variable {X:Cx}{K:Z4}
def AS(K:Z4):V->List V->Hp->VK->Prop:=λx vs H Q=>∃(l:Addr) (ns:ZL) (k:Int),x=.ref l/\vs=[.int k]/\fm K H l (ns.map V.int)/\k∈ns/\Q (.int (ns.idxOf k:Nat)) H
theorem AT(h:X.K=K):MtM X "list.index" (AS K):=by
 subst h;intro ZY s σ H x vs v us Q I rx rv hh;refine gM hh λl ns k ZU ZT hS hk q=>?_;subst ZU;subst ZT;cases rx;refine aa rv.one λu ZW zz=>ao zz λt ZU=>?_;subst ZW;subst ZU;refine aE (I.list hS) λits r ht hz=>?_;have hi:=kj r;rw[Y0]at hz;have hlen:=hi.length;have hj:ns.idxOf k<ns.length:=List.idxOf_lt_length_iff.mpr hk;refine aE ht.isList λnn1 ho hc zz=>ao zz λn hd=>?_;obtain⟨cls,dd,data,sl⟩:=nn1;simp only at hc hd;subst hc hd;rw[V4]at hz;refine call_meets PySem.F.slot_list_index ⟨_,ho,rfl⟩ PySem.F.entry_list_index (PySem.F.args_list_index_2 _ _)
  (SeqAt.list_indexAt l its.toArray n dd sl (.int k t) (isInt k) (ns.idxOf k) (by simpa [hlen] using hj) (by lia) ?_ ?_) (pc ho (λy hy=>(eq_isInt k t hi y (by simpa using hy)).at _ _) ⟨.int _,H,I.tok _,⟨_,rfl⟩,q⟩)
 ·show isInt k its[ns.idxOf k]=true;rw[isInt_at k hi _ (by exact bZ hj<|bG hlen.symm) hj];simpa using List.getElem_idxOf hj
 ·intro j hjs hlt;show isInt k its[j]=false;rw[isInt_at k hi j (by simpa using hjs) (by exact eJ hlt hj)];exact ne_of_lt_idxOf hlt _
end
section
variable {Γ:List Slot}{α S:Type}{r:Rp α}{ta tb:TE}{K:Z4}{o:Option (List Int)}{oi:ZC}
set_option tactic.hygienic true in
theorem AU(h:EV Γ ta o (rL a9))(h':EV Γ tb oi a9):EV Γ (tBM K "list" (AS K) ta (be tb d9)) (o.bind λxs=>oi.bind λk=>Pu.index xs k) a9:=by
 intro C F σ H Q c S e k;refine aa (ae e) λxs e1 e=>?_;refine aa (ae e) λi e2 e=>?_;unfold Pu.index at e;split at e
 ·rename_i hh;cases e;refine h C F σ H _ xs S e1 λv F' H' x1 zq=>ay zq λp vs e3 h1 h2=>?_;subst e3;refine⟨.inl ⟨rfl,vs,.inl<|x1.sub.rd h1⟩,h' C F' σ H' _ i (S.grow x1) e2 λw F2 H2 x2 r2=>⟨p,xs,i,rfl,by rw[r2],?_,hh.1,k _ F2 H2 (x1.trans x2) rfl⟩⟩;rw[<- dz h2];exact .inl<|x2.sub.rd<|x2.ff.rd h1
 ·cases e
theorem ev_ltT2{o o':YY}(h:EV Γ ta o (cF a9 a9))(h':EV Γ tb o' (cF a9 a9)):EV Γ (gT (rLtT K) ta tb) (o.bind λa=>o'.bind λb=>some<|Pu.cx a b) bF :=
 iI (r:=cF a9 a9) (s:=cF a9 a9) (λF H x y a b c Q sb zq zp e k=>dh zq λp u v e1 h1 h2 h3=>dh zp λp' u' v' e2 h4 h5 h6=>by cases e;cases h2;cases h3;cases h5;cases h6;exact⟨p,p',[a.1,a.2],[b.1,b.2],e1,e2,j5.of<|sb _ _ h1,j5.of<|sb _ _ h4,by rw[nN];exact k _ rfl⟩) h h'
theorem keys_of:∀{ws:List (Key×V)} {d:List (Int×α)},Paired (im r F) ws d->ws.map (·.1)=(d.map (·.1)).map P8:=λp=>by
 induction p with
 |nil=>rfl
 |cons h _ ih=>rw[W7,W7,W7,ih,h.1]
set_option tactic.hygienic true in
theorem yU{o:Option (List<|Int×α)}(h:EV Γ ta o (rD r)):ia Γ (uP AR<|be ta d9) (o.bind λd=>Pu.sortI<|d.map (·.1)) a9:=by
 intro C F σ H Q xs S e k;refine aa (ae e) λd e1 e=>?_;unfold Pu.sortI at e;split at e
 ·rename_i ZQ;cases e;refine h C F σ H _ d S e1 λv F' H' x1 zq=>ay zq λp ws e2 h1 h2=>⟨p,ws,d.map (·.1),by rw[e2],x1.sub _ _ h1,?_,ZQ,λq hq=>k q _ F' H' x1 hq<|paired_ints _⟩;exact keys_of h2
 ·cases e
end
section
variable {Γ:List Slot}{α T:Type}{r:Rp α}{K:Z4}{u:TS}{fin:Fc->T->Ends->Prop}{φ:Zz}{xs:List α}
theorem bv_popF{f:α->List α->Option T}(i j:Nat)(hi:Γ[i]?=some (.ol r φ xs))(hij:i≠j)(h:∀a ys,BV ((Γ.set i<|.ol r φ ys).set j (.fr r a)) u (f a ys) fin):BV Γ (cI (m8 (tBM K "list" va (dO i) (be (tC<|.int 0) d9))<|dj j) u) (Pu.pop0 xs f) fin:=bv_pop0 i j hi hij h
end
end
section
open PySem PySem.Spec PyProof.Rows
variable [Kn:Kon]
section
variable {prog:U4}{w:World}{A:Around}{s:Shared}{vs ks:ZK}{a kS:Addr}
open PySem.W
def iL(prog:U4)(w:World)(A:Around)(f:Value)(kS:Addr)(Fi:YZ):List Value->List Value->Shared->Prop
 |[],ks,s=>Fi ks s
 |x ::r,ks,s=>wpAny (model prog w) A (call f [x]) (λk s1=>(∃e,s1.heap.get? kS=some (seqObj "list" (Z9 ks) e)) /\
   iL prog w A f kS Fi r (ks++[k]) {s1 with heap:=s1.heap.update kS (X6 (·.push k))}) (λa a=>False) s
noncomputable def h9(prog:U4)(w:World)(A:Around)(a:Addr)(e1:Nat)(kS:Addr)(vs:ZK)(P:PySem.Fin->Shared->Prop)(ks:ZK)(s:Shared):Prop :=
 s.heap.get? a=some (seqObj "list" #[] e1)/\∃(κ:SortKind) (c:Zn),Srt.Lin c vs.length/\(2<=vs.length->∀Q':SortKind->Shared->Prop,Q' κ s->wpAny (model prog w) A (keyKind'<|Z9 ks) Q' (λx x=>False) s) /\
  (∀i j C,i<vs.length->j<vs.length->C (c i j) s->kas_ask prog w A κ ks i j C s) /\
  ∀p,Srt.Arr vs.length p->Srt.Up c p vs.length->P (.done<|.ret .none) {s with heap:=(s.heap.update kS (X6 λx=>#[])).update a (X6 λx=>dM vs p)}
end
end
section
open PySem PySem.Spec PyProof.Rows
variable [Kn:Kon]
noncomputable def kn(X:Cx)(A:Around)(N':ZF)(qual:Str)(scope:Scope)(f:Addr)(cd:Value)(cl:Zq)(s:Shared)(H:Hp):Cx where
 prog:=X.prog
 w:=X.w
 K:=X.K
 mg:=X.mg
 base:=X.base
 A:=A.deeper (PySem.W.envX qual scope s.heap.objs.size f cd cl)
 N:=N'
 s₀:=s
 H₀:=H
 env:=PySem.W.envX qual scope s.heap.objs.size f cd cl
 outer:=X.stack
 stack:=PySem.W.envX qual scope s.heap.objs.size f cd cl ::X.stack
 ex:=[]
 fn:=λx=>false
 calm:=true
 pn:=[]
 xe:=λx x=>False
structure LamScope(X:Cx)(x:Str)(cap:ZD)(scope:Scope):Prop where
 kind:scope.kind=.function
 co:scope.isCoroutine=false
 gen:scope.isGenerator=false
 nocell:∀y∈scope.names,y.2≠.cell
 par:scope.names.lookup x=some .local
 free0:freeOk scope.names X.env.scope.names=true
 cap:t5 X scope cap
noncomputable def fN(v:V)(cap:ZD)(σ:St):St:=some v ::cap.map λp=>(σ[p.2]?).join
structure LamCl(X:Cx)(scope:Scope)(cl:Zq):Prop where
 of:∀x c,cl.lookup x=some c->X.env.cells.lookup x=some c
 has:∀y∈scope.names,y.2=.free->∃c,cl.lookup y.1=some c
section
variable {X:Cx}{A:Around}{ZY:ZJ}{σ:St}{H:Hp}{s:Shared}{x:Str}{cap:ZD}{scope:Scope}{cl:Zq}{qual:Str}{f:Addr}{cd:Value}
theorem inv_lam(S:LamScope X x cap scope)(C:LamCl X scope cl)(I:Inv X ZY σ H s)(hA:A.frames=some X.stack)(hh:A.handled=none)(r:RelV v u)(hns:h1.Ns s.heap.objs.size λy=>[(x,u)].reverse.lookup y)(hk:∀b o,s.heap.get? b=some o->h1.get? b=some o):
  Inv (kn X A (x ::cap.map (·.1)) qual scope f cd cl s H) [] (fN v cap σ) H {s with heap:=h1,toks:=t'}:=by
 have noA:∀b:Addr,b∉(kn X A (x ::cap.map (·.1)) qual scope f cd cl s H).ex:=λb z=>absurd (show b∈([]:List Addr) from z) (by simp);refine⟨⟨I.ok.mod,S.kind,rfl,rfl,bD _,λy z c h1 h2=>I.ok.inj y z c (C.of y c h1)<|C.of z c h2,λy hy=>?_,λy c h a=>absurd (show (false=true) from h) (by decide),λa=>hh,Around.frames_deeper hA,.inr ⟨rfl,rfl⟩,λb z=>absurd z<|noA b,I.bs,
   b8 I.ok.bsz I.sz,λb a a=>noA b,λb z=>absurd z<|noA b,I.stack,I.stkFree⟩,
  rfl,I.bare,Un.kept hk,(aF _ hns λi y z e1 e2 e3=>?_),λy c e=>?_,I.hok.fresh<|bD _,λy c e=>I.freeC y c<|C.of y c e,λp hp=>absurd (show p∈([]:List (Addr×Obj)) from hp) (by simp),I.hok.kept hk,by simp[kn,fN]⟩
 ·have hy:scope.names.lookup y=some .cell\/scope.names.lookup y=some .free:=hy;rcases hy with hy|hy
  ·exact absurd rfl<|S.nocell _<|Q8 hy
  ·exact C.has _ (Q8 hy) rfl
 ·cases i with
  |zero =>have e1:some x=some y:=e1;have e2:some (some v)=some (some z):=e2;cases e1;cases e2;exact(aF u r<|.inl ⟨S.par,by simp⟩)
  |succ i =>
   have e1:(cap.map (·.1))[i]?=some y:=e1;have e2:(cap.map λp=>(σ[p.2]?).join)[i]?=some (some z):=e2;rw[X2]at e1 e2;cases q:cap[i]? with
   |none=>rw[q]at e1;cases e1
   |some p =>
    rw[q]at e1 e2;have e1:p.1=y:=Z8 e1;have e2:(σ[p.2]?).join=some z:=Z8 e2;subst e1;have e4:σ[p.2]?=some (some z):=by
     cases q2:σ[p.2]? with
     |none=>rw[q2]at e2;cases e2
     |some o=>rw[q2]at e2;exact congrArg some e2
    refine aV (S.cap.get p<|U0 q) λc1 c2 c3=>?_;refine aa I.loc λm a hl=>?_;have vis:Vis X.env.scope p.1:=by
     rcases c3 with k|k
     ·exact .inr<|.inl k
     ·exact .inr<|.inr k
    refine aa (hl p.2 p.1 z c1 e4 vis) λu' r' l=>?_;refine(aF u' r'<|.inr ⟨.inr c2,?_⟩);rcases l with zr2_|zr1_
    ·refine ax zr2_ λk a=>?_;rcases c3 with z|z
     ·rw[k]at z;cases z
     ·rw[k]at z;cases z
    ·refine ax zr1_ λa zz=>aa zz λc e hc=>?_;refine ao (C.has (p.1,.free) (Q8 c2) rfl) λc' hc'=>?_;have:c'=c:=Z8<|(C.of _ _ hc').symm.trans e;subst this;refine aa hc λo ho hd=>?_;exact⟨c',hc',o,hk _ o ho,hd⟩
 ·refine bv (I.cell y c<|C.of y c e) λv o ho hd=>?_;exact⟨v,o,hk _ o ho,hd⟩
open PySem.W in
theorem rE(S:LamScope X x cap scope)(C:LamCl X scope cl)(I:Inv X ZY σ H s)(ho:s.heap.get? f=some (kla_obj "<lambda>" qual params body scope cl pm c' ctv))(hA:A.frames=some X.stack)(hh:A.handled=none)(hd:A.depth<recursionLimit)(hc:H c'=some (.ext<|aW c' qual))(hb:∀cl pm cd ct u,bindArgs (kla_fn "<lambda>" qual params body scope cl pm cd ct) ⟨[u],[]⟩=pure [(x,u)])(hp:PE (kn X A (x ::cap.map (·.1)) qual scope f (.ref c') cl s H) body tb)(r:RelV v u)(h:tb (fN v cap σ) H Q):wpAny (model X.prog X.w) A (call (.ref f) [u]) (EP X ZY σ Q) (λa a=>False) s:=by
 have hcd:s.heap.CodeRec (.ref c') qual:=(show bE X.prog X.w H s.heap c' (.ext<|aW c' qual) from I.hok c' _ hc).1;refine wpAny_call (codeAny_mono (R:=λr s'=>match r with|.ok (.ret u')=>EP X ZY σ Q u' s'|_=>False) (kla_callFunE hd ho rfl S.co S.gen rfl hcd ?_) λr s' hr=>?_)
 ·rw[hb];refine Z5<|wpAny_newFunctionEnv S.nocell (λy hy=>?_) (λh₁ hns hsb=>⟨I.nolimit.fresh _ hsb,?_⟩) S.kind
  ·rw[Y3.mp hy];exact S.par
  have hk₁:∀b o,s.heap.get? b=some o->h₁.get? b=some o:=λb o e=>hsb.extBut b o (dH<|X0 e)<|Z3 _ e;refine kla_codeExpr (R0 (hp [] _ _ H Q (inv_lam (qual:=qual) (f:=f) (cd:=.ref c') S C I hA hh r hns hk₁) h) (λu' s' he=>?_) λa a z=>z.elim);refine ay he λv' H' J rv q=>?_;exact I.after ⟨v',H',J.os,J.bare,J.base,J.hok,rv,q⟩
 ·cases r with
  |error e=>exact hr.elim
  |ok fl =>
   cases fl with
   |ret u=>exact hr
   |next=>exact hr.elim
   |brk=>exact hr.elim
   |cont=>exact hr.elim
end
def BM(mg:ZH)(base:Heap):Prop:=∃bm ob,mg "__builtins__"=some (.ref bm)/\bm≠builtinsNs/\base.get? bm=some ob/\ob.cls=.type "module"/\ob.dict=some builtinsNs/\ob.data=.plain
def rG(P:Addr)(H H':Hp):Prop:=H'=H\/∃(ps:Zp) (c:Addr) (pos:Pos),H P=some (.tbl ps)/\codeAmong pos ps.toList=none/\H c=none/\c≠P /\
 H'=aH (aH H P<|.tbl<|ps++#[rawInt pos.line,rawInt pos.col,.ref c]) c (.ext<|aW c<|Kon.Q P)
set_option tactic.hygienic true in
theorem pH{pos pos':Pos}(l:ZK)(h:TriplesOk l)(hc:codeAmong pos' (l++[rawInt pos.line,rawInt pos.col,c])=some cv):codeAmong pos' l=some cv\/cv=c:=by
 fun_induction TriplesOk l with
 |case1 =>
  simp only[List.nil_append,rawInt,codeAmong]at hc;split at hc
  ·cases hc;exact .inr rfl
  ·cases hc
 |case2 a t b u x rest ih =>
  simp only[List.cons_append,codeAmong]at hc ⊢;split at hc
  ·rename_i z;rw[if_pos z];exact .inl hc
  ·rename_i z;rw[if_neg z];exact ih h hc
 |case3 l h1 h2=>exact h.elim
theorem xy{H:Hp}(hP:H P=some (.tbl ps))(q:H b=some (.tbl qs))(z:b=P):ps=qs:=by subst z;have y:=hP.symm.trans q;cases y;rfl
theorem rG.sm(t:rG P H H'):Sm H H':=by
 rcases t with rfl|⟨ps,c,pos,hP,hnf,hc,hcP,rfl⟩
 ·exact Sm.refl _
 have old:∀b o,b≠P->H b=some o->aH (aH H P<|.tbl<|ps++#[rawInt pos.line,rawInt pos.col,.ref c]) c (.ext<|aW c<|Kon.Q P) b=some o:=λb o nb q=>by rw[aq (ai q hc),aq nb];exact q
 have atP:aH (aH H P<|.tbl<|ps++#[rawInt pos.line,rawInt pos.col,.ref c]) c (.ext<|aW c<|Kon.Q P) P=some (.tbl<|ps++#[rawInt pos.line,rawInt pos.col,.ref c]):=by rw[aq (R4 hcP),am]
 refine⟨λb o n q=>old b o (λe=>?_) q,λb qs q=>?_,λg=>⟨λP' hP'=>?_,λP' qs q=>?_⟩⟩
 ·subst e;rw[hP]at q;cases q;exact n
 ·by_cases e:b=P
  ·exact⟨_,by rw[e,<- xy hP q e];exact atP⟩
  ·exact⟨#[],by rw[old b _ e q];simp⟩
 ·refine ao (g.there P' hP') λqs e=>?_;by_cases e':P'=P
  ·exact⟨_,(congrArg _ e').trans atP⟩
  ·exact⟨qs,old _ _ e' e⟩
 ·by_cases e':P'=P
  ·subst e';rw[atP]at q;cases q;refine ax (g.good P' ps hP) λg1 g2=>?_;have el:(ps++#[rawInt pos.line,rawInt pos.col,U3 c]).toList=ps.toList++[rawInt pos.line,rawInt pos.col,U3 c]:=by simp
   rw[el];refine⟨TriplesOk_snoc _ _ _ _ g1,λpos' cv hcv=>?_⟩;rcases pH _ g1 hcv with z|z
   ·refine aa (g2 pos' cv z) λc2 e1 e2=>?_;exact(aF c2 e1<|old _ _ (λe=>by rw[e,hP]at e2;cases e2) e2)
   ·exact(aF c z am)
  ·have nc:P'≠c:=by rintro rfl;rw[am]at q;cases q
   rw[aq nc,aq e']at q;refine ax (g.good P' qs q) λg1 g2=>?_;exact⟨g1,λpos' cv hcv=>by refine aa (g2 pos' cv hcv) λc2 e1 e2=>?_;exact(aF c2 e1<|old _ _ (λe=>by rw[e,hP]at e2;cases e2) e2)⟩
section
variable {X:Cx}{ZY:ZJ}{σ:St}{H:Hp}{s:Shared}{x:Str}{cap:ZD}{scope:Scope}{c P:Addr}{params:Arguments}{body:Expr}{pos:Pos}
open PySem.W in
theorem tab_no{h:Heap}{g P:Addr}{ps:Zp}{o:Obj}{es:Array J0}{ep:Nat}(hP:h.get? P=some (tabObj ps))(e:h.get? g=some o)(hd:o.data=.dict es ep)(q:g=P):False:=by subst q;have z:=(congrArg Obj.data<|Z8<|hP.symm.trans e).trans hd;cases z
open PySem.W in
theorem tab_nc{h:Heap}{g P:Addr}{ps:Zp}{o:Obj}(hP:h.get? P=some (tabObj ps))(e:h.get? g=some o)(hd:o.cls=.type "module")(q:g=P):False:=by subst q;have z:=(congrArg Obj.cls<|Z8<|hP.symm.trans e).trans hd;cases z
theorem dat_no{h:Heap}(e:h.get? g=some o)(e':h.get? b=some ob)(hd:o.data=.dict es ep)(hb:ob.data=.plain)(q:b=g):False:=by subst q;have z:=(hb.symm.trans<|congrArg Obj.data<|Z8<|e'.symm.trans e).trans hd;cases z
theorem Inv.addPin(I:Inv X ZY σ H s)(h1:s.heap.get? f=some o)(h2:H f=none)(h3:f≠X.env.locals)(h4:f∉X.fs)(h5:∀v,o.data≠.cell v):Inv X ((f,o) ::ZY) σ H s :=
 I.pins_of λp hp=>by
  rcases Y4.mp hp with rfl|hp
  ·exact⟨h1,h2,h3,h4,h5⟩
  ·exact I.pin p (Y8 _ hp)
open PySem.W in
theorem AV{Q:ZN}(I:Inv X ZY σ H s)(S:LamScope X x cap scope)(tg:TbG H)(hT:P∈Kon.T)(hq:Kon.Q P=X.env.qual++"<lambda>")(hcode:X.env.code=.ref c)(hC:codeHdIn X.K c P=true)(bm:BM X.mg X.base)(hdef:defaultsOf params X.env=([],[]))(h:∀f cl pm c' ctv H' s',Inv X ((f,kla_obj "<lambda>" (Kon.Q P) params body scope cl pm c' ctv) ::ZY) σ H' s'->rG P H H'->H' c'=some (.ext<|aW c'<|Kon.Q P)->LamCl X scope cl->Q (.ref f) s'):
  wpAny (model X.prog X.w) X.A (eval (.Lambda params body scope pos) X.env) Q X.xe s:=by
 refine ao (tg.there P hT) λps hP=>?_;refine ax (tg.good P ps hP) λt1 t2=>?_;have hPo:s.heap.get? P=some (tabObj ps):=(show bE X.prog X.w H s.heap P (.tbl ps) from I.hok P _ hP);refine aE (jy (scope:=scope) (env:=X.env) λy hy hf=>I.ok.has y.1<|nz S.free0 y hy hf) λcl hcl hcl1 hcl2=>?_;have CL:LamCl X scope cl:=⟨hcl1,hcl2⟩;have hgs:=I.mod.glob.keeps I.bk;refine ik bm λb ob b1 b2 b3 b4 b5 b6=>?_;have b3':=I.bk _ _ b3;have hgP:S8≠P:=λq=>cH hgs λo es ep e hd i=>tab_no hPo e hd q;have hbP:b≠P:=λq=>tab_nc hPo b3' b4 q;have hbG:b≠S8:=λq=>cH hgs λo es ep e hd i=>dat_no e b3' hd b6 q;have bat:s.heap.BuiltinsAt X.mg P:=⟨b,ob,b1,b2,hbG,hbP,b3',b4,b5,b6⟩;have CD:=codeHd_of_K I.kIn hC;refine kla_eval hdef ?_;rw[<- hq];cases hf:codeAmong pos ps.toList with
 |some cv =>refine aa (t2 pos cv hf) λc' ZW e2=>?_;subst ZW;refine kla_makeFunctionHit (mg:=X.mg) hcl I.ok.glob hgs hcode CD hPo t1 hf bat λctv h' tk hk hsz=>?_;have I1:Inv X ZY σ H {s with heap:=h'.push<|kla_obj "<lambda>" (Kon.Q P) params body scope cl ((X.mg "__name__").getD .none) c' ctv,toks:=tk}:=I.kept λb u e=>Z3 _<|hk b u e;exact h h'.objs.size cl ((X.mg "__name__").getD .none) c' ctv H _ (I1.addPin (Y7 _ rfl) (I.hok.fresh hsz) (M6<|bZ I.lt hsz) (I.nofs hsz) λv z=>nomatch z) (.inl rfl) e2 CL
 |none =>
  refine kla_makeFunction (mg:=X.mg) hcl I.ok.glob hgs hcode CD hPo t1 hf hgP bat λc' ctv h' tk hx hge hlt hrec htb=>?_;have hcn:H c'=none:=I.hok.fresh hge;have hcP:c'≠P:=(ai hP hcn).symm;have hPL:P≠X.env.locals:=ai hP I.free;have hsz:s.heap.objs.size<=h'.objs.size:=cT<|dI hge hlt;have unt:∀b,H b=none->b≠P:=λb n=>(ai hP n).symm;have kp:∀b o,b≠P->s.heap.get? b=some o->(h'.push<|kla_obj "<lambda>" (Kon.Q P) params body scope cl ((X.mg "__name__").getD .none) c' ctv).get? b=some o:=λb o nb e=>Z3 _<|hx b o nb e;have hP2:(h'.push<|kla_obj "<lambda>" (Kon.Q P) params body scope cl ((X.mg "__name__").getD .none) c' ctv).get? P=some (tabObj<|ps++#[rawInt pos.line,rawInt pos.col,.ref c']):=Z3 _ htb;have lkO:∀b o,b≠P->H b=some o->aH (aH H P<|.tbl<|ps++#[rawInt pos.line,rawInt pos.col,.ref c']) c' (.ext<|aW c'<|Kon.Q P) b=some o:=λb o nb q=>by rw[aq (ai q hcn),aq nb];exact q
  have lkP:aH (aH H P<|.tbl<|ps++#[rawInt pos.line,rawInt pos.col,.ref c']) c' (.ext<|aW c'<|Kon.Q P) P=some (.tbl<|ps++#[rawInt pos.line,rawInt pos.col,.ref c']):=by rw[aq (R4 hcP),am]
  have I1:Inv X ZY σ (aH (aH H P<|.tbl<|ps++#[rawInt pos.line,rawInt pos.col,.ref c']) c'<|.ext<|aW c'<|Kon.Q P) {s with heap:=h'.push<|kla_obj "<lambda>" (Kon.Q P) params body scope cl ((X.mg "__name__").getD .none) c' ctv,toks:=tk}:=by
   refine I.step (g':=s.gens) (d':=s.drawn) (ch:=[]) (λi z=>nomatch z) (λb o i i i e n=>kp b o (unt b n) e) (λb o i i i e n=>⟨o.slots,kp b o (unt b n) e⟩) (λb o i e n=>?_) (λb o i e=>?_) (λb xs q=>?_) (λb o u q=>?_) (λb qs q=>?_) (λm hm=>?_) (λa o q=>?_) I.bare
   ·rw[aq (dH<|bZ (X0 e) hge),aq (unt b n)];exact n
   ·by_cases z:b=P
    ·exact⟨_,(congrArg _ z).trans hP2⟩
    ·exact⟨o,kp b o z e⟩
   ·exact lkO b _ (λz=>by rw[z,hP]at q;cases q) q
   ·exact lkO b _ (λz=>by rw[z,hP]at q;cases q) q
   ·by_cases z:b=P
    ·exact⟨_,by rw[z,<- xy hP q z];exact lkP⟩
    ·exact⟨#[],by rw[lkO b _ z q];simp⟩
   ·exact(hm.extBut hx<|R4 hPL).push _
   ·by_cases z:a=c'
    ·subst z;rw[am]at q;cases q;refine m7 hrec λc2 oc vs t e2 hoc hd hv=>?_;cases e2;refine⟨⟨a,oc,vs,t,rfl,Z3 _ hoc,hd,hv⟩,⟨oc,Z3 _ hoc⟩,λh1 h2 zq kk=>m7 zq λc3 oc3 vs3 t3 e3 z1 z2 z3=>?_⟩;cases e3;exact⟨a,oc3,vs3,t3,rfl,kk _ z1,z2,z3⟩
    ·by_cases z2:a=P
     ·subst z2;rw[lkP]at q;cases q;exact hP2
     ·rw[aq z,aq z2]at q;refine(I.hok a o q).stay (λb u hb e=>kp b u ?_ e) (λb q=>lkO b _ (λz=>by rw[z,hP]at q;cases q) q) λb xs q=>lkO b _ (λz=>by rw[z,hP]at q;cases q) q;rcases hb with rfl|hb
      ·exact z2
      ·intro e;rw[e,hP]at hb;cases hb
  exact h h'.objs.size cl ((X.mg "__name__").getD .none) c' ctv _ _ (I1.addPin (Y7 _ rfl) (by rw[aq (M6 hlt),aq (λz=>by rw[z]at hsz;exact absurd (bZ (I.hok.lt hP) hsz)<|L6 _)];exact I.hok.fresh hsz) (M6<|bZ I.lt hsz) (I.nofs hsz) λv z=>nomatch z)
   (.inr ⟨ps,c',pos,hP,hf,hcn,hcP,rfl⟩) am CL
end
end
end L2
namespace Pu
theorem getD_at{α:Type}{l:List α}{d:α}(h:i<l.length):l.getD i d=l[i]:=by simp[h]
noncomputable def keysOf(g:Zv):List Int->Option (List<|Int×Int)
 |[]=>some []
 |x ::xs=>(g x).bind λk=>(keysOf g xs).bind λks=>some (k ::ks)
noncomputable def yV(ns:ZL)(ps:Zw):List Int:=((ps.zip ns).mergeSort λa b=>mK a.1 b.1).map (·.2)
noncomputable def sortK(g:Zv)(ns:ZL):Option (List Int):=(keysOf g ns).bind λps=>if ns.length<64/\ps.Nodup then some (yV ns ps) else none
theorem vF{g:Zv}:∀{ns:ZL} {ps:Zw},keysOf g ns=some ps->ps.length=ns.length:=by
 intro ns;induction ns with
 |nil=>exact λh=>Z8 h▸rfl
 |cons n ns ih=>exact λh=>aa (L2.ae h) λk x h=>aa (L2.ae h) λks e h=>Z8 h▸congrArg Nat.succ (ih e)
theorem srtK_of(hl:ps.length=ns.length)(hn:ps.Nodup){ix:ZM}(hi:∀i∈ix,i<ns.length)(h:ix.map (λi=>ps.getD i (0,0))=mq ps):ix.map (λi=>ns.getD i 0)=yV ns ps:=by
 have hz:ix.map (λi=>(ps.zip ns).getD i ((0,0),0))=(ps.zip ns).mergeSort λa b=>mK a.1 b.1:=by
  have key:((ps.zip ns).mergeSort λa b=>mK a.1 b.1).map (·.1)=mq ps:=by
   refine gd (le:=λa b=>mK a b=true) (λa b=>tD) ?_ ?_<|lN ps
   ·refine List.Perm.trans ((F6 _ _).map _) ?_;rw[show (ps.zip ns).map (·.1)=ps by rw[List.map_fst_zip];exact bG hl];exact(df ps).symm
   ·rw[List.pairwise_map];exact G6 (λa b c=>lh a.1 b.1 c.1) (λa b=>li a.1 b.1)<|ps.zip ns
  have inj:∀a∈ps.zip ns,∀b∈ps.zip ns,a.1=b.1->a=b:=by intro a ha b hb e;obtain⟨i,hi,rfl⟩:=List.mem_iff_getElem.mp ha;obtain⟨j,hj,rfl⟩:=List.mem_iff_getElem.mp hb;simp only[List.getElem_zip]at e ⊢;have:i=j:=(List.getElem_inj hn).mp e;subst this;rfl
  have e1:(ix.map λi=>(ps.zip ns).getD i ((0,0),0)).map (·.1)=((ps.zip ns).mergeSort λa b=>mK a.1 b.1).map (·.1):=by rw[key,<- h,P6];apply F7;intro i hi';have h1:=hi i hi';show ((ps.zip ns).getD i ((0,0),0)).1=ps.getD i (0,0);rw[getD_at (by simp;lia),getD_at (by exact bZ h1<|bG hl.symm)];simp
  have lm:∀(l m:List ((Int×Int)×Int)),(∀a∈l,a∈ps.zip ns)->(∀a∈m,a∈ps.zip ns)->l.map (·.1)=m.map (·.1)->l=m:=by
   intro l;induction l with
   |nil=>intro m _ _ e;cases m with
    |nil=>rfl
    |cons _ _=>cases e
   |cons a l ih=>intro m h1 h2 e;cases m with
    |nil=>cases e
    |cons b m =>rw[W7,W7]at e;injection e with e3 e4;rw[inj a (h1 a (by simp)) b (h2 b (by simp)) e3,ih m (λx hx=>h1 x (by simp[hx])) (λx hx=>h2 x (by simp[hx])) e4]
  refine lm _ _ (λa ha=>?_) (λa ha=>(F6 _ _).subset ha) e1;refine aa (U9.mp ha) λi hi' ZV=>?_;subst ZV;have h1:=hi i hi';rw[getD_at (by simp;lia)];exact E9 _
 unfold yV;rw[<- hz,P6];apply F7;intro i hi';have h1:=hi i hi';show ns.getD i 0=((ps.zip ns).getD i ((0,0),0)).2;rw[getD_at (l:=ps.zip ns) (by simp;lia),getD_at h1];simp
end Pu
namespace L2
section
open PySem PySem.Spec PyProof.Rows
variable [Kn:Kon]
def nO(tb:TE)(st:V->St)(fin:List V->Hp->Prop):List V->List V->Hp->Prop
 |[],ks,H=>fin ks H
 |x ::r,ks,H=>tb (st x) H λk H'=>nO tb st fin r (ks++[k]) H'
def vG(vs:List V)(Q:VK)(ks:List V)(H:Hp):Prop:=∃ps:List (Int×Int),Paired ((cF a9 a9).rel H) ks ps/\ks.length=vs.length/\ps.Nodup /\
 ∀q (ix:ZM),H q=none->(∀i∈ix,i<vs.length)->ix.map (λi=>ps.getD i (0,0))=Pu.mq ps->Q (.ref q) (aH H q<|.lst (ix.map λi=>vs.getD i .non))
theorem Sm.seq{K:Z4}(e:Sm H H')(h:fm K H a xs):fm K H' a xs:=by
 rcases h with (h|⟨o,h⟩)|h
 ·exact .inl<|.inl<|e.kp _ _ trivial h
 ·exact .inl<|.inr ⟨o,e.kp _ _ trivial h⟩
 ·exact .inr h
section
variable {X:Cx}{A:Around}{ZY:ZJ}{σ:St}{H:Hp}{s:Shared}{x:Str}{cap:ZD}{scope:Scope}{cl:Zq}{f:Addr}{cd:Value}
theorem Inv.relist(I:Inv X ((kS,o) ::ZY) σ H s)(hz:X.s₀.heap.objs.size<=kS)(hp:∀p∈X.pn++ZY,p.1≠kS)(hc:∀v,o'.data≠.cell v)(k:∀b ob,b≠kS->s.heap.get? b=some ob->h'.get? b=some ob)(h:h'.get? kS=some o'):
  Inv X ((kS,o') ::ZY) σ H {s with heap:=h'}:=by
 refine gl (I.pin (kS,o)<|Y8 _<|Y4.mpr<|.inl rfl) λp1 p2 p3 p4 p5=>?_;have I0:Inv X ZY σ H s:=I.pins_of λp hp=>I.pin p<|Y8 _<|Y4.mpr<|.inr hp;have I1:Inv X ZY σ H {s with heap:=h'}:=I0.turned (t':=s.toks) k p2 p3 (.inr hz) (λy c e z=>by refine bv (I.cell y c e) λv ob ho hd=>?_;rw[z]at ho;have:some ob=some o:=ho.symm.trans p1;cases this;exact p5 v hd) hp
 exact I1.addPin h p2 p3 p4 hc
open PySem.W in
theorem AW{body:Expr}{pm ctv:Value}{c':Addr}{qual:Str}{tb:TE}{D kS:Addr}{oD:Obj}{Fi:YZ}{fin:List V->Hp->Prop}(S:LamScope X x cap scope)(C:LamCl X scope cl)(hA:A.frames=some X.stack)(hh:A.handled=none)(hd:A.depth<recursionLimit)(hb:∀cl pm cd ct u,bindArgs (kla_fn "<lambda>" qual params body scope cl pm cd ct) ⟨[u],[]⟩=pure [(x,u)])(hp:∀f cd cl s H,PE (kn X A (x ::cap.map (·.1)) qual scope f cd cl s H) body tb)(hz:X.s₀.heap.objs.size<=kS)(hpn:∀p∈X.pn++((D,oD) ::(f,kla_obj "<lambda>" qual params body scope cl pm c' ctv) ::ZY),p.1≠kS)(hfin:∀(e:Nat) ks kvs H s,Inv X ((kS,seqObj "list" (Z9 kvs) e) ::(D,oD) ::(f,kla_obj "<lambda>" qual params body scope cl pm c' ctv) ::ZY) σ H s->aP ks kvs->fin ks H->Fi kvs s):
  ∀(r:List V) (its:ZK) (ks:List V) (kvs:ZK) (e:Nat) (H:Hp) (s:Shared),Inv X ((kS,seqObj "list" (Z9 kvs) e) ::(D,oD) ::(f,kla_obj "<lambda>" qual params body scope cl pm c' ctv) ::ZY) σ H s ->
   aP r its->aP ks kvs->(nO (λσ H Q=>H c'=some (.ext<|aW c' qual)/\tb σ H Q) (λv=>fN v cap σ) fin r ks H)->iL X.prog X.w A (.ref f) kS Fi its kvs s:=λrr its ks kvs e H s I tt rk h=>by
 induction tt generalizing ks kvs e H s with
 |nil=>exact hfin e ks kvs H s I rk h
 |@cons v u _ _ r t ih =>
  refine ax h λh0 h=>?_;have po:=I.pin (f,kla_obj "<lambda>" qual params body scope cl pm c' ctv) (by simp);refine R0 (rE S C I po.1 hA hh hd h0 hb (hp _ _ _ _ _) r h) (λk s1 he=>?_) λa a z=>z;refine ay he λkv H1 I1 rv q=>?_;have pk:=I1.pin (kS,seqObj "list" (Z9 kvs) e) (by simp);refine⟨⟨e,pk.1⟩,?_⟩;have ea:(Z9 kvs).push k=Z9 (kvs++[k]):=by simp
  obtain⟨e2,hn⟩:∃e2,(s1.heap.update kS<|X6 (·.push k)).get? kS=some (seqObj "list" (Z9<|kvs++[k]) e2):=⟨_,by rw[<- ea];exact K5 pk.1 (·.push k)⟩;exact ih _ _ e2 H1 _ (I1.relist hz hpn (λv z=>nomatch z) (λb ob nb q=>by rw[V5 _ _ _ _ nb];exact q) hn) (rk.append<|.cons rv .nil) q
def One(Q1:V->Hp->Prop)(xs:List V)(H:Hp):Prop:=match xs with|[v]=>Q1 v H|_=>False
theorem One.got{Q1:V->Hp->Prop}(r:aP vv us)(q:One Q1 vv H):∃v u,us=[u]/\RelV v u/\Q1 v H:=by
 cases r with
 |nil=>exact q.elim
 |cons a b =>
  cases b with
  |nil=>exact⟨_,_,rfl,a,q⟩
  |cons _ _=>exact q.elim
open PySem.W in
end
end
section
open PySem PySem.Spec PyProof.Rows
variable [Kn:Kon]
theorem rG.ext(t:rG P H H')(sb:aY F H)(nt:NT F):Ext F H F H':=⟨t.sm,aY.refl _,λb o h=>t.sm.kp b o (by
 cases o with
 |tbl ps=>exact absurd h (nt b ps)
 |_=>trivial)<|sb b o h,λx x h=>.inl h,λz=>z⟩
section
variable {Γ:List Slot}{tb:TE}{cap:ZD}
theorem key_ev{g:Zv}{fin:List V->Hp->Prop}(hc:(cap.map (·.2)).Nodup)(hb:∀a,EV ((yO [x] cap Γ).set 0 (.fr a9 a)) tb (g a) (cF a9 a9))(hfin:∀F H ks,Ext F0 H0 F H->Paired ((cF a9 a9).rel F) ks ps->fin ks H):∀(r:ZL) (ks:List V) (kp pr:Zw) (F H:Hp),SR C F Γ σ H->Ext F0 H0 F H->H c=some (.ext<|aW c q)->Paired ((cF a9 a9).rel F) ks kp->Pu.keysOf g r=some pr->kp++pr=ps ->
   nO (λσ H Q=>H c=some (.ext<|aW c q)/\tb σ H Q) (λv=>fN v cap σ) fin (r.map V.int) ks H:=by
 intro r;induction r with
 |nil=>exact λks kp pr F H S x0 h0 hk e ep=>hfin F H ks x0<|(by rw[<- ep,<- Z8 e,V8]:kp=ps)▸hk
 |cons a r ih =>intro ks kp pr F H S x0 h0 hk e ep;refine aa (ae e) λk e1 e=>aa (ae e) λks' e2 e=>?_;rw[<- Z8 e]at ep;refine⟨h0,hb a C F _ H _ k ((S.comp (loc:=[x]) hc).setF 0 (r:=a9) (a:=a) (v:=.int a) rfl) e1 λv F' H' x1 rv=>?_⟩;exact ih _ (kp++[k]) ks' F' H' (S.grow x1) (x0.trans x1) (x1.hh.kp _ _ trivial h0) (Paired.app (Paired.imp2 (λb b z=>Rp.mono _ x1.ff z) hk)<|.cons rv .nil) e2 (by rw[X3];exact ep)
end
def fO(K:Z4)(mg:ZH)(x:Str)(st:Stmt)(ps:ZF)(c:Addr):Prop:=∃f fd,Fun K x x st f fd/\Binds K fd ps []/\mg x=some (.ref f)/\fd.code=.ref c
theorem xA{K:Z4}{mg:ZH}{st:Stmt}{kV doc pm ZP ct:Value}(X:K.In h)(G:h.Ns S8 mg)(a:PySem.W.nsIn K S8 x=some (some<|.ref f))(l:K.lookup f=some ⟨oc,od,.func<|R6 x x (bK st) (aX st) (ah st) .none kV doc pm an ZP ct,osl⟩)(hcd:N2 K ZP x=true)(k:R3 K (.ref f)=true)(hc:ZP=.ref c)(hb:∀(kV doc pm:Value) (an:Zr) (ZP ct:Value) (us:ZK),us.length=ps.length->bindArgs (R6 x x (bK st) (aX st) (ah st) .none kV doc pm an ZP ct) ⟨us,[]⟩=pure (ps.zip us)):fO K mg x st ps c :=
 ⟨f,_,gU (st:=st) l hcd k,(gU (st:=st) l hcd k).binds hb,PySem.W.mg_of X G a,hc⟩
section
variable {P:U4}{w:World}{K:Z4}{mg:ZH}{base:Heap}{x:Str}{st:Stmt}{N ps:ZF}{k:Nat}{c:Addr}{τ γ:Type}{ra:RpA τ}{r:Rp γ}
theorem fO.has(D:fO K mg x st ps c)(S:FnScope N ps (ah st))(len:∀vs H Q E,sp vs H Q E->vs.length=ps.length)(hbody:∀(f:Addr) (A:Around) (outer:List Env) (s:Shared) (H:Hp) (vs:List V) (Q:VK) (E:XK),Room k (A.deeper<|envOfC x (ah st) s.heap.objs.size f<|.ref c)->sp vs H Q E ->
   ∃t,mX (me sZ P w K mg base N x (ah st) f (.ref c) A outer s H E).nox (aX st) t/\t {nx:=λa H'=>Q .non H',rt:=Q} (start N vs) H):i9 P w K mg base (k+1) x ps sp:=by
 refine fL D λf fd F b hm hc=>?_;refine⟨f,fd,?_,hm,F.kp,b⟩;refine uR F.ex λoc od kV doc pm an ZP zz=>ay zz λct osl e lk hcd=>?_;subst e;obtain rfl:ZP=.ref c:=hc;refine fn_of lk hcd S len λA outer s H vs Q E hr hsp=>?_;refine aa (hbody f A outer s H vs Q E hr hsp) λt h q=>?_;exact(aF t h.nox q)
noncomputable abbrev xB(P:U4)(w:World)(K:Z4)(mg:ZH)(base:Heap)(x:Str)(st:Stmt)(N:ZF)(k:Nat)(c:Addr)(G:TS->Prop):Prop :=
 ∀(f:Addr) (A:Around) (outer:List Env) (s:Shared) (H:Hp) (E:XK),Room k (A.deeper<|envOfC x (ah st) s.heap.objs.size f<|.ref c)->∃t,mX (me sZ P w K mg base N x (ah st) f (.ref c) A outer s H E).nox (aX st) t/\G t
theorem fO.pV{f:τ->Option γ}(D:fO K mg x st ps c)(S:FnScope N ps (ah st))(hl:∀a,(ra.slots a).length=ps.length)(hn:N.length-ps.length=n)(h:xB P w K mg base x st N k c λt=>∀a,BV (ra.slots a++T8 n .any) t (f a) (rq r)):i9 P w K mg base (k+1) x ps (p8 ra r f):=by
 refine D.has S (λvs H Q E h=>?_) λfa A outer s H vs Q E hr hsp=>?_
 ·refine gM h λF a c b b b h1 b=>?_;rw[(ra.ok h1).1,hl]
 ·refine aa (h fa A outer s H E hr) λt h1 h2=>?_;refine jP hsp λF a c sb nt tg hr' hf q=>?_;refine(aF t h1<|h2 a _ F _ H _ c (SR.begin_ sb nt tg hr' (by rw[(ra.ok hr').1,hl];exact hn)) hf ?_);exact λv F' H' fr rv=>q v F' H' ⟨fr.keep,fr.low,fr.sub,fr.base,λb=>fr.nt⟩ rv
theorem fO.pL{f:τ->Option (List γ)}(D:fO K mg x st ps c)(S:FnScope N ps (ah st))(hl:∀a,(ra.slots a).length=ps.length)(hn:N.length-ps.length=n)(h:xB P w K mg base x st N k c λt=>∀a,BV (ra.slots a++T8 n .any) t (f a) (AH r)):i9 P w K mg base (k+1) x ps (qm ra r f):=by
 refine D.has S (λvs H Q E h=>?_) λfa A outer s H vs Q E hr hsp=>?_
 ·refine gM h λF a c b b b h1 b=>?_;rw[(ra.ok h1).1,hl]
 ·refine aa (h fa A outer s H E hr) λt h1 h2=>?_;refine jP hsp λF a c sb nt tg hr' hf q=>?_;refine(aF t h1<|h2 a _ F _ H _ c (SR.begin_ sb nt tg hr' (by rw[(ra.ok hr').1,hl];exact hn)) hf ?_);exact λp vs F' H' fr hp rv=>q p vs F' H' ⟨fr.keep,fr.low,fr.sub,fr.base,λb=>fr.nt⟩ hp rv
end
end
open PySem PySem.Spec PyProof.Rows
@[reducible] noncomputable def tE(l:List (Addr×Str)):Kon:=⟨l.map (·.1),λb=>((l.find? λp=>p.1==b).map (·.2)).getD ""⟩
def mL(K:Z4)(T:Zx)(a:Addr)(H:Hp):Prop:=∀b u,H b=some u->(b=a/\K.lookup a=none/\∃o xs,u=.frz o (.lst xs))\/(b∈T/\u=.tbl #[])
theorem yW[Kn:Kon]{K:Z4}{mg mb:ZH}(KX:K.In s₁.heap)(hns:s₁.heap.Ns S8 mg)(hb:s₁.heap.Ns builtinsNs mb)(hbb:∀x:Str,x≠"__name__"->mb x=P5 x)(hlim:s₁.heap.NoLimit)(hbm:BM mg s₁.heap)(hg:s₁.gens=#[])(ha:s₁.heap.get? a=some {cls:=.type "list",data:=.seq vs.toArray})(hi:K6 vs ns)(hl:ns.length<=W9)(hr:Room k callerA)(hT:∀P∈Kon.T,s₁.heap.get? P=some (PySem.W.tabObj #[])/\(∃c,D0 K c P=true)/\K.lookup P=none)(F:∀base:Heap,K.In base->base.Ns S8 mg->BM mg base->FnOk P w K mg base CX k fa fd [x] sp)(hbind:∀(s:Shared) (u:Value),BindsTo s fd ⟨[u],[]⟩ [(x,u)])(hsp:∀H:Hp,TbG H->fm K H a (ns.map V.int)->sp [.ref a] H (λv i=>v=.bl true) λi i i=>False)(hCX:∀H e s',CX [] H s₁ (λi i i=>False) e s'->False):
  codeAny (model P w) callerA (.call (.ref fa) ⟨[.ref a],[]⟩) (λr s'=>r=.ok (.ret<|.bool true)/\OldK s₁.heap s'.heap/\s'.os=s₁.os/\AllBare s'.gens) s₁:=by
 have rv:=j7 hi;have lenV:=hi.length;have aT:a∉Kon.T:=λz=>by have:=(hT a z).1;rw[ha]at this;cases this
 have core:∀H:Hp,mL K Kon.T a H->TbG H->fm K H a (ns.map V.int)->jO P w H s₁.heap ->
   codeAny (model P w) callerA (.call (.ref fa) ⟨[.ref a],[]⟩) (λr s'=>r=.ok (.ret<|.bool true)/\OldK s₁.heap s'.heap/\s'.os=s₁.os/\AllBare s'.gens) s₁:=by
  intro H hA tg hS hok;have free:∀{b:Addr} {o:Obj},s₁.heap.get? b=some o->(∀xs n,o.data≠.seq xs n)->(∀xs,o.data≠.fields xs)->H b=none:=λ{b o} e d1 d2=>by
   cases q:H b with
   |none=>rfl
   |some u =>
    rcases hA b u q with zr2_|zr1_
    ·refine ax zr2_ λz i=>?_;rw[z,ha]at e;cases e;exact absurd rfl<|d1 _ _
    ·refine ax zr1_ λz i=>?_;rw[(hT b z).1]at e;cases e;exact absurd rfl<|d2 _
  have nsK:∀{b:Addr} {m:ZH},s₁.heap.Ns b m->(qG s₁.heap H).Ns b m:=λ{b m} zq=>cH zq λo es ep e d r=>⟨o,es,ep,mW e (free e (λi i z=>by rw[d]at z;cases z) λi z=>by rw[d]at z;cases z),d,r⟩;have hKb:K.In (qG s₁.heap H):=λb o e=>mW (KX b o e) (by
   cases q:H b with
   |none=>rfl
   |some u =>
    rcases hA b u q with zr4_|zr3_
    ·refine aV zr4_ λz z2 i=>?_;rw[z,z2]at e;cases e
    ·refine ax zr3_ λz i=>?_;rw[(hT b z).2.2]at e;cases e)
  have hM:Mod K mg (qG s₁.heap H):=⟨hKb,nsK hns,(aF mb (nsK hb) hbb),aa hlim λmc h1 h2=>⟨mc,nsK h1,h2⟩⟩;have hB:BM mg (qG s₁.heap H):=by refine ik hbm λbm ob b1 b2 b3 b4 b5 b6=>?_;exact⟨bm,ob,b1,b2,mW b3 (free b3 (λi i z=>by rw[b6]at z;cases z) λi z=>by rw[b6]at z;cases z),b4,b5,b6⟩
  have e0:Env0 P w K mg (qG s₁.heap H) callerA [] s₁ H:=⟨rfl,hM,λb o e=>of_hidT e,bG<|yl _ _,trivial,λb hb=>absurd (show b∈([]:List Addr) from hb) (by simp),hok,.of_eq hg⟩;refine codeAny_mono ((F _ hKb (nsK hns) hB).run callerA [] s₁ H ⟨[.ref a],[]⟩ [.ref a] [.ref a] _ _ hr e0 (hbind s₁<|.ref a) (.cons rfl .nil) (hsp H tg hS)) λr s' h=>?_;cases r with
  |error e=>exact(hCX H e s' h).elim
  |ok fl =>
   cases fl with
   |next=>exact M0 h
   |brk=>exact M0 h
   |cont=>exact M0 h
   |ret u =>
    refine ik h λv H' os bare un hok' r' q=>?_;have q':v=.bl true:=q;subst q';obtain rfl:u=Value.bool true:=r';have nof:∀b:Addr,b∉zJ ([]:List Env):=λb z=>absurd (show b∈([]:List Addr) from z) (by simp);refine(qF rfl ⟨λb o e=>?_,λb o e=>un.there b o e (by simp)⟩ os bare);cases q:H b with
    |none=>exact .inl<|un.keep b o e q (nof b) (by simp)
    |some u =>
     rcases hA b u q with zr6_|zr5_
     ·refine aV zr6_ λi i zz=>ii zz λob xs z=>?_;subst z;have z2:=un.frzs b ob _ q;refine ax (hok b _ q) λe1 i=>?_;refine ax (hok' b _ z2) λe2 i=>?_;rw[e]at e1;cases e1;exact .inl e2
     ·refine ax zr5_ λz z2=>?_;subst z2;refine ao (un.tbls b #[] q) λmore z3=>?_;have z4:s'.heap.get? b=some (PySem.W.tabObj<|#[]++more):=(show bE P w H' s'.heap b (.tbl<|#[]++more) from hok' b _ z3);refine aV (hT b z) λt1 nn1 i=>?_;refine ao nn1 λc t2=>?_;rw[t1]at e;cases e;exact .inr (.inl ⟨((PySem.W.codeHd_of_K KX t2).tab t1).isCodeTable,rfl,#[],more,rfl,z4⟩)
 classical
 have tgOf:∀H:Hp,(∀P∈Kon.T,H P=some (.tbl #[]))->mL K Kon.T a H->TbG H:=λH h1 h2=>⟨λP hP=>⟨#[],h1 P hP⟩,λP ps e=>by
  rcases h2 P _ e with zr8_|zr7_
  ·refine aV zr8_ λi i zz=>ii zz λo xs z=>?_;cases z
  ·refine ax zr7_ λi z=>?_;cases z;exact⟨trivial,λpos cv h=>by simp[codeAmong]at h⟩⟩
 cases hk:K.lookup a with
 |some o =>
  have e:=KX a o hk;rw[ha]at e;cases e;have s1:mL K Kon.T a (λb=>if b∈Kon.T then some (.tbl #[]) else none):=λb u z=>by
   by_cases hb:b∈Kon.T
   ·exact .inr ⟨hb,(Z8<|(if_pos hb).symm.trans z).symm⟩
   ·exact nomatch (if_neg hb).symm.trans z
  refine core (λb=>if b∈Kon.T then some (.tbl #[]) else none) s1 (tgOf _ (λP hP=>if_pos hP) s1) (.inr ⟨_,vs.toArray,_,hk,rfl,rfl,rfl,(by rw[X1,lenV];exact hl),(by simpa using rv)⟩) λb u z=>?_;rcases s1 b u z with zr10_|zr9_
  ·refine aV zr10_ λi z2 i=>?_;rw[hk]at z2;cases z2
  ·refine ax zr9_ λz1 z2=>?_;subst z2;exact(hT b z1).1
 |none =>
  have s1:mL K Kon.T a (λb=>if b=a then some (.frz {cls:=.type "list",data:=.seq vs.toArray} (.lst<|ns.map V.int)) else if b∈Kon.T then some (.tbl #[]) else none):=λb u z=>by
   by_cases hb:b=a
   ·exact .inl ⟨hb,hk,_,_,(Z8<|(if_pos hb).symm.trans z).symm⟩
   ·have z:=(if_neg hb).symm.trans z;by_cases hb:b∈Kon.T
    ·exact .inr ⟨hb,(Z8<|(if_pos hb).symm.trans z).symm⟩
    ·exact nomatch (if_neg hb).symm.trans z
  refine core _ s1 (tgOf _ (λP hP=>(if_neg fun z:P=a=>aT<|z▸hP).trans (if_pos hP)) s1) (.inl<|.inr ⟨{cls:=.type "list",data:=.seq vs.toArray},if_pos rfl⟩) λb u z=>?_;by_cases hb:b=a
  ·have z':=(if_pos hb).symm.trans z;cases z';subst hb;exact⟨ha,by rw[Y0];exact hl,vs,_,rv,ha⟩
  ·have z':=(if_neg hb).symm.trans z;by_cases hb:b∈Kon.T
   ·have z':=(if_pos hb).symm.trans z';cases z';exact(hT b hb).1
   ·exact nomatch (if_neg hb).symm.trans z'
theorem AX[Kn:Kon]{l:PySem.W.OpenLaw}{XP:(Str->Option Value)->Heap->Prop}{YP:World->Heap->Prop}{K:Params->Z4}{sp:World->Sp}(hn:l.most=some n)(hn2:n<=W9)(hdf:d.params.defaults=[])(hr:Room k callerA)(hY:∀(w:World) (h:Heap),YP w h->(K w.params).In h/\∀P∈Kon.T,h.get? P=some (PySem.W.tabObj #[]))(hC:∀(w:World),∀P∈Kon.T,(K w.params).lookup P=none)(F:∀(w:World) (mg:ZH) (fa:Addr) (h:Heap),(K w.params).In h->h.Ns S8 mg->mg d.name=some (.ref fa) ->
   ∃fd:FuncData,(∀(s:Shared) (u:Value),BindsTo s fd ⟨[u],[]⟩ [(x,u)])/\(∀P∈Kon.T,∃c,D0 (K w.params) c P=true) /\
    ∀base:Heap,(K w.params).In base->base.Ns S8 mg->BM mg base->FnOk l.prog w (K w.params) mg base sZ k fa fd [x] (sp w))(hsp:∀(w:World) (H:Hp) (a:Addr) (ns:ZL),ns.length<=n->TbG H->fm (K w.params) H a (ns.map V.int)->sp w [.ref a] H (λv i=>v=.bl true) λi i i=>False):
  PySem.W.WalkO q loose XP YP l.row.toRowW d [] (λf vs=>PySem.call f vs):=by
 refine Att.sY hn hdf λw s₀ s₁ mg mb fa o pm cd doc a vs ns G Y ho hd i hmg hobj hints hlen hg=>?_;refine ax (hY w _ Y) λKX KT=>?_;refine aE (F w mg fa _ KX G.T.g hmg) λfd hb hcd hF=>?_;exact yW KX G.T.g G.T.b G.T.builtins G.T.nolimit G.T.bmain hg hobj hints (b8 hlen hn2) hr (λP hP=>(pc (KT P hP) (hcd P hP)<|hC w P hP)) hF hb (λH tg hS=>hsp w H a ns hlen tg hS) λH e s' z=>z
end L2
namespace Pu
noncomputable def lrng(j:Int):Option (List Int):=if -(2^62)<=j/\j<2^62/\j.toNat<=16777216 then some (nats j.toNat) else none
end Pu
namespace L2
section
open PySem PySem.Spec PyProof.Rows
variable [Kn:Kon]
structure LamAt(K:Z4)(mg:ZH)(base:Heap)(c P:Addr)(x:Str):Prop where
 bm:BM mg base
 hd:D0 K c P=true
 mem:P∈Kon.T
 nm:Kon.Q P=(x++".<locals>.")++"<lambda>"
section
variable {X:Cx}{a:Expr}{te:TE}{p pos:Pos}
def tRng(te:TE):TE:=λσ H Q=>te σ H λv H1=>∃j:Int,v=.int j/\-(2^62)<=j/\j<2^62/\∀q,H1 q=none->Q (.ref q) (aH H1 q<|.rng 0 j)
theorem pe_rng(he:PE X a te)(hg:Gl X "range")(hm:X.mg "range"=none)(hs:autoParam (V6 [a] X.env=[(false,eval a X.env)]) L2.eX._auto_1):PE X (.Call (.Name "range" p) [a] [] pos) (tRng te):=by
 intro ZY s σ H Q I h;have h1:(be te d9) σ H λxs H1=>∃j:Int,xs=[.int j]/\-(2^62)<=j/\j<2^62/\∀q,H1 q=none->Q (.ref q) (aH H1 q<|.rng 0 j):=by
  show te σ H λx H1=>∃j:Int,[x]=[.int j]/\-(2^62)<=j/\j<2^62/\∀q,H1 q=none->Q (.ref q) (aH H1 q<|.rng 0 j);have e:(λ(x:V) H1=>∃j:Int,[x]=[.int j]/\-(2^62)<=j/\j<2^62/\∀q,H1 q=none->Q (.ref q) (aH H1 q<|.rng 0 j))=λx H1=>∃j:Int,x=.int j/\-(2^62)<=j/\j<2^62/\∀q,H1 q=none->Q (.ref q) (aH H1 q<|.rng 0 j):=by funext x H1;simp
  rw[e];exact h
 refine J2<|gP I hg hm boot_range<|L5 (bM (a8 he ag hs pos ZY s σ H _ I h1) λus s1 zq=>ay zq λvs H1 I1 r1 q1=>?_) hs rfl;refine ju q1 λj e q1 q2 q=>?_;subst e;cases r1 with
 |cons r rr =>cases rr;refine ao r λt ZW=>?_;subst ZW;exact call_range_1 ⟨.ref _,_,I1.laid (o:=.rng 0 j) (λb o e=>Z3 _ e) (bD _) ⟨_,_,_,Y7 _ rfl⟩,rfl,q _<|I1.hok.fresh<|bD _⟩
def AY:List V->Hp->VK->Prop:=λxs H Q=>∃r j,xs=[.ref r]/\H r=some (.rng 0 j)/\-(2^62)<=j/\j<2^62/\j.toNat<=16777216/\∀q,H q=none->Q (.ref q) (aH H q<|.lst<|(Pu.nats j.toNat).map V.int)
theorem vH(hc:X.calm=true):eN X (.type "list") AY:=by
 intro ZY s σ H xs us Q I r hh;refine ik hh λl j ZV hR h1 h2 h3 q=>?_;subst ZV;refine aa (vals1 r) λu ZW ru=>?_;subst ZW;cases ru;refine gu ((show bE X.prog X.w H s.heap l (.rng 0 j) from I.hok l _ hR)) λt u v ho=>?_;refine call_list_range (n:=j.toNat) (I.ok.hd hc) ho (small_one (by lia) (by lia) h1 h2) (by rw[rangeSize_one];split<;>lia) (by lia) λh' tk acc c' hk hD hacc=>?_;have hl:acc.toList.length=j.toNat:=by rw[W8];exact hacc.1
 refine⟨.ref _,_,I.laid (t':=tk) (o:=.lst<|(Pu.nats j.toNat).map V.int) hk (bD _) ⟨?_,acc.toList,c',?_,by rw[hD]⟩,rfl,q _<|I.hok.fresh<|bD _⟩
 ·rw[V4];simp[Pu.nats];lia
 ·refine j7 ?_;have key:∀(l:ZK) (k:Nat),(∀(i:Nat) v,l[i]?=some v->∃t,v=O9 ((k+i:Nat):Int) t)->K6 l ((List.range' k l.length).map λ(i:Nat)=>(i:Int)):=by
   intro l;induction l with
   |nil=>exact λk a=>.nil
   |cons x l ih =>intro k hx;refine ao (hx 0 x rfl) λt e=>?_;subst e;rw[V9,List.range'_succ,W7];refine .cons _ t (ih (k+1) λi v e=>?_);refine ao (hx (i+1) v (by simpa using e)) λt e2=>?_;exact⟨t,by rw[e2];congr 2;try lia⟩
  have:=key acc.toList 0 λi v e=>by obtain⟨t,e2⟩:=hacc.2 i v (by rw[<- K8];exact e);exact⟨t,by rw[e2];congr 1;try lia⟩
  rw[hl]at this;unfold Pu.nats;rw[List.range_eq_range'];exact this
end
set_option tactic.hygienic true in
theorem tF(h:EV Γ te oi a9):ia Γ (uP AY<|be (tRng te) d9) (oi.bind λj=>Pu.lrng j) a9:=by
 intro C F σ H Q xs S e k;refine aa (ae e) λj e1 e=>?_;unfold Pu.lrng at e;split at e
 ·rename_i hh;cases e;refine h C F σ H _ j S e1 λv F' H' x1 r1=>(jQ j r1 hh.1 hh.2.1 λq hq=>⟨q,j,rfl,am,hh.1,hh.2.1,hh.2.2,λl hl=>k l _ F' _ (x1.trans<|Ext.newH x1.sub hq) hl<|paired_ints _⟩)
 ·cases e
end
end L2
namespace Pu
noncomputable def nP(g:Zv):List Int->Int->Int×Int->Option Int
 |[],b,_=>some b
 |x ::xs,b,kb=>(g x).bind λk=>if cx k kb=true then nP g xs x k else nP g xs b kb
noncomputable def AZ(g:Zv):List Int->Option Int
 |[]=>none
 |x ::xs=>(g x).bind λk=>nP g xs x k
end Pu
namespace L2
section
open PySem PySem.Spec PyProof.Rows
variable [Kn:Kon]
def jD(tb:TE)(st:V->St)(sq:Hp->Prop)(Q:VK):List V->V->V->Hp->Prop
 |[],b,_,H=>sq H/\Q b H
 |x ::r,b,kb,H=>sq H/\tb (st x) H λk H'=>∃pk pb,(cF a9 a9).rel H' k pk/\(cF a9 a9).rel H' kb pb/\(if Pu.cx pk pb=true then jD tb st sq Q r x k H' else jD tb st sq Q r b kb H')
def tMinK(K:Z4)(P:Addr)(cap:ZD)(te tb:TE):TE:=λσ H Q=>te σ H λv H1=>∃p x r,v=.ref p/\fm K H1 p (x ::r)/\TbG H1 /\
 ∀H2 c,rG P H1 H2->H2 c=some (.ext<|aW c<|Kon.Q P)->H2 c=some (.ext<|aW c<|Kon.Q P)/\tb (fN x cap σ) H2 λk H'=>jD (λσ H Q=>H c=some (.ext<|aW c<|Kon.Q P)/\tb σ H Q) (λx=>fN x cap σ) (λH=>fm K H p (x ::r)) Q r x k H'
section
variable {X:Cx}{ZY:ZJ}{σ:St}{H:Hp}{s:Shared}{x:Str}{cap:ZD}{scope:Scope}{cl:Zq}{f:Addr}{cd:Value}
theorem rH{h:Heap}(h1:h.IsList l its)(h2:h.IsListIter i l' j):l≠i:=λz=>by refine aE h1 λo ho hc x=>?_;refine aE h2 λo2 ho2 hc2 x=>?_;rw[z,ho2]at ho;cases ho;rw[hc2]at hc;simp at hc
theorem mM{a:Addr×Obj}{z:Addr}(h:∀p∈A++B,p.1<z)(ha:a.1≠z):∀p∈A++a ::B,p.1≠z:=λp hp=>by
 rcases W0.mp hp with q|q
 ·exact dH<|h p<|U7 _ q
 ·rcases Y4.mp q with q|q
  ·rw[q];exact ha
  ·exact dH<|h p<|Y8 _ q
theorem Inv.noc(I:Inv X ZY σ H s)(hm:(a,o)∈X.pn++ZY):∀y c,X.env.cells.lookup y=some c->c≠a:=λy c e z=>by refine bv (I.cell y c e) λv ob ho hd=>?_;refine gl (I.pin (a,o) hm) λq1 x x x q5=>?_;rw[z]at ho;have:some ob=some o:=ho.symm.trans q1;cases this;exact q5 v hd
theorem Inv.swap(I:Inv X (a ::b ::ZY) σ H s):Inv X (b ::a ::ZY) σ H s:=I.pins_of λp hp=>I.pin p (Y8 _ (by
 simp only[Y4]at hp ⊢;rcases hp with h|h|h
 ·exact .inr (.inl h)
 ·exact .inl h
 ·exact .inr<|.inr h))
theorem Inv.drop1(I:Inv X (a ::ZY) σ H s):Inv X ZY σ H s:=I.pins_of λp hp=>I.pin p<|Y8 _<|Y4.mpr<|.inr hp
theorem Inv.relistT(I:Inv X ((kS,o) ::ZY) σ H s)(hz:X.s₀.heap.objs.size<=kS)(hp:∀p∈X.pn++ZY,p.1≠kS)(hc:∀v,o'.data≠.cell v)(k:∀b ob,b≠kS->s.heap.get? b=some ob->h'.get? b=some ob)(h:h'.get? kS=some o'):
  Inv X ((kS,o') ::ZY) σ H {s with heap:=h',toks:=t'}:=by
 have I1:=(I.relist hz hp hc k h).tok t';exact I1
theorem pair_lt{E:ZN}{Q:ZN}(I:Inv X ZY σ H s)(ra:RelV a u)(rb:RelV b v)(ha:(cF a9 a9).rel H a pa)(hb:(cF a9 a9).rel H b pb)(hu:A.units<cLine)(h:Q (.bool<|Pu.cx pa pb) s):
  wpAny (model X.prog X.w) A (R9 .Lt u v) Q E s:=by
 refine dh ha λp a1 a2 ZU h1 h2 h3=>?_;subst ZU;refine dh hb λp' b1 b2 ZU h4 h5 h6=>?_;subst ZU;cases ra;cases rb;cases h2;cases h3;cases h5;cases h6;refine aE (I.tuple<|j5.of (K:=X.K) h1) λits r1 p1 x=>?_;refine aE (I.tuple<|j5.of (K:=X.K) h4) λits2 r2 p2 x=>?_;have i1:K6 its.toArray.toList [pa.1,pa.2]:=intsAre_of (by simpa using r1);have i2:K6 its2.toArray.toList [pb.1,pb.2]:=intsAre_of (by simpa using r2);refine HT.jw p1 p2 i1 i2 hu ?_;rw[nN];exact h
open PySem.W in
theorem min_inv{body:Expr}{pm ctv:Value}{c':Addr}{qual:Str}{tb:TE}{I9 S9 l:Addr}{vs:List V}{Q:VK}{L:ZJ}{R:Result->Shared->Prop}(hfL:(f,kla_obj "<lambda>" qual params body scope cl pm c' ctv)∈L)(hR:∀u s',EP X L σ Q u s'->R (.ok<|.ret u) s')(S:LamScope X x cap scope)(C:LamCl X scope cl)(hA:X.A.frames=some X.stack)(hh:X.A.handled=none)(hd:X.A.depth<recursionLimit)(hu:X.A.in1.units<cLine)(hb:∀cl pm cd ct u,bindArgs (kla_fn "<lambda>" qual params body scope cl pm cd ct) ⟨[u],[]⟩=pure [(x,u)])(hp:∀f cd cl s H,PE (kn X X.A.in1 (x ::cap.map (·.1)) qual scope f cd cl s H) body tb)(hzI:X.s₀.heap.objs.size<=I9)(hzS:X.s₀.heap.objs.size<=S9)(hIS:I9<S9)(hpn:∀p∈X.pn++L,p.1<I9):
  ∀(r:List V) (j:Nat) (bV kV:V) (vb kb:Value) (c:Nat) (oI:Obj) (H:Hp) (s:Shared),vs.drop j=r->j<=vs.length ->
   Inv X ((S9,seqObj "list" #[vb,kb] c) ::(I9,oI) ::L) σ H s->s.heap.IsListIter I9 l j->RelV bV vb->RelV kV kb ->
   jD (λσ H Q=>H c'=some (.ext<|aW c' qual)/\tb σ H Q) (λv=>fN v cap σ) (λH=>fm X.K H l vs) Q r bV kV H ->
   codeAny (model X.prog X.w) X.A (.builtin "min.loop" ⟨[.ref I9,.ref f,.ref S9],[]⟩) R s:=by
 intro r;induction r with
 |nil =>
  intro j bV kV vb kb c oI H s er hj I hit rb rk h;refine ax h λhS hq=>?_;have hjl:j=vs.length:=by have:=congrArg List.length er;simp at this;(clear hq hS rk rb hit I er hpn hIS hzS hzI hp hb hu hd hh hA C S;lia)
  subst hjl;have pS:=I.pin (S9,seqObj "list" #[vb,kb] c) (by simp);have pI:=I.pin (I9,oI) (by simp);refine aE (I.list hS) λits rv ht hz=>?_;have hlI:=rH ht.isList hit;have W:=Walks.list (prog:=X.prog) (w:=X.w) (A:=X.A.in1) hh I9 l hlI its.toArray;have hsz:its.toArray.size=vs.length:=by rw[X1,<- rv.length]
  refine O7 PySem.F.entry_min_loop ?_;rw[Q2 N7 _];show wpAny _ X.A.in1 (seqItems? (.ref S9) >>= _) _ _ _;refine Z0<|D1 pS.1 rfl ?_;show wpAny _ X.A.in1 (tryCatch (pyNext<|.ref I9) _ >>= _) _ _ _;refine Z0<|K1 (W.done _ _ _ ⟨by rw[hsz];exact hit,ht.isList⟩ λh' tk' hk'=>?_);have hk2:∀b o,b≠I9->s.heap.get? b=some o->h'.get? b=some o:=λb o nb e=>hk' b o (by simpa using nb) e;have hS':=hk2 S9 _ (M6 hIS) pS.1;show wpAny _ X.A.in1 (updateSeq S9 (λa=>#[]) >>= _) _ _ _;refine Z0 ?_;refine G9 hS' rfl<|Z0<|wpAny_letGo<|Z5 ?_;have I0:Inv X L σ H s:=I.drop1.drop1;have I1:=I0.turned (t':=tk') hk2 pI.2.1 pI.2.2.1 (.inr hzI) (I.noc (o:=oI) (by simp)) λp hp=>dH<|hpn p hp;have I2:=I1.turned (h':=h'.update S9 (X6 λa=>#[])) (t':=tk') (it:=S9) (λb o nb e=>by rw[V5 _ _ _ _ nb];exact e) pS.2.1 pS.2.2.1 (.inr hzS) (I.noc (o:=seqObj "list" #[vb,kb] c) (by simp)) λp hp=>dH<|eJ (hpn p hp) hIS;exact hR _ _ ⟨bV,H,I2,rb,hq⟩
 |cons y r ih =>
  intro j bV kV vb kb c oI H s er hj I hit rb rk h;refine aV h λhS h0 h=>?_;have hjl:j<vs.length:=by have:=congrArg List.length er;simp at this;lia
  have ey:vs[j]?=some y:=by
   have:(vs.drop j)[0]?=some y:=by rw[er];rfl
   rw[D2]at this;simpa using this
  have er':vs.drop (j+1)=r:=by
   have:(vs.drop j).drop 1=r:=by rw[er];rfl
   rw[List.drop_drop]at this;exact this
  have pS:=I.pin (S9,seqObj "list" #[vb,kb] c) (by simp);have pI:=I.pin (I9,oI) (by simp);refine aE (I.list hS) λits rv ht hz=>?_;have hlI:=rH ht.isList hit;have W:=Walks.list (prog:=X.prog) (w:=X.w) (A:=X.A.in1) hh I9 l hlI its.toArray;have hsz:its.toArray.size=vs.length:=by rw[X1,<- rv.length]
  refine O7 PySem.F.entry_min_loop ?_;rw[Q2 N7 _];show wpAny _ X.A.in1 (seqItems? (.ref S9) >>= _) _ _ _;refine Z0<|D1 pS.1 rfl ?_;show wpAny _ X.A.in1 (tryCatch (pyNext<|.ref I9) _ >>= _) _ _ _;refine Z0<|K1 (W.item j _ _ _ (by rw[hsz];exact hjl) ⟨hit,ht.isList⟩ λv h' tk' hP hst' hk'=>?_);have hv:its[j]?=some v:=by simpa using hP
  refine aa (rv.get ey) λu9 hu9 ru=>?_;have:u9=v:=Z8<|hu9.symm.trans hv;subst this;have hk2:∀b o,b≠I9->s.heap.get? b=some o->h'.get? b=some o:=λb o nb e=>hk' b o (by simpa using nb) e;refine aE (id hst'.1) λoI' hoI' hoc hod=>?_;have I1:=(I.swap.relistT (t':=tk') hzI (mM hpn<|M6 hIS) (λw z=>by rw[hod]at z;cases z) hk2 hoI').swap;show wpAny _ X.A.in1 (tryCatch (holding [u9]<|call (.ref f) [u9]) _ >>= _) _ _ _;have po:=I1.pin _<|Y8 _<|.tail _<|.tail _ hfL;refine Z0<|K1<|T6 (R0 (rE (A:=X.A.in1) S C I1 po.1 hA hh hd h0 hb (hp _ _ _ _ _) ru h) (λk s2 he=>?_) λa a z=>z.elim);refine ay he λkv H2 I2 rkv zz=>ay zz λpk pb g1 g2 g3=>?_;have pS2:=I2.pin (S9,seqObj "list" #[vb,kb] c) (by simp);have pI2:=I2.pin (I9,oI') (by simp);have hit2:s2.heap.IsListIter I9 l (j+1):=⟨oI',pI2.1,hoc,hod⟩;show wpAny _ X.A.in1 (tryCatch (holding [u9,k]<|richCompare .Lt k kb >>= _) _ >>= _) _ _ _;refine Z0<|K1<|T6<|Z0<|pair_lt (A:=X.A.in1) I2 rkv rk g1 g2 hu ?_;refine Z0<|T6<|N0 ?_;refine Z0<|wpAny_letGo<|Z5 ?_;cases hb':Pu.cx pk pb with
  |true =>rw[hb',if_pos rfl]at g3;obtain⟨c2,hc2⟩:∃c2,(s2.heap.update S9 (X6 λa=>#[u9,k])).get? S9=some (seqObj "list" #[u9,k] c2):=⟨_,K5 pS2.1 λa=>#[u9,k]⟩;simp only[if_true];refine Z0 ?_;refine G9 pS2.1 rfl<|Z0<|wpAny_letGo ?_;have I3:=I2.relist (o':=seqObj "list" #[u9,k] c2) (h':=s2.heap.update S9 (X6 λa=>#[u9,k])) hzS (mM (λp hp=>eJ (hpn p hp) hIS)<|dH hIS) (λw z=>nomatch z) (λb o nb e=>by rw[V5 _ _ _ _ nb];exact e) hc2;have hit3:(s2.heap.update S9 (X6 λa=>#[u9,k])).IsListIter I9 l (j+1):=⟨oI',by rw[V5 _ _ _ _ (dH hIS)];exact pI2.1,hoc,hod⟩;exact Z5 ⟨M4 N7 _,ih (j+1) y kv u9 k c2 oI' H2 _ er' (by exact hjl) I3 hit3 ru rkv g3⟩
  |false =>rw[hb',if_neg Z7]at g3;simp only[Q4,if_false];refine Z0<|wpAny_letGo ?_;exact Z5 ⟨M4 N7 _,ih (j+1) bV kV vb kb c oI' H2 _ er' (by exact hjl) I2 hit2 rb rk g3⟩
open PySem.W in
theorem yX{body:Expr}{pm ctv:Value}{c':Addr}{qual:Str}{tb:TE}{I9 S9 l:Addr}{y:V}{rest:List V}{Q:VK}{oI:Obj}{L:ZJ}{R:Result->Shared->Prop}(hfL:(f,kla_obj "<lambda>" qual params body scope cl pm c' ctv)∈L)(hR:∀u s',EP X L σ Q u s'->R (.ok<|.ret u) s')(S:LamScope X x cap scope)(C:LamCl X scope cl)(hA:X.A.frames=some X.stack)(hh:X.A.handled=none)(hd:X.A.depth<recursionLimit)(hu:X.A.in1.units<cLine)(hb:∀cl pm cd ct u,bindArgs (kla_fn "<lambda>" qual params body scope cl pm cd ct) ⟨[u],[]⟩=pure [(x,u)])(hp:∀f cd cl s H,PE (kn X X.A.in1 (x ::cap.map (·.1)) qual scope f cd cl s H) body tb)(hzI:X.s₀.heap.objs.size<=I9)(hzS:X.s₀.heap.objs.size<=S9)(hIS:I9<S9)(hpn:∀p∈X.pn++L,p.1<I9)(I:Inv X ((S9,seqObj "list" #[] 0) ::(I9,oI) ::L) σ H s)(hit:s.heap.IsListIter I9 l 0)(hS:fm X.K H l (y ::rest))(h0:H c'=some (.ext<|aW c' qual))(q:tb (fN y cap σ) H λkv H3=>jD (λσ H Q=>H c'=some (.ext<|aW c' qual)/\tb σ H Q) (λv=>fN v cap σ) (λH=>fm X.K H l (y ::rest)) Q rest y kv H3):
  codeAny (model X.prog X.w) X.A (.builtin "min.loop" ⟨[.ref I9,.ref f,.ref S9],[]⟩) R s:=by
 refine aE (I.list hS) λits rv ht hz=>?_;have hlI:=rH ht.isList hit;have W:=Walks.list (prog:=X.prog) (w:=X.w) (A:=X.A.in1) hh I9 l hlI its.toArray;have hsz:0<its.toArray.size:=by rw[X1,<- rv.length];exact Nat.succ_pos _
 refine O7 PySem.F.entry_min_loop ?_;rw[Q2 N7 _];have pS:=I.pin (S9,seqObj "list" #[] 0) (by simp);show wpAny _ X.A.in1 (seqItems? (.ref S9) >>= _) _ _ _;refine Z0<|D1 pS.1 rfl ?_;show wpAny _ X.A.in1 (tryCatch (pyNext<|.ref I9) _ >>= _) _ _ _;refine Z0<|K1 (W.item 0 _ _ _ hsz ⟨hit,ht.isList⟩ λv h' tk' hP hst' hk'=>?_);have hv:its[0]?=some v:=by simpa using hP
 refine aa (rv.get (i:=0) (x:=y) rfl) λu9 hu9 ru=>?_;have:u9=v:=Z8<|hu9.symm.trans hv;subst this;refine aE (id hst'.1) λoI' hoI' hoc hod=>?_;have I6:=(I.swap.relistT (t':=tk') hzI (mM hpn<|M6 hIS) (λw z=>by rw[hod]at z;cases z) (λb o nb e=>hk' b o (by simpa using nb) e) hoI').swap;show wpAny _ X.A.in1 (tryCatch (holding [u9]<|call (.ref f) [u9]) _ >>= _) _ _ _;have po:=I6.pin _<|Y8 _<|.tail _<|.tail _ hfL;refine Z0<|K1<|T6 (R0 (rE (A:=X.A.in1) S C I6 po.1 hA hh hd h0 hb (hp _ _ _ _ _) ru q) (λk s3 he=>?_) λa a z=>z.elim);refine ay he λkv H3 I7 rkv g3=>?_;have pS2:=I7.pin (S9,seqObj "list" #[] 0) (by simp);have pI2:=I7.pin (I9,oI') (by simp);refine ao (⟨_,K5 pS2.1 λa=>#[u9,k]⟩:∃c2,(s3.heap.update S9 (X6 λa=>#[u9,k])).get? S9=some (seqObj "list" #[u9,k] c2)) λc2 hc2=>?_;show wpAny _ X.A.in1 (updateSeq S9 (λa=>#[u9,k]) >>= _) _ _ _;refine Z0 ?_;refine G9 pS2.1 rfl ?_;rw[show (toString "min"++toString ".loop":String)="min.loop" by decide];have I8:=I7.relist (o':=seqObj "list" #[u9,k] c2) (h':=s3.heap.update S9 (X6 λa=>#[u9,k])) hzS (mM (λp hp=>eJ (hpn p hp) hIS)<|dH hIS) (λw z=>nomatch z) (λb o nb e=>by rw[V5 _ _ _ _ nb];exact e) hc2;exact Z5 ⟨M4 N7 _,min_inv (vs:=y ::rest) hfL hR S C hA hh hd hu hb hp hzI hzS hIS hpn rest 1 y kv u9 k c2 oI' H3 _ rfl (N5<|T3 _) I8 ⟨oI',by rw[V5 _ _ _ _ (dH hIS)];exact pI2.1,hoc,hod⟩ ru rkv g3⟩
open PySem.W in
theorem pe_minK{P c:Addr}{params:Arguments}{body e:Expr}{p pos kpos lpos:Pos}{te tb:TE}(he:PE X e te)(hr:Room 3 X.A)(hm:X.mg "min"=none)(bm:BM X.mg X.base)(hC:codeHdIn X.K c P=true)(hT:P∈Kon.T)(hq:Kon.Q P=X.env.qual++"<lambda>")(hcode:X.env.code=.ref c)(S:LamScope X x cap scope)(hb:∀cl pm cd ct u,bindArgs (kla_fn "<lambda>" (Kon.Q P) params body scope cl pm cd ct) ⟨[u],[]⟩=pure [(x,u)])(hp:∀f cd cl s H,PE (kn X X.A.in1 (x ::cap.map (·.1)) (Kon.Q P) scope f cd cl s H) body tb)(hg:autoParam (Gl X "min") L2.eX._auto_1)(hdef:autoParam (defaultsOf params X.env=([],[])) L2.eX._auto_1)(hst:autoParam (V6 [e] X.env=(false,eval e X.env) ::V6 [] X.env) L2.eX._auto_1)(hpl:autoParam ((backTo pos<|V6 [e] X.env).any (·.1)=false) L2.eX._auto_1):
  PE X (.Call (.Name "min" p) [e] [⟨some "key",.Lambda params body scope lpos,kpos⟩] pos) (tMinK X.K P cap te tb):=by
 intro ZY s σ H Q I h;refine J2<|gP I hg hm jz ?_;refine PyProof.Rows.callWith_kw ?_ (by rw[hst];rfl) hpl;have h1:(be te d9) σ H (One λv H1=>∃p x r,v=.ref p/\fm X.K H1 p (x ::r)/\TbG H1/\∀H2 c,rG P H1 H2->H2 c=some (.ext<|aW c<|Kon.Q P)->H2 c=some (.ext<|aW c<|Kon.Q P)/\tb (fN x cap σ) H2 λk H'=>jD (λσ H Q=>H c=some (.ext<|aW c<|Kon.Q P)/\tb σ H Q) (λx=>fN x cap σ) (λH=>fm X.K H p (x ::r)) Q r x k H'):=h;refine bM (a8 he ag hst pos ZY s σ H _ I h1) ?_;intro us s1 zq;refine ay zq λvv H1 I1 r q=>?_;show wpAny _ _ (evalAll ((do let v <- eval (.Lambda params body scope lpos) X.env;standAt pos;pure v) :: [])) _ _ s1;refine ay (One.got r q) λv u ZV ru q9=>dh q9 λl y rest ev hS tg q8=>?_;subst ZV;subst ev;clear q9;cases ru;refine wpAny_evalAll_cons<|Z0 (AV (P:=P) I1 S tg hT hq hcode hC bm hdef λf cl pm c' ctv H2 s2 I2 ts hc' CL=>Z0<|wpAny_standAt<|Z5<|wpAny_evalAll_nil ?_);show wpAny _ _ (call (.builtin "min") [.ref l] [(J5 "key",.ref f)]) _ _ s2;refine ax (q8 H2 c' ts hc') λh0 q=>?_;have hS2:=ts.sm.seq hS;refine aE (I2.list hS2) λits rv ht hz=>?_;have hname:(toString "min"++toString ".loop":String)="min.loop":=by decide
 refine kmk_tree PySem.F.kind_min PySem.F.plain_min PySem.F.entry_min (kmk_min_key _ _) ?_;show wpAny _ X.A.in1 (F9 "min" ["key","default"] 0 ⟨[],[(J5 "key",.ref f)]⟩ >>= _) _ _ s2;refine Z0<|wpAny_of_eq (show F9 "min" ["key","default"] 0 ⟨[],[(J5 "key",.ref f)]⟩=pure [some (.ref f),none] from rfl) ?_;refine Z0<|Z5 ?_;refine Z0<|wpAny_pyIter_list ht.isList ?_;refine Z0<|E5 ?_<|T3 _;rw[hname];generalize hI9:s2.heap.objs.size=I9;have hS9:(s2.heap.push {cls:=.type "list_iterator",data:=.fields #[.ref l,.int 0 0]}).objs.size=I9+1:=by rw[<- hI9];exact size_push' ..
 have gI:((s2.heap.push {cls:=.type "list_iterator",data:=.fields #[.ref l,.int 0 0]}).push (seqObj "list" #[] 0)).get? I9=some {cls:=.type "list_iterator",data:=.fields #[.ref l,.int 0 0]}:=by rw[<- hI9];exact Z3 _<|Y7 _ rfl
 have gS:((s2.heap.push {cls:=.type "list_iterator",data:=.fields #[.ref l,.int 0 0]}).push (seqObj "list" #[] 0)).get? (I9+1)=some (seqObj "list" #[] 0):=by rw[<- hS9];exact Y7 _ rfl
 refine Z5 ⟨M4 N7 _,?_⟩;rw[hS9];have big:∀b,I9<=b->H2 b=none/\b≠X.env.locals/\b∉X.fs:=λb hb=>(pc (I2.hok.fresh (by exact b8 (bG hI9) hb)) (M6<|bZ I2.lt (by exact b8 (bG hI9) hb))<|I2.nofs (by exact b8 (bG hI9) hb));have I3:Inv X ((f,kla_obj "<lambda>" (Kon.Q P) params body scope cl pm c' ctv) ::ZY) σ H2 {s2 with heap:=(s2.heap.push {cls:=.type "list_iterator",data:=.fields #[.ref l,.int 0 0]}).push (seqObj "list" #[] 0)}:=I2.kept (t':=s2.toks) λb o e=>Z3 _<|Z3 _ e;have I4:=I3.addPin (f:=I9) gI (big I9<|bD _).1 (big I9<|bD _).2.1 (big I9<|bD _).2.2 λv z=>nomatch z;have I5:=I4.addPin (f:=I9+1) (o:=seqObj "list" #[] 0) gS (big (I9+1)<|P3 _).1 (big (I9+1)<|P3 _).2.1 (big (I9+1)<|P3 _).2.2 λv z=>nomatch z;have old:∀p∈X.pn++((f,kla_obj "<lambda>" (Kon.Q P) params body scope cl pm c' ctv) ::ZY),p.1<I9:=λp hp=>by rw[<- hI9];exact X0 (I2.pin p hp).1
 have hzI:X.s₀.heap.objs.size<=I9:=by rw[<- hI9];exact I2.sz
 have hun:X.A.in1.units<cLine:=by have:=hr.un;show X.A.units+1<_;lia
 have hdp:X.A.depth<recursionLimit:=by have:=hr.dp;(clear hun hzI old I5 I4 I3 big gS gI hS9 hI9 hname hz ht rv hS2 q h0 CL hc' ts I2 r tg hS I1 h1 h I hpl hst hdef hg hp hb S hcode hq hT hC bm hm hr he;lia)
 refine yX (y:=y) (rest:=rest) (Q:=Q) (List.Mem.head _) (λu s' zz=>ay zz λv9 H9 I9' r9 q9=>⟨v9,H9,I9'.drop1,r9,q9⟩) S CL I.ok.frames hr.hd hdp hun hb hp hzI (G4 hzI) (W5 _) old I5 ⟨_,gI,rfl,rfl⟩ hS2 h0 q
end
section
variable {Γ:List Slot}{te tb:TE}{K:Z4}{P:Addr}{cap:ZD}
theorem min_ev{g:Zv}(hc:(cap.map (·.2)).Nodup)(hb:∀a,EV ((yO [x] cap Γ).set 0 (.fr a9 a)) tb (g a) (cF a9 a9))(hfin:∀F H,Ext F0 H0 F H->Q (.int res) H):∀(r:ZL) (b:Int) (kV:V) (kb:ZA) (F H:Hp),SR C F Γ σ H->Ext F0 H0 F H->H c=some (.ext<|aW c q)->Rd F l (.lst vs)->(cF a9 a9).rel F kV kb->Pu.nP g r b kb=some res ->
   jD (λσ H Q=>H c=some (.ext<|aW c q)/\tb σ H Q) (λv=>fN v cap σ) (λH=>fm K H l vs) Q (r.map V.int) (.int b) kV H:=by
 intro r;induction r with
 |nil=>exact λb kV kb F H S x0 h0 hl hk e=>⟨.inl<|S.sub.rd hl,Z8 e▸hfin F H x0⟩
 |cons a r ih =>
  intro b kV kb F H S x0 h0 hl hk e;refine aa (ae e) λk e1 e=>?_;refine⟨.inl<|S.sub.rd hl,h0,hb a C F _ H _ k ((S.comp (loc:=[x]) hc).setF 0 (r:=a9) (a:=a) (v:=.int a) rfl) e1 λv F' H' x1 rv=>(d4 k kb (Rp.mono _ x1.sub rv) (Rp.mono _ (x1.ff.trans x1.sub) hk) ?_)⟩;cases hlt:Pu.cx k kb with
  |true =>rw[hlt,if_pos rfl]at e;rw[if_pos rfl];exact ih a v k F' H' (S.grow x1) (x0.trans x1) (x1.hh.kp _ _ trivial h0) (x1.ff.rd hl) rv e
  |false =>rw[hlt,if_neg Z7]at e;rw[if_neg Z7];exact ih b kV kb F' H' (S.grow x1) (x0.trans x1) (x1.hh.kp _ _ trivial h0) (x1.ff.rd hl) (Rp.mono _ x1.ff hk) e
theorem ev_minK{g:Zv}(hc:(cap.map (·.2)).Nodup)(h:EV Γ te o (rL a9))(hb:∀a,EV ((yO [x] cap Γ).set 0 (.fr a9 a)) tb (g a) (cF a9 a9)):EV Γ (tMinK K P cap te tb) (o.bind λxs=>Pu.AZ g xs) a9:=by
 intro C F σ H Q res S e k;refine aa (ae e) λns e1 e=>?_;refine h C F σ H _ ns S e1 λv F1 H1 x1 zq=>ay zq λp vs e3 h1 h2=>?_;have ev:=dz h2;subst ev;cases ns with
 |nil=>cases e
 |cons a r =>unfold Pu.AZ at e;refine aa (ae e) λka e2 e=>?_;refine⟨p,.int a,r.map V.int,e3,.inl<|x1.sub.rd h1,(S.grow x1).tg,(λH2 c ts h0=>⟨h0,?_⟩)⟩;have x2:=ts.ext (S.grow x1).sub (S.grow x1).nt;have S2:=(S.grow x1).grow x2;refine hb a C F1 _ H2 _ ka ((S2.comp (loc:=[x]) hc).setF 0 (r:=a9) (a:=a) (v:=.int a) rfl) e2 λv F' H' x3 rv=>?_;exact min_ev hc hb (λF H x4=>k _ F H x4 rfl) r a v ka F' H' (S2.grow x3) ((x1.trans x2).trans x3) (x3.hh.kp _ _ trivial h0) (x3.ff.rd h1) rv e
end
end
section
open PySem PySem.Spec PyProof.Rows
noncomputable abbrev rP:Rp (Option Int×Option Int):=cF (fg a9)<|fg a9
noncomputable abbrev rF:Rp (List<|List Int):=rL<|rL a9
noncomputable abbrev bP:=List<|Int×(Option Int×Option Int)
noncomputable def sJ(CM:Addr):Rp (List (List Int)×Addr):=⟨λH v x=>∃m dm vf,v=.ref m/\H m=some (.ins CM dm [("floor",vf),("ended",.ref x.2)])/\rF.rel H vf x.1,
 λe zq=>cH zq λm dm vf h1 h2 h3=>(pe m dm vf h1 (e _ _ h2)<|rF.mono e h3)⟩
noncomputable def rM(CM:Addr):Rp (List (List Int)×bP):=⟨λH v x=>∃p ws,(sJ CM).rel H v (x.1,p)/\H p=some (.dK ws)/\Paired (im rP H) ws x.2,
 λe zq=>ay zq λp ws h1 h2 h3=>(d4 p ws ((sJ CM).mono e h1) (e _ _ h2)<|Paired.imp2 (λa a q=>⟨q.1,rP.mono e q.2⟩) h3)⟩
noncomputable def p9(CM CW:Addr):Rp (List (List Int)×Int×Addr×Addr):=⟨λH v x=>∃w dw vf m,v=.ref w/\H w=some (.ins CW dw [("floor",vf),("reach",.int x.2.1),("homes",.ref x.2.2.1),("meetings",.ref m)])/\rF.rel H vf x.1/\(sJ CM).rel H (.ref m) (x.1,x.2.2.2),
 λe zq=>m7 zq λw dw vf m h1 h2 h3 h4=>⟨w,dw,vf,m,h1,e _ _ h2,rF.mono e h3,(sJ CM).mono e h4⟩⟩
noncomputable def rW(CM CW:Addr):Rp (List (List Int)×Int×List (Option Int)×bP):=⟨λH v x=>∃h p vs ws,(p9 CM CW).rel H v (x.1,x.2.1,h,p)/\H h=some (.lst vs)/\Paired ((fg a9).rel H) vs x.2.2.1/\H p=some (.dK ws)/\Paired (im rP H) ws x.2.2.2,
 λe zq=>iq zq λh p vs ws h1 h2 h3 h4 h5=>⟨h,p,vs,ws,(p9 CM CW).mono e h1,e _ _ h2,(Paired.imp2 (λa a q=>(fg a9).mono e q) h3),e _ _ h4,(Paired.imp2 (λa a q=>⟨q.1,rP.mono e q.2⟩) h5)⟩⟩
structure MK(K:Z4)(CM:Addr):Prop where
 c:Cls K CM
 floor:bU K CM "floor"
 ended:bU K CM "ended"
structure WK(K:Z4)(CW:Addr):Prop where
 c:Cls K CW
 floor:bU K CW "floor"
 reach:bU K CW "reach"
 homes:bU K CW "homes"
 meetings:bU K CW "meetings"
variable [Kn:Kon]
section
variable {Γ:List Slot}{ta:TE}{K:Z4}{CM CW:Addr}
theorem lq{α γ:Type}{r:Rp α}{s:Rp γ}{o:Option α}{g:α->γ}(h:EV Γ ta o r)(hf:∀H v x,r.rel H v x->∃a C dx fs u,v=.ref a/\H a=some (.ins C dx fs)/\Cls K C/\bU K C f/\fs.lookup f=some u/\s.rel H u (g x)):EV Γ (md K ta f) (o.bind λx=>some<|g x) s:=by intro C F σ H Q c S e k;refine aa (ae e) λx e1 e=>?_;cases e;refine h C F σ H _ x S e1 λv F' H' x1 r1=>?_;refine yh (hf F' v x r1) λa C' dx fs u h1 h2 h3 h4 h5 h6=>?_;exact⟨a,C',dx,fs,u,h1,x1.sub _ _ h2,h3,h4,h5,k u F' H' x1 h6⟩
theorem vI(k:MK K CM)(h:EV Γ ta o (sJ CM)):EV Γ (md K ta "floor") (o.bind λx=>some x.1) rF:=lq h λH v x zq=>cH zq λm dm vf h1 h2 h3=>⟨m,CM,dm,_,vf,h1,h2,k.c,k.floor,rfl,h3⟩
theorem qt(k:MK K CM)(h:EV Γ ta o (rM CM)):EV Γ (md K ta "ended") (o.bind λx=>some x.2) (rD rP):=lq h λH v x zq=>ay zq λp ws nm2 h4 h5=>cH nm2 λm dm vf h1 h2 h3=>⟨m,CM,dm,_,.ref p,h1,h2,k.c,k.ended,by rfl,p,ws,rfl,h4,h5⟩
theorem yY(k:WK K CW)(h:EV Γ ta o (rW CM CW)):EV Γ (md K ta "floor") (o.bind λx=>some x.1) rF:=lq h λH v x zq=>kX zq λa a a a nm3 a=>m7 nm3 λm dm vf mm h1 h2 h3 a=>⟨m,CW,dm,_,vf,h1,h2,k.c,k.floor,rfl,h3⟩
theorem yZ(k:WK K CW)(h:EV Γ ta o (rW CM CW)):EV Γ (md K ta "reach") (o.bind λx=>some x.2.1) a9:=lq h λH v x zq=>kX zq λa a a a nm4 a=>m7 nm4 λm dm vf mm h1 h2 h3 a=>⟨m,CW,dm,_,.int x.2.1,h1,h2,k.c,k.reach,by rfl,rfl⟩
theorem lu(k:WK K CW)(h:EV Γ ta o (rW CM CW)):EV Γ (md K ta "homes") (o.bind λx=>some x.2.2.1) (rL<|fg a9) :=
 lq h λH v x zq=>m7 zq λhh p vs ws nm5 h4 h5 a=>m7 nm5 λm dm vf mm h1 h2 h3 a=>⟨m,CW,dm,_,.ref hh,h1,h2,k.c,k.homes,by rfl,hh,vs,rfl,.inl h4,h5⟩
theorem B0(k:WK K CW)(h:EV Γ ta o (rW CM CW)):EV Γ (md K ta "meetings") (o.bind λx=>some (x.1,x.2.2.2)) (rM CM) :=
 lq h λH v x zq=>iq zq λhh p vs ws nm6 h4 h5 h7 h8=>m7 nm6 λm dm vf mm h1 h2 h3 h6=>⟨m,CW,dm,_,.ref mm,h1,h2,k.c,k.meetings,by rfl,p,ws,h6,h7,h8⟩
def Ob{α:Type}(r:Rp α)(C:Addr)(m:Str):Prop:=∀H v x,r.rel H v x->∃a dx fs,v=.ref a/\H a=some (.ins C dx fs)/\fs.lookup m=none
theorem ob_m{m:Str}(h1:autoParam (("floor"==m)=false) L2.ir._auto_1)(h2:autoParam ((m=="floor")=false) L2.ir._auto_1)(h3:autoParam ((m=="ended")=false) L2.ir._auto_1):Ob (rM CM) CM m:=λH v x zq=>bv zq λp ws nm7 b=>cH nm7 λa dm vf e1 e2 e3=>⟨a,dm,_,e1,e2,by simp[J8,h2,h3]⟩
theorem ob_w{m:Str}(h2:autoParam ((m=="floor")=false) L2.ir._auto_1)(h3:autoParam ((m=="reach")=false) L2.ir._auto_1)(h4:autoParam ((m=="homes")=false) L2.ir._auto_1)(h5:autoParam ((m=="meetings")=false) L2.ir._auto_1):Ob (rW CM CW) CW m:=λH v x zq=>kX zq λb b b b nm8 b=>sK nm8 λa dm vf b e1 e2 e3=>⟨a,dm,_,e1,e2,by simp[J8,h2,h3,h4,h5]⟩
theorem ob_w0{m:Str}(h2:autoParam ((m=="floor")=false) L2.ir._auto_1)(h3:autoParam ((m=="reach")=false) L2.ir._auto_1)(h4:autoParam ((m=="homes")=false) L2.ir._auto_1)(h5:autoParam ((m=="meetings")=false) L2.ir._auto_1):Ob (p9 CM CW) CW m:=λH v x zq=>sK zq λa dm vf b e1 e2 e3=>(pe a dm _ e1 e2 (by simp[J8,h2,h3,h4,h5]))
section
variable {α γ τ:Type}{r:Rp α}{q:Rp γ}{ra:RpA τ}{t:TA}{C:Addr}{m:Str}{o:Option α}{oτ:Option τ}
theorem mN{f:α×τ->Option γ}(ob:Ob r C m)(h:EV Γ ta o r)(ha:EA Γ t oτ ra):EV Γ (qc C m (p8 (aG r ra) q f) [] E0 ta t) (o.bind λx=>oτ.bind λa=>f (x,a)) q:=by intro C F σ H Q c S e k;refine aa (ae e) λx e1 e=>?_;refine aa (ae e) λa e2 e=>?_;refine h C F σ H _ x S e1 λv F' H' x1 r1=>?_;refine cH (ob F' v x r1) λad dx fs h1 h2 h3=>?_;refine⟨ad,dx,fs,h1,x1.sub _ _ h2,h3,(ha C F' σ H' _ a (S.grow x1) e2 λvs F2 H2 x2 r2=>⟨F2,(x,a),c,x2.sub,x2.nt<|x1.nt S.nt,x2.hh.tg<|x1.hh.tg S.tg,⟨v,vs,by rw[V8],r.mono x2.ff r1,r2⟩,e,λw F3 H3 x3 r3=>k w F3 H3 ((x1.trans x2).trans x3) r3⟩)⟩
theorem B1{f:α×τ->Option (List γ)}(ob:Ob r C m)(h:EV Γ ta o r)(ha:EA Γ t oτ ra):ia Γ (qc C m (qm (aG r ra) q f) [] E0 ta t) (o.bind λx=>oτ.bind λa=>f (x,a)) q:=by intro C F σ H Q c S e k;refine aa (ae e) λx e1 e=>?_;refine aa (ae e) λa e2 e=>?_;refine h C F σ H _ x S e1 λv F' H' x1 r1=>?_;refine cH (ob F' v x r1) λad dx fs h1 h2 h3=>?_;refine⟨ad,dx,fs,h1,x1.sub _ _ h2,h3,(ha C F' σ H' _ a (S.grow x1) e2 λvs F2 H2 x2 r2=>⟨F2,(x,a),c,x2.sub,x2.nt<|x1.nt S.nt,x2.hh.tg<|x1.hh.tg S.tg,⟨v,vs,by rw[V8],r.mono x2.ff r1,r2⟩,e,λp ws F3 H3 x3 hp r3=>k p ws F3 H3 ((x1.trans x2).trans x3) hp r3⟩)⟩
end
end
end
section
open PySem PySem.Spec PyProof.Rows
variable [Kn:Kon]
theorem set_same{σ:St}(h:σ[i]?=some v):σ.set i v=σ:=wZ h
section
variable {X:Cx}{ZY:ZJ}{σ:St}{H:Hp}{s:Shared}
theorem Inv.ghost(I:Inv X ZY σ H s)(hx:X.N[g]?=some x)(nv:¬ Vis X.env.scope x):Inv X ZY (σ.set g<|some v) H s :=
 ⟨I.ok,I.os,I.bare,I.base,aa I.loc λm hn hl=>(aF m hn (λi y u e1 e2 e3=>by
  by_cases e:g=i
  ·subst e;rw[hx]at e1;cases e1;exact absurd e3 nv
  ·rw[List.getElem?_set,if_neg e]at e2;exact hl i y u e1 e2 e3)),I.cell,I.free,I.freeC,I.pin,I.hok,by rw[G8];exact I.len⟩
theorem ja(h:mX X ss t)(hx:X.N[g]?=some x)(nv:¬ Vis X.env.scope x):mX X ss λD σ H=>∃v,t D (σ.set g<|some v) H :=
 λZY s σ H D I zq=>ao zq λv q=>h ZY s _ H D (I.ghost hx nv) q
end
noncomputable def lO(sc:Scope)(x:Str):Bool:=match sc.names.lookup x with
 |some .local=>false
 |some .cell=>false
 |some .free=>false
 |_=>true
theorem ko(h:lO sc x=true):¬ Vis sc x:=by unfold lO at h;rintro(z|z|z)<;>rw[z]at h<;>cases h
section
variable {C:Fc}{F H:Hp}{Γ:List Slot}{σ:St}
theorem SR.less(S:SR C F Γ σ H)(no:∀(j:Nat) t,Γ[j]?=some t->t.own=false)(hp:C.H0 p=some u)(ou:Own u):SR {C with H0:=del C.H0 p} F Γ σ H:=by
 have own:∀{i:Nat} {s:Slot},Γ[i]?=some s->s.own=true->False:=λh1 o1=>nomatch (no _ _ h1).symm.trans o1;refine⟨⟨⟨λb o n q=>S.keep.kp b o n (eQ q).2,λb ps q=>S.keep.tb b ps (eQ q).2,λx=>S.tg⟩,S.low,S.sub,λb o h=>(S.base b o h).imp id λz=>?_,S.nt,S.tg⟩,S.len,λi s h=>aa (S.at_ i s h) λo h1 h2=>aF o h1 ?_,λi j s t q h1 h2 o1 o2 x x=>(own h1 o1).elim⟩
 ·show Cc (del C.H0 p b);unfold del;split
  ·trivial
  ·exact z
 ·cases s with
  |any=>trivial
  |fr r a=>exact h2
  |ol r φ xs=>exact(own h rfl).elim
  |od r φ kvs=>exact(own h rfl).elim
  |ot r kvs=>exact(own h rfl).elim
theorem SR.setG(g:Nat)(S:SR C F Γ σ H)(hs:s.own=true)(h:dQ C.H0 F H s (some<|.ref p))(np:∀(j:Nat) t,Γ[j]?=some t->t.own=true->σ[j]?≠some (some<|.ref p)):SR C F (Γ.set g s) (σ.set g<|some<|.ref p) H:=S.pt g S.toFr (λj t x q=>S.at_ j t q) h λx p' z j t x q o e=>np j t q o<|e.trans<|congrArg some z.symm
theorem Fr.off(fr:Fr ⟨Hx,F,F⟩ F' H')(e:Hx q=some o)(f:F q=none)(ou:Own o):F' q=none:=none_of λw z=>(fr.base q w z).elim (λy=>nomatch f.symm.trans y) λy=>Au y e ou
theorem Fr.via(S:Fr C F H)(fr:Fr ⟨Hx,F,F⟩ F' H')(d:∀b o,C.H0 b=some o->Hx b=H b):Fr C F' H':=by
 refine⟨⟨λb o n q=>fr.keep.kp b o n<|(d b o q).trans (S.keep.kp b o n q),λb ps q=>ao (S.keep.tb b ps q) λm1 e1=>ao (fr.keep.tb b _<|(d b _ q).trans e1) λm2 e2=>⟨m1++m2,e2.trans (by rw[Array.append_assoc])⟩,λx=>fr.tg⟩,S.low.trans fr.low,fr.sub,λb o q=>(fr.base b o q).elim (S.base b o) λz=>.inr ?_,fr.nt,fr.tg⟩;cases e:C.H0 b with
 |none=>trivial
 |some o=>exact e▸S.keep.un (d b o e▸z)
theorem SR.mut{u u':HO}(S:SR C F Γ σ H)(hg:Γ[g]?=some s)(hs:s.own=true)(hp:σ[g]?=some (some<|.ref p))(h0:C.H0 p=none)(hu:H p=some u)(fr:Fr ⟨del H p,F,F⟩ F' H')(hs':s'.own=true)(h:dQ C.H0 F' H' s' (some<|.ref p)):
  SR C F' (Γ.set g s') σ H' :=
 S.pk hg (λx=>hs) hp (S.toFr.via fr λb o e=>cw<|ai e h0) (λj t n q=>S.mvAt q fr.low λp' x o e f hu ou=>have e:=(cw<|S.oth hg hs hp n q o e).trans hu
  ⟨fr.off e f ou,fr.keep.kp p' _ ou.noTbl e⟩) h
end
section
variable {Γ:List Slot}{C:Fc}{F H:Hp}{σ:St}{CM CW p hh:Addr}{i g g1 g2:Nat}{ZZ:ZI}{reach:Int}{ended:bP}{homes:Zj}
theorem SR.borM(S:SR C F Γ σ H)(hi:Γ[i]?=some (.fr (sJ CM) (ZZ,p)))(hg:Γ[g]?=some (.od rP (λb=>b=p) ended)):∃ws,F p=none/\H p=some (.dK ws)/\SR C (aH F p<|.dK ws) ((Γ.set g .any).set i (.fr (rM CM) (ZZ,ended))) σ H:=by refine fX (S.at_ g _ hg) λp' ws h1 ZS h3 h4 h5 h6=>?_;subst ZS;refine aa (S.fr hi) λv q1 q2=>?_;refine(cD ws h4 h5 ?_);have S1:=S.freeze hg p' _ .any rfl rfl h1 h3 h4 h5 trivial trivial;have S2:=S1.setF (r:=rM CM) (a:=(ZZ,ended)) (v:=v) i ⟨p',ws,(sJ CM).mono (aQ h4) q2,am,Paired.imp2 (λx x z=>⟨z.1,rP.mono (aQ h4) z.2⟩) h6⟩;rw[set_same q1]at S2;exact S2
theorem SR.borW(S:SR C F Γ σ H)(hi:Γ[i]?=some (.fr (p9 CM CW) (ZZ,reach,hh,p)))(hg1:Γ[g1]?=some (.ol (fg a9) (λb=>b=hh) homes))(hg2:Γ[g2]?=some (.od rP (λb=>b=p) ended))(hne:g1≠g2):
  ∃vs ws,F hh=none/\H hh=some (.lst vs)/\F p=none/\H p=some (.dK ws)/\p≠hh/\SR C (aH (aH F hh<|.lst vs) p<|.dK ws) (((Γ.set g1 .any).set g2 .any).set i (.fr (rW CM CW) (ZZ,reach,homes,ended))) σ H:=by
 refine fX (S.at_ g1 _ hg1) λp1 vs h1 ZS h3 h4 h5 h6=>?_;subst ZS;refine aa (S.fr hi) λv q1 q2=>?_;refine fX (S.at_ g2 _ hg2) λp2 ws k1 ZS k3 k4 k5 k6=>?_;subst ZS;have ne:p2≠p1:=by rintro rfl;rw[h5]at k5;cases k5
 have S1:=S.freeze hg1 p1 _ .any rfl rfl h1 h3 h4 h5 trivial trivial;have hg2':(Γ.set g1 .any)[g2]?=some (.od rP (λb=>b=p2) ended):=by rw[ej hne];exact hg2
 have F2:aH F p1 (.lst vs) p2=none:=by rw[aq ne];exact k4
 have S2:=S1.freeze hg2' p2 _ .any rfl rfl k1 k3 F2 k5 trivial trivial;have e1:aY F (aH F p1<|.lst vs):=aQ h4;have e2:aY (aH F p1<|.lst vs) (aH (aH F p1<|.lst vs) p2<|.dK ws):=aQ F2;refine⟨vs,ws,h4,h5,k4,k5,ne,?_⟩;have S3:=S2.setF (r:=rW CM CW) (a:=(ZZ,reach,homes,ended)) (v:=v) i ⟨p1,p2,vs,ws,(p9 CM CW).mono (e1.trans e2) q2,by rw[aq (R4 ne)];exact am,Paired.imp2 (λx x z=>(fg a9).mono (e1.trans e2) z) h6,am,Paired.imp2 (λx x z=>⟨z.1,rP.mono (e1.trans e2) z.2⟩) k6⟩;rw[set_same q1]at S3;exact S3
end
section
variable {Γ:List Slot}{β:Type}{s:Rp β}{tb:TE}{ob:Option β}{CM CW p hh:Addr}{ZZ:ZI}{reach:Int}{ended:bP}{homes:Zj}
noncomputable abbrev brwM(Γ:List Slot)(i g:Nat)(CM:Addr)(ZZ:ZI)(ended:bP):List Slot:=(Γ.set g .any).set i (.fr (rM CM) (ZZ,ended))
noncomputable abbrev brwW(Γ:List Slot)(i g1 g2:Nat)(CM CW:Addr)(ZZ:ZI)(reach:Int)(homes:Zj)(ended:bP):List Slot:=((Γ.set g1 .any).set g2 .any).set i (.fr (rW CM CW) (ZZ,reach,homes,ended))
theorem B2(i g:Nat)(hi:Γ[i]?=some (.fr (sJ CM) (ZZ,p)))(hg:Γ[g]?=some (.od rP (λb=>b=p) ended))(fl:Flat s)(h:ia (brwM Γ i g CM ZZ ended) tb o s):ia Γ tb o s:=by intro C F σ H Q b S e k;refine aE (S.borM hi hg) λws h1 h2 S'=>?_;refine h C _ σ H Q b S' e λv vs F' H' x1 hv r1=>?_;refine ax (eA h1 h2 x1) λx2 h3=>?_;exact k v vs _ H' x2 hv<|Paired.imp2 (λx x z=>fl h3 trivial z) r1
theorem tG{F H F' H':Hp}{p q:Addr}{u v:HO}(hF:F p=none)(hH:H p=some u)(hF2:F q=none)(hH2:H q=some v)(ne:q≠p)(e:Ext (aH (aH F p u) q v) H F' H')(nu:autoParam (dJ u) L2.a4q._auto_1)(nv:autoParam (dJ v) L2.a4q._auto_1):Ext F H (del (del F' q) p) H'/\F' q=some v/\del F' q p=some u:=by refine ax (eA (F:=aH F p u) (p:=q) (by rw[aq ne];exact hF2) hH2 e nv) λx1 h1=>?_;refine ax (eA hF hH x1 nu) λx2 h2=>?_;exact(pc x2 h1 h2)
theorem xC(i g1 g2:Nat)(hi:Γ[i]?=some (.fr (p9 CM CW) (ZZ,reach,hh,p)))(hg1:Γ[g1]?=some (.ol (fg a9) (λb=>b=hh) homes))(hg2:Γ[g2]?=some (.od rP (λb=>b=p) ended))(hne:g1≠g2)(fl:Flat s)(h:EV (brwW Γ i g1 g2 CM CW ZZ reach homes ended) tb ob s):EV Γ tb ob s:=by intro C F σ H Q b S e k;refine ik (S.borW hi hg1 hg2 hne) λvs ws h1 h2 h3 h4 ne S'=>?_;refine h C _ σ H Q b S' e λv F' H' x1 r1=>?_;refine aV (tG h1 h2 h3 h4 ne x1) λx2 h5 h6=>?_;exact k v _ H' x2<|fl h6 trivial<|fl h5 trivial r1
theorem B3(i g1 g2:Nat)(hi:Γ[i]?=some (.fr (p9 CM CW) (ZZ,reach,hh,p)))(hg1:Γ[g1]?=some (.ol (fg a9) (λb=>b=hh) homes))(hg2:Γ[g2]?=some (.od rP (λb=>b=p) ended))(hne:g1≠g2)(fl:Flat s)(h:ia (brwW Γ i g1 g2 CM CW ZZ reach homes ended) tb o s):ia Γ tb o s:=by intro C F σ H Q b S e k;refine ik (S.borW hi hg1 hg2 hne) λvs ws h1 h2 h3 h4 ne S'=>?_;refine h C _ σ H Q b S' e λv us F' H' x1 hv r1=>?_;refine aV (tG h1 h2 h3 h4 ne x1) λx2 h5 h6=>?_;exact k v us _ H' x2 hv<|Paired.imp2 (λx x z=>fl h6 trivial<|fl h5 trivial z) r1
theorem own_mE{K:Z4}(k:MK K CM)(i g:Nat)(hi:Γ[i]?=some (.fr (sJ CM) (ZZ,p)))(hg:Γ[g]?=some (.od rP (λb=>b=p) ended)):tp Γ (md K (dO i) "ended") g:=λC F σ H Q v S hv q=>by refine fX (S.at_ g _ hg) λp' ws h1 ZS h3 h4 h5 h6=>?_;subst ZS;rw[hv]at h1;cases h1;refine aa (S.fr hi) λw q1 zz=>cH zz λm dm vf ZS h7 h8=>?_;subst ZS;exact⟨.ref m,q1,m,CM,dm,_,.ref p',rfl,S.sub _ _ h7,k.c,k.ended,by rfl,q⟩
theorem own_wH{K:Z4}(k:WK K CW)(i g:Nat)(hi:Γ[i]?=some (.fr (p9 CM CW) (ZZ,reach,hh,p)))(hg:Γ[g]?=some (.ol (fg a9) (λb=>b=hh) homes)):tp Γ (md K (dO i) "homes") g:=λC F σ H Q v S hv q=>by refine fX (S.at_ g _ hg) λp' ws h1 ZS h3 h4 h5 h6=>?_;subst ZS;rw[hv]at h1;cases h1;refine aa (S.fr hi) λw q1 zz=>sK zz λm dm vf mm eq6_ h7 h8=>?_;subst eq6_;exact⟨.ref m,q1,m,CW,dm,_,.ref p',rfl,S.sub _ _ h7,k.c,k.homes,by rfl,q⟩
end
end
section
open PySem PySem.Spec PyProof.Rows
variable [Kn:Kon]
def cb(K:Z4)(C:Addr)(m qual:Str)(st:Stmt)(ps:ZF):Prop:=∃f fd,Fun K m qual st f fd/\Binds K fd ps []/\Meth K C m f
noncomputable def lz(P:U4)(w:World)(K:Z4)(mg:ZH)(base:Heap)(k:Nat)(C:Addr)(m:Str)(ps:ZF)(sp:Sp):Prop :=
 ∃f fd,FnOk P w K mg base sZ k f fd ps sp/\Meth K C m f/\Binds K fd ps []
theorem xD{K:Z4}{st:Stmt}{kV doc pm ZP ct:Value}(a:Q3 K (.ref C) m=some (some<|.ref f))(l:K.lookup f=some ⟨oc,od,.func<|R6 m qual (bK st) (aX st) (ah st) .none kV doc pm an ZP ct,osl⟩)(c:N2 K ZP qual=true)(k:R3 K (.ref f)=true)(hf:PySem.W.isFn K (.ref f)=true)(hb:∀(kV doc pm:Value) (an:Zr) (ZP ct:Value) (us:ZK),us.length=ps.length->bindArgs (R6 m qual (bK st) (aX st) (ah st) .none kV doc pm an ZP ct) ⟨us,[]⟩=pure (ps.zip us)):cb K C m qual st ps :=
 ⟨f,_,gU (st:=st) l c k,(gU (st:=st) l c k).binds hb,⟨a,hf,k⟩⟩
section
variable {P:U4}{w:World}{K:Z4}{mg:ZH}{base:Heap}{m qual:Str}{st:Stmt}{N ps:ZF}{k:Nat}{C:Addr}{τ γ:Type}{ra:RpA τ}{r:Rp γ}
theorem cb.has(D:cb K C m qual st ps)(S:FnScope N ps (ah st))(len:∀vs H Q E,sp vs H Q E->vs.length=ps.length)(hbody:∀(f:Addr) (ZP:Value) (A:Around) (outer:List Env) (s:Shared) (H:Hp) (vs:List V) (Q:VK) (E:XK),Room k (A.deeper<|envOfC qual (ah st) s.heap.objs.size f ZP)->sp vs H Q E ->
   ∃t,mX (me sZ P w K mg base N qual (ah st) f ZP A outer s H E).nox (aX st) t/\t {nx:=λx H'=>Q .non H',rt:=Q} (start N vs) H):lz P w K mg base (k+1) C m ps sp:=by
 refine ay D λf fd F b hm=>?_;exact⟨f,fd,F.ok S len λZP A outer s H vs Q E hr h=>hbody f ZP A outer s H vs Q E hr h,hm,b⟩
theorem cb.pV{f:τ->Option γ}(D:cb K C m qual st ps)(S:FnScope N ps (ah st))(hl:∀a,(ra.slots a).length=ps.length)(hn:N.length-ps.length=n)(h:iK P w K mg base qual st N k λt=>∀a,BV (ra.slots a++T8 n .any) t (f a) (rq r)):lz P w K mg base (k+1) C m ps (p8 ra r f):=by
 refine D.has S (λvs H Q E h=>?_) λfa ZP A outer s H vs Q E hr hsp=>?_
 ·refine gM h λF a c x x x h1 x=>?_;rw[(ra.ok h1).1,hl]
 ·refine aa (h fa ZP A outer s H E hr) λt h1 h2=>?_;refine jP hsp λF a c sb nt tg hr' hf q=>?_;refine(aF t h1<|h2 a _ F _ H _ c (SR.begin_ sb nt tg hr' (by rw[(ra.ok hr').1,hl];exact hn)) hf ?_);exact λv F' H' fr rv=>q v F' H' ⟨fr.keep,fr.low,fr.sub,fr.base,λx=>fr.nt⟩ rv
theorem cb.pL{f:τ->Option (List γ)}(D:cb K C m qual st ps)(S:FnScope N ps (ah st))(hl:∀a,(ra.slots a).length=ps.length)(hn:N.length-ps.length=n)(h:iK P w K mg base qual st N k λt=>∀a,BV (ra.slots a++T8 n .any) t (f a) (AH r)):lz P w K mg base (k+1) C m ps (qm ra r f):=by
 refine D.has S (λvs H Q E h=>?_) λfa ZP A outer s H vs Q E hr hsp=>?_
 ·refine gM h λF a c x x x h1 x=>?_;rw[(ra.ok h1).1,hl]
 ·refine aa (h fa ZP A outer s H E hr) λt h1 h2=>?_;refine jP hsp λF a c sb nt tg hr' hf q=>?_;refine(aF t h1<|h2 a _ F _ H _ c (SR.begin_ sb nt tg hr' (by rw[(ra.ok hr').1,hl];exact hn)) hf ?_);exact λp vs F' H' fr hp rv=>q p vs F' H' ⟨fr.keep,fr.low,fr.sub,fr.base,λx=>fr.nt⟩ hp rv
theorem fP{X:Cx}{sp:Sp}{ta:TE}{t:TA}{o e:Expr}{es:List Expr}{apos pos:Pos}{pl:Sem Bool}(G:lz X.prog X.w X.K X.mg X.base k C m ps sp)(he:PE X o ta)(c:Cls X.K C)(hr:Room k X.A)(ha:PA X (e ::es) t)(hst:autoParam (V6 (e ::es) X.env=(false,eval e X.env) ::V6 es X.env) L2.eX._auto_1)(hpl:autoParam ((backTo pos<|V6 es X.env).any (·.1)=false) L2.eX._auto_1)(ht:eval (.Call (.Attribute o m apos) (e ::es) [] pos) X.env=(do
   let ov <- eval o X.env
   standAt apos.atName
   let (f,first) <- holding [ov] (getMethod ov m pl)
   callWith pos f first (backTo pos<|V6 (e ::es) X.env) (backToKw pos<|keywordEach [] X.env)):=by rfl):
  PE X (.Call (.Attribute o m apos) (e ::es) [] pos) (qc C m sp [] E0 ta t):=by
 refine ay G λf fd F hm hb=>?_;exact pe_meth he c hm F hr hb .nil Aj ha hst hpl ht
end
def spM{τ γ:Type}(CM:Addr)(ra:RpA τ)(r:Rp γ)(f:(List (List Int)×bP)×τ->Option (γ×bP)):Sp:=λvs H Q x=>∃F v args ZZ p ws ended a c,vs=v ::args/\aY F H/\NT F/\TbG H/\(sJ CM).rel F v (ZZ,p)/\F p=none/\H p=some (.dK ws) /\
 Paired (im rP F) ws ended/\ra.rel F args a/\f ((ZZ,ended),a)=some c/\∀v' ws' F' H',Fr ⟨del H p,F,F⟩ F' H'->F' p=none->H' p=some (.dK ws')->Paired (im rP F') ws' c.2->r.rel F' v' c.1->Q v' H'
def finM{γ:Type}(r:Rp γ)(p:Addr):Fc->γ×bP->Ends->Prop:=λC x D=>∀v ws F' H',Fr C F' H'->F' p=none->H' p=some (.dK ws)->Paired (im rP F') ws x.2->r.rel F' v x.1->D.rt v H'
theorem xE{α:Type _}(l:List α)(a b:α)(n:Nat):(l++T8 (n+1) a).set l.length b=l++b ::T8 n a:=by rw[List.set_append_right _ _ (bD _),Nat.sub_self,List.replicate_succ];rfl
theorem bv_retM{γ:Type}{r:Rp γ}{oa:Option γ}{ended:bP}(g:Nat)(hg:Γ[g]?=some (.od rP (λb=>b=p) ended))(he:EV Γ te oa r):BV Γ (pf te) (oa.bind λa=>some (a,ended)) (finM r p):=λC F σ H D x S e k=>by refine aa (ae e) λa e1 e=>?_;cases e;refine he C F σ H _ a S e1 λv F' H' x1 r1=>?_;have S':=S.grow x1;refine fX (S'.at_ g _ hg) λp' ws h1 ZS h3 h4 h5 h6=>?_;subst ZS;exact k v ws F' H' S'.toFr h4 h5 h6 r1
section
variable {P:U4}{w:World}{K:Z4}{mg:ZH}{base:Heap}{m qual:Str}{st:Stmt}{N ps:ZF}{k:Nat}{CM:Addr}{τ γ:Type}{ra:RpA τ}{r:Rp γ}
theorem cb.pM{f:(List (List Int)×bP)×τ->Option (γ×bP)}(D:cb K CM m qual st ps)(S:FnScope N ps (ah st))(hl:∀a,(ra.slots a).length+1=ps.length)(hn:N.length-ps.length=n+1)(hx:N[ps.length]?=some gx)(nv:lO (ah st) gx=true)(h:iK P w K mg base qual st N k λt=>∀ZZ p ended a,BV ((.fr (sJ CM) (ZZ,p) ::ra.slots a)++.od rP (λb=>b=p) ended ::T8 n .any) t (f ((ZZ,ended),a)) (finM r p)):lz P w K mg base (k+1) CM m ps (spM CM ra r f):=by
 refine D.has S (λvs H Q E h=>?_) λfa ZP A outer s H vs Q E hr hsp=>?_
 ·refine uR h λF v args ZZ p ws ended zz=>fk zz λa c eq9_ x x x zy0=>yg zy0 λx x x x h1 x=> ?_;subst eq9_;rw[V9,(ra.ok h1).1,hl]
 ·refine aa (h fa ZP A outer s H E hr) λt h1 h2=>?_;refine uR hsp λF v args ZZ p ws ended zz=>fk zz λa c eq9_ sb nt tg zy0=>gl zy0 λhm hp hH hw zy1=>aV zy1 λhar hf q=> ?_;subst eq9_;refine⟨_,ja (g:=ps.length) h1 hx<|ko nv,.ref p,?_⟩;have lenA:(v ::args).length=ps.length:=by rw[V9,(ra.ok har).1,hl]
  have S0:=SR.begin_ (ra:=aG (sJ CM) ra) (N:=N) (a:=((ZZ,p),a)) (n:=n+1) sb nt tg ⟨v,args,rfl,hm,har⟩ (by rw[lenA];exact hn);have hsl:((aG (sJ CM) ra).slots ((ZZ,p),a)).length=ps.length:=by show (ra.slots a).length+1=_;exact hl a
  have no:∀(j:Nat) t,((aG (sJ CM) ra).slots ((ZZ,p),a)++T8 (n+1) Slot.any)[j]?=some t->t.own=false:=λj t ht=>by
   by_cases hj:j<((aG (sJ CM) ra).slots ((ZZ,p),a)).length
   ·rw[X5 hj]at ht;exact((aG (sJ CM) ra).ok (F:=F) (vs:=v ::args) ⟨v,args,rfl,hm,har⟩).2 j t ht |>.1
   ·rw[Y6 (by exact U6.mp hj)]at ht;have:=U0 ht;rw[List.mem_replicate]at this;rw[this.2];rfl
  have S1:=S0.less (p:=p) no hH trivial;have S2:=S1.setG (p:=p) (s:=.od rP (λb=>b=p) ended) ps.length rfl ⟨p,ws,rfl,rfl,eP,hp,hH,hw⟩ λj t h1 h2=>by rw[no j t h1]at h2;cases h2
  rw[<- hsl,xE,hsl]at S2;refine h2 ZZ p ended a _ F _ H _ c S2 hf ?_;exact λv' ws' F' H' fr g1 g2 g3 g4=>q v' ws' F' H' fr g1 g2 g3 g4
end
def EM{α:Type}(Γ:List Slot)(g:Nat)(p:Addr)(t:TE)(o:Option (α×bP))(r:Rp α):Prop:=∀C F σ H Q x,SR C F Γ σ H->o=some x->(∀v F' H',SR C F' (Γ.set g<|.od rP (λb=>b=p) x.2) σ H'->r.rel F' v x.1->Q v H')->t σ H Q
section
variable {Γ:List Slot}{α τ:Type}{r:Rp α}{ta tb:TE}{oa:Option α}{CM CW p hh:Addr}{ZZ:ZI}{reach:Int}{ended:bP}{g:Nat}{K:Z4}
set_option tactic.hygienic true in
theorem set_get{α:Type _}{l:List α}{x:α}(h:l[i]?=some x):l.set i x=l:=by
 apply List.ext_getElem?;intro j;rw[List.getElem?_set];split
 ·rename_i e;split
  ·rw[<- e];exact h.symm
  ·rename_i q;rw[<- e,(List.getElem?_eq_none_iff).mpr (by exact U6.mp q)]
 ·rfl
theorem em_pure(hg:Γ[g]?=some (.od rP (λb=>b=p) ended))(h:EV Γ ta oa r):EM Γ g p ta (oa.bind λa=>some (a,ended)) r:=λC F σ H Q x S e k=>by refine aa (ae e) λa e1 e=>?_;cases e;refine h C F σ H _ a S e1 λv F' H' x1 r1=>k v F' H' ?_ r1;rw[set_get hg];exact S.grow x1
theorem em_if(hc:ET Γ tt oc)(h1:EM Γ g p ta o r)(h2:EM Γ g p tb o' r):EM Γ g p (tIf tt ta tb) (oc.bind λb=>if b=true then o else o') r:=λC F σ H Q x S e k=>by
 refine aa (ae e) λb e1 e=>?_;refine hc C F σ H _ b S e1 λF' H' x1=>?_;cases b with
 |true=>exact h1 C F' σ H' Q x (S.grow x1) e k
 |false=>exact h2 C F' σ H' Q x (S.grow x1) e k
theorem em_meth{m:Str}{ra:RpA τ}{t:TA}{oτ:Option τ}{f:(List (List Int)×bP)×τ->Option (α×bP)}(k:WK K CW)(i:Nat)(hi:Γ[i]?=some (.fr (p9 CM CW) (ZZ,reach,hh,p)))(hg:Γ[g]?=some (.od rP (λb=>b=p) ended))(ha:EA Γ t oτ ra)(h2:autoParam ((m=="floor")=false) L2.ir._auto_1)(h3:autoParam ((m=="ended")=false) L2.ir._auto_1):EM Γ g p (qc CM m (spM CM ra r f) [] E0 (md K (dO i) "meetings") t) (oτ.bind λa=>f ((ZZ,ended),a)) r:=λC F σ H Q x S e kk=>by refine aa (ae e) λa e1 e=>?_;refine aa (S.fr hi) λw q1 zz=>m7 zz λww dw vf mm eq6_ q2 q3 q4=>?_;subst eq6_;refine cH (id q4) λm1 dm vf2 em q5 q6=>?_;cases em;refine⟨.ref ww,q1,ww,CW,dw,_,.ref mm,rfl,S.sub _ _ q2,k.c,k.meetings,by rfl,mm,dm,_,rfl,S.sub _ _ q5,by simp[J8,h2,h3],?_⟩;refine ha C F σ H _ a S e1 λvs F' H' x1 r1=>?_;have S':=S.grow x1;refine fX (S'.at_ g _ hg) λp' ws h1 ZS h3 h4 h5 h6=>?_;subst ZS;refine⟨F',.ref mm,vs,ZZ,p',ws,ended,a,x,by rw[V8],S'.sub,S'.nt,S'.tg,(sJ CM).mono x1.ff q4,h4,h5,h6,r1,e,λv' ws' F2 H2 fr g1 g2 g3 g4=>kk v' F2 H2 ?_ g4⟩;exact S'.mut (u':=.dK ws') hg rfl h1 h3 h5 fr rfl ⟨p',ws',rfl,rfl,h3,g1,g2,g3⟩
theorem z6{T:Type}{fin:Fc->T->Ends->Prop}{φ:Zz}{f:List α->bP->Option T}(i:Nat)(hgi:g≠i)(ho:∀e,tp (Γ.set g<|.od rP (λb=>b=p) e) to i)(hi:Γ[i]?=some (.ol r φ xs))(hk:∀e,EV (Γ.set g<|.od rP (λb=>b=p) e) tk oi a9)(he:EM Γ g p te oe r)(h:∀ys e,BV ((Γ.set g<|.od rP (λb=>b=p) e).set i (.ol r φ ys)) u (f ys e) fin):BV Γ (cI (m8 te<|gSub to tk rSetL) u) (oe.bind λx=>oi.bind λk=>(yA xs.length k).bind λj=>f (xs.set j x.1) x.2) fin:=by
 intro C F σ H D x S e k;refine aa (ae e) λa e1 e=>?_;refine aa (ae e) λn e2 e=>?_;refine aa (ae e) λj e3 e=>?_;refine he C F σ H _ a S e1 λv F' H' S1 r1=>?_;have hi':(Γ.set g<|.od rP (λb=>b=p) a.2)[i]?=some (.ol r φ xs):=by rw[ej hgi];exact hi
 refine aa (S1.at_ i _ hi') λo h1 zz=>bv zz λp1 vs1 ZT c=>?_;subst ZT;refine ho a.2 C F' σ H' _ (.ref p1) S1 h1 (hk a.2 C F' σ H' _ n S1 e2 λw F2 H2 x2 r2=>?_);have S':=S1.grow x2;refine fX (S'.at_ i _ hi') λp' vs' q1 q2 q3 q4 q5 q6=>?_;rw[h1]at q1;cases q1;refine⟨p1,vs',n,j,rfl,r2,q5,by rw[q6.length];exact e3,?_⟩;exact h _ _ C F2 σ _ D x (S'.chg hi' rfl h1 q3 q4 rfl ⟨p1,_,rfl,q2,q3,q4,am,Paired.setB (r.mono x2.ff r1) j q6⟩) e k
end
noncomputable abbrev Wa:=List (List Int)×Int×List (Option Int)×bP
def spW{τ:Type}(CM CW:Addr)(ra:RpA τ)(f:Wa×τ->Option (List (Option Int)×bP)):Sp:=λvs H Q x=>∃F v args ZZ reach hh p hs ws homes ended a c,vs=v ::args/\aY F H/\NT F/\TbG H/\(p9 CM CW).rel F v (ZZ,reach,hh,p)/\F hh=none/\H hh=some (.lst hs)/\Paired ((fg a9).rel F) hs homes /\
 F p=none/\H p=some (.dK ws)/\Paired (im rP F) ws ended/\ra.rel F args a/\f ((ZZ,reach,homes,ended),a)=some c /\
 ∀hs' ws' F' H',Fr ⟨del (del H hh) p,F,F⟩ F' H'->F' hh=none->H' hh=some (.lst hs')->Paired ((fg a9).rel F') hs' c.1->F' p=none->H' p=some (.dK ws')->Paired (im rP F') ws' c.2->Q .non H'
def finW(hh p:Addr):Fc->List (Option Int)×bP->Ends->Prop:=λC c D=>∀hs ws F σ H,Fr C F H->F hh=none->H hh=some (.lst hs)->Paired ((fg a9).rel F) hs c.1->F p=none->H p=some (.dK ws)->Paired (im rP F) ws c.2->D.nx σ H
theorem bv_endW(g1 g2:Nat)(hg1:Γ[g1]?=some (.ol (fg a9) (λb=>b=hh) homes))(hg2:Γ[g2]?=some (.od rP (λb=>b=p) ended)):BV Γ mZ (some (homes,ended)) (finW hh p):=λC F σ H D x S e k=>by cases e;refine fX (S.at_ g1 _ hg1) λp1 vs h1 ZS h3 h4 h5 h6=>?_;subst ZS;refine fX (S.at_ g2 _ hg2) λp2 ws k1 ZS k3 k4 k5 k6=>?_;subst ZS;exact k vs ws F σ H S.toFr h4 h5 h6 k4 k5 k6
end
section
open PySem PySem.Spec PyProof.Rows
variable [Kn:Kon]
theorem xF{H:Hp}(h:H a=some o)(k:H b=some o')(n:o≠o'):a≠b:=λe=>n<|Z8<|h.symm.trans<|e▸k
def tGh(g:Nat)(u:TS):TS:=λD σ H=>∃v,u D (σ.set g<|some v) H
theorem B4(g:Nat)(h:mX X ss t)(hx:X.N[g]?=some x)(nv:lO X.env.scope x=true):mX X ss (tGh g t):=ja h hx<|ko nv
theorem B5{α:Type _}(l:List α)(a b c:α)(n:Nat):((l++T8 (n+2) a).set l.length b).set (l.length+1) c=l++b ::c ::T8 n a:=by
 rw[xE l a b (n+1),List.set_append_right _ _ (P3 _)];have:l.length+1-l.length=1:=by lia
 rw[this,List.replicate_succ];rfl
section
variable {P:U4}{w:World}{K:Z4}{mg:ZH}{base:Heap}{m qual:Str}{st:Stmt}{N ps:ZF}{k:Nat}{CM CW:Addr}{τ:Type}{ra:RpA τ}
theorem cb.pW{f:Wa×τ->Option (List (Option Int)×bP)}(D:cb K CW m qual st ps)(S:FnScope N ps (ah st))(hl:∀a,(ra.slots a).length+1=ps.length)(hn:N.length-ps.length=n+2)(hx:N[ps.length]?=some gx)(nvx:lO (ah st) gx=true)(hy:N[ps.length+1]?=some gy)(nvy:lO (ah st) gy=true)(h:iK P w K mg base qual st N k λt=>∀ZZ reach hh p homes ended a,BV ((.fr (p9 CM CW) (ZZ,reach,hh,p) ::ra.slots a)++.ol (fg a9) (λb=>b=hh) homes :: .od rP (λb=>b=p) ended ::T8 n .any) t (f ((ZZ,reach,homes,ended),a)) (finW hh p)):lz P w K mg base (k+1) CW m ps (spW CM CW ra f):=by
 refine D.has S (λvs H Q E h=>?_) λfa ZP A outer s H vs Q E hr hsp=>?_
 ·refine uR h λF v args ZZ reach hh p zz=>gu zz λhs ws homes zy0=>gM zy0 λended a c eq13_ x x x zy1=>gl zy1 λx x x x zy2=>gl zy2 λx x x h1 x=> ?_;subst eq13_;rw[V9,(ra.ok h1).1,hl]
 ·refine aa (h fa ZP A outer s H E hr) λt h1 h2=>?_;refine uR hsp λF v args ZZ reach hh p zz=>gu zz λhs ws homes zy0=>gM zy0 λended a c eq13_ sb nt tg zy1=>gl zy1 λhm hF1 hH1 hw1 zy2=>gl zy2 λhp hH hw har zz=> ax zz λhf q=>?_;subst eq13_;refine⟨_,ja (g:=ps.length) (ja (g:=ps.length+1) h1 hy<|ko nvy) hx<|ko nvx,.ref hh,.ref p,?_⟩;have ne:p≠hh:=xF hH hH1 nofun;have lenA:(v ::args).length=ps.length:=by rw[V9,(ra.ok har).1,hl]
  have S0:=SR.begin_ (ra:=aG (p9 CM CW) ra) (N:=N) (a:=((ZZ,reach,hh,p),a)) (n:=n+2) sb nt tg ⟨v,args,rfl,hm,har⟩ (by rw[lenA];exact hn);have hsl:((aG (p9 CM CW) ra).slots ((ZZ,reach,hh,p),a)).length=ps.length:=by show (ra.slots a).length+1=_;exact hl a
  have no:∀(j:Nat) t,((aG (p9 CM CW) ra).slots ((ZZ,reach,hh,p),a)++T8 (n+2) Slot.any)[j]?=some t->t.own=false:=λj t ht=>by
   by_cases hj:j<((aG (p9 CM CW) ra).slots ((ZZ,reach,hh,p),a)).length
   ·rw[X5 hj]at ht;exact((aG (p9 CM CW) ra).ok (F:=F) (vs:=v ::args) ⟨v,args,rfl,hm,har⟩).2 j t ht |>.1
   ·rw[Y6 (by exact U6.mp hj)]at ht;have:=U0 ht;rw[List.mem_replicate]at this;rw[this.2];rfl
  have S1:=S0.less (p:=hh) no hH1 trivial;have S1':=S1.less (p:=p) no (show del H hh p=some (.dK ws) by rw[cw ne];exact hH) trivial;have S2:=S1'.setG (p:=hh) (s:=.ol (fg a9) (λb=>b=hh) homes) ps.length rfl ⟨hh,hs,rfl,rfl,by show del (del H hh) p hh=none;rw[cw (R4 ne)];exact eP,hF1,hH1,hw1⟩ λj t h1 h2=>nomatch (no j t h1).symm.trans h2;have S3:=S2.setG (p:=p) (s:=.od rP (λb=>b=p) ended) (ps.length+1) rfl ⟨p,ws,rfl,rfl,eP,hp,hH,hw⟩ λj t h1 h2 h3=>gp h1 (λa x l=>ne (V.ref.inj<|Z8<|jZ a (Nat.lt_of_lt_of_eq l S1'.len.symm) h3).symm) λx h1=>nomatch (no j t h1).symm.trans h2;rw[<- hsl,B5,hsl]at S3;refine h2 ZZ reach hh p homes ended a _ F _ H _ c S3 hf ?_;exact λhs' ws' F' x H' fr g1 g2 g3 g4 g5 g6=>q hs' ws' F' H' fr g1 g2 g3 g4 g5 g6
end
theorem SR.mut2(S:SR C F Γ σ H)(hne:g1≠g2)(hg1:Γ[g1]?=some s1)(hs1:s1.own=true)(hp1:σ[g1]?=some (some<|.ref hh))(h01:C.H0 hh=none)(hu:H hh=some u)(hg2:Γ[g2]?=some s2)(hs2:s2.own=true)(hp2:σ[g2]?=some (some<|.ref p))(h02:C.H0 p=none)(hv:H p=some v)(fr:Fr ⟨del (del H hh) p,F,F⟩ F' H')(ht1:t1.own=true)(h1:dQ C.H0 F' H' t1 (some<|.ref hh))(ht2:t2.own=true)(h2:dQ C.H0 F' H' t2 (some<|.ref p)):
  SR C F' ((Γ.set g1 t1).set g2 t2) σ H':=by
 have ow:∀(j:Nat) x,((Γ.set g1 t1).set g2 t2)[j]?=some x->x.own=true->∃y,Γ[j]?=some y/\y.own=true:=λj x q o=>gp q (λe h h=>⟨s2,e▸hg2,hs2⟩) λh q=>gp q (λe h h=>⟨s1,e▸hg1,hs1⟩) λh q=>⟨x,q,o⟩;refine⟨S.toFr.via fr λb o e=>(cw<|ai e h02).trans (cw<|ai e h01),by rw[G8,G8];exact S.len,λj t q=>gp q (λa b h=>aF _ (a▸hp2)<|b▸h2) λn2 q=>gp q (λa b h=>aF _ (a▸hp1)<|b▸h1) λn1 q=>S.mvAt q fr.low λp' h o e f hu ou=>?_,λj k a b p' q1 q2 o1 o2 e1 e2=>(ow j a q1 o1).elim λa' r=>(ow k b q2 o2).elim λb' r'=>S.inj j k a' b' p' r.1 r'.1 r.2 r'.2 e1 e2⟩;have e:=(cw<|S.oth hg2 hs2 hp2 n2 q o e).trans ((cw<|S.oth hg1 hs1 hp1 n1 q o e).trans hu);exact⟨fr.off e f ou,fr.keep.kp p' _ ou.noTbl e⟩
section
variable {Γ:List Slot}{T τ:Type}{CM CW hh p:Addr}{ZZ:ZI}{reach:Int}{homes:Zj}{ended:bP}{u:TS}{fin:Fc->T->Ends->Prop}
theorem bv_come{f:Wa×τ->Option (List (Option Int)×bP)}{gg:List (Option Int)->bP->Option T}(i g1 g2:Nat)(hne:g1≠g2)(hi:Γ[i]?=some (.fr (p9 CM CW) (ZZ,reach,hh,p)))(hg1:Γ[g1]?=some (.ol (fg a9) (λb=>b=hh) homes))(hg2:Γ[g2]?=some (.od rP (λb=>b=p) ended))(ha:EA Γ t oτ ra)(h:∀hs es,BV ((Γ.set g1<|.ol (fg a9) (λb=>b=hh) hs).set g2 (.od rP (λb=>b=p) es)) u (gg hs es) fin)(ob:Ob (p9 CM CW) CW m):BV Γ (cI (wC<|qc CW m (spW CM CW ra f) [] E0 (dO i) t) u) (oτ.bind λa=>(f ((ZZ,reach,homes,ended),a)).bind λc=>gg c.1 c.2) fin:=by intro C F σ H D x S e k;refine aa (ae e) λa e1 e=>?_;refine aa (ae e) λc e2 e=>?_;refine aa (S.fr hi) λw q1 q2=>?_;refine cH (ob F w _ q2) λad dx fs z1 z2 z3=>?_;refine⟨w,q1,ad,dx,fs,z1,S.sub _ _ z2,z3,ha C F σ H _ a S e1 λvs F' H' x1 r1=>?_⟩;have S':=S.grow x1;refine fX (S'.at_ g1 _ hg1) λp1 hs h1 ZS h3 h4 h5 h6=>?_;subst ZS;refine fX (S'.at_ g2 _ hg2) λp2 ws k1 ZS k3 k4 k5 k6=>?_;subst ZS;refine⟨F',w,vs,ZZ,reach,p1,p2,⟨hs,ws,homes,ended,a,c,(by rw[V8]),S'.sub,S'.nt,S'.tg,(p9 CM CW).mono x1.ff q2,h4,h5,h6,k4,k5,k6,r1,⟨e2,λhs' ws' F2 H2 fr m1 m2 m3 m4 m5 m6=>?_⟩⟩⟩;exact h c.1 c.2 C F2 σ H2 D x (S'.mut2 (u:=.lst hs) (v:=.dK ws) hne hg1 rfl h1 h3 h5 hg2 rfl k1 k3 k5 fr rfl ⟨p1,hs',rfl,rfl,h3,m1,m2,m3⟩ rfl ⟨p2,ws',rfl,rfl,k3,m4,m5,m6⟩) e k
end
def spIM(CM:Addr):Sp:=λvs H Q a=>∃x dx vf,vs=[.ref x,vf]/\H x=some (.ins CM dx [])/\∀p,H p=none->Q .non (aH (aH (aH H x<|.ins CM dx [("floor",vf)]) p<|.dK []) x<|.ins CM dx [("floor",vf),("ended",.ref p)])
theorem init_M{K:Z4}(k:MK K CM)(hN:N.length=2)(h:spIM CM vs H Q E):(cI (sR K (dO 0) (dO 1) "floor")<|sR K (dO 0) vc "ended") {nx:=λa H'=>Q .non H',rt:=Q} (start N vs) H:=by
 refine cH h λx dx vf ZU hx q=>?_;subst ZU;have es:start N [.ref x,vf]=[some (.ref x),some vf]:=by unfold start;simp[hN]
 rw[es];refine⟨vf,rfl,.ref x,rfl,x,CM,dx,[],rfl,hx,k.c,k.floor,by simp,?_⟩;intro p hp;have np:p≠x:=by rintro rfl;rw[am]at hp;cases hp
 rw[aq np]at hp;refine⟨.ref x,rfl,x,CM,dx,[("floor",vf)],rfl,by rw[aq (R4 np),am];rfl,k.c,k.ended,by simp,?_⟩;exact q p hp
end
section
open PySem PySem.Spec PyProof.Rows
variable [Kn:Kon]
def spIW(CM CW:Addr)(f:List (List Int)->Option (List<|Option Int)):Sp:=λvs H Q a=>∃F x dx vf ZZ reach homes,vs=[.ref x,vf,.int reach]/\aY F H/\NT F/\TbG H/\F x=none/\H x=some (.ins CW dx [])/\rF.rel F vf ZZ/\f ZZ=some homes /\
 ∀h hs m dm p F' H',Fr ⟨del H x,F,F⟩ F' H'->(F' x=none/\F' h=none/\F' m=none/\F' p=none)->(H h=none/\H m=none/\H p=none)->H' x=some (.ins CW dx [("floor",vf),("reach",.int reach),("homes",.ref h),("meetings",.ref m)])->H' h=some (.lst hs) ->
  Paired ((fg a9).rel F') hs homes->H' m=some (.ins CM dm [("floor",vf),("ended",.ref p)])->H' p=some (.dK [])->Q .non H'
theorem TbG.pokI(g:TbG H)(n:dJ o)(h:H p=some (.ins C d fs)):TbG (aH H p o):=g.poke n (λx z=>nomatch h.symm.trans z) λx z=>nomatch h.symm.trans z
theorem xG{K:Z4}(e:σ[0]?=some (some<|.ref x))(hx:H x=some (.ins C dx fs))(c:Cls K C)(n:bU K C f)(l:fs.length<1000)(k:D.nx σ (aH H x<|.ins C dx<|fe f y fs)):sR K (dO 0) (λa H Q=>Q y H) f D σ H:=⟨.ref x,e,x,C,dx,fs,rfl,hx,c,n,l,k⟩
theorem Ext.offI(x:Ext F H F' H')(f:F b=none)(h:H b=some (.ins C d fs)):F' b=none:=none_of λw z=>(x.nw b w z).elim (λy=>nomatch f.symm.trans y) λy=>by rw[h]at y;exact y
theorem rJ{σ:St}(h:dQ H0 F H s0 o0)(t:∀(i:Nat) s,Γ[i]?=some s->∃o,σ[i]?=some o/\dQ H0 F H s o):∀(i:Nat) s,(s0 ::Γ)[i]?=some s->∃o,(o0 ::σ)[i]?=some o/\dQ H0 F H s o:=λi s e=>by
 cases i with
 |zero=>cases e;exact⟨_,rfl,h⟩
 |succ i=>exact t i s e
theorem no_own{Γ:List Slot}(h:Γ.all (λs=>!s.own)=true){i:Nat}(e:Γ[i]?=some s)(o:s.own=true):False:=by have z:=List.all_eq_true.mp h s<|U0 e;rw[o]at z;cases z
theorem init_W{K:Z4}(k:WK K CW){f:List (List Int)->Option (List<|Option Int)}(hc:∀ZZ reach,ia [.any,.fr rF ZZ,.fr a9 reach] tc (f ZZ) (fg a9))(hN:N.length=3)(h:spIW CM CW f vs H Q E):
  (cI (sR K (dO 0) (dO 1) "floor")<|cI (sR K (dO 0) (dO 2) "reach")<|cI (sR K (dO 0) tc "homes")<|sR K (dO 0) (wI CM (spIM CM) [] E0<|be (dO 1) d9) "meetings") {nx:=λa H'=>Q .non H',rt:=Q} (start N vs) H:=by
 refine gu h λF x dx zy0=>gu zy0 λvf ZZ reach zy1=>ig zy1 λhomes eq7_ sb nt tg zy2=>gl zy2 λhFx hx hvf hf q=> ?_;subst eq7_;have es:start N [.ref x,vf,.int reach]=[some (.ref x),some vf,some (.int reach)]:=by unfold start;simp[hN]
 rw[es];refine aF vf rfl<|xG rfl hx k.c k.floor (by decide) ?_;refine aF (.int reach) rfl<|xG (fs:=[("floor",vf)]) rfl am k.c k.reach (show 1<1000 by decide) ?_;rw[upd_upd];have sb2:aY F (aH H x<|.ins CW dx<|fe "reach" (.int reach) [("floor",vf)]):=λb o e=>by rw[aq (ai e hFx)];exact sb b o e
 have tg2:TbG (aH H x<|.ins CW dx<|fe "reach" (.int reach) [("floor",vf)]):=tg.pokI trivial hx;generalize eH2:aH H x (.ins CW dx<|fe "reach" (.int reach) [("floor",vf)])=H2 at sb2 tg2;have h2x:H2 x=some (.ins CW dx [("floor",vf),("reach",.int reach)]):=by rw[<- eH2,am];rfl
 have h2o:∀b,b≠x->H2 b=H b:=λb n=>by rw[<- eH2,aq n]
 have SS:SR ⟨H2,F,F⟩ F [.any,.fr rF ZZ,.fr a9 reach] [some (.ref x),some vf,some (.int reach)] H2:=by exact⟨⟨Sm.refl _,aY.refl _,sb2,λb o h=>.inl h,nt,tg2⟩,rfl,rJ trivial<|rJ ⟨vf,rfl,hvf⟩<|rJ ⟨_,rfl,rfl⟩ nofun,λi j s t p h1 h2 o1 o2 a a=>(no_own rfl h1 o1).elim⟩
 refine hc ZZ reach _ F _ H2 _ homes SS hf λhh hs F' H3 x1 hp rh=>?_;have h3x:H3 x=some (.ins CW dx [("floor",vf),("reach",.int reach)]):=x1.hh.kp _ _ trivial h2x;have nhx:x≠hh:=ai h3x hp;have F'x:F' x=none:=x1.offI hFx h2x;have F'h:F' hh=none:=x1.sub.free hp;have H2h:H2 hh=none:=x1.hh.free hp;refine xG rfl ((aq nhx).trans h3x) k.c k.homes (show 2<1000 by decide) ?_;have tg3:TbG H3:=x1.hh.tg tg2;have tg4:TbG (aH (aH H3 hh<|.lst hs) x<|.ins CW dx<|fe "homes" (.ref hh) [("floor",vf),("reach",.int reach)]):=by exact(tg3.pokN (p:=hh) (o:=.lst hs) trivial hp).pokI trivial ((aq nhx).trans h3x)
 have h4x':aH (aH H3 hh<|.lst hs) x (.ins CW dx<|fe "homes" (.ref hh) [("floor",vf),("reach",.int reach)]) x=some (.ins CW dx [("floor",vf),("reach",.int reach),("homes",.ref hh)]):=by rw[am];rfl
 have h4h':aH (aH H3 hh<|.lst hs) x (.ins CW dx<|fe "homes" (.ref hh) [("floor",vf),("reach",.int reach)]) hh=some (.lst hs):=by rw[aq (R4 nhx),am]
 have h4o':∀b,b≠x->b≠hh->aH (aH H3 hh<|.lst hs) x (.ins CW dx<|fe "homes" (.ref hh) [("floor",vf),("reach",.int reach)]) b=H3 b:=λb n1 n2=>by rw[aq n1,aq n2]
 generalize aH (aH H3 hh<|.lst hs) x (.ins CW dx<|fe "homes" (.ref hh) [("floor",vf),("reach",.int reach)])=H4 at tg4 h4x' h4h' h4o';refine⟨vf,rfl,λm dm hm hdm hne=>⟨m,dm,vf,rfl,am,λp hp5=>⟨rfl,?_⟩⟩⟩;have mx:m≠x:=(ai h4x' hm).symm;have mh:m≠hh:=(ai h4h' hm).symm;have dmx:dm≠x:=(ai h4x' hdm).symm;have dmh:dm≠hh:=(ai h4h' hdm).symm;have pm:p≠m:=(ai am hp5).symm;rw[aq pm]at hp5;have pdm:p≠dm:=(ai am hp5).symm;rw[aq pdm]at hp5;have px:p≠x:=(ai h4x' hp5).symm;have ph:p≠hh:=(ai h4h' hp5).symm;have tg5:TbG (aH (aH (aH (aH (aH H4 dm<|.own m) m<|.ins CM dm []) m<|.ins CM dm [("floor",vf)]) p<|.dK []) m<|.ins CM dm [("floor",vf),("ended",.ref p)]):=by exact((((tg4.pokN (p:=dm) (o:=.own m) trivial hdm).pokN (p:=m) (o:=.ins CM dm []) trivial ((aq<|R4 hne).trans hm)).pokI (p:=m) (o:=.ins CM dm [("floor",vf)]) trivial am).pokN (p:=p) (o:=.dK []) trivial ((aq pm).trans ((aq pm).trans ((aq pdm).trans hp5)))).pokI (p:=m) (o:=.ins CM dm [("floor",vf),("ended",.ref p)]) trivial ((aq<|R4 pm).trans am)
 have h5o:∀b,b≠m->b≠dm->b≠p->aH (aH (aH (aH (aH H4 dm<|.own m) m<|.ins CM dm []) m<|.ins CM dm [("floor",vf)]) p<|.dK []) m (.ins CM dm [("floor",vf),("ended",.ref p)]) b=H4 b:=λb n1 n2 n3=>by rw[aq n1,aq n3,aq n1,aq n1,aq n2]
 have h5m:aH (aH (aH (aH (aH H4 dm<|.own m) m<|.ins CM dm []) m<|.ins CM dm [("floor",vf)]) p<|.dK []) m (.ins CM dm [("floor",vf),("ended",.ref p)]) m=some (.ins CM dm [("floor",vf),("ended",.ref p)]):=am;have h5p:aH (aH (aH (aH (aH H4 dm<|.own m) m<|.ins CM dm []) m<|.ins CM dm [("floor",vf)]) p<|.dK []) m (.ins CM dm [("floor",vf),("ended",.ref p)]) p=some (.dK []):=by rw[aq pm,am]
 generalize aH (aH (aH (aH (aH H4 dm<|.own m) m<|.ins CM dm []) m<|.ins CM dm [("floor",vf)]) p<|.dK []) m (.ins CM dm [("floor",vf),("ended",.ref p)])=H5 at tg5 h5o h5m h5p;have h5x:H5 x=some (.ins CW dx [("floor",vf),("reach",.int reach),("homes",.ref hh)]):=by rw[h5o x (R4 mx) (R4 dmx) (R4 px)];exact h4x'
 have h5h:H5 hh=some (.lst hs):=by rw[h5o hh (R4 mh) (R4 dmh) (R4 ph)];exact h4h'
 refine xG rfl h5x k.c k.meetings (show 3<1000 by decide) ?_;have tg6:TbG (aH H5 x<|.ins CW dx<|fe "meetings" (.ref m) [("floor",vf),("reach",.int reach),("homes",.ref hh)]):=tg5.pokI trivial h5x;have old:∀b o,b≠x->H3 b=some o->aH H5 x (.ins CW dx<|fe "meetings" (.ref m) [("floor",vf),("reach",.int reach),("homes",.ref hh)]) b=some o:=λb o n e=>by
  have nh:b≠hh:=ai e hp;have e4:H4 b=some o:=by rw[h4o' b n nh];exact e
  rw[aq n,h5o b (ai e4 hm) (ai e4 hdm) (ai e4 hp5)];exact e4
 have F'm:F' m=none:=x1.sub.free<|(h4o' m mx mh).symm.trans hm;have F'p:F' p=none:=x1.sub.free<|(h4o' p px ph).symm.trans hp5;have freeH:∀b,b≠x->b≠hh->H4 b=none->H b=none:=λb n1 n2 e=>by rw[h4o' b n1 n2]at e;rw[<- h2o b n1];exact x1.hh.free e
 refine q hh hs m dm p F' _ ⟨⟨λb o n e=>?_,λb ps e=>?_,λa=>tg6⟩,x1.ff,λb o e=>?_,λb o e=>?_,x1.nt nt,tg6⟩ (qF F'x F'h F'm F'p) (pc (by rw[<- h2o hh (R4 nhx)];exact H2h) (freeH m mx mh hm)<|freeH p px ph hp5) ?_ (by rw[aq (R4 nhx)];exact h5h) rh (by rw[aq mx];exact h5m) (by rw[aq px];exact h5p)
 ·refine ax (eQ e) λn1 e=>?_;exact old b o n1<|x1.hh.kp b o n (by rw[h2o b n1];exact e)
 ·refine ax (eQ e) λn1 e=>?_;refine ao (x1.hh.tb b ps (by rw[h2o b n1];exact e)) λmore e3=>?_;exact⟨more,old b _ n1 e3⟩
 ·exact old b o (ai e F'x)<|x1.sub b o e
 ·rcases x1.nw b o e with z|z
  ·exact .inl z
  ·refine .inr ?_;show Cc (del H x b);by_cases y:b=x
   ·rw[y,eP];trivial
   ·rw[cw y,<- h2o b y];exact z
 ·rw[am];rfl
section
variable {Γ:List Slot}{T:Type}{CM CW:Addr}{u:TS}{fin:Fc->T->Ends->Prop}{f:List (List Int)->Option (List<|Option Int)}
theorem xH{o1 o2 u:HO}{Q:Prop}(z:aH (aH F w o1) m o2 b=some u)(f:b=m->o2=u->Q)(g:b=w->o1=u->Q)(h:b≠w->F b=some u->Q):Q:=nD z f λx z=>nD z g h
theorem B6(fr:Fr ⟨Hx,F1,F1⟩ F' H')(k2:∀b o,H1 b=some o->Hx b=some o)(k3:∀b,b≠w->Cc (Hx b)->Cc (H1 b))(hw:H1 w=none)(hm:H1 m=none)(f1:F' w=none)(f3:F' m=none)(q1:H' w=some o1)(q4:H' m=some o2)(t1:dJ o1)(t2:dJ o2):Ext F1 H1 (aH (aH F' w o1) m o2) H' :=
 ⟨⟨λb o n z=>fr.keep.kp b o n<|k2 b o z,λb ps z=>fr.keep.tb b ps<|k2 b _ z,λx=>fr.tg⟩,λb o z=>have z:=fr.low b o z
  fi (ai z f3) (fi (ai z f1) z),λb o z=>xH z (λe1 e2=>e1▸e2▸q4) (λe1 e2=>e1▸e2▸q1) λx z=>fr.sub b o z,λb o z=>xH z (λe x=>.inr<|wY<|e▸hm) (λe x=>.inr<|wY<|e▸hw) λn z=>(fr.base b o z).imp id (k3 b n),λx=>nE (nE fr.nt t1) t2⟩
theorem vJ{σ:St}(g:Nat)(hl:σ.length=Γ.length)(n:∀(j:Nat) t,Γ[j]?=some t->t.own=true->σ[j]?≠some (some<|.ref b))(h:s.own=true->v≠some (.ref b))(j:Nat)(t:Slot)(z1:(Γ.set g s)[j]?=some t)(z2:t.own=true):(σ.set g v)[j]?≠some (some<|.ref b):=λz3=>gp z1 (λe1 e2 l=>h (e2▸z2)<|jZ e1 (Nat.lt_of_lt_of_eq l hl.symm) z3) λnj z1=>n j t z1 z2<|(ej nj).symm.trans z3
theorem bv_make{gg:List (List Int)->Int->List (Option Int)->Option T}(i g1 g2:Nat)(hne:i≠g1/\i≠g2/\g1≠g2/\g1<Γ.length/\g2<Γ.length)(ha:EA Γ t oa (aG rF<|cm a9))(h:∀ZZ reach hh p homes,BV (((Γ.set i<|.fr (p9 CM CW) (ZZ,reach,hh,p)).set g1 (.ol (fg a9) (λb=>b=hh) homes)).set g2 (.od rP (λb=>b=p) [])) u (gg ZZ reach homes) fin):
  BV Γ (cI (m8 (wI CW (spIW CM CW f) [] E0 t)<|dj i)<|tGh g1<|tGh g2 u) (oa.bind λa=>(f a.1).bind λhomes=>gg a.1 a.2 homes) fin:=by
 intro C F σ H D x S e k;refine aa (ae e) λa e1 e=>?_;refine aa (ae e) λhomes e2 e=>?_;refine ha C F σ H _ a S e1 λvs F1 H1 x1 r1=>?_;refine ay r1 λvf us ZV r2 zz=>aa zz λv2 ZS r3=>?_;subst ZV;subst ZS;cases r3;have S1:=S.grow x1;intro w dx hw hdx nd;have Fw:F1 w=none:=S1.sub.free hw;have Fd:F1 dx=none:=S1.sub.free hdx;refine oi79 F1 w dx vf a.1 a.2 homes rfl (λb o z=>fi (ai z Fw)<|fi (ai z Fd)<|S1.sub b o z) S1.nt ?_ Fw am r2 e2 λhh hs m dm p F' H' fr zf zn q1 q2 q3 q4 q5=>⟨rfl,jt zf λf1 f2 f3 f4=>aV zn λn1 n2 n3=>?_⟩
 ·exact(S1.tg.pokN (p:=dx) (o:=.own w) trivial hdx).pokN trivial ((aq<|R4 nd).trans hw)
 have frH:∀b,aH (aH H1 dx<|.own w) w (.ins CW dx []) b=none->H1 b=none/\b≠w:=λb z=>by have bw:b≠w:=(ai am z).symm;have z:=(aq bw).symm.trans z;exact⟨(aq (ai am z).symm).symm.trans z,bw⟩
 refine ax (frH hh n1) λn1 hw1=>?_;refine ax (frH m n2) λn2 hw2=>?_;refine ax (frH p n3) λn3 hw3=>?_;have hm:hh≠m:=xF q2 q4 nofun;have pm:p≠m:=xF q5 q4 nofun;have ph:p≠hh:=xF q5 q2 nofun;have ext:=B6 fr (λb o z=>(cw<|ai z hw).trans (fi (ai z hw)<|fi (ai z hdx) z)) (λb n y=>by
  rw[cw n,aq n]at y;by_cases bd:b=dx
  ·rw[bd,am]at y;exact y.elim
  ·rw[aq bd]at y;exact y) hw n2 f1 f3 q1 q4 trivial trivial
 generalize eF:aH (aH F' w<|.ins CW dx [("floor",vf),("reach",.int a.2),("homes",.ref hh),("meetings",.ref m)]) m (.ins CM dm [("floor",vf),("ended",.ref p)])=F2 at ext;have e3:aY F' F2:=λb o z=>eF▸fi (ai z f3) (fi (ai z f1) z);have rf:=rF.mono e3<|rF.mono fr.low r2;have S2:=S1.grow ext;have S3:=S2.setF (r:=p9 CM CW) (a:=(a.1,a.2,hh,p)) (v:=.ref w) i ⟨w,dx,vf,m,rfl,eF▸(aq<|R4 hw2).trans am,rf,m,dm,vf,rfl,eF▸am,rf⟩;have off:∀b,b≠m->b≠w->F' b=none->F2 b=none:=λb n1 n2 z=>eF▸(aq n1).trans ((aq n2).trans z);have S4:=S3.setG (p:=hh) (s:=.ol (fg a9) (λb=>b=hh) homes) g1 rfl ⟨hh,hs,rfl,rfl,S1.keep.free n1,off hh hm hw1 f2,q2,Paired.imp2 (λc c z=>Rp.mono _ e3 z) q3⟩<|vJ i S1.len (λj t q o z=>S1.np n1 q o z) nofun;have S5:=S4.setG (p:=p) (s:=.od rP (λb=>b=p) []) g2 rfl ⟨p,[],rfl,rfl,S1.keep.free n3,off p pm hw3 f4,q5,.nil⟩ (vJ g1 S3.len (vJ i S1.len (λj t q o z=>S1.np n3 q o z) nofun) λc z=>ph (V.ref.inj<|Z8 z).symm);exact⟨.ref hh,.ref p,h a.1 a.2 hh p homes C _ _ H' D x S5 e k⟩
end
end
section
open PySem PySem.Spec PyProof.Rows
variable [Kn:Kon]
def jE(K:Z4)(mg:ZH)(x:Str)(C:Addr)(qual:Str)(st:Stmt)(ps:ZF):Prop:=∃f fd,Fun K "__init__" qual st f fd/\Binds K fd ps []/\Mk K C f/\mg x=some (.ref C)
noncomputable def z7(P:U4)(w:World)(K:Z4)(mg:ZH)(base:Heap)(k:Nat)(x:Str)(C:Addr)(ps:ZF)(sp:Sp):Prop :=
 ∃f fd,FnOk P w K mg base sZ k f fd ps sp/\Mk K C f/\Binds K fd ps []/\mg x=some (.ref C)
theorem xI{K:Z4}{mg:ZH}{st:Stmt}{kV doc pm ZP ct:Value}(X:K.In h)(G:h.Ns S8 mg)(a:PySem.W.nsIn K S8 x=some (some<|.ref C))(i:Q3 K (.ref C) "__init__"=some (some<|.ref f))(l:K.lookup f=some ⟨oc,od,.func<|R6 "__init__" qual (bK st) (aX st) (ah st) .none kV doc pm an ZP ct,osl⟩)(c:N2 K ZP qual=true)(k:R3 K (.ref f)=true)(hf:PySem.W.isFn K (.ref f)=true)(mk:PySem.W.makesIn K C=true)(kc:R3 K (.ref C)=true)(hb:∀(kV doc pm:Value) (an:Zr) (ZP ct:Value) (us:ZK),us.length=ps.length->bindArgs (R6 "__init__" qual (bK st) (aX st) (ah st) .none kV doc pm an ZP ct) ⟨us,[]⟩=pure (ps.zip us)):jE K mg x C qual st ps :=
 ⟨f,_,gU (st:=st) l c k,(gU (st:=st) l c k).binds hb,⟨mk,i,hf,kc⟩,PySem.W.mg_of X G a⟩
section
variable {P:U4}{w:World}{K:Z4}{mg:ZH}{base:Heap}{x qual:Str}{st:Stmt}{N ps:ZF}{k:Nat}{C:Addr}
theorem jE.has(D:jE K mg x C qual st ps)(S:FnScope N ps (ah st))(len:∀vs H Q E,sp vs H Q E->vs.length=ps.length)(hbody:∀(f:Addr) (ZP:Value) (A:Around) (outer:List Env) (s:Shared) (H:Hp) (vs:List V) (Q:VK) (E:XK),Room k (A.deeper<|envOfC qual (ah st) s.heap.objs.size f ZP)->sp vs H Q E ->
   ∃t,mX (me sZ P w K mg base N qual (ah st) f ZP A outer s H E).nox (aX st) t/\t {nx:=λa H'=>Q .non H',rt:=Q} (start N vs) H):z7 P w K mg base (k+1) x C ps sp:=by
 refine fL D λf fd F b hm hg=>?_;exact⟨f,fd,F.ok S len λZP A outer s H vs Q E hr h=>hbody f ZP A outer s H vs Q E hr h,hm,b,hg⟩
theorem tH{X:Cx}{sp:Sp}{t:TA}{e:Expr}{es:List Expr}{p pos:Pos}(G:z7 X.prog X.w X.K X.mg X.base k x C ps sp)(hr:Room (k+1) X.A)(hg:Gl X x)(ha:PA X (e ::es) t)(hdb:autoParam ((x==("__debug__":Str))=false) L2.ir._auto_1)(he:autoParam (V6 (e ::es) X.env=(false,eval e X.env) ::V6 es X.env) L2.eX._auto_1)(hpl:autoParam ((backTo pos<|V6 es X.env).any (·.1)=false) L2.eX._auto_1):PE X (.Call (.Name x p) (e ::es) [] pos) (wI C sp [] E0 t):=by refine fL G λf fd F hm hb hg'=>?_;exact pe_make hm F hr hg hg' hb .nil Aj ha hdb he hpl
end
end
section
open PySem PySem.Spec PyProof.Rows
section
variable {X:Cx}{K:Z4}
theorem d6(h:X.K=K)(he:PE X e ta)(hb:attributeBase e f X.env (eval e X.env)=eval e X.env):PE X (.Attribute e f pos) (md K ta f):=by subst h;exact pe_fld he hb
theorem B7(h:X.K=K):jh X (binaryOp .Add) (wK K):=by subst h;exact op_catT
end
variable [Kn:Kon]
section
variable {Γ:List Slot}{K:Z4}{ta:TE}
theorem B8{α β γ:Type}{r:Rp α}{s:Rp β}{q:Rp γ}:GV Γ 3 (zR K 3<|jR (dj 0)<|jR (dj 1)<|jR (dj 2) gNil) (ml r s q) (λx=>((Γ.set 0<|.fr r x.1).set 1 (.fr s x.2.1)).set 2 (.fr q x.2.2)):=λC F σ H v x k S zq q=>iq zq λp a b c e h1 h2 h3 h4 =>
 ⟨p,_,e,j5.of<|S.sub _ _ h1,rfl,a,[b,c],rfl,b,[c],rfl,c,[],rfl,rfl,q _ (((S.setF 0 h2).setF 1 h3).setF 2 h4) λz=>((Wk.refl.set<|z 0 (by decide)).set (z 1 (by decide))).set (z 2 (by decide))⟩
theorem ia.cast{α:Type}{r:Rp α}{o o':Option (List α)}(h:ia Γ ta o r)(e:o'=o):ia Γ ta o' r:=e▸h
theorem em_some{α:Type}{r:Rp α}{o:Option (α×bP)}(h:EM Γ g p ta o r):EM Γ g p ta (o.bind λx=>some (some x.1,x.2)) (fg r):=λC F σ H Q x S e k=>by refine aa (ae e) λy e1 e=>?_;cases e;exact h C F σ H Q y S e1 λv F' H' S' r1=>k v F' H' S' r1
end
end
open PySem PySem.Spec PyProof.Rows
section
variable [Kn:Kon]{Γ:List Slot}{α:Type}{r:Rp α}{ta:TE}{K:Z4}
theorem B9{β γ:Type}{s:Rp β}{q:Rp γ}{o:Option (α×β×γ)}(h:EV Γ ta o (ml r s q)):EV Γ (uP (rLen K)<|be ta d9) (o.bind λi=>some (3:Int)) a9:=λC F σ H Q xs S e k=>by refine aa (ae e) λx e1 e=>?_;cases e;refine h C F σ H _ x S e1 λv F' H' x1 hv=>?_;refine iq hv λp a b c e2 h1 h2 h3 h4=>?_;exact⟨p,[a,b,c],by rw[e2],.inr<|j5.of<|x1.sub _ _ h1,k _ F' H' x1 rfl⟩
end
end L2
namespace Pu
noncomputable def tI{α:Type}(d:List (Int×α))(k:ZC):Option α:=k.bind λi=>find d i
end Pu
namespace L2
open PySem PySem.Spec PyProof.Rows
section
variable {prog:U4}{w:World}{A:Around}{E:ZN}{s:Shared}
theorem tJ{Q:Int->Shared->Prop}(h:Q 4238894112 {s with toks:=s.toks+1}):wpAny (model prog w) A (pyHash .none) Q E s:=by
 have hT:s.TypeIs .none "NoneType":=rfl;show wpAny _ _ (pyHashByItsType .none) Q E s;unfold pyHashByItsType;have hv:[O1].any Value.onHeap=false:=rfl;refine Z0 ?_;rw[cRoomFor,if_neg (by rw[hv];exact Z7)];refine Z5 ?_;refine Z0<|wpAny_specialOf hT D3.lookup ?_;show wpAny _ _ (if (some (Value.builtin "NoneType.__hash__")==some O1)=true then _ else _) Q E s;rw[if_neg (by rw[beq_builtin_none];exact Z7)];refine Z0<|wpAny_specialOf hT D3.lookup ?_;show wpAny _ _ (callSpecialIfBoundUnlessNone? .none "__hash__" _ >>= _) Q E s;refine Z0 (wpAny_callSpecialIfBoundUnlessNone?_slot hT D3
  (R7 D3 hT PySem.F.entry_NoneType_hash
   (show wpAny _ _ (do ret (<- mkInt 4238894112)) _ _ s from wpAny_ret_mkInt ?_) (PySem.F.args_NoneType_hash_1 _)))
 show wpAny _ _ (if (decide (-(2:Int)^63<=4238894112)&&decide ((4238894112:Int)<2^63))=true then _ else _) Q E _;rw[if_pos (by decide)];exact Z5 h
end
noncomputable def xJ:Option Key->Value->Bool
 |none,.none=>true
 |none,_=>false
 |some k,v=>iu k v
theorem fQ(h:xJ none v=true):v=.none:=by cases v<;>first|rfl|cases h
theorem lA(h:iu k v=true):xJ none v=false:=by rcases br h with ⟨i,t,rfl,rfl⟩|⟨x,t,rfl,rfl⟩<;>rfl
noncomputable def xK(prog:U4)(w:World):PySem.KeyKind prog w (Option Key) where
 is:=xJ
 hash:=λk=>match k with|none=>4238894112|some k=>keyH w k
 inj:=λv a b ha hb=>by
  cases a with
  |none=>cases b with
   |none=>rfl
   |some b=>rw[lA (show iu b v=true from hb)]at ha;cases ha
  |some a=>cases b with
   |none=>rw[lA (show iu a v=true from ha)]at hb;cases hb
   |some b=>rw[(b9 prog w).inj v a b ha hb]
 byValue:=λk v h=>by
  cases k with
  |none=>rw[fQ h];rfl
  |some k=>exact(b9 prog w).byValue k v h
 pyHash:=λ{A E s k v Q} hv h=>by
  cases k with
  |none=>rw[fQ hv];exact tJ h
  |some k=>exact(b9 prog w).pyHash (k:=k) hv h
 eqBool:=λ{A E s a b u v Q} hu hv h=>by
  cases a with
  |none =>
   rw[fQ hu];cases b with
   |none=>rw[fQ hv];exact S7.same _ _ _ _ _ (by simpa using h)
   |some b =>
    rcases br hv with zr2_|zr1_
    ·refine bv zr2_ λi t ZV ZU=>?_;subst ZV;subst ZU;exact S7.none_int i t _ _ _ _ (by simpa using h)
    ·refine bv zr1_ λx t ZV ZU=>?_;subst ZV;subst ZU;exact S7.none_str x t _ _ _ _ (by simpa using h)
  |some a =>
   cases b with
   |none =>
    rw[fQ hv];rcases br hu with zr4_|zr3_
    ·refine bv zr4_ λi t ZV ZU=>?_;subst ZV;subst ZU;exact S7.int_none i t _ _ _ _ (by simpa using h)
    ·refine bv zr3_ λx t ZV ZU=>?_;subst ZV;subst ZU;exact S7.str_none x t _ _ _ _ (by simpa using h)
   |some b =>
    refine(b9 prog w).eqBool (a:=a) (b:=b) hu hv ?_;have:decide (some a=some b)=decide (a=b):=by simp
    rw[this]at h;exact h
 «strs»:=λk x t v h=>by
  cases k with
  |none=>cases h
  |some k=>exact(b9 prog w).strs k x t v h
theorem z8{h:Heap}{f:Key->Option Value}(m:h.MapOf (b9 P w) a f):h.MapOf (xK P w) a (λk=>k.bind f):=by
 refine gM m λo es ep h1 h2 h3 h4 h5=>?_;refine⟨o,es,ep,h1,h2,h3,λe he=>?_,λk=>?_⟩
 ·refine aa (h4 e he) λk g1 g2=>?_;exact(aF (some k) g1 g2)
 ·cases k with
  |some k=>exact h5 k
  |none =>show findBy xJ es none=none;unfold findBy;rw[Option.map_eq_none_iff,Array.find?_eq_none];intro e he;refine aa (h4 e he) λk g1 x=>?_;rw[lA (show iu k e.key=true from g1)];exact Z7
section
variable {X:Cx}{ZY:ZJ}{σ:St}{H:Hp}{s:Shared}{a:Addr}{A:Around}{E:ZN}{u:Value}
theorem d_inN{Q:ZN}(I:Inv X ZY σ H s)(e:H a=some (.dK kvs))(h:∀s',Inv X ZY σ H s'->Q (.bool false) s'):wpAny (model X.prog X.w) A (R9 .In .none<|.ref a) Q E s:=by refine aV (wO I.hok e) λz hd zz=>aa zz λvs rel dd=>?_;exact wpAny_in_of (knd:=xK X.prog X.w) (k:=none) rfl hd (z8 dd.mapOf)<|h _<|I.tok _
def tDInO(ty td:TE):TE:=λσ H Q=>ty σ H λy H1=>td σ H1 λx H2=>∃a kvs,x=.ref a/\H2 a=some (.dK kvs)/\((y=.non/\Q (.bl false) H2)\/∃k,y=kV k/\Q (.bl (dP kvs k).isSome) H2)
theorem pc_dinO(hu:X.A.units+1<cLine)(hi:PE X i ty)(ho:PE X o td):PC X .In i o (tDInO ty td):=by
 intro ZY s σ H Q I h;refine bM (hi ZY s σ H _ I h) λiv s1 zq=>ay zq λy H1 I1 ry q1=>bM (ho ZY s1 σ H1 _ I1 q1) λu s2 zq=>ay zq λx H2 I2 rx zz=>ay zz λa kvs ex g q2=>?_;subst ex;obtain rfl:u=U3 a:=rx;rcases q2 with zr6_|zr5_
 ·refine ax zr6_ λZX q2=>?_;subst ZX;obtain rfl:iv=O1:=ry;exact d_inN I2 g λs3 I3=>⟨.bl false,H2,I3,rfl,q2⟩
 ·refine aa zr5_ λk ZW q2=>?_;subst ZW;exact d_in hu I2 (mf.k (k:=k) g) ry λs3 I3=>⟨.bl (dP kvs k).isSome,H2,I3,rfl,q2⟩
end
section
variable [Kn:Kon]{Γ:List Slot}{α:Type}{r:Rp α}{ta tb:TE}
theorem ev_inDO(hi:EV Γ ta oi (fg a9))(hd:EV Γ tb o (rD r)):EV Γ (tDInO ta tb) (oi.bind λk=>o.bind λd=>some<|(Pu.tI d k).isSome) bF:=by
 intro C F σ H Q b S e k;refine aa (ae e) λi e1 e=>?_;refine aa (ae e) λd e2 e=>?_;cases e;refine hi C F σ H _ i S e1 λv F' H' x1 r1=>hd C F' σ H' _ d (S.grow x1) e2 λw F2 H2 x2 zq=>ay zq λp ws e4 h1 h2=>(d4 p ws e4 (x2.sub _ _ h1) ?_);cases i with
 |none=>exact .inl ⟨r1,k _ F2 H2 (x1.trans x2) rfl⟩
 |some i =>
  have r1:v=.int i:=r1;refine .inr<|aF (.inl i) r1 ?_;refine ax (iJ (k:=i) h2) λg1 g2=>?_;have eb:(dP ws<|.inl i).isSome=(Pu.tI d<|some i).isSome:=by
   show _=(Pu.find d i).isSome;cases q:Pu.find d i with
   |none=>rw[g2 q];rfl
   |some x=>refine aa (g1 x q) λv h3 h4=>?_;rw[h3];rfl
  rw[eb];exact k _ F2 H2 (x1.trans x2) rfl
end
section
section
variable {α:Type}
theorem Ba:∀{us:List α},us.length=1->∃a,us=[a]:=λh=>List.length_eq_one_iff.mp h
theorem vK{us:List α}(h:us.length=2):∃a1 a2,us=[a1,a2]:=by
 cases us with
 |nil=>cases h
 |cons a us =>refine ao (Ba<|Nat.succ.inj h) λa2 ZW=>?_;subst ZW;exact⟨a,a2,rfl⟩
theorem len3{us:List α}(h:us.length=3):∃a1 a2 a3,us=[a1,a2,a3]:=by
 cases us with
 |nil=>cases h
 |cons a us =>refine ii (vK<|Nat.succ.inj h) λa2 a3 ZV=>?_;subst ZV;exact⟨a,a2,a3,rfl⟩
theorem len4{us:List α}(h:us.length=4):∃a1 a2 a3 a4,us=[a1,a2,a3,a4]:=by
 cases us with
 |nil=>cases h
 |cons a us =>refine gu (len3<|Nat.succ.inj h) λa2 a3 a4 ZU=>?_;subst ZU;exact⟨a,a2,a3,a4,rfl⟩
theorem len5{us:List α}(h:us.length=5):∃a1 a2 a3 a4 a5,us=[a1,a2,a3,a4,a5]:=by
 cases us with
 |nil=>cases h
 |cons a us =>refine gu (len4<|Nat.succ.inj h) λa2 a3 a4 zy0=>ao zy0 λa5 ZT=> ?_;subst ZT;exact⟨a,a2,a3,a4,a5,rfl⟩
end
variable [Kn:Kon]
end
end L2
namespace Tab
open PySem
structure Rise(t:U5):Prop where
 dum:t.dummies=#[]
 up:t.place.toList.Pairwise (·<·)
theorem pJ(f m:Nat)(l:Bool):Rise (.fresh f m l):=⟨rfl,.nil⟩
theorem d7(t:U5)(n:Nat):Rise (t.standIn n):=⟨rfl,by
 show (Array.range n).toList.Pairwise (·<·);rw[Array.toList_range];exact List.pairwise_lt_range⟩
theorem kq{xs:Zk}(up:xs.toList.Pairwise (·<·))(hk:k<xs.size)(h:i<k):xs[i]'(eJ h hk)<xs[k]:=by have:=N9.mp up i k (eJ h hk) hk h;simpa using this
theorem tK(up:xs.toList.Pairwise (·<·)):∀(f lo hi:Nat),lo<=hi->hi<=xs.size->hi-lo<=f ->
  (∀i (h:i<xs.size),i<lo->xs[i]<j)->(∀i (h:i<xs.size),hi<=i->j<=xs[i]) ->
  T9.go xs j f lo hi<=xs.size/\(∀i (h:i<xs.size),i<T9.go xs j f lo hi->xs[i]<j)/\∀i (h:i<xs.size),T9.go xs j f lo hi<=i->j<=xs[i]:=by
 intro f;induction f with
 |zero =>intro lo hi h1 h2 h3 a b;have e:hi=lo:=T5 (Nat.sub_eq_zero_iff_le.mp<|Nat.le_zero.mp h3) h1;subst e;exact⟨h2,a,b⟩
 |succ f ih =>
  intro lo hi h1 h2 h3 a b;unfold T9.go;by_cases hl:lo<hi
  ·rw[if_pos hl];have hm1:lo<=(lo+hi)/2:=by omega
   have hm2:(lo+hi)/2<hi:=by omega
   have hm:(lo+hi)/2<xs.size:=bZ hm2 h2;have eg:xs.getD ((lo+hi)/2) j=xs[(lo+hi)/2]:=by simp[Array.getD,hm]
   simp only;rw[eg];by_cases hc:xs[(lo+hi)/2]<j
   ·rw[if_pos hc];refine ih _ _ hm2 h2 (by omega) (λi h hi'=>?_) b;rcases Nat.lt_or_eq_of_le (T1 hi') with q|q
    ·exact eJ (kq up hm q) hc
    ·subst q;exact hc
   ·rw[if_neg hc];refine ih _ _ hm1 (cT hm) (by omega) a λi h hi'=>?_;rcases Nat.lt_or_eq_of_le hi' with q|q
    ·exact b8 (E7 hc)<|cT<|kq up h q
    ·subst q;exact E7 hc
  ·rw[if_neg hl];have e:hi=lo:=T5 (E7 hl) h1;subst e;exact⟨h2,a,b⟩
theorem gh(up:xs.toList.Pairwise (·<·)):
  T9 xs j<=xs.size/\(∀i (h:i<xs.size),i<T9 xs j->xs[i]<j)/\∀i (h:i<xs.size),T9 xs j<=i->j<=xs[i] :=
 tK up _ _ _ (T3 _) (bD _) (bD _) (λx x h=>absurd h<|O6 _) λi h h'=>absurd h'<|Nat.not_le.mpr h
theorem pK(up:xs.toList.Pairwise (·<·))(hk:k<xs.size):T9 xs (xs[k]+1)=k+1:=by
 refine aV (gh (j:=xs[k]+1) up) λh1 h2 h3=>?_;rcases Nat.lt_trichotomy (T9 xs<|xs[k]+1) (k+1) with q|q|q
 ·exact absurd (h3 k hk<|T1 q)<|Nat.not_succ_le_self _
 ·exact q
 ·have hk':k+1<xs.size:=bZ q h1;exact absurd (h2 (k+1) hk' q)<|U6.mpr<|kq up hk'<|W5 k
theorem pN(up:xs.toList.Pairwise (·<·)):T9 xs 0=0:=by
 refine aV (gh (j:=0) up) λh1 h2 x=>?_;rcases Nat.eq_zero_or_pos (T9 xs 0) with q|q
 ·exact q
 ·exact absurd (h2 0 (bZ q h1) q)<|O6 _
theorem lP(h:xs=#[])(j:Nat):U5.has xs j=false:=by subst h;rfl
theorem rK(r:Rise t)(h:t.slot j=.empty):∀x∈t.place.toList,x≠j:=by
 rintro x hx rfl;unfold U5.slot at h;obtain⟨k,hk,e⟩:=Q9 hx;have hk':k<t.place.size:=by simpa using hk
 have ek:t.place[k]=x:=by simpa using e
 refine aV (gh (j:=x) r.up) λh1 h2 h3=>?_;have eb:T9 t.place x=k:=by
  rcases Nat.lt_trichotomy (T9 t.place x) k with q|q|q
  ·have:=h3 _ (eJ q hk')<|bD _;exact absurd (dI this<|kq r.up hk' q) (by rw[ek];exact L6 _)
  ·exact q
  ·exact absurd (h2 k hk' q) (by rw[ek];exact L6 _)
 simp only[eb]at h;rw[if_pos (by rw[U2 hk',ek];exact beq_self_eq_true _)]at h;cases h
theorem pO(r:Rise t)(j:Nat):t.slot j≠.dummy:=by
 intro h;unfold U5.slot at h;simp only at h;split at h
 ·cases h
 ·rw[lP r.dum,if_neg Z7]at h;cases h
set_option tactic.hygienic true in
theorem tL(r:Rise t){f:Nat->Int}:∀(n:Nat) (p:U5.Probe) {j:Nat} {d:Option Nat},p.dummy=none->U5.probe.go t f h n p=some (.empty j d)->t.slot j=.empty/\d=none:=by
 intro n;induction n with
 |zero=>intro p j d _ e;cases e
 |succ n ih =>
  intro p j d hp e;unfold U5.probe.go at e;have adv:(t.advance p).dummy=none:=by
   unfold U5.advance;split
   ·exact hp
   ·exact hp
  split at e
  ·rename_i q;cases e;exact⟨q,hp⟩
  ·rename_i q;exact absurd q<|pO r _
  ·split at e
   ·cases e
   ·exact ih _ adv e
set_option tactic.hygienic true in
theorem vL(r:Rise t)(e:t.freeSlot h=some x):t.slot x.1=.empty/\x.2=false:=by
 unfold U5.freeSlot U5.probe at e;split at e
 ·rename_i j d q;refine ax (tL r _ _ rfl q) λq1 q2=>?_;subst q2;cases e;exact⟨q1,rfl⟩
 ·cases e
theorem tM(r:Rise t)(h:t.slot j=.empty):Rise (t.put j).1:=by
 refine⟨?_,?_⟩
 ·unfold U5.put;simp only;rw[lP r.dum,if_neg Z7];exact r.dum
 ·unfold U5.put;simp only;rw[U5.toList_insertAt,W6];refine aV (gh (j:=j) r.up) λh1 h2 h3=>?_;have ne:=rK r h;refine⟨r.up.sublist<|List.take_sublist _ _,List.pairwise_cons.mpr ⟨λx hx=>?_,r.up.sublist<|List.drop_sublist _ _⟩,λx hx y hy=>?_⟩
  ·obtain⟨i,hi,e⟩:=Q9 hx;rw[List.getElem_drop]at e;have hs:T9 t.place j+i<t.place.size:=by rw[J3,W8]at hi;omega
   have:=h3 _ hs<|T4 _ _;have e':t.place[T9 t.place j+i]=x:=by simpa using e
   rw[e']at this;exact Nat.lt_of_le_of_ne this λz=>ne x (J9 hx) z.symm
  ·have hxj:x<j:=by
    obtain⟨i,hi,e⟩:=Q9 hx;rw[List.getElem_take]at e;rw[S6,W8]at hi;have hs:i<t.place.size:=bZ hi<|Nat.min_le_right _ _;have:=h2 i hs<|bZ hi<|Nat.min_le_left _ _;have e':t.place[i]=x:=by simpa using e
    rw[e']at this;exact this
   rcases Y4.mp hy with q|q
   ·subst q;exact hxj
   ·obtain⟨i,hi,e⟩:=Q9 q;rw[List.getElem_drop]at e;have hs:T9 t.place j+i<t.place.size:=by rw[J3,W8]at hi;omega
    have:=h3 _ hs<|T4 _ _;have e':t.place[T9 t.place j+i]=y:=by simpa using e
    rw[e']at this;exact bZ hxj this
set_option tactic.hygienic true in
theorem nQ(r:Rise t)(es:Zu)(h:Int)(x:Value):Rise (layNew t es h x).2.1/\(layNew t es h x).2.1.led=t.led:=by
 unfold layNew;split
 ·rename_i sl wd q;refine ax (vL r q) λq1 a=>?_;simp only;unfold U5.orStandIn;split
  ·exact⟨tM r q1,rfl⟩
  ·exact⟨d7 _ _,rfl⟩
 ·exact⟨d7 _ _,rfl⟩
theorem rN(e:U5.laid m f v l p hs=some x):Rise x.1/\x.1.led=l:=by
 unfold U5.laid at e;cases q:U5.layClean m hs with
 |none=>rw[q]at e;cases e
 |some o =>
  rw[q]at e;cases e;refine⟨⟨rfl,?_⟩,rfl⟩;simp only;rw[List.pairwise_map];refine List.Pairwise.filterMap _ (λa a' h b hb b' hb'=>?_)<|List.pairwise_lt_range (n:=m+1);cases q1:o.getD a none with
  |none=>rw[q1]at hb;cases hb
  |some u=>cases q2:o.getD a' none with
   |none=>rw[q2]at hb';cases hb'
   |some u' =>rw[q1]at hb;rw[q2]at hb';cases hb;cases hb';exact h
set_option tactic.hygienic true in
theorem pP(es:Zu)(n:Nat):Rise (relayAll t es n).2.1/\(relayAll t es n).2.1.led=t.led:=by
 unfold relayAll;split
 ·rename_i t' o q;simp only;split
  ·refine ax (rN q) λq1 q2=>?_;exact⟨q1,q2⟩
  ·exact⟨d7 _ _,rfl⟩
 ·exact⟨d7 _ _,rfl⟩
theorem jp{α:Type}{l:List α}(h:i<l.length):(l[i] ::l.eraseIdx i).Perm l:=by rw[List.eraseIdx_eq_take_drop_succ];exact List.perm_middle.symm.trans (by rw[<- K7 h,W3])
theorem vM{α:Type}(next:ZG):∀(n k:Nat) (left:List α) (out:Array α),left.length=n->(pickOrder.go next n k left out).toList.Perm (out.toList++left):=by
 intro n;induction n with
 |zero =>intro k left out h;rw[List.length_eq_zero_iff.mp h,V8];exact .rfl
 |succ n ih =>
  intro k left out h;unfold pickOrder.go;have hl:next k%left.length<left.length:=Nat.mod_lt _ (by rw[h];exact Nat.succ_pos n)
  rw[Y5 hl];simp only;refine(ih (k+1) _ _ (by rw[List.length_eraseIdx_of_lt hl,h];rfl)).trans ?_;rw[Array.toList_push,X3,List.singleton_append];exact(jp hl).append_left _
theorem rO{α:Type}(next:ZG)(xs:Array α):(pickOrder next xs).toList.Perm xs.toList:=by
 have:=vM next xs.size 0 xs.toList #[] (by simp)
 unfold pickOrder;simpa using this
noncomputable def cU:Value->Int
 |.int n _=>n
 |_=>0
structure SetW(prog:U4)(w:World)(o:Obj)(es:Zu)(ep:Nat)(t:U5)(ks:ZL):Prop where
 ex:o.ExactSet
 dat:o.data=.set es ep t
 el:ElemsOf (intKind prog w) es.toList
 pm:(es.toList.map λe=>cU e.2).Perm ks
 sz:es.size<scanBound
 fit:t.fits es.size=true
 led:t.led=!w.params.followText "set-order"
 ris:Rise t
def eT(prog:U4)(w:World)(h:Heap)(a:Addr)(ks:ZL):Prop:=∃o es ep t,h.get? a=some o/\SetW prog w o es ep t ks
section
variable {prog:U4}{w:World}{A:Around}{E:ZN}{s:Shared}{a:Addr}{ks:ZL}{v:Int}{u:Tok}
theorem eT.stay(x:eT prog w h a ks)(k:∀o,h.get? a=some o->h'.get? a=some o):eT prog w h' a ks :=
 kX x λo es ep t h1 h2=>⟨o,es,ep,t,k o h1,h2⟩
theorem qu(h:ElemsOf (intKind prog w) es)(he:e∈es):∃n x,e.2=.int n x:=by obtain⟨⟨k,h1,_⟩,_⟩:=h e he;refine ao (Value.isInt_shape h1) λx e1=>?_;exact⟨k,x,e1⟩
theorem z9(h:ElemsOf (intKind prog w) es)(k:Int):(∃e∈es,(intKind prog w).is k e.2=true)↔k∈es.map λe=>cU e.2:=by rw[U9];refine exists_congr λe=>and_congr_right λhe=>?_;refine ii (qu h he) λn x q=>?_;rw[q];show (Value.isInt k (.int n x)=true)↔n=k;simp[Value.isInt]
theorem qv{h:Heap}(ho:h.get? a=some o)(x:SetW prog w o es ep t ks)(el:ElemsOf (intKind prog w) es'.toList)(pm:(es'.toList.map λe=>cU e.2).Perm ls)(sz:es'.size<scanBound)(fit:t'.fits es'.size=true)(led:t'.led=t.led)(r:Rise t'):
  (h.update a<|Obj.putSet es' t').get? a=some {o with data:=.set es' (ep+1) t'}/\SetW prog w {o with data:=.set es' (ep+1) t'} es' (ep+1) t' ls:=by
 have e:=putSet_of es' t' x.dat;have g:=Q5 (Obj.putSet es' t') ho (by rw[e];rfl);rw[e]at g;exact⟨g,x.ex,rfl,el,pm,sz,fit,led.trans x.led,r⟩
theorem nR{b:Bool}{tag:String}{Q:Unit->Shared->Prop}(h:Q () s):wpAny (model prog w) A (match b with|true=>rule tag|false=>pure ()) Q E s:=by
 cases b
 ·exact Z5 h
 ·exact D4 h
theorem vN{Q:Zd}(x:eT prog w s.heap a ks)(room:ks.length+1<scanBound)(q:∀h' b,U8 a s.heap h'->eT prog w h' a (Pu.lj ks v)->Q b {s with heap:=h'}):wpAny (model prog w) A (setAddHashed a (.int v u)<|hashInt v) Q E s:=by
 refine kX x λo es ep t ho W=>?_;have hv:(intKind prog w).is v (.int v u)=true:=by show Value.isInt v (.int v u)=true;simp[Value.isInt]
 have any:(ks.any (·==v)=true)↔∃e∈es.toList,(intKind prog w).is v e.2=true:=by rw[z9 W.el,W.pm.mem_iff];simp
 unfold setAddHashed setAddHashedIn;refine T6<|Z0<|wpAny_setState_of ho W.dat W.fit ?_;dsimp only;rw[byScan_of (knd:=intKind prog w) rfl W.sz W.el,if_pos rfl];unfold setAddByScan;refine Z0<|Z0<|D4<|Z0<|wpAny_setScan_of (knd:=intKind prog w) hv ho W.dat W.fit W.el ?_;cases hr:es.toList.findIdx? (λe=>(intKind prog w).is v e.2) with
 |some j =>
  obtain⟨hj,hp,_⟩:=List.findIdx?_eq_some_iff_getElem.mp hr;have e:Pu.lj ks v=ks:=by unfold Pu.lj;rw[if_pos (any.mpr ⟨_,E9 hj,hp⟩)]
  have:=q s.heap false (U8.refl a s.heap) (by rw[e];exact⟨o,es,ep,t,ho,W⟩);exact Z5<|Z5 this
 |none =>
  have e:Pu.lj ks v=ks++[v]:=by unfold Pu.lj;rw[if_neg];rw[any];intro zq;refine aa zq λz hz hp=>?_;have:=List.findIdx?_eq_none_iff.mp hr z hz;rw[hp]at this;cases this
  rw[e]at q;dsimp only;have p1:=layNew_perm t es (hashInt v)<|.int v u;have f1:=layNew_fits t es (hashInt v)<|.int v u;refine ax (nQ W.ris es (hashInt v)<|.int v u) λr1 l1=>?_;generalize layNew t es (hashInt v) (.int v u)=L at p1 f1 r1 l1 ⊢;obtain⟨es1,t1,wd,gv⟩:=L;dsimp only at p1 f1 r1 l1 ⊢;rw[Array.toList_push]at p1;have el1:ElemsOf (intKind prog w) es1.toList:=(W.el.push (k:=v) hv rfl).perm p1;have za:(es1.toList.map λe=>cU e.2).Perm (ks++[v]):=by have:=p1.map λe=>cU e.2;rw[T0]at this;exact this.trans<|W.pm.append_right _
  have Ba:es1.size=ks.length+1:=by
   have:=za.length_eq
   rwa [Y0,Y9,W8]at this
  have sz1:es1.size<scanBound:=by rw[Ba];exact room
  refine Z0<|nR ?_;split
  rotate_left
  all_goals
   try rw[hashByValue_scannable 8 rfl]
   refine Z0<|Z5 ?_;simp only[plainKind,if_true];refine ax (qv ho W el1 za sz1 f1 l1 r1) λg1 W1=>?_;refine Z0<|wpAny_storeSet_of ho W.dat ?_<|fits_of_scanBound sz1;have k1:=T2 s.heap a<|Obj.putSet es1 t1;split
   ·have p2:=relayAll_perm t1 es1<|U5.grown es1.size;have f2:=relayAll_fits t1 es1<|U5.grown es1.size;refine ax (pP (t:=t1) es1<|U5.grown es1.size) λr2 l2=>?_;generalize relayAll t1 es1 (U5.grown es1.size)=L at p2 f2 r2 l2 ⊢;obtain⟨es2,t2,gw⟩:=L;dsimp only at p2 f2 r2 l2 ⊢;have vK:es2.size=es1.size:=by rw[<- W8,p2.length_eq,W8]
    have sz2:es2.size<scanBound:=by rw[vK];exact sz1
    refine ax (qv g1 W1 (el1.perm p2) ((p2.map λe=>cU e.2).trans za) sz2 f2 l2 r2) λg2 W2=>?_;refine Z0<|nR ?_;refine Z0<|wpAny_storeSet_of g1 rfl ?_<|fits_of_scanBound sz2;exact Z5<|Z5<|q _ _ (k1.trans<|T2 _ a _) ⟨_,_,_,_,g2,W2⟩
   ·exact Z5<|Z5<|q _ _ k1 ⟨_,_,_,_,g1,W1⟩
end
theorem bJ:Slot "set_iterator" "__next__" "set_iterator.__next__":=.of (owner:="set_iterator") (n:="__next__") (by rw[typeLookup_type,builtinLookup_eq_fast];kernel_rfl) (by decide +kernel) (by decide +kernel) (by decide +kernel) (by first|exact .inl (by decide +kernel)|exact .inr (by decide +kernel)) (by rw[isSubtype_type];kernel_rfl)
theorem nT:Slot "set_iterator" "__iter__" "set_iterator.__iter__":=.of (owner:="set_iterator") (n:="__iter__") (by rw[typeLookup_type,builtinLookup_eq_fast];kernel_rfl) (by decide +kernel) (by decide +kernel) (by decide +kernel) (by first|exact .inl (by decide +kernel)|exact .inr (by decide +kernel)) (by rw[isSubtype_type];kernel_rfl)
theorem hJ:entryFor table "set_iterator.__next__"=some R5.«set_iterator.__next__»:=entryFor_of_tree (by kernel_rfl)
theorem vO:entryFor table "set_iterator.__iter__"=some R5.«dict_keyiterator.__iter__»:=entryFor_alias (id':="dict_keyiterator.__iter__") (by kernel_rfl) rfl (by decide +kernel) (by kernel_rfl)
theorem vP:entryFor table "set.__iter__"=some R5.«frozenset.__iter__»:=entryFor_alias (id':="frozenset.__iter__") (by kernel_rfl) rfl (by decide +kernel) (by kernel_rfl)
theorem tN:Manifest.owners.lookup (String.ofList ['r','o','t','a','r','e','t','i','_','t','e','s'].reverse)=some Manifest.sig_set_iterator:=by kernel_rfl
theorem hO(a:Value):argsOk "set_iterator.__next__" ⟨[a],[]⟩:=by unfold argsOk;rw[signature?_of (id:="set_iterator.__next__") (n:=['_','_','t','x','e','n','_','_']) (o:=['r','o','t','a','r','e','t','i','_','t','e','s']) (by kernel_rfl) tN];kernel_rfl
theorem vQ(a:Value):argsOk "set_iterator.__iter__" ⟨[a],[]⟩:=by unfold argsOk;rw[signature?_of (id:="set_iterator.__iter__") (n:=['_','_','r','e','t','i','_','_']) (o:=['r','o','t','a','r','e','t','i','_','t','e','s']) (by kernel_rfl) tN];kernel_rfl
def dA(h:Heap)(I a:Addr)(f0:Value)(i n ep:Nat):Prop:=∃o,h.get? I=some o/\o.cls=.type "set_iterator"/\o.data=.fields #[f0,.int i 0,.ref a,.int n 0,.int ep 0]
section
variable {prog:U4}{w:World}{A:Around}{E:ZN}{s:Shared}{a I:Addr}{ks:ZL}{o:Obj}{es:Zu}{ep i n:Nat}{t:U5}{f0:Value}
theorem dA.ty(x:dA s.heap I a f0 i n ep):s.TypeIs (.ref I) "set_iterator":=aE x λo h1 h2 b=>⟨o,h1,h2⟩
theorem dA.stay(x:dA h I a f0 i n ep)(k:∀o,h.get? I=some o->h'.get? I=some o):dA h' I a f0 i n ep:=aa x λo h1 h2=>⟨o,k o h1,h2⟩
theorem nU{Q:ZN}(x:dA s.heap I a f0 i n ep)(q:Q (.ref I) s):wpAny (model prog w) A (pyIter<|.ref I) Q E s:=by refine wpAny_pyIter_slot x.ty nT<|R7 nT x.ty vO ?_<|vQ _;show wpAny _ _ (ret<|.ref I) _ _ s;exact Z5 ⟨_,rfl,_,_,x.ty,bJ.lookup,q⟩
noncomputable def fI(prog:U4)(w:World)(a:Addr)(slot i ep:Nat)(r:Option (Value×Nat))(s:Shared):Prop :=
 ∀(A:Around) (E:ZN) (Q:Option (Value×Nat)->Shared->Prop),Q r s->wpAny (model prog w) A (setNext a slot i ep) Q E s
theorem vR{slot nx:Nat}{Q:Zm}(y:dA s.heap I a (.int slot 0) i n ep)(ho:s.heap.get? a=some o)(W:SetW prog w o es ep t ks)(hn:es.size=n)(nxt:fI prog w a slot i ep (some (x,nx)) s)(q:∀h',dA h' I a (.int nx 0) (i+1) n ep->U8 I s.heap h'->Q (some x) {s with heap:=h'}):wpAny (model prog w) A (pyNext<|.ref I) Q E s:=by refine aE (id y) λob h1 h2 h3=>?_;unfold pyNext;refine Z0<|wpAny_attempt<|M9 (name:=J5 "__next__") y.ty bJ<|R7 bJ y.ty hJ ?_<|hO _;show wpAny _ _ (fieldsOf (.ref I) >>= _) _ _ s;refine Z0<|wpAny_fieldsOf h1 h3 ?_;show wpAny _ _ (setEntries a >>= _) _ _ s;refine Z0<|wpAny_setEntries_of ho W.dat W.fit ?_;rw[if_neg (by rw[hn];simp)];show wpAny _ _ (setNext a slot i ep >>= _) _ _ s;refine Z0<|nxt _ _ _ ?_;dsimp only;refine Z0<|D5 h1 h3 (by simp) ?_;have u1:=Q5 (Obj.mapFields (·.setIfInBounds 0 (rawInt nx))) h1<|D7<|O3 h3 _;have d1:=O3 h3 (·.setIfInBounds 0 (rawInt nx));refine Z0<|D5 u1 d1 (by simp)<|Z5 ⟨x,rfl,Z5<|q _ ?_<|(T2 ..).trans (T2 ..)⟩;exact⟨_,Q5 _ u1<|D7<|O3 d1 _,(Obj.cls_mapFields ..).trans ((Obj.cls_mapFields ..).trans h2),by rw[O3 d1];simp[rawInt]⟩
theorem nV{Q:Zm}{C:Sem PySem.Fin}(hh:A.handled=none)(hC:C=newExc (.type "StopIteration") [] >>= λe=>raiseNew e)(q:∀h',(∀b o,s.heap.get? b=some o->h'.get? b=some o)->Q none {s with heap:=h'}):
  wpAny (model prog w) A.in1 C (λx x=>False) (λe s'=>wpAny (model prog w) A (isInstance e (.type "StopIteration") >>= λb=>if b=true then pure none else throw e) Q E s') s:=by
 subst hC;refine Z0 ?_;unfold newExc newTuple;refine Z0<|O0 ?_ (by size_fits);refine Z0 (m:=firstArgMember _ _)<|wpAny_of_eq (a:=.none) (by first|rfl|(unfold firstArgMember;rfl))<|O0 ?_ (by size_fits);unfold raiseNew;refine Z0<|wpAny_handled ?_;rw[show A.in1.handled=none from hh];refine Z0<|Z5<|wpAny_throw<|Z0 ?_;refine wpAny_isInstance (b:=true) (T:="StopIteration") ⟨_,Y7 _ rfl,rfl⟩ isSubtype_stop ?_;exact Z5 (q _ λb o e=>Z3 _<|Z3 _ e)
theorem zb{slot:Nat}{Q:Zm}(hh:A.handled=none)(y:dA s.heap I a (.int slot 0) i n ep)(ho:s.heap.get? a=some o)(W:SetW prog w o es ep t ks)(hn:es.size=n)(nxt:fI prog w a slot i ep none s)(q:∀h',(∀b o,b≠I->s.heap.get? b=some o->h'.get? b=some o)->Q none {s with heap:=h'}):wpAny (model prog w) A (pyNext<|.ref I) Q E s:=by refine aE (id y) λob h1 h2 h3=>?_;unfold pyNext;refine Z0<|wpAny_attempt<|M9 (name:=J5 "__next__") y.ty bJ<|R7 bJ y.ty hJ ?_<|hO _;show wpAny _ _ (fieldsOf (.ref I) >>= _) _ _ s;refine Z0<|wpAny_fieldsOf h1 h3 ?_;show wpAny _ _ (setEntries a >>= _) _ _ s;refine Z0<|wpAny_setEntries_of ho W.dat W.fit ?_;rw[if_neg (by rw[hn];simp)];show wpAny _ _ (setNext a slot i ep >>= _) _ _ s;refine Z0<|nxt _ _ _ ?_;dsimp only;refine Z0<|D5 h1 h3 (by simp) ?_;refine R0 (nV (s:={s with heap:=s.heap.update I (Obj.mapFields (·.setIfInBounds 2 .none))}) (Q:=Q) (E:=E) hh rfl λh' k=>q h' λb o' hb e=>k b o'<|(T2 s.heap I _).extBut b o' hb e) (λx x z=>z.elim) λe s' z=>?_;exact z
theorem vS{p:Nat}{Q:Zm}(y:dA s.heap I a (.ref T) i n ep)(ho:s.heap.get? a=some o)(W:SetW prog w o es ep t ks)(hn:es.size=n)(hT:s.heap.get? T=some oT)(dT:oT.data=.seq ps m)(hp:ps[i]?=some (.int p tk))(hx:es[p]?=some x)(q:∀h',dA h' I a (.ref T) (i+1) n ep->U8 I s.heap h'->Q (some x.2) {s with heap:=h'}):wpAny (model prog w) A (pyNext<|.ref I) Q E s:=by refine aE (id y) λob h1 h2 h3=>?_;unfold pyNext;refine Z0<|wpAny_attempt<|M9 (name:=J5 "__next__") y.ty bJ<|R7 bJ y.ty hJ ?_<|hO _;show wpAny _ _ (fieldsOf (.ref I) >>= _) _ _ s;refine Z0<|wpAny_fieldsOf h1 h3 ?_;show wpAny _ _ (setEntries a >>= _) _ _ s;refine Z0<|wpAny_setEntries_of ho W.dat W.fit ?_;rw[if_neg (by rw[hn];simp)];show wpAny _ _ (seqItems? (.ref T) >>= _) _ _ s;refine Z0<|D1 hT dT ?_;simp only[V3,hp];refine Z0 ?_;unfold setNextDrawn;refine Z0<|wpAny_setState_of ho W.dat W.fit ?_;dsimp only;rw[if_neg (by simp),hx];refine Z5 ?_;refine Z0<|D5 h1 h3 (by simp)<|Z5 ⟨_,rfl,Z5<|q _ ?_<|T2 ..⟩;exact⟨_,Q5 _ h1<|D7<|O3 h3 _,(Obj.cls_mapFields ..).trans h2,by rw[O3 h3];simp[rawInt]⟩
theorem zc{Q:Zm}(hh:A.handled=none)(y:dA s.heap I a (.ref T) i n ep)(ho:s.heap.get? a=some o)(W:SetW prog w o es ep t ks)(hn:es.size=n)(hT:s.heap.get? T=some oT)(dT:oT.data=.seq ps m)(hp:ps[i]?=none)(q:∀h',(∀b o,b≠I->s.heap.get? b=some o->h'.get? b=some o)->Q none {s with heap:=h'}):wpAny (model prog w) A (pyNext<|.ref I) Q E s:=by refine aE (id y) λob h1 h2 h3=>?_;unfold pyNext;refine Z0<|wpAny_attempt<|M9 (name:=J5 "__next__") y.ty bJ<|R7 bJ y.ty hJ ?_<|hO _;show wpAny _ _ (fieldsOf (.ref I) >>= _) _ _ s;refine Z0<|wpAny_fieldsOf h1 h3 ?_;show wpAny _ _ (setEntries a >>= _) _ _ s;refine Z0<|wpAny_setEntries_of ho W.dat W.fit ?_;rw[if_neg (by rw[hn];simp)];show wpAny _ _ (seqItems? (.ref T) >>= _) _ _ s;refine Z0<|D1 hT dT ?_;simp only[V3,hp];refine Z0<|D5 h1 h3 (by simp) ?_;have u1:=Q5 (Obj.mapFields (·.setIfInBounds 0 (rawInt 0))) h1<|D7<|O3 h3 _;have d1:=O3 h3 (·.setIfInBounds 0 (rawInt 0));refine Z0<|D5 u1 d1 (by simp) ?_;refine R0 (nV (s:={s with heap:=(s.heap.update I<|Obj.mapFields (·.setIfInBounds 0 (rawInt 0))).update I (Obj.mapFields (·.setIfInBounds 2 .none))}) (Q:=Q) (E:=E) hh rfl λh' k=>q h' λb o' hb e=>k b o'<|((T2 s.heap I _).trans (T2 _ I _)).extBut b o' hb e) (λx x z=>z.elim) λe s' z=>?_;exact z
end
section
variable {prog:U4}{w:World}{A:Around}{E:ZN}{s:Shared}{a I:Addr}{ks:ZL}{o:Obj}{es:Zu}{ep i n:Nat}{t:U5}
theorem hU{Q:Zd}(q:Q (w.params.followText "set-order") s):wpAny (model prog w) A setsByText Q E s:=by unfold setsByText;exact Z0<|wpAny_askSetting<|Z5 q
theorem vT(ho:s.heap.get? a=some o)(W:SetW prog w o es ep t ks)(hb:w.params.followText "set-order"=true):
  fI prog w a slot i ep (((pickOrder (w.params.setOrder a ep) es)[i]?).map λe=>(e.2,slot)) s:=by
 intro A E Q q;unfold setNext;refine Z0<|wpAny_setState_of ho W.dat W.fit ?_;dsimp only;refine Z0<|hU ?_;rw[hb,if_pos rfl,if_neg (by simp)];refine Z0 ?_;unfold setWalk;refine Z0<|wpAny_setState_of ho W.dat W.fit ?_;dsimp only;refine Z0<|hU ?_;rw[hb,if_pos rfl];exact Z0<|wpAny_askSetting<|Z5<|Z5 q
theorem vU(ho:s.heap.get? a=some o)(W:SetW prog w o es ep t ks)(hb:w.params.followText "set-order"=false)(hp:(!t.plain&&decide (es.size > 1))=false)(hk:T9 t.place slot=i)(hi:i<=es.size):
  fI prog w a slot i ep ((es[i]?).map λe=>(e.2,t.place.getD i 0+1)) s:=by
 intro A E Q q;have hl:t.led=true:=by rw[W.led,hb];rfl
 have sz:t.place.size=es.size:=by have:=W.fit;unfold U5.fits at this;simp only[E6,beq_iff_eq]at this;exact this.1
 unfold setNext;refine Z0<|wpAny_setState_of ho W.dat W.fit ?_;dsimp only;refine Z0<|hU ?_;rw[hb,if_neg Z7];show wpAny _ _ (if (!t.plain&&decide (es.size > 1))=true then _ else _) _ _ _;rw[hp,if_neg Z7];show wpAny _ _ ((if (!t.led&&!es.isEmpty)=true then _ else _) >>= _) _ _ _;rw[hl,if_neg (by simp)];refine Z0<|Z5 ?_;refine Z5 ?_;rw[hk];rcases Nat.lt_or_eq_of_le hi with z|z
 ·have z':i<t.place.size:=by rw[sz];exact z
  have g:t.place.getD i 0=t.place[i]:=by simp[Array.getD,z']
  rw[g]at q;rw[U2 z]at q ⊢;rw[U2 z'];exact q
 ·subst z;rw[E3 (bD _)]at q ⊢;exact q
def vV(ord:Zu)(i:Nat)(v:Value):Prop:=∃e,ord[i]?=some e/\v=e.2
theorem tO(hh:A.handled=none)(hne:a≠I)(W:SetW prog w o es ep t ks)(sl:ZG)(ord:Zu)(hs:ord.size=es.size)(nx:∀i (s:Shared),i<=es.size->s.heap.get? a=some o->fI prog w a (sl i) i ep (ord[i]?.map λe=>(e.2,sl (i+1))) s):
  WalksS prog w A I [I,a] [I] (λx y=>y=x) es.size (vV ord) (λi s=>dA s.heap I a (.int (sl i) 0) i es.size ep/\s.heap.get? a=some o) where
 sub:=λb hb=>by rw[Y3.mp hb];exact V1
 grefl:=λh=>rfl
 gtrans:=λh h h h1 h2=>h2.trans h1
 frame:=λi s h' h st h k=>⟨st.1.stay λo e=>k I V1 o e,k a (W4 _ V1) _ st.2⟩
 item:=λi s Q E hi st hQ=>by
  have hi':i<ord.size:=by rw[hs];exact hi
  have:=nx i s (cT hi) st.2;rw[U2 hi',Option.map_some]at this;refine vR st.1 st.2 W rfl this λh' y k=>hQ _ _ ⟨_,U2 hi',rfl⟩ ⟨y,k.extBut _ _ hne st.2⟩ ⟨λb o' hb e=>k.extBut b o' (λz=>hb (by rw[z];exact Y3.mpr rfl)) e,rfl,rfl,rfl,bD _⟩
 done:=λs Q E st hQ=>by have:=nx es.size s (bD _) st.2;rw[E3 (bG hs),Option.map_none]at this;exact zb hh st.1 st.2 W rfl this λh' k=>hQ _ ⟨λb o' hb e=>k b o' (λz=>hb (by rw[z];exact Y3.mpr rfl)) e,rfl,rfl,rfl,bD _⟩
 self:=λi s Q E st q=>nU st.1 q
theorem vW{ps:ZM}(hh:A.handled=none)(hne:a≠I)(hnT:T≠I)(W:SetW prog w o es ep t ks)(ord:Zu)(hs:ord.size=es.size)(dT:oT.data=.seq (ps.map λ(p:Nat)=>rawInt p).toArray m)(hps:ps.length=es.size)(hord:∀i (h:i<ps.length),es[ps[i]]?=ord[i]?):
  WalksS prog w A I [I,a,T] [I] (λx y=>y=x) es.size (vV ord) (λi s=>dA s.heap I a (.ref T) i es.size ep/\s.heap.get? a=some o/\s.heap.get? T=some oT) where
 sub:=λb hb=>by rw[Y3.mp hb];exact V1
 grefl:=λc=>rfl
 gtrans:=λc c c h1 h2=>h2.trans h1
 frame:=λi s h' c st c k=>⟨st.1.stay λo e=>k I V1 o e,k a (W4 _ V1) _ st.2.1,k T (W4 _<|W4 _ V1) _ st.2.2⟩
 item:=λi s Q E hi st hQ=>by
  have hi':i<ord.size:=by rw[hs];exact hi
  have hi2:i<ps.length:=by rw[hps];exact hi
  have e1:(ps.map λ(p:Nat)=>rawInt p).toArray[i]?=some (.int (ps[i]:Nat) 0):=by rw[Q6,X2,Y5 hi2];rfl
  refine vS (x:=ord[i]) st.1 st.2.1 W rfl st.2.2 dT e1 ((hord i hi2).trans (U2 hi')) λh' y k=>hQ _ _ ⟨_,U2 hi',rfl⟩ ⟨y,k.extBut _ _ hne st.2.1,k.extBut _ _ hnT st.2.2⟩ ⟨λb o' hb e=>k.extBut b o' (λz=>hb (by rw[z];exact Y3.mpr rfl)) e,rfl,rfl,rfl,bD _⟩
 done:=λs Q E st hQ=>by refine zc hh st.1 st.2.1 W rfl st.2.2 dT ?_ λh' k=>hQ _ ⟨λb o' hb e=>k b o' (λz=>hb (by rw[z];exact Y3.mpr rfl)) e,rfl,rfl,rfl,bD _⟩;rw[Q6,D8 (by rw[Y0,hps];exact bD _)]
 self:=λi s Q E st q=>nU st.1 q
theorem tP{Q:Nat->Shared->Prop}(hn:n≠0)(q:∀i d',i<n->Q i {s with drawn:=d'}):wpAny (model prog w) A (choose src n) Q E s:=by intro Γ p _;unfold choose;rw[Sem.wp_choose];exact⟨hn,q _ _<|Nat.mod_lt _<|Nat.pos_of_ne_zero hn⟩
theorem tQ{α:Type}:∀(n:Nat) (xs:List α) (s:Shared) {Q:List α->Shared->Prop},xs.length=n->(∀ys d',ys.Perm xs->Q ys {s with drawn:=d'})->wpAny (model prog w) A (drawOrder n xs) Q E s:=by
 intro n;induction n with
 |zero =>intro xs s Q h q;unfold drawOrder;exact Z5<|q [] s.drawn (by rw[List.length_eq_zero_iff.mp h])
 |succ n ih =>
  intro xs s Q h q;cases xs with
  |nil=>cases h
  |cons x xs =>unfold drawOrder;refine Z0 (tP (by rw[h];exact Nat.succ_ne_zero n) λi d' hi=>?_);rw[Y5 hi];dsimp only;refine Z0 (ih _ _ (by rw[List.length_eraseIdx_of_lt hi,h];rfl) λys d2 hy=>?_);exact Z5<|q _ _<|(hy.cons _).trans (jp hi)
theorem tR{α:Type}[Inhabited α]{es:Array α}:∀{ps:ZM},(∀p∈ps,p<es.size)->ps.filterMap (λp=>es[p]?)=ps.map λp=>es.getD p default
 |[],_=>rfl
 |p ::ps,h=>by have hp:p<es.size:=h p V1;rw[List.filterMap_cons_some (U2 hp),W7,tR λq hq=>h q<|W4 _ hq];simp[Array.getD,hp]
theorem tS{Q:ZN}(hh:A.handled=none)(x:eT prog w s.heap a ks)(q:∀h' d' I fp ord St,(∀b o,s.heap.get? b=some o->h'.get? b=some o)->s.heap.objs.size<=I->(∀b∈fp,b=a\/s.heap.objs.size<=b)->WalksS prog w A I fp [I] (λx y=>y=x) ks.length (vV ord) St->St 0 {s with heap:=h',drawn:=d'} ->
   ord.size=ks.length->(∀e∈ord.toList,∃n u,e.2=.int n u)->(ord.toList.map λe=>cU e.2).Perm ks->Q (.ref I) {s with heap:=h',drawn:=d'}):
  wpAny (model prog w) A (pyIter<|.ref a) Q E s:=by
 refine kX x λo es ep t ho W=>?_;have hT:s.TypeIs (.ref a) "set":=⟨o,ho,W.ex.1⟩;have hal:a<s.heap.objs.size:=X0 ho;have len:es.size=ks.length:=by
  have:=W.pm.length_eq
  rwa [Y0,W8]at this
 refine wpAny_pyIter_slot hT F.slot_set_iter<|R7 F.slot_set_iter hT vP ?_<|F.args_set_iter_1 _;unfold R5.«frozenset.__iter__»;refine Z0 (m:=R5.Frozenset.slot0 _ _)<|Z5 ?_;refine Z0 (m:=R5.Frozenset.sizeOf _)<|Z0<|wpAny_setEntries_of ho W.dat W.fit<|Z5 ?_;refine Z0 (m:=setDrawn _) ?_;unfold setDrawn;refine Z0<|wpAny_setState_of ho W.dat W.fit ?_;dsimp only;refine Z0<|hU<|Z5 ?_;have zIs:∀{l:Zu},l.toList.Perm es.toList->∀e∈l.toList,∃n u,e.2=.int n u:=λp e he=>qu W.el<|p.mem_iff.mp he;have pks:∀{l:Zu},l.toList.Perm es.toList->(l.toList.map λe=>cU e.2).Perm ks:=λp=>(p.map _).trans W.pm;have lks:∀{l:Zu},l.toList.Perm es.toList->l.size=es.size:=λp=>by rw[<- W8,p.length_eq,W8]
 have plainly:∀(sl:ZG) (ord:Zu),sl 0=0->ord.toList.Perm es.toList ->
   (∀i (s:Shared),i<=es.size->s.heap.get? a=some o->fI prog w a (sl i) i ep (ord[i]?.map λe=>(e.2,sl (i+1))) s) ->
   Q (.ref s.heap.objs.size) {s with heap:=s.heap.push {cls:=.type "set_iterator",data:=.fields #[.int 0 0,.int 0 0,.ref a,.int es.size 0,.int ep 0]}}:=by
  intro sl ord h0 hp nx;have hne:a≠s.heap.objs.size:=dH hal;have wk:=tO (A:=A) (I:=s.heap.objs.size) hh hne W sl ord (lks hp) nx;refine q _ s.drawn _ _ ord _ (λb o' e=>Z3 _ e) (bD _) (λb hb=>?_) (len▸wk) ⟨?_,Z3 _ ho⟩ ((lks hp).trans len) (zIs hp)<|pks hp
  ·rcases Y4.mp hb with z|z
   ·exact .inr<|bG z.symm
   ·exact .inl<|Y3.mp z
  ·exact⟨_,Y7 _ rfl,rfl,by rw[h0,<- len];rfl⟩
 cases hb:w.params.followText "set-order" with
 |true =>rw[if_neg (by simp)];refine Z0<|Z5 ?_;refine Z0<|wpAny_setEpoch_of ho W.dat W.fit ?_;refine Z0<|O0<|Z5 ⟨_,rfl,"set_iterator",_,⟨_,Y7 _ rfl,rfl⟩,bJ.lookup,?_⟩;exact plainly (λc=>0) _ rfl (rO (w.params.setOrder a ep) es) λi s' c h'=>vT h' W hb
 |false =>
  show wpAny _ _ (if (!false&&(!t.plain&&decide (es.size > 1)))=true then _ else _) _ _ _;by_cases hp:(!t.plain&&decide (es.size > 1))=true
  ·rw[if_pos (show (!false&&(!t.plain&&decide (es.size > 1)))=true by rw[hp];rfl)];refine Z0 (tQ _ _ _ U1 λps d' hps=>?_);have lps:ps.length=es.size:=hps.length_eq.trans U1;refine Z0<|wpAny_newTuple ?_ (by rw[Y0,lps];exact fits_of_scanBound W.sz);refine Z0<|wpAny_setEpoch_of (Z3 _ ho) W.dat W.fit ?_;refine Z0<|O0<|Z5 ⟨_,rfl,"set_iterator",_,⟨_,Y7 _ rfl,rfl⟩,bJ.lookup,?_⟩;have lt:∀p∈ps,p<es.size:=λp h=>P7.mp<|hps.mem_iff.mp h;have pm:(ps.filterMap λp=>es[p]?).Perm es.toList:=by
    have:=hps.filterMap λp=>es[p]?
    rwa [filterMap_getElem?_range]at this
   have em:ps.filterMap (λp=>es[p]?)=ps.map λp=>es.getD p default:=tR lt;have hne:a≠(s.heap.push {cls:=.type "tuple",data:=.seq (ps.map λ(p:Nat)=>rawInt p).toArray}).objs.size:=by rw[L8];exact dH<|T7 hal
   have hnT:s.heap.objs.size≠(s.heap.push {cls:=.type "tuple",data:=.seq (ps.map λ(p:Nat)=>rawInt p).toArray}).objs.size:=by rw[L8];exact dH<|W5 _
   have hp':(ps.filterMap λp=>es[p]?).toArray.toList.Perm es.toList:=pm;have wk:=vW (A:=A) (prog:=prog) (w:=w) (T:=s.heap.objs.size) (oT:={cls:=.type "tuple",data:=.seq (ps.map λ(p:Nat)=>rawInt p).toArray}) (m:=0) hh hne hnT W (ps.filterMap λp=>es[p]?).toArray (lks hp') rfl lps λi h=>by have:=lt _<|E9 h;rw[em];simp[Array.getD,this,h]
   refine q _ d' _ _ _ _ (λb o' e=>Z3 _<|Z3 _ e) (by rw[L8];exact P3 _) (λb hb=>?_) (len▸wk) ⟨?_,Z3 _<|Z3 _ ho,Z3 _<|Y7 _ rfl⟩ ((lks hp').trans len) (zIs hp')<|pks hp'
   ·rcases Y4.mp hb with z|z
    ·rw[z,L8];exact .inr<|P3 _
    ·rcases Y4.mp z with z|z
     ·exact .inl z
     ·exact .inr<|bG (Y3.mp z).symm
   ·exact⟨_,Y7 _ rfl,rfl,by rw[<- len];rfl⟩
  ·rw[if_neg (show ¬ ((!false&&(!t.plain&&decide (es.size > 1)))=true) by rw[Bool.not_false,Bool.true_and];exact hp)];refine Z0<|Z5 ?_;refine Z0<|wpAny_setEpoch_of ho W.dat W.fit ?_;refine Z0<|O0<|Z5 ⟨_,rfl,"set_iterator",_,⟨_,Y7 _ rfl,rfl⟩,bJ.lookup,?_⟩;refine plainly (λi=>if i=0 then 0 else t.place.getD (i-1) 0+1) es rfl .rfl λi s' hi h'=>?_;have sz:t.place.size=es.size:=by have:=W.fit;unfold U5.fits at this;simp only[E6,beq_iff_eq]at this;exact this.1
   have hk:T9 t.place (if i=0 then 0 else t.place.getD (i-1) 0+1)=i:=by
    cases i with
    |zero=>exact pN W.ris.up
    |succ i =>
     have hi':i<t.place.size:=by rw[sz];exact hi
     rw[if_neg (Nat.succ_ne_zero i),Nat.add_sub_cancel,show t.place.getD i 0=t.place[i] by simp[Array.getD,hi']];exact pK W.ris.up hi'
   exact vU h' W hb (Bool.not_eq_true _▸hp) hk hi
end
section
variable {prog:U4}{w:World}{A:Around}{E:ZN}{s:Shared}{a I:Addr}{ks:ZL}
theorem tT{Q:Zd}(hT:s.TypeIs (.ref a) "set")(q:Q false s):wpAny (model prog w) A (R5.List.listLengthHint<|.ref a) Q E s:=by
 unfold R5.List.listLengthHint;refine Z0<|wpAny_specialOf hT F.slot_set_len.lookup ?_;generalize hid:("set.__len__":String)=id0
 wp_delta
 rw[show splitId id0=some ("set","__len__") from by subst hid;decide +kernel];subst hid;refine Z0<|wpAny_isInstance (b:=true) (T:="set") hT (by rw[isSubtype_type];kernel_rfl) ?_;refine wpAny_ite_split (λz=>absurd z (by decide)) λx=>wpAny_ite_split (λx=>Z0<|wpAny_typeOf hT<|Z5 q) λz=>absurd (by decide +kernel) z
theorem pQ{R:Result->Shared->Prop}{L:Addr}{res:Value}{c:Nat}(hh:A.handled=none)(x:eT prog w s.heap a ks)(hLa:L≠a)(hL:s.heap.get? L=some {cls:=.type "list",data:=.seq #[] c})(q:∀h' d' tk acc c',(∀b o,b≠L->s.heap.get? b=some o->h'.get? b=some o)->h'.get? L=some {cls:=.type "list",dict:=none,data:=.seq acc c',slots:=#[]}->(∀v∈acc.toList,∃n u,v=.int n u)->(acc.toList.map cU).Perm ks->R (.ok<|.ret res) {s with heap:=h',drawn:=d',toks:=tk}):
  wpAny (model prog w) A.in1 (R5.List.listExtendWith (.ref L) (.ref a) res) (λfin s'=>match fin with|.done f=>R (.ok f) s'|.again c'=>c'.quiet=true/\codeAny (model prog w) A c' R s') (λe s'=>R (.error e) s') s:=by
 have hT:s.TypeIs (.ref a) "set":=kX x λo h h h h1 h2=>⟨o,h1,h2.ex.1⟩;have hn:ks.length<=W9:=by refine kX x λh es h h h W=>?_;rw[<- W.pm.length_eq,Y0,W8];exact fits_of_scanBound W.sz
 have same:R5.List.listSameRef (.ref L) (.ref a)=false:=by simp[R5.List.listSameRef,hLa]
 unfold R5.List.listExtendWith;refine Z0<|wpAny_typeOf hT ?_;rw[same];simp only[show (Value.type "set"==Value.type "list")=false by decide,show (Value.type "set"==Value.type "tuple")=false by decide,Bool.or_false,Q4,if_false];refine Z0 (tS (A:=A.in1) hh x λh' d' I fp ord St k hI hfp wk st ho hi hp=>?_);have hT':Shared.TypeIs {s with heap:=h',drawn:=d'} (.ref a) "set":=aa hT λo h1 h2=>⟨o,k a o h1,h2⟩;have hLI:L∉fp:=λz=>by
  rcases hfp L z with z|z
  ·exact hLa z
  ·exact absurd (X0 hL)<|U6.mpr z
 refine Z0<|T6<|tT hT' ?_;refine wpAny_ite_split (λh=>?_) λz=>absurd (by decide +kernel) z;have u0:=k _ _ hL;have u1:=Q5 (X6 (·.push .none)) u0 rfl;have u2:=Q5 (X6 (·.pop)) u1 rfl;have oth:∀b o,b≠L->h'.get? b=some o->((h'.update L<|X6 (·.push .none)).update L (X6 (·.pop))).get? b=some o :=
  λb o hb e=>((T2 h' L _).trans (T2 _ L _)).extBut b o hb e
 have st':=wk.frame 0 _ ((h'.update L<|X6 (·.push .none)).update L (X6 (·.pop))) s.toks st (bD _) λb hb o e=>oth b o (λz=>hLI<|z▸hb) e;refine Z0<|D4<|Z0 ?_;refine Z0 (m:=updateSeq L _)<|G9 u0 rfl<|G9 (hz:=by seq_fits) u1 rfl ?_;refine Z5 ⟨M4 F.plain_extend_loop _,codeAny_extend_loopS wk hn L hLI res ks.length 0 _ #[] _ rfl (T3 _) st' u2 (ItemsOf.nil _) λs' acc c' hm hL' hacc=>?_⟩;have el:acc.toList=ord.toList.map (·.2):=by
  apply List.ext_getElem?;intro i;rw[X2,K8,K8];by_cases hi:i<acc.size
  ·obtain⟨e,h1,h2⟩:=hacc.2 i _<|U2 hi;rw[U2 hi,h1,h2];rfl
  ·rw[E3 (E7 hi),E3 (by rw[ho,<- hacc.1];exact E7 hi)];rfl
 obtain⟨hp',g',d2,tk',os'⟩:=s';have eg:g'=s.gens:=hm.gens;have ed:d2=d':=hm.drawn;have eo:os'=s.os:=hm.os;subst eg ed eo;refine q hp' _ tk' acc c' (λb o hb e=>hm.heap b o (λz=>?_)<|oth b o hb<|k b o e) hL' (λv hv=>?_) ?_
 ·rcases Y4.mp z with z|z
  ·exact hb z
  ·exact absurd (X0 e) (by rw[Y3.mp z];exact U6.mpr hI)
 ·rw[el]at hv;refine aa (U9.mp hv) λe h1 ZV=>?_;subst ZV;exact hi e h1
 ·rw[el,P6];exact hp
theorem nX{R:YZ}(hh:A.handled=none)(x:eT prog w s.heap a ks)(q:∀h' d' tk vs,(∀b o,s.heap.get? b=some o->h'.get? b=some o)->(∀v∈vs,∃n u,v=.int n u)->(vs.map cU).Perm ks->R vs {s with heap:=h',drawn:=d',toks:=tk}):wpAny (model prog w) A (collect<|.ref a) R E s:=by
 have hal:a<s.heap.objs.size:=kX x λh h h h h1 h=>X0 h1;unfold collect;refine Z0<|wpAny_runValue<|O7 F.entry_proto_collect ?_;rw[Q2 F.plain_proto_collect _];show wpAny _ A.in1 (newList [] >>= λl=>again<|.builtin "list.__iadd__" ⟨[l,.ref a],[]⟩) _ _ s;refine Z0<|O0<|Z5 ⟨M4 F.plain_list_iadd _,O7 F.entry_list_iadd ?_⟩;rw[Q2 F.plain_list_iadd _];show wpAny _ A.in1 (R5.List.listExtendWith (.ref s.heap.objs.size) (.ref a)<|.ref s.heap.objs.size) _ _ _;have go:∀(r:Result) (s':Shared),(∃h' d' tk acc c',r=.ok (.ret<|.ref s.heap.objs.size)/\s'={s with heap:=h',drawn:=d',toks:=tk}/\(∀b o,s.heap.get? b=some o->h'.get? b=some o)/\h'.get? s.heap.objs.size=some {cls:=.type "list",dict:=none,data:=.seq acc c',slots:=#[]}/\(∀v∈acc.toList,∃n u,v=.int n u)/\(acc.toList.map cU).Perm ks) ->
   ∃v,r=.ok (.ret<|.ref v)/\∃acc c',s'.heap.get? v=some {cls:=.type "list",dict:=none,data:=.seq acc c',slots:=#[]}/\R acc.toList s':=by
  intro r s' zq;refine yh zq λh' d' tk acc c' ZS eq6_ k1 k2 k3 k4=>?_;subst ZS;subst eq6_;exact⟨_,rfl,acc,c',k2,q h' d' tk _ k1 k3 k4⟩
 have key:=pQ (A:=A) (s:={s with heap:=s.heap.push {cls:=.type "list",data:=.seq ([]:List Value).toArray}}) (L:=s.heap.objs.size) (res:=.ref s.heap.objs.size) (c:=0)
  (R:=λr s'=>∃h' d' tk acc c',r=.ok (.ret<|.ref s.heap.objs.size)/\s'={s with heap:=h',drawn:=d',toks:=tk}/\(∀b o,s.heap.get? b=some o->h'.get? b=some o)/\h'.get? s.heap.objs.size=some {cls:=.type "list",dict:=none,data:=.seq acc c',slots:=#[]}/\(∀v∈acc.toList,∃n u,v=.int n u)/\(acc.toList.map cU).Perm ks)
  hh (x.stay λo e=>Z3 _ e) (M6 hal) (Y7 _ rfl) λh' d' tk acc c' k1 k2 k3 k4=>⟨h',d',tk,acc,c',rfl,rfl,λb o e=>k1 b o (dH<|X0 e)<|Z3 _ e,k2,k3,k4⟩
 refine R0 key (λfin s' z=>?_) λe s' z=>?_
 ·cases fin with
  |done f =>obtain⟨h',d',tk,acc,c',e,z⟩:=z;cases e;obtain⟨v,e1,ac,cc,e2,e3⟩:=go _ _ ⟨h',d',tk,acc,c',rfl,z⟩;cases e1;exact Z0<|wpAny_load e2<|Z5 e3
  |again c1 =>refine⟨z.1,codeAny_mono z.2 λr s2 y=>?_⟩;refine aa (go _ _ y) λv ZW zz=>bv zz λac cc e2 e3=>?_;subst ZW;exact Z0<|wpAny_load e2<|Z5 e3
 ·refine gu z λh h h zy0=>bv zy0 λh h e' h=> ?_;cases e'
end
open PyProof.Rows
noncomputable abbrev eD(w:World):Obj:={cls:=.type "set",dict:=none,data:=.set #[] 0 (.fresh 0 0<|!w.params.followText "set-order")}
section
variable {prog:U4}{w:World}{A:Around}{E:ZN}{s:Shared}{a l:Addr}
theorem vX(e:h.get? a=some (eD w)):eT prog w h a [] :=
 ⟨_,#[],0,_,e,⟨rfl,rfl,rfl⟩,rfl,λx h=>by simp at h,.nil,by decide,rfl,rfl,pJ _ _ _⟩
theorem tU{q:ZN}(h:q (.ref s.heap.objs.size) {s with heap:=s.heap.push (eD w)}):
  codeAny (model prog w) A (.call (.builtin "set.__new__") ⟨[.type "set",x],[]⟩) (wants q E) s:=by
 refine codeAny_of_tree ?_;show wpAny _ A.in1 (checkBuiltinCall "set.__new__" ⟨[.type "set",x],[]⟩ >>= λa=>again<|.builtin "set.__new__" ⟨[.type "set",x],[]⟩) _ _ s;refine Z0<|wpAny_of_eq (F.newCall_set_1 x)<|Z5 ⟨M4 F.plain_set_new _,O7 F.entry_set_new ?_⟩;rw[Q2 F.plain_set_new _];unfold R5.«set.__new__» R5.Frozenset.newClass;have sub1:=sub_set_self;obtain⟨h0,g0,d0,t0,o0⟩:=s;dsimp only
 wp_walk
 refine wpAny_askSetting<|Z5 ?_;unfold newObj;exact Z0<|wpAny_alloc<|Z5<|Z5 h
theorem tV{R:Result->Shared->Prop}{G:Array GenState->Array GenState->Prop}{P:Nat->Value->Prop}{St:Nat->Shared->Prop}(wk:WalksS prog w A.in1 I fp wr G n P St)(hf:a∉fp)(val:Nat->Int)(hval:∀i v,P i v->∃t,v=.int (val i) t)(hb:n+1<scanBound):
  ∀(k i:Nat) (s:Shared),n-i=k->i<=n->St i s->eT prog w s.heap a (firstMet val i)->(∀s',Moved (a ::wr) G s s'->eT prog w s'.heap a (firstMet val n)->R (.ok<|.ret .none) s') ->
   codeAny (model prog w) A (.builtin "set.update.loop" ⟨[.ref a,.ref I],[]⟩) R s:=by
 have hw:a∉wr:=λz=>hf<|wk.sub _ z;have sb:∀b∈wr,b∈a ::wr:=λb z=>W4 _ z;intro k;induction k with
 |zero =>intro i s hk hi st x q;have e:i=n:=T5 hi<|Nat.sub_eq_zero_iff_le.mp hk;subst e;refine O7 F.entry_set_update_loop ?_;rw[Q2 F.plain_set_update_loop _];show wpAny _ A.in1 (pyNext (.ref I) >>= _) _ _ s;refine Z0 (wk.done s _ _ st λs' hm=>?_);exact Z5<|q s' (hm.mono sb) (x.stay λo e=>hm.heap a o hw e)
 |succ k ih =>
  intro i s hk hi st x q;have hlt:i<n:=Nat.lt_of_sub_eq_succ hk;refine O7 F.entry_set_update_loop ?_;rw[Q2 F.plain_set_update_loop _];show wpAny _ A.in1 (pyNext (.ref I) >>= _) _ _ s;refine Z0 (wk.item i s _ _ hlt st λv s' hP st' hm=>?_);refine ao (hval i v hP) λt ZW=>?_;subst ZW;show wpAny _ A.in1 (holding [O9 (val i) t] (setAdd a<|.int (val i) t) >>= _) _ _ s';refine Z0<|T6 ?_;unfold setAdd;have hv:(intKind prog w).is (val i) (.int (val i) t)=true:=by show Value.isInt (val i) (.int (val i) t)=true;simp[Value.isInt]
  refine T6<|Z0<|(intKind prog w).pyHash hv ?_;have x':eT prog w s'.heap a (firstMet val i):=x.stay λo e=>hm.heap a o hw e;have room:(firstMet val i).length+1<scanBound:=dI (N5<|b8 (firstMet_length_le val i) hi) hb;refine vN (s:={s' with toks:=s'.toks+1}) x' room λh' b sm x2=>?_;have x3:eT prog w h' a (firstMet val<|i+1):=by rw[firstMet_succ];exact x2
  refine Z5 ⟨M4 F.plain_set_update_loop _,ih (i+1) _ (by omega) hlt (wk.frame _ s' _ _ st' (P3 _) λb hb o e=>?_) x3 λs2 hm2 y=>q s2 (Moved.trans wk.gtrans ((hm.mono sb).then_heap (P3 _) λb o hb e=>?_) hm2) y⟩
  ·rw[sm.2 b fun z:b=a=>hf<|z▸hb];exact e
  ·rw[sm.2 b fun z:b=a=>hb<|z▸V1];exact e
theorem tW{Q:ZN}(hh:A.handled=none)(hl:s.heap.IsList l items)(hi:K6 items.toList ns)(hb:items.size+1<scanBound)(q:∀(h':Heap) (tk:Nat),eT prog w h' s.heap.objs.size (firstMet (λi=>ns.getD i 0) items.size)->(∀b o,b<s.heap.objs.size->s.heap.get? b=some o->h'.get? b=some o)->Q (.ref s.heap.objs.size) {s with heap:=h',toks:=tk}):
  wpAny (model prog w) A (call (.type "set") [.ref l]) Q E s:=by
 refine ii F.called_set.mro λc tl f1=>?_;have f2:=F.called_set.made;have f3:=F.called_set.sub;have f4:=F.called_set.notType;have f5:=F.called_set.canCreate;have f6:=F.typeCall_set_1<|.ref l;refine wpAny_call<|codeAny_of_tree ?_;show wpAny _ _ (callAny (.type "set") _) _ _ _;refine Z5 ⟨Code.quiet_builtin _ (by decide +kernel),O7 F.entry_type_call ?_⟩;rw[Around.under_plain (weight_type_call_type "set" [.ref l] []) rfl]
 repeat (any_goals (first|assumption|wp_step))
 refine codeAny_mono (tU (x:=.ref l) (E:=E) (q:=λob s1=>ob=.ref s.heap.objs.size/\s1={s with heap:=s.heap.push (eD w)}) ⟨rfl,rfl⟩) λr s1 hr=>?_;cases r with
 |error e=>exact hr
 |ok fl =>
  cases fl with
  |ret ob =>
   refine ax hr λZX ZW=>?_;subst ZX;subst ZW;have g0:(s.heap.push<|eD w).get? s.heap.objs.size=some (eD w):=Y7 _ rfl;have hT:Shared.TypeIs {s with heap:=s.heap.push (eD w)} (.ref s.heap.objs.size) "set":=⟨_,g0,rfl⟩;have f7:=F.called_set.init.lookup;have f8:=F.called_set.init.bind (.ref s.heap.objs.size)
   repeat (any_goals (first|assumption|wp_step))
   refine codeAny_mono (codeAny_call_builtin (R:=wants (λr s2=>r=.none/\∃h' tk,s2={s with heap:=h',toks:=tk}/\eT prog w h' s.heap.objs.size (firstMet (λi=>ns.getD i 0) items.size)/\(∀b o,b<s.heap.objs.size->s.heap.get? b=some o->h'.get? b=some o)) E) F.called_set.init.plain F.entry_set_init<|check_set_init_1 hT ?_) λr2 s2 hr2=>?_
   ·refine aE hl λol hol hcl zz=>ao zz λnl hdl=>?_;obtain⟨ocl,odi,oda,osl⟩:=ol;simp only at hcl hdl;subst hcl hdl;have hol':(s.heap.push<|eD w).get? l=some {cls:=.type "list",dict:=odi,data:=.seq items nl,slots:=osl}:=Z3 _ hol;have l1:(s.heap.push<|eD w).IsList l items:=⟨_,hol',rfl,nl,rfl⟩;have f9:=F.sub_list_set;have fa:=F.sub_list_frozenset;have fb:(Value.type "list"==Value.type "dict")=false:=by decide
    have hlS:l<s.heap.objs.size:=X0 hol;unfold R5.«set.__init__» noKeywords R5.Frozenset.updateFrom;generalize hPI:pyIter=PI
    wp_walk
    subst hPI;refine wpAny_pyIter_list l1<|Z0<|wpAny_runValue ?_;have hne:l≠(s.heap.push<|eD w).objs.size:=by rw[L8];exact dH<|T7 hlS
    have hSf:s.heap.objs.size∉[(s.heap.push<|eD w).objs.size,l]:=by rw[L8,Y4,Y3];exact λz=>z.elim (λz=>dH (W5 _) z) λz=>M6 hlS z
    have val:∀(i:Nat) (v:Value),items[i]?=some v->∃t,v=.int ((λi=>ns.getD i 0) i) t:=λi v z=>K6.int_at hi i v (by rw[K8];exact z);refine tV ((Walks.list (by rw[A.in1_handled];simp[hh]) _ l hne items).toS) hSf (λi=>ns.getD i 0) val hb (items.size-0) 0 _ rfl (T3 _) ⟨⟨_,Y7 _ rfl,rfl,rfl⟩,l1.push _⟩ (vX<|Z3 _ g0) ?_;intro s' hm y;obtain⟨h',g',d',tk',os'⟩:=s';have eg:g'=s.gens:=hm.gens;have ed:d'=s.drawn:=hm.drawn;have eo:os'=s.os:=hm.os;subst eg ed eo;refine Z5<|Z5 ⟨rfl,h',tk',rfl,y,λb o hb e=>hm.heap b o (λz=>?_)<|Z3 _<|Z3 _ e⟩;rcases Y4.mp z with z|z
    ·exact dH hb z
    ·rw[Y3,L8]at z;exact dH (T7 hb) z
   ·cases r2 with
    |error e=>exact hr2
    |ok f2 =>
     cases f2 with
     |ret r =>
      refine ax hr2 λZX zz=>ay zz λh' tk ZU y1 y2=>?_;subst ZX;subst ZU
      repeat (any_goals (first|assumption|wp_step))
      exact q _ _ y1 y2
     |_=>exact hr2.elim
  |_=>exact hr.elim
end
end Tab
namespace L2
section
open PySem PySem.Spec PyProof.Rows
variable [Kn:Kon]
section
variable {X:Cx}{K:Z4}
noncomputable abbrev tX(P:U4)(w:World)(q:Addr)(ks:ZL):HO:=.ext λh=>Tab.eT P w h q ks
def rSetW(P:U4)(w:World)(K:Z4):List V->Hp->VK->Prop:=λxs H Q=>∃p ns,xs=[.ref p]/\fm K H p (ns.map V.int)/\ns.length+1<4096/\∀q,H q=none->Q (.ref q) (aH H q<|tX P w q<|Pu.ded ns)
theorem zd(h:X.K=K)(hc:X.calm=true):eN X (.type "set") (rSetW X.prog X.w K):=by
 subst h;intro ZY s σ H xs us Q I r hh;refine fL hh λp ns ZV hS hb q=>?_;subst ZV;refine aa (vals1 r) λu ZW ru=>?_;subst ZW;cases ru;refine aE (I.list hS) λits rv ht hz=>?_;have hl:=rv.length;rw[Y0]at hl;have ed:firstMet (λi=>ns.getD i 0) its.toArray.size=Pu.ded ns:=by
  unfold firstMet;have:(X9 its.toArray.size).map (λi=>ns.getD i 0)=ns:=by
   apply List.ext_getElem
   ·simp[hl]
   ·intro i h1 h2;simp[h2]
  rw[this];rfl
 refine Tab.tW (I.ok.hd hc) ht.isList (by simpa using kj rv) (by simp;have:scanBound=4096:=rfl;omega) λh' tk hset hk=>?_;rw[ed]at hset;exact⟨.ref _,_,I.laid (t':=tk) (o:=tX X.prog X.w s.heap.objs.size<|Pu.ded ns) (λb ob q=>hk b ob (X0 q) q) (bD _) ⟨hset,(kX hset λo x x x e x=>⟨o,e⟩),λx x z e=>z.stay e⟩,rfl,q _<|I.hok.fresh<|bD _⟩
theorem ze{σ:St}(I:Inv X ZY σ H s)(d:Drawn):Inv X ZY σ H {s with drawn:=d}:=⟨I.ok,I.os,I.bare,I.base,I.loc,I.cell,I.free,I.freeC,I.pin,I.hok,I.len⟩
def Bb(P:U4)(w:World):List V->Hp->VK->Prop:=λxs H Q=>∃p ks,xs=[.ref p]/\H p=some (tX P w p ks)/\ks.length<64/\∀q,H q=none->Q (.ref q) (aH H q<|.lst<|(Pu.pG ks).map V.int)
theorem ints_of_all:∀{vs:ZK},(∀v∈vs,∃n u,v=O9 n u)->K6 vs (vs.map Tab.cU)
 |[],_=>.nil
 |v ::vs,h=>by refine ii (h v V1) λn u ZV=>?_;subst ZV;exact .cons n u (ints_of_all λw hw=>h w<|W4 _ hw)
theorem vY(hc:X.calm=true):eN X (.builtin "sorted") (Bb X.prog X.w):=by
 intro ZY s σ H xs us Q I r hh;refine fL hh λp ks ZV hD ZQ q=>?_;subst ZV;refine aa (vals1 r) λu ZW ru=>?_;subst ZW;cases ru;have hset:Tab.eT X.prog X.w s.heap p ks:=(show bE X.prog X.w H s.heap p (tX X.prog X.w p ks) from I.hok p _ hD).1;refine D9 kind_sorted plain_sorted entry_sorted (args_sorted1 _) ?_;unfold R5.«sorted»;refine Z0 (m:=checkCount "sorted" 1 1 _)<|Z5 ?_;refine Z0 (Tab.nX (A:=X.A.in1) (I.ok.hd hc) hset λh' d' tk vs hk hi hp=>?_);have I1:=ze (I.kept (t':=tk) hk) d';have hlen:vs.length=ks.length:=by have:=hp.length_eq;rwa [Y0]at this
 have hI:=ints_of_all hi;refine Z0<|E5 ?_ (by rw[hlen,V4];exact cT<|eJ ZQ (by decide));have hoL:(h'.push<|seqObj "list" vs.toArray 0).get? h'.objs.size=some (seqObj "list" vs.toArray 0):=Y7 _ rfl;refine Z0 (T6 (R7 slot_list_sort ⟨_,hoL,rfl⟩ entry_list_sort
  (list_sort_tree (s:={s with heap:=h'.push<|seqObj "list" vs.toArray 0,drawn:=d',toks:=tk}) hoL hI (by exact dI (bG hlen) ZQ) λout ns' a1 a2 a3=>⟨_,rfl,?_⟩) (args_list_sort _)))
 have e:ns'=Pu.pG ks:=PySem.W.ksm_same (a2.trans<|hp.trans (Pu.fG ks).symm) a3<|Pu.lM ks;subst e;refine ao (sortedHeap_at (out:=out) hoL) λe1 hat1=>?_;refine Z5 ⟨_,rfl,.ref _,_,I1.laid (t':=tk) (o:=.lst<|(Pu.pG ks).map V.int) (λb ob q=>?_) (bD _) ⟨?_,out.toList,e1,j7 a1,hat1⟩,rfl,q _<|I1.hok.fresh<|bD _⟩
 ·have hlt:b<h'.objs.size:=X0 q;rw[sortedHeap_old (dH hlt) (by rw[size_push'];exact T7 hlt)];exact Z3 _ q
 ·rw[Y0,(Pu.fG ks).length_eq,V4];exact cT<|eJ ZQ (by decide)
end
noncomputable def rZW(P:U4)(w:World):Rp (List Int):=⟨λH v xs=>∃p,v=.ref p/\H p=some (tX P w p xs),λe zq=>aa zq λp h1 h2=>⟨p,h1,e _ _ h2⟩⟩
section
variable {Γ:List Slot}{ta:TE}{K:Z4}{P:U4}{w:World}{o:Option (List Int)}
set_option tactic.hygienic true in
theorem ev_setW(h:EV Γ ta o (rL a9)):EV Γ (uP (rSetW P w K)<|be ta d9) (o.bind λxs=>Pu.mset xs) (rZW P w):=by
 intro C F σ H Q c S e k;refine aa (ae e) λxs e1 e=>?_;unfold Pu.mset at e;split at e
 ·rename_i hh;cases e;refine h C F σ H _ xs S e1 λv F' H' x1 zq=>ay zq λp vs e3 h1 h2=>⟨p,xs,by rw[e3],?_,hh,λq hq=>k _ _ _ (x1.trans<|Ext.new x1.sub hq) ⟨q,rfl,am⟩⟩;rw[<- dz h2];exact .inl<|x1.sub.rd h1
 ·cases e
set_option tactic.hygienic true in
theorem zg(h:EV Γ ta o (rZW P w)):ia Γ (uP (Bb P w)<|be ta d9) (o.bind λns=>Pu.sortI ns) a9:=by
 intro C F σ H Q xs S e k;refine aa (ae e) λns e1 e=>?_;unfold Pu.sortI at e;split at e
 ·rename_i ZQ;cases e;exact h C F σ H _ ns S e1 λv F' H' x1 zq=>aa zq λp e2 h1=>⟨p,ns,by rw[e2],x1.sub _ _ h1,ZQ,λq hq=>k q _ F' H' x1 hq<|paired_ints _⟩
 ·cases e
end
end
section
open PySem PySem.Spec PyProof.Rows
noncomputable abbrev Rd_:=List<|Int×Int
noncomputable abbrev Dr_:=List<|Int×Option Int
variable [Kn:Kon]
end
end L2
namespace Tim
open PySem PySem.W PyProof.Rows
structure Cx(M:Model)(A:Around)(s:Shared)(κ:SortKind)(f:Nat->Keyed)(T:ZE)(X:Zt):Prop where
 ask:∀i j,X i->X j->∀C:Bool->Prop,(T i j->C true)->(i=j\/T j i->C false)->wpAny M A (keyLt' κ (f i).1 (f j).1) (λb s'=>s'=s/\C b) (λx x=>False) s
 tr:∀{i j k},T i j->T j k->T i k
 irr:∀{i},¬ T i i
noncomputable abbrev ar(f:Nat->Keyed)(l:ZM):Array Keyed:=Z9<|l.map f
noncomputable abbrev St(κ:SortKind)(f:Nat->Keyed)(l:ZM)(pd:Array (Nat×Nat×Nat))(g:Nat):SortSt:=D6 κ (ar f l) pd g none
section
variable {M:Model}{A:Around}{E:ZN}{s:Shared}{κ:SortKind}{f:Nat->Keyed}{T:ZE}{X:Zt}
theorem ar_get{i x:Nat}(h:l[i]?=some x):(ar f l)[i]?=some (f x):=by show (Z9<|l.map f)[i]?=_;rw[Q6,X2,h];rfl
theorem tY(K:Cx M A s κ f T X){Q:Option Bool->SortSt->Prop}{st:SortSt}(hk:kindOf st=κ)(hi:X i)(hj:X j)(h1:T i j->Q (some true) st)(h0:i=j\/T j i->Q (some false) st):
  wpS M A E s (lt' (f i)<|f j) Q st:=by
 rw[lt'_eq];refine X4<|wpS_get ?_;rw[hk];refine X4<|wpS_lift<|wpAny_attempt (R0 (K.ask i j hi hj (λb=>Q (some b) st) h1 h0) (λb s' z=>⟨z.1,X7 z.2⟩) λx x z=>z.elim)
theorem cM{Q:Keyed->SortSt->Prop}{st:SortSt}(h:l[i]?=some x)(q:Q (f x) st):wpS M A E s (elem' (ar f l) i) Q st:=by rw[elem'_eq,ar_get h];exact X7 q
theorem kr(K:Cx M A s κ f T X){Q:Option Bool->SortSt->Prop}(ha:l[a]?=some i)(hb:l[b]?=some j)(hi:X i)(hj:X j)(h1:T i j->Q (some true) (St κ f l pd g))(h0:i=j\/T j i->Q (some false) (St κ f l pd g)):
  wpS M A E s (ltAt' a b) Q (St κ f l pd g):=by
 rw[ltAt'_eq];refine X4<|wpS_get ?_;show wpS _ _ _ _ (do let x <- elem' (ar f l) a;let y <- elem' (ar f l) b;lt' x y) Q _;exact X4<|cM ha<|X4<|cM hb<|tY K rfl hi hj h1 h0
theorem nY{R:ZE}{V:ZM}(h:(V.take n).Pairwise R)(hij:i<j)(hj:j<n)(hx:V[i]?=some x)(hy:V[j]?=some y):R x y:=by
 have gx:(V.take n)[i]?=some x:=by rw[Q0 (eJ hij hj)];exact hx
 have gy:(V.take n)[j]?=some y:=by rw[Q0 hj];exact hy
 refine G0 (Z6.mp gx) λlx ex=>G0 (Z6.mp gy) λly ey=>?_;rw[<- ex,<- ey];exact N9.mp h i j lx ly hij
theorem rQ{R:ZE}(tr:∀i j k,R i j->R j k->R i k){V:ZM}(h:(V.take n).Pairwise R)(h1:1<=n)(hy:V[n-1]?=some y)(hx:V[n]?=some x)(r:R y x):(V.take<|n+1).Pairwise R:=by
 rw[List.take_succ,hx];refine W6.mpr ⟨h,List.pairwise_singleton _ _,λa ha b hb=>?_⟩;rw[Y3.mp hb];refine ao (Q9 ha) λk e=>G0 e λhk e=>?_;have hkn:k<n:=bZ hk<|List.length_take_le _ _;have ga:V[k]?=some a:=by rw[<- Q0 hkn,<- e];exact Y5 hk
 rcases M7 k (n-1) with z|z
 ·exact tr _ _ _ (nY h z (Nat.sub_lt h1 Nat.one_pos) ga hy) r
 ·have:k=n-1:=by lia
  rw[this,hy]at ga;exact Z8 ga▸r
theorem gi{U V:ZM}:(U++V)[U.length+n]?=V[n]?:=by rw[Y6 (T4 _ _),Q7]
theorem mO{U V:ZM}(h:1<=n):(U++V)[U.length+n-1]?=V[n-1]?:=by rw[Nat.add_sub_assoc h];exact gi
noncomputable def asc(lo a m:Nat):StateT SortSt Sem (Option (Option Nat)×Nat):=forIn [a:m] ((none,a):Option (Option Nat)×Nat) λx r=>do
 match <- ltAt' (lo+r.2) (lo+r.2-1) with
 |some b=>if b=true then pure (ForInStep.done (none,r.2)) else pure (ForInStep.yield (none,r.2+1))
 |_=>pure<|ForInStep.done (some none,r.2)
theorem Bc{V:ZM}(h:V.Nodup){i j x y:Nat}(hx:V[i]?=some x)(hy:V[j]?=some y)(n:i≠j):x≠y:=λe=>by refine G0 (Z6.mp hx) λlx ex=>G0 (Z6.mp hy) λly ey=>?_;exact n<|(List.getElem_inj h).mp (ex.trans<|e.trans ey.symm)
theorem has{V:ZM}(h:i<V.length):∃x,V[i]?=some x/\x∈V:=⟨V[i],Y5 h,E9 h⟩
theorem Bd(K:Cx M A s κ f T X){Q:Option (Option Nat)×Nat->SortSt->Prop}(nd:V.Nodup)(hX:∀x∈V,X x)(h1:1<=a)(ha:a<=V.length)(hp:(V.take a).Pairwise T)(h:∀n,a<=n->n<=V.length->(V.take n).Pairwise T->(n=V.length\/∃x y,V[n]?=some x/\V[n-1]?=some y/\T x y)->Q (none,n) (St κ f (U++V) pd g)):wpS M A E s (asc U.length a V.length) Q (St κ f (U++V) pd g):=by
 unfold asc;refine O4 (I:=λi c st=>c=(none,i)/\st=St κ f (U++V) pd g/\a<=i/\(V.take i).Pairwise T) ?_ ?_ ⟨rfl,rfl,bD _,hp⟩
 ·intro i c st hi1 hi2 z;refine jt z λe1 e2 e3 e4=>?_;subst e1;subst e2;dsimp only;refine aa (has hi2) λx hx mx=>aa (has (V:=V) (i:=i-1) (by lia)) λy hy my=>?_;refine X4 (kr K (gi.trans hx) ((mO (by lia)).trans hy) (hX x mx) (hX y my) (λt=>?_) λt=>?_)
  ·exact X7<|h i e3 (cT hi2) e4<|.inr ⟨x,y,hx,hy,t⟩
  ·refine X7 ⟨rfl,rfl,G4 e3,rQ (R:=T) (λb b b=>K.tr) e4 (by lia) hy hx<|t.resolve_left<|Bc nd hx hy (by lia)⟩
 ·intro c st z;refine jt z λe1 e2 e3 e4=>?_;rw[Nat.max_eq_right ha]at e1 e4;subst e1;subst e2;exact h _ ha (bD _) e4<|.inl rfl
theorem tZ{α:Type}{U V:List α}(hn:n<=V.length):mirror (Z9<|U++V) U.length (U.length+n) ((U.length+n-U.length)/2)=Z9 (U++((V.take n).reverse++V.drop n)):=by
 apply Array.ext_getElem?;intro k;rw[getElem?_mirror_all (by rw[X1,Y9];lia),Q6,Q6,Q6];have lr:((V.take n).reverse).length=n:=by rw[List.length_reverse,S6,O8 hn]
 by_cases h1:k<U.length
 ·rw[if_neg (by lia),X5 h1,X5 h1]
 ·have e:k=U.length+(k-U.length):=by lia
  generalize k-U.length=d at e;subst e;by_cases h2:d<n
  ·rw[if_pos (by lia),Y6 (by lia),Y6 (by lia),X5 (by rw[lr];lia),List.getElem?_reverse (by rw[S6,O8 hn];lia),S6,O8 hn,Q0 (by lia)];congr 1;lia
  ·rw[if_neg (by lia),Y6 (by lia),Y6 (by lia),Y6 (by rw[lr];lia),lr,D2];congr 1;lia
theorem rev_ok{Q:Unit->SortSt->Prop}(hn:n<=V.length)(h:Q () (St κ f (U++((V.take n).reverse++V.drop n)) pd g)):wpS M A E s (reverseSlice' U.length<|U.length+n) Q (St κ f (U++V) pd g):=by rw[reverseSlice'_eq];refine wpS_modify ?_;have e:=tZ (U:=U.map f) (V:=V.map f) (n:=n) (by rw[Y0];exact hn);rw[Y0,<- T0,<- List.map_take,<- List.map_drop,<- List.map_reverse,<- T0,<- T0]at e;show Q () (D6 κ (mirror (Z9<|(U++V).map f) U.length (U.length+n)<|(U.length+n-U.length)/2) pd g none);rw[e];exact h
theorem run_ok(K:Cx M A s κ f T X){Q:Option Nat->SortSt->Prop}(nd:V.Nodup)(hX:∀x∈V,X x)(h1:1<=V.length)(h:∀n V',V'.Perm V->1<=n->n<=V.length->(V'.take n).Pairwise T->Q (some n) (St κ f (U++V') pd g)):wpS M A E s (countRun' U.length V.length) Q (St κ f (U++V) pd g):=by
 rw[countRun'_eq];refine X4 (Bd K nd hX (bD 1) h1 ?_ λn n1 n2 n3 n4=>?_)
 ·cases V with
  |nil=>exact .nil
  |cons a V=>exact List.pairwise_singleton _ _
 ·dsimp only;by_cases e:n=V.length
  ·rw[if_pos (by rw[e];exact beq_self_eq_true _)];exact X7<|h n V (.refl _) n1 n2 n3
  ·rw[if_neg λz=>e<|eq_of_beq z];refine ay (n4.resolve_left e) λx y hx hy t=>?_;have n5:n<V.length:=Nat.lt_of_le_of_ne n2 e;by_cases e2:n > 1
   ·rw[if_pos e2];refine aa (has (V:=V) (i:=0) (by omega)) λz hz mz=>?_;have tz:T z y:=nY n3 (by omega) (by omega) hz hy;refine X4 (kr K (a:=U.length) (b:=U.length+n-1) ((congrArg (λk=>(U++V)[k]?) (Nat.add_zero _).symm).trans (gi.trans hz)) ((mO n1).trans hy) (hX z mz) (hX y<|U0 hy) (λu=>?_) λw=>?_)
    ·exact X7<|h n V (.refl _) n1 n2 n3
    ·exact(w.elim (λq=>K.irr<|q▸tz) λq=>K.irr<|K.tr q tz).elim
   ·rw[if_neg e2];have en:n=1:=by omega
    subst en;refine X4<|wpS_lift<|D4 ⟨rfl,?_⟩;refine X4<|wpS_mono (O4 (I:=λi c st=>c=(none,i,0)/\st=St κ f (U++V) pd g/\2<=i/\(V.take i).Pairwise λa b=>T b a) (Q:=λc st=>∃n,c=(none,n,0)/\st=St κ f (U++V) pd g/\2<=n/\n<=V.length/\(V.take n).Pairwise λa b=>T b a) ?_ ?_ ⟨rfl,rfl,bD _,?_⟩) ?_
    ·intro i c st hi1 hi2 z;refine jt z λe1 e2 e3 e4=>?_;subst e1;subst e2;dsimp only;refine aa (has hi2) λx hx mx=>aa (has (V:=V) (i:=i-1) (by omega)) λy hy my=>?_;refine X4 (kr K (gi.trans hx) ((mO (by omega)).trans hy) (hX x mx) (hX y my) (λt=>?_) λt=>?_)
     ·exact X7 ⟨rfl,rfl,G4 e3,rQ (R:=λa b=>T b a) (λu u u p q=>K.tr q p) e4 (by omega) hy hx t⟩
     ·refine X4 (kr K ((mO (by omega)).trans hy) (gi.trans hx) (hX y my) (hX x mx) (λt=>?_) λt2=>?_)
      ·exact X7 ⟨i,rfl,rfl,e3,cT hi2,e4⟩
      ·exact absurd (t.resolve_left<|Bc nd hx hy (by omega)) λq=>t2.elim (λr=>K.irr<|r▸q) λr=>K.irr<|K.tr q r
    ·intro c st z;refine jt z λe1 e2 e3 e4=>?_;rw[Nat.max_eq_right (show 1+1<=V.length by omega)]at e1 e4;exact⟨_,e1,e2,by omega,bD _,e4⟩
    ·exact rQ (R:=λa b=>T b a) (n:=1) (λu u u p q=>K.tr q p) (by cases V with
      |nil=>exact .nil
      |cons a V=>exact List.pairwise_singleton _ _) (bD _) hy hx t
    ·intro c st z;refine ig z λn e1 e2 e3 e4 e5=>?_;subst e1;subst e2;dsimp only;rw[if_neg (L6 0)];refine X4<|rev_ok e4 ?_;have lr:((V.take n).reverse).length=n:=by rw[List.length_reverse,S6,O8 e4]
     have pm:((V.take n).reverse++V.drop n).Perm V:=((List.reverse_perm _).append_right _).trans (by rw[W3]);have ln:=pm.length_eq;rw[<- ln];refine X4 (Bd K (pm.nodup_iff.mpr nd) (λx hx=>hX x<|pm.mem_iff.mp hx) (by omega) (by rw[ln];exact e4) ?_ λm m1 m2 m3 u=>?_)
     ·rw[List.take_left' lr];exact List.pairwise_reverse.mpr e5
     ·exact X7<|h m _ pm (by omega) (by rw[<- ln];exact m2) m3
theorem u4{α:Type}{P Y Z:List α}{x:α}:bubble (Z9<|P++(Y++x ::Z)) (P.length+Y.length) Y.length=Z9 (P++x ::(Y++Z)):=by
 apply Array.ext_getElem?;intro k;rw[getElem?_bubble (by rw[X1,Y9,Y9,V9];lia) _ (by lia)];simp only[Q6];have top:(P++(Y++x ::Z))[P.length+Y.length]?=some x:=by rw[Y6 (by lia),Y6 (by lia),show P.length+Y.length-P.length-Y.length=0 by lia];rfl
 by_cases h1:k<P.length
 ·rw[if_neg (by lia),if_neg (by lia),X5 h1,X5 h1]
 ·have e:k=P.length+(k-P.length):=by lia
  generalize k-P.length=d at e;subst e;rw[Y6 (l₁:=P) (l₂:=x ::(Y++Z)) (by lia),Q7];cases d with
  |zero=>rw[if_pos (by lia),top];rfl
  |succ d =>
   rw[if_neg (by lia),List.getElem?_cons_succ];by_cases h2:d<Y.length
   ·rw[if_pos (by lia),X5 h2,Y6 (by lia),X5 (by lia)];congr 1;lia
   ·rw[if_neg (by lia),Y6 (by lia),Y6 (by lia),Y6 (by lia),show P.length+(d+1)-P.length-Y.length=(d-Y.length)+1 by lia];rfl
theorem cut_at{V:ZM}(h:k<V.length):∃Y x Z,V=Y++x ::Z/\Y.length=k:=⟨V.take k,V[k],V.drop<|k+1,by rw[<- K7 h,W3],by rw[S6];lia⟩
theorem mv_ok{Q:Unit->SortSt->Prop}(hl:l<=Y.length)(h:Q () (St κ f (U++(Y.take l++x ::(Y.drop l++Z))) pd g)):wpS M A E s (moveDown' (U.length+Y.length)<|U.length+l) Q (St κ f (U++(Y++x ::Z)) pd g):=by
 rw[moveDown'_eq];refine wpS_modify ?_;have e:=u4 (P:=U.map f++(Y.take l).map f) (Y:=(Y.drop l).map f) (x:=f x) (Z:=Z.map f);have l1:(U.map f++(Y.take l).map f).length=U.length+l:=by rw[Y9,Y0,Y0,S6];lia
 have l2:((Y.drop l).map f).length=Y.length-l:=by rw[Y0,J3]
 rw[l1,l2,show U.length+l+(Y.length-l)=U.length+Y.length by lia,X3,<- X3 ((Y.take l).map f),<- T0,W3,X3]at e;show Q () (D6 κ (bubble (Z9<|(U++(Y++x ::Z)).map f) (U.length+Y.length)<|U.length+Y.length-(U.length+l)) pd g none);rw[show U.length+Y.length-(U.length+l)=Y.length-l by lia];have e2:(U++(Y++x ::Z)).map f=U.map f++(Y.map f++f x ::Z.map f):=by simp only[T0,W7]
 have e3:(U++(Y.take l++x ::(Y.drop l++Z))).map f=U.map f++((Y.take l).map f++f x ::((Y.drop l).map f++Z.map f)):=by simp only[T0,W7]
 rw[e2,e,<- e3];exact h
theorem ins_pw(K:Cx M A s κ f T X){Y Z:ZM}(hl:l<=Y.length)(hp:Y.Pairwise T)(h0:∀j y,j<l->Y[j]?=some y->T y x)(h1:∀j y,l<=j->Y[j]?=some y->T x y):((Y.take l++x ::(Y.drop l++Z)).take (Y.length+1)).Pairwise T:=by
 have e:(Y.take l++x ::(Y.drop l++Z)).take (Y.length+1)=Y.take l++x ::Y.drop l:=by
  have l1:(Y.take l++x ::Y.drop l).length=Y.length+1:=by rw[Y9,V9,S6,J3];lia
  rw[<- List.cons_append,<- X3];exact List.take_left' l1
 have q:=hp;rw[<- W3 l Y]at q;have q:=W6.mp q;rw[e];have a0:∀y∈Y.take l,T y x:=λy hy=>ao (Q9 hy) λj z=>G0 z λhj z=>by have hjl:j<l:=bZ hj<|List.length_take_le _ _;exact h0 j y hjl (by rw[<- Q0 hjl,<- z];exact Y5 hj)
 have a1:∀y∈Y.drop l,T x y:=λy hy=>ao (Q9 hy) λj z=>G0 z λhj z=>h1 (l+j) y (T4 _ _) (by rw[<- D2,<- z];exact Y5 hj);refine W6.mpr ⟨q.1,List.pairwise_cons.mpr ⟨a1,q.2.1⟩,λa ha b hb=>?_⟩;rcases Y4.mp hb with z|z
 ·rw[z];exact a0 a ha
 ·exact K.tr (a0 a ha)<|a1 b z
theorem bin_ok(K:Cx M A s κ f T X){Q:Bool->SortSt->Prop}(nd:V.Nodup)(hX:∀x∈V,X x)(h1:1<=ok)(ho:ok<=n)(hn:n<=V.length)(hp:(V.take ok).Pairwise T)(h:∀V',V'.Perm V->(V'.take n).Pairwise T->Q true (St κ f (U++V') pd g)):wpS M A E s (binarySort' U.length n ok) Q (St κ f (U++V) pd g):=by
 rw[binarySort'_eq,Nat.max_eq_left h1];refine X4<|wpS_mono (O4 (I:=λk c st=>c=(none,())/\∃V',st=St κ f (U++V') pd g/\V'.Perm V/\(V'.take k).Pairwise T) (Q:=λc st=>c=(none,())/\∃V',st=St κ f (U++V') pd g/\V'.Perm V/\(V'.take n).Pairwise T) ?_ ?_ ⟨rfl,V,rfl,.refl _,hp⟩) ?_
 ·intro k c st hk1 hk2 z;refine ax z λe1 z=>aE z λV' e2 pm pk=>?_;subst e1;subst e2;dsimp only;have kl:k<V'.length:=by rw[pm.length_eq];lia
  refine fM (cut_at kl) λY x Z eV eY=>?_;subst eV;subst eY;have py:Y.Pairwise T:=by rw[List.take_left]at pk;exact pk
  have xx:X x:=hX x<|pm.mem_iff.mp<|Y8 _<|.head _;have gx:(Y++x ::Z)[Y.length]?=some x:=by rw[Y6 (bD _),Nat.sub_self];rfl
  have nd':=pm.nodup_iff.mpr nd;refine X4 (wpS_mono (O4 (I:=λi c st=>st=St κ f (U++(Y++x ::Z)) pd g/\∃l r,c=(none,l,r)/\l<=r/\r<=Y.length/\r-l<=Y.length-i/\(∀j y,j<l->Y[j]?=some y->T y x)/\∀j y,r<=j->Y[j]?=some y->T x y)
   (Q:=λc st=>st=St κ f (U++(Y++x ::Z)) pd g/\∃l r,c=(none,l,r)/\l<=Y.length/\(∀j y,j<l->Y[j]?=some y->T y x)/\∀j y,l<=j->Y[j]?=some y->T x y) ?_ ?_ ⟨rfl,0,Y.length,rfl,T3 _,bD _,bD _,λa a z=>absurd z<|O6 _,λj y z w=>absurd (Z6.mp w).1 (U6.mpr z)⟩) ?_)
  ·intro i c st _ hi z;refine ax z λe1 z=>ik z λl r e2 z1 z2 z3 z4 z5=>?_;subst e1;subst e2;dsimp only;by_cases lr:l ≥ r
   ·rw[if_pos lr];have:l=r:=T5 z1 lr;subst this;exact X7 ⟨rfl,l,l,rfl,z2,z4,z5⟩
   ·rw[if_neg lr];have m2:(l+r)/2<r:=by lia
    refine aa (has (V:=Y) (i:=(l+r)/2) (by lia)) λy hy my=>?_;have gy:(Y++x ::Z)[(l+r)/2]?=some y:=by rw[X5 (by lia)];exact hy
    refine X4 (kr K (gi.trans gx) (gi.trans gy) xx (hX y<|pm.mem_iff.mp<|U7 _ my) (λt=>?_) λt=>?_)
    ·refine X7 ⟨rfl,l,(l+r)/2,rfl,by lia,by lia,by lia,z4,λj w hj hw=>?_⟩;rcases M7 ((l+r)/2) j with q|q
     ·exact K.tr t<|nY (n:=Y.length) (by rw[N6];exact py) q (Z6.mp hw).1 hy hw
     ·have:j=(l+r)/2:=by lia
      rw[this,hy]at hw;exact Z8 hw▸t
    ·have t:=t.resolve_left<|Bc nd' gx gy (by lia);refine X7 ⟨rfl,(l+r)/2+1,r,rfl,by lia,by lia,by lia,λj w hj hw=>?_,z5⟩;rcases M7 j ((l+r)/2) with q|q
     ·exact K.tr (nY (n:=Y.length) (by rw[N6];exact py) q (by lia) hw hy) t
     ·have:j=(l+r)/2:=by lia
      rw[this,hy]at hw;exact Z8 hw▸t
  ·intro c st z;refine ax z λe1 z=>ik z λl r e2 z1 z2 z3 z4 z5=>?_;have:l=r:=by lia
   subst this;exact⟨e1,l,l,e2,z2,z4,z5⟩
  ·intro c st z;refine ax z λe1 z=>fL z λl r e2 z2 z4 z5=>?_;subst e1;subst e2;dsimp only;refine X4<|mv_ok z2<|X7 ⟨rfl,_,rfl,?_,ins_pw K z2 py z4 z5⟩;refine List.Perm.trans ?_ pm;have:(Y++x ::Z)=Y.take l++(Y.drop l++x ::Z):=by rw[<- X3,W3]
   rw[this];exact List.Perm.append_left _ List.perm_middle.symm
 ·intro c st z;rw[Nat.max_eq_right ho]at z;exact z
 ·intro c st z;refine ax z λe1 z=>aE z λV' e2 pm pk=>?_;subst e1;subst e2;exact X7<|h V' pm pk
noncomputable def xL:Bool->Keyed->Array Keyed->Nat->Nat->Nat->StateT SortSt Sem (Option Nat):=sortPriv% PySem.Builtin.gallop
noncomputable def bey(L:Bool)(k:Keyed)(r:Array Keyed)(b i:Nat):StateT SortSt Sem (Option Bool):=do
 let y <- elem' r (b+i)
 if L then lt' y k else return (<- lt' k y).map (!·)
theorem gal_eq(L:Bool)(k:Keyed)(r:Array Keyed)(b n h:Nat):xL L k r b n h=(do
  let mut u:=0
  let mut v:=1
  let mut p:=0
  let mut q:=0
  let some w <- bey L k r b h|return none
  if w then
   let m:=n-h
   for _ in [0:n] do
    if v ≥ m then break
    let some o <- bey L k r b (h+v)|return none
    if !o then break
    u:=v
    v:=2*v+1
   p:=h+u+1
   q:=h+min v m
  else
   let m:=h+1
   for _ in [0:n] do
    if v ≥ m then break
    let some o <- bey L k r b (h-v)|return none
    if o then break
    u:=v
    v:=2*v+1
   p:=h+1-min v m
   q:=h-u
  for _ in [0:n] do
   if p ≥ q then break
   let m:=p+(q-p)/2
   let some o <- bey L k r b m|return none
   if o then p:=m+1 else q:=m
  return some q):=rfl
theorem rR(K:Cx M A s κ f T X){Q:Option Bool->SortSt->Prop}{st:SortSt}(hk:kindOf st=κ)(hy:X ky)(hx:X x)(g:l[b+i]?=some x)(ne:x≠ky)(h1:T x ky->Q (some true) st)(h0:T ky x->Q (some false) st):
  wpS M A E s (bey L (f ky) (ar f l) b i) Q st:=by
 unfold bey;refine X4<|cM g ?_;cases L with
 |true=>exact tY K hk hx hy h1 λz=>h0<|z.resolve_left ne
 |false=>exact X4 (tY K hk hy hx (λz=>X7<|h0 z) λz=>X7<|h1<|z.resolve_left<|R4 ne)
noncomputable def gtl(L:Bool)(k:Keyed)(r:Array Keyed)(b n p q:Nat):StateT SortSt Sem (Option Nat):=do
 let mut p:=p
 let mut q:=q
 for _ in [0:n] do
  if p ≥ q then break
  let m:=p+(q-p)/2
  let some o <- bey L k r b m|return none
  if o then p:=m+1 else q:=m
 return some q
theorem halv{u v n i:Nat}(c:¬ u ≥ v)(z2:v<=n)(z3:v-u<=n-i)(hi:i<n):u<=u+(v-u)/2/\u+(v-u)/2+1<=v/\u+(v-u)/2<n/\v-(u+(v-u)/2+1)<=n-(i+1)/\u+(v-u)/2-u<=n-(i+1):=by have hm:(v-u)/2<v-u:=Nat.div_lt_self (Nat.sub_pos_of_lt<|Nat.not_le.mp c) (by decide);generalize (v-u)/2=m at hm ⊢;lia
theorem Be(K:Cx M A s κ f T X){Q:Option Nat->SortSt->Prop}{st:SortSt}{d:ZG}(hk:kindOf st=κ)(hy:X ky)(hX:∀i,i<n->X (d i))(g:∀i,i<n->l[b+i]?=some (d i))(ne:∀i,i<n->d i≠ky)(mo:∀i j,i<j->j<n->T (d i) (d j))(pq:p<=q)(qn:q<=n)(h0:∀i,i<p->T (d i) ky)(h1:∀i,q<=i->i<n->T ky (d i))(h:∀k,k<=n->(∀i,i<k->T (d i) ky)->(∀i,k<=i->i<n->T ky (d i))->Q (some k) st):wpS M A E s (gtl L (f ky) (ar f l) b n p q) Q st:=by
 unfold gtl;refine X4 (wpS_mono (O4 (I:=λi c st'=>st'=st/\∃u v,c=(none,u,v)/\u<=v/\v<=n/\v-u<=n-i/\(∀i,i<u->T (d i) ky)/\∀i,v<=i->i<n->T ky (d i))
  (Q:=λc st'=>st'=st/\∃u v,c=(none,u,v)/\v<=n/\(∀i,i<v->T (d i) ky)/\∀i,v<=i->i<n->T ky (d i)) ?_ ?_ ⟨rfl,p,q,rfl,pq,qn,b8 (Nat.sub_le _ _) qn,h0,h1⟩) ?_)
 ·intro i c st' _ hi z;refine ax z λe1 z=>ik z λu v e2 z1 z2 z3 z4 z5=>?_;subst e1;subst e2;dsimp only;by_cases c:u ≥ v
  ·rw[if_pos c];have:u=v:=T5 z1 c;exact X7 ⟨rfl,u,v,rfl,z2,this▸z4,z5⟩
  ·rw[if_neg c];refine gl (halv c z2 z3 hi) λa1 a2 hm a4 a5=>?_;refine X4 (rR K hk hy (hX _ hm) (g _ hm) (ne _ hm) (λt=>?_) λt=>?_)
   ·refine X7 ⟨rfl,_,_,rfl,a2,z2,a4,λj hj=>?_,z5⟩;rcases M7 j (u+(v-u)/2) with w|w
    ·exact K.tr (mo _ _ w hm) t
    ·rw[T5 (T1 hj) w];exact t
   ·refine X7 ⟨rfl,_,_,rfl,a1,cT hm,a5,z4,λj hj hn=>?_⟩;rcases M7 (u+(v-u)/2) j with w|w
    ·exact K.tr t<|mo _ _ w hn
    ·rw[T5 w hj];exact t
 ·intro c st' z;refine ax z λe1 z=>ik z λu v e2 z1 z2 z3 z4 z5=>?_;have:u=v:=by lia
  exact⟨e1,u,v,e2,z2,this▸z4,z5⟩
 ·intro c st' z;refine ax z λe1 z=>fL z λu v e2 z2 z4 z5=>?_;subst e1;subst e2;exact X7<|h v z2 z4 z5
theorem rS(K:Cx M A s κ f T X){Q:Option Nat->SortSt->Prop}{st:SortSt}{d:ZG}(hk:kindOf st=κ)(hy:X ky)(hX:∀i,i<n->X (d i))(g:∀i,i<n->l[b+i]?=some (d i))(ne:∀i,i<n->d i≠ky)(mo:∀i j,i<j->j<n->T (d i) (d j))(hh:hint<n)(h:∀k,k<=n->(∀i,i<k->T (d i) ky)->(∀i,k<=i->i<n->T ky (d i))->Q (some k) st):wpS M A E s (xL L (f ky) (ar f l) b n hint) Q st:=by
 rw[gal_eq];refine X4 (rR K hk hy (hX _ hh) (g _ hh) (ne _ hh) (λt=>?_) λt=>?_)
 ·refine X4 (wpS_mono (O4 (I:=λi c st'=>st'=st/\∃u v,c=(none,u,v)/\u<v/\i<v/\u<n-hint/\T (d<|hint+u) ky)
   (Q:=λc st'=>st'=st/\∃u v,c=(none,u,v)/\u<v/\u<n-hint/\T (d<|hint+u) ky/\(v ≥ n-hint\/(v<n-hint/\T ky (d<|hint+v)))) ?_ ?_ ⟨rfl,0,1,rfl,Nat.one_pos,Nat.one_pos,Nat.sub_pos_of_lt hh,t⟩) ?_)
  ·intro i c st' _ hi z;refine ax z λe1 z=>fk z λu v e2 z1 z2 z3 z4=>?_;subst e1;subst e2;dsimp only;by_cases c:v ≥ n-hint
   ·rw[if_pos c];exact X7 ⟨rfl,u,v,rfl,z1,z3,z4,.inl c⟩
   ·rw[if_neg c];have hm:hint+v<n:=by omega
    refine X4 (rR K hk hy (hX _ hm) (g _ hm) (ne _ hm) (λt=>?_) λt=>?_)
    ·exact X7 ⟨rfl,_,_,rfl,by omega,by omega,by omega,t⟩
    ·exact X7 ⟨rfl,u,v,rfl,z1,z3,z4,.inr ⟨by omega,t⟩⟩
  ·intro c st' z;refine ax z λe1 z=>fk z λu v e2 z1 z2 z3 z4=>?_;exact⟨e1,u,v,e2,z1,z3,z4,.inl (by omega)⟩
  ·intro c st' z;refine ax z λe1 z=>fk z λu v e2 z1 z3 z4 z5=>?_;subst e1;subst e2;refine Be (p:=hint+u+1) (q:=hint+min v (n-hint)) K hk hy hX g ne mo (by omega) (by omega) (λj hj=>?_) (λj hj hn=>?_) h
   ·rcases M7 j (hint+u) with w|w
    ·exact K.tr (mo _ _ w (by omega)) z4
    ·rw[show j=hint+u by omega];exact z4
   ·rcases z5 with z5|z5
    ·omega
    ·rcases M7 (hint+v) j with w|w
     ·exact K.tr z5.2<|mo _ _ w hn
     ·rw[show j=hint+v by omega];exact z5.2
 ·refine X4 (wpS_mono (O4 (I:=λi c st'=>st'=st/\∃u v,c=(none,u,v)/\u<v/\i<v/\u<hint+1/\T ky (d<|hint-u))
   (Q:=λc st'=>st'=st/\∃u v,c=(none,u,v)/\u<v/\u<hint+1/\T ky (d<|hint-u)/\(v ≥ hint+1\/(v<hint+1/\T (d<|hint-v) ky))) ?_ ?_ ⟨rfl,0,1,rfl,Nat.one_pos,Nat.one_pos,Nat.succ_pos _,t⟩) ?_)
  ·intro i c st' _ hi z;refine ax z λe1 z=>fk z λu v e2 z1 z2 z3 z4=>?_;subst e1;subst e2;dsimp only;by_cases c:v ≥ hint+1
   ·rw[if_pos c];exact X7 ⟨rfl,u,v,rfl,z1,z3,z4,.inl c⟩
   ·rw[if_neg c];have hm:hint-v<n:=by omega
    refine X4 (rR K hk hy (hX _ hm) (g _ hm) (ne _ hm) (λt=>?_) λt=>?_)
    ·exact X7 ⟨rfl,u,v,rfl,z1,z3,z4,.inr ⟨by omega,t⟩⟩
    ·exact X7 ⟨rfl,_,_,rfl,by omega,by omega,by omega,t⟩
  ·intro c st' z;refine ax z λe1 z=>fk z λu v e2 z1 z2 z3 z4=>?_;exact⟨e1,u,v,e2,z1,z3,z4,.inl (by omega)⟩
  ·intro c st' z;refine ax z λe1 z=>fk z λu v e2 z1 z3 z4 z5=>?_;subst e1;subst e2;refine Be (p:=hint+1-min v (hint+1)) (q:=hint-u) K hk hy hX g ne mo (by omega) (by omega) (λj hj=>?_) (λj hj hn=>?_) h
   ·rcases z5 with z5|z5
    ·omega
    ·rcases M7 j (hint-v) with w|w
     ·exact K.tr (mo _ _ w (by omega)) z5.2
     ·rw[show j=hint-v by omega];exact z5.2
   ·rcases M7 (hint-u) j with w|w
    ·exact K.tr z4<|mo _ _ w hn
    ·rw[show j=hint-u by omega];exact z4
end
section
variable {M:Model}{A:Around}{E:ZN}{s:Shared}{κ:SortKind}{f:Nat->Keyed}{T:ZE}{X:Zt}
noncomputable def mlo:Array Keyed->Array Keyed->StateT SortSt Sem (Array Keyed):=sortPriv% PySem.Builtin.mergeLo
noncomputable def mhi:Array Keyed->Array Keyed->StateT SortSt Sem (Array Keyed):=sortPriv% PySem.Builtin.mergeHi
noncomputable def smg:Nat->StateT SortSt Sem Unit:=sortPriv% PySem.Builtin.setMinGallop
theorem rT(g:Nat):smg g=modify λz=>D6 (kindOf z) (arrOf z) (pendingOf z) g (failedOf z):=rfl
noncomputable def fA(x y o:Array Keyed)(i j:Nat):Array Keyed:=o++x.extract i x.size++y.extract j y.size
noncomputable abbrev Z2:=Option (Array Keyed)×Array Keyed×Nat×Nat×Nat×Nat×Nat
noncomputable def q4(x y:Array Keyed)(i g c d:Nat)(o:Array Keyed)(j:Nat):StateT SortSt Sem (ForInStep Z2):=do
 let z <- elem' x i
 if i+1+1==x.size then pure (.done (some<|fA y x (o.push z) j<|i+1,o.push z,i+1,j,g,c,d))
 else if c<7&&d<7 then pure (.done (none,o.push z,i+1,j,g,c,d)) else pure (.yield (none,o.push z,i+1,j,g,c,d))
noncomputable def q3(x y:Array Keyed)(i g c d:Nat)(o:Array Keyed)(j:Nat):StateT SortSt Sem (ForInStep Z2):=do
 match <- xL true (<- elem' x i) y j (y.size-j) 0 with
 |some k=>if k > 0 then (if j+k==y.size then pure (.done (some<|fA x y (o++y.extract j (j+k)) i<|j+k,o++y.extract j (j+k),i,j+k,g,c,k)) else q4 x y i g c k (o++y.extract j (j+k)) (j+k)) else q4 x y i g c k o j
 |_=>pure<|.done (some<|fA x y o i j,o,i,j,g,c,d)
noncomputable def q2(x y:Array Keyed)(j g c d:Nat)(o:Array Keyed)(i:Nat):StateT SortSt Sem (ForInStep Z2):=do
 let z <- elem' y j
 if j+1==y.size then pure (.done (some<|fA x y (o.push z) i<|j+1,o.push z,i,j+1,g,c,d)) else q3 x y i g c d (o.push z) (j+1)
noncomputable def q1(x y o:Array Keyed)(i j c d g:Nat):StateT SortSt Sem (ForInStep Z2):=do
 smg g
 match <- xL false (<- elem' y j) x i (x.size-i) 0 with
 |some k=>if k > 0 then (if i+k+1==x.size then pure (.done (some<|fA y x (o++x.extract i (i+k)) j<|i+k,o++x.extract i (i+k),i+k,j,g,k,d)) else if i+k==x.size then pure (.done (some<|fA x y (o++x.extract i (i+k)) (i+k) j,o++x.extract i (i+k),i+k,j,g,k,d)) else q2 x y j g k d (o++x.extract i (i+k)) (i+k)) else q2 x y j g k d o i
 |_=>pure<|.done (some<|fA x y o i j,o,i,j,g,c,d)
noncomputable abbrev Z1:=Option (Array Keyed)×Array Keyed×Nat×Nat×Nat×Nat
noncomputable def w1(x y:Array Keyed)(g:Nat)(z:Z1):StateT SortSt Sem (ForInStep Z1):=do
 match <- lt' (<- elem' y z.2.2.2.1) (<- elem' x z.2.2.1) with
 |some w =>
  if w=true then do
   let e <- elem' y z.2.2.2.1
   if z.2.2.2.1+1==y.size then pure (.done (some<|fA x y (z.2.1.push e) z.2.2.1<|z.2.2.2.1+1,z.2.1.push e,z.2.2.1,z.2.2.2.1+1,0,z.2.2.2.2.2+1))
   else if z.2.2.2.2.2+1 ≥ g then pure (.done (none,z.2.1.push e,z.2.2.1,z.2.2.2.1+1,0,z.2.2.2.2.2+1)) else pure (.yield (none,z.2.1.push e,z.2.2.1,z.2.2.2.1+1,0,z.2.2.2.2.2+1))
  else do
   let e <- elem' x z.2.2.1
   if z.2.2.1+1+1==x.size then pure (.done (some<|fA y x (z.2.1.push e) z.2.2.2.1<|z.2.2.1+1,z.2.1.push e,z.2.2.1+1,z.2.2.2.1,z.2.2.2.2.1+1,0))
   else if z.2.2.2.2.1+1 ≥ g then pure (.done (none,z.2.1.push e,z.2.2.1+1,z.2.2.2.1,z.2.2.2.2.1+1,0)) else pure (.yield (none,z.2.1.push e,z.2.2.1+1,z.2.2.2.1,z.2.2.2.2.1+1,0))
 |_=>pure<|.done (some<|fA x y z.2.1 z.2.2.1 z.2.2.2.1,z.2.1,z.2.2.1,z.2.2.2.1,z.2.2.2.2.1,z.2.2.2.2.2)
theorem mlo_eq(x y:Array Keyed):mlo x y=(do
  rule "list.sort.merge-lo"
  let mut o:Array Keyed:=#[<- elem' y 0]
  let mut i:=0
  let mut j:=1
  if j==y.size then return fA x y o i j
  if i+1==x.size then return fA y x o j i
  let mut g:=gallopOf (<- get)
  for _ in [0:x.size+y.size] do
   let mut c:=0
   let mut d:=0
   for _ in [0:x.size+y.size] do
    let some w <- lt' (<- elem' y j) (<- elem' x i)|return fA x y o i j
    if w then
     o:=o.push<|<- elem' y j;j:=j+1;d:=d+1;c:=0
     if j==y.size then return fA x y o i j
     if d ≥ g then break
    else
     o:=o.push<|<- elem' x i;i:=i+1;c:=c+1;d:=0
     if i+1==x.size then return fA y x o j i
     if c ≥ g then break
   rule "list.sort.gallop"
   g:=g+1
   for _ in [0:x.size+y.size] do
    if g > 1 then g:=g-1
    smg g
    let some k <- xL false (<- elem' y j) x i (x.size-i) 0|return fA x y o i j
    c:=k
    if k > 0 then
     o:=o++x.extract i (i+k);i:=i+k
     if i+1==x.size then return fA y x o j i
     if i==x.size then return fA x y o i j
    o:=o.push<|<- elem' y j;j:=j+1
    if j==y.size then return fA x y o i j
    let some k <- xL true (<- elem' x i) y j (y.size-j) 0|return fA x y o i j
    d:=k
    if k > 0 then
     o:=o++y.extract j (j+k);j:=j+k
     if j==y.size then return fA x y o i j
    o:=o.push<|<- elem' x i;i:=i+1
    if i+1==x.size then return fA y x o j i
    if c<7&&d<7 then break
   g:=g+1
   smg g
  unsupported "internal:list.sort.merge-bound"):=rfl
theorem jF(x y:ZM):ar f x++ar f y=ar f (x++y):=by show Z9 _++Z9 _=Z9 ((x++y).map f);rw[List.append_toArray,T0]
theorem kt(x:ZM)(a:Nat):(ar f x).push (f a)=ar f (x++[a]):=by show (Z9 _).push _=Z9 ((x++[a]).map f);rw[List.push_toArray,T0];rfl
theorem cV(x:ZM):(ar f x).size=x.length:=by show (Z9<|x.map f).size=_;rw[X1,Y0]
theorem nZ(x:ZM)(i j:Nat):(ar f x).extract i j=ar f ((x.drop i).take (j-i)):=by show (Z9<|x.map f).extract i j=Z9 (((x.drop i).take (j-i)).map f);rw[List.extract_toArray,List.extract_eq_take_drop,List.map_take,List.map_drop]
theorem Bf(x:ZM)(i:Nat):(ar f x).extract i (ar f x).size=ar f (x.drop i):=by rw[nZ,cV,K2 (by rw[J3];exact bD _)]
theorem Bg(a b o:ZM)(i j:Nat):fA (ar f a) (ar f b) (ar f o) i j=ar f (o++a.drop i++b.drop j):=by unfold fA;rw[Bf,Bf,jF,jF]
structure JJ(T:ZE)(o P R al:ZM):Prop where
 pm:(o++(P++R)).Perm al
 p1:(o++P).Pairwise T
 p2:(o++R).Pairwise T
theorem JJ.flip(h:JJ T o P R al):JJ T o R P al:=⟨(List.Perm.append_left _ List.perm_append_comm).trans h.pm,h.p2,h.p1⟩
theorem JJ.mv(h:JJ T o (U++P) R al)(hu:∀u∈U,∀r∈R,T u r):JJ T (o++U) P R al:=by have p1:=h.p1;rw[<- X3]at p1;have p2:=W6.mp h.p2;have p3:=W6.mp p1;refine⟨by have:=h.pm;simpa only [X3] using this,p1,W6.mpr ⟨p3.1,p2.2.1,λx hx r hr=>?_⟩⟩;exact(W0.mp hx).elim (λz=>p2.2.2 x z r hr) λz=>hu x z r hr
theorem JJ.end(h:JJ T o P R al)(e:R=[]):(o++P++R).Perm al/\(o++P++R).Pairwise T:=by subst e;refine⟨by have:=h.pm;simpa only [V8] using this,by rw[V8];exact h.p1⟩
theorem JJ.last(h:JJ T o P R al)(hu:∀p∈P,∀r∈R,T r p):(o++R++P).Perm al/\(o++R++P).Pairwise T:=by have p1:=W6.mp h.p1;have p2:=W6.mp h.p2;refine⟨by rw[X3];exact h.flip.pm,W6.mpr ⟨h.p2,p1.2.1,λx hx p hp=>?_⟩⟩;exact(W0.mp hx).elim (λz=>p1.2.2 x z p hp) λz=>hu p hp x z
theorem kx{a:ZM}(h:a[i]?=some x):a.drop i=[x]++a.drop (i+1):=by refine G0 (Z6.mp h) λl e=>?_;rw[K7 l,e];rfl
theorem Bh{a:ZM}:a.drop i=(a.drop i).take k++a.drop (i+k):=by rw[<- List.drop_drop,W3]
theorem kA{a:ZM}(h:u∈a.drop i):∃t,a[i+t]?=some u:=ao (Q9 h) λt z=>G0 z λht z=>⟨t,by rw[<- D2,<- z];exact Y5 ht⟩
theorem Bi{a:ZM}(h:u∈(a.drop i).take k):∃t,t<k/\a[i+t]?=some u:=ao (Q9 h) λt z=>G0 z λht z=>by have tk:t<k:=bZ ht<|List.length_take_le _ _;exact⟨t,tk,by rw[<- D2,<- Q0 tk,<- z];exact Y5 ht⟩
structure Two(T:ZE)(X:Zt)(a b:ZM):Prop where
 pa:a.Pairwise T
 pb:b.Pairwise T
 xa:∀x∈a,X x
 xb:∀x∈b,X x
 ne:∀x∈a,∀y∈b,x≠y
 la:∀x,a[a.length-1]?=some x->∀y∈b,T y x
 fb:∀y,b[0]?=some y->∀x∈a,T y x
theorem o4{a:ZM}(h:a.Pairwise T){i j x y:Nat}(hij:i<j)(hx:a[i]?=some x)(hy:a[j]?=some y):T x y :=
 nY (n:=a.length) (by rw[N6];exact h) hij (Z6.mp hy).1 hx hy
theorem jG(K:Cx M A s κ f T X){b:ZM}(h:b.Pairwise T)(hy:b[j]?=some y)(t:T u y):∀r∈b.drop j,T u r:=λr hr=>ao (kA hr) λk hk=>by
 cases k with
 |zero=>rw[Nat.add_zero,hy]at hk;exact Z8 hk▸t
 |succ k=>exact K.tr t<|o4 h (by lia) hy hk
def Fn(T:ZE)(f:Nat->Keyed)(al:ZM)(r:Array Keyed):Prop:=∃p:List Nat,r=ar f p/\p.Perm al/\p.Pairwise T
noncomputable def Wn(T:ZE)(f:Nat->Keyed)(a b:ZM)(N:Nat)(o:Array Keyed)(i j:Nat):Prop :=
 ∃o',o=ar f o'/\JJ T o' (a.drop i) (b.drop j) (a++b)/\i+1<a.length/\j<b.length/\N<=i+j
noncomputable def Wm(T:ZE)(f:Nat->Keyed)(a b:ZM)(N:Nat)(r:Option (Array Keyed))(o:Array Keyed)(i j:Nat):Prop :=
 (∃z,r=some z/\Fn T f (a++b) z)\/(r=none/\Wn T f a b N o i j)
theorem rV(h:JJ T o (a.drop i) (b.drop j) (a++b))(e:j=b.length):Fn T f (a++b) (fA (ar f a) (ar f b) (ar f o) i j) :=
 ⟨_,Bg a b o i j,h.end<|List.drop_eq_nil_of_le<|bG e.symm⟩
theorem fn_endA(h:JJ T o (a.drop i) (b.drop j) (a++b))(e:i=a.length):Fn T f (a++b) (fA (ar f a) (ar f b) (ar f o) i j):=by refine⟨_,Bg a b o i j,?_⟩;have e':a.drop i=[]:=List.drop_eq_nil_of_le<|bG e.symm;have:=h.flip.end e';rw[e',V8]at this ⊢;exact this
theorem mP(H:Two T X a b)(h:JJ T o (a.drop i) (b.drop j) (a++b))(e:i+1=a.length):Fn T f (a++b) (fA (ar f b) (ar f a) (ar f o) j i):=by refine⟨_,Bg b a o j i,h.last λp hp r hr=>?_⟩;refine ao (kA hp) λt ht=>?_;have:=(Z6.mp ht).1;refine H.la p ?_ r<|J9 hr;rw[<- ht];congr 1;lia
def P1(T:ZE)(f:Nat->Keyed)(a b:ZM)(N:Nat):ForInStep Z1->Prop
 |.done z=>Wm T f a b N z.1 z.2.1 z.2.2.1 z.2.2.2.1
 |.yield z=>z.1=none/\Wn T f a b N z.2.1 z.2.2.1 z.2.2.2.1
def P2(T:ZE)(f:Nat->Keyed)(a b:ZM)(N:Nat):ForInStep Z2->Prop
 |.done z=>Wm T f a b N z.1 z.2.1 z.2.2.1 z.2.2.2.1
 |.yield z=>z.1=none/\Wn T f a b N z.2.1 z.2.2.1 z.2.2.2.1
theorem w1_ok(K:Cx M A s κ f T X)(H:Two T X a b){st:SortSt}{Q:ForInStep Z1->SortSt->Prop}(hk:kindOf st=κ)(W:Wn T f a b N o i j)(h:∀r,P1 T f a b (N+1) r->Q r st):
  wpS M A E s (w1 (ar f a) (ar f b) g (none,o,i,j,c,d)) Q st:=by
 refine ig W λo' e J hi hj hN=>?_;subst e;refine aa (has (V:=a) (i:=i) (by lia)) λx hx mx=>aa (has (V:=b) (i:=j) hj) λy hy my=>?_;unfold w1;dsimp only;refine X4<|cM hy<|X4<|cM hx<|X4 (tY K hk (H.xb y my) (H.xa x mx) (λt=>?_) λt=>?_)
 ·have J':JJ T (o'++[y]) (a.drop i) (b.drop<|j+1) (a++b):=by have:=J.flip;rw[kx hy]at this;exact(this.mv λu hu=>by rw[Y3.mp hu];exact jG K H.pa hx t).flip
  refine X4<|cM hy ?_;rw[kt,cV];by_cases e:j+1=b.length
  ·rw[if_pos (by rw[e];exact beq_self_eq_true _)];exact X7<|h _<|.inl ⟨_,rfl,rV J' e⟩
  ·rw[if_neg λz=>e<|eq_of_beq z];have w:Wn T f a b (N+1) (ar f<|o'++[y]) i (j+1):=⟨_,rfl,J',hi,by lia,by lia⟩;by_cases q:d+1 ≥ g
   ·rw[if_pos q];exact X7<|h _<|.inr ⟨rfl,w⟩
   ·rw[if_neg q];exact X7<|h _ ⟨rfl,w⟩
 ·have t:=t.resolve_left<|R4<|H.ne x mx y my;have J':JJ T (o'++[x]) (a.drop<|i+1) (b.drop j) (a++b):=by have:=J;rw[kx hx]at this;exact this.mv λu hu=>by rw[Y3.mp hu];exact jG K H.pb hy t
  refine X4<|cM hx ?_;rw[kt,cV];by_cases e:i+1+1=a.length
  ·rw[if_pos (by rw[e];exact beq_self_eq_true _)];exact X7<|h _<|.inl ⟨_,rfl,mP H J' e⟩
  ·rw[if_neg λz=>e<|eq_of_beq z];have w:Wn T f a b (N+1) (ar f<|o'++[x]) (i+1) j:=⟨_,rfl,J',by lia,hj,by lia⟩;by_cases q:c+1 ≥ g
   ·rw[if_pos q];exact X7<|h _<|.inr ⟨rfl,w⟩
   ·rw[if_neg q];exact X7<|h _ ⟨rfl,w⟩
theorem q4_ok(K:Cx M A s κ f T X)(H:Two T X a b){st:SortSt}{Q:ForInStep Z2->SortSt->Prop}(J:JJ T o (a.drop i) (b.drop j) (a++b))(hi:i+1<a.length)(hj:j<b.length)(hN:N<=i+j)(hx:a[i]?=some x)(hy:b[j]?=some y)(t:T x y)(h:∀r,P2 T f a b N r->Q r st):
  wpS M A E s (q4 (ar f a) (ar f b) i g c d (ar f o) j) Q st:=by
 unfold q4;have J':JJ T (o++[x]) (a.drop<|i+1) (b.drop j) (a++b):=by have:=J;rw[kx hx]at this;exact this.mv λu hu=>by rw[Y3.mp hu];exact jG K H.pb hy t
 refine X4<|cM hx ?_;rw[kt,cV];by_cases e:i+1+1=a.length
 ·rw[if_pos (by rw[e];exact beq_self_eq_true _)];exact X7<|h _<|.inl ⟨_,rfl,mP H J' e⟩
 ·rw[if_neg λz=>e<|eq_of_beq z];have w:Wn T f a b N (ar f<|o++[x]) (i+1) j:=⟨_,rfl,J',by omega,hj,by omega⟩;by_cases q:(decide (c<7)&&decide (d<7))=true
  ·rw[if_pos q];exact X7<|h _<|.inr ⟨rfl,w⟩
  ·rw[if_neg q];exact X7<|h _ ⟨rfl,w⟩
theorem dd{a:ZM}(h:t<a.length-i):a[i+t]?=some ((a[i+t]?).getD 0):=by rw[Y5 (by omega)];rfl
theorem Bj{a:ZM}(h:t<a.length-i):(a[i+t]?).getD 0∈a:=U0<|dd h
theorem galR(K:Cx M A s κ f T X){Q:Option Nat->SortSt->Prop}{st:SortSt}(hk:kindOf st=κ)(hy:X ky)(hX:∀x∈a,X x)(ne:∀x∈a,x≠ky)(pa:a.Pairwise T)(hi:i<a.length)(h:∀k,k<=a.length-i->(∀u∈(a.drop i).take k,T u ky)->(∀u,a[i+k]?=some u->T ky u)->Q (some k) st):wpS M A E s (xL L (f ky) (ar f a) i ((ar f a).size-i) 0) Q st:=by
 rw[cV];refine rS K (d:=λt=>(a[i+t]?).getD 0) hk hy (λt ht=>hX _<|Bj ht) (λt ht=>dd ht) (λt ht=>ne _<|Bj ht) (λp q pq hq=>o4 pa (i:=i+p) (j:=i+q) (by lia) (dd (by lia))<|dd hq) (by lia) λk hk' h0 h1=>h k hk' (λu hu=>?_) λu hu=>?_
 ·refine aa (Bi hu) λt ht e=>?_;have:=h0 t ht;rw[e]at this;exact this
 ·have:=h1 k (bD _) (by have:=(Z6.mp hu).1;lia);rw[hu]at this;exact this
theorem q3_ok(K:Cx M A s κ f T X)(H:Two T X a b){st:SortSt}{Q:ForInStep Z2->SortSt->Prop}(hk:kindOf st=κ)(J:JJ T o (a.drop i) (b.drop j) (a++b))(hi:i+1<a.length)(hj:j<b.length)(hN:N<=i+j)(h:∀r,P2 T f a b N r->Q r st):
  wpS M A E s (q3 (ar f a) (ar f b) i g c d (ar f o) j) Q st:=by
 unfold q3;refine aa (has (V:=a) (i:=i) (by lia)) λx hx mx=>?_;refine X4<|cM hx<|X4 (galR K hk (H.xa x mx) H.xb (λy hy=>R4<|H.ne x mx y hy) H.pb hj λk hk' h0 h1=>?_);dsimp only;have J':JJ T (o++(b.drop j).take k) (a.drop i) (b.drop<|j+k) (a++b):=by have:=J.flip;rw[Bh (a:=b) (i:=j) (k:=k)]at this;exact(this.mv λu hu=>jG K H.pa hx<|h0 u hu).flip
 by_cases kz:k > 0
 ·rw[if_pos kz,nZ,jF,Q7,cV];by_cases e:j+k=b.length
  ·rw[if_pos (by rw[e];exact beq_self_eq_true _)];exact X7<|h _<|.inl ⟨_,rfl,rV J' e⟩
  ·rw[if_neg λz=>e<|eq_of_beq z];refine aa (has (V:=b) (i:=j+k) (by lia)) λy hy my=>?_;exact q4_ok K H J' hi (by lia) (by lia) hx hy (h1 y hy) h
 ·rw[if_neg kz];have:k=0:=by lia
  subst this;refine aa (has (V:=b) (i:=j) (by lia)) λy hy my=>?_;exact q4_ok K H J hi hj hN hx hy (h1 y hy) h
theorem q2_ok(K:Cx M A s κ f T X)(H:Two T X a b){st:SortSt}{Q:ForInStep Z2->SortSt->Prop}(hk:kindOf st=κ)(J:JJ T o (a.drop i) (b.drop j) (a++b))(hi:i+1<a.length)(hj:j<b.length)(hN:N<=i+j)(hx:a[i]?=some x)(hy:b[j]?=some y)(t:T y x)(h:∀r,P2 T f a b N r->Q r st):
  wpS M A E s (q2 (ar f a) (ar f b) j g c d (ar f o) i) Q st:=by
 unfold q2;have J':JJ T (o++[y]) (a.drop i) (b.drop<|j+1) (a++b):=by have:=J.flip;rw[kx hy]at this;exact(this.mv λu hu=>by rw[Y3.mp hu];exact jG K H.pa hx t).flip
 refine X4<|cM hy ?_;rw[kt,cV];by_cases e:j+1=b.length
 ·rw[if_pos (by rw[e];exact beq_self_eq_true _)];exact X7<|h _<|.inl ⟨_,rfl,rV J' e⟩
 ·rw[if_neg λz=>e<|eq_of_beq z];exact q3_ok K H hk J' hi (by lia) (by lia) h
theorem q1_ok(K:Cx M A s κ f T X)(H:Two T X a b){Q:ForInStep Z2->SortSt->Prop}(W:Wn T f a b N o i j)(h:∀r,P2 T f a b N r->Q r (St κ f l pd g)):
  wpS M A E s (q1 (ar f a) (ar f b) o i j c d g) Q (St κ f l pd g0):=by
 refine ig W λo' e J hi hj hN=>?_;subst e;unfold q1;rw[rT];refine X4<|wpS_modify ?_;show wpS M A E s _ Q (St κ f l pd g);refine aa (has (V:=b) (i:=j) hj) λy hy my=>?_;refine X4<|cM hy<|X4 (galR K rfl (H.xb y my) H.xa (λx hx=>H.ne x hx y my) H.pa (by lia) λk hk' h0 h1=>?_);dsimp only;have J':JJ T (o'++(a.drop i).take k) (a.drop<|i+k) (b.drop j) (a++b):=by have:=J;rw[Bh (a:=a) (i:=i) (k:=k)]at this;exact this.mv λu hu=>jG K H.pb hy<|h0 u hu
 by_cases kz:k > 0
 ·rw[if_pos kz,nZ,jF,Q7,cV];by_cases e:i+k+1=a.length
  ·rw[if_pos (by rw[e];exact beq_self_eq_true _)];exact X7<|h _<|.inl ⟨_,rfl,mP H J' e⟩
  ·rw[if_neg λz=>e<|eq_of_beq z];by_cases e2:i+k=a.length
   ·rw[if_pos (by rw[e2];exact beq_self_eq_true _)];exact X7<|h _<|.inl ⟨_,rfl,fn_endA J' e2⟩
   ·rw[if_neg λz=>e2<|eq_of_beq z];refine aa (has (V:=a) (i:=i+k) (by lia)) λx hx mx=>?_;exact q2_ok K H rfl J' (by lia) hj (by lia) hx hy (h1 x hx) h
 ·rw[if_neg kz];have:k=0:=by lia
  subst this;refine aa (has (V:=a) (i:=i) (by lia)) λx hx mx=>?_;exact q2_ok K H rfl J hi hj hN hx hy (h1 x hx) h
theorem Wn.le(h:Wn T f a b N o i j)(q:N'<=N):Wn T f a b N' o i j:=ig h λo' e J hi hj hN=>⟨o',e,J,hi,hj,b8 q hN⟩
theorem Wm.le(h:Wm T f a b N r o i j)(q:N'<=N):Wm T f a b N' r o i j:=h.imp id λz=>⟨z.1,z.2.le q⟩
theorem kB{α:Type}{c:Prop}[Decidable c]{t e:StateT SortSt Sem α}{Q:α->SortSt->Prop}{st:SortSt}(h:c)(k:wpS M A E s t Q st):wpS M A E s (if c then t else e) Q st:=by rw[if_pos h];exact k
theorem kC{α:Type}{c:Prop}[Decidable c]{t e:StateT SortSt Sem α}{Q:α->SortSt->Prop}{st:SortSt}(h:¬ c)(k:wpS M A E s e Q st):wpS M A E s (if c then t else e) Q st:=by rw[if_neg h];exact k
theorem mlo_ok(K:Cx M A s κ f T X)(H:Two T X a b)(ha:1<=a.length)(hb:1<=b.length){Q:Array Keyed->SortSt->Prop}(h:∀r g,Fn T f (a++b) r->Q r (St κ f l pd g)):
  wpS M A E s (mlo (ar f a)<|ar f b) Q (St κ f l pd g0):=by
 rw[mlo_eq];refine X4<|wpS_lift<|D4 ⟨rfl,?_⟩;refine aa (has (V:=b) (i:=0) hb) λy hy my=>?_;refine X4<|cM hy ?_;have J:JJ T [y] (a.drop 0) (b.drop 1) (a++b):=by have j0:JJ T [] b a (a++b):=⟨show (b++a).Perm (a++b) from List.perm_append_comm,H.pb,H.pa⟩;have e:b=[y]++b.drop 1:=kx hy;have j0:JJ T [] ([y]++b.drop 1) a (a++b):=e▸j0;exact(j0.mv λu hu=>by rw[Y3.mp hu];exact H.fb y hy).flip
 have sa:=cV (f:=f) a;have sb:=cV (f:=f) b;by_cases e:1=b.length
 ·exact kB (by rw[sb,<- e];rfl)<|X7<|h _ _<|rV J e
 ·refine kC (λz=>e<|(eq_of_beq z).trans sb) ?_;by_cases e2:0+1=a.length
  ·exact kB (by rw[sa,<- e2];rfl)<|X7<|h _ _<|mP H J e2
  ·refine kC (λz=>e2<|(eq_of_beq z).trans sa) ?_;refine X4<|wpS_get<|X4<|wpS_mono (O4 (I:=λn c st=>(∃g,st=St κ f l pd g)/\c.1=none/\Wn T f a b n c.2.1 c.2.2.1 c.2.2.2.1) (Q:=λc st=>(∃g,st=St κ f l pd g)/\∃z,c.1=some z/\Fn T f (a++b) z) ?_ ?_ ⟨⟨g0,rfl⟩,rfl,[y],rfl,J,show 0+1<a.length by lia,show 1<b.length by lia,T3 _⟩) ?_
   ·intro n c st _ hn z;refine aV z λeg e1 W=>ao eg λg1 eg=>?_;subst eg;refine X4<|wpS_mono (O4 (I:=λm c st'=>st'=St κ f l pd g1/\c.1=none/\Wn T f a b (n+m) c.2.1 c.2.2.1 c.2.2.2.1) (Q:=λc st'=>st'=St κ f l pd g1/\Wm T f a b (n+1) c.1 c.2.1 c.2.2.1 c.2.2.2.1) ?_ ?_ ⟨rfl,rfl,W⟩) ?_
    ·intro m c st _ hm z;refine aV z λe1 e2 W=>?_;subst e1;refine w1_ok (i:=c.2.2.1) (j:=c.2.2.2.1) (c:=c.2.2.2.2.1) (d:=c.2.2.2.2.2) K H rfl W λr p=>?_;cases r with
     |done z=>exact⟨rfl,Wm.le p (by lia)⟩
     |yield z=>exact⟨rfl,p⟩
    ·intro c st z;exact⟨z.1,.inr ⟨z.2.1,z.2.2.le (by lia)⟩⟩
    ·intro c st z;refine ax z λe1 W=>?_;subst e1;rcases W with W|W
     ·refine aa W λz e w=>?_;rw[e];exact X7 ⟨⟨_,rfl⟩,z,rfl,w⟩
     ·rw[W.1];refine X4<|wpS_lift<|D4 ⟨rfl,?_⟩;refine X4<|wpS_mono (O4 (I:=λm c st'=>(∃g,st'=St κ f l pd g)/\c.1=none/\Wn T f a b (n+1) c.2.1 c.2.2.1 c.2.2.2.1) (Q:=λc st'=>(∃g,st'=St κ f l pd g)/\Wm T f a b (n+1) c.1 c.2.1 c.2.2.1 c.2.2.2.1) ?_ ?_ ⟨⟨_,rfl⟩,rfl,W.2⟩) ?_
      ·intro m c st _ hm z;refine aV z λeg e2 W=>ao eg λg2 eg=>?_;subst eg;by_cases q:c.2.2.2.2.1 > 1
       ·rw[if_pos q];exact q1_ok (i:=c.2.2.1) (j:=c.2.2.2.1) (g:=c.2.2.2.2.1-1) (c:=c.2.2.2.2.2.1) (d:=c.2.2.2.2.2.2) K H W λr p=>by cases r<;>exact⟨⟨_,rfl⟩,p⟩
       ·rw[if_neg q];exact q1_ok (i:=c.2.2.1) (j:=c.2.2.2.1) (g:=c.2.2.2.2.1) (c:=c.2.2.2.2.2.1) (d:=c.2.2.2.2.2.2) K H W λr p=>by cases r<;>exact⟨⟨_,rfl⟩,p⟩
      ·intro c st z;exact⟨z.1,.inr z.2⟩
      ·intro c st z;refine ax z λeg W=>ao eg λg2 eg=>?_;subst eg;rcases W with W|W
       ·refine aa W λz e w=>?_;rw[e];exact X7 ⟨⟨_,rfl⟩,z,rfl,w⟩
       ·rw[W.1];dsimp only;rw[rT];exact X4<|wpS_modify<|X7 ⟨⟨_,rfl⟩,rfl,W.2⟩
   ·intro c st z;refine aV z λeg e1 W=>ig W λo' x x w1 w2 w3=>?_;rw[sa,sb]at w3;lia
   ·intro c st z;refine ax z λeg z=>aa z λv e w=>ao eg λg2 eg=>?_;subst eg;rw[e];exact X7<|h v g2 w
end
section
variable {M:Model}{A:Around}{E:ZN}{s:Shared}{κ:SortKind}{f:Nat->Keyed}{T:ZE}{X:Zt}
noncomputable def fB(x y o:Array Keyed)(p q:Nat):Array Keyed:=x.extract 0 p++y.extract 0 q++o.reverse
noncomputable abbrev Y2:=Option (Array Keyed)×Nat×Nat×Array Keyed×Nat×Nat×Nat
noncomputable def h4(x y:Array Keyed)(p g c d:Nat)(o:Array Keyed)(q:Nat):StateT SortSt Sem (ForInStep Y2):=do
 let z <- elem' x (p-1)
 if p-1==0 then pure (.done (some<|fB x y (o.push z) (p-1) q,p-1,q,o.push z,g,c,d))
 else if c<7&&d<7 then pure (.done (none,p-1,q,o.push z,g,c,d)) else pure (.yield (none,p-1,q,o.push z,g,c,d))
noncomputable def h3(x y:Array Keyed)(p g c d:Nat)(o:Array Keyed)(q:Nat):StateT SortSt Sem (ForInStep Y2):=do
 match <- xL true (<- elem' x (p-1)) y 0 q (q-1) with
 |some t=>if q-t > 0 then (if t==1 then pure (.done (some<|fB y x (o++(y.extract t q).reverse) t p,p,t,o++(y.extract t q).reverse,g,c,q-t)) else if t==0 then pure (.done (some<|fB x y (o++(y.extract t q).reverse) p t,p,t,o++(y.extract t q).reverse,g,c,q-t)) else h4 x y p g c (q-t) (o++(y.extract t q).reverse) t) else h4 x y p g c (q-t) o q
 |_=>pure<|.done (some<|fB x y o p q,p,q,o,g,c,d)
noncomputable def h2(x y:Array Keyed)(q g c d:Nat)(o:Array Keyed)(p:Nat):StateT SortSt Sem (ForInStep Y2):=do
 let z <- elem' y (q-1)
 if q-1==1 then pure (.done (some<|fB y x (o.push z) (q-1) p,p,q-1,o.push z,g,c,d)) else h3 x y p g c d (o.push z) (q-1)
noncomputable def h1(x y:Array Keyed)(p q:Nat)(o:Array Keyed)(c d g:Nat):StateT SortSt Sem (ForInStep Y2):=do
 smg g
 match <- xL false (<- elem' y (q-1)) x 0 p (p-1) with
 |some t=>if p-t > 0 then (if t==0 then pure (.done (some<|fB x y (o++(x.extract t p).reverse) t q,t,q,o++(x.extract t p).reverse,g,p-t,d)) else h2 x y q g (p-t) d (o++(x.extract t p).reverse) t) else h2 x y q g (p-t) d o p
 |_=>pure<|.done (some<|fB x y o p q,p,q,o,g,c,d)
noncomputable abbrev Y1:=Option (Array Keyed)×Nat×Nat×Array Keyed×Nat×Nat
noncomputable def v1(x y:Array Keyed)(g:Nat)(z:Y1):StateT SortSt Sem (ForInStep Y1):=do
 match <- lt' (<- elem' y (z.2.2.1-1)) (<- elem' x (z.2.1-1)) with
 |some w =>
  if w=true then do
   let e <- elem' x (z.2.1-1)
   if z.2.1-1==0 then pure (.done (some<|fB x y (z.2.2.2.1.push e) (z.2.1-1) z.2.2.1,z.2.1-1,z.2.2.1,z.2.2.2.1.push e,z.2.2.2.2.1+1,0))
   else if z.2.2.2.2.1+1 ≥ g then pure (.done (none,z.2.1-1,z.2.2.1,z.2.2.2.1.push e,z.2.2.2.2.1+1,0)) else pure (.yield (none,z.2.1-1,z.2.2.1,z.2.2.2.1.push e,z.2.2.2.2.1+1,0))
  else do
   let e <- elem' y (z.2.2.1-1)
   if z.2.2.1-1==1 then pure (.done (some<|fB y x (z.2.2.2.1.push e) (z.2.2.1-1) z.2.1,z.2.1,z.2.2.1-1,z.2.2.2.1.push e,0,z.2.2.2.2.2+1))
   else if z.2.2.2.2.2+1 ≥ g then pure (.done (none,z.2.1,z.2.2.1-1,z.2.2.2.1.push e,0,z.2.2.2.2.2+1)) else pure (.yield (none,z.2.1,z.2.2.1-1,z.2.2.2.1.push e,0,z.2.2.2.2.2+1))
 |_=>pure<|.done (some<|fB x y z.2.2.2.1 z.2.1 z.2.2.1,z.2.1,z.2.2.1,z.2.2.2.1,z.2.2.2.2.1,z.2.2.2.2.2)
theorem mhi_eq(x y:Array Keyed):mhi x y=(do
  rule "list.sort.merge-hi"
  let mut p:=x.size-1
  let mut q:=y.size
  let mut o:Array Keyed:=#[<- elem' x p]
  if p==0 then return fB x y o p q
  if q==1 then return fB y x o q p
  let mut g:=gallopOf (<- get)
  for _ in [0:x.size+y.size] do
   let mut c:=0
   let mut d:=0
   for _ in [0:x.size+y.size] do
    let some w <- lt' (<- elem' y (q-1)) (<- elem' x (p-1))|return fB x y o p q
    if w then
     p:=p-1;o:=o.push<|<- elem' x p;c:=c+1;d:=0
     if p==0 then return fB x y o p q
     if c ≥ g then break
    else
     q:=q-1;o:=o.push<|<- elem' y q;d:=d+1;c:=0
     if q==1 then return fB y x o q p
     if d ≥ g then break
   rule "list.sort.gallop"
   g:=g+1
   for _ in [0:x.size+y.size] do
    if g > 1 then g:=g-1
    smg g
    let some t <- xL false (<- elem' y (q-1)) x 0 p (p-1)|return fB x y o p q
    let k:=p-t
    c:=k
    if k > 0 then
     o:=o++(x.extract t p).reverse;p:=t
     if p==0 then return fB x y o p q
    q:=q-1;o:=o.push (<- elem' y q)
    if q==1 then return fB y x o q p
    let some t <- xL true (<- elem' x (p-1)) y 0 q (q-1)|return fB x y o p q
    let k:=q-t
    d:=k
    if k > 0 then
     o:=o++(y.extract t q).reverse;q:=t
     if q==1 then return fB y x o q p
     if q==0 then return fB x y o p q
    p:=p-1;o:=o.push (<- elem' x p)
    if p==0 then return fB x y o p q
    if c<7&&d<7 then break
   g:=g+1
   smg g
  unsupported "internal:list.sort.merge-bound"):=rfl
theorem Bk(x:ZM):(ar f x).reverse=ar f x.reverse:=by show (Z9<|x.map f).reverse=Z9 (x.reverse.map f);rw[List.reverse_toArray,List.map_reverse]
theorem kD(x:ZM)(a:Nat):(ar f x.reverse).push (f a)=ar f (a ::x).reverse:=by rw[kt,List.reverse_cons]
theorem Bl(x a:ZM)(t p:Nat):ar f x.reverse++((ar f a).extract t p).reverse=ar f ((a.drop t).take (p-t)++x).reverse:=by rw[nZ,Bk,jF,List.reverse_append]
theorem Bm(a b o:ZM)(p q:Nat):fB (ar f a) (ar f b) (ar f o.reverse) p q=ar f (a.take p++b.take q++o):=by unfold fB;rw[nZ,nZ,jF,Bk,jF,List.reverse_reverse];rfl
structure KK(T:ZE)(P R o al:ZM):Prop where
 pm:((P++R)++o).Perm al
 p1:(P++o).Pairwise T
 p2:(R++o).Pairwise T
theorem KK.flip(h:KK T P R o al):KK T R P o al:=⟨(List.Perm.append_right _ List.perm_append_comm).trans h.pm,h.p2,h.p1⟩
theorem KK.mv(h:KK T (P++U) R o al)(hu:∀u∈U,∀r∈R,T r u):KK T P R (U++o) al:=by
 have p1:=h.p1;rw[X3]at p1;have p2:=W6.mp h.p2;have p3:=W6.mp p1;refine⟨List.Perm.trans ?_ h.pm,p1,W6.mpr ⟨p2.1,p3.2.1,λr hr x hx=>?_⟩⟩
 ·rw[<- X3];refine List.Perm.append_right _ ?_;rw[X3,X3];exact List.Perm.append_left _ List.perm_append_comm
 ·exact(W0.mp hx).elim (λz=>hu x z r hr) λz=>p2.2.2 r hr x z
theorem KK.end(h:KK T P R o al)(e:P=[]):(P++R++o).Perm al/\(P++R++o).Pairwise T:=by subst e;exact⟨h.pm,h.p2⟩
theorem KK.last(h:KK T P R o al)(hu:∀r∈R,∀p∈P,T r p):(R++P++o).Perm al/\(R++P++o).Pairwise T:=by have p1:=W6.mp h.p1;have p2:=W6.mp h.p2;refine⟨h.flip.pm,?_⟩;rw[X3];refine W6.mpr ⟨p2.1,h.p1,λr hr x hx=>?_⟩;exact(W0.mp hx).elim (λz=>hu r hr x z) λz=>p2.2.2 r hr x z
theorem kE{a:ZM}(h:a[p-1]?=some x)(hp:1<=p):a.take p=a.take (p-1)++[x]:=by rw[show p=p-1+1 by lia,List.take_succ,Nat.add_sub_cancel,h];rfl
theorem Bn{a:ZM}(h:t<=p):a.take p=a.take t++(a.drop t).take (p-t):=by
 rw[<- List.drop_take]
 conv=>lhs;rw[<- W3 t (a.take p),List.take_take,O8 h]
theorem o5{a:ZM}(h:u∈a.take k):∃t,t<k/\a[t]?=some u:=ao (Q9 h) λt z=>G0 z λht z=>by have tk:t<k:=bZ ht<|List.length_take_le _ _;exact⟨t,tk,by rw[<- Q0 tk,<- z];exact Y5 ht⟩
theorem rX(K:Cx M A s κ f T X){b:ZM}(h:b.Pairwise T)(hy:b[q-1]?=some y)(t:T y u):∀r∈b.take q,T r u:=λr hr=>aa (o5 hr) λk hk e=>by
 rcases M7 k (q-1) with z|z
 ·exact K.tr (o4 h z e hy) t
 ·rw[show k=q-1 by lia,hy]at e;exact Z8 e▸t
theorem galH(K:Cx M A s κ f T X){Q:Option Nat->SortSt->Prop}{st:SortSt}(hk:kindOf st=κ)(hy:X ky)(hX:∀x∈a,X x)(ne:∀x∈a,x≠ky)(pa:a.Pairwise T)(hp:p<=a.length)(h1:1<=p)(h:∀t,t<=p->(∀u∈a.take t,T u ky)->(∀u∈(a.drop t).take (p-t),T ky u)->Q (some t) st):wpS M A E s (xL L (f ky) (ar f a) 0 p<|p-1) Q st:=by
 have zK:∀i,i<p->a[0+i]?=some ((a[i]?).getD 0):=λi hi=>by rw[Nat.zero_add,Y5 (by lia)];rfl
 have mem:∀i,i<p->(a[i]?).getD 0∈a:=λi hi=>U0<|zK i hi;refine rS K (d:=λt=>(a[t]?).getD 0) hk hy (λt ht=>hX _<|mem t ht) zK (λt ht=>ne _<|mem t ht) (λp' q pq hq=>o4 pa (i:=0+p') (j:=0+q) (by lia) (zK _ (by lia))<|zK _ hq) (by lia) λt ht h0 h1=>h t ht (λu hu=>?_) λu hu=>?_
 ·refine aa (o5 hu) λi hi e=>?_;have:=h0 i hi;rw[e]at this;exact this
 ·refine aa (Bi hu) λi hi e=>?_;have:=h1 (t+i) (by lia) (by lia);rw[e]at this;exact this
noncomputable def Vn(T:ZE)(f:Nat->Keyed)(a b:ZM)(N:Nat)(o:Array Keyed)(p q:Nat):Prop :=
 ∃o',o=ar f o'.reverse/\KK T (a.take p) (b.take q) o' (a++b)/\(1<=p/\p<=a.length)/\(2<=q/\q<=b.length)/\N+p+q<=a.length+b.length
noncomputable def Vm(T:ZE)(f:Nat->Keyed)(a b:ZM)(N:Nat)(r:Option (Array Keyed))(o:Array Keyed)(i j:Nat):Prop :=
 (∃z,r=some z/\Fn T f (a++b) z)\/(r=none/\Vn T f a b N o i j)
theorem rY(h:KK T (a.take p) (b.take q) o (a++b))(e:p=0):Fn T f (a++b) (fB (ar f a) (ar f b) (ar f o.reverse) p q):=⟨_,Bm a b o p q,h.end (by rw[e,List.take_zero])⟩
theorem gn_endB(h:KK T (a.take p) (b.take q) o (a++b))(e:q=0):Fn T f (a++b) (fB (ar f a) (ar f b) (ar f o.reverse) p q):=by
 refine⟨_,Bm a b o p q,?_⟩;have e':b.take q=[]:=by rw[e,List.take_zero]
 have:=h.flip.end e';rw[e',V8];rw[e',List.nil_append]at this;exact this
theorem mQ(H:Two T X a b)(h:KK T (a.take p) (b.take q) o (a++b))(e:q=1):Fn T f (a++b) (fB (ar f b) (ar f a) (ar f o.reverse) q p):=by refine⟨_,Bm b a o q p,h.last λr hr x hx=>?_⟩;refine aa (o5 hr) λi hi z=>?_;rw[show i=0 by lia]at z;exact H.fb r z x<|G1 hx
def tSq1(T:ZE)(f:Nat->Keyed)(a b:ZM)(N:Nat):ForInStep Y1->Prop
 |.done z=>Vm T f a b N z.1 z.2.2.2.1 z.2.1 z.2.2.1
 |.yield z=>z.1=none/\Vn T f a b N z.2.2.2.1 z.2.1 z.2.2.1
def S2'(T:ZE)(f:Nat->Keyed)(a b:ZM)(N:Nat):ForInStep Y2->Prop
 |.done z=>Vm T f a b N z.1 z.2.2.2.1 z.2.1 z.2.2.1
 |.yield z=>z.1=none/\Vn T f a b N z.2.2.2.1 z.2.1 z.2.2.1
theorem v1_ok(K:Cx M A s κ f T X)(H:Two T X a b){st:SortSt}{Q:ForInStep Y1->SortSt->Prop}(hk:kindOf st=κ)(W:Vn T f a b N o p q)(h:∀r,tSq1 T f a b (N+1) r->Q r st):
  wpS M A E s (v1 (ar f a) (ar f b) g (none,p,q,o,c,d)) Q st:=by
 refine ig W λo' e J hp hq hN=>?_;subst e;refine aa (has (V:=a) (i:=p-1) (by lia)) λx hx mx=>aa (has (V:=b) (i:=q-1) (by lia)) λy hy my=>?_;unfold v1;dsimp only;refine X4<|cM hy<|X4<|cM hx<|X4 (tY K hk (H.xb y my) (H.xa x mx) (λt=>?_) λt=>?_)
 ·have J':KK T (a.take<|p-1) (b.take q) ([x]++o') (a++b):=by have:=J;rw[kE hx hp.1]at this;exact this.mv λu hu=>by rw[Y3.mp hu];exact rX K H.pb hy t
  refine X4<|cM hx ?_;rw[kD];by_cases e:p-1=0
  ·rw[if_pos (by rw[e];exact beq_self_eq_true _)];exact X7<|h _<|.inl ⟨_,rfl,rY J' e⟩
  ·rw[if_neg λz=>e<|eq_of_beq z];have w:Vn T f a b (N+1) (ar f (x ::o').reverse) (p-1) q:=⟨_,rfl,J',by lia,hq,by lia⟩;by_cases q:c+1 ≥ g
   ·rw[if_pos q];exact X7<|h _<|.inr ⟨rfl,w⟩
   ·rw[if_neg q];exact X7<|h _ ⟨rfl,w⟩
 ·have t:=t.resolve_left<|R4<|H.ne x mx y my;have J':KK T (a.take p) (b.take<|q-1) ([y]++o') (a++b):=by have:=J.flip;rw[kE hy (by lia)]at this;exact(this.mv λu hu=>by rw[Y3.mp hu];exact rX K H.pa hx t).flip
  refine X4<|cM hy ?_;rw[kD];by_cases e:q-1=1
  ·rw[if_pos (by rw[e];exact beq_self_eq_true _)];exact X7<|h _<|.inl ⟨_,rfl,mQ H J' e⟩
  ·rw[if_neg λz=>e<|eq_of_beq z];have w:Vn T f a b (N+1) (ar f (y ::o').reverse) p (q-1):=⟨_,rfl,J',hp,by lia,by lia⟩;by_cases q:d+1 ≥ g
   ·rw[if_pos q];exact X7<|h _<|.inr ⟨rfl,w⟩
   ·rw[if_neg q];exact X7<|h _ ⟨rfl,w⟩
theorem h4_ok(K:Cx M A s κ f T X)(H:Two T X a b){st:SortSt}{Q:ForInStep Y2->SortSt->Prop}(J:KK T (a.take p) (b.take q) o (a++b))(hp:1<=p/\p<=a.length)(hq:2<=q/\q<=b.length)(hN:N+p+q<=a.length+b.length)(hx:a[p-1]?=some x)(t:∀u∈b.take q,T u x)(h:∀r,S2' T f a b N r->Q r st):
  wpS M A E s (h4 (ar f a) (ar f b) p g c d (ar f o.reverse) q) Q st:=by
 unfold h4;have J':KK T (a.take<|p-1) (b.take q) ([x]++o) (a++b):=by have:=J;rw[kE hx hp.1]at this;exact this.mv λu hu=>by rw[Y3.mp hu];exact t
 refine X4<|cM hx ?_;rw[kD];by_cases e:p-1=0
 ·rw[if_pos (by rw[e];exact beq_self_eq_true _)];exact X7<|h _<|.inl ⟨_,rfl,rY J' e⟩
 ·rw[if_neg λz=>e<|eq_of_beq z];have w:Vn T f a b N (ar f (x ::o).reverse) (p-1) q:=⟨_,rfl,J',by omega,hq,by omega⟩;by_cases z:(decide (c<7)&&decide (d<7))=true
  ·rw[if_pos z];exact X7<|h _<|.inr ⟨rfl,w⟩
  ·rw[if_neg z];exact X7<|h _ ⟨rfl,w⟩
theorem h3_ok(K:Cx M A s κ f T X)(H:Two T X a b){st:SortSt}{Q:ForInStep Y2->SortSt->Prop}(hk:kindOf st=κ)(J:KK T (a.take p) (b.take q) o (a++b))(hp:1<=p/\p<=a.length)(hq:2<=q/\q<=b.length)(hN:N+p+q<=a.length+b.length)(h:∀r,S2' T f a b N r->Q r st):
  wpS M A E s (h3 (ar f a) (ar f b) p g c d (ar f o.reverse) q) Q st:=by
 unfold h3;refine aa (has (V:=a) (i:=p-1) (by lia)) λx hx mx=>?_;refine X4<|cM hx<|X4 (galH K hk (H.xa x mx) H.xb (λy hy=>R4<|H.ne x mx y hy) H.pb hq.2 (by lia) λt ht h0 h1=>?_);dsimp only;have J':KK T (a.take p) (b.take t) ((b.drop t).take (q-t)++o) (a++b):=by have:=J.flip;rw[Bn ht]at this;exact(this.mv λu hu=>rX K H.pa hx<|h1 u hu).flip
 by_cases kz:q-t > 0
 ·rw[if_pos kz,Bl];by_cases e:t=1
  ·rw[if_pos (by rw[e];exact beq_self_eq_true _)];exact X7<|h _<|.inl ⟨_,rfl,mQ H J' e⟩
  ·rw[if_neg λz=>e<|eq_of_beq z];by_cases e2:t=0
   ·rw[if_pos (by rw[e2];exact beq_self_eq_true _)];exact X7<|h _<|.inl ⟨_,rfl,gn_endB J' e2⟩
   ·rw[if_neg λz=>e2<|eq_of_beq z];exact h4_ok K H J' hp (by lia) (by lia) hx h0 h
 ·rw[if_neg kz];have:t=q:=by lia
  subst this;exact h4_ok K H J hp hq hN hx h0 h
theorem h2_ok(K:Cx M A s κ f T X)(H:Two T X a b){st:SortSt}{Q:ForInStep Y2->SortSt->Prop}(hk:kindOf st=κ)(J:KK T (a.take p) (b.take q) o (a++b))(hp:1<=p/\p<=a.length)(hq:2<=q/\q<=b.length)(hN:N+p+q<=a.length+b.length)(hy:b[q-1]?=some y)(t:∀u∈a.take p,T u y)(h:∀r,S2' T f a b N r->Q r st):
  wpS M A E s (h2 (ar f a) (ar f b) q g c d (ar f o.reverse) p) Q st:=by
 unfold h2;have J':KK T (a.take p) (b.take<|q-1) ([y]++o) (a++b):=by have:=J.flip;rw[kE hy (by lia)]at this;exact(this.mv λu hu=>by rw[Y3.mp hu];exact t).flip
 refine X4<|cM hy ?_;rw[kD];by_cases e:q-1=1
 ·rw[if_pos (by rw[e];exact beq_self_eq_true _)];exact X7<|h _<|.inl ⟨_,rfl,mQ H J' e⟩
 ·rw[if_neg λz=>e<|eq_of_beq z];exact h3_ok K H hk J' hp (by lia) (by lia) h
theorem h1_ok(K:Cx M A s κ f T X)(H:Two T X a b){Q:ForInStep Y2->SortSt->Prop}(W:Vn T f a b N o p q)(h:∀r,S2' T f a b N r->Q r (St κ f l pd g)):
  wpS M A E s (h1 (ar f a) (ar f b) p q o c d g) Q (St κ f l pd g0):=by
 refine ig W λo' e J hp hq hN=>?_;subst e;unfold h1;rw[rT];refine X4<|wpS_modify ?_;show wpS M A E s _ Q (St κ f l pd g);refine aa (has (V:=b) (i:=q-1) (by lia)) λy hy my=>?_;refine X4<|cM hy<|X4 (galH K rfl (H.xb y my) H.xa (λx hx=>H.ne x hx y my) H.pa hp.2 hp.1 λt ht h0 h1=>?_);dsimp only;have J':KK T (a.take t) (b.take q) ((a.drop t).take (p-t)++o') (a++b):=by have:=J;rw[Bn ht]at this;exact this.mv λu hu=>rX K H.pb hy<|h1 u hu
 by_cases kz:p-t > 0
 ·rw[if_pos kz,Bl];by_cases e:t=0
  ·rw[if_pos (by rw[e];exact beq_self_eq_true _)];exact X7<|h _<|.inl ⟨_,rfl,rY J' e⟩
  ·rw[if_neg λz=>e<|eq_of_beq z];exact h2_ok K H rfl J' (by lia) hq (by lia) hy h0 h
 ·rw[if_neg kz];have:t=p:=by lia
  subst this;exact h2_ok K H rfl J hp hq hN hy h0 h
theorem Vn.le(h:Vn T f a b N o i j)(q:N'<=N):Vn T f a b N' o i j:=ig h λo' e J hi hj hN=>⟨o',e,J,hi,hj,by lia⟩
theorem Vm.le(h:Vm T f a b N r o i j)(q:N'<=N):Vm T f a b N' r o i j:=h.imp id λz=>⟨z.1,z.2.le q⟩
theorem mhi_ok(K:Cx M A s κ f T X)(H:Two T X a b)(ha:1<=a.length)(hb:1<=b.length){Q:Array Keyed->SortSt->Prop}(h:∀r g,Fn T f (a++b) r->Q r (St κ f l pd g)):
  wpS M A E s (mhi (ar f a)<|ar f b) Q (St κ f l pd g0):=by
 rw[mhi_eq];refine X4<|wpS_lift<|D4 ⟨rfl,?_⟩;refine aa (has (V:=a) (i:=a.length-1) (by lia)) λx hx mx=>?_;have sa:=cV (f:=f) a;have sb:=cV (f:=f) b;have J:KK T (a.take<|a.length-1) (b.take b.length) [x] (a++b):=by have j0:KK T a b [] (a++b):=⟨by rw[V8],by rw[V8];exact H.pa,by rw[V8];exact H.pb⟩;have e:a=a.take (a.length-1)++[x]:=(N6 (l:=a)).symm.trans (kE hx ha);have j0:KK T (a.take (a.length-1)++[x]) b [] (a++b):=e▸j0;rw[N6];exact j0.mv λu hu=>by rw[Y3.mp hu];exact H.la x hx
 refine X4<|cM (x:=x) (by rw[sa,hx]) ?_;by_cases e:a.length-1=0
 ·refine kB (by rw[sa,e];rfl)<|X7 ?_;rw[sa,sb];exact h _ _<|rY J e
 ·refine kC (λz=>e<|sa▸eq_of_beq z) ?_;by_cases e2:b.length=1
  ·refine kB (by rw[sb,e2];rfl)<|X7 ?_;rw[sa,sb];exact h _ _<|mQ H J e2
  ·have V0:Vn T f a b 0 #[f x] ((ar f a).size-1) (ar f b).size:=by rw[sa,sb];exact⟨[x],rfl,J,show 1<=a.length-1/\a.length-1<=a.length by lia,show 2<=b.length/\b.length<=b.length by lia,show 0+(a.length-1)+b.length<=a.length+b.length by lia⟩
   refine kC (λz=>e2<|sb▸eq_of_beq z) ?_;refine X4<|wpS_get<|X4<|wpS_mono (O4 (I:=λn c st=>(∃g,st=St κ f l pd g)/\c.1=none/\Vn T f a b n c.2.2.2.1 c.2.1 c.2.2.1) (Q:=λc st=>(∃g,st=St κ f l pd g)/\∃z,c.1=some z/\Fn T f (a++b) z) ?_ ?_ ⟨⟨g0,rfl⟩,rfl,V0⟩) ?_
   ·intro n c st _ hn z;refine aV z λeg e1 W=>ao eg λg1 eg=>?_;subst eg;refine X4<|wpS_mono (O4 (I:=λm c st'=>st'=St κ f l pd g1/\c.1=none/\Vn T f a b (n+m) c.2.2.2.1 c.2.1 c.2.2.1) (Q:=λc st'=>st'=St κ f l pd g1/\Vm T f a b (n+1) c.1 c.2.2.2.1 c.2.1 c.2.2.1) ?_ ?_ ⟨rfl,rfl,W⟩) ?_
    ·intro m c st _ hm z;refine aV z λe1 e2 W=>?_;subst e1;refine v1_ok (p:=c.2.1) (q:=c.2.2.1) (c:=c.2.2.2.2.1) (d:=c.2.2.2.2.2) K H rfl W λr p=>?_;cases r with
     |done z=>exact⟨rfl,Vm.le p (by lia)⟩
     |yield z=>exact⟨rfl,p⟩
    ·intro c st z;exact⟨z.1,.inr ⟨z.2.1,z.2.2.le (by lia)⟩⟩
    ·intro c st z;refine ax z λe1 W=>?_;subst e1;rcases W with W|W
     ·refine aa W λz e w=>?_;rw[e];exact X7 ⟨⟨_,rfl⟩,z,rfl,w⟩
     ·rw[W.1];refine X4<|wpS_lift<|D4 ⟨rfl,?_⟩;refine X4<|wpS_mono (O4 (I:=λm c st'=>(∃g,st'=St κ f l pd g)/\c.1=none/\Vn T f a b (n+1) c.2.2.2.1 c.2.1 c.2.2.1) (Q:=λc st'=>(∃g,st'=St κ f l pd g)/\Vm T f a b (n+1) c.1 c.2.2.2.1 c.2.1 c.2.2.1) ?_ ?_ ⟨⟨_,rfl⟩,rfl,W.2⟩) ?_
      ·intro m c st _ hm z;refine aV z λeg e2 W=>ao eg λg2 eg=>?_;subst eg;by_cases q:c.2.2.2.2.1 > 1
       ·rw[if_pos q];exact h1_ok (p:=c.2.1) (q:=c.2.2.1) (g:=c.2.2.2.2.1-1) (c:=c.2.2.2.2.2.1) (d:=c.2.2.2.2.2.2) K H W λr p=>by cases r<;>exact⟨⟨_,rfl⟩,p⟩
       ·rw[if_neg q];exact h1_ok (p:=c.2.1) (q:=c.2.2.1) (g:=c.2.2.2.2.1) (c:=c.2.2.2.2.2.1) (d:=c.2.2.2.2.2.2) K H W λr p=>by cases r<;>exact⟨⟨_,rfl⟩,p⟩
      ·intro c st z;exact⟨z.1,.inr z.2⟩
      ·intro c st z;refine ax z λeg W=>ao eg λg2 eg=>?_;subst eg;rcases W with W|W
       ·refine aa W λz e w=>?_;rw[e];exact X7 ⟨⟨_,rfl⟩,z,rfl,w⟩
       ·rw[W.1];dsimp only;rw[rT];exact X4<|wpS_modify<|X7 ⟨⟨_,rfl⟩,rfl,W.2⟩
   ·intro c st z;refine aV z λeg e1 W=>ig W λo' y y w1 w2 w3=>?_;lia
   ·intro c st z;refine ax z λeg z=>aa z λv e w=>ao eg λg2 eg=>?_;subst eg;rw[e];exact X7<|h v g2 w
end
section
variable {M:Model}{A:Around}{E:ZN}{s:Shared}{κ:SortKind}{f:Nat->Keyed}{T:ZE}{X:Zt}
theorem mat_eq(i:Nat):mergeAt' i=(do
  let z <- get
  let (some (sa,na,pw),some (sb,nb,_)):=((pendingOf z)[i]?,(pendingOf z)[i+1]?)|unsupported "internal:list.sort.pending"
  set (D6 (kindOf z) (arrOf z) (((pendingOf z).setIfInBounds i (sa,na+nb,pw)).eraseIdxIfInBounds (i+1)) (gallopOf z)<|failedOf z)
  let some k <- xL false (<- elem' (arrOf z) sb) (arrOf z) sa na 0|return false
  let (sa,na):=(sa+k,na-k)
  if na==0 then return true
  let some nb <- xL true (<- elem' (arrOf z) (sa+na-1)) (arrOf z) sb nb (nb-1)|return false
  if nb==0 then return true
  let w <- if na<=nb then mlo ((arrOf z).extract sa sb) ((arrOf z).extract sb (sb+nb)) else mhi ((arrOf z).extract sa sb) ((arrOf z).extract sb (sb+nb))
  modify λz=>setArr z (w.toList.zipIdx.foldl (λa (p,j)=>a.setIfInBounds (sa+j) p)<|arrOf z)
  return (failedOf<|<- get).isNone):=rfl
theorem wpS_set{σ:Type}{Q:PUnit->σ->Prop}{st st':σ}(h:Q ⟨⟩ st'):wpS M A E s (set st':StateT σ Sem PUnit) Q st:=by unfold wpS;rw[StateT.run_set];exact Z5 ⟨rfl,h⟩
theorem wr{α:Type}{R:List α}:∀(w P O:List α) (n:Nat),O.length=w.length->P.length=b+n->(w.zipIdx n).foldl (λa (q:α×Nat)=>a.setIfInBounds (b+q.2) q.1) (Z9<|P++(O++R))=Z9 (P++(w++R)):=by
 intro w;induction w with
 |nil=>intro P O n h hp;cases O with|nil=>rfl|cons _ _=>exact nomatch h
 |cons c w ih =>
  intro P O n h hp;cases O with
  |nil=>exact nomatch h
  |cons o O =>
   rw[List.zipIdx_cons,List.foldl_cons];have e:(Z9<|P++(o ::O++R)).setIfInBounds (b+n) c=Z9 ((P++[c])++(O++R)):=by rw[List.setIfInBounds_toArray,<- hp,List.set_append_right _ _ (bD _),Nat.sub_self,X3];rfl
   rw[e,ih (P++[c]) O (n+1) (Nat.succ.inj h) (by rw[Y9,hp];rfl),X3];rfl
theorem Bo{α:Type}{L L2:List α}{a b:α}:(Z9 (L++a ::b ::L2))[L.length]?=some a/\(Z9 (L++a ::b ::L2))[L.length+1]?=some b:=by rw[Q6,Q6,Y6 (bD _),Y6 (T4 _ 1),Nat.sub_self,Q7];exact⟨rfl,rfl⟩
theorem pd_set{α:Type}{L L2:List α}{a b v:α}:((Z9 (L++a ::b ::L2)).setIfInBounds L.length v).eraseIdxIfInBounds (L.length+1)=Z9 (L++v ::L2):=by rw[List.setIfInBounds_toArray,List.set_append_right _ _ (bD _),Nat.sub_self];apply Array.toList_inj.mp;rw[Array.toList_eraseIdxIfInBounds];show (L++v ::b ::L2).eraseIdx (L.length+1)=_;rw[List.eraseIdx_append_of_length_le (T4 _ 1),Q7];rfl
theorem xM{U W V:ZM}(h:W[i]?=some x):(U++(W++V))[U.length+i]?=some x:=by rw[gi,X5 (Z6.mp h).1];exact h
theorem Bp(U W V:ZM):(ar f<|U++(W++V)).extract U.length (U.length+W.length)=ar f W:=by rw[nZ,List.drop_left,Q7,List.take_left]
theorem Bq{x y:ZM}(h:(x++y).Pairwise T)(ha:a∈x)(hb:b∈y):T a b:=(W6.mp h).2.2 a ha b hb
theorem mat_ok(K:Cx M A s κ f T X){Q:Bool->SortSt->Prop}(hX:∀u∈x++y,X u)(nd:(x++y).Nodup)(px:x.Pairwise T)(py:y.Pairwise T)(hx:1<=x.length)(hy:1<=y.length)(h:∀m g',m.Perm (x++y)->m.Pairwise T->Q true (St κ f (U++(m++V)) (Z9 (L1++(U.length,x.length+y.length,p1) ::L2)) g')):
  wpS M A E s (mergeAt' L1.length) Q (St κ f (U++(x++(y++V))) (Z9 (L1++(U.length,x.length,p1) ::(U.length+x.length,y.length,p2) ::L2)) g):=by
 rw[mat_eq];refine X4<|wpS_get ?_;show wpS M A E s (match ((Z9 (L1++(U.length,x.length,p1) ::(U.length+x.length,y.length,p2) ::L2))[L1.length]?,(Z9 (L1++(U.length,x.length,p1) ::(U.length+x.length,y.length,p2) ::L2))[L1.length+1]?) with
  |(some (sa,na,pw),some (sb,nb,_))=>_
  |_=>_) Q _
 rw[Bo.1,Bo.2];dsimp only;refine X4<|wpS_set ?_;rw[pd_set];show wpS M A E s _ Q (St κ f (U++(x++(y++V))) (Z9 (L1++(U.length,x.length+y.length,p1) ::L2)) g);have el:U++(x++(y++V))=(U++x)++(y++V):=(X3 _ _ _).symm;have lU:(U++x).length=U.length+x.length:=Y9;have gx:∀{i u},x[i]?=some u->(U++(x++(y++V)))[U.length+i]?=some u:=λh=>xM h;have gy:∀{i u},y[i]?=some u->(U++(x++(y++V)))[U.length+x.length+i]?=some u:=λh=>by rw[el,<- lU];exact xM h
 have ex:∀i,i<x.length->x[i]?=some ((x[i]?).getD 0):=λi hi=>by rw[Y5 hi];rfl
 have ey:∀i,i<y.length->y[i]?=some ((y[i]?).getD 0):=λi hi=>by rw[Y5 hi];rfl
 have ne:∀a∈x,∀b∈y,a≠b:=(List.nodup_append.mp nd).2.2;refine aa (has (V:=y) (i:=0) hy) λy0 hy0 my0=>aa (has (V:=x) (i:=x.length-1) (by lia)) λlx hlx mlx=>?_;refine X4<|cM (gy hy0)<|X4 (rS K (d:=λi=>(x[i]?).getD 0) rfl (hX y0<|Y8 _ my0) (λi hi=>hX _<|U7 _<|U0<|ex i hi) (λi hi=>gx<|ex i hi) (λi hi=>ne _ (U0<|ex i hi) y0 my0) (λi j ij hj=>o4 px ij (ex i<|eJ ij hj)<|ex j hj) hx λk hk h0 h1=>?_);have x1:∀u∈x.take k,T u y0:=λu hu=>aa (o5 hu) λi hi e=>by have:=h0 i hi;rw[e]at this;exact this
 have x2:∀u∈x.drop k,T y0 u:=λu hu=>ao (kA hu) λi e=>by have:=h1 (k+i) (T4 _ _) (Z6.mp e).1;rw[e]at this;exact this
 have y0y:∀u,T u y0->∀r∈y,T u r:=λu t r hr=>jG K py hy0 t r (by rw[List.drop_zero];exact hr);dsimp only;by_cases z:x.length-k=0
 ·rw[if_pos (by rw[z];rfl)];refine X7 ?_;have e:x.take k=x:=K2 (by lia);rw[e]at x1;have:=h (x++y) g (.refl _)<|W6.mpr ⟨px,py,λa ha b hb=>y0y a (x1 a ha) b hb⟩;rw[X3]at this;exact this
 ·rw[if_neg λq=>z<|eq_of_beq q];have lx':∀u∈x,u=lx\/T u lx:=λu hu=>ao (Q9 hu) λi e=>G0 e λhi e=>by
   have e':x[i]?=some u:=by rw[<- e];exact Y5 hi
   rcases M7 i (x.length-1) with q|q
   ·exact .inr<|o4 px q e' hlx
   ·rw[show i=x.length-1 by lia,hlx]at e';exact .inl (Z8 e').symm
  refine X4<|cM (x:=lx) (by rw[show U.length+k+(x.length-k)-1=U.length+(x.length-1) by lia];exact gx hlx)<|X4 (rS K (d:=λi=>(y[i]?).getD 0) rfl (hX lx<|U7 _ mlx) (λi hi=>hX _<|Y8 _<|U0<|ey i hi) (λi hi=>gy<|ey i hi) (λi hi=>R4<|ne lx mlx _<|U0<|ey i hi) (λi j ij hj=>o4 py ij (ey i<|eJ ij hj)<|ey j hj) (by lia) λt ht t0 t1=>?_);have y1:∀u∈y.take t,T u lx:=λu hu=>aa (o5 hu) λi hi e=>by have:=t0 i hi;rw[e]at this;exact this
  have y2:∀u∈y.drop t,T lx u:=λu hu=>ao (kA hu) λi e=>by have:=t1 (t+i) (T4 _ _) (Z6.mp e).1;rw[e]at this;exact this
  have y2x:∀a∈x,∀b∈y.drop t,T a b:=λa ha b hb=>(lx' a ha).elim (λe=>e▸y2 b hb) λq=>K.tr q<|y2 b hb;dsimp only;by_cases z2:t=0
  ·rw[if_pos (by rw[z2];rfl)];refine X7 ?_;rw[z2,List.drop_zero]at y2x;have:=h (x++y) g (.refl _)<|W6.mpr ⟨px,py,y2x⟩;rw[X3]at this;exact this
  ·rw[if_neg λq=>z2<|eq_of_beq q];have lk:(U++x.take k).length=U.length+k:=by rw[Y9,S6,O8 hk]
   have l2:(x.drop k).length=x.length-k:=J3;have l3:(y.take t).length=t:=by rw[S6,O8 ht]
   have E1:(ar f<|U++(x++(y++V))).extract (U.length+k) (U.length+x.length)=ar f (x.drop k):=by have:=Bp (f:=f) (U++x.take k) (x.drop k)<|y++V;rw[lk,l2,show U.length+k+(x.length-k)=U.length+x.length by lia,X3,<- X3 (x.take k),W3]at this;exact this
   have E2:(ar f<|U++(x++(y++V))).extract (U.length+x.length) (U.length+x.length+t)=ar f (y.take t):=by have:=Bp (f:=f) (U++x) (y.take t)<|y.drop t++V;rw[lU,l3,X3,<- X3 (y.take t),W3]at this;exact this
   have H:Two T X (x.drop k) (y.take t):=by
    refine⟨px.sublist<|List.drop_sublist _ _,py.sublist<|List.take_sublist _ _,λu hu=>hX u<|U7 _<|J9 hu,λu hu=>hX u<|Y8 _<|G1 hu,λa ha b hb=>ne a (J9 ha) b<|G1 hb,λv hv=>?_,λv hv=>?_⟩
    ·rw[l2,D2,show k+(x.length-k-1)=x.length-1 by lia,hlx]at hv;exact Z8 hv▸y1
    ·rw[Q0 (by lia),hy0]at hv;exact Z8 hv▸x2
   have fin:∀r g',Fn T f (x.drop k++y.take t) r->wpS M A E s (do
     modify λz=>setArr z (r.toList.zipIdx.foldl (λa (p,j)=>a.setIfInBounds (U.length+k+j) p)<|arrOf z)
     return (failedOf<|<- get).isNone) Q (St κ f (U++(x++(y++V))) (Z9 (L1++(U.length,x.length+y.length,p1) ::L2)) g'):=λr g' w=>by
    refine aE w λm e pm pw=>?_;subst e;refine X4<|wpS_modify<|X4<|wpS_get<|X7 ?_;have hm:((x.take k++m)++y.drop t).Perm (x++y):=by have q:(x.take k++m++y.drop t).Perm (x.take k++(x.drop k++y.take t)++y.drop t):=(pm.append_left _).append_right _;rw[<- X3 (x.take k),W3,X3 x,W3]at q;exact q
    have hp:((x.take k++m)++y.drop t).Pairwise T:=by
     refine W6.mpr ⟨W6.mpr ⟨px.sublist<|List.take_sublist _ _,pw,λa ha b hb=>?_⟩,py.sublist<|List.drop_sublist _ _,λa ha b hb=>?_⟩
     ·rcases W0.mp (pm.mem_iff.mp hb) with q|q
      ·exact Bq (x:=x.take k) (y:=x.drop k) (by rw[W3];exact px) ha q
      ·exact y0y a (x1 a ha) b<|G1 q
     ·rcases W0.mp ha with q|q
      ·exact y2x a (G1 q) b hb
      ·rcases W0.mp (pm.mem_iff.mp q) with q|q
       ·exact y2x a (J9 q) b hb
       ·exact Bq (x:=y.take t) (y:=y.drop t) (by rw[W3];exact py) q hb
    have W:=wr (R:=(y.drop t++V).map f) (b:=U.length+k) (m.map f) ((U++x.take k).map f) ((x.drop k++y.take t).map f) 0 (by rw[Y0,Y0,pm.length_eq]) (by rw[Y0,lk];rfl);rw[<- T0,<- T0,<- T0,<- T0]at W;have q1:U++x.take k++(x.drop k++y.take t++(y.drop t++V))=U++(x++(y++V)):=by simp only[X3];rw[<- X3 (y.take t),W3,<- X3 (x.take k),W3]
    have q2:U++x.take k++(m++(y.drop t++V))=U++((x.take k++m++y.drop t)++V):=by simp only[X3]
    rw[q1,q2]at W;have:=h _ g' hm hp;show Q true (D6 κ ((List.map f m).zipIdx.foldl (λa (q:Keyed×Nat)=>a.setIfInBounds (U.length+k+q.2) q.1) (Z9<|(U++(x++(y++V))).map f)) _ g' none);rw[W];exact this
   show wpS M A E s (do
     let w <- if x.length-k<=t then mlo ((ar f<|U++(x++(y++V))).extract (U.length+k) (U.length+x.length)) ((ar f<|U++(x++(y++V))).extract (U.length+x.length) (U.length+x.length+t)) else mhi ((ar f<|U++(x++(y++V))).extract (U.length+k) (U.length+x.length)) ((ar f<|U++(x++(y++V))).extract (U.length+x.length) (U.length+x.length+t))
     modify λz=>setArr z (w.toList.zipIdx.foldl (λa (p,j)=>a.setIfInBounds (U.length+k+j) p)<|arrOf z)
     return (failedOf<|<- get).isNone) Q _
   rw[E1,E2];by_cases c:x.length-k<=t
   ·rw[if_pos c];exact X4<|mlo_ok K H (by lia) (by lia) fin
   ·rw[if_neg c];exact X4<|mhi_ok K H (by lia) (by lia) fin
noncomputable def Cd:Nat->List (List Nat)->List (Nat×Nat)
 |_,[]=>[]
 |k,r ::R=>(k,r.length) ::Cd (k+r.length) R
theorem rZ:∀(R1 R2:Zi) (k:Nat),Cd k (R1++R2)=Cd k R1++Cd (k+R1.flatten.length) R2:=by
 intro R1;induction R1 with
 |nil=>exact λx x=>rfl
 |cons r R1 ih =>intro R2 k;show (k,r.length) ::Cd (k+r.length) (R1++R2)=(k,r.length) ::(Cd (k+r.length) R1++Cd (k+(r++R1.flatten).length) R2);rw[ih R2,Y9,Nat.add_assoc]
theorem xN:∀(R:Zi) (k:Nat),(Cd k R).length=R.length:=by
 intro R;induction R with
 |nil=>exact λx=>rfl
 |cons r R ih=>exact λk=>congrArg Nat.succ<|ih<|k+r.length
noncomputable abbrev pr2(e:Nat×Nat×Nat):Nat×Nat:=(e.1,e.2.1)
structure Okl(T:ZE)(L:YX)(R:Zi):Prop where
 mp:L.map pr2=Cd 0 R
 rn:∀r∈R,1<=r.length/\r.Pairwise T
theorem Okl.len(h:Okl T L R):L.length=R.length:=by rw[<- Y0 (f:=pr2),h.mp,xN]
theorem two_at{R:Zi}(h:i+1<R.length):∃R1 x y R2,R=R1++x ::y ::R2/\R1.length=i :=
 ⟨R.take i,R[i],R[i+1],R.drop<|i+2,by rw[<- K7,<- K7,W3],by rw[S6];lia⟩
theorem Br(K:Cx M A s κ f T X){Q:Bool->SortSt->Prop}(O:Okl T L R)(hi:i+1<L.length)(nd:(R.flatten++V).Nodup)(hX:∀x∈R.flatten++V,X x)(h:∀R' L' g',Okl T L' R'->L'.length+1=L.length->R'.flatten.Perm R.flatten->Q true (St κ f (R'.flatten++V) (Z9 L') g')):wpS M A E s (mergeAt' i) Q (St κ f (R.flatten++V) (Z9 L) g):=by
 refine kX (two_at (R:=R) (i:=i) (by rw[<- O.len];exact hi)) λR1 x y R2 eR e1=>?_;subst eR;have mp:=O.mp;rw[rZ]at mp;refine ay (List.map_eq_append_iff.mp mp) λL1 L3 eL m1 m2=>?_;refine ay (List.map_eq_cons_iff.mp m2) λe L4 eL3 ee m3=>ay (List.map_eq_cons_iff.mp m3) λe' L2 eL4 ee' m4=>?_;subst eL;subst eL3;subst eL4;have l1:L1.length=i:=by rw[<- e1,<- xN R1 0,<- m1,Y0]
 have q1:e=(R1.flatten.length,x.length,e.2.2):=by have a:=congrArg Prod.fst ee;have b:=congrArg Prod.snd ee;rw[Nat.zero_add]at a;exact Prod.ext a<|Prod.ext b rfl
 have q2:e'=(R1.flatten.length+x.length,y.length,e'.2.2):=by have a:=congrArg Prod.fst ee';have b:=congrArg Prod.snd ee';rw[Nat.zero_add]at a;exact Prod.ext a<|Prod.ext b rfl
 have fl:(R1++x ::y ::R2).flatten=R1.flatten++(x++(y++R2.flatten)):=by rw[List.flatten_append];rfl
 have ox:=O.rn x<|Y8 _<|.head _;have oy:=O.rn y<|Y8 _<|.tail _<|.head _;rw[fl]at nd hX h ⊢;have ap:(R1.flatten++(x++(y++R2.flatten)))++V=R1.flatten++(x++(y++(R2.flatten++V))):=by simp only[X3]
 rw[ap]at nd hX ⊢;rw[q1,q2,<- l1];have sub:(x++y).Sublist (R1.flatten++(x++(y++(R2.flatten++V)))):=by refine List.Sublist.trans ?_<|List.sublist_append_right _ _;rw[<- X3];exact List.sublist_append_left _ _
 refine mat_ok K (λu hu=>hX u<|sub.subset hu) (nd.sublist sub) ox.2 oy.2 ox.1 oy.1 λm g' pm pw=>?_;have:=h (R1++m ::R2) (L1++(R1.flatten.length,x.length+y.length,e.2.2) ::L2) g' ⟨?_,λr hr=>?_⟩ ?_ ?_
 ·rw[List.flatten_append,X3]at this;show Q true (St κ f (R1.flatten++(m++(R2.flatten++V))) _ g');rw[<- X3 m];exact this
 ·rw[rZ,T0,m1,W7,m4];show _++(_ ::_)=_++((0+R1.flatten.length,m.length) ::Cd (0+R1.flatten.length+m.length) R2);rw[pm.length_eq,Y9,Nat.zero_add];rw[Nat.add_assoc]
 ·rcases W0.mp hr with q|q
  ·exact O.rn r<|U7 _ q
  ·rcases Y4.mp q with q|q
   ·rw[q];exact⟨by rw[pm.length_eq,Y9];lia,pw⟩
   ·exact O.rn r<|Y8 _<|.tail _<|.tail _ q
 ·rw[Y9,Y9];rfl
 ·rw[List.flatten_append];refine List.Perm.append_left _ ?_;show (m++R2.flatten).Perm _;rw[<- X3];exact pm.append_right _
noncomputable def u3(lo n:Nat):StateT SortSt Sem (ForInStep<|Option Unit×Nat):=do
 modify λz=>setPending z ((pendingOf z).push (lo,n,0))
 pure (.yield (none,lo+n))
theorem map_mod{L:YX}{w:Nat×Nat×Nat->Nat×Nat×Nat}(h:∀e,pr2 (w e)=pr2 e):(L.modify i w).map pr2=L.map pr2:=by
 apply List.ext_getElem?;intro k;rw[X2,X2,List.getElem?_modify];cases L[k]? with
 |none=>rfl
 |some e =>
  show some (pr2 (if i=k then w e else e))=some (pr2 e);by_cases c:i=k
  ·rw[if_pos c,h]
  ·rw[if_neg c]
noncomputable def Rs(κ:SortKind)(f:Nat->Keyed)(T:ZE)(l0:ZM)(lo:Nat)(st:SortSt):Prop :=
 ∃R V L g,st=St κ f (R.flatten++V) (Z9 L) g/\lo=R.flatten.length/\Okl T L R/\(R.flatten++V).Perm l0
theorem u3_ok{Q:ForInStep (Option Unit×Nat)->SortSt->Prop}(O:Okl T L R)(pm:(R.flatten++V).Perm l0)(h1:1<=n)(hn:n<=V.length)(pv:(V.take n).Pairwise T)(h:∀lo' st,R.flatten.length+n=lo'->Rs κ f T l0 lo' st->Q (.yield (none,lo')) st):wpS M A E s (u3 R.flatten.length n) Q (St κ f (R.flatten++V) (Z9 L) g):=by
 unfold u3;refine X4<|wpS_modify<|X7<|h _ _ rfl ?_;have ln:(V.take n).length=n:=by rw[S6,O8 hn]
 have fl:(R++[V.take n]).flatten=R.flatten++V.take n:=by rw[List.flatten_append,List.flatten_cons,List.flatten_nil,V8]
 refine⟨R++[V.take n],V.drop n,L++[(R.flatten.length,n,0)],g,?_,?_,⟨?_,λr hr=>?_⟩,?_⟩
 ·rw[fl,X3,W3];show D6 κ (ar f<|R.flatten++V) ((Z9 L).push (R.flatten.length,n,0)) g none=_;rw[List.push_toArray]
 ·rw[fl,Y9,ln]
 ·rw[T0,O.mp,rZ];show _++[_]=_++[(0+R.flatten.length,(V.take n).length)];rw[ln,Nat.zero_add]
 ·rcases W0.mp hr with q|q
  ·exact O.rn r q
  ·rw[Y3.mp q,ln];exact⟨h1,pv⟩
 ·rw[fl,X3,W3];exact pm
theorem br2{β:Type}{H:Nat->List Nat->Prop}{m1:Nat->List Nat->StateT SortSt Sem β}{tl:Nat->StateT SortSt Sem β}{Q:β->SortSt->Prop}{sx:List Nat->SortSt}(P:Nat->SortSt->Prop)(h:∀n' st',P n' st'->wpS M A E s (tl n') Q st')(hn:∀n V,H n V->P n (sx V))(h1:(∀n' st',P n' st'->wpS M A E s (tl n') Q st')->∀n V,H n V->n<mr->wpS M A E s (m1 n V) Q (sx V)):
  ∀n V,H n V->wpS M A E s (if n<mr then m1 n V else tl n) Q (sx V):=λn V k=>by
 by_cases q:n<mr
 ·rw[if_pos q];exact h1 h n V k q
 ·rw[if_neg q];exact h n _<|hn n V k
theorem ite_lt{p:Prop}[Decidable p](ha:a+1<c)(hb:b+1<c):(if p then a else b)+1<c:=by
 by_cases q:p
 ·rw[if_pos q];exact ha
 ·rw[if_neg q];exact hb
theorem bn:∀(R:Zi),(∀r∈R,1<=r.length)->R.length<=R.flatten.length:=by
 intro R;induction R with
 |nil=>exact λa=>bD _
 |cons r R ih =>intro h;rw[List.flatten_cons,Y9,V9,Nat.add_comm];exact Nat.add_le_add (h r<|.head _) (ih λx hx=>h x<|.tail _ hx)
theorem sort_ok(K:Cx M A s κ f T X)(nd:l0.Nodup)(hX:∀x∈l0,X x){Q:Unit->SortSt->Prop}(h:∀p st,arrOf st=ar f p->failedOf st=none->p.Perm l0->p.Pairwise T->Q () st):wpS M A E s sortRuns' Q (St κ f l0 #[] g0):=by
 rw[sortRuns'_eq];refine X4<|wpS_get ?_;have sz:(arrOf<|St κ f l0 #[] g0).size=l0.length:=cV l0;dsimp only;rw[sz];refine X4<|wpS_mono (O4 (I:=λi c st=>c.1=none/\Rs κ f T l0 c.2 st/\min i l0.length<=c.2) (Q:=λc st=>c.1=none/\Rs κ f T l0 c.2 st/\l0.length<=c.2) ?_ ?_ ⟨rfl,⟨[],l0,[],g0,rfl,rfl,⟨rfl,λa z=>nomatch z⟩,.refl _⟩,b8 (Nat.min_le_left _ _)<|bD _⟩) ?_
 ·intro i c st _ hi z;refine aV z λe W le=>?_;by_cases cc:c.2 ≥ l0.length
  ·exact kB cc<|X7 ⟨rfl,W,cc⟩
  ·refine kC cc ?_;refine m7 W λR V L g e1 e2 O pm=>?_;subst e1;rw[e2]at cc le ⊢;have lv:l0.length-R.flatten.length=V.length:=by rw[<- pm.length_eq,Y9,Q7]
   have nv:V.Nodup:=(pm.nodup_iff.mpr nd).sublist (List.sublist_append_right _ _);have xv:∀x∈V,X x:=λx hx=>hX x<|pm.mem_iff.mp<|Y8 _ hx;rw[lv];refine X4 (run_ok K nv xv (by lia) λn V' pv n1 n2 pw=>?_);have pm':(R.flatten++V').Perm l0:=(pv.append_left _).trans pm;rw[<- pv.length_eq]at n2 ⊢;dsimp only;have hh:V'.Perm V/\1<=n/\n<=V'.length/\(V'.take n).Pairwise T:=⟨pv,n1,n2,pw⟩;clear pw n2 n1 pm' pv
   revert n V'
   refine br2 (β:=ForInStep<|Option Unit×Nat) (λn' st'=>∃V2,st'=St κ f (R.flatten++V2) (Z9 L) g/\V2.Perm V/\1<=n'/\n'<=V.length/\(V2.take n').Pairwise T) ?_ (λn V' z=>⟨V',rfl,z.1,z.2.1,z.1.length_eq▸z.2.2.1,z.2.2.2⟩) λhh n V' z q=>jt z λpv n1 n2 pw=>?_
   ·intro n' st' z;refine ig z λV2 e3 p2 m1 m2 w2=>?_;subst e3;have Ce:(R.flatten++V2).Perm l0:=(p2.append_left _).trans pm;rw[<- p2.length_eq]at m2;have fin:∀(R':Zi) (L':YX) g',Okl T L' R'->R'.flatten.Perm R.flatten->wpS M A E s (u3 R.flatten.length n') (λr st'=>match r with|.done c'=>c'.1=none/\Rs κ f T l0 c'.2 st'/\l0.length<=c'.2|.yield c'=>c'.1=none/\Rs κ f T l0 c'.2 st'/\min (i+1) l0.length<=c'.2) (St κ f (R'.flatten++V2) (Z9 L') g'):=λR' L' g' O' pm'=>by rw[<- pm'.length_eq];exact u3_ok O' ((pm'.append_right V2).trans Ce) m1 m2 w2 λlo' st' e w=>⟨rfl,w,show min (i+1) l0.length<=lo' by rw[pm'.length_eq]at e;lia⟩
    refine X4<|wpS_get ?_;generalize eb:(pendingOf<|St κ f (R.flatten++V2) (Z9 L) g).back?=w;cases w with
    |none=>exact fin R L g O<|.refl _
    |some w =>
     have ne:L≠[]:=λz=>by rw[z]at eb;cases eb
     refine X4<|wpS_mono (O4 (I:=λa c st=>c=(none,())/\∃R' L' g',st=St κ f (R'.flatten++V2) (Z9 L') g'/\Okl T L' R'/\R'.flatten.Perm R.flatten/\L'≠[]) (Q:=λc st=>c=(none,())/\∃R' L' g',st=St κ f (R'.flatten++V2) (Z9 L') g'/\Okl T L' R'/\R'.flatten.Perm R.flatten/\L'≠[]) ?_ (λa a z=>z) ⟨rfl,R,L,g,rfl,O,.refl _,ne⟩) ?_
     ·intro i c st _ _ z;refine ax z λe1 z=>dh z λR' L' g' e2 O' pm' ne'=>?_;subst e1;subst e2;refine X4<|wpS_get ?_;have es:(pendingOf<|St κ f (R'.flatten++V2) (Z9 L') g').size=L'.length:=X1 ..;generalize e3:(if (pendingOf<|St κ f (R'.flatten++V2) (Z9 L') g').size > 1 then (pendingOf<|St κ f (R'.flatten++V2) (Z9 L') g')[(pendingOf<|St κ f (R'.flatten++V2) (Z9 L') g').size-2]? else none)=v;cases v with
      |none=>exact X7 ⟨rfl,R',L',g',rfl,O',pm',ne'⟩
      |some v =>
       have big:1<L'.length:=by
        by_cases q:(pendingOf<|St κ f (R'.flatten++V2) (Z9 L') g').size > 1
        ·exact es▸q
        ·rw[if_neg q]at e3;cases e3
       dsimp only;split
       ·exact X7 ⟨rfl,R',L',g',rfl,O',pm',ne'⟩
       ·have pq:=(pm'.append_right V2).trans Ce;refine X4 (Br K O' (i:=(pendingOf<|St κ f (R'.flatten++V2) (Z9 L') g').size-2) (by rw[es];lia) (pq.nodup_iff.mpr nd) (λx hx=>hX x<|pq.mem_iff.mp hx) λR2 L2 g2 O2 l2 p2=>?_);refine X7 ⟨rfl,R2,L2,g2,rfl,O2,p2.trans pm',λz=>?_⟩;rw[z]at l2;exact absurd big (by rw[<- l2];exact L6 _)
     ·intro c st z;refine ax z λe1 z=>dh z λR' L' g' e2 O' pm' ne'=>?_;subst e1;subst e2;refine X4<|wpS_modify ?_;have em:∀w,((Z9 L').modify ((Z9 L').size-1) w)=Z9 (L'.modify ((Z9 L').size-1) w):=λw=>by rw[List.modify_toArray]
      show wpS M A E s (u3 R.flatten.length n') _ (St κ f (R'.flatten++V2) ((Z9 L').modify ((Z9 L').size-1) _) g');rw[em];refine fin R' _ g' ⟨Eq.trans (map_mod ?_) O'.mp,O'.rn⟩ pm';exact λa=>rfl
   ·refine X4<|wpS_lift<|D4 ⟨rfl,?_⟩;exact X4 (bin_ok K (pv.nodup_iff.mpr nv) (λx hx=>xv x<|pv.mem_iff.mp hx) n1 (by lia) (by lia) pw λV2 p2 w2=>hh _ _ ⟨V2,rfl,p2.trans pv,by lia,by have:=pv.length_eq;lia,w2⟩)
 ·intro c st z;refine aV z λe W le=>⟨e,W,?_⟩;rw[show min (max 0 l0.length) l0.length=l0.length by lia]at le;exact le
 ·intro c st z;refine aV z λe W le=>m7 W λR V L g e1 e2 O pm=>?_;have lv:=pm.length_eq;rw[Y9]at lv;have vn:V=[]:=List.length_eq_zero_iff.mp (by lia);subst vn;subst e1;rw[e];rw[V8]at pm;have lr:=bn R λr hr=>(O.rn r hr).1;refine X4<|wpS_mono (O4 (I:=λi c st=>c=(none,())/\∃R L g,st=St κ f (R.flatten++[]) (Z9 L) g/\Okl T L R/\R.flatten.Perm l0/\L.length<=l0.length-i) (Q:=λc st=>c=(none,())/\∃R L g,st=St κ f (R.flatten++[]) (Z9 L) g/\Okl T L R/\R.flatten.Perm l0/\L.length<=1) ?_ ?_ ⟨rfl,R,L,g,rfl,O,pm,by rw[O.len,<- pm.length_eq];exact lr⟩) ?_
  ·intro i c st _ hi z;refine ax z λe1 z=>dh z λR L g e2 O pm le=>?_;subst e1;subst e2;refine X4<|wpS_get ?_;show wpS M A E s (if (Z9 L).size<=1 then _ else _) _ _;have es:(Z9 L).size=L.length:=X1 ..;by_cases q:(Z9 L).size<=1
   ·rw[if_pos q];exact X7 ⟨rfl,R,L,g,rfl,O,pm,es▸q⟩
   ·rw[if_neg q];have pq:(R.flatten++[]).Perm l0:=by rw[V8];exact pm
    refine X4 (Br K O ?_ (pq.nodup_iff.mpr nd) (λx hx=>hX x<|pq.mem_iff.mp hx) λR2 L2 g2 O2 l2 p2=>?_)
    ·exact ite_lt (show (Z9 L).size-2-1+1<L.length by lia) (show (Z9 L).size-2+1<L.length by lia)
    ·exact X7 ⟨rfl,R2,L2,g2,rfl,O2,p2.trans pm,by lia⟩
  ·intro c st z;refine ax z λe1 z=>dh z λR L g e2 O pm le=>⟨e1,R,L,g,e2,O,pm,by lia⟩
  ·intro c st z;refine ax z λe1 z=>dh z λR L g e2 O pm le=>?_;subst e1;subst e2;refine X7<|h R.flatten _ (by rw[V8]) rfl pm ?_;rw[O.len]at le
   match R,le,O with
   |[],_,_=>exact .nil
   |[r],_,O=>rw[List.flatten_cons,List.flatten_nil,V8];exact(O.rn r<|.head _).2
   |_ ::_ ::_,le,_=>exact absurd le (by simp)
end
end Tim
namespace Pu
noncomputable def se(g:Zv)(ns:ZL):Option (List Int):=(keysOf g ns).bind λps=>if ns.length<1000000/\ps.Nodup then some (yV ns ps) else none
end Pu
namespace L2
section
open PySem PySem.Spec PyProof.Rows
variable [Kn:Kon]
section
variable {prog:U4}{w:World}{A:Around}{E:ZN}{s:Shared}{vs ks:ZK}{a kS:Addr}
open PySem.W
theorem xO{c:Zn}(hl:ks.length=vs.length)(L:Srt.Lin c vs.length)(hc:∀i j C,i<vs.length->j<vs.length->C (c i j) s->kas_ask prog w A κ ks i j C s):
  wpAny (model prog w) A ((sortRuns').run (D6 κ (ks.toArray.zip vs.toArray) #[] 7 none)) (λr s2=>s2=s/\∃p:Array Nat,Srt.Arr vs.length p/\Srt.Up c p vs.length/\arrOf r.2=p.map (kas_item<|ks.toArray.zip vs.toArray)/\failedOf r.2=none) E s:=by
 have K:Tim.Cx (model prog w) A s κ (kas_item<|ks.toArray.zip vs.toArray) (λi j=>i<vs.length/\j<vs.length/\c i j=true) (λi=>i<vs.length):=by
  refine⟨λi j hi hj C h1 h0=>?_,λ{i j k} x y=>⟨x.1,y.2.1,L.tr i j k x.1 x.2.1 y.2.1 x.2.2 y.2.2⟩,λ{i} x=>by rw[L.irr i x.1]at x;exact nomatch x.2.2⟩;have q:=hc i j (λb s'=>s'=s/\C b) hi hj ⟨rfl,by
   cases e:c i j with
   |true=>exact h1 ⟨hi,hj,e⟩
   |false =>
    by_cases z:i=j
    ·exact h0 (.inl z)
    ·exact h0<|.inr ⟨hj,hi,L.tot i j hi hj z e⟩⟩
  rw[kat_ask_eq hl]at q;exact q
 have e:=kas_range<|ks.toArray.zip vs.toArray;rw[show (ks.toArray.zip vs.toArray).size=vs.length by simp[hl]]at e;have est:D6 κ (ks.toArray.zip vs.toArray) #[] 7 none=Tim.St κ (kas_item<|ks.toArray.zip vs.toArray) (X9 vs.length) #[] 7:=by show _=D6 κ (Z9<|(X9 vs.length).map (kas_item<|ks.toArray.zip vs.toArray)) #[] 7 none;rw[<- List.map_toArray,e]
 rw[est];refine Tim.sort_ok (E:=E) K (l0:=X9 vs.length) List.nodup_range (λx hx=>P7.mp hx) (Q:=λa st=>∃p:Array Nat,Srt.Arr vs.length p/\Srt.Up c p vs.length/\arrOf st=p.map (kas_item<|ks.toArray.zip vs.toArray)/\failedOf st=none) λp st ha hf pm pw=>?_;have lp:p.length=vs.length:=by rw[pm.length_eq,U1]
 refine⟨Z9 p,⟨by rw[X1,lp],pm⟩,λi j hij hj=>?_,by rw[ha,List.map_toArray],hf⟩;have hj':j<p.length:=lp▸hj;have hi':i<p.length:=eJ hij hj';have z:=(N9.mp pw) i j hi' hj' hij;have gt:∀k (h:k<p.length),Srt.at' (Z9 p) k=p[k]:=λk h=>by simp[Srt.at',Array.getD,h]
 rw[gt i hi',gt j hj'];exact z.2.2
theorem o6{st:SortSt}{P:PySem.Fin->Shared->Prop}(hka:kS≠a)(hk:s.heap.get? kS=some (seqObj "list" (Z9 ks) e))(ha:s.heap.get? a=some (seqObj "list" #[] e1))(hz:ks.length<1000000)(ho:(arrOf st).map (·.2)=dM vs p)(hf:failedOf st=none)(hp:p.size<1000000)(h:P (.done<|.ret .none) {s with heap:=(s.heap.update kS (X6 λx=>#[])).update a (X6 λx=>dM vs p)}):
  wpAny (model prog w) A (ksk_tail a false e1 (.ref kS) st) P E s:=by
 have ha':(s.heap.update kS (X6 λx=>(#[]:Array Value))).get? a=some (seqObj "list" #[] e1):=by rw[V5 _ _ _ _ (R4 hka)];exact ha
 unfold ksk_tail;rw[ho];simp only[Q4,if_false];refine Z0<|listUpdate_at hk rfl ?_ (by rw[X1,V4];exact cT<|eJ hz (by decide))<|T3 _;refine Z0<|wpAny_letGo ?_;refine Z0<|seqEpoch_at ha' rfl ?_;refine Z0<|listUpdate_at ha' rfl ?_ (T3 _) (by rw[nM,V4];exact G4<|cT<|eJ hp (by decide));rw[hf];simp only[bne_self_eq_false,Q4,if_false];exact Z5 h
theorem zh{P:PySem.Fin->Shared->Prop}(hka:kS≠a)(hk:s.heap.get? kS=some (seqObj "list" (Z9 ks) e))(hl:ks.length=vs.length)(ZQ:vs.length<1000000)(h:h9 prog w A a e1 kS vs P ks s):
  wpAny (model prog w) A (ksk_end a false vs.toArray e1 (.ref kS)<|Z9 ks) P E s:=by
 refine ax h λha zz=>fL zz λκ c L hkd hc fin=>?_;unfold ksk_end;simp only[Q4,if_false];by_cases h2:vs.toArray.size<2
 ·rw[if_pos h2,if_pos h2];refine Z0<|Z5 ?_;rw[StateT.run_pure];refine Z0<|Z5 ?_;have sz:vs.length<2:=by simpa using h2
  refine o6 (p:=Z9<|X9 vs.length) hka hk ha (by exact dI (bG hl) ZQ) ?_ rfl (by simp;exact ZQ) (fin _ ⟨by simp,by simp⟩ λi j hij hj=>by lia);have e2:=kas_range<|ks.toArray.zip vs.toArray;rw[show (ks.toArray.zip vs.toArray).size=vs.length by simp[hl]]at e2;exact kat_snds (st:=D6 general' (ks.toArray.zip vs.toArray) #[] 7 none) hl e2.symm
 ·rw[if_neg h2,if_neg h2];have h2':2<=vs.length:=by simpa using U6.mp h2
  refine Z0 (R0 (hkd h2' (λκ' s'=>κ'=κ/\s'=s) ⟨rfl,rfl⟩) ?_ λx x z=>z.elim);intro κ' s' zq;refine ax zq λZX ZW=>?_;subst ZX;subst ZW;refine Z0 (R0 (xO (κ:=κ') hl L hc) ?_ λx x z=>z);rintro⟨⟨⟩,st'⟩ s2 ⟨rfl,p,b1,b2,b3,b4⟩;exact o6 hka hk ha (by exact dI (bG hl) ZQ) (kat_snds hl b3) b4 (by rw[b1.sz];exact ZQ)<|fin p b1 b2
theorem vZ{Fi:YZ}{body:Value->PUnit->Sem (ForInStep PUnit)}(hn:n<1000000)(hb:∀x l (s1:Shared) (C:ZN),List.length l<1000000->wpAny (model prog w) A (call f [x]) (λk s2=>(∃e,s2.heap.get? kS=some (seqObj "list" (Z9 l) e))/\C k {s2 with heap:=s2.heap.update kS (X6 (·.push k))}) (λa a=>False) s1 ->
   wpAny (model prog w) A (body x ⟨⟩) (λr s2=>r=.yield ⟨⟩/\∃k,(∃e,s2.heap.get? kS=some (seqObj "list" (Z9<|l++[k]) e))/\C k s2) E s1):∀(r l:ZK) (s1:Shared),l.length+r.length=n ->
   (∃e,s1.heap.get? kS=some (seqObj "list" (Z9 l) e))->iL prog w A f kS Fi r l s1 ->
   wpAny (model prog w) A (forIn r PUnit.unit body) (λa s2=>∃l,(∃e,s2.heap.get? kS=some (seqObj "list" (Z9 l) e))/\l.length=n/\Fi l s2) E s1:=by
 intro r;induction r with
 |nil =>intro l s1 hl hk h;rw[List.forIn_nil];exact Z5<|cD l hk hl h
 |cons x r ih =>intro l s1 hl hk h;rw[V9]at hl;rw[List.forIn_cons];refine Z0 (R0 (hb x l s1 _ (by lia) h) ?_ λa a z=>z);intro q s2 zq;refine ax zq λZX zz=>aa zz λk hk' h2=>?_;subst ZX;exact ih (l++[k]) s2 (by rw[Y9,List.length_singleton];lia) hk' h2
theorem w4{P:PySem.Fin->Shared->Prop}(hka:kS≠a)(hk:s.heap.get? kS=some (seqObj "list" #[] 0))(ZQ:vs.length<1000000)(h:iL prog w A f kS (h9 prog w A a e1 kS vs P) vs [] s):
  wpAny (model prog w) A (ksk_rest a f false vs.toArray e1<|.ref kS) P E s:=by
 unfold ksk_rest;refine Z0 (D4 ?_)
 first
  |rw[List.forIn_toArray]
  |rw[<- Array.forIn_toList]
 refine Z0 (R0 (vZ (kS:=kS) ZQ (λx l s1 C hz hx=>?_) vs [] s (by simp) ⟨0,hk⟩ h) ?_ λx x z=>z)
 ·refine Z0<|wpAny_attempt (R0 hx ?_ λx x z=>z.elim);rintro k s2 ⟨⟨e,he⟩,hC⟩;have ea:(Z9 l).push k=Z9 (l++[k]):=by simp
  have hn:∃e2,(s2.heap.update kS<|X6 (·.push k)).get? kS=some (seqObj "list" (Z9<|l++[k]) e2):=⟨_,by rw[<- ea];exact K5 he (·.push k)⟩;refine Z0<|listUpdate_at he rfl ?_ (by rw[X1,V4];exact cT<|eJ hz (by decide)) (by rw[Array.size_push,X1,V4];lia);exact Z5 ⟨rfl,k,hn,hC⟩
 ·rintro _ s2 ⟨l,⟨e,he⟩,hl,fin⟩;refine Z0<|listItems_at he rfl ?_;exact zh hka he hl ZQ fin
theorem o7{P:PySem.Fin->Shared->Prop}(ho:s.heap.get? a=some (seqObj "list" vs.toArray n))(ZQ:vs.length<1000000)(h:∀(e1:Nat) (kS:Addr) (h':Heap),(∀b o,b≠a->s.heap.get? b=some o->h'.get? b=some o)->h'.get? a=some (seqObj "list" #[] e1)->h'.get? kS=some (seqObj "list" #[] 0)->s.heap.objs.size<=kS->kS<h'.objs.size ->
   iL prog w A f kS (h9 prog w A a e1 kS vs P) vs [] {s with heap:=h'}):wpAny (model prog w) A (ksk_tree a f false) P E s:=by
 have ha:a<s.heap.objs.size:=X0 ho;obtain⟨e1,ho1⟩:∃e1,(s.heap.update a (X6 λx=>(#[]:Array Value))).get? a=some (seqObj "list" #[] e1):=⟨_,K5 ho λx=>#[]⟩;have hz:((s.heap.update a (X6 λx=>(#[]:Array Value))).push (seqObj "tuple" vs.toArray 0)).objs.size=s.heap.objs.size+1:=by rw[size_push',Heap.size_update]
 unfold ksk_tree;refine Z0<|listItems_at ho rfl ?_;refine Z0<|listUpdate_at ho rfl ?_ (by rw[X1,V4];exact cT<|eJ ZQ (by decide))<|T3 _;refine Z0<|seqEpoch_at ho1 rfl ?_;refine Z0<|wpAny_newTuple ?_ (by show vs.length<=_;rw[V4];exact cT<|eJ ZQ (by decide));refine Z0<|E5 ?_<|T3 _;refine T6 ?_;have hkS:(((s.heap.update a (X6 λx=>(#[]:Array Value))).push (seqObj "tuple" vs.toArray 0)).push (seqObj "list" #[] 0)).get? ((s.heap.update a (X6 λx=>(#[]:Array Value))).push (seqObj "tuple" vs.toArray 0)).objs.size=some (seqObj "list" #[] 0):=Y7 _ rfl;refine w4 (s:={s with heap:=((s.heap.update a (X6 λx=>(#[]:Array Value))).push (seqObj "tuple" vs.toArray 0)).push (seqObj "list" #[] 0)}) (by rw[hz];exact M6<|T7 ha) hkS ZQ<|h e1 _ _ (λb o nb q=>?_) ?_ hkS (by rw[hz];exact P3 _)<|X0 hkS
 ·refine Z3 _<|Z3 _ ?_;rw[V5 _ _ _ _ nb];exact q
 ·exact Z3 _<|Z3 _ ho1
theorem u5{Q:ZN}(hl:s.heap.IsList l vs.toArray)(ZQ:vs.length<1000000)(h:∀(D:Addr) (e1:Nat) (kS:Addr) (h':Heap),(∀b o,s.heap.get? b=some o->h'.get? b=some o)->h'.get? D=some (seqObj "list" #[] e1)->h'.get? kS=some (seqObj "list" #[] 0)->s.heap.objs.size<=D->D<kS->kS<h'.objs.size ->
   iL prog w A.in1.in1 (.ref q) kS (h9 prog w A.in1.in1 D e1 kS vs λf s'=>Q (.ref D) s') vs [] {s with heap:=h'}):
  wpAny (model prog w) A (call (.builtin "sorted") [.ref l] [(J5 "key",.ref q)]) Q E s:=by
 refine call_function_entry_kw kind_sorted plain_sorted entry_sorted (ksk_s1 _ _) ?_;unfold R5.«sorted»;refine Z0 (m:=checkCount "sorted" 1 1 _)<|Z5 ?_;refine Z0<|collect_list hl ?_ (by rw[V4];exact cT<|eJ ZQ (by decide));refine Z0<|E5 ?_ (by rw[V4];exact cT<|eJ ZQ (by decide));have hsz:((s.heap.push<|seqObj "list" #[] 0).update s.heap.objs.size (X6 (·++vs.toArray))).objs.size=s.heap.objs.size+1:=by rw[Heap.size_update,size_push']
 have hoL:(((s.heap.push<|seqObj "list" #[] 0).update s.heap.objs.size (X6 (·++vs.toArray))).push (seqObj "list" vs.toArray 0)).get? (s.heap.objs.size+1)=some (seqObj "list" vs.toArray 0):=by rw[<- hsz];exact Y7 _ rfl
 have keep:∀b o,s.heap.get? b=some o->b≠s.heap.objs.size+1/\(((s.heap.push<|seqObj "list" #[] 0).update s.heap.objs.size (X6 (·++vs.toArray))).push (seqObj "list" vs.toArray 0)).get? b=some o:=λb o q=>by have hlt:b<s.heap.objs.size:=X0 q;refine⟨dH<|T7 hlt,Z3 _ ?_⟩;rw[V5 _ _ _ _ (dH hlt)];exact Z3 _ q
 show wpAny _ _ _ _ _ {s with heap:=((s.heap.push<|seqObj "list" #[] 0).update s.heap.objs.size (X6 (·++vs.toArray))).push (seqObj "list" vs.toArray 0)};rw[hsz];refine Z0<|T6<|wpAny_call_entry_kw slot_list_sort ⟨_,hoL,rfl⟩ entry_list_sort ?_<|ksk_l1 _ _;rw[ksk_t1];refine o7 (s:={s with heap:=((s.heap.push<|seqObj "list" #[] 0).update s.heap.objs.size (X6 (·++vs.toArray))).push (seqObj "list" vs.toArray 0)}) hoL ZQ λe1 kS h' k1 k2 k3 k4 k5=>?_;have hDk:s.heap.objs.size+1<kS:=by
  have:(((s.heap.push<|seqObj "list" #[] 0).update s.heap.objs.size (X6 (·++vs.toArray))).push (seqObj "list" vs.toArray 0)).objs.size=s.heap.objs.size+2:=by rw[size_push',hsz]
  have k4':s.heap.objs.size+2<=kS:=by rw[<- this];exact k4
  (clear k5 k4 k3 k2 k1 keep hoL hsz h ZQ hl;lia)
 have hh:=h (s.heap.objs.size+1) e1 kS h' (λb o q=>k1 b o (keep b o q).1 (keep b o q).2) k2 k3 (P3 _) hDk k5;have mono:∀(r l:ZK) (s1:Shared),iL prog w A.in1.in1 (.ref q) kS (h9 prog w A.in1.in1 (s.heap.objs.size+1) e1 kS vs λf s'=>Q (.ref<|s.heap.objs.size+1) s') r l s1 ->
   iL prog w A.in1.in1 (.ref q) kS (h9 prog w A.in1.in1 (s.heap.objs.size+1) e1 kS vs λfin s'=>∃v,fin=.done (.ret v)/\wpAny (model prog w) A.in1 (ret<|.ref<|s.heap.objs.size+1) (λfin s'=>∃v,fin=.done (.ret v)/\Q v s') E s') r l s1:=by
  intro r;induction r with
  |nil=>exact λl s1 zq=>ax zq λz0 zz=>fL zz λκ c z1 z2 z3 z4=>⟨z0,κ,c,z1,z2,z3,λp a1 a2=>(aF _ rfl<|Z5<|aF _ rfl<|z4 p a1 a2)⟩
  |cons x r ih=>exact λl s1 z=>R0 z (λk s2 z2=>⟨z2.1,ih _ _ z2.2⟩) λa a z=>z
 exact mono _ _ _ hh
end
def xP(K:Z4)(P:Addr)(cap:ZD)(te tb:TE):TE:=λσ H Q=>te σ H λv H1=>∃p vs,v=.ref p/\fm K H1 p vs/\vs.length<1000000/\TbG H1 /\
 ∀H2 c,rG P H1 H2->H2 c=some (.ext<|aW c<|Kon.Q P)->nO (λσ H Q=>H c=some (.ext<|aW c<|Kon.Q P)/\tb σ H Q) (λx=>fN x cap σ) (vG vs Q) vs [] H2
section
variable {X:Cx}{A:Around}{ZY:ZJ}{σ:St}{H:Hp}{s:Shared}{x:Str}{cap:ZD}{scope:Scope}{cl:Zq}{f:Addr}{cd:Value}
theorem w6{P':ZJ}(I:Inv X ((kS,seqObj "list" (Z9 kvs) e) ::(D,seqObj "list" #[] e1) ::ZY) σ H s)(hDk:D<kS)(hz:X.s₀.heap.objs.size<=D)(hpn:∀p∈X.pn++ZY,p.1≠kS/\p.1≠D)(ZQ:vs.length<1000000)(rk:aP ks kvs)(rv:aP vs its)(h:vG vs Q ks H):h9 X.prog X.w A D e1 kS its (λx s'=>EP X ZY σ Q (.ref D) s') kvs s:=by
 refine ju h λps hP hl hnd q=>?_;have pk:=I.pin (kS,seqObj "list" (Z9 kvs) e) (by simp);have pd:=I.pin (D,seqObj "list" #[] e1) (by simp);have l1:=rk.length;have l2:=rv.length;have l3:=hP.length;have pa:=aP.pairs I rk hP;have el:its.length=ps.length:=by exact T5 (b8 (bG l2.symm)<|b8 (bG hl.symm)<|bG l3)<|b8 (bG l3.symm)<|b8 (bG hl)<|bG l2
 refine⟨pd.1,tuples' true,λi j=>Pu.cx (ps.getD i (0,0))<|ps.getD j (0,0),by rw[el];exact qr hnd,λh2 Q' hq=>?_,λi j C hi hj hC=>qp pa (by exact bZ hi<|b8 (bG l2.symm)<|b8 (bG hl.symm)<|bG l1) (by exact bZ hj<|b8 (bG l2.symm)<|b8 (bG hl.symm)<|bG l1) hC,λp1 a1 u1=>?_⟩
 ·refine aE pa.tups λfs g1 g2 g3=>?_;refine PySem.W.kat_kind (T:=.type "int") g1 (by lia) (λv hv=>?_) rfl hq;refine ii (g3 v hv) λi t ZV=>?_;subst ZV;exact .now
 ·rw[el]at a1 u1;have eu:=AQ hnd a1 u1;have hlt:∀i∈p1.toList,i<ps.length:=λi hi=>by have:=a1.pm.subset hi;simpa using this
  have neD:∀b o,b≠kS->b≠D->s.heap.get? b=some o->((s.heap.update kS (X6 λx=>#[])).update D (X6 λx=>dM its p1)).get? b=some o:=λb o n1 n2 e=>by rw[V5 _ _ _ _ n2,V5 _ _ _ _ n1];exact e
  have hD1:(s.heap.update kS (X6 λx=>(#[]:Array Value))).get? D=some (seqObj "list" #[] e1):=by rw[V5 _ _ _ _ (dH hDk)];exact pd.1
  obtain⟨e2,hD2⟩:∃e2,((s.heap.update kS (X6 λx=>#[])).update D (X6 λx=>dM its p1)).get? D=some (seqObj "list" (dM its p1) e2):=⟨_,K5 hD1 λx=>dM its p1⟩;have unt:∀b o,H b=some o->b≠kS/\b≠D:=λb o z=>⟨ai z pk.2.1,ai z pd.2.1⟩;have noc:∀y c,X.env.cells.lookup y=some c->c≠kS/\c≠D:=λy c z=>by
   refine bv (I.cell y c z) λv ob ho hd=>?_;refine⟨λw=>?_,λw=>?_⟩
   ·rw[w]at ho;exact pk.2.2.2.2 v (by rw[<- Z8 (ho.symm.trans pk.1)];exact hd)
   ·rw[w]at ho;exact pd.2.2.2.2 v (by rw[<- Z8 (ho.symm.trans pd.1)];exact hd)
  have I0:Inv X ZY σ H s:=I.pins_of λp hp=>I.pin p<|Y8 _<|Y4.mpr<|.inr<|Y4.mpr<|.inr hp;have I1:Inv X ZY σ (aH H D<|.lst (p1.toList.map λi=>vs.getD i .non)) {s with heap:=(s.heap.update kS (X6 λx=>#[])).update D (X6 λx=>dM its p1)}:=by
   refine I0.step (g':=s.gens) (d':=s.drawn) (t':=s.toks) (ch:=[kS,D]) (λb hb=>?_) (λb o x x hc e x=>neD b o (λz=>hc (by simp[z])) (λz=>hc (by simp[z])) e) (λb o x x hc e x=>⟨o.slots,neD b o (λz=>hc (by simp[z])) (λz=>hc (by simp[z])) e⟩)
    (λb o hc x n=>by rw[aq λz=>hc (by simp[z])];exact n) (λb o hc e=>⟨o,neD b o (λz=>hc (by simp[z])) (λz=>hc (by simp[z])) e⟩) (λb xs z=>by rw[aq (unt b _ z).2];exact z) (λb o u z=>by rw[aq (unt b _ z).2];exact z) (λb ps z=>⟨#[],by rw[aq (unt b _ z).2,z];simp⟩) (λm hm=>?_) (λa o z=>?_) I.bare
   ·have hb:b=kS\/b=D:=by simpa using hb
    rcases hb with rfl|rfl
    ·exact(qF (.inr<|b8 hz<|cT hDk) pk.2.2.1 (λy c z=>(noc y c z).1) λp hp=>(hpn p hp).1)
    ·exact(qF (.inr hz) pd.2.2.1 (λy c z=>(noc y c z).2) λp hp=>(hpn p hp).2)
   ·refine fM hm λo es ep ho r=>?_;exact⟨o,es,ep,neD _ o (R4 pk.2.2.1) (R4 pd.2.2.1) ho,r⟩
   ·by_cases w:a=D
    ·subst w;rw[am]at z;cases z;refine⟨by rw[Y0,W8,a1.sz,V4];exact cT<|dI (bG l3.symm)<|dI (bG hl)<|eJ ZQ (by decide),p1.toList.map λi=>its.getD i O1,e2,cu λi hi=>km rv (by have:=hlt i hi;exact bZ this<|b8 (bG l3.symm)<|bG hl),hD2⟩
    ·rw[aq w]at z;refine(I.hok a o z).stay (λb u hb e=>?_) (λb z=>by rw[aq (unt b _ z).2];exact z) λb xs z=>by rw[aq (unt b _ z).2];exact z
     rcases hb with rfl|hb
     ·exact neD _ _ (unt _ _ z).1 (unt _ _ z).2 e
     ·exact neD _ _ (unt _ _ hb).1 (unt _ _ hb).2 e
  exact⟨.ref D,_,I1,rfl,q D _ pd.2.1 (λi hi=>by have:=hlt i hi;exact bZ this<|b8 (bG l3.symm)<|bG hl) eu⟩
open PySem.W in
theorem zi{P c:Addr}{params:Arguments}{body e:Expr}{p pos kpos lpos:Pos}{te tb:TE}(he:PE X e te)(hr:Room 3 X.A)(hm:X.mg "sorted"=none)(bm:BM X.mg X.base)(hC:codeHdIn X.K c P=true)(hT:P∈Kon.T)(hq:Kon.Q P=X.env.qual++"<lambda>")(hcode:X.env.code=.ref c)(S:LamScope X x cap scope)(hb:∀cl pm cd ct u,bindArgs (kla_fn "<lambda>" (Kon.Q P) params body scope cl pm cd ct) ⟨[u],[]⟩=pure [(x,u)])(hp:∀f cd cl s H,PE (kn X X.A.in1.in1 (x ::cap.map (·.1)) (Kon.Q P) scope f cd cl s H) body tb)(hg:autoParam (Gl X "sorted") L2.eX._auto_1)(hdef:autoParam (defaultsOf params X.env=([],[])) L2.eX._auto_1)(hst:autoParam (V6 [e] X.env=(false,eval e X.env) ::V6 [] X.env) L2.eX._auto_1)(hpl:autoParam ((backTo pos<|V6 [e] X.env).any (·.1)=false) L2.eX._auto_1):
  PE X (.Call (.Name "sorted" p) [e] [⟨some "key",.Lambda params body scope lpos,kpos⟩] pos) (xP X.K P cap te tb):=by
 intro ZY s σ H Q I h;refine J2<|gP I hg hm gB ?_;refine PyProof.Rows.callWith_kw ?_ (by rw[hst];rfl) hpl;have h1:(be te d9) σ H λxs H1=>match xs with
  |[v]=>∃p vs,v=.ref p/\fm X.K H1 p vs/\vs.length<1000000/\TbG H1/\∀H2 c,rG P H1 H2->H2 c=some (.ext<|aW c<|Kon.Q P)->nO (λσ H Q=>H c=some (.ext<|aW c<|Kon.Q P)/\tb σ H Q) (λx=>fN x cap σ) (vG vs Q) vs [] H2
  |_=>False:=h
 refine bM (a8 he ag hst pos ZY s σ H _ I h1) ?_;intro us s1 zq;refine ay zq λvv H1 I1 r q=>?_;show wpAny _ _ (evalAll ((do let v <- eval (.Lambda params body scope lpos) X.env;standAt pos;pure v) :: [])) _ _ s1
 match vv,q with
 |[v],q =>
  obtain⟨l,vs,rfl,hS,ZQ,tg,q⟩:=q;obtain⟨u,rfl,ru⟩:=vals1 r;cases ru;refine wpAny_evalAll_cons<|Z0 (AV (P:=P) I1 S tg hT hq hcode hC bm hdef λf cl pm c' ctv H2 s2 I2 ts hc' CL=>Z0<|wpAny_standAt<|Z5<|wpAny_evalAll_nil ?_);show wpAny _ _ (call (.builtin "sorted") [.ref l] [(J5 "key",.ref f)]) _ _ s2;obtain⟨its,rv,ht,hz⟩:=I2.list<|ts.sm.seq hS;have lv:=rv.length;refine u5 ht.isList (by exact dI (bG lv.symm) ZQ) λD e1 kS h' k1 k2 k3 k4 k5 k6=>?_;have I3:Inv X ((f,kla_obj "<lambda>" (Kon.Q P) params body scope cl pm c' ctv) ::ZY) σ H2 {s2 with heap:=h'}:=I2.kept (t':=s2.toks) k1;have big:∀b,s2.heap.objs.size<=b->H2 b=none/\b≠X.env.locals/\b∉X.fs:=λb hb=>(pc (I2.hok.fresh hb) (M6<|bZ I2.lt hb)<|I2.nofs hb);have I4:=I3.addPin (f:=D) (o:=seqObj "list" #[] e1) k2 (big D k4).1 (big D k4).2.1 (big D k4).2.2 λv z=>nomatch z;have k4':s2.heap.objs.size<=kS:=b8 k4<|cT k5;have I5:=I4.addPin (f:=kS) (o:=seqObj "list" #[] 0) k3 (big kS k4').1 (big kS k4').2.1 (big kS k4').2.2 λv z=>nomatch z;have old:∀p∈X.pn++((f,kla_obj "<lambda>" (Kon.Q P) params body scope cl pm c' ctv) ::ZY),p.1<s2.heap.objs.size:=λp hp=>X0 (I2.pin p hp).1;have hpn:∀p∈X.pn++((D,seqObj "list" #[] e1) ::(f,kla_obj "<lambda>" (Kon.Q P) params body scope cl pm c' ctv) ::ZY),p.1≠kS:=λp hp=>by
   rcases W0.mp hp with hp|hp
   ·exact dH<|bZ (old p<|U7 _ hp) k4'
   ·rcases Y4.mp hp with rfl|hp
    ·exact dH k5
    ·exact dH<|bZ (old p<|Y8 _ hp) k4'
  refine AW (A:=X.A.in1.in1) (oD:=seqObj "list" #[] e1) S CL I.ok.frames hr.hd (by have:=hr.dp;show X.A.depth<_;omega) hb hp (b8 I2.sz k4') hpn (λe2 ks kvs H3 s3 J rk hk=>?_) vs its [] [] 0 H2 _ I5 rv .nil<|q H2 c' ts hc';have K:=w6 (A:=X.A.in1.in1) (ZY:=(f,kla_obj "<lambda>" (Kon.Q P) params body scope cl pm c' ctv) ::ZY) (P':=ZY) J k5 (b8 I2.sz k4) (λp hp=>⟨dH<|bZ (old p hp) k4',dH<|bZ (old p hp) k4⟩) ZQ rk rv hk;refine ax K λz0 zz=>fL zz λκ cc z1 z2 z3 z4=>?_;refine⟨z0,κ,cc,z1,z2,z3,λp a1 a2=>?_⟩;refine ay (z4 p a1 a2) λv9 H9 I9 r9 q9=>?_;exact⟨v9,H9,I9.pins_of λp hp=>I9.pin p<|Y8 _<|Y4.mpr<|.inr hp,r9,q9⟩
end
section
variable {Γ:List Slot}{te tb:TE}{K:Z4}{P:Addr}{cap:ZD}
set_option tactic.hygienic true in
theorem w8{g:Zv}(hc:(cap.map (·.2)).Nodup)(h:EV Γ te o (rL a9))(hb:∀a,EV ((yO [x] cap Γ).set 0 (.fr a9 a)) tb (g a) (cF a9 a9)):ia Γ (xP K P cap te tb) (o.bind λxs=>Pu.se g xs) a9:=by
 intro C F σ H Q xs S e k;refine aa (ae e) λns e1 e=>?_;unfold Pu.se at e;refine aa (ae e) λps e2 e=>?_;split at e
 ·rename_i hh;refine ax hh λZQ hnd=>?_;cases e;have hl:=Pu.vF e2;refine h C F σ H _ ns S e1 λv F1 H1 x1 zq=>ay zq λp vs e3 h1 h2=>?_;have ev:=dz h2;subst ev;refine(yi p _ e3 (.inl<|x1.sub.rd h1) (by rw[Y0];exact ZQ) ((S.grow x1).tg) λH2 c ts h0=>?_);have x2:=ts.ext (S.grow x1).sub (S.grow x1).nt;refine key_ev (ps:=ps) hc hb (λF' H' ks x3 hk=>?_) ns [] [] ps F1 H2 ((S.grow x1).grow x2) (x1.trans x2) h0 .nil e2 rfl;refine⟨ps,Paired.imp2 (λb b z=>Rp.mono _ x3.sub z) hk,by rw[hk.length,Y0,hl],hnd,λq ix hq hi hx=>?_⟩;rw[Y0]at hi;refine k q _ F' H' x3 hq ?_;rw[<- Pu.srtK_of hl hnd hi hx];refine cu λi hi'=>?_;have:=hi i hi';show (ns.map V.int).getD i .non=.int (ns.getD i 0);simp[this]
 ·cases e
end
end
open PySem PySem.Spec PyProof.Rows
section
variable {S:Addr}{wr:Zx}{g:Heap}
abbrev mt(g h:Heap):Prop:=∀b o,g.get? b=some o->h.get? b=some o
theorem mt.on(k:mt g h)(fw:∀b∈wr,g.get? b=none)(fs:g.get? S=none)(q:∀b o,b∉wr->b≠S->h.get? b=some o->h'.get? b=some o):mt g h':=λb o e =>
 q b o (λz=>nomatch (fw b z).symm.trans e) (λz=>nomatch (z▸fs).symm.trans e) (k b o e)
end
noncomputable def isInt(e:Expr)(n:Int):Bool:=match e with
 |.Constant (.int i) _ _=>decide<|i=n
 |_=>false
noncomputable def Bs:List Expr->List Int->Bool
 |[],[]=>true
 |e ::es,n ::ns=>isInt e n&&Bs es ns
 |_,_=>false
theorem zj{e:Expr}{n:Int}(h:isInt e n=true):∃j p,e=.Constant (.int n) j p:=by
 unfold isInt at h;split at h
 ·exact⟨_,_,by rw[of_decide_eq_true h]⟩
 ·cases h
def tInts(ns:ZL):TA:=λx H Q=>Q (ns.map V.int) H
theorem pa_ints:∀{es:List Expr} {ns:ZL},Bs es ns=true->PA X es (tInts ns):=by
 intro es;induction es with
 |nil =>
  intro ns h;cases ns with
  |nil=>exact ag
  |cons _ _=>exact absurd h Z7
 |cons e es ih =>
  intro ns h;cases ns with
  |nil=>exact absurd h Z7
  |cons n ns =>have h:=(E6 _ _).mp h;exact ii (zj h.1) λj p z=>z▸a8 (ak (j:=j) (pos:=p)) (ih h.2)
theorem Bt[Kn:Kon](ns:ZL)(h:ns.length<=1000):ia Γ (tLst<|tInts ns) (some ns) a9:=by intro C F σ H Q xs S e k;cases e;exact⟨by rw[Y0,V4];omega,λq hq=>k q _ F H (Ext.refl S.sub) hq<|paired_ints _⟩
end L2
namespace Pu
noncomputable def o8(ps:Zw):Option (List<|Int×Int):=if ps.length<1000000/\ps.Nodup then some (mq ps) else none
end Pu
namespace L2
section
open PySem PySem.Spec PyProof.Rows
variable [Kn:Kon]
section
variable {prog:U4}{w:World}{A:Around}{E:ZN}{s:Shared}{κ:SortKind}{c:Zn}{vs:ZK}
open PySem.W
theorem iM{P:PySem.Fin->Shared->Prop}(ho:s.heap.get? a=some (seqObj "list" vs.toArray n))(ZQ:vs.length<1000000)(L:Srt.Lin c vs.length)(hk:2<=vs.length->∀h':Heap,(∀b o,b≠a->s.heap.get? b=some o->h'.get? b=some o)->∀Q':SortKind->Shared->Prop,Q' κ {s with heap:=h'}->wpAny (model prog w) A (keyKind' vs.toArray) Q' E {s with heap:=h'})(hc:∀h':Heap,(∀b o,b≠a->s.heap.get? b=some o->h'.get? b=some o)->∀i j C,i<vs.length->j<vs.length->C (c i j) {s with heap:=h'}->kas_ask prog w A κ vs i j C {s with heap:=h'})(h:∀p,Srt.Arr vs.length p->Srt.Up c p vs.length->P (.done<|.ret .none) {s with heap:=sortedHeap s.heap a vs (dM vs p)}):
  wpAny (model prog w) A (R5.«list.sort» ⟨[.ref a],[]⟩) P E s:=by
 have ha:a<s.heap.objs.size:=X0 ho;obtain⟨e1,ho1⟩:∃e1,(s.heap.update a (X6 λx=>(#[]:Array Value))).get? a=some (seqObj "list" #[] e1):=⟨_,K5 ho λx=>#[]⟩;generalize hh3:((s.heap.update a (X6 λx=>(#[]:Array Value))).push (seqObj "tuple" vs.toArray 0)).push (seqObj "list" #[] 0)=h3;have ho6:h3.get? a=some (seqObj "list" #[] e1):=by rw[<- hh3];exact Z3 _<|Z3 _ ho1
 have keep:∀b o,b≠a->s.heap.get? b=some o->h3.get? b=some o:=λb o nb q=>by rw[<- hh3];refine Z3 _<|Z3 _ ?_;rw[V5 _ _ _ _ nb];exact q
 have fin:∀p,Srt.Arr vs.length p->Srt.Up c p vs.length->P (.done<|.ret .none) {s with heap:=h3.update a (X6 λx=>dM vs p)}:=λp a1 a2=>by rw[<- hh3];exact h p a1 a2
 rw[list_sort_plain];refine Z0<|listItems_at ho rfl ?_;refine Z0<|listUpdate_at ho rfl ?_ (by rw[X1,V4];exact cT<|eJ ZQ (by decide))<|T3 _;refine Z0<|seqEpoch_at ho1 rfl ?_;refine Z0<|wpAny_newTuple ?_ (by show vs.length<=_;rw[V4];exact cT<|eJ ZQ (by decide));refine Z0<|E5 ?_<|T3 _;refine T6 ?_;show wpAny (model prog w) A _ P E {s with heap:=((s.heap.update a (X6 λx=>(#[]:Array Value))).push (seqObj "tuple" vs.toArray 0)).push (seqObj "list" #[] 0)};rw[hh3];dsimp only;have hsz:vs.toArray.size=vs.length:=by simp
 by_cases h2:vs.toArray.size<2
 ·rw[if_pos h2,if_pos h2];refine Z0<|Z5 ?_;rw[StateT.run_pure];refine Z0<|Z5 ?_;dsimp only;refine Z0<|seqEpoch_at ho6 rfl ?_;refine Z0<|listUpdate_at ho6 rfl ?_ (T3 _) (by rw[Array.size_map];show (pairsOf vs).size<=_;rw[pairsOf_size,V4];exact G4<|cT<|eJ ZQ (by decide));simp only[bne_self_eq_false,Q4,if_false];have ep:(arrOf<|D6 general' (vs.toArray.zip vs.toArray) #[] 7 none).map (·.2)=dM vs (Z9<|X9 vs.length):=by
   have e:=kas_range<|pairsOf vs;rw[pairsOf_size]at e;show (pairsOf vs).map (·.2)=_
   conv=>lhs;rw[<- e]
   unfold dM;apply Array.toList_inj.mp;rw[Array.map_map,Array.toList_map];exact F7 λi x=>by show (kas_item (pairsOf vs) i).2=_;rw[kas_item_eq]
  refine Z5 ?_;rw[ep];exact fin _ ⟨by simp,by simp⟩ λi j hij hj=>by lia
 ·rw[if_neg h2,if_neg h2];have h2':2<=vs.length:=by exact b8 (U6.mp h2)<|bG hsz
  refine Z0<|hk h2' h3 keep _ ?_;refine Z0 (R0 (xO (s:={s with heap:=h3}) (ks:=vs) (κ:=κ) rfl L<|hc h3 keep) ?_ λx x e=>e);rintro⟨⟨⟩,st'⟩ s' ⟨rfl,p,b1,b2,b3,b4⟩;dsimp only;have hout:(arrOf st').map (·.2)=dM vs p:=kat_snds rfl b3;rw[hout];refine Z0<|seqEpoch_at ho6 rfl ?_;refine Z0<|listUpdate_at ho6 rfl ?_ (T3 _) (by rw[nM,b1.sz,V4];exact G4<|cT<|eJ ZQ (by decide));rw[b4];simp only[bne_self_eq_false,Q4,if_false];exact Z5<|fin p b1 b2
theorem u6{Q:ZN}(hl:s.heap.IsList l vs.toArray)(ZQ:vs.length<1000000)(L:Srt.Lin c vs.length)(hk:2<=vs.length->∀h':Heap,(∀b o,s.heap.get? b=some o->h'.get? b=some o)->∀Q':SortKind->Shared->Prop,Q' κ {s with heap:=h'}->wpAny (model prog w) A.in1.in1 (keyKind' vs.toArray) Q' E {s with heap:=h'})(hc:∀h':Heap,(∀b o,s.heap.get? b=some o->h'.get? b=some o)->∀i j C,i<vs.length->j<vs.length->C (c i j) {s with heap:=h'}->kas_ask prog w A.in1.in1 κ vs i j C {s with heap:=h'})(h:∀p,Srt.Arr vs.length p->Srt.Up c p vs.length->Q (.ref<|s.heap.objs.size+1) {s with heap:=sortedAll s.heap vs (dM vs p)}):
  wpAny (model prog w) A (call (.builtin "sorted") [.ref l]) Q E s:=by
 refine D9 kind_sorted plain_sorted entry_sorted (args_sorted1 _) ?_;unfold R5.«sorted»;refine Z0 (m:=checkCount "sorted" 1 1 _)<|Z5 ?_;refine Z0<|collect_list hl ?_ (by rw[V4];exact cT<|eJ ZQ (by decide));refine Z0<|E5 ?_ (by rw[V4];exact cT<|eJ ZQ (by decide));have hsz:((s.heap.push<|seqObj "list" #[] 0).update s.heap.objs.size (X6 (·++vs.toArray))).objs.size=s.heap.objs.size+1:=by rw[Heap.size_update,size_push']
 have hoL:(((s.heap.push<|seqObj "list" #[] 0).update s.heap.objs.size (X6 (·++vs.toArray))).push (seqObj "list" vs.toArray 0)).get? (s.heap.objs.size+1)=some (seqObj "list" vs.toArray 0):=by rw[<- hsz];exact Y7 _ rfl
 have keep:∀b o,s.heap.get? b=some o->b≠s.heap.objs.size+1/\(((s.heap.push<|seqObj "list" #[] 0).update s.heap.objs.size (X6 (·++vs.toArray))).push (seqObj "list" vs.toArray 0)).get? b=some o:=λb o q=>by have hlt:b<s.heap.objs.size:=X0 q;refine⟨dH<|T7 hlt,Z3 _ ?_⟩;rw[V5 _ _ _ _ (dH hlt)];exact Z3 _ q
 show wpAny _ _ _ _ _ {s with heap:=((s.heap.push<|seqObj "list" #[] 0).update s.heap.objs.size (X6 (·++vs.toArray))).push (seqObj "list" vs.toArray 0)};rw[hsz];refine Z0 (T6 (R7 slot_list_sort ⟨_,hoL,rfl⟩ entry_list_sort
  (iM (s:={s with heap:=((s.heap.push<|seqObj "list" #[] 0).update s.heap.objs.size (X6 (·++vs.toArray))).push (seqObj "list" vs.toArray 0)}) hoL ZQ L
   (λh2 h' k=>hk h2 h' λb o q=>k b o (keep b o q).1 (keep b o q).2) (λh' k=>hc h' λb o q=>k b o (keep b o q).1 (keep b o q).2) λp a1 a2=>(aF _ rfl ?_)) (args_list_sort _)))
 exact Z5<|aF _ rfl<|h p a1 a2
end
end
end L2
namespace Pu
noncomputable def bT{α:Type}(kvs:List ((Int×Int)×α))(k:ZA):Option α:=(kvs.find? λkv=>decide<|kv.1=k).map (·.2)
noncomputable def o9{α:Type}(kvs:List ((Int×Int)×α))(k:ZA)(v:α):List ((Int×Int)×α) :=
 if (kvs.any λkv=>decide<|kv.1=k)=true then kvs.map (λkv=>if kv.1=k then (kv.1,v) else kv) else kvs++[(k,v)]
end Pu
namespace L2
section
open PySem PySem.Spec PyProof.Rows
variable [Kn:Kon]
noncomputable abbrev jj(k:ZA):List Key:=[.inl k.1,.inl k.2]
theorem og(h:jj a=jj b):a=b:=by obtain⟨a1,a2⟩:=a;obtain⟨b1,b2⟩:=b;simp only[jj,List.cons.injEq,P8.injEq,and_true]at h;rw[h.1,h.2]
theorem hV{α:Type}{r:Rp α}:∀{ws:List (List Key×V)} {kvs:List ((Int×Int)×α)},Paired (vj r F) ws kvs->(∀a,Pu.bT kvs k=some a->∃v,dP ws (jj k)=some v/\r.rel F v a)/\(Pu.bT kvs k=none->dP ws (jj k)=none):=λp=>by
 induction p with
 |nil=>exact⟨λa h=>(nomatch h),λx=>rfl⟩
 |@cons w kv ws kvs h t ih =>
  refine ax h λe1 e2=>?_;by_cases q:kv.1=k
  ·have e3:w.1=jj k:=by rw[e1,q]
   have ef:Pu.bT (kv ::kvs) k=some kv.2:=by unfold Pu.bT;rw[List.find?_cons_of_pos (by simpa using q)];rfl
   rw[ef,iC e3];exact⟨λa h=>by cases h;exact(aF _ rfl e2),λh=>(nomatch h)⟩
  ·have e3:¬ w.1=jj k:=by rw[e1];intro z;exact q<|og z
   have ef:Pu.bT (kv ::kvs) k=Pu.bT kvs k:=by unfold Pu.bT;rw[List.find?_cons_of_neg (by simpa using q)]
   rw[ef,iD e3];exact ih
theorem u7{α:Type}{r:Rp α}:∀{ws:List (List Key×V)} {kvs:List ((Int×Int)×α)},Paired (vj r F) ws kvs->(ws.any λkv=>decide<|kv.1=jj k)=kvs.any λkv=>decide (kv.1=k):=λp=>by
 induction p with
 |nil=>rfl
 |cons h t ih =>rw[J4,J4,ih,h.1];congr 1;rw[V7,decide_eq_true_eq,decide_eq_true_eq];exact⟨λz=>og z,λz=>by rw[z]⟩
theorem ua{α:Type}{r:Rp α}{a:α}(hv:r.rel F v a){kvs:List ((Int×Int)×α)}(p:Paired (vj r F) ws kvs):Paired (vj r F) (putK ws (jj k) v) (Pu.o9 kvs k a):=by
 unfold putK Pu.o9;rw[u7 p];split
 ·refine Paired.mapB (λw kv h=>?_) p;by_cases q:kv.1=k
  ·rw[if_pos q,if_pos (by rw[h.1,q])];exact⟨h.1,hv⟩
  ·rw[if_neg q,if_neg (by rw[h.1];intro z;exact q<|og z)];exact h
 ·exact Paired.app p<|.cons ⟨rfl,hv⟩ .nil
theorem key2(h:(cF a9 a9).rel H v k):∃b,v=.ref b/\H b=some (.tup<|(jj k).map kV):=by refine dh h λp a b e1 e2 e3 e4=>?_;cases e3;cases e4;exact⟨p,e1,e2⟩
noncomputable def rDT{α:Type}(r:Rp α):Rp (List<|(Int×Int)×α):=⟨λH v kvs=>∃p ws,v=.ref p/\H p=some (.dT ws)/\Paired (vj r H) ws kvs,
 λe zq=>ay zq λp ws h1 h2 h3=>(d4 p ws h1 (e _ _ h2)<|Paired.imp2 (λx x q=>⟨q.1,r.mono e q.2⟩) h3)⟩
section
variable {Γ:List Slot}{α β T:Type}{r:Rp α}{s:Rp β}{ta tb:TE}{oi:YY}{kvs:List ((Int×Int)×α)}{u:TS}{fin:Fc->T->Ends->Prop}
theorem SR.borrowT(S:SR C F Γ σ H)(hi:Γ[i]?=some (.ot r kvs)):∃p ws,F p=none/\H p=some (.dT ws)/\SR C (aH F p<|.dT ws) (Γ.set i<|.fr (rDT r) kvs) σ H:=by refine aa (S.at_ i _ hi) λo h1 zz=>fk zz λp vs ZT h3 h4 h5 h6=>?_;subst ZT;exact(d4 p vs h4 h5<|S.freeze hi p _ _ rfl rfl h1 h3 h4 h5 ⟨_,rfl,p,vs,rfl,am,Paired.imp2 (λx x z=>⟨z.1,Rp.mono _ (aQ h4) z.2⟩) h6⟩ trivial)
noncomputable abbrev brwT(Γ:List Slot)(i:Nat){α:Type}(r:Rp α)(kvs:List ((Int×Int)×α)):List Slot:=Γ.set i<|.fr (rDT r) kvs
theorem Bu(i:Nat)(hi:Γ[i]?=some (.ot r kvs))(fl:Flat s)(h:ia (brwT Γ i r kvs) tb o s):ia Γ tb o s:=by intro C F σ H Q b S e k;refine ay (S.borrowT hi) λp vs h1 h2 S'=>?_;refine h C _ σ H Q b S' e λv ws F' H' x1 hv r1=>?_;refine ax (eA h1 h2 x1) λx2 h3=>?_;exact k v ws _ H' x2 hv<|Paired.imp2 (λx x z=>fl h3 trivial z) r1
theorem ev_ixDT(h:EV Γ ta o (rDT r))(hi:EV Γ tb oi (cF a9 a9)):EV Γ (Ad ta tb) (o.bind λxs=>oi.bind λi=>Pu.bT xs i) r:=by intro C F σ H Q c S e k;refine aa (ae e) λa e1 e=>?_;refine aa (ae e) λb e2 e=>?_;refine EV.two (q:=λx y H2=>∃a v,x=.ref a/\mf H2 a y (some v)/\Q v H2) h hi S e1 e2 λx y F' H' x1 zq r2=>ay zq λp ws e3 h1 h2=>?_;refine aa ((hV (k:=b) h2).1 c e) λv h3 h4=>?_;refine aa (key2 r2) λkb e4 h5=>?_;exact⟨p,v,e3,.inr ⟨ws,jj b,kb,.inl<|x1.sub _ _ h1,e4,x1.sub _ _ h5,h3.symm⟩,k v F' H' x1 h4⟩
theorem bv_newT{f:List ((Int×Int)×α)->Option T}(i:Nat)(h:∀a,BV (Γ.set i<|.ot r a) u (f a) fin):BV Γ (cI (m8 Ag<|dj i) u) ((some []).bind f) fin:=by intro C F σ H D x S e k;exact λp hp=>h [] C F _ _ D x (S.setO i hp rfl ⟨p,[],rfl,S.keep.free hp,S.sub.free hp,am,.nil⟩) e k
end
end
end L2
namespace Pu
noncomputable def om{α:Type}(kvs:List ((Int×Int)×α))(k:ZA)(v:α):List ((Int×Int)×α):=match bT kvs k with
 |some _=>kvs
 |none=>o9 kvs k v
end Pu
namespace L2
section
open PySem PySem.Spec PyProof.Rows
theorem ub{K:Type}[DecidableEq K]{knd:HeapKind prog w K}{E:ZN}{k:K}{xs:List (K×Addr×Value)}{Q:ZN}(hu:knd.room A.in1)(hkey:knd.is s.heap k a)(hd:(d==M8)=false)(hm:s.heap.DictOfH knd d xs)(hsz:xs.length<=W9)(h1:∀p,atKey xs k=some p->Q p.2 {s with toks:=s.toks+knd.draws k})(h0:atKey xs k=none->∀h',h'.DictOfH knd d (storedH xs k a v)->U8 d s.heap h'->Q v {s with heap:=h',toks:=s.toks+knd.draws k}):
  wpAny (model prog w) A (call (.builtin "dict.setdefault") [.ref d,.ref a,v]) Q E s:=by
 refine R7 PySem.F.slot_dict_setdefault hm.typeIs PySem.F.entry_dict_setdefault ?_<|PySem.F.args_dict_setdefault_3 _ _ _;unfold R5.«dict.setdefault»;refine Z0 ?_;unfold R5.Dict.keyAndDefault;refine Z0<|wpAny_notOrdered_dict hm.typeIs ?_;show wpAny _ _ (pure (d,U3 a,some v)) _ _ s;refine Z5 ?_;show wpAny _ _ (if (d==M8)=true then _ else (dictSetDefault d (.ref a) v >>= _)) _ _ s;rw[if_neg (by rw[hd];exact Z7)];refine jP hm λo es ep ho hc hdd he his hn=>?_;refine Z0 ?_;unfold dictSetDefault
 try with_reducible refine T6 ?_
 refine Z0<|knd.pyHash hu hkey ?_;refine Z0<|wpAny_dictFind_heap (s:={s with toks:=s.toks+knd.draws k}) hu hkey ho hdd he his hn ?_ ?_
 ·intro hno;have hnot:k∉xs.map (·.1):=not_mem_keys_of_get hno;have hat:=atKey_none_of_get hno;refine Z0 (D4 (Z0 (wpAny_updateDictKeys (hz:=by have e:=size_of_entries he;omega) (s:={s with toks:=s.toks+knd.draws k}) ho hdd (Z5 (Z5 ⟨v,rfl,h0 hat _ ⟨_,_,ep+1,Q5 _ ho<|Obj.isFreed_of_dict<|Obj.data_mapDictKeys hdd _,
   hc.mapDictKeys _,Obj.data_mapDictKeys hdd _,?_,?_,?_⟩<|T2 ..⟩)))))
  ·rw[storedH_new hat];simp[he,entryOfKey]
  ·rw[storedH_new hat];intro x hx;rcases W0.mp hx with hx|hx
   ·exact knd.keeps (his x hx) ho hdd<|T2 ..
   ·simp only[Y3]at hx;subst hx;exact knd.keeps hkey ho hdd<|T2 ..
  ·rw[storedH_new hat];rw[T0,List.nodup_append];refine⟨hn,by simp,?_⟩;intro x hx y hy;simp only[W7,List.map_nil,Y3]at hy;subst hy;exact λe=>hnot<|e▸hx
 ·intro j p hj;refine Z0<|wpAny_dictEntries (s:={s with toks:=s.toks+knd.draws k}) ho hdd ?_;rw[entry_at he j,hj];exact Z0<|D4<|Z5<|Z5 ⟨_,rfl,h1 p<|atKey_of_get hn hj⟩
variable [Kn:Kon]
def xQ(td ty tx:TE):TE:=λσ H Q=>td σ H λx H1=>∃a,x=.ref a/\IsD H1 a/\ty σ H1 λy H2=>tx σ H2 λz H3=>∃kvs k b,H3 a=some (.dT kvs)/\y=.ref b/\H3 b=some (.tup<|k.map kV)/\kvs.length<W9 /\
 (∀v,dP kvs k=some v->Q v H3)/\(dP kvs k=none->Q z (aH H3 a<|.dT<|putK kvs k z))
section
variable {X:Cx}{ZY:ZJ}{σ:St}{H:Hp}{s:Shared}{a b:Addr}{v:V}{r:Value}{A:Around}{E:ZN}{kvs:List (List Key×V)}{k:List Key}
theorem Bv{Q:ZN}(hu:A.units+1<cLine)(I:Inv X ZY σ H s)(e:H a=some (.dT kvs))(eb:H b=some (.tup<|k.map kV))(l:kvs.length<W9)(rv:RelV v r)(h1:∀v',dP kvs k=some v'->∀w' s',Inv X ZY σ H s'->RelV v' w'->Q w' s')(h0:dP kvs k=none->∀s',Inv X ZY σ (aH H a<|.dT<|putK kvs k v) s'->Q r s'):
  wpAny (model X.prog X.w) A (call (.builtin "dict.setdefault") [.ref a,.ref b,r]) Q E s:=by
 refine aV (Aa I.hok e) λz hd zz=>aa zz λxs rel dd=>?_;have hz:xs.length<=W9:=by rw[<- Paired.length rel];exact z
 have hl:(putK kvs k v).length<=W9:=by have:=fY kvs k v;omega
 have hv:=rel.val k;refine ub (tupleKind_room_in1 hu) (l7 I.hok eb) hd dd hz (λp hp=>?_) λhn h' dd' hs=>?_
 ·rw[hp]at hv;cases q:dP kvs k with
  |none=>rw[q]at hv;cases hv
  |some v' =>rw[q]at hv;refine h1 v' q _ _ (I.tok _) ?_;refine aa (iz.some_of (v:=v') (o:=some p.2) hv) λw' e1 e2=>?_;cases e1;exact e2
 ·rw[hn]at hv;have q:dP kvs k=none:=by
   cases q:dP kvs k with
   |none=>rfl
   |some v'=>rw[q]at hv;cases hv
  refine h0 q _ ?_;refine jP dd' λq es ep hq h2 h3 h4 x h5=>?_;refine mG I (by rw[e];exact J1) hs ⟨q,hq⟩ ⟨hl,hd,_,(rel.put k eb rv).keeps λc ys ec=>?_,q,es,ep,hq,h2,h3,h4,h5⟩;rw[aq (ne_of ec e λz=>nomatch z)];exact ec
end
section
variable {X:Cx}{o e f:Expr}{apos cpos:Pos}{td ty tx:TE}
theorem pe_ddef(hu:X.A.units+1<cLine)(ho:PE X o td)(he:PE X e ty)(hf:PE X f tx)(m:M2 X o "setdefault" apos e f cpos):PE X (.Call (.Attribute o "setdefault" apos) [e,f] [] cpos) (xQ td ty tx):=by
 intro ZY s σ H Q I h;refine wpAny_Call_method m.base m.few m.line PySem.F.plainAttrs_dict PySem.F.slot_dict_setdefault PySem.F.type_dict_setdefault (bM (ho ZY s σ H _ I h) λu s1 zq=>ay zq λx H1 I1 rx zz=>aE zz λa ex d q1=>?_);subst ex;obtain rfl:u=U3 a:=rx;refine aV (isD_at I1 d) λt1 t2 x=>?_;refine⟨t1,t2,?_⟩;rw[m.trees];refine Calls.callWith_builtin rfl (Calls.evalArgs_plain (Calls.spliced_cons (bM (he ZY s1 σ H1 _ I1 q1) λiv s2 zq=>ay zq λy H2 I2 ry q2 =>
  Calls.spliced_cons (bM (hf ZY s2 σ H2 _ I2 q2) λfv s3 zq=>ay zq λz H3 I3 rz zz=>Calls.spliced_nil ?_))))
 refine jP zz λkvs k b g1 g2 g3 g4 g5 g6=>?_;subst g2;obtain rfl:iv=U3 b:=ry;exact Bv hu I3 g1 g3 g4 rz (λv' e1 w' s' I4 rw'=>⟨v',H3,I4,rw',g5 v' e1⟩) λe0 s' I4=>⟨z,_,I4,rz,g6 e0⟩
end
section
variable {Γ:List Slot}{α T:Type}{r:Rp α}{tb te:TE}{oa:Option α}{oi:YY}{kvs:List ((Int×Int)×α)}{u:TS}{fin:Fc->T->Ends->Prop}
set_option tactic.hygienic true in
theorem zk(h:Γ[i]?=some s):Γ.set i s=Γ:=by
 apply List.ext_getElem?;intro j;rw[List.getElem?_set];split
 ·rename_i e;subst e;split
  ·exact h.symm
  ·rename_i z;rw[D8 (E7 z)]at h;cases h
 ·rfl
set_option tactic.hygienic true in
theorem bv_defT{f:List ((Int×Int)×α)->Option T}(i:Nat)(hi:Γ[i]?=some (.ot r kvs))(hk:EV Γ tb oi (cF a9 a9))(he:EV Γ te oa r)(h:∀ys,BV (Γ.set i<|.ot r ys) u (f ys) fin):
  BV Γ (cI (wC<|xQ (dO i) tb te) u) (oi.bind λk=>oa.bind λa=>if kvs.length<16777216 then f (Pu.om kvs k a) else none) fin:=by
 intro C F σ H D x S e k;refine aa (ae e) λn e2 e=>?_;refine aa (ae e) λa e1 e=>?_;split at e
 case isFalse=>cases e
 rename_i hl;refine aa (S.at_ i _ hi) λo h1 zz=>fk zz λp vs ZT c c h5 c=>?_;subst ZT;show xQ (dO i) tb te σ H λc H'=>u D σ H';unfold xQ;refine xq i C F σ H _ (.ref p) S h1 ?_;refine⟨p,rfl,.inr ⟨vs,.inl h5⟩,hk C F σ H _ n S e2 λw F2 H2 x2 r2=>he C F2 σ H2 _ a (S.grow x2) e1 λv F3 H3 x3 r3=>?_⟩;have S':=(S.grow x2).grow x3;refine aa (S'.at_ i _ hi) λo' q1 zz=>fk zz λp' vs' ZT q3 q4 q5 q6=>?_;subst ZT;rw[h1]at q1;cases q1;refine aa (key2 r2) λkb e4 h6=>?_;refine⟨vs',jj n,kb,q5,e4,x3.sub _ _<|x3.ff _ _ h6,by rw[q6.length,V4];exact hl,λv' hv=>?_,λhn=>?_⟩
 ·have ef:Pu.om kvs n a=kvs:=by
   unfold Pu.om;cases q:Pu.bT kvs n with
   |some _=>rfl
   |none=>rw[(hV (k:=n) q6).2 q]at hv;cases hv
  rw[ef]at e;have S2:=h kvs C F3 σ H3 D x;rw[zk hi]at S2;exact S2 S' e k
 ·have ef:Pu.om kvs n a=Pu.o9 kvs n a:=by
   unfold Pu.om;cases q:Pu.bT kvs n with
   |none=>rfl
   |some b=>refine aa ((hV (k:=n) q6).1 b q) λv' h7 c=>?_;rw[h7]at hn;cases hn
  rw[ef]at e;exact h _ C F3 σ _ D x (S'.chg hi rfl h1 q3 q4 rfl ⟨p,_,rfl,q3,q4,am,ua r3 q6⟩) e k
end
end
open PySem PySem.Spec PyProof.Rows
def iN(h:Heap)(d:Addr)(es:Array J0)(ep:Nat):Prop:=∃o,h.get? d=some o/\o.ExactDict/\o.data=.dict es ep
theorem iN.at_(x:iN h d es ep)(k:∀o,h.get? d=some o->h'.get? d=some o):iN h' d es ep:=aa x λo a b=>⟨o,k o a,b⟩
theorem iN.typeIs{s:Shared}(x:iN s.heap d es ep):s.TypeIs (.ref d) "dict":=aE x λo a b h=>⟨o,a,b.1⟩
section
variable {prog:U4}{w:World}{A:Around}{E:ZN}{s:Shared}{d it:Addr}{es:Array J0}{ep i:Nat}
theorem Bw{Q:ZN}(hd:(d==M8)=false)(hm:iN s.heap d es ep)(hQ:Q (.ref s.heap.objs.size) {s with heap:=s.heap.push {cls:=.type "dict_keyiterator",data:=.fields #[.ref d,.int 0 0,.int es.size 0,.int ep 0]}}):wpAny (model prog w) A (pyIter<|.ref d) Q E s:=by have hT:=hm.typeIs;refine aE hm λo ho hc hdat=>?_;refine wpAny_pyIter_slot hT PySem.F.slot_dict_iter<|R7 PySem.F.slot_dict_iter hT PySem.F.entry_dict_iter ?_<|PySem.F.args_dict_iter_1 _;unfold R5.«dict.__iter__»;refine Z0 ?_;unfold R5.Dict.dictSlotNone;refine Z0<|wpAny_notOrdered_dict hT ?_;show wpAny _ _ (pure<|U3 d) _ _ s;refine Z5 ?_;show wpAny _ _ (R5.Dict.showsAll d >>= _) _ _ s;unfold R5.Dict.showsAll;rw[if_neg (by rw[hd];exact Z7)];refine Z0<|Z5<|Z0<|wpAny_dictEntries ho hdat<|Z0<|wpAny_dictEpoch ho hdat ?_;refine Z0<|O0<|Z5 ⟨_,rfl,"dict_keyiterator",_,⟨_,Y7 _ rfl,rfl⟩,O5.lookup,?_⟩;simpa [rawInt] using hQ
theorem Bx{Q:Zm}(hit:s.heap.IsKeyIter it d i es.size ep)(hm:iN s.heap d es ep)(h1:∀h:i<es.size,∀h',h'.IsKeyIter it d (i+1) es.size ep->U8 it s.heap h'->Q (some es[i].key) {s with heap:=h'})(h:i<es.size):
  wpAny (model prog w) A (pyNext<|.ref it) Q E s:=by
 refine aE (id hit) λo ho hc hd=>?_;refine aE hm λod hod hcd hdd=>?_;unfold pyNext;refine Z0 (wpAny_attempt (M9 (name:=J5 "__next__") hit.typeIs O5
  (R7 O5 hit.typeIs PySem.F.entry_dict_keyiterator_next ?_<|PySem.F.args_dict_keyiterator_next_1 _)))
 refine Z0 (Z5<|Z0<|Z0 ?_)
 first|refine Z0 (G2 hit.typeIs<|Z5 ?_)|refine Z0<|wpAny_typeNameOf_keyiter hit.typeIs<|Z5 ?_
 refine Z0<|wpAny_fieldsOf ho hd ?_;simp only[show R5.Dict_items.ownsTuple "dict_keyiterator"=false by decide,Q4,if_false];show wpAny _ _ (if (U3 d==O1)=true then _ else _) _ _ s;rw[if_neg (show ¬ ((U3 d==O1)=true) from Z7)];refine Z0<|Z5<|Z0<|wpAny_dictEntries hod hdd ?_;rw[if_neg (by simp)];refine Z0<|Z5<|Z0<|wpAny_dictEpoch hod hdd ?_;rw[if_neg (by simp)];refine Z5 ?_;simp only[show ¬ ((i:Int)<0) from by omega,if_false,V3,U2 h];refine Z0 ?_
 first|refine Z0 (G2 hit.typeIs<|Z5 ?_)|refine Z0<|wpAny_typeNameOf_keyiter hit.typeIs<|Z5 ?_
 refine Z0<|wpAny_isOneOf_keyiter hit.typeIs ?_;show wpAny _ _ (setField (.ref it) 1 (rawInt<|(i:Int)+1) >>= _) _ _ s;refine Z0<|D5 ho hd (by simp) ?_;have hit':(s.heap.update it<|Obj.mapFields (·.setIfInBounds 1 (rawInt<|(i:Int)+1))).IsKeyIter it d (i+1) es.size ep :=
  ⟨_,Q5 _ ho<|D7<|O3 hd _,(Obj.cls_mapFields ..).trans hc,by rw[O3 hd];simp[rawInt]⟩
 refine Z0<|T6 ?_;refine Z0<|wpAny_isOneOf_keyiter (s:={s with heap:=s.heap.update it (Obj.mapFields (·.setIfInBounds 1 (rawInt<|(i:Int)+1)))}) hit'.typeIs ?_;show wpAny _ _ (pure es[i].key) _ _ _;exact Z5<|Z5 ⟨_,rfl,Z5<|h1 h _ hit'<|T2 ..⟩
theorem ent_end{Q:Zm}(hh:A.handled=none)(hit:s.heap.IsKeyIter it d es.size es.size ep)(hm:iN s.heap d es ep)(hQ:∀h',Heap.ExtBut it s.heap h'->Q none {s with heap:=h'}):
  wpAny (model prog w) A (pyNext<|.ref it) Q E s:=by
 refine aE (id hit) λo ho hc hd=>?_;refine aE hm λod hod hcd hdd=>?_;unfold pyNext;refine Z0 (wpAny_attempt (M9 (name:=J5 "__next__") hit.typeIs O5
  (R7 O5 hit.typeIs PySem.F.entry_dict_keyiterator_next ?_<|PySem.F.args_dict_keyiterator_next_1 _)))
 refine Z0 (Z5<|Z0<|Z0 ?_)
 first|refine Z0 (G2 hit.typeIs<|Z5 ?_)|refine Z0<|wpAny_typeNameOf_keyiter hit.typeIs<|Z5 ?_
 refine Z0<|wpAny_fieldsOf ho hd ?_;simp only[show R5.Dict_items.ownsTuple "dict_keyiterator"=false by decide,Q4,if_false];show wpAny _ _ (if (U3 d==O1)=true then _ else _) _ _ s;rw[if_neg (show ¬ ((U3 d==O1)=true) from Z7)];refine Z0<|Z5<|Z0<|wpAny_dictEntries hod hdd ?_;rw[if_neg (by simp)];refine Z0<|Z5<|Z0<|wpAny_dictEpoch hod hdd ?_;rw[if_neg (by simp)];refine Z5 ?_;simp only[show ¬ ((es.size:Int)<0) from by omega,if_false,V3,E3 (bD es.size)];refine Z0 ?_
 first|refine Z0 (G2 hit.typeIs<|Z5 ?_)|refine Z0<|wpAny_typeNameOf_keyiter hit.typeIs<|Z5 ?_
 show wpAny _ _ (setField (.ref it) 0 .none >>= _) _ _ s;refine Z0<|D5 ho hd (by simp) ?_;show wpAny _ _ (newExc (.type "StopIteration") [] >>= _) _ _ _;refine Z0 ?_;simp only[newExc,newTuple];refine Z0<|O0 ?_ (by size_fits);refine Z0 (m:=firstArgMember _ _)<|wpAny_of_eq (a:=O1) (by first|rfl|(simp only[firstArgMember];rfl)) ?_;refine O0 ?_ (by size_fits);simp only[raiseNew];refine Z0<|wpAny_handled ?_;rw[show A.in1.handled=none from hh];refine Z0<|Z5<|wpAny_throw ?_;refine Z0<|wpAny_isInstance (T:="StopIteration") (b:=true) ⟨_,Y7 _ rfl,rfl⟩ isSubtype_stop ?_;exact Z5<|hQ _<|((T2 ..).extBut.push _).push _
theorem zl(hh:A.handled=none)(I d:Addr)(hne:d≠I)(es:Array J0)(ep:Nat):
  PySem.Walks prog w A I [I,d] [I] es.size (λi v=>∃h:i<es.size,v=es[i].key) (λi h=>h.IsKeyIter I d i es.size ep/\iN h d es ep) where
 sub:=λb hb=>by simp at hb;simp[hb]
 frame:=λx x x st hk=>⟨st.1.at λo e=>hk I (by simp) o e,st.2.at_ λo e=>hk d (by simp) o e⟩
 item:=λi s Q E hi st hQ=>Bx st.1 st.2 (λh h' hit' hs'=>hQ _ h' s.toks ⟨h,rfl⟩ ⟨hit',st.2.at_ λo e=>hs'.extBut d o hne e⟩ λb o hb e=>hs'.extBut b o (λh=>hb (by simp[h])) e) hi
 done:=λs Q E st hQ=>ent_end hh st.1 st.2 λh' he'=>hQ h' s.toks λb o hb e=>he' b o (λh=>hb (by simp[h])) e
 self:=λx x x x st hQ=>wpAny_pyIter_keyiter st.1 hQ
theorem ent_src(lo:(d==M8)=false):PySem.W.KdlSrc prog w "dict" d d es.size (λi v=>∃h:i<es.size,v=es[i].key) (λh=>iN h d es ep) where
 type:=λx hm=>hm.typeIs
 there:=λx hm=>aa hm λo ho x=>⟨X0 ho,X0 ho⟩
 keep:=λx x hm hk=>hm.at_ λo e=>hk d (.inl rfl) o e
 notList:=by decide
 notTuple:=by decide
 hint:=λx x x x hm hq=>PySem.W.kdl_hint_dict hm.typeIs hq
 iter:=λx x hh hm=>⟨_,_,(λx x hq=>Bw lo hm hq),zl hh _ d (aa hm λo ho x=>dH<|X0 ho) es ep,⟨⟨_,Y7 _ rfl,rfl,rfl⟩,hm.at_ λo e=>Z3 _ e⟩⟩
end
section
variable [Kn:Kon]
theorem By:∀{ws:List (List Key×V)} {xs:List (List Key×Addr×Value)} {ks:Zw},KT H ws xs->ws.map (·.1)=ks.map jj->Paired ((cF a9 a9).rel H) (xs.map λx=>V.ref x.2.1) ks:=λ{ws xs ks} p=>by
 induction p generalizing ks with
 |nil=>intro e;cases ks with|nil=>exact .nil|cons _ _=>exact nomatch e
 |@cons a b as bs h t ih =>
  intro e;cases ks with
  |nil=>exact nomatch e
  |cons k ks =>refine .cons ⟨_,.int k.1,.int k.2,rfl,?_,rfl,rfl⟩<|ih (List.cons.inj e).2;rw[h.2.1,show a.1=jj k from (List.cons.inj e).1];rfl
section
variable {X:Cx}
open PySem.W
def xR:List V->Hp->VK->Prop:=λxs H Q=>∃p ws ks,xs=[.ref p]/\H p=some (.dT ws)/\ws.map (·.1)=ks.map jj/\ks.length<1000000/\ks.Nodup/\∀q vs,H q=none->Paired ((cF a9 a9).rel H) vs (Pu.mq ks)->Q (.ref q) (aH H q<|.lst vs)
theorem uc(hc:X.calm=true):eN X (.builtin "sorted") xR:=by
 intro ZY s σ H xs us Q I r hh;refine jP hh λp ws ks ZU hD hK ZQ hnd q=>?_;subst ZU;refine aa (vals1 r) λu ZW ru=>?_;subst ZW;cases ru;refine aV (Aa I.hok hD) λhz lo zz=>aa zz λxs rel dd=>?_;refine jP dd λo es ep ho hx hd he his hn=>?_;have hat:iN s.heap p es ep:=⟨o,ho,hx,hd⟩;have hes:es.size=xs.length:=size_of_entries he;have lx:ws.length=xs.length:=Paired.length rel;have lk:ws.length=ks.length:=by have:=congrArg List.length hK;simpa using this
 refine D9 kind_sorted plain_sorted entry_sorted (args_sorted1 _) ?_;unfold R5.«sorted»;refine Z0 (m:=checkCount "sorted" 1 1 _)<|Z5 ?_;refine Z0 (kdu_collect (A:=X.A.in1) (ent_src (es:=es) (ep:=ep) lo) (I.ok.hd hc) hat (by rw[hes,<- lx];exact hz) λh' tk acc hk hacc=>?_);have I1:=I.kept (t':=tk) hk;have eacc:acc.toList=xs.map λx=>U3 x.2.1:=by
  apply List.ext_getElem
  ·rw[W8,hacc.1,Y0,hes]
  ·intro i h1 h2;obtain⟨hi,e1⟩:=hacc.2 i _<|U2 (by rw[W8]at h1;exact h1);have e2:=entry_at he i;rw[U2 hi]at e2;rw[Y0]at h2;rw[Y5 h2]at e2;have e3:=Z8 e2;rw[Array.getElem_toList,e1,e3,List.getElem_map];rfl
 have hP:Paired ((cF a9 a9).rel H) (xs.map λx=>V.ref x.2.1) ks:=By rel hK;have rv:aP (xs.map λx=>V.ref x.2.1) acc.toList:=by rw[eacc];exact cu λx a=>rfl
 have pa:=aP.pairs I1 rv hP;have el:acc.toList.length=ks.length:=by rw[eacc,Y0];omega
 have hl2:=hP.length;refine Z0<|E5 ?_ (by rw[el,V4];exact cT<|eJ ZQ (by decide));have hoL:(h'.push<|seqObj "list" acc.toList.toArray 0).get? h'.objs.size=some (seqObj "list" acc.toList.toArray 0):=Y7 _ rfl;have kp:∀h2:Heap,(∀b o,b≠h'.objs.size->(h'.push<|seqObj "list" acc.toList.toArray 0).get? b=some o->h2.get? b=some o)->∀b o,h'.get? b=some o->h2.get? b=some o:=λh2 k b o z=>k b o (dH<|X0 z)<|Z3 _ z;refine Z0 (T6 (R7 slot_list_sort ⟨_,hoL,rfl⟩ entry_list_sort
  (iM (κ:=tuples' true) (c:=λi j=>Pu.cx (ks.getD i (0,0))<|ks.getD j (0,0)) (s:={s with heap:=h'.push<|seqObj "list" acc.toList.toArray 0,toks:=tk}) hoL (by exact dI (bG el) ZQ) (by rw[el];exact qr hnd) (λh2 h3 k Q' hq=>?_)
   (λh3 k i j C hi hj hC=>qp (s:={s with heap:=h3,toks:=tk}) (pa.kept<|kp h3 k) hi hj hC) λp1 a1 u1=>(aF _ rfl ?_)) (args_list_sort _)))
 ·refine aE ((pa.kept<|kp h3 k).tups) λfs g1 g2 g3=>?_;refine kat_kind (s:={s with heap:=h3,toks:=tk}) (T:=.type "int") g1 (by omega) (λv hv=>?_) rfl hq;refine ii (g3 v hv) λi t ZV=>?_;subst ZV;exact .now
 ·rw[el]at a1 u1;have eu:=AQ hnd a1 u1;refine ao (sortedHeap_at (out:=dM acc.toList p1) hoL) λe1 hat1=>?_;have hlt:∀i∈p1.toList,i<ks.length:=λi hi=>by have:=a1.pm.subset hi;simpa using this
  refine Z5 ⟨_,rfl,.ref _,_,I1.laid (t':=tk) (o:=.lst (p1.toList.map λi=>(xs.map λx=>V.ref x.2.1).getD i .non)) (λb ob q=>?_) (bD _) ⟨?_,p1.toList.map λi=>acc.toList.getD i O1,e1,?_,hat1⟩,rfl,q _ _ (I1.hok.fresh<|bD _) ?_⟩
  ·have hlt:b<h'.objs.size:=X0 q;rw[sortedHeap_old (dH hlt) (by rw[size_push'];exact T7 hlt)];exact Z3 _ q
  ·rw[Y0,W8,a1.sz,V4];exact cT<|eJ ZQ (by decide)
  ·exact cu λi hi=>km rv (by have:=hlt i hi;exact bZ this<|bG hl2.symm)
  ·rw[<- eu];exact cu λi h=>km hP (by have:=hlt i h;exact bZ this<|bG hl2.symm)
end
noncomputable def tpl(F H:Hp):Hp:=λb=>match F b with
 |some o=>some o
 |none=>match H b with
  |some (.tup xs)=>some<|.tup xs
  |_=>none
set_option tactic.hygienic true in
theorem oo(h:tpl F H b=some o):F b=some o\/∃xs,o=.tup xs/\H b=some (.tup xs):=by
 unfold tpl at h;split at h
 ·rename_i u e;exact .inl<|e.trans h
 ·split at h
  ·rename_i xs e;cases h;exact .inr ⟨xs,rfl,e⟩
  ·cases h
set_option tactic.hygienic true in
theorem tpl_of(s:aY F H)(h:H b=some (.tup xs)):tpl F H b=some (.tup xs):=by
 unfold tpl;split
 ·rename_i u e;rw[<- s _ _ e];exact h
 ·rw[h]
theorem Bz(s:aY F H):Ext F H (tpl F H) H:=by
 refine⟨Sm.refl _,λb o h=>?_,λb o h=>?_,λb o h=>?_,λz b ps h=>?_⟩
 ·unfold tpl;rw[h]
 ·rcases oo h with q|⟨xs,rfl,q⟩
  ·exact s b o q
  ·exact q
 ·rcases oo h with q|⟨xs,rfl,q⟩
  ·exact .inl q
  ·exact .inr (by rw[q];trivial)
 ·rcases oo h with q|⟨xs,e,q⟩
  ·exact z b ps q
  ·cases e
theorem zo{α:Type}{r:Rp α}:∀{ws:List (List Key×V)} {kvs:List ((Int×Int)×α)},Paired (vj r F) ws kvs->ws.map (·.1)=(kvs.map (·.1)).map jj:=λp=>by
 induction p with
 |nil=>rfl
 |cons h t ih=>rw[W7,W7,W7,<- ih,h.1]
end
section
variable [Kn:Kon]
theorem BA{K:Z4}{α β γ:Type}{r:Rp α}{s:Rp β}{q:Rp γ}{o:Option (α×β)}{o':Option γ}(h:EV Γ ta o (cF r s))(h':EV Γ tb o' (rT1 q)):EV Γ (gT (wK K) ta tb) (o.bind λa=>o'.bind λb=>some (a.1,a.2,b)) (ml r s q):=by intro C F σ H Q c S e k;refine aa (ae e) λa e1 e=>?_;refine aa (ae e) λb e2 e=>?_;cases e;refine EV.two (q:=λx y H2=>wK K x y H2 Q) h h' S e1 e2 λx y F' H' x1 zq zp=>dh zq λp u v e3 h1 h2 h3=>ay zp λp' w e4 h4 h5=>⟨p,p',[u,v],[w],e3,e4,j5.of<|x1.sub _ _ h1,j5.of<|x1.sub _ _ h4,by simp,by rw[V4];simp,(λz=>nomatch z),λi q9 hq=>?_⟩;have x2:=Ext.new (o:=.tup [u,v,w]) x1.sub hq;exact k _ _ _ (x1.trans x2) ⟨q9,u,v,w,rfl,am,Rp.mono _ x2.ff h2,Rp.mono _ x2.ff h3,Rp.mono _ x2.ff h5⟩
end
section
variable {prog:U4}{w:World}{A:Around}{E:ZN}{s:Shared}{I S:Addr}{fp wr:Zx}{n:Nat}{P:Nat->Value->Prop}{Sx:Nat->Heap->Prop}{g:Heap}{R:Result->Shared->Prop}{bt:Zn}
theorem maxT_go(W:PySem.Walks prog w A.in1 I fp wr n P Sx)(nS:S∉fp)(fw:∀b∈wr,g.get? b=none)(fs:g.get? S=none)(ask:∀i j x y (s:Shared) (Q:ZN) (E:ZN),mt g s.heap->P i x->P j y->Q (.bool<|bt i j) s->wpAny (model prog w) A.in1 (richCompare .Gt x y) Q E s):
  ∀(k j:Nat) (s:Shared) (x:Value) (c:Nat),j+1+k=n->mt g s.heap->Sx (j+1) s.heap->P (argBest bt j) x->s.heap.get? S=some (seqObj "list" #[x,x] c) ->
   (∀v h' tk,P (argBest bt<|n-1) v->(∀b o,b∉wr->b≠S->s.heap.get? b=some o->h'.get? b=some o)->R (.ok<|.ret v) {s with heap:=h',toks:=tk}) ->
   codeAny (model prog w) A (.builtin "max.loop" ⟨[.ref I,.none,.ref S],[]⟩) R s:=by
 have nW:S∉wr:=λh=>nS<|W.sub _ h;have nm:(toString "max"++toString ".loop":String)="max.loop":=by decide
 intro k;induction k with
 |zero =>intro j s x c hj sg st px hS fin;have e:j+1=n:=hj;refine O7 PySem.F.entry_max_loop<|Q2 N8 _▸?_;show wpAny _ A.in1 (seqItems? (.ref S) >>= _) _ _ _;refine Z0<|D1 hS rfl<|Z0<|K1 (W.done s _ _ (e▸st) λh' tk kp=>?_);have hS':=kp S _ nW hS;refine Z0<|G9 hS' rfl<|Z0<|wpAny_letGo<|Z5 ?_;refine fin x _ tk (by rw[<- e];exact px) λb o q1 q2 z=>?_;rw[V5 _ _ _ _ q2];exact kp b o q1 z
 |succ k ih =>
  intro j s x c hj sg st px hS fin;have lt:j+1<n:=by omega
  refine O7 PySem.F.entry_max_loop<|Q2 N8 _▸?_;show wpAny _ A.in1 (seqItems? (.ref S) >>= _) _ _ _;refine Z0<|D1 hS rfl<|Z0<|K1 (W.item (j+1) s _ _ lt st λv h' tk pv st' kp=>?_);have hS':=kp S _ nW hS;have sg':mt g h':=sg.on (S:=S) fw fs λb o q1 a z=>kp b o q1 z;show wpAny _ A.in1 (tryCatch (holding [v,v]<|richCompare .Gt v x >>= _) _ >>= _) _ _ _;refine Z0<|K1<|T6<|Z0<|ask (j+1) (argBest bt j) v x _ _ _ sg' pv px<|Z0<|T6<|N0<|Z0<|wpAny_letGo<|Z5 ?_;cases e:bt (j+1) (argBest bt j) with
  |true =>
   obtain⟨c2,hc2⟩:∃c2,(h'.update S (X6 λa=>#[v,v])).get? S=some (seqObj "list" #[v,v] c2):=⟨_,K5 hS' λa=>#[v,v]⟩;have kp2:∀b o,b∉wr->b≠S->s.heap.get? b=some o->(h'.update S (X6 λa=>#[v,v])).get? b=some o:=λb o q1 q2 z=>by rw[V5 _ _ _ _ q2];exact kp b o q1 z
   simp only[if_true];refine Z0<|G9 hS' rfl<|Z0<|wpAny_letGo ?_;rw[nm];refine Z5 ⟨M4 N8 _,ih (j+1) _ v c2 (by omega) (sg.on fw fs kp2) (W.frame _ _ _ st' λb hb o z=>?_) (by simp only[argBest,e,if_true];exact pv) hc2 λv2 h2 tk2 p2 kp3=>?_⟩
   ·have nb:b≠S:=λq=>nS<|q▸hb;show (h'.update S (X6 λa=>#[v,v])).get? b=some o;rw[V5 _ _ _ _ nb];exact z
   ·exact fin v2 h2 tk2 p2 λb o q1 q2 z=>kp3 b o q1 q2<|kp2 b o q1 q2 z
  |false =>simp only[Q4,if_false];refine Z0<|wpAny_letGo ?_;rw[nm];refine Z5 ⟨M4 N8 _,ih (j+1) _ x c (by omega) sg' st' (by simp only[argBest,e,Q4,if_false];exact px) hS' λv2 h2 tk2 p2 kp3=>?_⟩;exact fin v2 h2 tk2 p2 λb o q1 q2 z=>kp3 b o q1 q2<|kp b o q1 z
theorem BB{Q:ZN}(hh:A.handled=none)(ask:∀i j x y (s':Shared) (Q:ZN) (E:ZN),mt s.heap s'.heap->[a,b][i]?=some x->[a,b][j]?=some y->Q (.bool<|bt i j) s'->wpAny (model prog w) A.in1 (richCompare .Gt x y) Q E s')(fin:∀v h' tk,[a,b][argBest bt 1]?=some v->mt s.heap h'->Q v {s with heap:=h',toks:=tk}):wpAny (model prog w) A (call (.builtin "max") [a,b]) Q E s:=by
 have nm:(toString "max"++toString ".loop":String)="max.loop":=by decide
 refine call_function_tree PySem.F.kind_max PySem.F.plain_max PySem.F.entry_max (PySem.F.args_max2 _ _) ?_;show wpAny _ A.in1 (F9 "max" ["key","default"] 0 ⟨[],[]⟩ >>= _) _ _ s;refine Z0<|wpAny_of_eq (show F9 "max" ["key","default"] 0 ⟨[],[]⟩=pure [none,none] from rfl) ?_;show wpAny _ A.in1 (newTuple [a,b] >>= _) _ _ s;refine Z0<|O0 ?_;have ask2:∀i j x y (s':Shared) (Q:ZN) (E:ZN),mt (s.heap.push {cls:=.type "tuple",data:=.seq #[a,b]}) s'.heap->[a,b][i]?=some x->[a,b][j]?=some y->Q (.bool<|bt i j) s'->wpAny (model prog w) A.in1 (richCompare .Gt x y) Q E s' :=
  λi j x y s' Q E k=>ask i j x y s' Q E λb o e=>k b o<|Z3 _ e
 have fin2:∀v h' tk,[a,b][argBest bt ([a,b].length-1)]?=some v->mt (s.heap.push {cls:=.type "tuple",data:=.seq #[a,b]}) h'->Q v {s with heap:=h',toks:=tk}:=λv h' tk p k=>fin v h' tk p λb o e=>k b o<|Z3 _ e;have hl2:({s with heap:=s.heap.push {cls:=.type "tuple",data:=.seq #[a,b]}}:Shared).heap.IsTuple s.heap.objs.size [a,b].toArray:=⟨_,Y7 _ rfl,rfl,0,rfl⟩;have ne:0<[a,b].length:=by simp
 clear ask fin;show wpAny _ A.in1 (pyIter (.ref s.heap.objs.size) >>= _) _ _ {s with heap:=s.heap.push {cls:=.type "tuple",data:=.seq #[a,b]}};generalize s.heap.objs.size=l at *;obtain⟨s0,es0⟩:∃s0:Shared,s0={s with heap:=s.heap.push {cls:=.type "tuple",data:=.seq #[a,b]}}:=⟨_,rfl⟩;have fin3:∀v h' tk,[a,b][argBest bt ([a,b].length-1)]?=some v->mt s0.heap h'->Q v {s0 with heap:=h',toks:=tk}:=by subst es0;exact fin2
 have ask3:∀i j x y (s':Shared) (Q:ZN) (E:ZN),mt s0.heap s'.heap->[a,b][i]?=some x->[a,b][j]?=some y->Q (.bool<|bt i j) s'->wpAny (model prog w) A.in1 (richCompare .Gt x y) Q E s':=by subst es0;exact ask2
 have hl:s0.heap.IsTuple l [a,b].toArray:=by subst es0;exact hl2
 rw[<- es0];clear ask2 fin2 hl2 es0;generalize [a,b]=its at *;have ll:l<s0.heap.objs.size:=aa hl λo ho c=>X0 ho;refine Z0<|wpAny_pyIter_tuple hl ?_;refine Z0<|E5 ?_<|T3 _;rw[nm];generalize eI:s0.heap.objs.size=I9;have e9:(s0.heap.push {cls:=.type "tuple_iterator",data:=.fields #[.ref l,.int 0 0]}).objs.size=I9+1:=by rw[<- eI];exact size_push' ..
 have gI:((s0.heap.push {cls:=.type "tuple_iterator",data:=.fields #[.ref l,.int 0 0]}).push (seqObj "list" #[] 0)).get? I9=some {cls:=.type "tuple_iterator",data:=.fields #[.ref l,.int 0 0]}:=by rw[<- eI];exact Z3 _<|Y7 _ rfl
 have gS:((s0.heap.push {cls:=.type "tuple_iterator",data:=.fields #[.ref l,.int 0 0]}).push (seqObj "list" #[] 0)).get? (I9+1)=some (seqObj "list" #[] 0):=by rw[<- e9];exact Y7 _ rfl
 have old:mt s0.heap ((s0.heap.push {cls:=.type "tuple_iterator",data:=.fields #[.ref l,.int 0 0]}).push (seqObj "list" #[] 0)):=λb o e=>Z3 _<|Z3 _ e;have none_:∀b,I9<=b->s0.heap.get? b=none:=λb hb=>by
  cases q:s0.heap.get? b with
  |none=>rfl
  |some o=>exact absurd (X0 q)<|U6.mpr<|eI▸hb
 have lI:l≠I9:=dH<|eI▸ll;have W:=PySem.Walks.tuple (prog:=prog) (w:=w) (A:=A.in1) hh I9 l lI its.toArray;have hl2:((s0.heap.push {cls:=.type "tuple_iterator",data:=.fields #[.ref l,.int 0 0]}).push (seqObj "list" #[] 0)).IsTuple l its.toArray:=(hl.push _).push _;have nS:I9+1∉[I9,l]:=λz=>by
  rcases Y4.mp z with z|z
  ·exact absurd z<|Nat.succ_ne_self _
  ·have e:=Y3.mp z;have l2:l<I9:=bZ ll<|bG eI;exact absurd (e▸l2:I9+1<I9)<|U6.mpr<|P3 _
 refine Z5 ⟨M4 N8 _,?_⟩;rw[e9];refine O7 PySem.F.entry_max_loop<|Q2 N8 _▸?_;show wpAny _ A.in1 (seqItems? (.ref<|I9+1) >>= _) _ _ _;have ne':0<its.toArray.size:=by rw[X1];exact ne
 refine Z0<|D1 gS rfl<|Z0<|K1 (W.item 0 _ _ _ ne' ⟨⟨_,gI,rfl,rfl⟩,hl2⟩ λv h' tk pv st' kp=>?_);have hS':=kp (I9+1) _ (λz=>absurd (Y3.mp z)<|Nat.succ_ne_self _) gS;obtain⟨c2,hc2⟩:∃c2,(h'.update (I9+1) (X6 λc=>#[v,v])).get? (I9+1)=some (seqObj "list" #[v,v] c2):=⟨_,K5 hS' λc=>#[v,v]⟩;have kp2:mt s0.heap (h'.update (I9+1) (X6 λc=>#[v,v])):=λb o z=>by have lt:b<I9:=eI▸X0 z;rw[V5 _ _ _ _ (dH<|T7 lt)];exact kp b o (λq=>absurd (Y3.mp q)<|dH lt)<|old b o z
 show wpAny _ A.in1 (updateSeq (I9+1) (λc=>#[v,v]) >>= _) _ _ _;refine Z0<|G9 hS' rfl ?_;rw[nm];have zK:∀{i:Nat} {v:Value},its.toArray[i]?=some v->its[i]?=some v:=λh=>by rw[Q6]at h;exact h
 refine Z5 ⟨M4 N8 _,maxT_go (n:=its.toArray.size) W nS (λb hb=>by rw[Y3.mp hb];exact none_ _<|bD _) (none_ _<|P3 _) (λi j x y s' Q E k h1 h2 q=>ask3 i j x y s' Q E k (zK h1) (zK h2) q) (its.toArray.size-1) 0 _ v c2 (by omega) kp2 (W.frame _ _ _ st' λb hb o z=>?_) pv hc2 λv2 h2 tk2 p2 kp3=>?_⟩
 ·have nb:b≠I9+1:=λq=>nS<|q▸hb;show (h'.update (I9+1) (X6 λc=>#[v,v])).get? b=some o;rw[V5 _ _ _ _ nb];exact z
 ·refine fin3 v2 h2 tk2 (by rw[X1]at p2;exact zK p2) λb o z=>?_;have lt:b<I9:=eI▸X0 z;exact kp3 b o (λq=>absurd (Y3.mp q)<|dH lt) (dH<|T7 lt)<|kp2 b o z
end
section
variable [Kn:Kon]
theorem ud{σ:St}(I:Inv X ZY σ H s)(ru:RelV x u)(ru':RelV y u')(ra:(cF a9 a9).rel H x a)(rb:(cF a9 a9).rel H y b)(k:mt s.heap h')(e:[u,u'][i]?=some z):
  ∃a' o xs n t u,z=U3 a'/\h'.get? a'=some o/\o.cls=.type "tuple"/\o.data=.seq xs n/\xs=#[O9 ([a,b].getD i (0,0)).1 t,O9 ([a,b].getD i (0,0)).2 u]:=by
 have pa:gf s.heap [u,u'] [a,b]:=aP.pairs I (.cons ru<|.cons ru' .nil)<|.cons ra<|.cons rb .nil;obtain⟨y,ey,c,o,xs,n,t,u,e1,e2,e3,e4,e5⟩:=g8 (pa.kept k) e;have e0:[a,b].getD i (0,0)=y:=by rw[List.getD_eq_getElem?_getD,ey];rfl
 rw[e0];exact⟨c,o,xs,n,t,u,e1,e2,e3,e4,e5⟩
end
section
open PySem.SeqAt
open PySem.AutoSeq1 (wpAny_loadPart')
open PySem.MeetsSeq PySem.MeetsSeq2 PySem.MeetsSeq3
theorem ue(l b:Addr)(x1 x2 y1 y2:Int)(t u t' u':Tok)(n n2:Nat)(dd dd2:Zr)(sl sl2:Za):
  Meets (R5.«tuple.__gt__» ⟨[.ref l,.ref b],[]⟩)
   (λa R s=>s.heap.get? l=some {cls:=.type "tuple",dict:=dd,data:=.seq #[.int x1 t,.int x2 u] n,slots:=sl}/\s.heap.get? b=some {cls:=.type "tuple",dict:=dd2,data:=.seq #[.int y1 t',.int y2 u'] n2,slots:=sl2} /\
    R (.ok<|.ret<|.bool<|Pu.cx (y1,y2) (x1,x2)) s) :=
 .of_wp λprog w A R s h=>by
  obtain⟨hp,g,d,tk,os⟩:=s;obtain⟨hl,hb,h⟩:=h;have f2:=AutoSeq1.sub_tuple_tuple
  wp_walk using wpAny_loadPart' hl,wpAny_loadPart' hb,wpAny_forIn_list _ (λrest b s'=>b.1=none/\s'=⟨hp,g,d,tk,os⟩ /\
   (rest=[(.int x1 t,.int y1 t'),(.int x2 u,.int y2 u')]\/(rest=[(.int x2 u,.int y2 u')]/\x1=y1)\/(rest=[]/\x1=y1/\x2=y2))) _
  case turn =>
   rintro⟨x,y⟩ rest b s' ⟨hb',rfl,hz⟩;rcases hz with hz|⟨hz,e1⟩|⟨hz,_⟩
   ·injection hz with hxy hrest;injection hxy with hx hy;subst hx hy;refine aa (HT.nq A.in1 ⟨hp,g,d,tk,os⟩ x1 t y1 t') λe he hiff=>?_;refine Z0<|he prog w _ _ ?_;cases e with
    |true =>
     wp_walk
     exact⟨rfl,rfl,.inr<|.inl ⟨hrest,hiff.mp rfl⟩⟩
    |false =>
     have ne:x1≠y1:=λq=>absurd (hiff.mpr q) Z7;have ev:Pu.cx (y1,y2) (x1,x2)=decide (x1 > y1):=by unfold Pu.cx;rw[V7];simp;omega
     rw[ev]at h;have hri:=λ(E:ZN) (Q:ZN) (h:Q (.bool<|decide<|x1 > y1) ⟨hp,g,d,tk,os⟩)=>(PyProof.Rows.gt_int h:wpAny (model prog w) A.in1 (R9 .Gt (.int x1 t)<|.int y1 t') Q E ⟨hp,g,d,tk,os⟩);have hri2:∀(E:ZN) (Q:ZN) (_:Q (.bool<|decide<|x1 > y1) ⟨hp,g,d,tk,os⟩),wpAny (model prog w) A.in1 (richCompare .Gt (.int x1 t)<|.int y1 t') Q E ⟨hp,g,d,tk,os⟩:=hri
     wp_walk using hri2
     exact⟨_,rfl,by simpa using h⟩
   ·injection hz with hxy hrest;injection hxy with hx hy;subst hx hy;refine aa (HT.nq A.in1 ⟨hp,g,d,tk,os⟩ x2 u y2 u') λe he hiff=>?_;refine Z0<|he prog w _ _ ?_;cases e with
    |true =>
     wp_walk
     exact⟨rfl,rfl,.inr<|.inr ⟨hrest,e1,hiff.mp rfl⟩⟩
    |false =>
     have ne:x2≠y2:=λq=>absurd (hiff.mpr q) Z7;have ev:Pu.cx (y1,y2) (x1,x2)=decide (x2 > y2):=by unfold Pu.cx;rw[V7];simp;omega
     rw[ev]at h;have hri2:∀(E:ZN) (Q:ZN) (_:Q (.bool<|decide<|x2 > y2) ⟨hp,g,d,tk,os⟩),wpAny (model prog w) A.in1 (richCompare .Gt (.int x2 u)<|.int y2 u') Q E ⟨hp,g,d,tk,os⟩:=λE Q h=>(PyProof.Rows.gt_int h:wpAny (model prog w) A.in1 (R9 .Gt (.int x2 u)<|.int y2 u') Q E ⟨hp,g,d,tk,os⟩)
     wp_walk using hri2
     exact⟨_,rfl,by simpa using h⟩
   ·cases hz
  case fin =>
   rintro⟨b1,b2⟩ s' ⟨hb',rfl,hz⟩;simp only at hb';subst hb';rcases hz with hz|⟨hz,_⟩|⟨_,e1,e2⟩
   ·cases hz
   ·cases hz
   have ev:Pu.cx (y1,y2) (x1,x2)=false:=by unfold Pu.cx;rw[decide_eq_false_iff_not];simp;omega
   rw[ev]at h
   wp_walk
   exact⟨_,rfl,by simpa [R5.Tuple.tupleCompareSizes] using h⟩
  case h =>
   exact⟨rfl,rfl,.inl rfl⟩
end
section
theorem uf{E:ZN}{Q:ZN}(hl:IsTup s.heap l #[.int x.1 t,.int x.2 u])(hb:IsTup s.heap b #[.int y.1 t',.int y.2 u'])(hu:A.units<cLine)(h:Q (.bool<|Pu.cx y x) s):wpAny (model prog w) A (richCompare .Gt (.ref l)<|.ref b) Q E s:=by
 obtain⟨⟨cls,dd,data,sl⟩,ho,hc,n,hd⟩:=id hl;obtain⟨⟨cls2,dd2,data2,sl2⟩,ho2,hc2,n2,hd2⟩:=id hb;simp only at hc hd hc2 hd2;subst hc hd hc2 hd2;exact richCompare_meets_room (op:=.Gt) ⟨_,ho,rfl⟩ ⟨_,ho2,rfl⟩ PySem.F.slot_tuple_gt PySem.F.entry_tuple_gt (PySem.F.args_tuple_gt_2 _ _) (ue l b x.1 x.2 y.1 y.2 t u t' u' n n2 dd dd2 sl sl2)
  ⟨ho,ho2,show Value.bool (Pu.cx y x)≠Value.notImplemented/\Q (.bool<|Pu.cx y x) s from ⟨(λx=>nomatch x),h⟩⟩ hu
variable [Kn:Kon]
def wa:List V->Hp->VK->Prop:=λxs H Q=>∃x y a b,xs=[x,y]/\(cF a9 a9).rel H x a/\(cF a9 a9).rel H y b/\Q (if Pu.cx a b=true then y else x) H
theorem oq(hc:X.calm=true)(hu:X.A.in1.units<cLine):eN X (.builtin "max") wa:=by
 intro ZY s σ H xs us Q I r h;refine m7 h λx y a b ZT ra rb q=>?_;subst ZT;refine ay (vals2 r) λu u' ZV ru ru'=>?_;subst ZV;refine BB (bt:=λi j=>Pu.cx ([a,b].getD j (0,0))<|[a,b].getD i (0,0)) (I.ok.hd hc) (λi j x y s' Q' E' k e1 e2 hq=>?_) λv h' tk ev k=>?_
 ·refine oq65 (ud I ru ru' ra rb k e1) λa o xs n t u eq6_ g1 g2 g3 eq10_=>?_;subst eq6_;subst eq10_;refine oq65 (ud I ru ru' ra rb k e2) λa' o' xs' n' t' u' eq6_ f1 f2 f3 eq10_=>?_;subst eq6_;subst eq10_;exact uf ⟨o,g1,g2,n,g3⟩ ⟨o',f1,f2,n',f3⟩ hu hq
 ·cases e:Pu.cx a b with
  |true =>
   have e1:argBest (λi j=>Pu.cx ([a,b].getD j (0,0))<|[a,b].getD i (0,0)) 1=1:=by simp[argBest,e]
   rw[e1]at ev;cases ev;exact⟨y,H,I.kept k,ru',by rw[if_pos e]at q;exact q⟩
  |false =>
   have e1:argBest (λi j=>Pu.cx ([a,b].getD j (0,0))<|[a,b].getD i (0,0)) 1=0:=by simp[argBest,e]
   rw[e1]at ev;cases ev;exact⟨x,H,I.kept k,ru,by rw[if_neg (by rw[e];exact Z7)]at q;exact q⟩
theorem ug(h:EV Γ ta oa (cF a9 a9))(h':EV Γ tb ob (cF a9 a9)):EV Γ (uP wa<|be ta<|be tb d9) (oa.bind λa=>ob.bind λb=>some (if Pu.cx a b=true then b else a)) (cF a9 a9):=by
 intro C F σ H Q c S e k;refine aa (ae e) λa e1 e=>?_;refine aa (ae e) λb e2 e=>?_;cases e;refine EV.two (q:=λx y H2=>wa [x,y] H2 Q) h h' S e1 e2 λx y F' H' x1 r1 r2=>⟨x,y,a,b,rfl,Rp.mono _ x1.sub r1,Rp.mono _ x1.sub r2,?_⟩;refine k _ F' H' x1 ?_;split
 ·exact r2
 ·exact r1
end
section
variable [Kn:Kon]
section
variable {Γ:List Slot}{ta:TE}{α:Type}{r:Rp α}{kvs:List ((Int×Int)×α)}
set_option tactic.hygienic true in
theorem wb{o:Option (List<|(Int×Int)×α)}(h:EV Γ ta o (rDT r)):ia Γ (uP xR<|be ta d9) (o.bind λkvs=>Pu.o8<|kvs.map (·.1)) (cF a9 a9):=by
 intro C F σ H Q xs S e k;refine aa (ae e) λkvs e1 e=>?_;unfold Pu.o8 at e;split at e
 case isFalse=>cases e
 rename_i ZQ;cases e;refine h C F σ H _ kvs S e1 λv F' H' x1 hv=>?_;refine ay hv λp ws e2 h5 h6=>?_;subst e2;refine⟨p,ws,kvs.map (·.1),rfl,x1.sub _ _ h5,zo h6,ZQ.1,ZQ.2,λq vs hq pr=>k q vs (tpl F' H') H' (x1.trans<|Bz x1.sub) hq<|Paired.imp2 (λv x z=>?_) pr⟩;refine dh z λp a b e1 e2 e3 e4=>?_;exact⟨p,a,b,e1,tpl_of x1.sub e2,e3,e4⟩
end
end
end L2
namespace Pu
section
variable {α β γ δ ε:Type}{oa:Option α}{ob:Option β}{oc:Option γ}{od:Option δ}
theorem as2{F:α×β->Option ε}:(oa.bind λa=>ob.bind λb=>F (a,b))=(oa.bind λa=>ob.bind λb=>some (a,b)).bind F:=by cases oa<;>cases ob<;>rfl
theorem as3{F:α×β×γ->Option ε}:(oa.bind λa=>ob.bind λb=>oc.bind λc=>F (a,b,c))=(oa.bind λa=>(ob.bind λb=>oc.bind λc=>some (b,c)).bind λb=>some (a,b)).bind F:=by cases oa<;>cases ob<;>cases oc<;>rfl
theorem as4{F:α×β×γ×δ->Option ε}:(oa.bind λa=>ob.bind λb=>oc.bind λc=>od.bind λd=>F (a,b,c,d))=(oa.bind λa=>(ob.bind λb=>(oc.bind λc=>od.bind λd=>some (c,d)).bind λb'=>some (b,b')).bind λb=>some (a,b)).bind F:=by cases oa<;>cases ob<;>cases oc<;>cases od<;>rfl
end
noncomputable def ltN(a b:Zh):Bool:=if a.1=b.1 then cx a.2 b.2 else cx a.1 b.1
noncomputable def uQ(a b:Zh):Bool:=!ltN b a
noncomputable def oA(ps:List ((Int×Int)×Int×Int)):List ((Int×Int)×Int×Int):=ps.mergeSort uQ
noncomputable def sf(ps:List ((Int×Int)×Int×Int)):Option (List<|(Int×Int)×Int×Int):=if ps.length<1000000/\ps.Nodup then some (oA ps) else none
theorem lB(ps:List ((Int×Int)×Int×Int)):(oA ps).Perm ps:=F6 _ _
theorem wc(a:ZA):cx a a=false:=by unfold cx;rw[decide_eq_false_iff_not];lia
theorem sh{a b c:ZA}(h1:cx a b=true)(h2:cx b c=true):cx a c=true:=by unfold cx at *;rw[decide_eq_true_eq]at *;lia
theorem xS{a b:ZA}(h:cx a b=false)(ne:a≠b):cx b a=true:=by unfold cx at *;rw[decide_eq_false_iff_not]at h;rw[decide_eq_true_eq];have:¬ (a.1=b.1/\a.2=b.2):=λz=>ne<|Prod.ext z.1 z.2;lia
theorem mR(a:Zh):ltN a a=false:=(if_pos rfl).trans (wc _)
theorem jb(h1:ltN a b=true)(h2:ltN b c=true):ltN a c=true:=by
 unfold ltN at *;by_cases e:a.1=b.1
 ·rw[if_pos e]at h1;rw[e];by_cases e2:b.1=c.1
  ·rw[if_pos e2]at h2 ⊢;exact sh h1 h2
  ·rw[if_neg e2]at h2 ⊢;exact h2
 ·rw[if_neg e]at h1;by_cases e2:b.1=c.1
  ·rw[<- e2,if_neg e];exact h1
  ·rw[if_neg e2]at h2;rw[if_neg λz=>absurd ((wc _).symm.trans (z▸sh h1 h2)) Z7];exact sh h1 h2
theorem si(h:ltN a b=false)(ne:a≠b):ltN b a=true:=by
 unfold ltN at *;by_cases e:a.1=b.1
 ·rw[if_pos e]at h;rw[if_pos e.symm];exact xS h λz=>ne<|Prod.ext e z
 ·rw[if_neg e]at h;rw[if_neg (R4 e)];exact xS h e
theorem zt(a b c:Zh)(h1:uQ a b=true)(h2:uQ b c=true):uQ a c=true:=by
 unfold uQ at *;rw[Bool.not_eq_true']at *;cases q:ltN c a with
 |false=>rfl
 |true =>
  by_cases e:c=b
  ·exact(e▸q).symm.trans h1
  ·exact(jb (si h2 e) q).symm.trans h1
theorem zu(a b:Zh):(uQ a b || uQ b a)=true:=by
 unfold uQ;cases q:ltN b a with
 |false=>rfl
 |true =>
  cases q2:ltN a b with
  |false=>rfl
  |true=>exact(mR a).symm.trans (jb q2 q)
theorem lQ(ps:List ((Int×Int)×Int×Int)):(oA ps).Pairwise λa b=>uQ a b=true:=G6 zt zu ps
theorem BC(h1:uQ a b=true)(h2:uQ b a=true):a=b:=Classical.byContradiction λne=>by unfold uQ at *;rw[Bool.not_eq_true']at *;exact absurd (h1.symm.trans<|si h2 ne) Z7
end Pu
namespace L2
section
open PySem PySem.Spec PyProof.Rows
variable [Kn:Kon]
noncomputable def rGtP:R2:=λx y H Q=>∃a b,(cF a9 a9).rel H x a/\(cF a9 a9).rel H y b/\Q (.bl<|Pu.cx b a) H
def BD(h:Heap)(b:Addr)(q:ZA):Prop:=∃t u,IsTup h b #[.int q.1 t,.int q.2 u]
section
variable {X:Cx}{K:Z4}{ZY:ZJ}{σ:St}{H:Hp}{s:Shared}
theorem Inv.pr(I:Inv X ZY σ H s)(r:RelV v u)(h:(cF a9 a9).rel H v q):∃b,u=.ref b/\BD s.heap b q:=by
 refine dh h λp x y e h1 h2 h3=>?_;cases e;cases r;cases h2;cases h3;refine aE (I.tuple<|j5.of (K:=X.K) h1) λits rv ht a=>?_;cases rv with
 |cons r1 rv =>
  cases rv with
  |cons r2 rv =>cases rv;refine ao r1 λt1 e1=>ao r2 λt2 e2=>⟨p,rfl,t1,t2,?_⟩;rw[e1,e2]at ht;exact ht
theorem op_gtP(hu:X.A.units+64<cLine):jh X (R9 .Gt) rGtP:=by intro ZY s σ H x y v u Q I rx ry h;refine ay h λa b h1 h2 q=>aa (I.pr rx h1) λp e1 z1=>aa (I.pr ry h2) λp' e2 z2=>ii z1 λt1 u1 w1=>ii z2 λt2 u2 w2=>?_;rw[e1,e2];exact uf w1 w2 (dI (T4 _ _) hu) ⟨.bl _,H,I,rfl,q⟩
theorem ev_gtP(h:EV Γ ta o (cF a9 a9))(h':EV Γ tb o' (cF a9 a9)):EV Γ (gT rGtP ta tb) (o.bind λa=>o'.bind λb=>some<|Pu.cx b a) bF :=
 iI (r:=cF a9 a9) (s:=cF a9 a9) (λF H x y a b c Q sb zq zp e k=>by cases e;exact⟨a,b,Rp.mono _ sb zq,Rp.mono _ sb zp,k _ rfl⟩) h h'
theorem IsTup.kp(x:IsTup h a its)(k:∀b o,h.get? b=some o->h'.get? b=some o):IsTup h' a its:=aE x λo h1 h2 h3=>⟨o,k _ _ h1,h2,h3⟩
theorem BD.key(x:BD h b q):IsTupleKey (b9 P w) h [P8 q.1,P8 q.2] b:=ii x λt u z=>aE z λo h1 h2 z=>ao z λn h3=>⟨o,_,n,h1,h2,h3,.cons (iy P w _ _)<|.cons (iy P w _ _) .nil⟩
open PySem.W
def jH(h:Heap)(vs:ZK)(ps:List ((Int×Int)×Int×Int)):Prop:=Paired (λv p=>∃a b t u,v=U3 a/\IsTup h a #[.ref b,.int p.2.1 t,.int p.2.2 u]/\BD h b p.1) vs ps
theorem jH.kept(p:jH h vs ps)(k:∀b o,h.get? b=some o->h'.get? b=some o):jH h' vs ps :=
 Paired.imp2 (λx x z=>sK z λa b t u e1 e2 e3=>⟨a,b,t,u,e1,IsTup.kp e2 k,ii e3 λt' u' w=>⟨t',u',IsTup.kp w k⟩⟩) p
theorem jH.tups(p:jH h vs ps):∃fs,KatTups h vs fs/\fs.length=ps.length/\∀v∈fs,PySem.W.Looks M h (typeOf v) (Value.type "tuple"):=by
 induction p with
 |nil=>exact(cD ([]) trivial rfl λx h=>nomatch h)
 |cons z r ih =>refine aE ih λfs g1 g2 g3=>sK z λa b t u e1 e2 e3=>aE e2 λo h1 h2 w=>ao w λn h3=>?_;rw[e1];refine(cD (_ ::fs) (KatTups.cons h1 h2 h3 rfl g1) (congrArg Nat.succ g2) λv hv=>(Y4.mp hv).elim (λy=>?_) (g3 v));refine ii e3 λt' u' w=>aE w λo' k1 k2 x=>?_;rw[y,<- k2];exact(PySem.W.Looks.ld k1).andThen .now
theorem BE(hu:A.units<cLine)(p:jH s.heap vs ps){C:Zd}(hi:i<vs.length)(hj:j<vs.length)(h:C (Pu.ltN (ps.getD i ((0,0),0,0))<|ps.getD j ((0,0),0,0)) s):
  kas_ask prog w A (tuples' false) vs i j C s:=by
 have at':∀k,k<vs.length->∃a b t u,vs.getD k O1=U3 a/\IsTup s.heap a #[.ref b,.int (ps.getD k ((0,0),0,0)).2.1 t,.int (ps.getD k ((0,0),0,0)).2.2 u]/\BD s.heap b (ps.getD k ((0,0),0,0)).1:=λk hk=>by
  refine aa (g8 p<|Y5 hk) λy e z=>?_;have h1:vs.getD k O1=vs[k]:=by simp[hk]
  have h2:ps.getD k ((0,0),0,0)=y:=by simp[e]
  rw[h1,h2];exact z
 refine sK (at' i hi) λa b t u e1 e2 e3=>sK (at' j hj) λa' b' t' u' f1 f2 f3=>aE e2 λo g1 c z=>ao z λn g2=>aE f2 λo' g1' c z=>ao z λn' g2'=>?_;unfold kas_ask;rw[e1,f1];generalize ps.getD i ((0,0),0,0)=x at *;generalize ps.getD j ((0,0),0,0)=y at *;refine kat_lt g1 g2 g1' g2' ?_;refine kat_cons<|wpAny_eqBool_tuple hu (e3.key (P:=prog) (w:=w)) f3.key ?_;by_cases h1:x.1=y.1
 ·rw[h1,show decide ([(P8 y.1.1:Key),P8 y.1.2]=[P8 y.1.1,P8 y.1.2])=true from decide_eq_true rfl];refine kat_yes<|kat_cons<|wpAny_eqBool_int ?_;by_cases h2:x.2.1=y.2.1
  ·rw[show (x.2.1==y.2.1)=true by simpa using h2];refine kat_yes<|kat_cons<|wpAny_eqBool_int ?_;by_cases h3:x.2.2=y.2.2
   ·rw[show (x.2.2==y.2.2)=true by simpa using h3];refine kat_yes<|kat_nil ?_;rw[show x=y from Prod.ext h1<|Prod.ext h2 h3,Pu.mR]at h;exact h
   ·rw[show (x.2.2==y.2.2)=false by simpa using h3];refine kat_no<|kat_one _ _<|lt_int ?_;have e:Pu.ltN x y=decide (x.2.2<y.2.2):=by unfold Pu.ltN Pu.cx;rw[if_pos h1,h2];simp
    rw[e]at h;exact h
  ·rw[show (x.2.1==y.2.1)=false by simpa using h2];refine kat_no<|kat_one _ _<|lt_int ?_;have e:Pu.ltN x y=decide (x.2.1<y.2.1):=by unfold Pu.ltN Pu.cx;rw[if_pos h1];simp[h2]
   rw[e]at h;exact h
 ·rw[show decide ([(P8 x.1.1:Key),P8 x.1.2]=[P8 y.1.1,P8 y.1.2])=false from decide_eq_false λz=>h1<|Prod.ext (P8.inj (List.cons.inj z).1)<|P8.inj (List.cons.inj (List.cons.inj z).2).1];refine kat_no<|kat_one _ _ ?_;refine ii e3 λt1 u1 w1=>ii f3 λt2 u2 w2=>?_;refine HT.jw (ns:=[x.1.1,x.1.2]) (ms:=[y.1.1,y.1.2]) w1 w2 (.cons _ _<|.cons _ _ .nil) (.cons _ _<|.cons _ _ .nil) hu ?_;have e:Pu.ltN x y=Pu.cx x.1 y.1:=if_neg h1;rw[nN (a:=x.1) (b:=y.1),<- e];exact h
theorem BF{ps:List ((Int×Int)×Int×Int)}(hn:ps.Nodup):Srt.Lin (λi j=>Pu.ltN (ps.getD i ((0,0),0,0))<|ps.getD j ((0,0),0,0)) ps.length:=by
 refine⟨λi x=>Pu.mR _,λi j k x x x h1 h2=>Pu.jb h1 h2,λi j hi hj hne h=>Pu.si h λe=>?_⟩;have e1:ps.getD i ((0,0),0,0)=ps[i]:=by simp[hi]
 have e2:ps.getD j ((0,0),0,0)=ps[j]:=by simp[hj]
 rw[e1,e2]at e;exact hne<|(List.getElem_inj hn).mp e
def xT(K:Z4):List V->Hp->VK->Prop:=λxs H Q=>∃p vs ps,xs=[.ref p]/\fm K H p vs/\Paired ((ml (cF a9 a9) a9 a9).rel H) vs ps/\ps.length<1000000/\ps.Nodup/\∀q (ix:ZM),H q=none->(∀i∈ix,i<vs.length)->ix.map (λi=>ps.getD i ((0,0),0,0))=Pu.oA ps->Q (.ref q) (aH H q<|.lst (ix.map λi=>vs.getD i .non))
theorem aP.nest(I:Inv X ZY σ H s):∀{vs:List V} {its:ZK} {ps:List ((Int×Int)×Int×Int)},aP vs its->Paired ((ml (cF a9 a9) a9 a9).rel H) vs ps->jH s.heap its ps:=λ{vs its ps} p0 p1=>by
 induction p0 generalizing ps with
 |nil=>cases p1;exact .nil
 |cons r t ih =>
  cases p1 with
  |cons z q =>
   refine .cons ?_<|ih q;refine iq z λp x y w e1 h1 h2 h3 h4=>?_;cases e1;cases r;cases h3;cases h4;refine aE (I.tuple<|j5.of (K:=X.K) h1) λits rv ht a=>?_;cases rv with
   |cons r1 rv =>
    cases rv with
    |cons r2 rv =>
     cases rv with
     |cons r3 rv =>cases rv;refine aa (I.pr r1 h2) λb e0 z=>ao r2 λt1 e1=>ao r3 λt2 e2=>⟨p,b,t1,t2,rfl,?_,z⟩;rw[e0,e1,e2]at ht;exact ht
theorem up_srtN(a:Srt.Arr ps.length p)(u:Srt.Up (λi j=>Pu.ltN (ps.getD i ((0,0),0,0))<|ps.getD j ((0,0),0,0)) p ps.length):p.toList.map (λi=>ps.getD i ((0,0),0,0))=Pu.oA ps:=by
 have e0:ps=(X9 ps.length).map λi=>ps.getD i ((0,0),0,0):=by
  apply List.ext_getElem
  ·simp
  ·intro i h1 h2;simp[h1]
 refine Pu.gd (le:=λa b=>Pu.uQ a b=true) (λa b=>Pu.BC) ?_ ?_<|Pu.lQ ps
 ·refine List.Perm.trans ?_ (Pu.lB ps).symm;have:=a.pm.map λi=>ps.getD i ((0,0),0,0);rw[<- e0]at this;exact this
 ·rw[N9];intro i j hi hj hij;have hsz:p.toList.length=ps.length:=by rw[W8];exact a.sz
  rw[Y0]at hi hj;have h:=u i j hij (by exact bZ hj<|bG hsz);have g:∀k (hk:k<p.toList.length),Srt.at' p k=p.toList[k]:=λk hk=>by unfold Srt.at';simp at hk;simp[hk]
  rw[g i hi,g j hj]at h;rw[List.getElem_map,List.getElem_map];unfold Pu.uQ;rw[Bool.not_eq_true'];cases z:Pu.ltN _ _ with
  |false=>rfl
  |true=>exact absurd ((Pu.mR _).symm.trans (Pu.jb h z)) Z7
theorem uh(h:X.K=K)(hu:X.A.units+64<cLine):eN X (.builtin "sorted") (xT K):=by
 subst h;intro ZY s σ H xs us Q I r hh;refine jP hh λp vs ps ZU hS hP ZQ hnd q=>?_;subst ZU;refine aa (vals1 r) λu ZW ru=>?_;subst ZW;cases ru;refine aE (I.list hS) λits rv ht hz=>?_;have hl:=rv.length;have hl2:=hP.length;have pa:=aP.nest I rv hP;have el:its.length=ps.length:=hl.symm.trans hl2;have hu2:X.A.in1.in1.units<cLine:=by show X.A.units+1+1<_;lia
 refine u6 (κ:=tuples' false) (c:=λi j=>Pu.ltN (ps.getD i ((0,0),0,0))<|ps.getD j ((0,0),0,0)) ht.isList (by rw[el];exact ZQ) (by rw[el];exact BF hnd) (λh2 h' k Q' hq=>?_) (λh' k i j C hi hj hC=>BE (s:={s with heap:=h'}) hu2 (pa.kept k) hi hj hC) λp1 a1 u1=>?_
 ·refine aE ((pa.kept k).tups (M:=model X.prog X.w)) λfs g1 g2 g3=>?_;exact kat_kind (s:={s with heap:=h'}) (T:=.type "tuple") g1 (by lia) g3 rfl hq
 ·rw[el]at a1 u1;have eu:=up_srtN a1 u1;refine ao (sortedAll_at s.heap its<|dM its p1) λep hat=>?_;have hlt:∀i∈p1.toList,i<ps.length:=λi hi=>by have:=a1.pm.subset hi;simpa using this
  refine⟨.ref _,_,I.laid (t':=s.toks) (o:=.lst (p1.toList.map λi=>vs.getD i .non)) (λb ob q=>sortedAll_old q) (P3 _) ⟨?_,p1.toList.map λi=>its.getD i O1,ep,?_,hat⟩,rfl,q _ _ (I.hok.fresh<|P3 _) (λi hi=>hl2▸hlt i hi) eu⟩
  ·rw[Y0,W8,a1.sz,V4];exact cT<|eJ ZQ (by decide)
  ·exact cu λi hi=>km rv<|hl2▸hlt i hi
end
section
variable {Γ:List Slot}{ta:TE}{K:Z4}
set_option tactic.hygienic true in
theorem we(h:EV Γ ta o (rL<|ml (cF a9 a9) a9 a9)):ia Γ (uP (xT K)<|be ta d9) (o.bind λps=>Pu.sf ps) (ml (cF a9 a9) a9 a9):=by
 intro C F σ H Q xs S e k;refine aa (ae e) λps e1 e=>?_;unfold Pu.sf at e;split at e
 ·rename_i ZQ;cases e;refine h C F σ H _ ps S e1 λv F' H' x1 zq=>ay zq λp vs e2 h1 h2=>?_;refine⟨p,vs,ps,by rw[e2],.inl<|x1.sub.rd h1,Paired.imp2 (λx x z=>Rp.mono _ x1.sub z) h2,ZQ.1,ZQ.2,λq ix hq hi hx=>?_⟩;refine k q _ F' H' x1 hq ?_;rw[<- hx];exact cu λi h=>km h2<|hi i h
 ·cases e
end
end
end L2
namespace Pf
open PySem L2
noncomputable def cN(a:Zg)(b:Int)(c:Int):Option (List Int) :=
 (Pu.l9 c a.2).bind λd=>(Pu.fmod c a.2).bind λe=>(some (if (decide<|b=8)=true then 2 else 1)).bind λf=>(Pu.t9 (Pu.mx 0<|d-1)<|Pu.mn a.1<|d+2).bind λx17=>(Pu.di (λ(s9:Zs) (x8:Int)=>(Pu.t9 (Pu.mx 0<|e-1)<|Pu.mn a.2<|e+2).bind λx16=>(Pu.di (λ(s11:Zs) (x10:Int)=>if (decide (0<(Pu.ab<|x8-d)+(Pu.ab<|x10-e))&&decide ((Pu.ab<|x8-d)+(Pu.ab<|x10-e)<=f))=true then ((Pu.mul x8 a.2).bind λx12=>some<|x12+x10).bind λx15=>(Pu.app s11 x15).bind λg=>some (g) else some (s11)) x16 s9).bind λ(s11:Zs)=>some<|s11) x17<|[]).bind λ(s9:Zs)=>some<|s9
noncomputable def eE(a:ZL)(p_k:Int):Option Int :=
 if (decide<|p_k<Pu.ln a)=true then Pu.at_ a p_k else some (0)
noncomputable def sj(a:ZI):Option (List Int) :=
 (Pu.di (λ(s3:Zs) (x2:ZL)=>(Pu.cat s3 x2).bind λb=>some<|b) a<|[]).bind λ(s3:Zs)=>some<|s3
noncomputable def size_of(a:ZI):Option ((Int×Int)) :=
 (if (!a.isEmpty)=true then (Pu.at_ a 0).bind λx1=>some (Pu.ln x1) else some (0)).bind λb=>some<|(Pu.ln a,b)
noncomputable def gD(a:ZI)(b:Int):Option Int :=
 ((Pf.size_of a).bind λx1=>some<|x1.2).bind λc=>((Pu.l9 b c).bind λx4=>Pu.at_ a x4).bind λx5=>(Pu.fmod b c).bind λx6=>Pu.at_ x5 x6
noncomputable def bW(a:ZI)(b:Int):Option ((Int×Int)) :=
 (Pf.gD a b).bind λx1=>some<|(x1,b)
noncomputable def bo(a:ZI)(b:Int)(c:Int):Option (Bool) :=
 (Pf.bW a b).bind λx1=>(Pf.bW a c).bind λx2=>some<|Pu.cx x1 x2
noncomputable def gE(a:ZI)(b:Int)(c:Int)(d:Int):Option (List<|Int×Option Int) :=
 (Pf.size_of a).bind λe=>(Pu.mI (λ(s5:(List<|Int×Option Int)×(List Int))=>some<|!s5.2.isEmpty) (λ(s5:(List<|Int×Option Int)×(List Int))=>Pu.pop0 s5.2 λf g=>(Pf.cN e b f).bind λx18=>(Pu.di (λ(s10:(List<|Int×Option Int)×(List Int)) (x9:Int)=>(if (!(Pu.find s10.1 x9).isSome)=true then (Pf.bo a d x9).bind λx11=>some (!x11) else some false).bind λx17=>if x17=true then if (s10.1).length<16777216 then (λh=>(Pu.app s10.2 x9).bind λi=>some<|(h,i)) (Pu.put s10.1 x9<|some<|f) else none else some ((s10.1,s10.2))) x18 (s5.1,g)).bind λ(s10:(List<|Int×Option Int)×(List Int))=>some<|(s10.1,s10.2)) 100000 ([(c,none)],[c])).bind λ(s5:(List<|Int×Option Int)×(List Int))=>some<|s5.1
noncomputable def cz(a:ZI)(b:Int)(c:Int)(d:Int):Option (List Int) :=
 (Pf.bo a d c).bind λx2=>if x2=true then some ([]) else (Pf.gE a b c d).bind λx1=>Pu.sortI<|x1.map (·.1)
noncomputable def cW(a:ZI):Option (List Int) :=
 (Pf.size_of a).bind λb=>(Pu.mul b.1 b.2).bind λx3=>Pu.lrng x3
noncomputable def cO(a:ZI):Option (List Int) :=
 (Pf.cW a).bind λx2=>Pu.sortK (λ(c1:Int)=>Pf.bW a c1) x2
noncomputable def hW(a:ZI):Option (List<|Option Int) :=
 (Pf.cW a).bind λx1=>Pu.comp (λ(_y2:Int)=>some (none:ZC)) x1
noncomputable def bz(a:Wa)(b:Int):Option (List Int) :=
 ((Pf.size_of a.1).bind λx1=>Pf.cN x1 a.2.1 b).bind λc=>Pu.du (λ(y4:Int)=>(Pu.at_ a.2.2.1 y4).bind λx5=>some<|x5.isSome) (λ(y4:Int)=>(Pu.at_ a.2.2.1 y4).bind λx6=>x6) c
noncomputable def bX(a:List (List Int)×bP)(b:Int):Option Int :=
 (Pu.mI (λ(s2:Int)=>some<|(Pu.find a.2 s2).isSome) (λ(s2:Int)=>(((Pu.find a.2 s2).bind λx3=>some<|x3.2).bind λx5=>x5).bind λc=>some<|c) 100000 b).bind λ(s2:Int)=>some<|s2
noncomputable def bN(a:ZI)(b:ZL):Option Int :=
 Pu.AZ (λ(c1:Int)=>Pf.bW a c1) b
noncomputable def c8(a:List (List Int)×bP)(b:ZL)(c:Int):Option (Int×bP) :=
 (Pu.comp (λ(y1:Int)=>Pf.bX a y1) b).bind λd=>(Pf.bN a.1 d).bind λe=>(Pu.di (λ(s5:bP) (x4:Int)=>if (!decide (x4=e))=true then if s5.length<16777216 then some (Pu.put s5 x4 (some c,some e)) else none else some s5) d a.2).bind λs5=>some (e,s5)
noncomputable def cP(a:Wa)(b:Int):Option (List (Option Int)×bP) :=
 (Pf.bz a b).bind λc=>(if (!c.isEmpty)=true then Pf.c8 (a.1,a.2.2.2) c b else some (b,a.2.2.2)).bind λx=>(yA a.2.2.1.length b).bind λj=>some (a.2.2.1.set j<|some x.1,x.2)
noncomputable def digits(a:Int)(b:Int)(c:Int):Option (List Int) :=
 (Pu.lb b).bind λx11=>(Pu.di (λ(s3:Int×(List Int)) (x2:Int)=>(Pu.fmod s3.1 c).bind λx8=>(Pu.app s3.2 x8).bind λd=>(Pu.l9 s3.1 c).bind λe=>some<|(e,d)) x11 (a,[])).bind λ(s3:Int×(List Int))=>((Pu.mul b<|Pu.ofb<|decide<|0<s3.1).bind λx9=>some<|(some x9)).bind λx10=>some<|Pu.cut s3.2 none x10
noncomputable def aO(a:List (List Int)×bP)(b:ZC):Option (Option Int) :=
 (Pu.mI (λ(s2:(Option Int))=>some<|(Pu.tI a.2 s2).isSome) (λ(s2:(Option Int))=>(((s2).bind λx3=>Pu.find a.2 x3).bind λx4=>some<|x4.2).bind λc=>some<|c) 100000 b).bind λ(s2:(Option Int))=>some<|s2
noncomputable def bp(a:List (List Int)×bP)(b:ZL)(c:Int):Option (Int×bP) :=
 (Pu.comp (λ(y1:Int)=>(Pf.aO a<|some y1).bind λx=>x) b).bind λd=>(Pf.bN a.1 d).bind λe=>(Pu.di (λ(s5:bP) (x4:Int)=>if (!decide (x4=e))=true then if s5.length<16777216 then some (Pu.put s5 x4 (some c,some e)) else none else some s5) d a.2).bind λs5=>some (e,s5)
noncomputable def bA(a:Wa)(b:Int):Option (List (Option Int)×bP) :=
 (Pf.bz a b).bind λc=>(if (!c.isEmpty)=true then Pf.bp (a.1,a.2.2.2) c b else some (b,a.2.2.2)).bind λx=>(yA a.2.2.1.length b).bind λj=>some (a.2.2.1.set j<|some x.1,x.2)
noncomputable def aR(a:Wa)(b:Int):Option (Option Int) :=
 (Pu.at_ a.2.2.1 b).bind λx1=>Pf.aO (a.1,a.2.2.2) x1
noncomputable def ft(a:ZI)(d:Int)(e:Int)(f:Int):Option (Option Int) :=
 (Pf.hW a).bind λg=>(Pf.cO a).bind λxs=>Pu.andThen (Pu.gY (λ(s3:List (Option Int)×bP) (x2:Int)=>(Pf.bA (a,d,s3.1,s3.2) x2).bind λc=>(Pf.aR (a,d,c.1,c.2) e).bind λst=>(if st.isSome=true then (Pf.aR (a,d,c.1,c.2) f).bind λo=>some (decide<|st=o) else some false).bind λb=>if b=true then some (.rt<|some x2) else some (.nx (c.1,c.2))) xs (g,[])) (λh=>some none) λx=>x
noncomputable def jc(a:ZI)(b:Int)(c:Int)(d:Int)(e:Int):Option (List Int) :=
 (Pf.gE a b d e).bind λf=>(Pu.mI (λ(s4:Zs)=>(Pu.at_ s4<|-1).bind λx5=>some<|!decide (x5=d)) (λ(s4:Zs)=>(((Pu.at_ s4<|-1).bind λx6=>Pu.find f x6).bind λx7=>x7).bind λx10=>(Pu.app s4 x10).bind λg=>some<|g) 100000<|[c]).bind λ(s4:Zs)=>some<|s4
noncomputable def cX(a:ZI)(b:Int)(c:Int)(d:Int):Option (List Int) :=
 ((Pf.bo a c d).bind λx1=>some<|!x1).bind λx7=>if x7=true then some ([]) else (Pf.cO a).bind λe=>(((Pu.index e d).bind λx4=>some<|x4-1).bind λx5=>Pu.at_ e x5).bind λx6=>Pf.cz a b c x6
noncomputable def cn(a:ZL)(p_k:Int)(b:Int):Option Int :=
 ((Pf.eE a p_k).bind λx1=>some<|x1%100000000000000000000).bind λc=>((((Pu.mul (p_k+1)<|p_k+7).bind λx4=>some<|x4*69621).bind λx5=>some<|(c*48271)+x5).bind λx6=>some<|x6%2147483647).bind λd=>(((((Pu.mul p_k p_k).bind λx9=>some<|x9*40692).bind λx10=>some<|(c*16807)+x10).bind λx11=>some<|x11+7).bind λx12=>some<|x12%2147483629).bind λe=>Pu.fmod ((d*2147483629)+e)<|b+1
noncomputable def bY(a:ZL)(p_k:Int)(b:Int)(c:Int)(d:Int):Option Int :=
 if (decide<|b=3)=true then (some<|([0,1,0,2,0,1,0,3,0,1,0,2]:List Int)).bind λe=>(((Pu.at_ e c).bind λx3=>(Pu.at_ e d).bind λx4=>some<|x3+x4).bind λx5=>some<|5*x5).bind λx6=>(Pf.cn a p_k 3).bind λx7=>some (x6+x7) else if (decide<|b=4)=true then (Pf.cn a p_k 9).bind λx8=>some (((6*(Pu.ab<|c-5))+(5*((c+d)%3)))+x8) else (Pu.at_ ([3,11,1000000000000000000]) b).bind λx9=>Pf.cn a p_k x9
noncomputable def oB(a:ZL)(b:Int):Option (List<|List Int) :=
 (Pf.eE a 0).bind λc=>(((Pu.l9 (((Pu.ln<|Pu.cut a (some 3)<|some 63)+(1+(c%12)))-1)<|1+(c%12)).bind λx4=>some<|Pu.mn 12 x4).bind λx5=>some<|Pu.mx 1 x5).bind λd=>(if (decide<|((c/12)%8)=3)=true then some (12) else some (d)).bind λs8=>(((Pu.l9 b<|1+(c%12)).bind λx10=>some<|Pu.mx 1 x10).bind λx11=>some<|Pu.mn s8 x11).bind λe=>(Pu.lb e).bind λx26=>(Pu.di (λ(s17:(List<|List Int)) (x16:Int)=>((Pu.mul x16<|1+(c%12)).bind λx18=>some<|3+x18).bind λf=>((Pu.lb<|1+(c%12)).bind λx22=>Pu.comp (λ(y21:Int)=>Pf.bY a (f+y21) ((c/96)%5) x16 y21) x22).bind λx25=>(Pu.app s17 x25).bind λg=>some<|g) x26<|[]).bind λ(s17:(List<|List Int))=>some<|s17
noncomputable def kF(a:ZI):Option (List<|(Int×Int)) :=
 (Pu.di (λ(s3:Zs) (x2:ZL)=>(Pu.cat s3 x2).bind λb=>some<|b) a<|[]).bind λ(s3:Zs)=>Pu.comp (λ(y6:Zg)=>some<|(y6.2,y6.1))<|Pu.qX s3
noncomputable def mS(a:ZI)(b:Int)(c:Int):Option (Option Int) :=
 ((Pf.size_of a).bind λx1=>Pf.cN x1 b c).bind λd=>((Pu.cat d<|[c]).bind λx4=>Pf.bN a x4).bind λe=>some (if (decide<|e=c)=true then none else some (e))
noncomputable def gF(a:ZI)(b:Int):Option (List<|Option Int) :=
 (Pf.cW a).bind λx2=>Pu.comp (λ(y1:Int)=>Pf.mS a b y1) x2
noncomputable def b7(a:ZI):Option (List Int) :=
 (Pf.cW a).bind λx2=>Pu.se (λ(c1:Int)=>Pf.bW a c1) x2
noncomputable def dg(a:ZI)(b:Int):Option (List Int) :=
 (Pf.gF a b).bind λc=>(Pf.b7 a).bind λx16=>(Pu.di (λ(s5:(List<|Int×Int)) (x4:Int)=>(((Pu.at_ c x4).bind λx6=>some<|x6.isNone).bind λx9=>if x9=true then some (x4) else ((Pu.at_ c x4).bind λx7=>x7).bind λx8=>Pu.find s5 x8).bind λx13=>if (s5).length<16777216 then (λd=>some<|d) (Pu.put s5 x4<|x13) else none) x16<|[]).bind λ(s5:(List<|Int×Int))=>(Pf.cW a).bind λx15=>Pu.comp (λ(y14:Int)=>Pu.find s5 y14) x15
noncomputable def pairs_at(a:ZI)(b:Int)(c:ZL)(d:Int):Option (List<|(Int×Int)) :=
 (Pu.at_ c d).bind λe=>((Pf.size_of a).bind λx3=>Pf.cN x3 b d).bind λf=>(Pu.du (λ(y6:Int)=>Pf.bo a y6 d) (λ(y6:Int)=>Pu.at_ c y6) f).bind λg=>Pu.du (λ(y9:Int)=>some<|!decide (y9=e)) (λ(y9:Int)=>some<|(Pu.mn e y9,Pu.mx e y9)) g
noncomputable def gG(a:ZI)(b:Int):Option (List<|(Int×Int×Int)) :=
 (Pf.dg a b).bind λc=>(Pf.b7 a).bind λx15=>(Pu.di (λ(s5:(List<|(Int×Int)×Int)) (x4:Int)=>(Pf.pairs_at a b c x4).bind λx10=>(Pu.di (λ(s7:(List<|(Int×Int)×Int)) (x6:Zg)=>if (s7).length<16777216 then (λd=>some<|d) (Pu.om s7 x6 x4) else none) x10 s5).bind λ(s7:(List<|(Int×Int)×Int))=>some<|s7) x15<|[]).bind λ(s5:(List<|(Int×Int)×Int))=>(Pu.o8<|s5.map (·.1)).bind λx14=>Pu.comp (λ(y11:Zg)=>((Pu.bT s5 y11).bind λx12=>some<|(x12)).bind λx13=>some<|(y11.1,y11.2,x13)) x14
noncomputable def iO(a:ZL)(b:Int):Option (List<|List Int) :=
 ((Pf.eE a 0).bind λx1=>Pf.digits x1 (b+2)<|1000000000000000000+1).bind λc=>if (!decide (c=[]))=true then (((Pu.at_ c 0).bind λx4=>some<|x4%12).bind λx5=>some<|1+x5).bind λd=>((((Pu.at_ c 1).bind λx8=>some<|x8%12).bind λx9=>some<|1+x9).bind λx10=>(Pu.l9 b d).bind λx11=>some<|Pu.mn x10 x11).bind λe=>(Pu.lb e).bind λx21=>Pu.comp (λ(y14:Int)=>(((Pu.mul y14 d).bind λx15=>some<|2+x15).bind λx16=>some<|(some x16)).bind λx19=>(((Pu.mul (y14+1) d).bind λx17=>some<|2+x17).bind λx18=>some<|(some x18)).bind λx20=>some<|Pu.cut c x19 x20) x21 else (Pf.eE a 0).bind λf=>(((Pu.l9 (((Pu.ln<|Pu.cut a (some 3)<|some 63)+(1+(f%12)))-1)<|1+(f%12)).bind λx25=>some<|Pu.mn 12 x25).bind λx26=>some<|Pu.mx 1 x26).bind λg=>(if (decide<|((f/12)%8)=3)=true then some (12) else some (g)).bind λs29=>(((Pu.l9 b<|1+(f%12)).bind λx31=>some<|Pu.mx 1 x31).bind λx32=>some<|Pu.mn s29 x32).bind λh=>(Pu.lb h).bind λx47=>(Pu.di (λ(s38:(List<|List Int)) (x37:Int)=>((Pu.mul x37<|1+(f%12)).bind λx39=>some<|3+x39).bind λi=>((Pu.lb<|1+(f%12)).bind λx43=>Pu.comp (λ(y42:Int)=>Pf.bY a (i+y42) ((f/96)%5) x37 y42) x43).bind λx46=>(Pu.app s38 x46).bind λj=>some<|j) x47<|[]).bind λ(s38:(List<|List Int))=>some<|s38
noncomputable def cp(a:ZI)(d:Int)(e:Int)(f:Int):Option (Option Int) :=
 (Pf.hW a).bind λg=>(Pf.b7 a).bind λxs=>Pu.andThen (Pu.gY (λ(s3:List (Option Int)×bP) (x2:Int)=>(Pf.bA (a,d,s3.1,s3.2) x2).bind λc=>(Pf.aR (a,d,c.1,c.2) e).bind λst=>(if st.isSome=true then (Pf.aR (a,d,c.1,c.2) f).bind λo=>some (decide<|st=o) else some false).bind λb=>if b=true then some (.rt<|some x2) else some (.nx (c.1,c.2))) xs (g,[])) (λh=>some none) λx=>x
noncomputable def bQ(a:ZI)(b:Int)(c:Int)(d:Int):Option (List Int) :=
 ((Pf.bo a c d).bind λx1=>some<|!x1).bind λx7=>if x7=true then some ([]) else (Pf.b7 a).bind λe=>(((Pu.index e d).bind λx4=>some<|x4-1).bind λx5=>Pu.at_ e x5).bind λx6=>Pf.cz a b c x6
noncomputable def fR(a:ZI)(b:Int)(c:Int)(d:Int):Option ((Int×(List Int)×(List Int))) :=
 ((Pf.cp a b c d).bind λx2=>x2).bind λe=>(Pf.jc a b c d e).bind λf=>(Pf.bQ a b c e).bind λx6=>some<|(e,f,x6)
noncomputable def dS(a:ZI)(b:Int)(c:Int)(d:Int)(e:Int):Option (Bool) :=
 (Pf.fR a b c d).bind λf=>if ((!true) || (!decide ((3:Int)=3)))=true then some (false) else some (true&&((!false)&&(decide<|f.1=e)))
noncomputable def fJ(a:List ((Int×Int)))(b:List ((Int×Int×Int)))(c:Int)(d:Int):Option (Option<|(Int×Int)) :=
 (Pu.at_ a c).bind λe=>((Pu.comp (λ(y4:Zf)=>(Pu.at_ a y4.2.2).bind λx5=>some<|(x5,y4.1,y4.2.1)) b).bind λx6=>Pu.sf x6).bind λf=>Pu.andThen (Pu.Av (λ(s9:YW)=>some<|!decide (d∈s9.1)) (λ(s9:YW)=>(Pu.du (λ(y10:(((Int×Int))×Int×Int))=>some<|!decide ((decide<|y10.2.1∈s9.1)=(decide<|y10.2.2∈s9.1))) (λ(y10:(((Int×Int))×Int×Int))=>some<|y10) f).bind λg=>if (decide<|g=[])=true then some (.rt<|none) else (((Pu.at_ g 0).bind λx13=>some<|x13.1).bind λx14=>some (if Pu.cx s9.2 x14=true then x14 else s9.2)).bind λh=>((((Pu.at_ g 0).bind λx17=>some<|x17.2.1).bind λx19=>((Pu.at_ g 0).bind λx18=>some<|x18.2.2).bind λx20=>some<|[x19,x20]).bind λx21=>Pu.cat s9.1 x21).bind λi=>some<|.nx (i,h)) 100000 ([c],e)) (λ(s9:YW)=>some<|some<|s9.2) λx=>x
noncomputable def kG(a:ZL):Option (Bool) :=
 (Pf.iO a 48).bind λb=>(((Pf.eE a 1).bind λx3=>some<|x3%2).bind λx4=>Pu.at_ ([4,8]) x4).bind λc=>(Pf.kF b).bind λd=>((Pf.dg b c).bind λx9=>(Pu.mset x9).bind λz=>Pu.sortI z).bind λe=>(Pf.gG b c).bind λf=>((Pf.cn a 2<|(Pu.ln e)-1).bind λx14=>Pu.at_ e x14).bind λg=>((Pf.dS b c g g g).bind λx17=>some<|!x17).bind λx46=>if x46=true then some (false) else (Pu.at_ d g).bind λh=>(Pu.lb 16).bind λx45=>Pu.andThen (Pu.gY (λ(s22:YV) (x21:Int)=>(Pu.du (λ(y23:Zf)=>some ((decide<|s22.1=y23.1) || (decide<|s22.1=y23.2.1))) (λ(y23:Zf)=>some<|y23) f).bind λi=>if (decide<|i=[])=true then some (.rt<|decide<|(Pu.ln e)=1) else ((Pf.cn a (3+x21)<|(Pu.ln i)-1).bind λx26=>Pu.at_ i x26).bind λt28=>((Pu.at_ d t28.2.2).bind λx30=>some (if Pu.cx s22.2 x30=true then x30 else s22.2)).bind λj=>((Pu.at_ d g).bind λx34=>some<|some<|x34).bind λk=>(if (!decide (((t28.1+t28.2.1)-s22.1)=g))=true then (Pf.fJ d f g<|(t28.1+t28.2.1)-s22.1).bind λl=>some (l) else some (k)).bind λs36=>(if s36.isNone=true then some true else ((s36).bind λx39=>some<|Pu.cx j x39).bind λx43=>if x43=true then some true else (((s36).bind λx40=>some<|x40.2).bind λx41=>Pf.dS b c g ((t28.1+t28.2.1)-s22.1) x41).bind λx42=>some<|!x42).bind λx44=>if x44=true then some (.rt<|false) else some (.nx ((t28.1+t28.2.1)-s22.1,j))) x45 (g,h)) (λ(s22:YV)=>some<|true) λx=>x
end Pf
namespace Pu
section
variable {S R T β α:Type}
theorem oC{f:S->β->Option S}(I:Nat->S->Prop):∀{xs:List β} {s:S},I 0 s->(∀i x s,xs[i]?=some x->I i s->∃s',f s x=some s'/\I (i+1) s')->∃s',di f xs s=some s'/\I xs.length s':=by
 intro xs;induction xs generalizing I with
 |nil=>exact λh0 a=>aF _ rfl h0
 |cons x xs ih =>intro s h0 h;exact aa (h 0 x s rfl h0) λs1 e1 h1=>aa (ih (λi=>I<|i+1) (s:=s1) h1 λi y t hy ht=>h (i+1) y t hy ht) λs2 e2 h2=>(aF s2 (by rw[yL,e1];exact e2) h2)
theorem oE{k:S->Option T}{e:R->T}(h:o=some (.nx s)):andThen o k e=k s:=by subst h;rfl
theorem jd{f:S->β->Option S}{k:S->Option T}(I:Nat->S->Prop)(h0:I 0 s)(h:∀i x s,xs[i]?=some x->I i s->∃s',f s x=some s'/\I (i+1) s')(hk:∀s',I xs.length s'->k s'=o):(di f xs s).bind k=o:=by refine aa (oC I h0 h) λs' e q=>?_;rw[e];exact hk s' q
theorem xU{t:S->Option Bool}{f:S->Option S}(I:S->Prop)(μ:S->Nat)(h:∀s,I s->∃b,t s=some b/\(b=true->∃s',f s=some s'/\I s'/\μ s'<μ s)):∀{n:Nat} {s:S},I s->μ s<n->∃s',mI t f n s=some s'/\I s'/\t s'=some false:=by
 intro n;induction n with
 |zero=>exact λx hn=>absurd hn<|O6 _
 |succ n ih =>
  intro s hI hn;refine aa (h s hI) λb e1 e2=>?_;cases b with
  |false=>exact(cD s (by rw[tj,e1];rfl) hI e1)
  |true =>refine aE (e2 rfl) λs1 e3 h1 h2=>?_;refine aE (ih h1<|bZ h2<|T1 hn) λs2 e4 h3 h4=>?_;exact(cD s2 (by rw[tj,e1,cG,if_pos rfl,e3];exact e4) h3 h4)
theorem BG{t:S->Option Bool}{f:S->Option S}{k:S->Option T}(I:S->Prop)(μ:S->Nat)(h0:I s)(hn:μ s<n)(h:∀s,I s->∃b,t s=some b/\(b=true->∃s',f s=some s'/\I s'/\μ s'<μ s))(hk:∀s',I s'->t s'=some false->k s'=o):(mI t f n s).bind k=o:=by refine aE (xU I μ h h0 hn) λs' e h1 h2=>?_;rw[e];exact hk s' h1 h2
theorem whS_ex{t:S->Option Bool}{f:S->Option S}{k:S->Option T}{P:T->Prop}(I:S->Prop)(μ:S->Nat)(h0:I s)(hn:μ s<n)(h:∀s,I s->∃b,t s=some b/\(b=true->∃s',f s=some s'/\I s'/\μ s'<μ s))(hk:∀s',I s'->t s'=some false->∃o,k s'=some o/\P o):∃o,(mI t f n s).bind k=some o/\P o:=by refine aE (xU I μ h h0 hn) λs' e h1 h2=>?_;rw[e];exact hk s' h1 h2
theorem mT{f:S->β->Option S}{k:S->Option T}{P:T->Prop}(I:Nat->S->Prop)(h0:I 0 s)(h:∀i x s,xs[i]?=some x->I i s->∃s',f s x=some s'/\I (i+1) s')(hk:∀s',I xs.length s'->∃o,k s'=some o/\P o):∃o,(di f xs s).bind k=some o/\P o:=by refine aa (oC I h0 h) λs' e q=>?_;rw[e];exact hk s' q
theorem ui(h:(nats n)[i]?=some x):i<n/\x=(i:Int):=by
 unfold nats at h;rw[X2]at h;by_cases hi:i<n
 ·rw[F8 hi]at h;exact⟨hi,(Z8 h).symm⟩
 ·rw[D8 (by simp;exact U6.mp hi)]at h;cases h
theorem gH(n:Nat):(nats n).length=n:=by unfold nats;simp
theorem uj:x∈nats n↔∃i:Nat,i<n/\x=(i:Int):=by
 unfold nats;simp only[U9,P7]
 constructor
 ·intro zq;refine aa zq λi h ZV=>?_;subst ZV;exact(aF i h rfl)
 ·intro zq;refine aa zq λi h ZV=>?_;subst ZV;exact(aF i h rfl)
theorem iP{n:Nat}(h:n<=1000000):lb (n:Int)=some (nats n):=by unfold lb;rw[if_pos ⟨by lia,by lia⟩,V3]
theorem rng2_ok(h1:-1000000<=i)(h2:i<=1000000)(h3:-1000000<=j)(h4:j<=1000000):t9 i j=some ((X9 (j-i).toNat).map λ(k:Nat)=>i+(k:Int)):=by unfold t9;rw[if_pos (qF (by lia) (by lia) (by lia) (by lia))]
theorem oF(h:xs.length<=1000000):app xs a=some (xs++[a]):=by unfold app;rw[if_pos (by exact dI h (by decide))]
theorem wf(h:xs.length+ys.length<=1000000):cat xs ys=some (xs++ys):=by unfold cat;rw[if_pos (by exact cT<|dI h (by decide))]
theorem oG(h:-(2^64)<i/\i<2^64):mul i j=some (i*j):=by unfold mul;rw[if_pos (.inl h)]
theorem sk(h:-(2^64)<j/\j<2^64):mul i j=some (i*j):=by unfold mul;rw[if_pos (.inr h)]
theorem kH(h:0<j/\j<2^64):l9 i j=some (i/j):=by unfold l9;rw[if_pos h]
theorem mU(h:0<j):fmod i j=some (i%j):=by unfold fmod;rw[if_pos h]
theorem fu{f:β->Option α}{g:β->α}(hl:xs.length<=1000000)(h:∀x∈xs,f x=some (g x)):comp f xs=some (xs.map g):=by
 unfold comp;rw[if_pos (by exact cT<|dI hl (by decide))];clear hl;induction xs with
 |nil=>rfl
 |cons x xs ih =>rw[vo,h x (Y4.mpr<|.inl rfl),cG,ih λy hy=>h y<|Y4.mpr<|.inr hy];rfl
theorem gJ{t:β->Option Bool}{f:β->Option α}{p:β->Bool}{g:β->α}(hl:xs.length<=1000000)(ht:∀x∈xs,t x=some (p x))(h:∀x∈xs,p x=true->f x=some (g x)):du t f xs=some ((xs.filter p).map g):=by
 unfold du;rw[if_pos (by exact cT<|dI hl (by decide))];clear hl;induction xs with
 |nil=>rfl
 |cons x xs ih =>
  rw[ck,ht x (Y4.mpr<|.inl rfl),cG,ih (λy hy=>ht y<|Y4.mpr<|.inr hy) λy hy=>h y<|Y4.mpr<|.inr hy];cases q:p x with
  |false=>rw[if_neg Z7,List.filter_cons_of_neg (by simp[q])]
  |true =>rw[if_pos rfl,h x (Y4.mpr<|.inl rfl) q,List.filter_cons_of_pos q];rfl
theorem cZ{i:Nat}:at_ xs (i:Int)=xs[i]?:=by
 unfold at_ L2.Cb L2.yA;rw[if_pos (by exact Int.ofNat_le.mpr<|T3 _)];by_cases h:i<xs.length
 ·rw[if_pos (by exact Int.ofNat_lt.mpr h)];simp
 ·rw[if_neg (by exact Int.not_lt.mpr<|Int.ofNat_le.mpr<|U6.mp h)];simp;exact U6.mp h
theorem uk(xs:List α):(qX xs).length=xs.length:=by unfold qX;simp
theorem BH{j:Nat}:cut xs none (some (j:Int))=xs.take j:=by
 unfold cut;rw[HT.A5,HT.qJ,List.drop_zero,Nat.sub_zero];by_cases h:j<=xs.length
 ·rw[O8 h]
 ·rw[Nat.min_eq_right (by exact cT<|Nat.not_le.mp h),K2 (bD _),K2 (by exact cT<|Nat.not_le.mp h)]
theorem cut_nat{i j:Nat}:cut xs (some (i:Int)) (some (j:Int))=(xs.drop i).take (j-i):=by
 unfold cut;rw[HT.qJ,HT.qJ];by_cases h:i<=xs.length
 ·rw[O8 h];by_cases h2:j<=xs.length
  ·rw[O8 h2]
  ·rw[Nat.min_eq_right (by exact cT<|Nat.not_le.mp h2),K2 (by simp),K2 (by simp;omega)]
 ·rw[Nat.min_eq_right (a:=i) (by exact cT<|Nat.not_le.mp h),List.drop_of_length_le (bD _),List.drop_of_length_le (by exact cT<|Nat.not_le.mp h)];simp
end
end Pu
namespace Fl
noncomputable abbrev cl(l:ZM):List Int:=l.map λ(o:Nat)=>(o:Int)
theorem bR(l:ZM):(cl l).length=l.length:=by simp
theorem hZ:x∈cl l↔∃o,o∈l/\x=(o:Int):=by
 simp only[U9]
 constructor
 ·intro zq;refine aa zq λo h ZV=>?_;subst ZV;exact(aF o h rfl)
 ·intro zq;refine aa zq λo h ZV=>?_;subst ZV;exact(aF o h rfl)
theorem bB{x:Nat}:(x:Int)∈cl l↔x∈l:=by
 rw[hZ]
 constructor
 ·intro zq;refine aa zq λo h e=>?_;have:x=o:=by lia
  rw[this];exact h
 ·exact λh=>(aF x h rfl)
theorem BI(a b:Int):Pu.ab (a-b)=mj a b:=rfl
end Fl
namespace Pf
open Fl Pu
theorem ul{i j:Nat}(hi:i<=1000)(hj:j<=1000):t9 (i:Int) (j:Int)=some ((X9<|j-i).map λ(k:Nat)=>((i+k:Nat):Int)):=by rw[rng2_ok (by lia) (by exact Int.ofNat_le.mpr<|cT<|dI hi (by decide)) (by lia) (by exact Int.ofNat_le.mpr<|cT<|dI hj (by decide)),Int.toNat_sub];simp only[Int.natCast_add]
theorem mx_dn(R:Nat):Pu.mx 0 ((R:Int)-1)=((R-1:Nat):Int):=by unfold Pu.mx;split<;>omega
theorem mn_up(m R:Nat):Pu.mn (m:Int) ((R:Int)+2)=((min m (R+2):Nat):Int):=by unfold Pu.mn;split<;>lia
theorem um{a b:Nat}(h1:a<=b+1)(h2:b<=a+1):0<=mj a b/\mj a b<=1:=by unfold mj;split<;>lia
theorem BJ{p q ms reach:Int}(b1:0<=p/\p<=1)(b2:0<=q/\q<=1)(e:ms=(if reach=8 then 2 else 1)):(p+q=1\/(reach=8/\p=1/\q=1))↔(0<p+q/\p+q<=ms):=by subst e;split<;>lia
theorem xV{α:Type}{f:Nat->α}{y:α}(h:((X9 n).map f)[j]?=some y):j<n/\y=f j:=by rw[X2]at h;refine aa (P4.mp h) λk hk ZV=>?_;subst ZV;obtain⟨h1,h2⟩:=Z6.mp hk;rw[U1]at h1;rw[List.getElem_range]at h2;exact⟨h1,by rw[h2]⟩
theorem uo(h:R<m):R-1+(min m (R+2)-(R-1))=min m (R+2):=Nat.add_sub_cancel'<|Nat.le_min.mpr ⟨b8 (Nat.sub_le _ _)<|cT h,b8 (Nat.sub_le _ _)<|T4 _ _⟩
theorem xW(h:i<min m (R+2)-(R-1)):R-1+i<m/\R-1+i<=R+1/\R<=R-1+i+1 :=
 have q:=Nat.lt_min.mp (Nat.add_lt_of_lt_sub' h)
 ⟨q.1,T1 q.2,Nat.le_add_of_sub_le<|T4 _ _⟩
theorem uq(h:min m (R+2)<=v)(h2:v<m):R+1<v:=by lia
theorem eG{m c x:Nat}{reach:Int}(hc0:0<c)(hcm:c<=1000)(hmm:m<=1000)(hx:x<m*c):Pf.cN ((m:Int),(c:Int)) reach (x:Int)=some (cl<|gV m c reach x):=by
 have hxr:x/c<m:=Nat.div_lt_of_lt_mul (by rw[Nat.mul_comm];exact hx);have hxc:x%c<c:=Nat.mod_lt _ hc0;have d1:((x:Nat):Int)/((c:Nat):Int)=((x/c:Nat):Int):=(Int.natCast_ediv x c).symm;have d2:((x:Nat):Int)%((c:Nat):Int)=((x%c:Nat):Int):=(Int.natCast_emod x c).symm;have c1:(0:Int)<(c:Int):=Int.ofNat_lt.mpr hc0;have c2:((c:Nat):Int)<2^64:=Int.lt_of_le_of_lt (Int.ofNat_le.mpr hcm) (by decide);unfold Pf.cN;simp only;rw[kH ⟨c1,c2⟩,cG,mU c1,cG,d1,d2,cG];generalize hR:x/c=R at hxr;generalize hC:x%c=C at hxc;generalize hms:(if (decide<|reach=8)=true then (2:Int) else 1)=ms;have ems:ms=(if reach=8 then 2 else 1):=by rw[<- hms];simp
 have lR:R-1<=1000:=b8 (Nat.sub_le _ _)<|b8 (cT hxr) hmm;have lC:C-1<=1000:=b8 (Nat.sub_le _ _)<|b8 (cT hxc) hcm;rw[mx_dn,mn_up,mx_dn,mn_up,ul lR (b8 (Nat.min_le_left _ _) hmm),cG];have key:∀(s:ZL) (r:Nat),r<m->r<=R+1->R<=r+1->s=cl ((X9<|r*c).filter (sI c reach x)) ->
   ∃s',((t9 ((C-1:Nat):Int) ((min c (C+2):Nat):Int)).bind λx16=>(Pu.di (λ(s11:ZL) (x10:Int)=>if (decide (0<(Pu.ab<|(r:Int)-(R:Int))+(Pu.ab<|x10-(C:Int)))&&decide ((Pu.ab<|(r:Int)-(R:Int))+(Pu.ab<|x10-(C:Int))<=ms))=true then ((Pu.mul (r:Int) (c:Int)).bind λx12=>some<|x12+x10).bind λx15=>(Pu.app s11 x15).bind λfound14=>some (found14) else some (s11)) x16 s).bind λs11=>some s11)=some s'/\s'=cl ((X9<|(r+1)*c).filter (sI c reach x)):=by
  intro s r hr1 hr2 hr3 es;have hrc:r*c+c<=m*c:=by rw[<- Nat.succ_mul];exact G3 c hr1
  have hmc:m*c<=1000000:=M5 hmm hcm;rw[ul lC (b8 (Nat.min_le_left _ _) hcm),cG];refine(aF _ (jd (λj s=>s=cl ((X9<|r*c+(C-1+j)).filter (sI c reach x))) ?_ ?_ ?_) rfl)
  rotate_left 2
  ·rintro s' e2;show some s'=some _;congr 1;rw[e2,Nat.add_mul,Nat.one_mul,Y0,U1,uo hxc,j8 _ (r*c+min c (C+2)) (r*c+c) (Nat.add_le_add_left (Nat.min_le_left _ _) _) λo h1 h2=>?_];refine ao (show ∃k,o=r*c+k from ⟨o-r*c,(Nat.add_sub_cancel'<|b8 (T4 _ _) h1).symm⟩) λk ZW=>?_;subst ZW;have hk:=Nat.lt_of_add_lt_add_left h2;refine lL<|.inr ?_;rw[(jX (i:=r) hk).2,hC];exact uq (Nat.le_of_add_le_add_left h1) hk
  ·rw[es,Nat.add_zero,j8 _ (r*c) _ (T4 _ _) λo h1 h2=>?_];refine ao (show ∃k,o=r*c+k from ⟨o-r*c,(Nat.add_sub_cancel' h1).symm⟩) λk ZW=>?_;subst ZW;have hk:=Nat.lt_of_add_lt_add_left h2;refine lL<|.inl ?_;rw[(jX (i:=r)<|eJ (bZ hk<|Nat.sub_le _ _) hxc).2,hC];exact Nat.add_lt_of_lt_sub hk
  ·intro j y s hy es;refine ax (xV hy) λhj ZW=>?_;subst ZW;refine aV (xW hj) λk1 k2 k3=>?_;rw[show r*c+(C-1+(j+1))=r*c+(C-1+j)+1 from rfl,qj,adj_at k1];generalize C-1+j=k at k1 k2 k3 es;rw[BI,BI,hR,hC];have l2:s.length<=1000000:=by rw[es,bR];refine b8 (K9 _ _) ?_;rw[U1];exact b8 (Nat.add_le_add_left (cT k1) _)<|b8 hrc hmc
   have iff:=BJ (um hr2 hr3) (um k2 k3) ems;by_cases hcond:0<mj (r:Nat) (R:Nat)+mj (k:Nat) (C:Nat)/\mj (r:Nat) (R:Nat)+mj (k:Nat) (C:Nat)<=ms
   ·refine(aF (s++[((r*c+k:Nat):Int)]) ?_ ?_)
    ·rw[if_pos (by simpa using hcond),sk ⟨Int.lt_trans (by decide) c1,c2⟩,cG,cG,oF l2,cG,Int.natCast_add,Int.natCast_mul]
    ·rw[decide_eq_true (iff.mpr hcond),if_pos rfl,es];unfold cl;rw[T0];rfl
   ·refine(aF s ?_ ?_)
    ·rw[if_neg (by simpa using hcond)]
    ·rw[decide_eq_false λh=>hcond<|iff.mp h,if_neg Z7,V8];exact es
 refine jd (λi s=>s=cl ((X9<|(R-1+i)*c).filter (sI c reach x))) ?_ ?_ ?_
 rotate_left 2
 ·rintro s' e2;rw[e2];congr 2;unfold gV;rw[Y0,U1,uo hxr,j8 _ (min m (R+2)*c) (m*c) (G3 c<|Nat.min_le_left _ _) λo h1 h2=>?_];refine lK hc0<|.inr ?_;rw[hR];exact uq ((Nat.le_div_iff_mul_le hc0).mpr h1)<|(Nat.div_lt_iff_lt_mul hc0).mpr h2
 ·rw[Nat.add_zero,j8 _ 0 _ (T3 _) λo a ho=>?_]
  ·rfl
  ·refine lK hc0<|.inl ?_;rw[hR];exact Nat.add_lt_of_lt_sub<|(Nat.div_lt_iff_lt_mul hc0).mpr ho
 ·intro i y s hy es;refine ax (xV hy) λhi ZW=>?_;subst ZW;refine aV (xW hi) λk1 k2 k3=>?_;exact key s (R-1+i) k1 k2 k3 es
theorem i0(ns:ZL)(k:Nat):Pf.eE ns (k:Int)=some (cellAt ns k):=by
 unfold Pf.eE cellAt Pu.ln;by_cases h:k<ns.length
 ·rw[if_pos (by simpa using h),cZ];simp[h]
 ·rw[if_neg (by simpa using h)];simp[h]
theorem wg(ZZ:ZI)(h:ZZ.flatten.length<=1000000):Pf.sj ZZ=some ZZ.flatten:=by
 unfold Pf.sj;refine jd (λi s=>s=(ZZ.take i).flatten) rfl ?_ λs' e=>by rw[e,N6]
 intro i r s hr es;have hi:=(Z6.mp hr).1;have er:=(Z6.mp hr).2;have e1:(ZZ.take<|i+1).flatten=s++r:=by have e0:ZZ.take (i+1)=ZZ.take i++[ZZ[i]]:=(List.take_append_getElem hi).symm;rw[e0,es,er];simp
 have hle:(s++r).length<=ZZ.flatten.length:=by
  rw[<- e1];have e2:ZZ.flatten=(ZZ.take<|i+1).flatten++(ZZ.drop<|i+1).flatten:=by rw[<- List.flatten_append,W3]
  rw[e2,Y9];exact T4 _ _
 rw[Y9]at hle;exact(aF (s++r) (by rw[wf (by exact b8 hle h)];rfl) e1.symm)
end Pf
namespace Fl
noncomputable def hgt(ZZ:ZI)(c x:Nat):Int:=(ZZ.getD (x/c) []).getD (x%c) 0
theorem bn{ZZ:ZI}(h:∀r∈ZZ,r.length=c):ZZ.flatten.length=ZZ.length*c:=by
 induction ZZ with
 |nil=>simp
 |cons r rs ih =>rw[List.flatten_cons,Y9,ih λq hq=>h q<|Y4.mpr<|.inr hq,h r (Y4.mpr<|.inl rfl),V9,Nat.succ_mul];lia
theorem BK(hc:0<c)(h:∀r∈ZZ,r.length=c)(hx:x<ZZ.length*c):ZZ.flatten[x]?=some (hgt ZZ c x):=by
 induction ZZ generalizing x with
 |nil=>simp at hx
 |cons r rs ih =>
  have hr:=h r<|Y4.mpr<|.inl rfl;rw[List.flatten_cons];by_cases hlt:x<c
  ·rw[X5 (by exact bZ hlt<|bG hr.symm),Y5 (by exact bZ hlt<|bG hr.symm)];unfold hgt;rw[Nat.div_eq_of_lt hlt,Nat.mod_eq_of_lt hlt];simp[hr,hlt]
  ·rw[Y6 (by exact b8 (bG hr)<|U6.mp hlt),hr];rw[V9,Nat.succ_mul]at hx;rw[ih (λq hq=>h q<|Y4.mpr<|.inr hq) (by omega)];unfold hgt;have e1:x/c=(x-c)/c+1:=by rw[Nat.div_eq x c,if_pos ⟨hc,by exact U6.mp hlt⟩]
   have e2:x%c=(x-c)%c:=by rw[Nat.mod_eq_sub_mod (by exact U6.mp hlt)]
   rw[e1,e2];simp
end Fl
namespace Pf
open Fl Pu
section
variable {ZZ:ZI}{c:Nat}
theorem dU(hp:0<ZZ.length)(h:∀r∈ZZ,r.length=c):Pf.size_of ZZ=some ((ZZ.length:Int),(c:Int)):=by
 unfold Pf.size_of;cases ZZ with
 |nil=>simp at hp
 |cons r rs =>have hr:=h r<|Y4.mpr<|.inl rfl;rw[if_pos (by simp)];have e0:Pu.at_ (r ::rs) 0=some r:=cZ (i:=0);rw[e0,cG,cG];unfold Pu.ln;rw[hr]
theorem sr(hc:0<c)(hcm:c<=1000)(h:∀r∈ZZ,r.length=c)(hx:x<ZZ.length*c):Pf.gD ZZ (x:Int)=some (hgt ZZ c x):=by
 have hp:0<ZZ.length:=by
  rcases Nat.eq_zero_or_pos ZZ.length with z|z
  ·rw[z]at hx;simp at hx
  ·exact z
 have hq:x/c<ZZ.length:=Nat.div_lt_of_lt_mul (by rw[Nat.mul_comm];exact hx);have hm:x%c<c:=Nat.mod_lt _ hc;unfold Pf.gD;rw[dU hp h,cG,cG,kH ⟨by lia,by lia⟩,cG,mU (by lia),<- Int.natCast_ediv,cZ,Y5 hq,cG,cG,<- Int.natCast_emod,cZ];have hr:=h _<|E9 hq;rw[Y5 (by exact bZ hm<|bG hr.symm)];unfold hgt;simp[hq,hr,hm]
noncomputable def key(ZZ:ZI)(c x:Nat):Int×Int:=(hgt ZZ c x,(x:Int))
theorem dB(hc:0<c)(hcm:c<=1000)(h:∀r∈ZZ,r.length=c)(hx:x<ZZ.length*c):Pf.bW ZZ (x:Int)=some (key ZZ c x):=by unfold Pf.bW;rw[sr hc hcm h hx];rfl
theorem d8(hc:0<c)(hcm:c<=1000)(h:∀r∈ZZ,r.length=c)(hx:x<ZZ.length*c)(hy:y<ZZ.length*c):Pf.bo ZZ (x:Int) (y:Int)=some (cx (key ZZ c x)<|key ZZ c y):=by unfold Pf.bo;rw[dB hc hcm h hx,dB hc hcm h hy];rfl
end
end Pf
namespace Pu
section
variable {α:Type}
theorem find_some{d:List (Int×α)}:(find d k).isSome=decide (k∈d.map (·.1)):=by unfold find;rw[Option.isSome_map,V7,decide_eq_true_eq,List.find?_isSome];simp only[U9,decide_eq_true_eq]
theorem put_new{k:Int}{v:α}(h:k∉d.map (·.1)):put d k v=d++[(k,v)]:=by unfold put;rw[if_neg];rw[List.any_eq_true];intro zq;refine aa zq λe he hk=>?_;exact h<|U9.mpr<|aF e he (by simpa using hk)
end
end Pu
namespace Fl
theorem je(l m:ZM):cl (l++m)=cl l++cl m:=by simp
noncomputable def Par(nb:Zy)(x:Nat)(d:List (Int×Option Int)):Prop :=
 ∀(i:Nat) e,d[i]?=some e->(i=0/\e=((x:Int),none))\/∃(j:Nat) (p k:Nat),j<i/\e=((k:Int),some (p:Int))/\(d[j]?).map (·.1)=some (p:Int)/\k∈nb p
theorem Par.start{nb:Zy}:Par nb x [((x:Int),none)]:=λi e h=>by
 cases i with
 |zero=>exact .inl ⟨rfl,(Z8 h).symm⟩
 |succ i=>exact nomatch h
theorem Par.add{nb:Zy}{x k p:Nat}(h:Par nb x d)(hp:(p:Int)∈d.map (·.1))(hk:k∈nb p):Par nb x (d++[((k:Int),some (p:Int))]):=λi e he=>by
 by_cases hi:i<d.length
 ·rw[X5 hi]at he;rcases h i e he with z|zr1_
  ·exact .inl z
  ·refine dh zr1_ λj q k' hj e1 e2 e3=>?_;exact .inr ⟨j,q,k',hj,e1,(by rw[X5 (by exact eJ hj hi)];exact e2),e3⟩
 ·rw[Y6 (by exact U6.mp hi)]at he;have hi2:i-d.length=0:=by have:=(Z6.mp he).1;simp at this;exact T5 (bG this)<|T3 _
  rw[hi2]at he;cases he;refine ao (List.mem_iff_getElem?.mp hp) λj hj=>?_;have hj':j<d.length:=by have:=(Z6.mp hj).1;simpa using this
  refine .inr ⟨j,p,k,(by exact bZ hj'<|U6.mp hi),rfl,?_,hk⟩;rw[X5 hj',<- X2];exact hj
end Fl
namespace Gr
open Fl Pu
theorem cr{α β:Type}{o:Option α}{a:α}{f:α->Option β}{r:Option β}(h:o=some a)(k:f a=r):o.bind f=r:=by subst h;exact k
theorem BL{α β:Type}(o:Option (α×β)):(o.bind λs=>some (s.1,s.2))=o:=by cases o<;>rfl
def Tk(ws:ZM)(u:Nat)(ws':ZM):Prop:=u∈ws/\(∀w∈ws,w=u\/w∈ws')/\(∀w∈ws',w∈ws)/\ws.length=ws'.length+1
theorem Tk.first:Tk (u ::ws') u ws':=⟨V1,λa h=>Y4.mp h,λa h=>W4 _ h,rfl⟩
section
variable {β:Type}{nb:Zy}{ok:Zo}{n x u j:Nat}{P:List (Int×β)->Prop}{v:β}
def Net(n j:Nat)(P:List (Int×β)->Prop)(d:List (Int×β))(kk ws:ZM):Prop:=d.map (·.1)=cl kk/\(∀k∈kk,k<n)/\P d/\kk.length=ws.length+j
noncomputable def Look(nb:Zy)(ok:Zo)(u:Nat)(v:β)(g:List (Int×β)×List Int->Int->Option (List (Int×β)×List Int)):Prop :=
 ∀(o:Nat) (d:List (Int×β)) (w:ZL),o∈nb u->((o:Int)∈d.map (·.1)\/ok o=false->g (d,w) (o:Int)=some (d,w))/\((o:Int)∉d.map (·.1)->ok o=true->d.length<=10000->w.length<=10000->g (d,w) (o:Int)=some (d++[((o:Int),v)],w++[(o:Int)]))
theorem Net.snoc(h:Net n j P d kk ws)(ho:o<n)(hp:P (d++[((o:Int),v)])):Net n j P (d++[((o:Int),v)]) (kk++[o]) (ws++[o]) :=
 ⟨by rw[T0,h.1,je];rfl,λk hk=>(W0.mp hk).elim (h.2.1 k) λz=>dI (bG<|Y3.mp z) ho,hp,by rw[Y9,Y9,h.2.2.2];exact Nat.add_right_comm _ _ _⟩
theorem look_of(hX:X=some b):
  (o∈d.map (·.1)\/b=false->((if (!(find d o).isSome)=true then X else some false).bind λq=>if q=true then if d.length<16777216 then (app w o).bind λl=>some (put d o v,l) else none else some (d,w))=some (d,w)) /\
  (o∉d.map (·.1)->b=true->d.length<=10000->w.length<=10000->((if (!(find d o).isSome)=true then X else some false).bind λq=>if q=true then if d.length<16777216 then (app w o).bind λl=>some (put d o v,l) else none else some (d,w))=some (d++[(o,v)],w++[o])):=by
 subst hX;rw[find_some];refine⟨λh=>cr (a:=false) ?_ rfl,λh1 h2 h3 h4=>?_⟩
 ·rcases h with h|h
  ·rw[decide_eq_true h];rfl
  ·subst h;exact ite_self _
 ·rw[decide_eq_false h1,h2,put_new h1,oF (b8 h4 (by decide))];exact if_pos<|dI h3 (by decide)
theorem BN{g:List (Int×β)×List Int->Int->Option (List (Int×β)×List Int)}(hn:n<=10000)(hnb:∀o∈nb u,o<n)(hP:∀d o,P d->(u:Int)∈d.map (·.1)->o∈nb u->P (d++[((o:Int),v)]))(hg:Look nb ok u v g)(ho:o∈nb u)(sa:SeaAt nb ok x u done kk ws)(nt:Net n j P d kk ws):
  ∃d' kk' ws',g (d,cl ws) (o:Int)=some (d',cl ws')/\SeaAt nb ok x u (done++[o]) kk' ws'/\Net n j P d' kk' ws':=by
 have hl:kk.length<=10000:=b8 (jY n sa.nd nt.2.1) hn;have hd:d.length=kk.length:=(Y0 (·.1)).symm.trans ((congrArg List.length nt.1).trans (bR kk));by_cases hin:o∈kk
 ·exact pe d kk ws ((hg o d (cl ws) ho).1 (.inl<|nt.1▸bB.mpr hin)) (sa.skip λa=>hin) nt
 ·cases hok:ok o with
  |false=>exact pe d kk ws ((hg o d (cl ws) ho).1 (.inr hok)) (sa.skip λz=>absurd (hok.symm.trans z) Z7) nt
  |true =>
   refine pe _ _ _ (((hg o d (cl ws) ho).2 (λz=>hin<|bB.mp<|nt.1▸z) hok (b8 (bG hd) hl) ?_).trans (congrArg (λw=>some (d++[((o:Int),v)],w)) (je ws [o]).symm)) (sa.add ho hok hin λw=>?_)<|nt.snoc (hnb o ho)<|hP d o nt.2.2.1 (nt.1▸bB.mpr sa.u_in) ho
   ·rw[bR];exact b8 (T4 _ _)<|b8 (bG nt.2.2.2.symm) hl
   ·rw[W0,Y3]
theorem BO{g:List (Int×β)×List Int->Int->Option (List (Int×β)×List Int)}(hn:n<=10000)(hnb:∀o∈nb u,o<n)(hP:∀d o,P d->(u:Int)∈d.map (·.1)->o∈nb u->P (d++[((o:Int),v)]))(hg:Look nb ok u v g):
  ∀(os done:ZM) (d:List (Int×β)) (kk ws:ZM),(∀o∈os,o∈nb u)->SeaAt nb ok x u done kk ws->Net n j P d kk ws->∃d' kk' ws',di g (cl os) (d,cl ws)=some (d',cl ws')/\SeaAt nb ok x u (done++os) kk' ws'/\Net n j P d' kk' ws':=by
 intro os;induction os with
 |nil=>exact λdone d kk ws a sa nt=>pe d kk ws rfl ((V8 done).symm▸sa) nt
 |cons o os ih =>
  exact λdone d kk ws ho sa nt=>cH (BN hn hnb hP hg (ho o V1) sa nt) λd1 k1 w1 e1 s1 n1=>cH (ih (done++[o]) d1 k1 w1 (λp hp=>ho p<|W4 _ hp) s1 n1) λd2 k2 w2 e2 s2 n2 =>
   pe d2 k2 w2 (cr e1 e2) ((X3 done [o] os)▸s2) n2
theorem BP{V:Nat->β}{t:List (Int×β)×List Int->Option Bool}{f:List (Int×β)×List Int->Option (List (Int×β)×List Int)}(hn:n<=10000)(hnb:∀u,u<n->∀o∈nb u,o<n)(hP:∀(u:Nat) d (o:Nat),P d->(u:Int)∈d.map (·.1)->o∈nb u->P (d++[((o:Int),V u)]))(ht:∀d w,t (d,w)=some (!decide (w=[])))(hf:∀d w ws,(∀k∈w ::ws,k<n)->∃u ws' g,Tk (w ::ws) u ws'/\f (d,cl (w ::ws))=di g (cl<|nb u) (d,cl ws')/\Look nb ok u (V u) g):
  ∀(N j:Nat) (d:List (Int×β)) (kk ws:ZM),n<N+j->Sea nb ok x kk ws->Net n j P d kk ws->∃d' kk',mI t f N (d,cl ws)=some (d',[])/\Sea nb ok x kk' []/\d'.map (·.1)=cl kk'/\(∀k∈kk',k<n)/\P d':=by
 intro N;induction N with
 |zero=>exact λj d kk ws hN sa nt=>absurd (b8 (Nat.le_add_left j _)<|b8 (bG nt.2.2.2.symm)<|jY n sa.nd nt.2.1)<|Nat.not_le.mpr<|bZ hN<|bG<|Nat.zero_add j
 |succ N ih =>
  intro j d kk ws hN sa nt;cases ws with|nil=>exact yi d kk (cr (ht d []) rfl) sa nt.1 nt.2.1 nt.2.2.1|cons w ws=>?_;exact cH (hf d w ws λk hk=>nt.2.1 k<|sa.sub k hk) λu ws' g tk ef lk=>cH (BO hn (hnb u<|nt.2.1 u<|sa.sub u tk.1) (hP u) lk (nb u) [] d kk ws' (λa h=>h) (sa.take tk.1 tk.2.1 tk.2.2.1) ⟨nt.1,nt.2.1,nt.2.2.1,nt.2.2.2.trans<|(congrArg (·+j) tk.2.2.2).trans ((Nat.add_assoc _ _ _).trans (congrArg (ws'.length+·)<|Nat.add_comm 1 j))⟩) λd1 k1 w1 e1 s1 n1 =>
   fk (ih (j+1) d1 k1 w1 (bZ hN<|bG<|(Nat.add_assoc _ _ _).trans (congrArg (N+·)<|Nat.add_comm 1 j)) s1.fin n1) λd2 k2 e2 s2 m2 l2 p2=>yi d2 k2 (cr (ht d _)<|cr (ef.trans e1) e2) s2 m2 l2 p2
theorem zv{V:Nat->β}{t:List (Int×β)×List Int->Option Bool}{f:List (Int×β)×List Int->Option (List (Int×β)×List Int)}(hn:n<=10000)(hx:x<n)(hnb:∀u,u<n->∀o∈nb u,o<n)(h0:P [((x:Int),v)])(hP:∀(u:Nat) d (o:Nat),P d->(u:Int)∈d.map (·.1)->o∈nb u->P (d++[((o:Int),V u)]))(ht:∀d w,t (d,w)=some (!decide (w=[])))(hf:∀d w ws,(∀k∈w ::ws,k<n)->∃u ws' g,Tk (w ::ws) u ws'/\f (d,cl (w ::ws))=di g (cl<|nb u) (d,cl ws')/\Look nb ok u (V u) g):
  ∃d' kk',mI t f 100000 ([((x:Int),v)],[(x:Int)])=some (d',[])/\Sea nb ok x kk' []/\d'.map (·.1)=cl kk'/\(∀k∈kk',k<n)/\P d' :=
 BP hn hnb hP ht hf 100000 0 [((x:Int),v)] [x] [x] (dI hn (by decide)) Sea.start ⟨rfl,λk hk=>dI (bG<|Y3.mp hk) hx,h0,rfl⟩
end
end Gr
namespace Pf
open Fl Pu Gr
section
variable {ZZ:ZI}{c:Nat}{reach:Int}{x last:Nat}
noncomputable abbrev upTo(ZZ:ZI)(c last:Nat)(y:Nat):Bool:=!cx (key ZZ c last) (key ZZ c y)
theorem kI(hc:0<c)(hcm:c<=100)(hm:ZZ.length<=100)(h:∀r∈ZZ,r.length=c)(hx:x<ZZ.length*c)(hl:last<ZZ.length*c):
  ∃d ks,Pf.gE ZZ reach (x:Int) (last:Int)=some d/\d.map (·.1)=cl ks/\ks.Nodup/\(∀y,y∈ks↔Rch (λa b=>b∈gV ZZ.length c reach a) (λy=>upTo ZZ c last y=true) x y)/\Par (gV ZZ.length c reach) x d:=by
 have hp:0<ZZ.length:=Nat.pos_of_ne_zero λz=>O6 x (by rw[z,Nat.zero_mul]at hx;exact hx);have hmc:ZZ.length*c<=10000:=M5 hm hcm;have hc2:c<=1000:=b8 hcm (by decide);refine fk (zv (n:=ZZ.length*c) (nb:=gV ZZ.length c reach) (ok:=upTo ZZ c last) (V:=λu=>some (u:Int)) (P:=Par (gV ZZ.length c reach) x) (t:=λs=>some<|!s.2.isEmpty) hmc hx (λu i o ho=>(fq.mp ho).1) Par.start (λu d o h1 h2 h3=>h1.add h2 h3) (λd w=>by cases w<;>rfl) λd u ws hu=>pe u ws _ Tk.first (cr (eG hc hc2 (b8 hm (by decide))<|hu u V1)<|BL _) λo d w ho=>look_of (v:=some (u:Int)) (X:=(Pf.bo ZZ last o).bind λq=>some !q) (b:=upTo ZZ c last o)<|cr (d8 hc hc2 h hl (fq.mp ho).1) rfl) λd kk e sea m l p=>yi d kk (cr (dU hp h)<|cr e rfl) m sea.nd (λy=>sea.all) p
end
end Pf
namespace Fl
open Pu
noncomputable def hk(hs:ZL)(x:Nat):Int×Int:=(hs.getD x 0,(x:Int))
theorem fz(hc:0<c)(h:∀r∈ZZ,r.length=c)(hx:x<ZZ.length*c):hk ZZ.flatten x=Pf.key ZZ c x:=by unfold hk Pf.key;have:=BK hc h hx;rw[List.getD_eq_getElem?_getD,this];rfl
theorem BQ(h1:cx a b=true):cx b a=false:=by unfold cx at *;simp only[decide_eq_true_eq]at *;rw[decide_eq_false_iff_not];omega
theorem lt2_ir(a:ZA):cx a a=false:=by unfold cx;rw[decide_eq_false_iff_not];lia
structure Ord(hs:ZL)(os:ZM):Prop where
 pm:os.Perm (X9 hs.length)
 up:os.Pairwise λa b=>cx (hk hs a) (hk hs b)=true
section
variable {hs:ZL}{os:ZM}
theorem Ord.nd(o:Ord hs os):os.Nodup:=(o.pm.nodup_iff).mpr List.nodup_range
theorem Ord.mem(o:Ord hs os):x∈os↔x<hs.length:=by rw[o.pm.mem_iff,P7]
theorem Ord.len(o:Ord hs os):os.length=hs.length:=by rw[o.pm.length_eq,U1]
noncomputable abbrev rk(os:ZM)(x:Nat):Nat:=os.idxOf x
theorem Ord.rk_lt(o:Ord hs os)(hx:x<hs.length):rk os x<hs.length:=by rw[<- o.len];exact List.idxOf_lt_length_iff.mpr<|o.mem.mpr hx
theorem Ord.at_rk(o:Ord hs os)(hx:x<hs.length):os[rk os x]?=some x:=by have h:=List.idxOf_lt_length_iff.mpr<|o.mem.mpr hx;rw[Y5 h,List.getElem_idxOf h]
theorem Ord.rk_at(o:Ord hs os)(h:os[i]?=some x):rk os x=i:=by have hi:=(Z6.mp h).1;have e:=(Z6.mp h).2;rw[<- e];exact o.nd.idxOf_getElem i hi
theorem Ord.lt_iff(o:Ord hs os)(hx:x<hs.length)(hy:y<hs.length):rk os x<rk os y↔cx (hk hs x) (hk hs y)=true:=by
 have go:∀{x y:Nat},x<hs.length->y<hs.length->rk os x<rk os y->cx (hk hs x) (hk hs y)=true:=λ{x y} hx hy h=>by have h1:=o.at_rk hx;have h2:=o.at_rk hy;have e1:=(Z6.mp h1);have e2:=(Z6.mp h2);obtain⟨l1,e1⟩:=e1;obtain⟨l2,e2⟩:=e2;have:=N9.mp o.up _ _ l1 l2 h;rw[e1,e2]at this;exact this
 refine⟨go hx hy,λh=>?_⟩;rcases Nat.lt_trichotomy (rk os x) (rk os y) with z|z|z
 ·exact z
 ·have e1:=o.at_rk hx;rw[z,o.at_rk hy]at e1;cases e1;rw[lt2_ir]at h;cases h
 ·have:=BQ<|go hy hx z;rw[this]at h;cases h
theorem Ord.le_iff(o:Ord hs os)(hx:x<hs.length)(hy:y<hs.length):rk os x<=rk os y↔cx (hk hs y) (hk hs x)=false:=by rw[<- U6,o.lt_iff hy hx,Bool.not_eq_true]
end
end Fl
namespace Pf
open Fl Pu
theorem hk_nd(hs:ZL):((X9 hs.length).map (hk hs)).Nodup:=by
 rw[List.Nodup,List.pairwise_map];refine List.nodup_range.imp λ{a b} hab e=>hab ?_;have:(hk hs a).2=(hk hs b).2:=by rw[e]
 unfold hk at this;simp only at this;lia
theorem ixN_nat(h:i<n):L2.yA n (i:Int)=some i:=by unfold L2.yA;rw[if_pos (by exact Int.ofNat_le.mpr<|T3 _),if_pos (by exact Int.ofNat_lt.mpr h),V3]
end Pf
namespace Fl
theorem ur{l:ZM}(h:l.Nodup):(cl l).Nodup:=by unfold cl;rw[List.Nodup,List.pairwise_map];exact h.imp λhab e=>hab (by lia)
open Pu
theorem nats_cl(n:Nat):nats n=cl (X9 n):=rfl
theorem BR(hs:ZL):((X9 hs.length).map (hk hs)).Nodup:=Pf.hk_nd hs
theorem ut(hs:ZL):∃os,yV (cl<|X9 hs.length) ((X9 hs.length).map (hk hs))=cl os/\Ord hs os:=by
 unfold yV;have ez:((X9 hs.length).map (hk hs)).zip (cl<|X9 hs.length)=(X9 hs.length).map λ(x:Nat)=>(hk hs x,(x:Int)):=by unfold cl;rw[List.zip_map']
 rw[ez];have pm:=F6 ((X9 hs.length).map λ(x:Nat)=>(hk hs x,(x:Int))) λa b=>mK a.1 b.1;have so:(((X9 hs.length).map λ(x:Nat)=>(hk hs x,(x:Int))).mergeSort λa b=>mK a.1 b.1).Pairwise λa b=>mK a.1 b.1=true:=G6 (λa b c=>lh a.1 b.1 c.1) (λa b=>li a.1 b.1) _;generalize (((X9 hs.length).map λ(x:Nat)=>(hk hs x,(x:Int))).mergeSort λa b=>mK a.1 b.1)=qs at pm so;have form:∀q∈qs,q=(hk hs q.2.toNat,(q.2.toNat:Int)):=λq hq=>by refine aa (U9.mp<|pm.mem_iff.mp hq) λi h e=>?_;rw[<- e];simp
 refine⟨qs.map λq=>q.2.toNat,?_,?_,?_⟩
 ·unfold cl;rw[P6];refine F7 λq hq=>?_;have:=form q hq;rw[this];simp
 ·have:=pm.map λq=>q.2.toNat;rw[P6]at this;refine this.trans ?_;have e:((X9 hs.length).map ((fun q:(Int×Int)×Int=>q.2.toNat) ∘ λ(x:Nat)=>(hk hs x,(x:Int))))=X9 hs.length:=by
   conv=>rhs;rw[<- List.map_id (X9 hs.length)]
   refine F7 λi h=>?_;simp
  rw[e]
 ·rw[List.pairwise_map];have nd:qs.Nodup:=by rw[pm.nodup_iff,List.Nodup,List.pairwise_map];refine List.nodup_range.imp λ{a b} hab e=>hab ?_;have:=(Prod.mk.inj e).2;lia
  refine(List.Pairwise.imp_of_mem ?_<|so.and nd);intro a b ha hb ⟨h1,h2⟩;have fa:=form a ha;have fb:=form b hb;have ne:a.2.toNat≠b.2.toNat:=λz=>h2 (by rw[fa,fb,z]);rw[fa,fb]at h1;simp only at h1;unfold mK at h1;unfold cx;rw[decide_eq_true_eq]at *;unfold hk at *;simp only at *;lia
end Fl
namespace Pf
open Fl Pu
section
variable {ZZ:ZI}{c:Nat}
theorem dC(hp:0<ZZ.length)(hcm:c<=1000)(hm:ZZ.length<=1000)(h:∀r∈ZZ,r.length=c):Pf.cW ZZ=some (cl<|X9<|ZZ.length*c):=by
 unfold Pf.cW;have hb:ZZ.length*c<=1000000:=by have:=M5 hm hcm;lia
 rw[dU hp h,cG,oG ⟨by simp;lia,by simp;exact Int.ofNat_lt.mpr<|dI hm (by decide)⟩,cG];have e:(ZZ.length:Int)*(c:Int)=((ZZ.length*c:Nat):Int):=by simp
 simp only;rw[e];unfold Pu.lrng;rw[if_pos (pc (by lia) (by lia) (by lia)),V3,nats_cl]
theorem qw{g:Zv}{f:Nat->Int×Int}:∀{l:ZM},(∀x∈l,g (x:Int)=some (f x))->Pu.keysOf g (cl l)=some (l.map f):=by
 intro l;induction l with
 |nil=>exact λa=>rfl
 |cons x l ih =>intro h;show Pu.keysOf g ((x:Int) ::cl l)=_;rw[Pu.keysOf,h x (Y4.mpr<|.inl rfl),cG,ih λy hy=>h y<|Y4.mpr<|.inr hy];rfl
theorem uu(hp:0<ZZ.length)(hc:0<c)(hcm:c<=1000)(hm:ZZ.length<=1000)(h:∀r∈ZZ,r.length=c)(ZQ:ZZ.length*c<64):∃os,Pf.cO ZZ=some (cl os)/\Ord ZZ.flatten os:=by
 have ZR:ZZ.flatten.length=ZZ.length*c:=bn h;refine aa (ut ZZ.flatten) λos e o=>?_;refine(aF os ?_ o);unfold Pf.cO;rw[dC hp hcm hm h,cG];unfold Pu.sortK;rw[qw (f:=hk ZZ.flatten) λx hx=>by have hx:=P7.mp hx;rw[dB hc hcm h hx,fz hc h hx],cG]
 rw[ZR]at e;have nd:=BR ZZ.flatten;rw[ZR]at nd;rw[if_pos ⟨by rw[bR,U1];exact ZQ,nd⟩,e]
end
end Pf
namespace Pu
section
variable {α:Type}
set_option tactic.hygienic true in
theorem uv{k j:Int}{v:α}:find (put d k v) j=if j=k then some v else find d j:=by
 unfold put;split
 ·rename_i h;unfold find;induction d with
  |nil=>simp at h
  |cons e d ih =>
   rw[W7,K4,K4];by_cases hk:e.1=k
   ·rw[if_pos hk];by_cases hj:j=k
    ·subst hj;simp[hk]
    ·rw[if_neg hj];have:¬ e.1=j:=λz=>hj<|z.symm.trans hk;simp only[this,decide_false];by_cases hr:(d.any λkv=>decide<|kv.1=k)=true
     ·have:=ih hr;rw[if_neg hj]at this;exact this
     ·have e2:d.map (λkv=>if kv.1=k then (kv.1,v) else kv)=d:=by
       conv=>rhs;rw[<- List.map_id d]
       refine F7 λkv hkv=>?_;rw[if_neg]
       ·rfl
       ·intro z;exact hr<|List.any_eq_true.mpr<|aF kv hkv (by simp[z])
      rw[e2]
   ·rw[if_neg hk];have hr:(d.any λkv=>decide<|kv.1=k)=true:=by rw[J4]at h;simpa [hk] using h
    have:=ih hr;by_cases hj:e.1=j
    ·subst hj;simp[hk]
    ·simp only[hj,decide_false];exact this
 ·rename_i h;unfold find;rw[List.find?_append];by_cases hj:j=k
  ·subst hj;have:(d.find? λkv=>decide<|kv.1=j)=none:=by rw[List.find?_eq_none];intro kv hkv z;exact h<|List.any_eq_true.mpr<|aF kv hkv z
   rw[this];simp
  ·rw[if_neg hj];have:¬ k=j:=λz=>hj z.symm;simp[this]
theorem xX{k:Int}{v:α}:(put d k v).length<=d.length+1:=by
 unfold put;split
 ·rw[Y0];exact cT<|W5 _
 ·simp
end
end Pu
namespace Fl
open Pu Gr
def Nb(m c:Nat)(reach:Int)(a b:Nat):Prop:=a<m*c/\b<m*c/\sI c reach a b=true
theorem Nb.sy(a b:Nat)(h:Nb m c reach a b):Nb m c reach b a:=⟨h.2.1,h.1,by rw[Ak];exact h.2.2⟩
theorem jI(ha:a<m*c):Nb m c reach a b↔b∈gV m c reach a:=by rw[fq];exact⟨λh=>⟨h.2.1,h.2.2⟩,λh=>⟨ha,h.1,h.2⟩⟩
theorem Ord.inj(o:Ord hs os)(x y:Nat)(hx:x<hs.length)(hy:y<hs.length)(e:rk os x=rk os y):x=y:=by have h1:=o.at_rk hx;rw[e,o.at_rk hy]at h1;exact(Z8 h1).symm
def jf(n:Nat)(homes:Zj)(home:Ze):Prop:=homes.length=n/\∀x,x<n->homes[x]?=some ((home x).map λ(s:Nat)=>(s:Int))
def oH(ended:L2.bP)(par:Zl):Prop:=∀s:Nat,find ended (s:Int)=(par s).map λp=>(some (p.1:Int),some (p.2:Int))
end Fl
namespace Pf
open Fl Pu Gr
section
variable {ZZ:ZI}{c:Nat}{reach:Int}{os:ZM}{home:Ze}{par:Zl}{homes:Zj}{ended:L2.bP}{k n:Nat}{A:ZE}
theorem qx{ρ:ZG}(inj:∀x y,x<n->y<n->ρ x=ρ y->x=y)(u:UF A n ρ k home par)(hk:k<=1000)(he:oH ended par)(hs:home s=some s)(h:Liv par s r):Pf.bX (ZZ,ended) (s:Int)=some (r:Int):=by
 unfold Pf.bX;refine BG (λz=>∃t:Nat,z=(t:Int)/\home t=some t/\Liv par t r) (λz=>ρ z.toNat) (cD s rfl hs h) ?_ ?_ ?_
 ·rw[V3];have:=(u.dom s (by rw[hs];exact nofun)).2;exact eJ this<|dI hk (by decide)
 ·intro z zq;refine aE zq λt ZW ht hl=>?_;subst ZW;refine(aF _ rfl λhb=>?_);simp only;rw[he t]at hb ⊢;cases q:par t with
  |none=>rw[q]at hb;cases hb
  |some p =>
   obtain⟨m,e⟩:=p;refine(cD (e:Int) rfl (cD e rfl ((u.pr t m e q).2.1) ?_) ?_)
   ·cases hl with
    |root z=>rw[q]at z;cases z
    |up z w=>rw[q]at z;cases z;exact w
   ·rw[V3,V3];exact u.rk_pr inj q
 ·rintro z ⟨t,rfl,ht,hl⟩ hb;simp only at hb;rw[he t]at hb;cases hl with
  |root=>rfl
  |up q _=>rw[q]at hb;cases hb
theorem mw(hp:0<ZZ.length)(hc:0<c)(hcm:c<=1000)(hm:ZZ.length<=1000)(h:∀r∈ZZ,r.length=c)(hh:jf (ZZ.length*c) homes home)(hx:x<ZZ.length*c):
  Pf.bz (ZZ,reach,homes,ended) (x:Int)=some (cl (((gV ZZ.length c reach x).filter λo=>(home o).isSome).map λo=>(home o).getD 0)):=by
 unfold Pf.bz;have hb:ZZ.length*c<=1000*1000:=M5 hm hcm;simp only;rw[dU hp h,cG,eG hc hcm hm hx,cG];have mem:∀y∈cl (gV ZZ.length c reach x),∃o:Nat,y=(o:Int)/\o<ZZ.length*c:=λy hy=>by refine aa (hZ.mp hy) λo ho ZV=>?_;subst ZV;exact(aF o rfl<|(fq.mp ho).1)
 rw[gJ (p:=λy=>(home y.toNat).isSome) (g:=λy=>(((home y.toNat).getD 0:Nat):Int)) (by rw[bR];have:=mH ZZ.length c reach x;lia)]
 ·congr 1;unfold cl;rw[List.filter_map,P6,P6];rfl
 ·intro y hy;refine aa (mem y hy) λo ZW ho=>?_;subst ZW;rw[cZ,hh.2 o ho,cG,V3];cases home o<;>rfl
 ·intro y hy hq;refine aa (mem y hy) λo ZW ho=>?_;subst ZW;rw[V3]at hq ⊢;rw[cZ,hh.2 o ho,cG];cases q:home o with
  |none=>rw[q]at hq;cases hq
  |some s=>rfl
theorem BS(o:Ord hs os){g:Zv}(hg:∀x,x<hs.length->g (x:Int)=some (hk hs x)):∀{l:ZM} {b:Nat},(∀x∈l,x<hs.length)->b<hs.length->∃e:Nat,Pu.nP g (cl l) (b:Int) (hk hs b)=some (e:Int)/\(e=b\/e∈l)/\rk os e<=rk os b/\∀x∈l,rk os e<=rk os x:=by
 intro l;induction l with
 |nil=>exact λ{b} _ _=>(jQ b rfl (.inl rfl) (bD _) λa h=>nomatch h)
 |cons x l ih =>
  intro b hl hb;have hx:=hl x<|Y4.mpr<|.inl rfl;show ∃e:Nat,Pu.nP g ((x:Int) ::cl l) (b:Int) (hk hs b)=_/\_;rw[Pu.nP,hg x hx,cG];cases q:cx (hk hs x) (hk hs b) with
  |true =>
   rw[if_pos rfl];exact ju (ih (b:=x) (λy hy=>hl y<|Y4.mpr<|.inr hy) hx) λe h1 h2 h3 h4=>(jQ e h1 (.inr<|Y4.mpr h2) (cT<|dI h3<|(o.lt_iff hx hb).mpr q)
    (λy hy=>(Y4.mp hy).elim (λz=>z▸h3) (h4 y)))
  |false =>
   rw[if_neg Z7];exact ju (ih (b:=b) (λy hy=>hl y<|Y4.mpr<|.inr hy) hb) λe h1 h2 h3 h4=>(jQ e h1 (h2.imp id λz=>Y4.mpr<|.inr z) h3
    (λy hy=>(Y4.mp hy).elim (λz=>z▸b8 h3 ((o.le_iff hb hx).mpr q)) (h4 y)))
theorem iQ(hc:0<c)(hcm:c<=1000)(h:∀r∈ZZ,r.length=c)(o:Ord ZZ.flatten os)(hl:∀x∈l,x<ZZ.length*c)(ne:l≠[]):∃e:Nat,Pf.bN ZZ (cl l)=some (e:Int)/\e∈l/\∀x∈l,rk os e<=rk os x:=by
 have ZR:ZZ.flatten.length=ZZ.length*c:=bn h;have hg:∀x,x<ZZ.flatten.length->Pf.bW ZZ (x:Int)=some (hk ZZ.flatten x):=λx hx=>by rw[dB hc hcm h (by exact bZ hx<|bG ZR),fz hc h (by exact bZ hx<|bG ZR)]
 unfold Pf.bN;cases l with
 |nil=>exact absurd rfl ne
 |cons b l =>
  have hb:=hl b<|Y4.mpr<|.inl rfl;show ∃e:Nat,Pu.AZ (λc1=>Pf.bW ZZ c1) ((b:Int) ::cl l)=_/\_;rw[Pu.AZ,hg b (by exact bZ hb<|bG ZR.symm),cG];obtain⟨e,h1,h2,h3,h4⟩:=BS o (g:=λc1=>Pf.bW ZZ c1) hg (l:=l) (b:=b) (λy hy=>by have:=hl y<|Y4.mpr<|.inr hy;exact bZ this<|bG ZR.symm) (by exact bZ hb<|bG ZR.symm);refine(cD e h1 ?_ λx hx=>?_)
  ·rcases h2 with z|z
   ·exact Y4.mpr<|.inl z
   ·exact Y4.mpr<|.inr z
  ·rcases Y4.mp hx with z|z
   ·rw[z];exact h3
   ·exact h4 x z
theorem uw(hc:0<c)(hcm:c<=1000)(h:∀r∈ZZ,r.length=c)(o:Ord ZZ.flatten os)(u:UF A (ZZ.length*c) (rk os) k home par)(hk:k<=1000)(he:oH ended par)(hel:ended.length<=1000000)(hhs:∀s∈hs,home s=some s)(hl:hs.length<=1000)(ne:hs≠[])(x:Nat):
  ∃(met:ZM) (elder:Nat) (ended':L2.bP),Pf.c8 (ZZ,ended) (cl hs) (x:Int)=some ((elder:Int),ended')/\(∀s∈hs,∃r,r∈met/\Liv par s r)/\(∀r∈met,∃s,s∈hs/\Liv par s r)/\elder∈met/\(∀r∈met,rk os elder<=rk os r) /\
   oH ended' (λs=>if s∈met/\s≠elder then some (x,elder) else par s)/\ended'.length<=ended.length+hs.length:=by
 have ZR:ZZ.flatten.length=ZZ.length*c:=bn h;have inj:∀x y,x<ZZ.length*c->y<ZZ.length*c->rk os x=rk os y->x=y:=λx y hx hy=>o.inj x y (by exact bZ hx<|bG ZR.symm) (by exact bZ hy<|bG ZR.symm);have rt:∀s,∃r,s∈hs->Liv par s r:=λs=>by
  by_cases q:s∈hs
  ·refine aa (u.liv s s<|hhs s q) λr h1 a=>?_;exact⟨r,λa=>h1⟩
  ·exact⟨0,λz=>absurd z q⟩
 refine ao (show ∃root:Nat->Nat,∀s∈hs,Liv par s (root s) from ⟨λs=>(rt s).choose,λs hs=>(rt s).choose_spec hs⟩) λroot hroot=>?_;have e1:Pu.comp (λ(y1:Int)=>Pf.bX (ZZ,ended) y1) (cl hs)=some (cl<|hs.map root):=by
  rw[fu (g:=λy=>((root y.toNat:Nat):Int)) (by rw[bR];exact cT<|dI hl (by decide))]
  ·congr 1;unfold cl;rw[P6,P6];rfl
  ·intro y hy;refine aa (hZ.mp hy) λs hs' ZV=>?_;subst ZV;rw[V3];exact qx inj u hk he (hhs s hs')<|hroot s hs'
 have hmet:∀r∈hs.map root,r<ZZ.length*c:=λr hr=>by refine aa (U9.mp hr) λs hs' ZV=>?_;subst ZV;have:=u.root (hhs s hs')<|hroot s hs';exact(u.dom _ (by rw[this];exact nofun)).1
 refine aE (iQ hc hcm h o hmet (by simpa using ne)) λelder g1 g2 g3=>?_;have e3:∃ended',Pu.di (λ(s5:L2.bP) (x4:Int)=>if (!decide (x4=(elder:Int)))=true then if s5.length<16777216 then some (Pu.put s5 x4 (some (x:Int),some (elder:Int))) else none else some s5) (cl<|hs.map root) ended=some ended' /\
   (∀s:Nat,find ended' (s:Int)=if s∈(hs.map root).take (cl<|hs.map root).length/\s≠elder then some (some (x:Int),some (elder:Int)) else find ended (s:Int))/\ended'.length<=ended.length+(cl<|hs.map root).length:=by
  refine oC (λi (e:L2.bP)=>(∀s:Nat,find e (s:Int)=if s∈(hs.map root).take i/\s≠elder then some (some (x:Int),some (elder:Int)) else find ended (s:Int))/\e.length<=ended.length+i) ⟨λs=>by simp,by exact T4 _ _⟩ ?_;intro i y e hy zq;refine ax zq λh1 h2=>?_;have hi:i<(cl<|hs.map root).length:=(Z6.mp hy).1;rw[bR,Y0]at hi;unfold cl at hy;rw[X2]at hy;refine aa (P4.mp hy) λr hr ZV=>?_;subst ZV;have tk:(hs.map root).take (i+1)=(hs.map root).take i++[r]:=by have e:=(Z6.mp hr).2;rw[<- e,List.take_append_getElem]
  by_cases q:r=elder
  ·refine(cD e (by rw[if_neg (by simp[q])]) (λs=>?_) (by lia));rw[h1 s,tk];have:(s∈(hs.map root).take i++[r]/\s≠elder)↔(s∈(hs.map root).take i/\s≠elder):=by
    rw[W0,Y3]
    constructor
    ·rintro⟨z|z,w⟩
     ·exact⟨z,w⟩
     ·exact absurd (z.trans q) w
    ·intro zq;refine ax zq λz w=>?_;exact⟨.inl z,w⟩
   simp only[this]
  ·refine(cD _ (by rw[if_pos (by simp;(clear tk hy hr hi h2 h1 g3 g2 g1 hmet e1 hroot rt inj ZR ne hl hhs hel he hk u o h hcm hc;lia)),if_pos (by lia)]) (λs=>?_) (by have:=xX (d:=e) (k:=(r:Int)) (v:=(some (x:Int),some (elder:Int)));lia));rw[uv,tk];by_cases qs:s=r
   ·subst qs;rw[if_pos rfl,if_pos ⟨by simp,q⟩]
   ·rw[if_neg (by (clear q tk hy hr hi h2 h1 g3 g2 g1 hmet e1 hroot rt inj ZR ne hl hhs hel he hk u o h hcm hc;lia)),h1 s];have:(s∈(hs.map root).take i++[r]/\s≠elder)↔(s∈(hs.map root).take i/\s≠elder):=by
     rw[W0,Y3]
     constructor
     ·rintro⟨z|z,w⟩
      ·exact⟨z,w⟩
      ·exact absurd z qs
     ·intro zq;refine ax zq λz w=>?_;exact⟨.inl z,w⟩
    simp only[this]
 refine aE e3 λended' f1 f2 f3=>?_;refine⟨hs.map root,elder,ended',?_,(λs hs'=>(aF (root s) (U9.mpr<|aF s hs' rfl)<|hroot s hs')),(λr hr=>?_),g2,g3,(λs=>?_),?_⟩
 ·unfold Pf.c8;simp only;rw[e1,cG,g1,cG,f1,cG]
 ·refine aa (U9.mp hr) λs hs' ZV=>?_;subst ZV;exact(aF s hs'<|hroot s hs')
 ·show find ended' (s:Int)=(if s∈hs.map root/\s≠elder then some (x,elder) else par s).map _;rw[f2 s,bR,N6];by_cases q:s∈hs.map root/\s≠elder
  ·rw[if_pos q,if_pos q];rfl
  ·rw[if_neg q,if_neg q];exact he s
 ·rw[bR,Y0]at f3;exact f3
theorem ux(hp:0<ZZ.length)(hc:0<c)(hcm:c<=1000)(hm:ZZ.length<=1000)(h:∀r∈ZZ,r.length=c)(ZQ:ZZ.length*c<1000)(o:Ord ZZ.flatten os)(u:UF (Nb ZZ.length c reach) (ZZ.length*c) (rk os) k home par)(hk:k<=1000)(he:oH ended par)(hel:ended.length<=k*1000)(hh:jf (ZZ.length*c) homes home)(hx:x<ZZ.length*c)(hr:rk os x=k):∃homes' ended' home' par',Pf.cP (ZZ,reach,homes,ended) (x:Int)=some (homes',ended')/\UF (Nb ZZ.length c reach) (ZZ.length*c) (rk os) (k+1) home' par'/\oH ended' par'/\ended'.length<=(k+1)*1000/\jf (ZZ.length*c) homes' home':=by
 have ZR:ZZ.flatten.length=ZZ.length*c:=bn h;have inj:∀x y,x<ZZ.length*c->y<ZZ.length*c->rk os x=rk os y->x=y:=λx y hx hy=>o.inj x y (by exact bZ hx<|bG ZR.symm) (by exact bZ hy<|bG ZR.symm);have nbl:=mH ZZ.length c reach x;unfold Pf.cP;rw[mw hp hc hcm hm h hh hx,cG];have set_ok:∀v:Nat,jf (ZZ.length*c) (homes.set x<|some (v:Int)) (λy=>if y=x then some v else home y):=λv=>by
  refine⟨by rw[G8];exact hh.1,λy hy=>?_⟩;show _=some ((if y=x then some v else home y).map _);rw[List.getElem?_set];by_cases e:x=y
  ·subst e;rw[if_pos rfl,if_pos (by rw[hh.1];exact hx),if_pos rfl];rfl
  ·rw[if_neg e,if_neg λz=>e z.symm];exact hh.2 y hy
 have hix:L2.yA homes.length (x:Int)=some x:=ixN_nat (by rw[hh.1];exact hx);generalize eh:((gV ZZ.length c reach x).filter λo=>(home o).isSome).map (λo=>(home o).getD 0)=hs;have memhs:∀s,s∈hs↔∃o',Nb ZZ.length c reach x o'/\home o'=some s:=λs=>by
  rw[<- eh,U9]
  constructor
  ·intro zq;refine aa zq λo' h1 h2=>?_;refine ax (P0.mp h1) λh3 h4=>?_;refine ao (Option.isSome_iff_exists.mp h4) λt ht=>?_;rw[ht]at h2;exact(aF o' ((jI hx).mpr h3) (by rw[ht];exact congrArg some h2))
  ·intro zq;refine aa zq λo' h1 h2=>?_;exact(aF o' (P0.mpr ⟨(jI hx).mp h1,by rw[h2];rfl⟩) (by rw[h2];rfl))
 have hlen:hs.length<=1000:=by rw[<- eh,Y0];have:=K9 (λo=>(home o).isSome)<|gV ZZ.length c reach x;exact cT<|dI this<|dI nbl ZQ
 by_cases ne:hs=[]
 ·refine⟨_,_,(λy=>if y=x then some x else home y),par,?_,?_,he,(by lia),set_ok x⟩
  ·rw[ne,if_neg (by simp),cG];simp only;rw[hix,cG]
  ·refine u.alone Nb.sy inj hx hr (λo' h1 h2=>?_) (if_pos rfl) λy hy=>if_neg hy;refine ao (u.has o' h2) λs hs'=>?_;have:s∈hs:=(memhs s).mpr (aF o' h1 hs');rw[ne]at this;cases this
 ·refine gM (uw hc hcm h o u hk he (by lia) (hs:=hs) (λs hs'=>by refine aa ((memhs s).mp hs') λo' h1 h2=>?_;exact u.own o' s h2) hlen ne x) λmet elder ended' g1 g2 g3 g4 zy0=>aV zy0 λg5 g6 g7=> ?_
  refine⟨_,_,(λy=>if y=x then some elder else home y),(λs=>if s∈met/\s≠elder then some (x,elder) else par s),?_,?_,g6,(by lia),set_ok elder⟩
  ·rw[if_pos (by cases hs with|nil=>exact absurd rfl ne|cons=>rfl),g1,cG];simp only;rw[hix,cG]
  ·refine u.meet Nb.sy inj (met:=met) (elder:=elder) hx hr (λo' s h1 h2=>g2 s<|(memhs s).mpr (aF o' h1 h2)) (λr hr'=>?_) g4 g5 (if_pos rfl) (λy hy=>if_neg hy) (λs h1 h2=>if_pos ⟨h1,h2⟩) λs hs'=>if_neg hs';refine aa (g3 r hr') λs h1 h2=>?_;refine aa ((memhs s).mp h1) λo' h3 h4=>?_;exact(d4 o' s h3 h4 h2)
theorem wj(o:Ord hs os)(h:os[i]?=some x):x<hs.length/\rk os x=i:=⟨o.mem.mp<|U0 h,o.rk_at h⟩
end
end Pf
namespace Fl
open Pu Gr
theorem Ord.uniq{hs:ZL}{os os':ZM}(o:Ord hs os)(o':Ord hs os'):os=os' :=
 gd (le:=λa b=>cx (hk hs a) (hk hs b)=true) (λa b h1 h2=>by rw[BQ h1]at h2;cases h2) (o.pm.trans o'.pm.symm) o.up o'.up
end Fl
namespace Pf
open Fl Pu Gr
theorem digits_eq(v:Int)(many:Nat)(hm:many<=1000)(hb:0<base/\base<2^64):∃ds,Pf.digits v (many:Int) base=some ds/\(ds=[]\/ds.length=many)/\∀d∈ds,0<=d/\d<base:=by
 unfold Pf.digits;rw[iP (by exact cT<|dI hm (by decide)),bs];refine mT (λi (s:Int×List Int)=>s.2.length=i/\∀d∈s.2,0<=d/\d<base) ⟨rfl,λx h=>nomatch h⟩ ?_ ?_
 ·rintro i y ⟨z,ds⟩ hy ⟨h1,h2⟩;have hi:=(Z6.mp hy).1;rw[gH]at hi;simp only at h1 h2 ⊢;rw[mU hb.1,bs,oF (by exact cT<|dI (bG h1)<|eJ hi<|dI hm (by decide)),bs,kH hb,bs];refine(cD _ rfl (by simp[h1]) λd hd=>?_);rcases W0.mp hd with q|q
  ·exact h2 d q
  ·rw[Y3.mp q];exact⟨Int.emod_nonneg _ (by exact Int.ne_of_gt hb.1),Int.emod_lt_of_pos _ hb.1⟩
 ·rintro⟨z,ds⟩ ⟨h1,h2⟩;simp only at h1 h2 ⊢;rw[gH]at h1;rw[oG (by lia),bs,bs];by_cases q:0<z
  ·rw[decide_eq_true q];have e:(many:Int)*Pu.ofb true=((many:Nat):Int):=by unfold Pu.ofb;simp
   rw[e,BH,<- h1,N6];exact(cD ds rfl (.inr rfl) h2)
  ·rw[decide_eq_false q];have e:(many:Int)*Pu.ofb false=((0:Nat):Int):=by unfold Pu.ofb;simp
   rw[e,BH,List.take_zero];exact(cD ([]) rfl (.inl rfl) λx h=>nomatch h)
theorem xY(a:Int):∃c:Nat,1+a%12=(c:Int)/\1<=c/\c<=12:=(cD ((1+a%12).toNat) (by lia) (by lia) (by lia))
end Pf
namespace Fl
open Pu Gr
theorem uy(a:Int):mj a a=0:=by unfold mj;rw[Int.sub_self];rfl
theorem uz(h:1<=a):mj ((a-1:Nat):Int) (a:Int)=1:=by refine ao (Nat.exists_eq_add_of_le' h) λb ZW=>?_;subst ZW;rw[Nat.add_sub_cancel,Int.natCast_add];unfold mj;split<;>lia
theorem nb_down(hc:0<c)(hx:x<m*c)(h0:0<x):∃y,y<x/\Nb m c reach x y:=by
 by_cases h:x%c=0
 ·have h1:c<=x:=by
   rcases M7 x c with z|z
   ·rw[Nat.mod_eq_of_lt z]at h;lia
   ·exact z
  refine⟨x-c,by lia,hx,by exact dI (Nat.sub_le _ _) hx,?_⟩;unfold sI;rw[decide_eq_true_eq];refine .inl ?_;have e1:(x-c)/c=x/c-1:=by have:=Nat.sub_mul_div x c 1;rw[Nat.mul_one]at this;exact this
  have e2:(x-c)%c=x%c:=(Nat.mod_eq_sub_mod h1).symm;have h2:1<=x/c:=(Nat.le_div_iff_mul_le hc).mpr (by lia);rw[e1,e2,uy,uz h2];rfl
 ·have e:x=x/c*c+x%c:=by rw[Nat.mul_comm];exact(Nat.div_add_mod x c).symm
  have h1:x%c<c:=Nat.mod_lt _ hc;have h2:x-1=x/c*c+(x%c-1):=by lia
  refine⟨x-1,by lia,hx,by exact dI (Nat.sub_le _ _) hx,?_⟩;refine ax (jX (i:=x/c) (j:=x%c-1) (c:=c) (by exact dI (Nat.sub_le _ _) h1)) λe1 e2=>?_;unfold sI;rw[decide_eq_true_eq];refine .inl ?_;rw[h2,e1,e2,uy,uz (Nat.pos_of_ne_zero h)];rfl
theorem i5{ρ:ZG}(hc:0<c)(hn:n=m*c)(hρ:∀x,x<n->ρ x<n):∀x,x<n->Rch (Nb m c reach) (Lv n ρ n) x 0:=λx=>by
 induction x using Nat.strongRecOn with
 |ind x ih =>
  intro hx;by_cases h0:x=0
  ·subst h0;exact .here
  ·obtain⟨y,h1,h2⟩:=nb_down (reach:=reach) hc (show x<m*c by exact bZ hx<|bG hn) (by lia);exact Rch.trans (.on .here h2 ⟨by exact eJ h1 hx,hρ y (by exact eJ h1 hx)⟩)<|ih y h1 (by exact eJ h1 hx)
end Fl
namespace Pu
theorem qy{S R β:Type}{f:S->β->Option (Ctl S R)}{P:R->Prop}(I:Nat->S->Prop):∀{xs:List β} {s:S},I 0 s->(∀i x s,xs[i]?=some x->I i s->(∃s',f s x=some (.nx s')/\I (i+1) s')\/∃r,f s x=some (.rt r)/\P r) ->
  (∃s',gY f xs s=some (.nx s')/\I xs.length s')\/∃r,gY f xs s=some (.rt r)/\P r:=by
 intro xs;induction xs generalizing I with
 |nil=>exact λh0 a=>.inl<|aF _ rfl h0
 |cons x xs ih =>intro s h0 h;refine(h 0 x s rfl h0).elim (λzr=>aa zr λs' e h1=>?_) λzr=>aa zr λr e h1=>.inr<|aF r (by rw[ql,e];rfl) h1;rw[ql,e];exact ih (λi=>I<|i+1) (s:=s') h1 λi y t hy ht=>h (i+1) y t hy ht
theorem at_last{α:Type}(l:List α)(a:α):at_ (l++[a]) (-1)=some a:=by
 unfold at_ L2.Cb L2.yA;rw[if_neg (by lia),if_pos (by simp;lia)];have:((-1:Int)+((l++[a]).length:Int)).toNat=l.length:=by simp;lia
 simp only[this,cG];simp
theorem find_at{α:Type}:∀{d:List (Int×α)} {i:Nat} {k:Int} {v:α},(d.map (·.1)).Nodup->d[i]?=some (k,v)->find d k=some v:=by
 intro d i k v;induction d generalizing i with
 |nil=>exact λx h=>nomatch h
 |cons e d ih =>
  intro hn h;unfold find at ih ⊢;rw[K4];cases i with
  |zero=>rw[show e=(k,v) from Z8 h];simp
  |succ i =>have hn':=List.nodup_cons.mp (show (e.1 ::d.map (·.1)).Nodup from hn);have ne:¬ e.1=k:=λz=>hn'.1 (by rw[z];exact U9.mpr<|aF (k,v) (U0 (i:=i) h) rfl);simp only[ne,decide_false];exact ih hn'.2 h
end Pu
namespace Pf
open Fl Pu Gr
theorem lS(p:List (List Int)×L2.bP)(s:Int):(Pf.aO p<|some s).bind (λx=>x)=Pf.bX p s:=by
 unfold Pf.aO Pf.bX;have:∀(n:Nat) (s:Int),(Pu.mI (λ(s2:ZC)=>some<|(Pu.tI p.2 s2).isSome) (λ(s2:ZC)=>(((s2).bind λx3=>Pu.find p.2 x3).bind λx4=>some<|x4.2).bind λhere6=>some<|here6) n<|some s).bind (λx=>x) =
   Pu.mI (λ(s2:Int)=>some<|(Pu.find p.2 s2).isSome) (λ(s2:Int)=>(((Pu.find p.2 s2).bind λx3=>some<|x3.2).bind λx5=>x5).bind λhere6=>some<|here6) n s:=λn=>by
  induction n with
  |zero=>intro s;rfl
  |succ n ih =>
   intro s;rw[Pu.mI,Pu.mI,bs,bs];have e0:Pu.tI p.2 (some s)=Pu.find p.2 s:=rfl;simp only[e0,cG];cases q:Pu.find p.2 s with
   |none=>rfl
   |some e =>
    simp only[Option.isSome_some,if_true,cG];cases q2:e.2 with
    |none =>
     cases n with
     |zero=>rfl
     |succ n=>rw[Pu.mI];rfl
    |some e2=>exact ih e2
 have h:=this 100000 s;rw[i8];show Option.bind _ (λx=>x)=_;rw[h];cases Pu.mI (λ(s2:Int)=>some<|(Pu.find p.2 s2).isSome) (λ(s2:Int)=>(((Pu.find p.2 s2).bind λx3=>some<|x3.2).bind λx5=>x5).bind λhere6=>some<|here6) 100000 s<;>rfl
theorem pR(p:List (List Int)×L2.bP):Pf.aO p none=some none:=by unfold Pf.aO;rw[Pu.mI];rfl
theorem pT:Pf.bp=Pf.c8:=by funext p l m;unfold Pf.bp Pf.c8;simp only[lS]
theorem pU:Pf.bA=Pf.cP:=by funext p x;unfold Pf.bA Pf.cP;rw[pT]
section
variable {ZZ:ZI}{c:Nat}{reach:Int}{os:ZM}
theorem kJ{ρ:ZG}{A:ZE}{home:Ze}{par:Zl}(inj:∀x y,x<n->y<n->ρ x=ρ y->x=y)(u:UF A n ρ k home par)(hk:k<=1000)(he:oH ended par)(hh:jf n homes home)(hx:x<n):
  (home x=none/\Pf.aR (ZZ,reach,homes,ended) (x:Int)=some none)\/∃r,Lv n ρ k x/\Fst A n ρ k x r/\Pf.aR (ZZ,reach,homes,ended) (x:Int)=some (some (r:Int)):=by
 unfold Pf.aR;simp only;rw[cZ,hh.2 x hx,bs];cases q:home x with
 |none=>exact .inl ⟨rfl,pR _⟩
 |some s =>
  refine aa (u.liv x s q) λr h1 h2=>?_;refine .inr<|cD r (u.dom x (by rw[q];exact nofun)) h2 ?_;have e:=qx (ZZ:=ZZ) inj u hk he (u.own x s q) h1;rw[<- lS]at e;show Pf.aO (ZZ,ended) (some (s:Int))=_;cases z:Pf.aO (ZZ,ended) (some (s:Int)) with
  |none=>rw[z]at e;cases e
  |some w=>rw[z]at e;rw[show w=some (r:Int) from e]
theorem wl(hp:0<ZZ.length)(hc:0<c)(hcm:c<=1000)(hm:ZZ.length<=1000)(h:∀r∈ZZ,r.length=c)(ZQ:ZZ.length*c<64)(o:Ord ZZ.flatten os)(eo:Pf.cO ZZ=some (cl os))(h1:one<ZZ.length*c)(h2:ZO<ZZ.length*c):
  ∃m:Nat,Pf.ft ZZ reach (one:Int) (ZO:Int)=some (some (m:Int))/\m<ZZ.length*c/\rk os one<=rk os m/\rk os ZO<=rk os m/\Rch (Nb ZZ.length c reach) (Lv (ZZ.length*c) (rk os)<|rk os m+1) one ZO /\
   ∀k,Lv (ZZ.length*c) (rk os) k one->Lv (ZZ.length*c) (rk os) k ZO->Rch (Nb ZZ.length c reach) (Lv (ZZ.length*c) (rk os) k) one ZO->rk os m<k:=by
 have ZR:ZZ.flatten.length=ZZ.length*c:=bn h;have olen:=o.len;have inj:∀x y,x<ZZ.length*c->y<ZZ.length*c->rk os x=rk os y->x=y:=λx y hx hy=>o.inj x y (by exact bZ hx<|bG ZR.symm) (by exact bZ hy<|bG ZR.symm);have hρ:∀x,x<ZZ.length*c->rk os x<ZZ.length*c:=λx hx=>by have:=o.rk_lt (x:=x) (by exact bZ hx<|bG ZR.symm);exact bZ this<|bG ZR
 have e0:Pf.hW ZZ=some ((X9<|ZZ.length*c).map λt=>none):=by unfold Pf.hW;rw[dC hp hcm hm h,cG,fu (g:=λt=>(none:ZC)) (by rw[bR,U1];exact cT<|eJ ZQ (by decide)) λt t=>rfl];congr 1;unfold cl;rw[P6];rfl
 unfold Pf.ft;rw[e0,bs,eo,bs,pU];have key:=qy (f:=λ(s3:List (Option Int)×L2.bP) (x2:Int)=>(Pf.cP (ZZ,reach,s3.1,s3.2) x2).bind λc=>(Pf.aR (ZZ,reach,c.1,c.2) (one:Int)).bind λst=>(if st.isSome=true then (Pf.aR (ZZ,reach,c.1,c.2) (ZO:Int)).bind λo=>some (decide<|st=o) else some false).bind λb=>if b=true then some (Ctl.rt<|some x2) else some (Ctl.nx (c.1,c.2)))
  (P:=λ(r:ZC)=>∃m:Nat,r=some (m:Int)/\m<ZZ.length*c/\rk os one<=rk os m/\rk os ZO<=rk os m/\Rch (Nb ZZ.length c reach) (Lv (ZZ.length*c) (rk os)<|rk os m+1) one ZO /\
   ¬ (Lv (ZZ.length*c) (rk os) (rk os m) one/\Lv (ZZ.length*c) (rk os) (rk os m) ZO/\Rch (Nb ZZ.length c reach) (Lv (ZZ.length*c) (rk os)<|rk os m) one ZO))
  (λi s=>(∃home par,UF (Nb ZZ.length c reach) (ZZ.length*c) (rk os) i home par/\oH s.2 par/\s.2.length<=i*1000/\jf (ZZ.length*c) s.1 home) /\
   ¬ (Lv (ZZ.length*c) (rk os) i one/\Lv (ZZ.length*c) (rk os) i ZO/\Rch (Nb ZZ.length c reach) (Lv (ZZ.length*c) (rk os) i) one ZO))
  (xs:=cl os) (s:=((X9<|ZZ.length*c).map λt=>none,[]))
  ⟨⟨λt=>none,λt=>none,UF.start,λt=>rfl,by simp,by simp,λx hx=>by rw[X2,F8 hx];rfl⟩,λz=>absurd z.1.2<|O6 _⟩ λi y s hy zq=>ax zq λzw nj=>fL zw λhome par u he hel hh=>by
   obtain⟨homes,ended⟩:=s;unfold cl at hy;rw[X2]at hy;refine aa (P4.mp hy) λx hx ZV=>?_;subst ZV;refine ax (wj o hx) λg1 g2=>?_;have hi:i<64:=by have:=(Z6.mp hx).1;exact eJ this<|dI (bG olen)<|dI (bG ZR) ZQ
   have hxn:x<ZZ.length*c:=by exact bZ g1<|bG ZR
   refine iq (ux hp hc hcm hm h (eJ ZQ (by decide)) o u (b8 (cT hi) (by decide)) he hel hh hxn g2) λhomes' ended' home' par' f1 f2 f3 f4 f5=>?_;rcases kJ (ZZ:=ZZ) (reach:=reach) inj f2 (by exact eJ hi (by decide)) f3 f5 h1 with zr6_|zr5_
   ·refine ax zr6_ λa1 a2=>?_;exact .inl (cD (homes',ended') (cr f1<|cr a2<|cr (a:=false) (if_neg Z7)<|if_neg Z7) ⟨home',par',f2,f3,f4,f5⟩ λz=>ao (f2.has one z.1) λs hs=>nomatch a1.symm.trans hs)
   ·refine aE zr5_ λr a0 a1 a2=>?_;rcases kJ (ZZ:=ZZ) (reach:=reach) inj f2 (by exact eJ hi (by decide)) f3 f5 h2 with zr8_|zr7_
    ·refine ax zr8_ λb1 b2=>?_;exact .inl (cD (homes',ended') (cr f1<|cr a2<|cr (a:=false) ((if_pos rfl).trans (cr b2<|congrArg some<|decide_eq_false nofun))<|if_neg Z7) ⟨home',par',f2,f3,f4,f5⟩ λz=>ao (f2.has ZO z.2.1) λs hs=>nomatch b1.symm.trans hs)
    ·refine aE zr7_ λr' b0 b1 b2=>?_;by_cases q:r=r'
     ·subst q;exact .inr ⟨_,cr f1<|cr a2<|cr (a:=true) ((if_pos rfl).trans (cr b2<|congrArg some<|decide_eq_true rfl))<|if_pos rfl,x,rfl,hxn,b8 (T1 a0.2)<|bG g2.symm,b8 (T1 b0.2)<|bG g2.symm,by rw[g2];exact a1.rch.trans<|b1.rch.symm Nb.sy b0,by rw[g2];exact nj⟩
     ·exact .inl (cD (homes',ended') (cr f1<|cr a2<|cr (a:=false) ((if_pos rfl).trans (cr b2<|congrArg some (decide_eq_false λe=>q<|N4<|Z8 e)))<|if_neg Z7) ⟨home',par',f2,f3,f4,f5⟩ λz=>q<|(a1.of_rch Nb.sy a0 z.2.2).same inj b1)
 rcases key with zr10_|zr9_
 ·refine aE zr10_ λs' e t nj=>?_;exfalso;rw[bR,olen,ZR]at nj;exact nj<|pc ⟨h1,hρ _ h1⟩ ⟨h2,hρ _ h2⟩<|(i5 hc rfl hρ one h1).trans ((i5 hc rfl hρ ZO h2).symm Nb.sy ⟨h2,hρ _ h2⟩)
 ·refine aa zr9_ λr e zz=>zM zz λm ZU g1 g2 g3 g4 g5=>?_;subst ZU;refine⟨m,(by rw[show Pu.gY _ _ _=_ from e];rfl),g1,g2,g3,g4,(λk k1 k2 k3=>?_)⟩;rcases M7 (rk os m) k with z|z
  ·exact z
  ·exact absurd (pc ⟨k1.1,bZ k1.2 z⟩ ⟨k2.1,bZ k2.2 z⟩ (k3.mono λa b q1 q2=>⟨q1,q2.1,bZ q2.2 z⟩)) g5
theorem xZ(hc:0<c)(h:∀r∈ZZ,r.length=c)(o:Ord ZZ.flatten os)(hx:x<ZZ.length*c)(hl:last<ZZ.length*c):Rch (λa b=>b∈gV ZZ.length c reach a) (λy=>upTo ZZ c last y=true) x y↔Rch (Nb ZZ.length c reach) (Lv (ZZ.length*c) (rk os)<|rk os last+1) x y:=by
 have ZR:ZZ.flatten.length=ZZ.length*c:=bn h;have up:∀z,z<ZZ.length*c->(upTo ZZ c last z=true↔rk os z<=rk os last):=λz hz=>by rw[o.le_iff (by exact bZ hz<|bG ZR.symm) (by exact bZ hl<|bG ZR.symm),fz hc h hz,fz hc h hl];unfold upTo;simp
 constructor
 ·intro hr;have:y<ZZ.length*c/\Rch (Nb ZZ.length c reach) (Lv (ZZ.length*c) (rk os)<|rk os last+1) x y:=by
   induction hr with
   |here=>exact⟨hx,.here⟩
   |on _ g2 g3 ih =>have hz:=(fq.mp g2).1;exact⟨hz,.on ih.2 ((jI ih.1).mpr g2) ⟨hz,by have:=(up _ hz).mp g3;exact dI this<|W5 _⟩⟩
  exact this.2
 ·intro hr;induction hr with
  |here=>exact .here
  |on _ g2 g3 ih=>exact .on ih ((jI g2.1).mp g2)<|(up _ g3.1).mpr (by have:=g3.2;exact T1 this)
end
end Pf
namespace Fl
open Pu
structure ShpW(ZZ:ZI)(c most:Nat):Prop where
 pos:0<ZZ.length
 most12:ZZ.length<=12
 cpos:0<c
 cmost:c<=12
 row:∀r∈ZZ,r.length=c
 area:ZZ.length*c<=most
 hts:∀r∈ZZ,∀x∈r,0<=x/\x<=1000000000000000000
end Fl
namespace Pf
open Fl Pu
theorem fD(ns:ZL){k:Nat}(hk:k<=1000)(ht:0<=top):∃v,Pf.cn ns (k:Int) top=some v/\0<=v/\v<=top:=by
 unfold Pf.cn;have b1:-(2^64)<(k:Int)+1/\(k:Int)+1<2^64:=by omega
 have b2:-(2^64)<(k:Int)/\(k:Int)<2^64:=by omega
 simp only[i0,bs,oG b1,oG b2,mU (show 0<top+1 by omega)];refine⟨_,rfl,Int.emod_nonneg _ (by omega),?_⟩;exact Int.le_of_lt_add_one<|Int.emod_lt_of_pos _ (by omega)
theorem y3{i:Nat}(h:i<12):∃v,Pu.at_ ([0,1,0,2,0,1,0,3,0,1,0,2]:List Int) (i:Int)=some v/\0<=v/\v<=3:=by
 rw[cZ]
 match i,h with
 |0,_=>exact⟨_,rfl,by decide,by decide⟩
 |1,_=>exact⟨_,rfl,by decide,by decide⟩
 |2,_=>exact⟨_,rfl,by decide,by decide⟩
 |3,_=>exact⟨_,rfl,by decide,by decide⟩
 |4,_=>exact⟨_,rfl,by decide,by decide⟩
 |5,_=>exact⟨_,rfl,by decide,by decide⟩
 |6,_=>exact⟨_,rfl,by decide,by decide⟩
 |7,_=>exact⟨_,rfl,by decide,by decide⟩
 |8,_=>exact⟨_,rfl,by decide,by decide⟩
 |9,_=>exact⟨_,rfl,by decide,by decide⟩
 |10,_=>exact⟨_,rfl,by decide,by decide⟩
 |11,_=>exact⟨_,rfl,by decide,by decide⟩
 |n+12,h=>exact absurd h (by lia)
theorem su(ns:ZL){k i j:Nat}(hk:k<=1000)(h0:0<=kind)(h5:kind<5)(hi:i<12)(hj:j<12):∃v,Pf.bY ns (k:Int) kind (i:Int) (j:Int)=some v/\0<=v/\v<=1000000000000000000:=by
 unfold Pf.bY;by_cases c3:kind=3
 ·rw[if_pos (by simpa using c3)];refine aE (y3 hi) λu e1 u1 u2=>aE (y3 hj) λv e2 v1 v2=>aE (fD ns hk (top:=3) (by decide)) λw e3 w1 w2=>?_;simp only[e1,e2,e3,bs];exact⟨_,rfl,by lia,by lia⟩
 ·rw[if_neg (by simpa using c3)];by_cases c4:kind=4
  ·rw[if_pos (by simpa using c4)];refine aE (fD ns hk (top:=9) (by decide)) λw e3 w1 w2=>?_;simp only[e3,bs];have a1:0<=Pu.ab ((i:Int)-5)/\Pu.ab ((i:Int)-5)<=6:=by unfold Pu.ab;split<;>lia
   exact⟨_,rfl,by lia,by lia⟩
  ·rw[if_neg (by simpa using c4)];have t:∃top,Pu.at_ ([3,11,1000000000000000000]:List Int) kind=some top/\0<=top/\top<=1000000000000000000:=by
    have:kind=0\/kind=1\/kind=2:=by lia
    rcases this with rfl|rfl|rfl
    ·exact⟨3,rfl,by decide,by decide⟩
    ·exact⟨11,rfl,by decide,by decide⟩
    ·exact⟨1000000000000000000,rfl,by decide,by decide⟩
   refine aE t λtop e t1 t2=>aE (fD ns hk t1) λw e3 w1 w2=>?_;simp only[e,e3,bs];exact⟨_,rfl,w1,Int.le_trans w2 t2⟩
theorem wm(h:r<=max 1 (q/c))(hq:c<=q):r*c<=q:=by
 have h1:r*c<=max 1 (q/c)*c:=G3 c h;refine b8 h1 ?_;by_cases z:1<=q/c
 ·rw[Nat.max_eq_right z];exact Nat.div_mul_le_self q c
 ·rw[Nat.max_eq_left (by lia),Nat.one_mul];exact hq
theorem uA(ns:ZL){most:Nat}(hm:12<=most)(hM:most<=144):∃ZZ c,Pf.oB ns (most:Int)=some ZZ/\ShpW ZZ c most:=by
 unfold Pf.oB;have ca:=i0 ns 0;rw[show ((0:Nat):Int)=0 from rfl]at ca;rw[ca,bs];generalize cellAt ns 0=head;obtain⟨c,ec,c1,c2⟩:∃c:Nat,1+head%12=(c:Int)/\1<=c/\c<=12:=⟨(1+head%12).toNat,by lia,by lia,by lia⟩;rw[ec];have fc:0<(c:Int)/\(c:Int)<2^64:=by lia
 generalize (Pu.ln (Pu.cut ns (some 3)<|some 63):Int)=L;simp only[kH fc,bs];obtain⟨R1,eR1,r1⟩:∃R1:Nat,Pu.mx 1 (Pu.mn 12<|(L+(c:Int)-1)/(c:Int))=(R1:Int)/\1<=R1/\R1<=12:=by have h1:=Fl.mn_lel 12<|(L+(c:Int)-1)/(c:Int);have h2:=Fl.le_mxl 1<|Pu.mn 12<|(L+(c:Int)-1)/(c:Int);have h3:Pu.mx 1 (Pu.mn 12<|(L+(c:Int)-1)/(c:Int))<=12:=Fl.mx_le (by decide) h1;have h2':1<=Pu.mx 1 (Pu.mn 12<|(L+(c:Int)-1)/(c:Int)):=h2;exact⟨(Pu.mx 1<|Pu.mn 12<|(L+(c:Int)-1)/(c:Int)).toNat,by lia,by lia,by lia⟩
 rw[eR1];obtain⟨R2,eR2,r2⟩:∃R2:Nat,(if (decide<|((head/12)%8)=3)=true then some (12:Int) else some ((R1:Nat):Int))=some (R2:Int)/\1<=R2/\R2<=12:=by
  split
  ·exact⟨12,rfl,by decide,by decide⟩
  ·exact⟨R1,rfl,r1⟩
 rw[eR2,bs];obtain⟨R,eR,r3⟩:∃R:Nat,Pu.mn (R2:Int) (Pu.mx 1<|(most:Int)/(c:Int))=(R:Int)/\1<=R/\R<=12/\R<=max 1 (most/c):=by rw[<- Int.natCast_ediv];generalize most/c=q;unfold Pu.mn Pu.mx;split<;>split<;>first|exact⟨R2,rfl,by lia,by lia,by lia⟩|exact⟨q,rfl,by lia,by lia,by lia⟩|exact⟨1,rfl,by lia,by lia,by lia⟩
 rw[eR];have e1:Pu.lb (R:Int)=some (nats R):=iP (by lia);have e2:Pu.lb (c:Int)=some (nats c):=iP (by lia);rw[e1,bs,e2];have kb:0<=(head/96)%5/\(head/96)%5<5:=⟨Int.emod_nonneg _ (by decide),Int.emod_lt_of_pos _ (by decide)⟩;have H:∃ZZ,(Pu.di (λ(s17:(List<|List<|Int)) (x16:Int)=>((Pu.mul x16 (c:Int)).bind λx18=>some<|3+x18).bind λat20=>((some<|nats c).bind λx22=>Pu.comp (λ(y21:Int)=>Pf.bY ns (at20+y21) ((head/96)%5) x16 y21) x22).bind λx25=>(Pu.app s17 x25).bind λfloor_here24=>some<|floor_here24) (nats R)<|[]).bind (λ(s17:(List<|List<|Int))=>some<|s17)=some ZZ/\ZZ.length=R/\∀r∈ZZ,r.length=c/\∀x∈r,0<=x/\x<=1000000000000000000:=by
  refine mT (λi s=>s.length=i/\∀r∈s,r.length=c/\∀x∈r,0<=x/\x<=1000000000000000000) ⟨rfl,λa h=>nomatch h⟩ ?_ λs h=>⟨s,rfl,by rw[h.1,gH],h.2⟩;intro i x s hx hs;refine ax (ui hx) λhi ex=>?_;subst ex;have mm:Pu.mul (i:Int) (c:Int)=some ((i:Int)*(c:Int)):=oG (by lia);have lt:i*c<=144:=b8 (M5 (cT<|bZ hi r3.2.1) c2) (by decide);have hh:∀y∈nats c,∃v,Pf.bY ns (3+(i:Int)*(c:Int)+y) ((head/96)%5) (i:Int) y=some v/\0<=v/\v<=1000000000000000000:=λy hy=>by
   refine aa (uj.mp hy) λj hj ey=>?_;subst ey;have e3:3+(i:Int)*(c:Int)+(j:Int)=((3+i*c+j:Nat):Int):=by rw[Int.natCast_add,Int.natCast_add,Int.natCast_mul];rfl
   rw[e3];exact su ns (by lia) kb.1 kb.2 (by lia) (by lia)
  have cg:Pu.comp (λ(y21:Int)=>Pf.bY ns (3+(i:Int)*(c:Int)+y21) ((head/96)%5) (i:Int) y21) (nats c)=some ((nats c).map λy=>(Pf.bY ns (3+(i:Int)*(c:Int)+y) ((head/96)%5) (i:Int) y).getD 0):=by refine fu (by rw[gH];lia) λy hy=>?_;refine aa (hh y hy) λv e a=>?_;rw[e];rfl
  have ap:Pu.app s ((nats c).map λy=>(Pf.bY ns (3+(i:Int)*(c:Int)+y) ((head/96)%5) (i:Int) y).getD 0)=some (s++[(nats c).map λy=>(Pf.bY ns (3+(i:Int)*(c:Int)+y) ((head/96)%5) (i:Int) y).getD 0]):=oF (by lia);refine⟨_,by rw[mm,bs,bs,bs,cg,bs,ap];rfl,by rw[Y9,hs.1];rfl,λr hr=>?_⟩;rcases W0.mp hr with q|q
  ·exact hs.2 r q
  ·rw[Y3.mp q];refine⟨by rw[Y0,gH],λv hv=>?_⟩;refine aa (U9.mp hv) λy hy ev=>?_;refine aa (hh y hy) λv' e' b=>?_;rw[<- ev,e'];exact b
 refine aE H λZZ e l q=>⟨ZZ,c,e,by rw[l];exact r3.1,by rw[l];exact r3.2.1,c1,c2,λr hr=>(q r hr).1,?_,λr hr=>(q r hr).2⟩;rw[l];exact wm r3.2.2<|b8 c2 hm
section
variable {ZZ:ZI}{c:Nat}
theorem jq(hp:0<ZZ.length)(hc:0<c)(hcm:c<=900)(hm:ZZ.length<=900)(h:∀r∈ZZ,r.length=c):∃os,Pf.b7 ZZ=some (cl os)/\Ord ZZ.flatten os:=by
 have ZR:ZZ.flatten.length=ZZ.length*c:=bn h;have lt:ZZ.length*c<1000000:=dI (M5 hm hcm) (by decide);refine aa (ut ZZ.flatten) λos e o=>?_;refine(aF os ?_ o);unfold Pf.b7;rw[dC hp (by lia) (by lia) h,cG];unfold Pu.se;rw[qw (f:=hk ZZ.flatten) λx hx=>by have hx:=P7.mp hx;rw[dB hc (by lia) h hx,fz hc h hx],cG]
 rw[ZR]at e;have nd:=BR ZZ.flatten;rw[ZR]at nd;rw[if_pos ⟨by rw[bR,U1];exact lt,nd⟩,e]
end
theorem wn(h:ZZ.flatten.length<=1000000):Pf.kF ZZ=some ((X9 ZZ.flatten.length).map (hk ZZ.flatten)):=by
 have hq:=wg ZZ h;unfold Pf.sj at hq;unfold Pf.kF;refine aa (L2.ae hq) λs e e2=>?_;have e3:s=ZZ.flatten:=Z8 e2;rw[e,cG,e3,fu (f:=λ(y:ZA)=>some (y.2,y.1)) (g:=λy=>(y.2,y.1)) (by rw[uk];exact h) λx x=>rfl];congr 1;apply List.ext_getElem?;intro i;rw[X2,X2];by_cases q:i<ZZ.flatten.length
 ·rw[F8 q];have:(qX ZZ.flatten)[i]?=some ((i:Int),ZZ.flatten[i]):=by unfold qX;simp[q]
  rw[this];show some (ZZ.flatten[i],(i:Int))=some (hk ZZ.flatten i);unfold hk;rw[List.getD_eq_getElem?_getD,Y5 q];rfl
 ·rw[D8 (by rw[uk];lia),D8 (by rw[U1];lia)];rfl
end Pf
namespace Fl
open Pu
structure Low(n:Nat)(nb:Zy)(ρ:ZG)(E:ZG):Prop where
 mem:∀x,x<n->E x=x\/E x∈nb x
 le:∀x,x<n->ρ (E x)<=ρ x/\∀y∈nb x,ρ (E x)<=ρ y
 lt:∀x,x<n->E x<n
 dn:∀x,x<n->E x≠x->ρ (E x)<ρ x
noncomputable def mV(E:ZG):Nat->Nat->Nat
 |0,x=>x
 |k+1,x=>if E x=x then x else mV E k (E x)
section
variable {n:Nat}{nb:Zy}{ρ E:ZG}
theorem BU(L:Low n nb ρ E):∀(k x:Nat),x<n->ρ x<=k->mV E k x=mV E (k+1) x:=by
 intro k;induction k with
 |zero =>intro x hx hk;show x=if E x=x then x else _;exact(if_pos (Classical.byContradiction λe=>O6 _<|bZ (L.dn x hx e) hk)).symm
 |succ k ih =>
  intro x hx hk;show (if E x=x then x else mV E k (E x))=if E x=x then x else mV E (k+1) (E x);by_cases e:E x=x
  ·rw[if_pos e,if_pos e]
  ·rw[if_neg e,if_neg e];exact ih (E x) (L.lt x hx)<|T1<|bZ (L.dn x hx e) hk
theorem y8(L:Low n nb ρ E)(hK:∀x,x<n->ρ x<=K)(hx:x<n):mV E K x=if E x=x then x else mV E K (E x):=by rw[BU L K x hx (hK x hx)];rfl
theorem bon_lt(L:Low n nb ρ E):∀(k x:Nat),x<n->mV E k x<n:=by
 intro k;induction k with
 |zero=>exact λx hx=>hx
 |succ k ih =>
  intro x hx;show (if E x=x then x else mV E k (E x))<n;by_cases e:E x=x
  ·rw[if_pos e];exact hx
  ·rw[if_neg e];exact ih (E x)<|L.lt x hx
end
theorem skol{P:ZE}(H:∀x,x<n->∃e,P x e):∃E:Nat->Nat,∀x,x<n->P x (E x) :=
 ⟨λx=>if hx:x<n then (H x hx).choose else 0,λx hx=>by show P x (if h:x<n then (H x h).choose else 0);rw[dif_pos hx];exact(H x hx).choose_spec⟩
noncomputable abbrev flL(n:Nat)(E:ZG):List (Option Int):=(X9 n).map λx=>if E x=x then none else some ((E x:Nat):Int)
theorem flL_at{E:ZG}(hx:x<n):Pu.at_ (flL n E) (x:Int)=some (if E x=x then none else some ((E x:Nat):Int)):=by rw[cZ,X2,F8 hx];rfl
end Fl
namespace Pf
open Fl Pu
section
variable {ZZ:ZI}{c:Nat}{os:ZM}{reach:Int}
theorem low_of(hp:0<ZZ.length)(hc:0<c)(hcm':c<=900)(hm':ZZ.length<=900)(h:∀r∈ZZ,r.length=c)(o:Ord ZZ.flatten os):
  ∃E,Low (ZZ.length*c) (gV ZZ.length c reach) (rk os) E/\Pf.gF ZZ reach=some (flL (ZZ.length*c) E):=by
 have ZR:ZZ.flatten.length=ZZ.length*c:=bn h;have hcm:c<=1000:=by lia
 have hm:ZZ.length<=1000:=by lia
 have hb':ZZ.length*c<=900*900:=M5 hm' hcm';have hb:ZZ.length*c<=1000000:=b8 (M5 hm hcm) (by decide);have nbn:∀x,∀y∈gV ZZ.length c reach x,y<ZZ.length*c:=λx y hy=>(fq.mp hy).1;have H:∀x,x<ZZ.length*c->∃e:Nat,Pf.bN ZZ (cl<|gV ZZ.length c reach x++[x])=some (e:Int)/\e∈gV ZZ.length c reach x++[x]/\∀y∈gV ZZ.length c reach x++[x],rk os e<=rk os y:=λx hx =>
  iQ hc hcm h o (λy hy=>(W0.mp hy).elim (nbn x y) λz=>by rw[Y3.mp z];exact hx) (by simp)
 obtain⟨E,hE⟩:∃E:Nat->Nat,∀x,x<ZZ.length*c->Pf.bN ZZ (cl<|gV ZZ.length c reach x++[x])=some (E x:Int)/\E x∈gV ZZ.length c reach x++[x]/\∀y∈gV ZZ.length c reach x++[x],rk os (E x)<=rk os y :=
  skol H
 have mem:∀x,x<ZZ.length*c->E x=x\/E x∈gV ZZ.length c reach x:=λx hx=>(W0.mp (hE x hx).2.1).elim .inr λz=>.inl<|Y3.mp z;have lt:∀x,x<ZZ.length*c->E x<ZZ.length*c:=λx hx=>(mem x hx).elim (λe=>by rw[e];exact hx) (nbn x _);refine⟨E,⟨mem,λx hx=>⟨(hE x hx).2.2 x (Y8 _<|.head _),λy hy=>(hE x hx).2.2 y (U7 _ hy)⟩,lt,λx hx ne=>?_⟩,?_⟩
 ·have le:=(hE x hx).2.2 x (Y8 _<|.head _);refine Nat.lt_of_le_of_ne le λz=>ne ?_;exact Ord.inj o (E x) x (by rw[ZR];exact lt x hx) (by rw[ZR];exact hx) z
 ·unfold Pf.gF;rw[dC hp hcm hm h,cG,fu (g:=fun y:Int=>if E y.toNat=y.toNat then none else some ((E y.toNat:Nat):Int)) (by rw[bR,U1];exact hb) λy hy=>?_]
  ·unfold cl flL;rw[P6];rfl
  ·refine aa (hZ.mp hy) λx hx ey=>?_;subst ey;have hx:=P7.mp hx;unfold Pf.mS;have e1:Pu.cat (cl<|gV ZZ.length c reach x) [(x:Int)]=some (cl<|gV ZZ.length c reach x++[x]):=by rw[wf (by rw[bR];exact b8 (Nat.add_le_add_right (mH _ _ _ _) 1) (by lia))];unfold cl;rw[T0];rfl
   rw[dU hp h,cG,eG hc hcm hm hx,cG,e1,cG,(hE x hx).1,cG,V3];congr 1;by_cases q:E x=x
   ·rw[if_pos (by simp[q]),if_pos q]
   ·rw[if_neg (by simp;lia),if_neg q]
theorem sv(hp:0<ZZ.length)(hc:0<c)(hcm':c<=900)(hm':ZZ.length<=900)(h:∀r∈ZZ,r.length=c)(ho:Pf.b7 ZZ=some (cl os))(o:Ord ZZ.flatten os){E:ZG}(L:Low (ZZ.length*c) (gV ZZ.length c reach) (rk os) E)(hf:Pf.gF ZZ reach=some (flL (ZZ.length*c) E)):
  Pf.dg ZZ reach=some (cl<|(X9<|ZZ.length*c).map (mV E<|ZZ.length*c)):=by
 have ZR:ZZ.flatten.length=ZZ.length*c:=bn h;have hb':ZZ.length*c<=900*900:=M5 hm' hcm';have hK:∀x,x<ZZ.length*c->rk os x<=ZZ.length*c:=λx hx=>cT<|ZR▸o.rk_lt (by rw[ZR];exact hx);unfold Pf.dg;rw[hf,cG,ho,cG];refine jd (λi d=>d.length<=i/\∀y,y<ZZ.length*c->find d (y:Int)=if rk os y<i then some ((mV E (ZZ.length*c) y:Nat):Int) else none) ⟨bD _,λy a=>rfl⟩ ?_ λd hd=>?_
 ·intro i x d hx hd;unfold cl at hx;rw[X2]at hx;refine aa (P4.mp hx) λz hz ez=>?_;subst ez;have oz:=wj o hz;have hz':z<ZZ.length*c:=ZR▸oz.1;have il:i<ZZ.length*c:=by rw[<- oz.2,<- ZR];exact o.rk_lt oz.1
  have val:(((Pu.at_ (flL (ZZ.length*c) E) (z:Int)).bind λx6=>some<|x6.isNone).bind λx9=>if x9=true then some (z:Int) else ((Pu.at_ (flL (ZZ.length*c) E) (z:Int)).bind λx7=>x7).bind λx8=>Pu.find d x8)=some ((mV E (ZZ.length*c) z:Nat):Int):=by
   rw[flL_at hz',cG,cG];by_cases q:E z=z
   ·rw[if_pos q,if_pos (show Option.isNone none=true from rfl),y8 L hK hz',if_pos q]
   ·rw[if_neg q,if_neg (by simp),cG,cG,hd.2 _ (L.lt z hz'),if_pos (by rw[<- oz.2];exact L.dn z hz' q)];rw[y8 L hK hz',if_neg q]
  refine⟨_,by rw[val,cG,if_pos (by lia)],b8 xX<|Nat.add_le_add_right hd.1 1,λy hy=>?_⟩;rw[uv];by_cases q:y=z
  ·rw[if_pos (by rw[q]),if_pos (by rw[q,oz.2];exact W5 _),q]
  ·have ne:¬ rk os y=i:=λe=>q<|Ord.inj o y z (by rw[ZR];exact hy) oz.1 (by rw[e,oz.2]);rw[if_neg (by lia),hd.2 y hy];by_cases w:rk os y<i
   ·rw[if_pos w,if_pos (T7 w)]
   ·rw[if_neg w,if_neg (by lia)]
 ·rw[dC hp (by lia) (by lia) h,cG,fu (g:=fun y:Int=>((mV E (ZZ.length*c) y.toNat:Nat):Int)) (by rw[bR,U1];lia) λy hy=>?_]
  ·unfold cl;rw[P6,P6];rfl
  ·refine aa (hZ.mp hy) λz hz ez=>?_;subst ez;have hz:=P7.mp hz;rw[hd.2 z hz,bR,o.len,if_pos (o.rk_lt (by rw[ZR];exact hz)),V3]
end
end Pf
namespace Fl
open Pu
section
variable {α:Type}{d:List ((Int×Int)×α)}{k k':ZA}{v:α}
theorem db(kv:(Int×Int)×α):bT (kv ::d) k=if kv.1=k then some kv.2 else bT d k:=by
 unfold bT;by_cases q:kv.1=k
 ·rw[List.find?_cons_of_pos (by simpa using q),if_pos q];rfl
 ·rw[List.find?_cons_of_neg (by simpa using q),if_neg q]
theorem gK:(∃v,bT d k=some v)↔k∈d.map (·.1):=by
 induction d with
 |nil=>exact⟨λh=>ao h λx z=>(nomatch z),λh=>(nomatch h)⟩
 |cons kv d ih =>
  rw[db,W7,Y4];by_cases q:kv.1=k
  ·rw[if_pos q];exact⟨λx=>.inl q.symm,λx=>⟨_,rfl⟩⟩
  ·rw[if_neg q,ih];exact⟨.inr,λh=>h.elim (λz=>absurd z.symm q) id⟩
theorem zy:bT (d.map λkv=>if kv.1=k then (kv.1,v) else kv) k'=if k'=k then (bT d k).map (λx=>v) else bT d k':=by
 induction d with
 |nil=>by_cases q:k'=k<;>simp[q]<;>rfl
 |cons kv d ih =>
  rw[W7,db,db,db,ih];by_cases q:kv.1=k
  ·rw[if_pos q,if_pos q];by_cases w:k'=k
   ·rw[if_pos (show (kv.1,v).1=k' by rw[w];exact q),if_pos w];rfl
   ·rw[if_neg (show ¬ (kv.1,v).1=k' from λz=>w<|z.symm.trans q),if_neg w,if_neg w,if_neg λz=>w<|z.symm.trans q]
  ·rw[if_neg q,if_neg q];by_cases w:k'=k
   ·rw[if_pos w,if_pos w,w,if_neg q]
   ·rw[if_neg w,if_neg w]
theorem zA:bT (d++[(k,v)]) k'=(bT d k').or (if k'=k then some v else none):=by
 induction d with
 |nil =>
  rw[List.nil_append,db];by_cases q:k'=k
  ·rw[if_pos q,if_pos q.symm];rfl
  ·rw[if_neg q,if_neg (R4 q)];rfl
 |cons kv d ih =>
  rw[List.cons_append,db,db,ih];by_cases q:kv.1=k'
  ·rw[if_pos q,if_pos q];rfl
  ·rw[if_neg q,if_neg q]
theorem anyT:(d.any λkv=>decide<|kv.1=k)=true↔k∈d.map (·.1):=by rw[List.any_eq_true,U9];exact⟨λh=>aa h λx hx e=>⟨x,hx,of_decide_eq_true e⟩,λh=>aa h λx hx e=>⟨x,hx,decide_eq_true e⟩⟩
theorem oJ:bT (o9 d k v) k'=if k'=k then some v else bT d k':=by
 unfold o9;by_cases q:k∈d.map (·.1)
 ·rw[if_pos (anyT.mpr q),zy];refine ao (gK.mpr q) λu e=>?_;rw[e];rfl
 ·rw[if_neg λz=>q<|anyT.mp z,zA];by_cases w:k'=k
  ·rw[if_pos w,if_pos w];cases e:bT d k' with
   |none=>rfl
   |some u=>exact absurd (gK.mp ⟨u,e⟩)<|w▸q
  ·rw[if_neg w,if_neg w];cases bT d k'<;>rfl
theorem putT_nd(h:(d.map (·.1)).Nodup):((o9 d k v).map (·.1)).Nodup:=by
 unfold o9;by_cases q:k∈d.map (·.1)
 ·rw[if_pos (anyT.mpr q),P6];have e:((fun x:(Int×Int)×α=>x.1) ∘ λkv=>if kv.1=k then (kv.1,v) else kv)=λx=>x.1:=by funext kv;show (if kv.1=k then (kv.1,v) else kv).1=kv.1;split<;>rfl
  rw[e];exact h
 ·rw[if_neg λz=>q<|anyT.mp z,T0,W7,List.map_nil,List.nodup_append];refine⟨h,by simp,λa ha b hb e=>?_⟩;rw[Y3]at hb;exact q (by rw[e,hb]at ha;exact ha)
theorem BW:(o9 d k v).length<=d.length+1:=by
 unfold o9;split
 ·rw[Y0];exact P3 _
 ·rw[Y9];exact bD _
theorem BX:(om d k v).length<=d.length+1:=by
 unfold om;split
 ·exact P3 _
 ·exact BW
structure Best(ρ:ZG)(val:Nat->α)(S:Int×Int->Nat->Prop)(d:List ((Int×Int)×α)):Prop where
 nd:(d.map (·.1)).Nodup
 so:∀k v,bT d k=some v->∃w,v=val w/\S k w/\∀w',S k w'->ρ w<=ρ w'
 no:∀k,bT d k=none->∀w,¬ S k w
variable {ρ:ZG}{val:Nat->α}{S S':Int×Int->Nat->Prop}
theorem Best.nil(h:∀k w,¬ S k w):Best ρ val S []:=⟨List.nodup_nil,λx x z=>(nomatch z),λk x=>h k⟩
theorem Best.same(b:Best ρ val S d)(h:∀k w,S k w↔S' k w):Best ρ val S' d :=
 ⟨b.nd,λk v e=>aE (b.so k v e) λw h1 h2 h3=>⟨w,h1,(h k w).mp h2,λw' z=>h3 w'<|(h k w').mpr z⟩,λk e w z=>b.no k e w<|(h k w).mpr z⟩
theorem Best.put(b:Best ρ val S d)(hs:S k w\/w=w0)(h0:ρ w<=ρ w0)(hm:∀w',S k w'->ρ w<=ρ w'):Best ρ val (λk' w'=>S k' w'\/(k'=k/\w'=w0)) (o9 d k<|val w):=by
 refine⟨putT_nd b.nd,λk' v e=>?_,λk' e w' z=>?_⟩
 ·rw[oJ]at e;by_cases q:k'=k
  ·rw[if_pos q]at e;refine⟨w,(Z8 e).symm,hs.elim (λz=>.inl<|q▸z) λz=>.inr ⟨q,z⟩,λw' z=>?_⟩;rcases z with z|⟨_,z⟩
   ·exact hm w'<|q▸z
   ·rw[z];exact h0
  ·rw[if_neg q]at e;refine aE (b.so k' v e) λw2 h1 h2 h3=>⟨w2,h1,.inl h2,λw' z=>?_⟩;rcases z with z|z
   ·exact h3 w' z
   ·exact absurd z.1 q
 ·rw[oJ]at e;by_cases q:k'=k
  ·rw[if_pos q]at e;cases e
  ·rw[if_neg q]at e;rcases z with z|z
   ·exact b.no k' e w' z
   ·exact q z.1
set_option tactic.hygienic true in
theorem Best.dflt(b:Best ρ val S d)(h0:∀w',S k w'->ρ w'<=ρ w0):Best ρ val (λk' w'=>S k' w'\/(k'=k/\w'=w0)) (om d k<|val w0):=by
 unfold om;split
 ·rename_i v e;refine⟨b.nd,λk' v' e'=>?_,λk' e' w' z=>?_⟩
  ·refine aE (b.so k' v' e') λw2 h1 h2 h3=>⟨w2,h1,.inl h2,λw' z=>?_⟩;rcases z with z|⟨z1,z2⟩
   ·exact h3 w' z
   ·rw[z2];exact h0 w2<|z1▸h2
  ·rcases z with z|⟨z1,z2⟩
   ·exact b.no k' e' w' z
   ·rw[z1,e]at e';cases e'
 ·rename_i e;exact b.put (.inr rfl) (bD _) λw' z=>absurd z<|b.no k e w'
end
end Fl
namespace Pf
open Fl Pu
def Prs(nb:Zy)(ρ bot:ZG)(z:Nat)(k:ZA):Prop:=∃y,y∈nb z/\ρ y<ρ z/\bot y≠bot z/\k=(Pu.mn (bot z:Int) (bot y:Int),Pu.mx (bot z:Int) (bot y:Int))
noncomputable abbrev uB(n:Nat)(bot:ZG):List Int:=cl<|(X9 n).map bot
theorem ya{bot:ZG}(hx:x<n):Pu.at_ (uB n bot) (x:Int)=some ((bot x:Nat):Int):=by rw[cZ,X2,X2,F8 hx];rfl
section
variable {ZZ:ZI}{c:Nat}{os:ZM}{reach:Int}{bot:ZG}
theorem uC(hp:0<ZZ.length)(hc:0<c)(hcm:c<=900)(hm:ZZ.length<=900)(h:∀r∈ZZ,r.length=c)(o:Ord ZZ.flatten os)(hz:z<ZZ.length*c):
  ∃ps,Pf.pairs_at ZZ reach (uB (ZZ.length*c) bot) (z:Int)=some ps/\ps.length<=ZZ.length*c/\∀k,k∈ps↔Prs (gV ZZ.length c reach) (rk os) bot z k:=by
 have ZR:ZZ.flatten.length=ZZ.length*c:=bn h;have hb:ZZ.length*c<=900*900:=M5 hm hcm;have nbn:∀y∈gV ZZ.length c reach z,y<ZZ.length*c:=λy hy=>(fq.mp hy).1;have nl:=mH ZZ.length c reach z;have e1:Pu.du (λ(y6:Int)=>Pf.bo ZZ y6 (z:Int)) (λ(y6:Int)=>Pu.at_ (uB (ZZ.length*c) bot) y6) (cl<|gV ZZ.length c reach z)=some (((cl<|gV ZZ.length c reach z).filter λy=>decide<|rk os y.toNat<rk os z).map λy=>((bot y.toNat:Nat):Int)):=by
  refine gJ (by rw[bR];lia) (λy hy=>?_) λy hy a=>?_
  ·refine aa (hZ.mp hy) λx hx ex=>?_;subst ex;rw[d8 hc (by lia) h (nbn x hx) hz,V3,<- fz hc h (nbn x hx),<- fz hc h hz];congr 1;rw[V7,decide_eq_true_eq];exact(o.lt_iff (by rw[ZR];exact nbn x hx) (by rw[ZR];exact hz)).symm
  ·refine aa (hZ.mp hy) λx hx ex=>?_;subst ex;rw[ya (nbn x hx),V3]
 have e2:∀l:List Int,l.length<=1000000->Pu.du (λ(y9:Int)=>some<|!decide (y9=((bot z:Nat):Int))) (λ(y9:Int)=>some<|(Pu.mn ((bot z:Nat):Int) y9,Pu.mx ((bot z:Nat):Int) y9)) l=some ((l.filter λy=>!decide (y=((bot z:Nat):Int))).map λy=>(Pu.mn ((bot z:Nat):Int) y,Pu.mx ((bot z:Nat):Int) y)):=λl hl =>
  gJ hl (λa a=>rfl) λa a a=>rfl
 have l1:(((cl<|gV ZZ.length c reach z).filter λy=>decide<|rk os y.toNat<rk os z).map λy=>((bot y.toNat:Nat):Int)).length<=ZZ.length*c:=by rw[Y0];exact b8 (K9 _ _) (by rw[bR];exact nl)
 refine⟨_,by unfold Pf.pairs_at;rw[ya hz,cG,dU hp h,cG,eG hc (by lia) (by lia) hz,cG,e1,cG,e2 _ (by lia)],?_,λk=>?_⟩
 ·rw[Y0];exact b8 (K9 _ _) l1
 ·rw[U9]
  constructor
  ·intro h;refine aa h λb hb ek=>?_;refine ax (P0.mp hb) λhb nb=>?_;refine aa (U9.mp hb) λy hy ey=>?_;refine ax (P0.mp hy) λhy ly=>?_;refine aa (hZ.mp hy) λx hx ex=>?_;subst ex;rw[V3]at ly ey;subst ey;exact⟨x,hx,of_decide_eq_true ly,λz=>by rw[z]at nb;simp at nb,ek.symm⟩
  ·intro h;refine ju h λy hy ly ny ek=>⟨((bot y:Nat):Int),P0.mpr ⟨U9.mpr ⟨(y:Int),P0.mpr ⟨bB.mpr hy,by rw[V3];exact decide_eq_true ly⟩,by rw[V3]⟩,?_⟩,ek.symm⟩;rw[Bool.not_eq_true',decide_eq_false_iff_not];exact λe=>ny<|Int.ofNat_inj.mp e
abbrev SL(n:Nat)(nb:Zy)(ρ bot:ZG):Int×Int->Nat->Prop:=λk z=>z<n/\Prs nb ρ bot z k
theorem BY(hp:0<ZZ.length)(hc:0<c)(hcm:c<=12)(hm:ZZ.length<=12)(h:∀r∈ZZ,r.length=c)(o:Ord ZZ.flatten os){T:Type}{P:T->Prop}{kk:List ((Int×Int)×Int)->Option T}(hk:∀d,Best (rk os) (λz=>(z:Int)) (SL (ZZ.length*c) (gV ZZ.length c reach) (rk os) bot) d->d.length<=144*144->∃t,kk d=some t/\P t):
  ∃t,(Pu.di (λ(s5:(List<|(Int×Int)×Int)) (x4:Int)=>(Pf.pairs_at ZZ reach (uB (ZZ.length*c) bot) x4).bind λx10=>(Pu.di (λ(s7:(List<|(Int×Int)×Int)) (x6:Zg)=>if (s7).length<16777216 then (λfound9=>some<|found9) (Pu.om s7 x6 x4) else none) x10 s5).bind λ(s7:(List<|(Int×Int)×Int))=>some<|s7) (cl os)<|[]).bind kk=some t/\P t:=by
 have ZR:ZZ.flatten.length=ZZ.length*c:=bn h;have hb:ZZ.length*c<=144:=M5 hm hcm;refine mT (λi d=>Best (rk os) (λz=>(z:Int)) (λk z=>(z<ZZ.length*c/\rk os z<i)/\Prs (gV ZZ.length c reach) (rk os) bot z k) d/\d.length<=i*144) ⟨Best.nil λk w z=>absurd z.1.2<|O6 _,T3 _⟩ ?_ λd hd=>?_
 ·intro i x d hx hd;rw[X2]at hx;refine aa (P4.mp hx) λz hz ez=>?_;subst ez;have oz:=wj o hz;have hz':z<ZZ.length*c:=ZR▸oz.1;have il:i<ZZ.length*c:=by rw[<- oz.2,<- ZR];exact o.rk_lt oz.1
  refine aE (uC (reach:=reach) (bot:=bot) hp hc (by lia) (by lia) h o hz') λps eps lps mps=>?_;rw[eps,cG];refine mT (λj d'=>Best (rk os) (λz=>(z:Int)) (λk w=>((w<ZZ.length*c/\rk os w<i)/\Prs (gV ZZ.length c reach) (rk os) bot w k)\/(k∈ps.take j/\w=z)) d'/\d'.length<=d.length+j) ⟨hd.1.same λk w=>⟨.inl,λq=>q.elim id λz=>absurd z.1 (by simp)⟩,bD _⟩ ?_ λd' hd'=>⟨_,rfl,hd'.1.same λk w=>?_,?_⟩
  ·intro j p d' hj hd';have hjl:j<ps.length:=(Z6.mp hj).1;have ln:d'.length<16777216:=by lia
   refine⟨_,if_pos ln,(hd'.1.dflt (k:=p) (w0:=z) λw' q=>?_).same λk w=>?_,b8 BX (by lia)⟩
   ·rcases q with q|q
    ·rw[oz.2];exact cT q.1.2
    ·rw[q.2];exact bD _
   ·rw[List.take_add_one,hj,Option.toList_some,W0,Y3]
    constructor
    ·rintro((q|q)|q)
     ·exact .inl q
     ·exact .inr ⟨.inl q.1,q.2⟩
     ·exact .inr ⟨.inr q.1,q.2⟩
    ·rintro(q|⟨q|q,w⟩)
     ·exact .inl<|.inl q
     ·exact .inl<|.inr ⟨q,w⟩
     ·exact .inr ⟨q,w⟩
  ·rw[N6,mps]
   constructor
   ·rintro(q|⟨q,rfl⟩)
    ·exact⟨⟨q.1.1,T7 q.1.2⟩,q.2⟩
    ·exact⟨⟨hz',by rw[oz.2];exact W5 _⟩,q⟩
   ·intro q;by_cases e:rk os w<i
    ·exact .inl ⟨⟨q.1.1,e⟩,q.2⟩
    ·have e2:w=z:=Ord.inj o w z (by rw[ZR];exact q.1.1) oz.1 (by have:=q.1.2;rw[oz.2];lia);exact .inr ⟨e2▸q.2,e2⟩
  ·have:=hd'.2;have:=hd.2;lia
 ·rw[bR,o.len,ZR]at hd;refine hk d (hd.1.same λk w=>⟨λq=>⟨q.1.1,q.2⟩,λq=>⟨⟨q.1,by rw[<- ZR];exact o.rk_lt (by rw[ZR];exact q.1)⟩,q.2⟩⟩) (by have:=hd.2;exact b8 this<|G3 _ hb)
noncomputable abbrev BZ(d:List ((Int×Int)×Int)):List (Int×Int×Int):=(mq<|d.map (·.1)).map λp=>(p.1,p.2,(bT d p).getD 0)
theorem uD(hp:0<ZZ.length)(hc:0<c)(hcm:c<=12)(hm:ZZ.length<=12)(h:∀r∈ZZ,r.length=c)(ho:Pf.b7 ZZ=some (cl os))(o:Ord ZZ.flatten os)(hb:Pf.dg ZZ reach=some (uB (ZZ.length*c) bot)):
  ∃ls,Pf.gG ZZ reach=some ls/\∃d,Best (rk os) (λz=>(z:Int)) (SL (ZZ.length*c) (gV ZZ.length c reach) (rk os) bot) d/\d.length<=144*144/\ls=BZ d:=by
 unfold Pf.gG;rw[hb,cG,ho,cG];refine BY hp hc hcm hm h o λd b l=>?_;have e1:Pu.o8 (d.map (·.1))=some (mq<|d.map (·.1)):=by unfold Pu.o8;rw[if_pos ⟨by rw[Y0];exact dI l (by decide),b.nd⟩]
 have e2:Pu.comp (λ(y11:Zg)=>((Pu.bT d y11).bind λx12=>some<|(x12)).bind λx13=>some<|(y11.1,y11.2,x13)) (mq<|d.map (·.1))=some (BZ d):=by refine fu (by rw[(df _).length_eq,Y0];exact b8 l (by decide)) λp hp=>?_;refine ao (gK.mpr<|(df _).mem_iff.mp hp) λv e=>?_;rw[e];rfl
 exact⟨_,by rw[e1,cG,e2],d,b,l,rfl⟩
end
end Pf
namespace Pu
theorem ddS(acc:ZL)(a:Int)(h:acc.Nodup):(lj acc a).Nodup/\(lj acc a).length<=acc.length+1/\∀x,x∈lj acc a↔x∈acc\/x=a:=by
 unfold lj;by_cases q:a∈acc
 ·rw[if_pos (show (acc.any λx=>x==a)=true from List.any_eq_true.mpr ⟨a,q,beq_self_eq_true a⟩)];exact⟨h,P3 _,λx=>⟨.inl,λz=>z.elim id λz=>z▸q⟩⟩
 ·rw[if_neg (show ¬ (acc.any λx=>x==a)=true from λz=>aa (List.any_eq_true.mp z) λy hy e=>q<|(show y=a from eq_of_beq e)▸hy)];exact⟨List.nodup_append.mpr ⟨h,List.nodup_cons.mpr ⟨(λz=>nomatch z),List.nodup_nil⟩,λx hx y hy e=>q<|Y3.mp hy▸e▸hx⟩,by rw[Y9];exact bD _,λx=>by rw[W0,Y3]⟩
theorem ddA:∀(l acc:ZL),acc.Nodup->(l.foldl lj acc).Nodup/\(l.foldl lj acc).length<=acc.length+l.length/\∀x,x∈l.foldl lj acc↔x∈acc\/x∈l:=by
 intro l;induction l with
 |nil=>exact λacc h=>⟨h,bD _,λx=>⟨.inl,λz=>z.elim id λz=>nomatch z⟩⟩
 |cons a l ih =>
  intro acc h;refine aV (ddS acc a h) λh1 h2 h3=>aV (ih _ h1) λg1 g2 g3=>⟨g1,?_,λx=>(g3 x).trans ?_⟩
  ·rw[List.foldl_cons,V9];lia
  ·rw[h3 x,Y4,or_assoc]
end Pu
namespace Fl
open Pu Gr
section
variable {n:Nat}{nb:Zy}{ρ:ZG}{E:ZG}
theorem C0{A:ZE}(L:Low n nb ρ E)(hA:∀x,x<n->∀y∈nb x,A x y):∀(k x:Nat),x<n->ρ x<=k->E (mV E k x)=mV E k x/\ρ (mV E k x)<=ρ x/\Rch A (Lv n ρ<|ρ x+1) x (mV E k x):=by
 intro k;induction k with
 |zero=>exact λx hx h=>⟨Classical.byContradiction λz=>O6 _<|bZ (L.dn x hx z) h,bD _,.here⟩
 |succ k ih =>
  intro x hx h;unfold mV;by_cases e:E x=x
  ·rw[if_pos e];exact⟨e,bD _,.here⟩
  ·rw[if_neg e];have d:=L.dn x hx e;have i:=ih (E x) (L.lt x hx)<|T1<|bZ d h;exact⟨i.1,b8 i.2.1<|cT d,Rch.trans (.on .here (hA x hx _<|(L.mem x hx).resolve_left e) ⟨L.lt x hx,T7 d⟩) (i.2.2.mono λa b h1 h2=>⟨h1,h2.1,bZ h2.2<|N5<|cT d⟩)⟩
theorem C1(e:E x=x):mV E k x=x:=by
 cases k with
 |zero=>rfl
 |succ k=>exact if_pos e
end
structure Bots(A:ZE)(n:Nat)(ρ bot:ZG):Prop where
 lt:∀x,x<n->bot x<n
 id:∀x,x<n->bot (bot x)=bot x
 run:∀x,x<n->Rch A (Lv n ρ<|ρ x+1) x (bot x)
theorem bots_of{A:ZE}{nb:Zy}{ρ:ZG}{E:ZG}(L:Low n nb ρ E)(hA:∀x,x<n->∀y∈nb x,A x y)(hK:∀x,x<n->ρ x<=n):Bots A n ρ (mV E n) :=
 ⟨λx hx=>bon_lt L n x hx,λx hx=>C1 (C0 L hA n x hx<|hK x hx).1,λx hx=>(C0 L hA n x hx<|hK x hx).2.2⟩
structure Lines(A:ZE)(n:Nat)(ρ bot:ZG)(ls:Zc):Prop where
 out:∀t∈ls,∃a b w:Nat,t=((a:Int),(b:Int),(w:Int))/\w<n/\a<n/\b<n/\a≠b/\bot a=a/\bot b=b/\ρ a<ρ w+1/\Rch A (Lv n ρ<|ρ w+1) a b
 cross:∀u v,A u v->bot u≠bot v->∃a b w:Nat,((a:Int),(b:Int),(w:Int))∈ls/\(ρ w<=ρ u\/ρ w<=ρ v)/\(a=bot u/\b=bot v\/a=bot v/\b=bot u)
 nd:(ls.map λt=>(t.1,t.2.1)).Nodup
 len:ls.length<=144*144
section
variable {A:ZE}{n:Nat}{ρ bot:ZG}{ls:Zc}
theorem Lines.over(L:Lines A n ρ bot ls)(hx:ρ x<k)(r:Rch A (Lv n ρ k) x y)(p:Zt)(h1:p (bot x))(h2:¬ p (bot y)):∃a b w:Nat,((a:Int),(b:Int),(w:Int))∈ls/\ρ w<k/\(p a/\¬ p b\/¬ p a/\p b):=by
 induction r with
 |here=>exact absurd h1 h2
 |@on u v r a ok ih =>
  by_cases z:p (bot u)
  ·have hu:ρ u<k:=by cases r with|here=>exact hx|on _ _ o=>exact o.2
   refine cH (L.cross u v a λe=>h2<|e▸z) λa b w g1 g2 g3=>⟨a,b,w,g1,g2.elim (λq=>dI q hu) λq=>dI q ok.2,?_⟩;rcases g3 with ⟨e1,e2⟩|⟨e1,e2⟩
   ·rw[e1,e2];exact .inl ⟨z,h2⟩
   ·rw[e1,e2];exact .inr ⟨h2,z⟩
  ·exact ih z
end
theorem mnx(a b:Nat):(Pu.mn (a:Int) b,Pu.mx (a:Int) b)=((a:Int),(b:Int))\/(Pu.mn (a:Int) b,Pu.mx (a:Int) b)=((b:Int),(a:Int)):=by
 unfold Pu.mn Pu.mx;by_cases h:(b:Int)<a
 ·rw[if_pos h,if_neg (by lia)];exact .inr rfl
 ·rw[if_neg h];by_cases h2:(b:Int) > a
  ·rw[if_pos h2];exact .inl rfl
  ·rw[if_neg h2];have:(a:Int)=b:=by lia
   rw[this];exact .inl rfl
end Fl
namespace Pf
open Fl Pu Gr
section
variable {ZZ:ZI}{c:Nat}{os:ZM}{reach:Int}{bot:ZG}
theorem C2(h:∀r∈ZZ,r.length=c)(o:Ord ZZ.flatten os)(B:Bots (Nb ZZ.length c reach) (ZZ.length*c) (rk os) bot)(b:Best (rk os) (λz=>(z:Int)) (SL (ZZ.length*c) (gV ZZ.length c reach) (rk os) bot) d)(hl:d.length<=144*144):
  Lines (Nb ZZ.length c reach) (ZZ.length*c) (rk os) bot (BZ d):=by
 have ZR:ZZ.flatten.length=ZZ.length*c:=bn h;refine⟨λt ht=>?_,λu v a ne=>?_,?_,?_⟩
 ·refine aa (U9.mp ht) λp hp et=>ao (gK.mpr<|(df _).mem_iff.mp hp) λv hv=>aE (b.so p v hv) λw e1 S i=>ax S λhw S=>ju S λy g1 g2 g3 g4=>?_;have hy:y<ZZ.length*c:=(fq.mp g1).1;have nwy:=(jI hw).mpr g1;have r:Rch (Nb ZZ.length c reach) (Lv (ZZ.length*c) (rk os)<|rk os w+1) (bot w) (bot y):=((B.run w hw).symm Nb.sy ⟨hw,W5 _⟩).trans (.trans (.on .here nwy ⟨hy,T7 g2⟩) ((B.run y hy).mono λa b h1 h2=>⟨h1,h2.1,bZ h2.2<|N5<|cT g2⟩));have e:t=(p.1,p.2,(w:Int)):=by rw[<- et,hv,e1];rfl
  rcases mnx (bot w) (bot y) with z|z
  ·exact⟨bot w,bot y,w,by rw[e,g4,z],hw,B.lt w hw,B.lt y hy,R4 g3,B.id w hw,B.id y hy,((B.run w hw).ok_ ⟨hw,W5 _⟩).2,r⟩
  ·exact⟨bot y,bot w,w,by rw[e,g4,z],hw,B.lt y hy,B.lt w hw,g3,B.id y hy,B.id w hw,eJ ((B.run y hy).ok_ ⟨hy,W5 _⟩).2 (Nat.succ_lt_succ g2),r.symm Nb.sy ⟨B.lt w hw,((B.run w hw).ok_ ⟨hw,W5 _⟩).2⟩⟩
 ·have key:∀u v,Nb ZZ.length c reach u v->bot u≠bot v->rk os u<rk os v->∃a b w:Nat,((a:Int),(b:Int),(w:Int))∈BZ d/\rk os w<=rk os v/\(a=bot u/\b=bot v\/a=bot v/\b=bot u):=λu v a ne lt=>by
   have S:SL (ZZ.length*c) (gV ZZ.length c reach) (rk os) bot (Pu.mn (bot v:Int) (bot u:Int),Pu.mx (bot v:Int) (bot u:Int)) v:=⟨a.2.1,u,(jI a.2.1).mp (Nb.sy _ _ a),lt,ne,rfl⟩;cases q:bT d (Pu.mn (bot v:Int) (bot u:Int),Pu.mx (bot v:Int) (bot u:Int)) with
   |none=>exact absurd S<|b.no _ q v
   |some x =>
    refine aE (b.so _ x q) λw e1 i lw=>?_;have m:(Pu.mn (bot v:Int) (bot u:Int),Pu.mx (bot v:Int) (bot u:Int),(w:Int))∈BZ d:=U9.mpr ⟨_,(df _).mem_iff.mpr (gK.mp ⟨x,q⟩),by rw[q,e1];rfl⟩;rcases mnx (bot v) (bot u) with z|z
    ·exact⟨bot v,bot u,w,by rw[(Prod.mk.inj z).1,(Prod.mk.inj z).2]at m;exact m,lw v S,.inr ⟨rfl,rfl⟩⟩
    ·exact⟨bot u,bot v,w,by rw[(Prod.mk.inj z).1,(Prod.mk.inj z).2]at m;exact m,lw v S,.inl ⟨rfl,rfl⟩⟩
  rcases Nat.lt_trichotomy (rk os u) (rk os v) with z|z|z
  ·exact cH (key u v a ne z) λa b w g1 g2 g3=>⟨a,b,w,g1,.inr g2,g3⟩
  ·exact absurd (congrArg bot<|o.inj u v (by rw[ZR];exact a.1) (by rw[ZR];exact a.2.1) z) ne
  ·exact cH (key v u (Nb.sy _ _ a) (R4 ne) z) λa b w g1 g2 g3=>⟨a,b,w,g1,.inl g2,g3.symm⟩
 ·rw[P6];exact(show (List.map (λp=>p)<|mq<|d.map (·.1)).Nodup from by rw[List.map_id'];exact((df _).nodup_iff).mpr b.nd)
 ·rw[Y0,(df _).length_eq,Y0];exact hl
theorem pX(hp:0<ZZ.length)(hc:0<c)(hcm:c<=12)(hm:ZZ.length<=12)(h:∀r∈ZZ,r.length=c)(ZQ:ZZ.length*c<64):Pf.b7 ZZ=Pf.cO ZZ:=by refine aa (jq hp hc (b8 hcm (by decide)) (b8 hm (by decide)) h) λos e o=>aa (uu hp hc (b8 hcm (by decide)) (b8 hm (by decide)) h ZQ) λos' e' o'=>?_;rw[e,e',o.uniq o']
theorem sw(e:Pf.b7 ZZ=Pf.cO ZZ):Pf.cp ZZ=Pf.ft ZZ:=by unfold Pf.cp Pf.ft;rw[e]
theorem sA(e:Pf.b7 ZZ=Pf.cO ZZ):Pf.bQ ZZ=Pf.cX ZZ:=by unfold Pf.bQ Pf.cX;rw[e]
end
theorem zB{nb:Zy}(e2:d.map (·.1)=cl ks)(e3:ks.Nodup)(e5:Par nb ZO d)(hi:ks[i]?=some u)(ne:u≠ZO):∃p j:Nat,j<i/\ks[j]?=some p/\find d (u:Int)=some (some (p:Int)):=by
 have dk:∀i:Nat,(d[i]?).map (·.1)=(ks[i]?).map λ(y:Nat)=>(y:Int):=λi=>by rw[<- X2,e2];unfold cl;rw[X2]
 have q:=(dk i).trans (congrArg (Option.map _) hi);refine aa (P4.mp q) λe he hek=>?_;rcases e5 i e he with z|z
 ·exact absurd (N4<|hek.symm.trans<|congrArg Prod.fst z.2) ne
 ·refine dh z λj p k hj ee hp hk=>?_;have ku:k=u:=N4<|(congrArg Prod.fst ee).symm.trans hek;refine aa (P4.mp<|(dk j).symm.trans hp) λy hy e'=>?_;exact d4 p j hj (hy.trans<|congrArg some<|N4 e')<|find_at (by rw[e2];exact ur e3)<|he.trans (by rw[ee,ku])
theorem yb(w:ZL)(u:Nat):((w++[(u:Int)]).getLastD 0).toNat=u:=by simp
theorem C3{ks:ZM}(e3:ks.Nodup)(hy:ks[i]?=some y):ks.idxOf y=i:=by have hi:=Z6.mp hy;rw[<- hi.2];exact e3.idxOf_getElem i hi.1
theorem C4{reach:Int}(hc:0<c)(hcm:c<=100)(hm:ZZ.length<=100)(h:∀r∈ZZ,r.length=c)(ZQ:ZZ.length*c<64)(o:Ord ZZ.flatten os)(h2:ZO<ZZ.length*c)(h3:last<ZZ.length*c)(hj:Rch (Nb ZZ.length c reach) (Lv (ZZ.length*c) (rk os)<|rk os last+1) ZO one):∃w,Pf.jc ZZ reach (one:Int) (ZO:Int) (last:Int)=some w:=by
 refine fk (kI (reach:=reach) hc hcm hm h h2 h3) λd ks e1 e2 e3 e4 e5=>?_;have kl:ks.length<64:=dI (jY _ e3 λy hy=>by
  cases (xZ hc h o h2 h3).mp ((e4 y).mp hy) with
  |here=>exact h2
  |on _ _ g=>exact g.1) ZQ
 have hone:one∈ks:=(e4 one).mpr ((xZ hc h o h2 h3).mpr hj);refine aa (whS_ex (P:=λa=>True) (k:=some) (n:=100000) (s:=[(one:Int)]) (t:=λs=>(Pu.at_ s<|-1).bind λx=>some<|!decide (x=(ZO:Int))) (f:=λs=>(((Pu.at_ s<|-1).bind λx=>Pu.find d x).bind λx=>x).bind λx=>(Pu.app s x).bind λz=>some z)
  (λs=>∃(w:ZL) (u i:Nat),s=w++[(u:Int)]/\ks[i]?=some u/\w.length+i<64) (λs=>ks.idxOf (s.getLastD 0).toNat) ?_ (eJ (List.idxOf_lt_length_iff.mpr hone)<|eJ kl (by decide)) (λs zq=>cH zq λw u i es hi hw=>?_) λs a a=>aF s rfl trivial) λw e a=>⟨w,cr e1 e⟩
 ·refine ao (List.mem_iff_getElem?.mp hone) λi hi=>?_;exact pe [] one i rfl hi (by rw[List.length_nil,Nat.zero_add];exact eJ (Z6.mp hi).1 kl)
 ·have atU:Pu.at_ s (-1)=some (u:Int):=es▸at_last _ _;refine aF _ (cr atU rfl) λhne=>?_;have hne:u≠ZO:=λz=>by rw[z]at hne;simp at hne
  refine ay (zB e2 e3 e5 hi hne) λp j hj hp hf=>?_;have sl:s.length=w.length+1:=es▸Y9;have s64:s.length+j<64:=by rw[sl];lia
  refine cD (s++[(p:Int)]) (cr (cr (cr atU hf) rfl)<|cr (oF<|b8 (T4 _ j)<|b8 (cT s64) (by decide)) rfl) (pe s p j rfl hp s64) ?_;rw[yb,C3 e3 hp,es,yb,C3 e3 hi];exact hj
section
variable {ZZ:ZI}{c:Nat}{os:ZM}{reach:Int}
theorem wo(hc:0<c)(hcm:c<=100)(hm:ZZ.length<=100)(h:∀r∈ZZ,r.length=c)(ZQ:ZZ.length*c<64)(hx:x<ZZ.length*c)(hl:last<ZZ.length*c):∃ks,Pf.cz ZZ reach (x:Int) (last:Int)=some ks:=by
 unfold Pf.cz;rw[d8 hc (b8 hcm (by decide)) h hl hx,bs];cases cx (key ZZ c last) (key ZZ c x) with
 |true=>exact⟨_,rfl⟩
 |false =>
  refine fk (kI (reach:=reach) hc hcm hm h hx hl) λd ks e1 e2 e3 e4 a=>⟨_,(if_neg Z7).trans (cr e1<|if_pos ?_)⟩;rw[e2,bR];refine dI (jY _ e3 λk hk=>?_) ZQ;cases (e4 k).mp hk with
  |here=>exact hx
  |on _ h1 _=>exact(fq.mp h1).1
theorem wq(hc:0<c)(hcm:c<=100)(hm:ZZ.length<=100)(h:∀r∈ZZ,r.length=c)(ZQ:ZZ.length*c<64)(o:Ord ZZ.flatten os)(eo:Pf.cO ZZ=some (cl os))(hx:x<ZZ.length*c)(hl:later<ZZ.length*c):∃ks,Pf.cX ZZ reach (x:Int) (later:Int)=some ks:=by
 have ZR:ZZ.flatten.length=ZZ.length*c:=bn h;unfold Pf.cX;rw[d8 hc (b8 hcm (by decide)) h hx hl,bs,bs];cases q:cx (key ZZ c x) (key ZZ c later) with
 |false=>exact⟨_,rfl⟩
 |true =>
  rw[<- fz hc h hx,<- fz hc h hl]at q;have lt:=(o.lt_iff (ZR.symm▸hx)<|ZR.symm▸hl).mpr q;have hlo:=o.at_rk (x:=later)<|ZR.symm▸hl;have h1:(cl os)[rk os later]?=some (later:Int):=by unfold cl;rw[X2,hlo];rfl
  have ei:Pu.index (cl os) (later:Int)=some (rk os later:Int):=(if_pos ⟨bB.mpr<|o.mem.mpr<|ZR.symm▸hl,by rw[bR,o.len,ZR];exact b8 (cT ZQ) (by decide)⟩).trans (by
   have e:=Z6.mp h1;rw[<- e.2,(ur o.nd).idxOf_getElem _ e.1])
  have hr:rk os later-1<os.length:=dI (Nat.sub_le _ _)<|o.len.symm▸o.rk_lt (ZR.symm▸hl);have hlp:=Y5 hr;have ea:Pu.at_ (cl os) ((rk os later:Int)-1)=some ((os[rk os later-1]:Nat):Int):=by rw[show ((rk os later:Int)-1)=((rk os later-1:Nat):Int) by lia,cZ];unfold cl;rw[X2,hlp];rfl
  exact ao (wo (reach:=reach) hc hcm hm h ZQ hx (last:=os[rk os later-1])<|ZR▸o.mem.mp (E9 hr)) λks e=>⟨ks,(if_neg Z7).trans (cr eo<|cr (cr (cr ei rfl) ea) e)⟩
end
end Pf
namespace K24
open PySem PySem.Spec PyProof.Rows L2
noncomputable def top(i:Nat):Stmt:=PySem.Challenge.pw_floodtree_k24_whole_passes_by_lines.main.body.getD i<|.Pass ⟨0,0,0,0⟩
noncomputable abbrev C5:=@L2.vD
noncomputable abbrev yc:List Str:=["floor"]
noncomputable abbrev yd:List Str:=["self","cell"]
noncomputable abbrev zC:List Str:=["floor","reach"]
noncomputable abbrev pl3:List Str:=["floor","cell"]
noncomputable abbrev pl4:List Str:=["floor","reach","cell","last"]
noncomputable abbrev pl5:List Str:=["floor","reach","one","other"]
noncomputable abbrev pl6:List Str:=["self","floor"]
noncomputable abbrev pl7:List Str:=["floor","cells"]
noncomputable abbrev pl8:List Str:=["self","floor","reach"]
noncomputable abbrev pl9:List Str:=["self","starts","meet"]
noncomputable abbrev C6:List Str:=["_law_script","_law_k"]
noncomputable abbrev C7:List Str:=["floor","one","other"]
noncomputable abbrev pl12:List Str:=["_law_cell","_law_many","_law_base"]
noncomputable abbrev pl13:List Str:=["_law_script","_law_k","_law_top"]
noncomputable abbrev pl14:List Str:=["_law_script","_law_k","_law_kind","_law_row","_law_column"]
noncomputable abbrev pl15:List Str:=["_law_script","_law_most"]
noncomputable abbrev pl16:List Str:=["_law_floor_here"]
noncomputable abbrev pl17:List Str:=["size","reach","cell"]
noncomputable abbrev pl18:List Str:=["floor","reach","cell"]
noncomputable abbrev pl19:List Str:=["floor","reach","basins","cell"]
noncomputable abbrev pl20:List Str:=["floor","reach","one","other","last"]
noncomputable abbrev pl21:List Str:=["floor","reach","cell","later"]
noncomputable abbrev pl22:List Str:=["_law_floor_here","_law_reach","_law_one","_law_other","_law_due"]
noncomputable abbrev pl23:List Str:=["_law_keys_here","_law_lines","_law_one","_law_other"]
noncomputable abbrev oK:Stmt:=top 31
noncomputable abbrev lD:Stmt:=top 28
noncomputable abbrev oM:Stmt:=top 29
noncomputable abbrev oN:Stmt:=top 30
noncomputable abbrev sB:Stmt:=top 32
noncomputable abbrev wt:Stmt:=top 33
noncomputable abbrev lE:Stmt:=top 2
noncomputable abbrev iR:Stmt:=top 5
noncomputable abbrev i6:Stmt:=top 3
noncomputable abbrev iS:Stmt:=top 4
noncomputable abbrev iT:Stmt:=top 6
noncomputable abbrev cC:Stmt:=top 8
noncomputable abbrev lF:Stmt:=top 14
noncomputable abbrev jJ:Stmt:=top 15
noncomputable abbrev dW:Stmt:=top 9
noncomputable abbrev iU:Stmt:=top 16
noncomputable abbrev fS:Stmt:=top 7
noncomputable abbrev jK:Stmt:=top 17
noncomputable abbrev jL:Stmt:=top 18
noncomputable abbrev bq:Stmt:=inClass (top 11) 0
noncomputable abbrev bO:Stmt:=inClass (top 12) 0
noncomputable abbrev cQ:Stmt:=inClass (top 12) 2
noncomputable abbrev dD:Stmt:=inClass (top 11) 1
noncomputable abbrev d3:Stmt:=inClass (top 11) 2
noncomputable abbrev dX:Stmt:=inClass (top 12) 3
noncomputable abbrev dE:Stmt:=inClass (top 12) 1
noncomputable abbrev cR:Stmt:=top 24
noncomputable abbrev iV:Stmt:=top 20
noncomputable abbrev iW:Stmt:=top 25
noncomputable abbrev fh:Stmt:=top 21
noncomputable abbrev dc:Stmt:=top 22
noncomputable abbrev fT:Stmt:=top 26
noncomputable abbrev oO:Stmt:=top 36
noncomputable abbrev oP:Stmt:=top 35
noncomputable abbrev kK:Stmt:=top 37
section
variable [Kn:Kon](P:U4)(w:World){K:Z4}{mg:ZH}(base:Heap)
variable {CM CW:Addr}
section
variable [Kn:Kon](P:U4)(w:World)(K:Z4)(mg:ZH)(base:Heap)(CM CW:Addr)
abbrev eU:Prop:=i9 P w K mg base 2 "all_cells" yc (qm (cm<|rL<|rL a9) a9 λx=>Pf.cW x)
abbrev jk:Prop:=z7 P w K mg base 1 "Meetings" CM pl6 (spIM CM)
abbrev dF:Prop:=lz P w K mg base 1 CM "living" ["self","start"] (p8 (aG (rM CM)<|cm<|fg a9) (fg a9) λx=>Pf.aO x.1 x.2)
abbrev jr:Prop:=i9 P w K mg base 7 "earliest_of" pl7 (p8 (aG (rL<|rL a9)<|cm<|rL a9) a9 λx=>Pf.bN x.1 x.2)
abbrev eW:Prop:=lz P w K mg base 2 CW "homes_around" yd (qm (aG (rW CM CW)<|cm a9) a9 λx=>Pf.bz x.1 x.2)
abbrev jl:Prop:=lz P w K mg base 8 CM "let_meet" pl9 (spM CM (aG (rL a9)<|cm a9) a9 λx=>Pf.bp x.1 x.2.1 x.2.2)
abbrev lG:Prop:=z7 P w K mg base 4 "Water" CW pl8 (spIW CM CW λx=>Pf.hW x)
abbrev i7:Prop:=i9 P w K mg base 7 "in_order" yc (qm (cm<|rL<|rL a9) a9 λx=>Pf.b7 x)
abbrev lH:Prop:=lz P w K mg base 9 CW "let_come" yd (spW CM CW (cm a9) λx=>Pf.bA x.1 x.2)
abbrev gj:Prop:=lz P w K mg base 2 CW "start_now" yd (p8 (aG (rW CM CW)<|cm a9) (fg a9) λx=>Pf.aR x.1 x.2)
abbrev uE:Prop:=i9 P w K mg base 1 "_law_digits" pl12 (qm (aG a9<|aG a9<|cm a9) a9 λx=>Pf.digits x.1 x.2.1 x.2.2)
abbrev jg:Prop:=i9 P w K mg base 1 "_law_cell_at" C6 (p8 (aG (nF K)<|cm a9) a9 λx=>Pf.eE x.1 x.2)
abbrev oQ:Prop:=i9 P w K mg base 2 "_law_number" pl13 (p8 (aG (nF K)<|aG a9<|cm a9) a9 λx=>Pf.cn x.1 x.2.1 x.2.2)
abbrev uF:Prop:=i9 P w K mg base 3 "_law_height" pl14 (p8 (aG (nF K)<|aG a9<|aG a9<|aG a9<|cm a9) a9 λx=>Pf.bY x.1 x.2.1 x.2.2.1 x.2.2.2.1 x.2.2.2.2)
abbrev ye:Prop:=i9 P w K mg base 4 "_law_floor" pl15 (qm (aG (nF K)<|cm a9) (rL a9) λx=>Pf.iO x.1 x.2)
abbrev C8:Prop:=i9 P w K mg base 1 "_law_keys" pl16 (qm (cm<|rL<|rL a9) (cF a9 a9) λx=>Pf.kF x)
abbrev dY:Prop:=i9 P w K mg base 1 "size_of" yc (p8 (cm<|rL<|rL a9) (cF a9 a9) λx=>Pf.size_of x)
abbrev dG:Prop:=i9 P w K mg base 1 "neighbours" pl17 (qm (aG (cF a9 a9)<|aG a9<|cm a9) a9 λx=>Pf.cN x.1 x.2.1 x.2.2)
abbrev lT:Prop:=i9 P w K mg base 2 "height_of" pl3 (p8 (aG (rL<|rL a9)<|cm a9) a9 λx=>Pf.gD x.1 x.2)
abbrev gk:Prop:=i9 P w K mg base 3 "order_key" pl3 (p8 (aG (rL<|rL a9)<|cm a9) (cF a9 a9) λx=>Pf.bW x.1 x.2)
abbrev qz:Prop:=i9 P w K mg base 8 "fall_of" pl18 (p8 (aG (rL<|rL a9)<|aG a9<|cm a9) (fg a9) λx=>Pf.mS x.1 x.2.1 x.2.2)
abbrev oS:Prop:=i9 P w K mg base 9 "falls_of" zC (qm (aG (rL<|rL a9)<|cm a9) (fg a9) λx=>Pf.gF x.1 x.2)
abbrev iX:Prop:=i9 P w K mg base 10 "basins_of" zC (qm (aG (rL<|rL a9)<|cm a9) a9 λx=>Pf.dg x.1 x.2)
abbrev cS:Prop:=i9 P w K mg base 4 "comes_before" C7 (p8 (aG (rL<|rL a9)<|aG a9<|cm a9) bF λx=>Pf.bo x.1 x.2.1 x.2.2)
abbrev oU:Prop:=i9 P w K mg base 5 "pairs_at" pl19 (qm (aG (rL<|rL a9)<|aG a9<|aG (rL a9)<|cm a9) (cF a9 a9) λx=>Pf.pairs_at x.1 x.2.1 x.2.2.1 x.2.2.2)
abbrev oV:Prop:=i9 P w K mg base 11 "lines_of" zC (qm (aG (rL<|rL a9)<|cm a9) (ml a9 a9 a9) λx=>Pf.gG x.1 x.2)
abbrev iY:Prop:=i9 P w K mg base 5 "ways_back" pl4 (spD (aG (rL<|rL a9)<|aG a9<|aG a9<|cm a9) (fg a9) λx=>Pf.gE x.1 x.2.1 x.2.2.1 x.2.2.2)
abbrev lV:Prop:=i9 P w K mg base 6 "way_under" pl20 (qm (aG (rL<|rL a9)<|aG a9<|aG a9<|aG a9<|cm a9) a9 λx=>Pf.jc x.1 x.2.1 x.2.2.1 x.2.2.2.1 x.2.2.2.2)
abbrev ib:Prop:=i9 P w K mg base 6 "stretch_under" pl4 (qm (aG (rL<|rL a9)<|aG a9<|aG a9<|cm a9) a9 λx=>Pf.cz x.1 x.2.1 x.2.2.1 x.2.2.2)
abbrev fU:Prop:=i9 P w K mg base 8 "stretch_ahead_of" pl21 (qm (aG (rL<|rL a9)<|aG a9<|aG a9<|cm a9) a9 λx=>Pf.bQ x.1 x.2.1 x.2.2.1 x.2.2.2)
abbrev oW:Prop:=i9 P w K mg base 11 "joining_cell" pl5 (p8 (aG rF<|aG a9<|aG a9<|cm a9) (fg a9) λx=>Pf.cp x.1 x.2.1 x.2.2.1 x.2.2.2)
abbrev iZ:Prop:=i9 P w K mg base 12 "pass_between" pl5 (p8 (aG (rL<|rL a9)<|aG a9<|aG a9<|cm a9) (ml a9 (rL a9)<|rL a9) λx=>Pf.fR x.1 x.2.1 x.2.2.1 x.2.2.2)
abbrev uG:Prop:=i9 P w K mg base 13 "_law_passed" pl22 (p8 (aG (rL<|rL a9)<|aG a9<|aG a9<|aG a9<|cm a9) bF λx=>Pf.dS x.1 x.2.1 x.2.2.1 x.2.2.2.1 x.2.2.2.2)
abbrev uH:Prop:=i9 P w K mg base 1 "_law_joined" pl23 (p8 (aG (rL<|cF a9 a9)<|aG (rL<|ml a9 a9 a9)<|aG a9<|cm a9) (fg<|cF a9 a9) λx=>Pf.fJ x.1 x.2.1 x.2.2.1 x.2.2.2)
end
theorem qA:FnScope ["_law_cell","_law_many","_law_base","_law_found","_law_k"] pl12 (ah oK):=by constructor<;>first|rfl|decide +kernel
theorem oX:FnScope C6 C6 (ah lD):=by constructor<;>first|rfl|decide +kernel
theorem qB:FnScope ["_law_script","_law_k","_law_top","_law_cell","_law_high","_law_low"] pl13 (ah oM):=by constructor<;>first|rfl|decide +kernel
theorem qC:FnScope ["_law_script","_law_k","_law_kind","_law_row","_law_column","_law_nest"] pl14 (ah oN):=by constructor<;>first|rfl|decide +kernel
theorem uI:FnScope ["_law_script","_law_most","_law_told","_law_size","_law_rows","_law_row","_law_head","_law_columns","_law_kind","_law_floor_here","_law_at"] pl15 (ah sB):=by constructor<;>first|rfl|decide +kernel
theorem yf:FnScope ["_law_floor_here","_law_heights","_law_row"] pl16 (ah wt):=by constructor<;>first|rfl|decide +kernel
theorem oY:FnScope ["floor","columns"] yc (ah lE):=by constructor<;>first|rfl|decide +kernel
theorem kL:FnScope ["floor","size"] yc (ah iR):=by constructor<;>first|rfl|decide +kernel
theorem js:FnScope ["size","reach","cell","row","column","most_steps","found","other_row","other_column"] pl17 (ah i6):=by constructor<;>first|rfl|decide +kernel
theorem kN:FnScope ["floor","cell","columns"] pl3 (ah iS):=by constructor<;>first|rfl|decide +kernel
theorem kO:FnScope pl3 pl3 (ah iT):=by constructor<;>first|rfl|decide +kernel
theorem j1:FnScope pl7 pl7 (ah cC):=by constructor<;>first|rfl|decide +kernel
theorem oZ:FnScope ["floor","reach","cell","around","earliest"] pl18 (ah lF):=by constructor<;>first|rfl|decide +kernel
theorem lW:FnScope zC zC (ah jJ):=by constructor<;>first|rfl|decide +kernel
theorem lX:FnScope yc yc (ah dW):=by constructor<;>first|rfl|decide +kernel
theorem kP:FnScope ["floor","reach","falls","bottoms","cell"] zC (ah iU):=by constructor<;>first|rfl|decide +kernel
theorem ic:FnScope C7 C7 (ah fS):=by constructor<;>first|rfl|decide +kernel
theorem lY:FnScope ["floor","reach","basins","cell","own","around","bottoms"] pl19 (ah jK):=by constructor<;>first|rfl|decide +kernel
theorem lZ:FnScope ["floor","reach","basins","found","cell","pair"] zC (ah jL):=by constructor<;>first|rfl|decide +kernel
theorem dN:FnScope ["self","cell","around"] yd (ah cQ):=by constructor<;>first|rfl|decide +kernel
theorem fV:FnScope ["self","start","here"] ["self","start"] (ah dD):=by constructor<;>first|rfl|decide +kernel
theorem fW:FnScope yd yd (ah dE):=by constructor<;>first|rfl|decide +kernel
theorem kQ:FnScope ["floor","reach","cell","last","size","back","waiting","here","other"] pl4 (ah iV):=by constructor<;>first|rfl|decide +kernel
theorem kR:FnScope ["floor","reach","one","other","last","back","way"] pl20 (ah iW):=by constructor<;>first|rfl|decide +kernel
theorem gL:FnScope pl4 pl4 (ah fh):=by constructor<;>first|rfl|decide +kernel
theorem fj:FnScope ["floor","reach","cell","later","order"] pl21 (ah dc):=by constructor<;>first|rfl|decide +kernel
theorem ie:FnScope ["floor","reach","one","other","latest","way"] pl5 (ah fT):=by constructor<;>first|rfl|decide +kernel
theorem qD:FnScope ["_law_floor_here","_law_reach","_law_one","_law_other","_law_due","_law_found"] pl22 (ah oO):=by constructor<;>first|rfl|decide +kernel
theorem qE:FnScope ["_law_keys_here","_law_lines","_law_one","_law_other","_law_group","_law_latest","_law_left","_law_some"] pl23 (ah oP):=by constructor<;>first|rfl|decide +kernel
theorem C9:FnScope ["_law_script","_law_floor_here","_law_reach","_law_keys_here","_law_bottoms","_law_lines","_law_first","_law_here","_law_latest","_law_k","_law_some","_law_one","_law_other","_law_cell","_law_due"] ["_law_script"] (ah kK):=by constructor<;>first|rfl|decide +kernel
variable (B:Blt mg)(kM:MK K CM)(kW:WK K CW)
include B kM kW
theorem j2(D:jE K mg "Meetings" CM "Meetings.__init__" bq pl6):z7 P w K mg base 1 "Meetings" CM pl6 (spIM CM):=by
 have sc:FnScope pl6 pl6 (ah bq):=by constructor<;>first|rfl|decide +kernel
 refine D.has sc (λvs H Q E h=>?_) λf ZP A outer s H vs Q E hr h=>?_
 ·exact fM h λx x x e x=>congrArg List.length e
 ·exact⟨_,af (kY (pv 0) (pv 1) rfl)<|aw<|kY (pv 0) sX rfl,init_M kM rfl h⟩
theorem kT(D:jE K mg "Water" CW "Water.__init__" bO pl8)(G01:eU P w K mg base)(G80:jk P w K mg base CM):z7 P w K mg base 4 "Water" CW pl8 (spIW CM CW λx=>Pf.hW x):=by
 have sc:FnScope pl8 pl8 (ah bO):=by constructor<;>first|rfl|decide +kernel
 refine D.has sc (λvs H Q E h=>?_) λf ZP A outer s H vs Q E hr h=>?_
 ·exact gu h λa a a zy0=>gu zy0 λa a a zy1=>aa zy1 λa e a=> congrArg List.length e
 ·exact⟨_,af (kY (pv 0) (pv 1) rfl) (af (kY (pv 0) (pv 2) rfl) (af (kY (pv 0) (dZ (loc:=["cell"]) (cap:=[]) rfl ⟨rfl,by decide +kernel,by decide +kernel,rfl,trivial,rfl⟩ (bu (K:=K) rfl<|av G01 (hr.mono (by decide)) rfl<|a8 (pv 1) ag) (λa a a a=>(aN (i:=0) (show (["cell"]:List Str).Nodup by decide +kernel) rfl<|Or.inl rfl)) (λa a a a=>dt) λa a a a=>gO) rfl)
   (aw<|kY (pv 0) (tH G80 (hr.mono (by decide)) rfl<|a8 (pv 1) ag) rfl))),
   init_W kW (λZZ reach=>(show ia _ _ _ _ from dv (bS bi (aU<|aA<|a7 1 rfl).ev) (by decide) (by decide) (bb 0) λy=>k0).cast (by unfold Pf.hW;simp only[Pu.bs])) rfl h⟩
theorem j3(D:cb K CM "let_meet" "Meetings.let_meet" d3 pl9)(G15:dF P w K mg base CM)(G16:jr P w K mg base):lz P w K mg base 8 CM "let_meet" pl9 (spM CM (aG (rL a9)<|cm a9) a9 λx=>Pf.bp x.1 x.2.1 x.2.2):=by
  have sc:FnScope ["self","starts","meet","#ended","met","elder","start"] pl9 (ah d3):=by constructor<;>first|rfl|decide +kernel
  have nd:=sc.nd;refine D.pM (n:=3) (gx:="#ended") sc (λh=>rfl) rfl rfl (by decide +kernel) λf ZP A outer s H E hr=>?_;have hu:=bC hr;refine⟨_,af (gW (loc:=["start"]) (cap:=[("self",0)]) (i:=4) rfl ⟨rfl,by decide +kernel,by decide +kernel,rfl,⟨⟨rfl,rfl,by first|exact Or.inl rfl|exact Or.inr rfl⟩,trivial⟩,rfl⟩ nd rfl (Or.inl rfl) (bu (K:=K) rfl<|pv 1) (λh h h h=>(aN (i:=0) (show (["start","self"]:List Str).Nodup by decide +kernel) rfl<|Or.inl rfl)) (λh h h h=>dt) λh h h h=>(fP G15 (pv 1) kM.c (hr.mono (by decide))<|a8 (pv 0) ag))
    (af (az (i:=5) nd rfl (Or.inl rfl)<|av G16 (hr.mono (by decide)) rfl<|a8 (d6 (K:=K) rfl (pv 0) rfl)<|a8 (pv 4) ag)
    (af (eZ R8 rfl (bu (K:=K) rfl<|pv 4) (aN (i:=6) nd rfl<|Or.inl rfl)
      (aw<|eK (ba qa (pv 6) (pv 5)<|bx _) (aw<|qO hu (d6 (K:=K) rfl (pv 0) rfl) (pv 6) (iB<|a8 (pv 2)<|a8 (pv 5) ag) rfl) c6))
    (aw<|aK<|pv 5))),λZZ p ended a=>BV.cast
    (aD 4 (B2 0 3 rfl rfl cK (dv (bS bi<|a7 1 rfl) (by decide) (by decide) (bb 0) λy=>iH<|mN ob_m (a7 1 rfl)<|aA<|g9<|a7 0 rfl)).ev λmet =>
     aD 5 (aM<|aj (vI kM<|a7 0 rfl)<|aA<|a7 4 rfl) λelder =>
     eB (Γf:=λ(s:bP)=>[.fr (sJ CM) (ZZ,p),.fr (rL a9) a.1,.fr a9 a.2,.od rP (λb=>b=p) s,.fr (rL a9) met,.fr a9 elder,.any]) ended (bS bi<|a7 4 rfl) (aB<|aB<|aB<|aB<|aB<|aB<|da .nil) (λh=>bb 6)
      (λs x=>bL (eS (cy<|lf gb (a7 6 rfl)<|a7 5 rfl)
        (xr 3 (own_mE kM 0 3 rfl rfl) rfl (a7 6 rfl) (k7 (g9<|a7 2 rfl)<|g9<|a7 5 rfl) λy=>cj y<|aB<|aB<|aB<|aB<|aB<|aB<|da .nil)
        (c7<|cj s<|aB<|aB<|aB<|aB<|aB<|aB<|da .nil)))
      λs=>bv_retM 3 rfl<|a7 5 rfl)
    (by unfold Pf.bp;first|(simp only[Pu.bs,i8];done)|(simp only[Pu.bs,i8];rfl))⟩
theorem kU(D:cb K CW "let_come" "Water.let_come" dX yd)(G81:eW P w K mg base CM CW)(G82:jl P w K mg base CM):lz P w K mg base 9 CW "let_come" yd (spW CM CW (cm a9) λx=>Pf.bA x.1 x.2):=by
  have sc:FnScope ["self","cell","#homes","#ended","homes"] yd (ah dX):=by constructor<;>first|rfl|decide +kernel
  have nd:=sc.nd;refine D.pW (n:=1) (gx:="#homes") (gy:="#ended") sc (λb=>rfl) rfl rfl (by decide +kernel) rfl (by decide +kernel) λf ZP A outer s H E hr=>?_;have hu:=bC hr;refine⟨_,af (az (i:=4) nd rfl (Or.inl rfl)<|fP G81 (pv 0) kW.c (hr.mono (by decide))<|a8 (pv 1) ag)
    (aw<|zS (iA (qR (K:=K) rfl (pv 4) λb=>rfl) (fP G82 (d6 (K:=K) rfl (pv 0) rfl) kM.c (hr.mono (by decide))<|a8 (pv 4)<|a8 (pv 1) ag)<|pv 1)<|pg_sub (d6 (K:=K) rfl (pv 0) rfl) (pv 1) set_list),λZZ reach hh p homes ended a=>BV.cast
    (aD 4 (B3 0 2 3 rfl rfl rfl (by decide) cK<|B1 ob_w (a7 0 rfl)<|aA<|a7 1 rfl).ev λhs =>
     bL (z6 (g:=3) 2 (by decide) (λe=>own_wH kW 0 2 rfl rfl) rfl (λe=>a7 1 rfl) (em_some<|em_if (qZ bi<|a7 4 rfl) (em_meth kW 0 rfl rfl<|aj (a7 4 rfl)<|aA<|a7 1 rfl)<|em_pure rfl<|a7 1 rfl)
      λys e=>bv_endW 2 3 rfl rfl))
    (by unfold Pf.bA;first|(simp only[Pu.bs,i8];done)|(simp only[Pu.bs,i8];rfl))⟩
theorem mB(D:aL K mg "joining_cell" cR pl5)(G83:lG P w K mg base CM CW)(G02:i7 P w K mg base)(G84:lH P w K mg base CM CW)(G73:gj P w K mg base CM CW):i9 P w K mg base 11 "joining_cell" pl5 (p8 (aG rF<|aG a9<|aG a9<|cm a9) (fg a9) λx=>Pf.cp x.1 x.2.1 x.2.2.1 x.2.2.2):=by
  have sc:FnScope ["floor","reach","one","other","#homes","#ended","water","cell","start"] pl5 (ah cR):=by constructor<;>first|rfl|decide +kernel
  have nd:=sc.nd;refine D.pV sc (λy=>rfl) rfl λf ZP A outer s H E hr=>?_;have hu:=bC hr;refine⟨_,af (az (i:=6) nd rfl (Or.inl rfl)<|tH G83 (hr.mono (by decide)) rfl<|a8 (pv 0)<|a8 (pv 1) ag)
    (B4 (x:="#homes") 4 (B4 (x:="#ended") 5 (af (eZ R8 rfl (bu (K:=K) rfl<|av G02 (hr.mono (by decide)) rfl<|a8 (pv 0) ag) (aN (i:=7) nd rfl<|Or.inl rfl)
      (af (gQ<|fP G84 (pv 6) kW.c (hr.mono (by decide))<|a8 (pv 7) ag)
      (af (az (i:=8) nd rfl (Or.inl rfl)<|fP G73 (pv 6) kW.c (hr.mono (by decide))<|a8 (pv 2) ag)
      (aw<|eK (PW.pt<|zO (ba wH (pv 8) gO<|bx _)<|wA<|ba jn (pv 8) (fP G73 (pv 6) kW.c (hr.mono (by decide))<|a8 (pv 3) ag)<|bx _) (aw<|aK<|pv 7) c6))))
      (aw<|aK gO)) rfl (show lO (ah cR) "#ended"=true by decide +kernel)) rfl (show lO (ah cR) "#homes"=true by decide +kernel)),λa=>BV.cast
    (bv_make 6 4 5 ⟨by decide,by decide,by decide,(show 4<9 by decide),(show 5<9 by decide)⟩ (aj (a7 0 rfl)<|aA<|a7 1 rfl) λZZ reach hh p homes =>
     rB (Γf:=λ(s:List (Option Int)×bP)=>[.fr rF a.1,.fr a9 a.2.1,.fr a9 a.2.2.1,.fr a9 a.2.2.2,.ol (fg a9) (λb=>b=hh) s.1,.od rP (λb=>b=p) s.2,.fr (p9 CM CW) (ZZ,reach,hh,p),.any,.any]) (rf:=rq<|fg a9) (e:=(λx=>x)) (homes,[]) (bS bi (aU<|aA<|a7 0 rfl).ev) (aB<|aB<|aB<|aB<|aB<|aB<|aB<|da<|da .nil) (λy=>bb 7)
      (λs x=>bv_come 6 4 5 (by decide) rfl rfl rfl (aA<|a7 7 rfl) (λhs es =>
        aD 8 (xC 6 4 5 rfl rfl rfl (by decide) (wW cK)<|mN ob_w (a7 6 rfl)<|aA<|a7 2 rfl) λst =>
        bL (eS (Az (cy<|xi (a7 8 rfl) vp)<|cy<|gs sc_oo (a7 8 rfl)<|xC 6 4 5 rfl rfl rfl (by decide) (wW cK)<|mN ob_w (a7 6 rfl)<|aA<|a7 3 rfl)
          (d5<|mJ<|bI<|g9<|a7 7 rfl)
          (c7<|nK (hs,es)<|aB<|aB<|aB<|aB<|aB<|aB<|aB<|da<|da .nil)) ) ob_w0)
      rfV (λy y y h=>h) λs=>bI k0)
    (by unfold Pf.cp;first|(simp only[Pu.bs,i8];done)|(simp only[Pu.bs,i8];rfl))⟩
theorem zD(D:aL K mg "_law_digits" oK pl12) :uE P w K mg base:=by
 have nd:=qA.nd;refine D.pL qA (λx=>rfl) rfl λf ZP A outer s H E hr=>?_;have hu:=bC hr;exact⟨_,(af (az (i:=3) nd rfl (Or.inl rfl)<|cJ ag)
   (af (eZ R8 rfl (gz rfl B.range<|a8 (pv 1) ag) (aN (i:=4) nd rfl<|Or.inl rfl)
   (af (gQ<|jB (K:=K) rfl N1 J6 J7 fF (pv 3)<|a8 (aC dq (pv 0)<|pv 2) ag)
   (aw<|az (i:=0) nd rfl (Or.inl rfl)<|aC eO (pv 0)<|pv 2)))
   (aw<|aK<|nr (nC (K:=K) rfl) (pv 3) po_none<|jU<|aC cY (pv 1)<|l6 yp (by rfl) B.int_ Ap<|a8 (j6 op_gt (pv 0) ak<|bx _) ag))),
  λa=>BV.cast (kg 3 (ci (r:=a9) ce) λfound1=>(eB (Γf:=λ(s3:Int×(List<|Int))=>[.fr a9 (s3.1),.fr a9 (a.2.1),.fr a9 (a.2.2),.ol a9 wX (s3.2),.any]) ((a.1,found1)) (ke<|a7 1 rfl) (aB<|aB<|aB<|aB<|da .nil) (λx=>(bb 4))
  (λs3 x2=>(gC 3 rfl (nG (a7 0 rfl)<|a7 2 rfl) λfound4=>(bL (aD 0 (gZ (a7 0 rfl)<|a7 2 rfl) λcell6=>(cj ((cell6,found4))<|aB<|aB<|aB<|aB<|da .nil)))))
  λs3=>(cE<|evl_bor 3 rfl cK<|rp bi (a7 3 rfl) eo_none<|k9<|gr (a7 1 rfl)<|ev_intB<|ev_gt (a7 0 rfl) au))) (by unfold Pf.digits;first|rfl|(simp only[Pu.bs];done)|(simp only[Pu.bs,i8];done))⟩
theorem wu(D:aL K mg "_law_cell_at" lD C6) :jg P w K mg base:=by
 have nd:=oX.nd;refine D.pV oX (λx=>rfl) rfl λf ZP A outer s H E hr=>?_;have hu:=bC hr;exact⟨_,(af (eK (ba op_lt (pv 1) (aI (de (K:=K) rfl) (by rfl) B.len iG<|a8 (pv 0) ag)<|bx _)
   (aw<|aK (aS (aJ (K:=K) rfl) (pv 0) (pv 1) λx x=>rfl))
   c6)
   (aw<|aK ak)),
  λa=>BV.cast (eS (cy<|ev_lt (a7 1 rfl)<|jC sq_s<|a7 0 rfl)
  (d5<|bI<|bc sq_s (a7 0 rfl)<|a7 1 rfl)
  (c7<|bI au)) (by unfold Pf.eE;first|rfl|(simp only[Pu.bs];done)|(simp only[Pu.bs,i8];done))⟩
theorem zE(D:aL K mg "_law_number" oM pl13)(G05:jg P w K mg base):oQ P w K mg base:=by
 have nd:=qB.nd;refine D.pV qB (λx=>rfl) rfl λf ZP A outer s H E hr=>?_;have hu:=bC hr;exact⟨_,(af (az (i:=3) nd rfl (Or.inl rfl)<|aC dq (av G05 (hr.mono (by decide)) rfl<|a8 (pv 0)<|a8 (pv 1) ag)<|aC uV ak ak)
   (af (az (i:=4) nd rfl (Or.inl rfl)<|aC dq (aC bg (aC cY (pv 3) ak)<|aC cY (aC cY (aC bg (pv 1) ak)<|aC bg (pv 1) ak) ak) ak)
   (af (az (i:=5) nd rfl (Or.inl rfl)<|aC dq (aC bg (aC bg (aC cY (pv 3) ak)<|aC cY (aC cY (pv 1)<|pv 1) ak) ak) ak)
   (aw<|aK<|aC dq (aC bg (aC cY (pv 4) ak)<|pv 5)<|aC bg (pv 2) ak)))),
  λa=>BV.cast (aD 3 (eC (aM<|aj (a7 0 rfl)<|aA<|a7 1 rfl) (rC (v:=100000000000000000000) au au (by decide)) (by decide)) λcell2=>(aD 4 (eC (bj (ki (a7 3 rfl) au (by decide))<|ki (gr (bj (a7 1 rfl) au)<|bj (a7 1 rfl) au) au (by decide)) au (by decide)) λhigh7=>(aD 5 (eC (bj (bj (ki (a7 3 rfl) au (by decide))<|ki (gr (a7 1 rfl)<|a7 1 rfl) au (by decide)) au) au (by decide)) λlow13=>(bI<|nG (bj (ki (a7 4 rfl) au (by decide))<|a7 5 rfl)<|bj (a7 2 rfl) au)))) (by unfold Pf.cn;first|rfl|(simp only[Pu.bs];done)|(simp only[Pu.bs,i8];done))⟩
theorem zF(D:aL K mg "_law_height" oN pl14)(G06:oQ P w K mg base):uF P w K mg base:=by
 have nd:=qC.nd;refine D.pV qC (λx=>rfl) rfl λf ZP A outer s H E hr=>?_;have hu:=bC hr;exact⟨_,(af (eK (ba jn (pv 2) ak<|bx _)
   (@af _ _ _ _ _ (@az _ _ 5 _ _ _ _ nd rfl (Or.inl rfl) (@cJ _ _ _ _<|@pa_ints _ _ [0,1,0,2,0,1,0,3,0,1,0,2] rfl) rfl<|Or.inl rfl)
   (aw<|aK<|aC bg (aC cY ak<|aC bg (aS (aJ (K:=K) rfl) (pv 5) (pv 3) λx x=>rfl) (aS (aJ (K:=K) rfl) (pv 5) (pv 4) λx x=>rfl))<|av G06 (hr.mono (by decide)) rfl<|a8 (pv 0)<|a8 (pv 1)<|a8 ak ag))
   c6)
   (af (eK (ba jn (pv 2) ak<|bx _)
   (aw<|aK<|aC bg (aC bg (aC cY ak<|aI ni (by rfl) B.abs vi<|a8 (aC gm (pv 3) ak) ag)<|aC cY ak<|aC dq (aC bg (pv 3)<|pv 4) ak)<|av G06 (hr.mono (by decide)) rfl<|a8 (pv 0)<|a8 (pv 1)<|a8 ak ag)
   c6)
   (aw<|aK<|av G06 (hr.mono (by decide)) rfl<|a8 (pv 0)<|a8 (pv 1)<|a8 (aS (aJ (K:=K) rfl) (cJ<|a8 ak<|a8 ak<|a8 (aC uV ak ak) ag) (pv 2) λx x=>rfl) ag))),
  λa=>BV.cast (eS (cy<|gs gb (a7 2 rfl) au)
  (kf (aD 5 ((Bt [0,1,0,2,0,1,0,3,0,1,0,2] (by decide))).ev λnest1=>(d5<|bI<|bj (nL au (bj (bc bi (a7 5 rfl)<|a7 3 rfl)<|bc bi (a7 5 rfl)<|a7 4 rfl) (by decide))<|aM<|aj (a7 0 rfl)<|aj (a7 1 rfl)<|aA au)))
  (c7 (eS (cy<|gs gb (a7 2 rfl) au)
  (d5<|bI<|bj (bj (nL au (vz<|gq (a7 3 rfl) au) (by decide))<|nL au (eC (bj (a7 3 rfl)<|a7 4 rfl) au (by decide)) (by decide))<|aM<|aj (a7 0 rfl)<|aj (a7 1 rfl)<|aA au)
  (c7<|bI<|EV.cast (aM<|aj (a7 0 rfl)<|aj (a7 1 rfl)<|aA<|bc bi ((ci<|cL au<|cL au<|cL (rC (v:=1000000000000000000) au au (by decide)) ce)).ev (a7 2 rfl)) Pu.as3)))) (by unfold Pf.bY;first|(simp only[Pu.bs];done)|(simp only[Pu.bs,i8];done)|(simp only[Pu.bs,i8];rfl))⟩
theorem Ca(D:aL K mg "_law_floor" sB pl15)(G85:uE P w K mg base)(G05:jg P w K mg base)(G86:uF P w K mg base):ye P w K mg base:=by
 have nd:=uI.nd;refine D.pL uI (λx=>rfl) rfl λf ZP A outer s H E hr=>?_;have hu:=bC hr;exact⟨_,(af (az (i:=2) nd rfl (Or.inr rfl)<|av G85 (hr.mono (by decide)) rfl<|a8 (av G05 (hr.mono (by decide)) rfl<|a8 (pv 0)<|a8 ak ag)<|a8 (aC bg (pv 1) ak)<|a8 (aC bg (aC uV ak ak) ak) ag)
   (af (eK (ba (op_neDK (K:=K) rfl hr.units) (pv 2) (cJ ag)<|bx _)
   (af (az (i:=3) nd rfl (Or.inr rfl)<|aC bg ak<|aC dq (aS (aJ (K:=K) rfl) (pv 2) ak λx x=>rfl) ak)
   (af (az (i:=4) nd rfl (Or.inl rfl)<|aI (fE rfl) (by rfl) B.min jz<|a8 (aC bg ak<|aC dq (aS (aJ (K:=K) rfl) (pv 2) ak λx x=>rfl) ak)<|a8 (aC eO (pv 1)<|pv 3) ag)
   (aw<|aK (dZ (loc:=["_law_row"]) (cap:=[("_law_told",2),("_law_size",3)]) rfl ⟨rfl,by decide +kernel,by decide +kernel,rfl,⟨⟨rfl,rfl,by first|exact Or.inl rfl|exact Or.inr rfl⟩,⟨⟨rfl,rfl,by first|exact Or.inl rfl|exact Or.inr rfl⟩,trivial⟩⟩,rfl⟩  (gz rfl B.range<|a8 (pv 4) ag) (λx x x x=>(aN (i:=0) (show (["_law_row","_law_told","_law_size"]:List Str).Nodup by decide +kernel) rfl<|Or.inl rfl)) (λx x x x=>dt) λx x x x=>(nr (nC (K:=K) rfl) (pv 1) (jU<|aC bg ak<|aC cY (pv 0)<|pv 2)<|jU<|aC bg ak<|aC cY (aC bg (pv 0) ak)<|pv 2)))))
   c6)
   (af (az (i:=6) nd rfl (Or.inl rfl)<|av G05 (hr.mono (by decide)) rfl<|a8 (pv 0)<|a8 ak ag)
   (af (az (i:=7) nd rfl (Or.inl rfl)<|aC bg ak<|aC dq (pv 6) ak)
   (af (az (i:=4) nd rfl (Or.inl rfl)<|aI (gA rfl) (by rfl) B.max jA<|a8 ak<|a8 (aI (fE rfl) (by rfl) B.min jz<|a8 ak<|a8 (aC eO (aC gm (aC bg (aI (de (K:=K) rfl) (by rfl) B.len iG<|a8 (nr (nC (K:=K) rfl) (pv 0) (jU ak)<|jU ak) ag)<|pv 7) ak)<|pv 7) ag) ag)
   (af (eK (ba jn (aC dq (aC eO (pv 6) ak) ak) ak<|bx _)
   (aw<|az (i:=4) nd rfl (Or.inl rfl) ak)
   c6)
   (af (az (i:=4) nd rfl (Or.inl rfl)<|aI (fE rfl) (by rfl) B.min jz<|a8 (pv 4)<|a8 (aI (gA rfl) (by rfl) B.max jA<|a8 ak<|a8 (aC eO (pv 1)<|pv 7) ag) ag)
   (af (az (i:=8) nd rfl (Or.inr rfl)<|aC dq (aC eO (pv 6) ak) ak)
   (af (az (i:=9) nd rfl (Or.inl rfl)<|cJ ag)
   (af (eZ R8 rfl (gz rfl B.range<|a8 (pv 4) ag) (aN (i:=5) nd rfl<|Or.inr rfl)
   (af (az (i:=10) nd rfl (Or.inr rfl)<|aC bg ak<|aC cY (pv 5)<|pv 7)
   (aw<|gQ<|jB (K:=K) rfl N1 J6 J7 fF (pv 9)<|a8 (dZ (loc:=["_law_column"]) (cap:=[("_law_script",0),("_law_at",10),("_law_kind",8),("_law_row",5)]) rfl ⟨rfl,by decide +kernel,by decide +kernel,rfl,⟨⟨rfl,rfl,by first|exact Or.inl rfl|exact Or.inr rfl⟩,⟨⟨rfl,rfl,by first|exact Or.inl rfl|exact Or.inr rfl⟩,⟨⟨rfl,rfl,by first|exact Or.inl rfl|exact Or.inr rfl⟩,⟨⟨rfl,rfl,by first|exact Or.inl rfl|exact Or.inr rfl⟩,trivial⟩⟩⟩⟩,rfl⟩  (gz rfl B.range<|a8 (pv 7) ag) (λx x x x=>(aN (i:=0) (show (["_law_column","_law_script","_law_at","_law_kind","_law_row"]:List Str).Nodup by decide +kernel) rfl<|Or.inl rfl)) (λx x x x=>dt) λx x x x=>(av G86 (hr.mono (by decide)) rfl<|a8 (pv 1)<|a8 (aC bg (pv 2)<|pv 0)<|a8 (pv 3)<|a8 (pv 4)<|a8 (pv 0) ag)) ag)))
   (aw<|aK<|pv 9))))))))))),
  λa=>BV.cast (aD 2 ((ia.cast (aU<|aj (aM<|aj (a7 0 rfl)<|aA au)<|aj (bj (a7 1 rfl) au)<|aA<|bj (rC (v:=1000000000000000000) au au (by decide)) au) Pu.as3)).ev λtold2=>(eS (cy<|ev_neD (dL tq) (a7 2 rfl) ((ci (r:=a9) ce)).ev)
  (kf (aD 3 (bj au<|eC (bc bi (a7 2 rfl) au) au (by decide)) λsize6=>(kf (aD 4 (j9 (bj au<|eC (bc bi (a7 2 rfl) au) au (by decide))<|gZ (a7 1 rfl)<|a7 3 rfl) λrows12=>(d5<|cE (dv (ke<|a7 4 rfl) (by decide) (by decide) (bb 0) λy14=>((rp bi (a7 1 rfl) (k9<|bj au<|gr (a7 0 rfl)<|a7 2 rfl)<|k9<|bj au<|gr (bj (a7 0 rfl) au)<|a7 2 rfl)).ev))))))
  (c7 (aD 6 (aM<|aj (a7 0 rfl)<|aA au) λhead22=>(aD 7 (bj au<|eC (a7 6 rfl) au (by decide)) λcolumns24=>(aD 4 (kd au<|j9 au<|gZ (gq (bj (jC bi ((rp sq_s (a7 0 rfl) (k9 au)<|k9 au)).ev)<|a7 7 rfl) au)<|a7 7 rfl) λrows27=>(xp (Γj:=λ(s29:Int)=>[.fr (nF K) (a.1),.fr a9 (a.2),.fr (rL a9) (told2),.any,.fr a9 (s29),.any,.fr a9 (head22),.fr a9 (columns24),.any,.any,.any]) (bL (eS (cy<|gs gb (eC (tu (a7 6 rfl) au (by decide)) au (by decide)) au)
  (aD 4 au λrows30=>(kh (rows30)<|aB<|aB<|aB<|da<|aB<|da<|aB<|aB<|da<|da<|da .nil))
  (c7<|kh (rows27)<|aB<|aB<|aB<|da<|aB<|da<|aB<|aB<|da<|da<|da .nil))) λs29=>(aD 4 (j9 (a7 4 rfl)<|kd au<|gZ (a7 1 rfl)<|a7 7 rfl) λrows33=>(aD 8 (eC (tu (a7 6 rfl) au (by decide)) au (by decide)) λkind35=>(kg 9 (ci (r:=(rL a9)) ce) λfloor_here36=>(eB (Γf:=λ(s38:(List<|List<|Int))=>[.fr (nF K) (a.1),.fr a9 (a.2),.fr (rL a9) (told2),.any,.fr a9 (rows33),.any,.fr a9 (head22),.fr a9 (columns24),.fr a9 (kind35),.ol (rL a9) wX (s38),.any]) (floor_here36) (ke<|a7 4 rfl) (aB<|aB<|aB<|da<|aB<|da<|aB<|aB<|aB<|aB<|da .nil) (λx=>(bb 5))
  (λs38 x37=>(aD 10 (bj au<|gr (a7 5 rfl)<|a7 7 rfl) λat40=>(bL (gC 9 rfl ((dv (ke<|a7 7 rfl) (by decide) (by decide) (bb 0) λy42=>(aM<|aj (a7 1 rfl)<|aj (bj (a7 2 rfl)<|a7 0 rfl)<|aj (a7 3 rfl)<|aj (a7 4 rfl)<|aA<|a7 0 rfl))).ev λfloor_here44=>(cj (floor_here44)<|aB<|aB<|aB<|da<|aB<|da<|aB<|aB<|aB<|aB<|da .nil)))))
  λs38=>(rA 9 rfl)))))))))))) (by unfold Pf.iO;first|rfl|(simp only[Pu.bs];done)|(simp only[Pu.bs,i8];done))⟩
theorem ok_keys(D:aL K mg "_law_keys" wt pl16) :C8 P w K mg base:=by
 have nd:=yf.nd;refine D.pL yf (λx=>rfl) rfl λf ZP A outer s H E hr=>?_;have hu:=bC hr;exact⟨_,(af (az (i:=1) nd rfl (Or.inl rfl)<|cJ ag)
   (af (eZ R8 rfl (bu (K:=K) rfl<|pv 0) (aN (i:=2) nd rfl<|Or.inl rfl)
   (aw<|az (i:=1) nd rfl (Or.inl rfl)<|aC re (pv 1)<|pv 2))
   (aw<|aK (dZ (loc:=["_law_cell","_law_height_here"]) (cap:=[]) rfl ⟨rfl,by decide +kernel,by decide +kernel,rfl,trivial,rfl⟩  (As (K:=K) rfl rfl B.enumerate<|a8 (pv 1) ag) (λx x x x=>(qS (K:=K) (n:=2) rfl rfl<|eM (aN (i:=0) (show (["_law_cell","_law_height_here"]:List Str).Nodup by decide +kernel) rfl<|Or.inl rfl)<|eM (aN (i:=1) (show (["_law_cell","_law_height_here"]:List Str).Nodup by decide +kernel) rfl<|Or.inl rfl) qI)) (λx x x x=>dt) λx x x x=>(iB<|a8 (pv 1)<|a8 (pv 0) ag))))),
  λa=>BV.cast (aD 1 ((ci (r:=a9) ce)).ev λheights1=>(eB (Γf:=λ(s3:(List<|Int))=>[.fr (rL<|rL a9) (a),.fr (rL a9) (s3),.any]) (heights1) (bS bi<|a7 0 rfl) (aB<|aB<|da .nil) (λx=>(bb 2))
  (λs3 x2=>(bL (aD 1 ((rm (a7 1 rfl)<|a7 2 rfl)).ev λheights4=>(cj (heights4)<|aB<|aB<|da .nil))))
  λs3=>(cE (dv (iv_enum bi<|a7 1 rfl) (by decide) (by decide) (gv_pair 0 1) λy6=>(k7 (a7 1 rfl)<|a7 0 rfl))))) (by unfold Pf.kF;first|rfl|(simp only[Pu.bs];done)|(simp only[Pu.bs,i8];done))⟩
theorem wv(D:aL K mg "size_of" lE yc) :dY P w K mg base:=by
 have nd:=oY.nd;refine D.pV oY (λx=>rfl) rfl λf ZP A outer s H E hr=>?_;have hu:=bC hr;exact⟨_,(af (az (i:=1) nd rfl (Or.inl rfl)<|iA (qR (K:=K) rfl (pv 0) λx=>rfl) (aI (de (K:=K) rfl) (by rfl) B.len iG<|a8 (aS (aJ (K:=K) rfl) (pv 0) ak λx x=>rfl) ag) ak)
   (aw<|aK<|iB<|a8 (aI (de (K:=K) rfl) (by rfl) B.len iG<|a8 (pv 0) ag)<|a8 (pv 1) ag)),
  λa=>BV.cast (aD 1 (vq (qZ bi<|a7 0 rfl) (jC bi<|bc bi (a7 0 rfl) au) au) λcolumns2=>(bI<|k7 (jC bi<|a7 0 rfl)<|a7 1 rfl)) (by unfold Pf.size_of;first|rfl|(simp only[Pu.bs];done)|(simp only[Pu.bs,i8];done))⟩
theorem sC(D:aL K mg "all_cells" iR yc)(G00:dY P w K mg base):eU P w K mg base:=by
 have nd:=kL.nd;refine D.pL kL (λx=>rfl) rfl λf ZP A outer s H E hr=>?_;have hu:=bC hr;exact⟨_,(af (az (i:=1) nd rfl (Or.inl rfl)<|av G00 (hr.mono (by decide)) rfl<|a8 (pv 0) ag)
   (aw<|aK<|l6 (vH rfl) (by rfl) B.list_ bo_list<|a8 (pe_rng (aC cY (aS (bH (K:=K) rfl) (pv 1) ak λx x=>rfl) (aS (bH (K:=K) rfl) (pv 1) ak λx x=>rfl)) rfl B.range) ag)),
  λa=>BV.cast (aD 1 (aM<|aA<|a7 0 rfl) λsize1=>(cE<|tF<|gr (xk<|a7 1 rfl)<|gc<|a7 1 rfl)) (by unfold Pf.cW;first|rfl|(simp only[Pu.bs];done)|(simp only[Pu.bs,i8];done))⟩
theorem pY(D:aL K mg "neighbours" i6 pl17) :dG P w K mg base:=by
 have nd:=js.nd;refine D.pL js (λx=>rfl) rfl λf ZP A outer s H E hr=>?_;have hu:=bC hr;exact⟨_,(af (az (i:=3) nd rfl (Or.inl rfl)<|aC eO (pv 2) (aS (bH (K:=K) rfl) (pv 0) ak λx x=>rfl))
   (af (az (i:=4) nd rfl (Or.inl rfl)<|aC dq (pv 2) (aS (bH (K:=K) rfl) (pv 0) ak λx x=>rfl))
   (af (az (i:=5) nd rfl (Or.inl rfl)<|iA (ba jn (pv 1) ak<|bx _) ak ak)
   (af (az (i:=6) nd rfl (Or.inl rfl)<|cJ ag)
   (af (eZ R8 rfl (q0 rfl B.range<|a8 (aI (gA rfl) (by rfl) B.max jA<|a8 ak<|a8 (aC gm (pv 3) ak) ag)<|a8 (aI (fE rfl) (by rfl) B.min jz<|a8 (aS (bH (K:=K) rfl) (pv 0) ak λx x=>rfl)<|a8 (aC bg (pv 3) ak) ag) ag) (aN (i:=7) nd rfl<|Or.inl rfl)
   (aw (eZ R8 rfl (q0 rfl B.range<|a8 (aI (gA rfl) (by rfl) B.max jA<|a8 ak<|a8 (aC gm (pv 4) ak) ag)<|a8 (aI (fE rfl) (by rfl) B.min jz<|a8 (aS (bH (K:=K) rfl) (pv 0) ak λx x=>rfl)<|a8 (aC bg (pv 4) ak) ag) ag) (aN (i:=8) nd rfl<|Or.inl rfl)
   (aw (eK (zY op_lt op_le ak (aC bg (aI ni (by rfl) B.abs vi<|a8 (aC gm (pv 7)<|pv 3) ag)<|aI ni (by rfl) B.abs vi<|a8 (aC gm (pv 8)<|pv 4) ag)<|pv 5)
   (aw<|gQ<|jB (K:=K) rfl N1 J6 J7 fF (pv 6)<|a8 (aC bg (aC cY (pv 7) (aS (bH (K:=K) rfl) (pv 0) ak λx x=>rfl))<|pv 8) ag)
   c6)))))
   (aw<|aK<|pv 6)))))),
  λa=>BV.cast (aD 3 (gZ (a7 2 rfl)<|gc<|a7 0 rfl) λrow1=>(aD 4 (nG (a7 2 rfl)<|gc<|a7 0 rfl) λcolumn3=>(aD 5 (xu (cy<|gs gb (a7 1 rfl) au) au au) λmost_steps5=>(kg 6 (ci (r:=a9) ce) λfound7=>(eB (Γf:=λ(s9:(List<|Int))=>[.fr (cF a9 a9) (a.1),.fr a9 (a.2.1),.fr a9 (a.2.2),.fr a9 (row1),.fr a9 (column3),.fr a9 (most_steps5),.ol a9 wX (s9),.any,.any]) (found7) (xm (kd au<|gq (a7 3 rfl) au)<|j9 (xk<|a7 0 rfl)<|bj (a7 3 rfl) au) (aB<|aB<|aB<|aB<|aB<|aB<|aB<|da<|da .nil) (λx=>(bb 7))
  (λs9 x8=>(bL (eB (Γf:=λ(s11:(List<|Int))=>[.fr (cF a9 a9) (a.1),.fr a9 (a.2.1),.fr a9 (a.2.2),.fr a9 (row1),.fr a9 (column3),.fr a9 (most_steps5),.ol a9 wX (s11),.fr a9 (x8),.any]) (s9) (xm (kd au<|gq (a7 4 rfl) au)<|j9 (gc<|a7 0 rfl)<|bj (a7 4 rfl) au) (aB<|aB<|aB<|aB<|aB<|aB<|aB<|aB<|da .nil) (λx=>(bb 8))
  (λs11 x10=>(bL (eS (cy<|yT au (bj (vz<|gq (a7 7 rfl)<|a7 3 rfl)<|vz<|gq (a7 8 rfl)<|a7 4 rfl)<|a7 5 rfl)
  (gC 6 rfl (bj (gr (a7 7 rfl)<|gc<|a7 0 rfl)<|a7 8 rfl) λfound13=>(cj (found13)<|aB<|aB<|aB<|aB<|aB<|aB<|aB<|aB<|da .nil))
  (c7<|cj (s11)<|aB<|aB<|aB<|aB<|aB<|aB<|aB<|aB<|da .nil))))
  λs11=>(cj (s11)<|aB<|aB<|aB<|aB<|aB<|aB<|aB<|da<|da .nil))))
  λs9=>(rA 6 rfl)))))) (by unfold Pf.cN;first|rfl|(simp only[Pu.bs];done)|(simp only[Pu.bs,i8];done))⟩
theorem sD(D:aL K mg "height_of" iS pl3)(G00:dY P w K mg base):lT P w K mg base:=by
 have nd:=kN.nd;refine D.pV kN (λx=>rfl) rfl λf ZP A outer s H E hr=>?_;have hu:=bC hr;exact⟨_,(af (az (i:=2) nd rfl (Or.inl rfl) (aS (bH (K:=K) rfl) (av G00 (hr.mono (by decide)) rfl<|a8 (pv 0) ag) ak λx x=>rfl))
   (aw<|aK (aS (aJ (K:=K) rfl) (aS (aJ (K:=K) rfl) (pv 0) (aC eO (pv 1)<|pv 2) λx x=>rfl) (aC dq (pv 1)<|pv 2) λx x=>rfl))),
  λa=>BV.cast (aD 2 (gc<|aM<|aA<|a7 0 rfl) λcolumns2=>(bI<|bc bi (bc bi (a7 0 rfl)<|gZ (a7 1 rfl)<|a7 2 rfl)<|nG (a7 1 rfl)<|a7 2 rfl)) (by unfold Pf.gD;first|rfl|(simp only[Pu.bs];done)|(simp only[Pu.bs,i8];done))⟩
theorem sE(D:aL K mg "order_key" iT pl3)(G87:lT P w K mg base):gk P w K mg base:=by
 have nd:=kO.nd;refine D.pV kO (λx=>rfl) rfl λf ZP A outer s H E hr=>?_;have hu:=bC hr;exact⟨_,(aw<|aK<|iB<|a8 (av G87 (hr.mono (by decide)) rfl<|a8 (pv 0)<|a8 (pv 1) ag)<|a8 (pv 1) ag),
  λa=>BV.cast (bI<|k7 (aM<|aj (a7 0 rfl)<|aA<|a7 1 rfl)<|a7 1 rfl) (by unfold Pf.bW;first|rfl|(simp only[Pu.bs];done)|(simp only[Pu.bs,i8];done))⟩
theorem p7{c9 P9:Addr}(D:fO K mg "earliest_of" cC pl7 c9)(L:LamAt K mg base c9 P9 "earliest_of")(G07:gk P w K mg base):i9 P w K mg base 7 "earliest_of" pl7 (p8 (aG (rL<|rL a9)<|cm<|rL a9) a9 λx=>Pf.bN x.1 x.2):=by
 have nd:=j1.nd;refine D.pV j1 (λa=>rfl) rfl λf A outer s H E hr=>?_;have hu:=bC hr;exact⟨_,(aw<|aK<|pe_minK (x:="cell") (cap:=[("floor",0)]) (pv 1) (hr.mono (by decide)) B.min L.bm L.hd L.mem L.nm rfl ⟨rfl,rfl,rfl,by decide +kernel,rfl,rfl,⟨⟨rfl,rfl,by first|exact Or.inl rfl|exact Or.inr rfl⟩,trivial⟩⟩ (λa a a a a=>rfl) (λa a a a a=>have hl:=(hr.mono (j:=5) (by decide)).in1.deeper _;(av G07 (hl.mono (by decide)) rfl<|a8 (pv 1)<|a8 (pv 0) ag))),
  λa=>BV.cast (bI (ev_minK (x:="cell") (by decide) (a7 1 rfl) λc1=>(aM<|aj (a7 1 rfl)<|aA<|a7 0 rfl))) (by unfold Pf.bN;first|rfl|(simp only[Pu.bs];done)|(simp only[Pu.bs,i8];done))⟩
theorem wx(D:aL K mg "fall_of" lF pl18)(G00:dY P w K mg base)(G03:dG P w K mg base)(G16:jr P w K mg base):qz P w K mg base:=by
 have nd:=oZ.nd;refine D.pV oZ (λx=>rfl) rfl λf ZP A outer s H E hr=>?_;have hu:=bC hr;exact⟨_,(af (az (i:=3) nd rfl (Or.inl rfl)<|av G03 (hr.mono (by decide)) rfl<|a8 (av G00 (hr.mono (by decide)) rfl<|a8 (pv 0) ag)<|a8 (pv 1)<|a8 (pv 2) ag)
   (af (az (i:=4) nd rfl (Or.inl rfl)<|av G16 (hr.mono (by decide)) rfl<|a8 (pv 0)<|a8 (aC re (pv 3)<|cJ<|a8 (pv 2) ag) ag)
   (aw<|aK<|iA (ba jn (pv 4) (pv 2)<|bx _) gO<|pv 4))),
  λa=>BV.cast (aD 3 ((ia.cast (aU<|aj (aM<|aA<|a7 0 rfl)<|aj (a7 1 rfl)<|aA<|a7 2 rfl) Pu.as3)).ev λaround2=>(aD 4 (EV.cast (aM<|aj (a7 0 rfl)<|aA ((rm (a7 3 rfl) ((ci<|cL (a7 2 rfl) ce)).ev)).ev) Pu.as2) λearliest5=>(bI<|xu (cy<|gs gb (a7 4 rfl)<|a7 2 rfl) k0<|g9<|a7 4 rfl))) (by unfold Pf.mS;first|rfl|(simp only[Pu.bs];done)|(simp only[Pu.bs,i8];done))⟩
theorem uJ(D:aL K mg "falls_of" jJ zC)(G01:eU P w K mg base)(G88:qz P w K mg base):oS P w K mg base:=by
 have nd:=lW.nd;refine D.pL lW (λx=>rfl) rfl λf ZP A outer s H E hr=>?_;have hu:=bC hr;exact⟨_,(aw<|aK (dZ (loc:=["cell"]) (cap:=[("floor",0),("reach",1)]) rfl ⟨rfl,by decide +kernel,by decide +kernel,rfl,⟨⟨rfl,rfl,by first|exact Or.inl rfl|exact Or.inr rfl⟩,⟨⟨rfl,rfl,by first|exact Or.inl rfl|exact Or.inr rfl⟩,trivial⟩⟩,rfl⟩  (bu (K:=K) rfl<|av G01 (hr.mono (by decide)) rfl<|a8 (pv 0) ag) (λx x x x=>(aN (i:=0) (show (["cell","floor","reach"]:List Str).Nodup by decide +kernel) rfl<|Or.inl rfl)) (λx x x x=>dt) λx x x x=>(av G88 (hr.mono (by decide)) rfl<|a8 (pv 1)<|a8 (pv 2)<|a8 (pv 0) ag))),
  λa=>BV.cast (cE (dv (bS bi ((aU<|aA<|a7 0 rfl)).ev) (by decide) (by decide) (bb 0) λy1=>(aM<|aj (a7 1 rfl)<|aj (a7 2 rfl)<|aA<|a7 0 rfl))) (by unfold Pf.gF;first|rfl|(simp only[Pu.bs];done)|(simp only[Pu.bs,i8];done))⟩
theorem uK{c9 P9:Addr}(D:fO K mg "in_order" dW yc c9)(L:LamAt K mg base c9 P9 "in_order")(G01:eU P w K mg base)(G07:gk P w K mg base):i9 P w K mg base 7 "in_order" yc (qm (cm<|rL<|rL a9) a9 λx=>Pf.b7 x):=by
 have nd:=lX.nd;refine D.pL lX (λa=>rfl) rfl λf A outer s H E hr=>?_;have hu:=bC hr;exact⟨_,(aw<|aK<|zi (x:="cell") (cap:=[("floor",0)]) (av G01 (hr.mono (by decide)) rfl<|a8 (pv 0) ag) (hr.mono (by decide)) B.sorted L.bm L.hd L.mem L.nm rfl ⟨rfl,rfl,rfl,by decide +kernel,rfl,rfl,⟨⟨rfl,rfl,by first|exact Or.inl rfl|exact Or.inr rfl⟩,trivial⟩⟩ (λa a a a a=>rfl) (λa a a a a=>have hl:=(hr.mono (j:=6) (by decide)).in1.in1.deeper _;(av G07 (hl.mono (by decide)) rfl<|a8 (pv 1)<|a8 (pv 0) ag))),
  λa=>BV.cast (cE (w8 (x:="cell") (by decide) ((aU<|aA<|a7 0 rfl)).ev λc1=>(aM<|aj (a7 1 rfl)<|aA<|a7 0 rfl))) (by unfold Pf.b7;first|rfl|(simp only[Pu.bs];done)|(simp only[Pu.bs,i8];done))⟩
theorem sF(D:aL K mg "basins_of" iU zC)(G01:eU P w K mg base)(G89:oS P w K mg base)(G02:i7 P w K mg base):iX P w K mg base:=by
 have nd:=kP.nd;refine D.pL kP (λx=>rfl) rfl λf ZP A outer s H E hr=>?_;have hu:=bC hr;exact⟨_,(af (az (i:=2) nd rfl (Or.inl rfl)<|av G89 (hr.mono (by decide)) rfl<|a8 (pv 0)<|a8 (pv 1) ag)
   (af (az (i:=3) nd rfl (Or.inr rfl) sX)
   (af (eZ R8 rfl (bu (K:=K) rfl<|av G02 (hr.mono (by decide)) rfl<|a8 (pv 0) ag) (aN (i:=4) nd rfl<|Or.inl rfl)
   (aw<|qO hu (pv 3) (pv 4) (iA (ba zW (aS (aJ (K:=K) rfl) (pv 2) (pv 4) λx x=>rfl) gO<|bx _) (pv 4) (jW hu (pv 3) (aS (aJ (K:=K) rfl) (pv 2) (pv 4) λx x=>rfl) λx x=>rfl)) rfl))
   (aw<|aK (dZ (loc:=["cell"]) (cap:=[("bottoms",3)]) rfl ⟨rfl,by decide +kernel,by decide +kernel,rfl,⟨⟨rfl,rfl,by first|exact Or.inl rfl|exact Or.inr rfl⟩,trivial⟩,rfl⟩  (bu (K:=K) rfl<|av G01 (hr.mono (by decide)) rfl<|a8 (pv 0) ag) (λx x x x=>(aN (i:=0) (show (["cell","bottoms"]:List Str).Nodup by decide +kernel) rfl<|Or.inl rfl)) (λx x x x=>dt) λx x x x=>(jW hu (pv 1) (pv 0) λx x=>rfl)))))),
  λa=>BV.cast (aD 2 ((aU<|aj (a7 0 rfl)<|aA<|a7 1 rfl)).ev λfalls1=>(xo 3 evd_new λbottoms3=>(eB (Γf:=λ(s5:(List<|Int×Int))=>[.fr (rL<|rL a9) (a.1),.fr a9 (a.2),.fr (rL<|fg a9) (falls1),.od a9 wX (s5),.any]) (bottoms3) (bS bi ((aU<|aA<|a7 0 rfl)).ev) (aB<|aB<|aB<|aB<|da .nil) (λx=>(bb 4))
  (λs5 x4=>(bL (AK 3 rfl (a7 4 rfl) (ev_borD 3 rfl cK<|vq (cy<|Ax (bc bi (a7 2 rfl)<|a7 4 rfl) vp) (a7 4 rfl)<|rj (a7 3 rfl)<|iH<|bc bi (a7 2 rfl)<|a7 4 rfl) λbottoms10=>(cj (bottoms10)<|aB<|aB<|aB<|aB<|da .nil))))
  λs5=>(cE<|AD 3 rfl cK (dv (bS bi ((aU<|aA<|a7 0 rfl)).ev) (by decide) (by decide) (bb 0) λy14=>(rj (a7 1 rfl)<|a7 0 rfl)))))) (by unfold Pf.dg;first|rfl|(simp only[Pu.bs];done)|(simp only[Pu.bs,i8];done))⟩
theorem mC(D:aL K mg "comes_before" fS C7)(G07:gk P w K mg base):cS P w K mg base:=by
 have nd:=ic.nd;refine D.pV ic (λx=>rfl) rfl λf ZP A outer s H E hr=>?_;have hu:=bC hr;exact⟨_,(aw<|aK<|j6 (op_ltT<|Nat.lt_of_succ_lt<|bC hr) (av G07 (hr.mono (by decide)) rfl<|a8 (pv 0)<|a8 (pv 1) ag) (av G07 (hr.mono (by decide)) rfl<|a8 (pv 0)<|a8 (pv 2) ag)<|bx _),
  λa=>BV.cast (bI<|ev_ltT2 (aM<|aj (a7 0 rfl)<|aA<|a7 1 rfl)<|aM<|aj (a7 0 rfl)<|aA<|a7 2 rfl) (by unfold Pf.bo;first|rfl|(simp only[Pu.bs];done)|(simp only[Pu.bs,i8];done))⟩
theorem uL(D:aL K mg "pairs_at" jK pl19)(G00:dY P w K mg base)(G03:dG P w K mg base)(G04:cS P w K mg base):oU P w K mg base:=by
 have nd:=lY.nd;refine D.pL lY (λx=>rfl) rfl λf ZP A outer s H E hr=>?_;have hu:=bC hr;exact⟨_,(af (az (i:=4) nd rfl (Or.inr rfl) (aS (aJ (K:=K) rfl) (pv 2) (pv 3) λx x=>rfl))
   (af (az (i:=5) nd rfl (Or.inl rfl)<|av G03 (hr.mono (by decide)) rfl<|a8 (av G00 (hr.mono (by decide)) rfl<|a8 (pv 0) ag)<|a8 (pv 1)<|a8 (pv 3) ag)
   (af (gW (loc:=["other"]) (cap:=[("basins",2),("floor",0),("cell",3)]) (i:=6) rfl ⟨rfl,by decide +kernel,by decide +kernel,rfl,⟨⟨rfl,rfl,by first | exact Or.inl rfl | exact Or.inr rfl⟩,⟨⟨rfl,rfl,by first | exact Or.inl rfl | exact Or.inr rfl⟩,⟨⟨rfl,rfl,by first | exact Or.inl rfl | exact Or.inr rfl⟩,trivial⟩⟩⟩,rfl⟩ nd rfl (Or.inl rfl) (bu (K:=K) rfl<|pv 5) (λx x x x=>(aN (i:=0) (show (["other","basins","floor","cell"]:List Str).Nodup by decide +kernel) rfl<|Or.inl rfl)) (λx x x x=>(iE<|jv<|av G04 (hr.mono (by decide)) rfl<|a8 (pv 2)<|a8 (pv 0)<|a8 (pv 3) ag)) λx x x x=>(aS (aJ (K:=K) rfl) (pv 1) (pv 0) λx x=>rfl))
   (aw<|aK (dZ (loc:=["bottom"]) (cap:=[("own",4)]) rfl ⟨rfl,by decide +kernel,by decide +kernel,rfl,⟨⟨rfl,rfl,by first|exact Or.inl rfl|exact Or.inr rfl⟩,trivial⟩,rfl⟩  (bu (K:=K) rfl<|pv 6) (λx x x x=>(aN (i:=0) (show (["bottom","own"]:List Str).Nodup by decide +kernel) rfl<|Or.inl rfl)) (λx x x x=>(iE<|ba qa (pv 0) (pv 1)<|bx _)) λx x x x=>(iB<|a8 (aI (fE rfl) (by rfl) B.min jz<|a8 (pv 1)<|a8 (pv 0) ag)<|a8 (aI (gA rfl) (by rfl) B.max jA<|a8 (pv 1)<|a8 (pv 0) ag) ag)))))),
  λa=>BV.cast (aD 4 (bc bi (a7 2 rfl)<|a7 3 rfl) λown1=>(aD 5 ((ia.cast (aU<|aj (aM<|aA<|a7 0 rfl)<|aj (a7 1 rfl)<|aA<|a7 3 rfl) Pu.as3)).ev λaround4=>(aD 6 ((dR (bS bi<|a7 5 rfl) (by decide) (by decide) (bb 0) (λy6=>(qY<|aM<|aj (a7 2 rfl)<|aj (a7 0 rfl)<|aA<|a7 3 rfl)) λy6=>(bc bi (a7 1 rfl)<|a7 0 rfl))).ev λbottoms7=>(cE (dR (bS bi<|a7 6 rfl) (by decide) (by decide) (bb 0) (λy9=>(cy<|lf gb (a7 0 rfl)<|a7 1 rfl)) λy9=>(k7 (j9 (a7 1 rfl)<|a7 0 rfl)<|kd (a7 1 rfl)<|a7 0 rfl)))))) (by unfold Pf.pairs_at;first|rfl|(simp only[Pu.bs];done)|(simp only[Pu.bs,i8];done))⟩
theorem uM(D:aL K mg "lines_of" jL zC)(G02:i7 P w K mg base)(G17:iX P w K mg base)(G90:oU P w K mg base):oV P w K mg base:=by
 have nd:=lZ.nd;refine D.pL lZ (λx=>rfl) rfl λf ZP A outer s H E hr=>?_;have hu:=bC hr;exact⟨_,(af (az (i:=2) nd rfl (Or.inl rfl)<|av G17 (hr.mono (by decide)) rfl<|a8 (pv 0)<|a8 (pv 1) ag)
   (af (az (i:=3) nd rfl (Or.inr rfl) Ah)
   (af (eZ R8 rfl (bu (K:=K) rfl<|av G02 (hr.mono (by decide)) rfl<|a8 (pv 0) ag) (aN (i:=4) nd rfl<|Or.inl rfl)
   (aw (eZ R8 rfl (bu (K:=K) rfl<|av G90 (hr.mono (by decide)) rfl<|a8 (pv 0)<|a8 (pv 1)<|a8 (pv 2)<|a8 (pv 4) ag) (aN (i:=5) nd rfl<|Or.inl rfl)
   (aw<|gQ<|pe_ddef hu (pv 3) (pv 5) (pv 4) ⟨rfl,rfl,rfl,rfl⟩))))
   (aw<|aK (dZ (loc:=["pair"]) (cap:=[("found",3)]) rfl ⟨rfl,by decide +kernel,by decide +kernel,rfl,⟨⟨rfl,rfl,by first|exact Or.inl rfl|exact Or.inr rfl⟩,trivial⟩,rfl⟩  (bu (K:=K) rfl<|aI (uc rfl) (by rfl) B.sorted gB<|a8 (pv 3) ag) (λx x x x=>(aN (i:=0) (show (["pair","found"]:List Str).Nodup by decide +kernel) rfl<|Or.inl rfl)) (λx x x x=>dt) λx x x x=>(aC (B7 (K:=K) rfl) (pv 0)<|iB<|a8 (jW hu (pv 1) (pv 0) λx x=>rfl) ag)))))),
  λa=>BV.cast (aD 2 ((aU<|aj (a7 0 rfl)<|aA<|a7 1 rfl)).ev λbasins1=>(bv_newT 3 λfound3=>(eB (Γf:=λ(s5:(List<|(Int×Int)×Int))=>[.fr (rL<|rL a9) (a.1),.fr a9 (a.2),.fr (rL a9) (basins1),.ot a9 (s5),.any,.any]) (found3) (bS bi ((aU<|aA<|a7 0 rfl)).ev) (aB<|aB<|aB<|aB<|da<|da .nil) (λx=>(bb 4))
  (λs5 x4=>(bL (eB (Γf:=λ(s7:(List<|(Int×Int)×Int))=>[.fr (rL<|rL a9) (a.1),.fr a9 (a.2),.fr (rL a9) (basins1),.ot a9 (s7),.fr a9 (x4),.any]) (s5) (bS bi ((aU<|aj (a7 0 rfl)<|aj (a7 1 rfl)<|aj (a7 2 rfl)<|aA<|a7 4 rfl)).ev) (aB<|aB<|aB<|aB<|aB<|da .nil) (λx=>(bb 5))
  (λs7 x6=>(bL (bv_defT 3 rfl (a7 5 rfl) (a7 4 rfl) λfound8=>(cj (found8)<|aB<|aB<|aB<|aB<|aB<|da .nil))))
  λs7=>(cj (s7)<|aB<|aB<|aB<|aB<|da<|da .nil))))
  λs5=>(cE<|Bu 3 rfl (flat_t3 cK cK cK) (dv (bS bi ((wb<|a7 3 rfl)).ev) (by decide) (by decide) (bb 0) λy11=>(BA (a7 0 rfl)<|ev_tup1<|ev_ixDT (a7 1 rfl)<|a7 0 rfl)))))) (by unfold Pf.gG;first|rfl|(simp only[Pu.bs];done)|(simp only[Pu.bs,i8];done))⟩
theorem ip(D:cb K CW "homes_around" "Water.homes_around" cQ yd)(G00:dY P w K mg base)(G03:dG P w K mg base):eW P w K mg base CM CW:=by
 have nd:=dN.nd;refine D.pL dN (λx=>rfl) rfl λf ZP A outer s H E hr=>?_;have hu:=bC hr;exact⟨_,(af (az (i:=2) nd rfl (Or.inl rfl)<|av G03 (hr.mono (by decide)) rfl<|a8 (av G00 (hr.mono (by decide)) rfl<|a8 (d6 (K:=K) rfl (pv 0) rfl) ag)<|a8 (d6 (K:=K) rfl (pv 0) rfl)<|a8 (pv 1) ag)
   (aw<|aK (dZ (loc:=["other"]) (cap:=[("self",0)]) rfl ⟨rfl,by decide +kernel,by decide +kernel,rfl,⟨⟨rfl,rfl,by first|exact Or.inl rfl|exact Or.inr rfl⟩,trivial⟩,rfl⟩  (bu (K:=K) rfl<|pv 2) (λx x x x=>(aN (i:=0) (show (["other","self"]:List Str).Nodup by decide +kernel) rfl<|Or.inl rfl)) (λx x x x=>(iE<|ba wH (aS (aJ (K:=K) rfl) (d6 (K:=K) rfl (pv 1) rfl) (pv 0) λx x=>rfl) gO<|bx _)) λx x x x=>(aS (aJ (K:=K) rfl) (d6 (K:=K) rfl (pv 1) rfl) (pv 0) λx x=>rfl)))),
  λa=>BV.cast (aD 2 ((ia.cast (aU<|aj (aM<|aA<|yY kW<|a7 0 rfl)<|aj (yZ kW<|a7 0 rfl)<|aA<|a7 1 rfl) Pu.as3)).ev λaround2=>(cE (dR (bS bi<|a7 2 rfl) (by decide) (by decide) (bb 0) (λy4=>(cy<|xi (bc bi (lu kW<|a7 1 rfl)<|a7 0 rfl) vp)) λy4=>(iH<|bc bi (lu kW<|a7 1 rfl)<|a7 0 rfl)))) (by unfold Pf.bz;first|rfl|(simp only[Pu.bs];done)|(simp only[Pu.bs,i8];done))⟩
theorem jM(D:cb K CM "living" "Meetings.living" dD ["self","start"]) :dF P w K mg base CM:=by
 have nd:=fV.nd;refine D.pV fV (λx=>rfl) rfl λf ZP A outer s H E hr=>?_;have hu:=bC hr;exact⟨_,(af (az (i:=2) nd rfl (Or.inl rfl)<|pv 1)
   (af (jS R8 (zN<|pc_dinO hu (pv 2)<|d6 (K:=K) rfl (pv 0) rfl)
   (aw<|az (i:=2) nd rfl (Or.inl rfl) (aS (bH (K:=K) rfl) (jW hu (d6 (K:=K) rfl (pv 0) rfl) (pv 2) λx x=>rfl) ak λx x=>rfl)))
   (aw<|aK<|pv 2))),
  λa=>BV.cast (aD 2 (a7 1 rfl) λhere1=>(vC (Γf:=λ(s2:(Option<|Int))=>[.fr (rM CM) (a.1),.fr (fg a9) (a.2),.fr (fg a9) (s2)]) 100000 (here1) (aB<|aB<|aB .nil) (λs2=>(qY<|ev_inDO (a7 2 rfl)<|qt kM<|a7 0 rfl))
  (λs2=>(bL (aD 2 (gc<|rj (qt kM<|a7 0 rfl)<|iH<|a7 2 rfl) λhere5=>(cj (here5)<|aB<|aB<|aB .nil))))
  λs2=>(bI<|a7 2 rfl))) (by unfold Pf.aO;first|rfl|(simp only[Pu.bs];done)|(simp only[Pu.bs,i8];done))⟩
theorem jN(D:cb K CW "start_now" "Water.start_now" dE yd)(G15:dF P w K mg base CM):gj P w K mg base CM CW:=by
 have nd:=fW.nd;refine D.pV fW (λx=>rfl) rfl λf ZP A outer s H E hr=>?_;have hu:=bC hr;exact⟨_,(aw<|aK<|fP G15 (d6 (K:=K) rfl (pv 0) rfl) kM.c (hr.mono (by decide))<|a8 (aS (aJ (K:=K) rfl) (d6 (K:=K) rfl (pv 0) rfl) (pv 1) λx x=>rfl) ag),
  λa=>BV.cast (bI<|mN ob_m (B0 kW<|a7 0 rfl)<|aA<|bc bi (lu kW<|a7 0 rfl)<|a7 1 rfl) (by unfold Pf.aR;first|rfl|(simp only[Pu.bs];done)|(simp only[Pu.bs,i8];done))⟩
theorem sG(D:aL K mg "ways_back" iV pl4)(G00:dY P w K mg base)(G03:dG P w K mg base)(G04:cS P w K mg base):iY P w K mg base:=by
 have nd:=kQ.nd;refine D.pD kQ (λx=>rfl) rfl λf ZP A outer s H E hr=>?_;have hu:=bC hr;exact⟨_,(af (az (i:=4) nd rfl (Or.inl rfl)<|av G00 (hr.mono (by decide)) rfl<|a8 (pv 0) ag)
   (af (az (i:=5) nd rfl (Or.inl rfl)<|pe_disp (Ai (pv 2) gO pps_nil) rfl rfl (by simp) (by decide))
   (af (az (i:=6) nd rfl (Or.inl rfl)<|cJ<|a8 (pv 2) ag)
   (af (jS R8 (qR (K:=K) rfl (pv 6) λx=>rfl)
   (af (az (i:=7) nd rfl (Or.inl rfl)<|jB (K:=K) rfl N1 PySem.F.slot_list_pop PySem.F.type_list_pop A8 (pv 6)<|a8 ak ag)
   (aw (eZ R8 rfl (bu (K:=K) rfl<|av G03 (hr.mono (by decide)) rfl<|a8 (pv 4)<|a8 (pv 1)<|a8 (pv 7) ag) (aN (i:=8) nd rfl<|Or.inl rfl)
   (aw (eK (PW.pt<|zO (zN<|yF hu (pv 8)<|pv 5)<|wA<|mY<|jv<|av G04 (hr.mono (by decide)) rfl<|a8 (pv 0)<|a8 (pv 3)<|a8 (pv 8) ag)
   (af (qO hu (pv 5) (pv 8) (pv 7) rfl)
   (aw<|gQ<|jB (K:=K) rfl N1 J6 J7 fF (pv 6)<|a8 (pv 8) ag))
   c6))))))
   (aw<|aK<|pv 5))))),
  λa=>BV.cast (aD 4 (aM<|aA<|a7 0 rfl) λsize1=>(xo 5 (evd_one (a7 2 rfl) k0) λback3=>(kg 6 (ci<|cL (a7 2 rfl) ce) λwaiting4=>(vC (Γf:=λ(s5:(List<|Int×Option (Int))×(List<|Int))=>[.fr (rL<|rL a9) (a.1),.fr a9 (a.2.1),.fr a9 (a.2.2.1),.fr a9 (a.2.2.2),.fr (cF a9 a9) (size1),.od (fg a9) wX (s5.1),.ol a9 wX (s5.2),.any,.any]) 100000 ((back3,waiting4)) (aB<|aB<|aB<|aB<|aB<|aB<|aB<|da<|da .nil) (λs5=>(AE 6 rfl<|qZ bi<|a7 6 rfl))
  (λs5=>(bv_popF 6 7 rfl (by decide) λhere6 waiting8=>(bL (eB (Γf:=λ(s10:(List<|Int×Option (Int))×(List<|Int))=>[.fr (rL<|rL a9) (a.1),.fr a9 (a.2.1),.fr a9 (a.2.2.1),.fr a9 (a.2.2.2),.fr (cF a9 a9) (size1),.od (fg a9) wX (s10.1),.ol a9 wX (s10.2),.fr a9 (here6),.any]) ((s5.1,waiting8)) (bS bi ((aU<|aj (a7 4 rfl)<|aj (a7 1 rfl)<|aA<|a7 7 rfl)).ev) (aB<|aB<|aB<|aB<|aB<|aB<|aB<|aB<|da .nil) (λx=>(bb 8))
  (λs10 x9=>(bL (eS (et_borD 5 rfl<|Az (qY<|yM (a7 8 rfl)<|a7 5 rfl)<|nH<|qY<|aM<|aj (a7 0 rfl)<|aj (a7 3 rfl)<|aA<|a7 8 rfl)
  (kf (AK 5 rfl (a7 8 rfl) (g9<|a7 7 rfl) λback12=>(gC 6 rfl (a7 8 rfl) λwaiting15=>(cj ((back12,waiting15))<|aB<|aB<|aB<|aB<|aB<|aB<|aB<|aB<|da .nil))))
  (c7<|cj ((s10.1,s10.2))<|aB<|aB<|aB<|aB<|aB<|aB<|aB<|aB<|da .nil))))
  λs10=>(cj ((s10.1,s10.2))<|aB<|aB<|aB<|aB<|aB<|aB<|aB<|da<|da .nil)))))
  λs5=>(AI 5 rfl))))) (by unfold Pf.gE;first|rfl|(simp only[Pu.bs];done)|(simp only[Pu.bs,i8];done))⟩
theorem sH(D:aL K mg "way_under" iW pl20)(G18:iY P w K mg base):lV P w K mg base:=by
 have nd:=kR.nd;refine D.pL kR (λx=>rfl) rfl λf ZP A outer s H E hr=>?_;have hu:=bC hr;exact⟨_,(af (az (i:=5) nd rfl (Or.inl rfl)<|av G18 (hr.mono (by decide)) rfl<|a8 (pv 0)<|a8 (pv 1)<|a8 (pv 3)<|a8 (pv 4) ag)
   (af (az (i:=6) nd rfl (Or.inl rfl)<|cJ<|a8 (pv 2) ag)
   (af (jS R8 (ba qa (aS (aJ (K:=K) rfl) (pv 6) (pe_un zU ak) λx x=>rfl) (pv 3)<|bx _)
   (aw<|gQ<|jB (K:=K) rfl N1 J6 J7 fF (pv 6)<|a8 (jW hu (pv 5) (aS (aJ (K:=K) rfl) (pv 6) (pe_un zU ak) λx x=>rfl) λx x=>rfl) ag))
   (aw<|aK<|pv 6)))),
  λa=>BV.cast (aD 5 ((tm<|aj (a7 0 rfl)<|aj (a7 1 rfl)<|aj (a7 3 rfl)<|aA<|a7 4 rfl)).ev λback1=>(kg 6 (ci<|cL (a7 2 rfl) ce) λway3=>(vC (Γf:=λ(s4:(List<|Int))=>[.fr (rL<|rL a9) (a.1),.fr a9 (a.2.1),.fr a9 (a.2.2.1),.fr a9 (a.2.2.2.1),.fr a9 (a.2.2.2.2),.fr (rD<|fg a9) (back1),.ol a9 wX (s4)]) 100000 (way3) (aB<|aB<|aB<|aB<|aB<|aB<|aB .nil) (λs4=>(AE 6 rfl<|cy<|lf gb (bc bi (a7 6 rfl)<|Aw au)<|a7 3 rfl))
  (λs4=>(bL (gC 6 rfl (ev_bor 6 rfl cK<|iH<|rj (a7 5 rfl)<|bc bi (a7 6 rfl)<|Aw au) λway8=>(cj (way8)<|aB<|aB<|aB<|aB<|aB<|aB<|aB .nil))))
  λs4=>(rA 6 rfl)))) (by unfold Pf.jc;first|rfl|(simp only[Pu.bs];done)|(simp only[Pu.bs,i8];done))⟩
theorem lJ(D:aL K mg "stretch_under" fh pl4)(G04:cS P w K mg base)(G18:iY P w K mg base):ib P w K mg base:=by
 have nd:=gL.nd;refine D.pL gL (λx=>rfl) rfl λf ZP A outer s H E hr=>?_;have hu:=bC hr;exact⟨_,(af (eK (jv<|av G04 (hr.mono (by decide)) rfl<|a8 (pv 0)<|a8 (pv 3)<|a8 (pv 2) ag)
   (aw<|aK<|cJ ag)
   c6)
   (aw<|aK<|aI (vE rfl) (by rfl) B.sorted gB<|a8 (av G18 (hr.mono (by decide)) rfl<|a8 (pv 0)<|a8 (pv 1)<|a8 (pv 2)<|a8 (pv 3) ag) ag)),
  λa=>BV.cast (eS (qY<|aM<|aj (a7 0 rfl)<|aj (a7 3 rfl)<|aA<|a7 2 rfl)
  (d5<|cE<|ci (r:=a9) ce)
  (c7<|cE<|yU ((tm<|aj (a7 0 rfl)<|aj (a7 1 rfl)<|aj (a7 2 rfl)<|aA<|a7 3 rfl)).ev)) (by unfold Pf.cz;first|rfl|(simp only[Pu.bs];done)|(simp only[Pu.bs,i8];done))⟩
theorem jm(D:aL K mg "stretch_ahead_of" dc pl21)(G02:i7 P w K mg base)(G04:cS P w K mg base)(G91:ib P w K mg base):fU P w K mg base:=by
 have nd:=fj.nd;refine D.pL fj (λx=>rfl) rfl λf ZP A outer s H E hr=>?_;have hu:=bC hr;exact⟨_,(af (eK (mY<|jv<|av G04 (hr.mono (by decide)) rfl<|a8 (pv 0)<|a8 (pv 2)<|a8 (pv 3) ag)
   (aw<|aK<|cJ ag)
   c6)
   (af (az (i:=4) nd rfl (Or.inl rfl)<|av G02 (hr.mono (by decide)) rfl<|a8 (pv 0) ag)
   (aw<|aK<|av G91 (hr.mono (by decide)) rfl<|a8 (pv 0)<|a8 (pv 1)<|a8 (pv 2)<|a8 (aS (aJ (K:=K) rfl) (pv 4) (aC gm (jB (K:=K) rfl N1 PySem.F.slot_list_index PySem.F.type_list_index (AT (K:=K) rfl) (pv 4)<|a8 (pv 3) ag) ak) λx x=>rfl) ag))),
  λa=>BV.cast (eS (nH<|qY<|aM<|aj (a7 0 rfl)<|aj (a7 2 rfl)<|aA<|a7 3 rfl)
  (d5<|cE<|ci (r:=a9) ce)
  (c7 (aD 4 ((aU<|aA<|a7 0 rfl)).ev λorder2=>(cE<|ia.cast (aU<|aj (a7 0 rfl)<|aj (a7 1 rfl)<|aj (a7 2 rfl)<|aA<|bc bi (a7 4 rfl)<|gq (AU (a7 4 rfl)<|a7 3 rfl) au) Pu.as4)))) (by unfold Pf.bQ;first|rfl|(simp only[Pu.bs];done)|(simp only[Pu.bs,i8];done))⟩
theorem mD(D:aL K mg "pass_between" fT pl5)(G92:oW P w K mg base)(G93:lV P w K mg base)(G94:fU P w K mg base):iZ P w K mg base:=by
 have nd:=ie.nd;refine D.pV ie (λx=>rfl) rfl λf ZP A outer s H E hr=>?_;have hu:=bC hr;exact⟨_,(af (az (i:=4) nd rfl (Or.inl rfl)<|av G92 (hr.mono (by decide)) rfl<|a8 (pv 0)<|a8 (pv 1)<|a8 (pv 2)<|a8 (pv 3) ag)
   (af (az (i:=5) nd rfl (Or.inl rfl)<|av G93 (hr.mono (by decide)) rfl<|a8 (pv 0)<|a8 (pv 1)<|a8 (pv 2)<|a8 (pv 3)<|a8 (pv 4) ag)
   (aw<|aK<|iB<|a8 (pv 4)<|a8 (pv 5)<|a8 (av G94 (hr.mono (by decide)) rfl<|a8 (pv 0)<|a8 (pv 1)<|a8 (pv 2)<|a8 (pv 4) ag) ag))),
  λa=>BV.cast (aD 4 (iH<|aM<|aj (a7 0 rfl)<|aj (a7 1 rfl)<|aj (a7 2 rfl)<|aA<|a7 3 rfl) λlatest1=>(aD 5 ((aU<|aj (a7 0 rfl)<|aj (a7 1 rfl)<|aj (a7 2 rfl)<|aj (a7 3 rfl)<|aA<|a7 4 rfl)).ev λway4=>(bI<|xj (a7 4 rfl) (a7 5 rfl) ((aU<|aj (a7 0 rfl)<|aj (a7 1 rfl)<|aj (a7 2 rfl)<|aA<|a7 4 rfl)).ev))) (by unfold Pf.fR;first|rfl|(simp only[Pu.bs];done)|(simp only[Pu.bs,i8];done))⟩
theorem zG(D:aL K mg "_law_passed" oO pl22)(G95:iZ P w K mg base):uG P w K mg base:=by
 have nd:=qD.nd;refine D.pV qD (λx=>rfl) rfl λf ZP A outer s H E hr=>?_;have hu:=bC hr;exact⟨_,(af (az (i:=5) nd rfl (Or.inl rfl)<|av G95 (hr.mono (by decide)) rfl<|a8 (pv 0)<|a8 (pv 1)<|a8 (pv 2)<|a8 (pv 3) ag)
   (af (eK (PW.pt<|wB (mY<|jv<|aI (l8 (K:=K) (T:="tuple") rfl) (by rfl) B.isinstance gn<|a8 (pv 5)<|a8 (qH (v:=.ty "tuple") rfl B.tuple_ Aq rfl) ag)<|uS<|ba qa (aI (de (K:=K) rfl) (by rfl) B.len iG<|a8 (pv 5) ag) ak<|bx _)
   (aw<|aK wy)
   c6)
   (aw<|aK<|zQ (aI (l8 (K:=K) (T:="int") rfl) (by rfl) B.isinstance gn<|a8 (aS (bH (K:=K) rfl) (pv 5) ak λx x=>rfl)<|a8 (qH (v:=.ty "int") rfl B.int_ Ap rfl) ag)<|zQ (pe_not<|aI (l8 (K:=K) (T:="bool") rfl) (by rfl) B.isinstance gn<|a8 (aS (bH (K:=K) rfl) (pv 5) ak λx x=>rfl)<|a8 (qH (v:=.ty "bool") rfl B.bool_ bo_bool rfl) ag)<|pe_one<|j6 jn (aS (bH (K:=K) rfl) (pv 5) ak λx x=>rfl) (pv 4)<|bx _))),
  λa=>BV.cast (aD 5 (aM<|aj (a7 0 rfl)<|aj (a7 1 rfl)<|aj (a7 2 rfl)<|aA<|a7 3 rfl) λfound1=>(eS (AN (nH<|qY<|vB (a7 5 rfl) isi_t3)<|cy<|lf gb (B9<|a7 5 rfl) au)
  (d5<|bI xg)
  (c7<|bI<|xt (vB (k8<|a7 5 rfl) isi_ii)<|xt (ev_not<|vB (k8<|a7 5 rfl) isi_ib)<|gs gb (k8<|a7 5 rfl)<|a7 4 rfl))) (by unfold Pf.dS;first|rfl|(simp only[Pu.bs];done)|(simp only[Pu.bs,i8];done))⟩
theorem zH(D:aL K mg "_law_joined" oP pl23) :uH P w K mg base:=by
 have nd:=qE.nd;refine D.pV qE (λb=>rfl) rfl λf ZP A outer s H E hr=>?_;have hu:=bC hr;exact⟨_,(af (az (i:=4) nd rfl (Or.inr rfl)<|cJ<|a8 (pv 2) ag)
   (af (az (i:=5) nd rfl (Or.inl rfl) (aS (aJ (K:=K) rfl) (pv 0) (pv 2) λb b=>rfl))
   (af (az (i:=6) nd rfl (Or.inl rfl)<|aI (uh (K:=K) rfl hr.units) (by rfl) B.sorted gB<|a8 (dZ (loc:=["_law_first","_law_second","_law_cell"]) (cap:=[("_law_keys_here",0)]) rfl ⟨rfl,by decide +kernel,by decide +kernel,rfl,⟨⟨rfl,rfl,by first | exact Or.inl rfl | exact Or.inr rfl⟩,trivial⟩,rfl⟩  (bu (K:=K) rfl<|pv 1) (λb b b b=>(qS (K:=K) (n:=3) rfl rfl<|eM (aN (i:=0) (show (["_law_first","_law_second","_law_cell","_law_keys_here"]:List Str).Nodup by decide +kernel) rfl<|Or.inl rfl)<|eM (aN (i:=1) (show (["_law_first","_law_second","_law_cell","_law_keys_here"]:List Str).Nodup by decide +kernel) rfl<|Or.inl rfl)<|eM (aN (i:=2) (show (["_law_first","_law_second","_law_cell","_law_keys_here"]:List Str).Nodup by decide +kernel) rfl<|Or.inl rfl) qI)) (λb b b b=>dt) λb b b b=>(iB<|a8 (aS (aJ (K:=K) rfl) (pv 3) (pv 2) λb b=>rfl)<|a8 (pv 0)<|a8 (pv 1) ag)) ag)
   (af (jS R8 (ba (yK (K:=K) rfl) (pv 3) (pv 4) (by with_unfolding_all rfl))
   (af (gW (loc:=["_law_line"]) (cap:=[("_law_group",4)]) (i:=7) rfl ⟨rfl,by decide +kernel,by decide +kernel,rfl,⟨⟨rfl,rfl,by first | exact Or.inl rfl | exact Or.inr rfl⟩,trivial⟩,rfl⟩ nd rfl (Or.inl rfl) (bu (K:=K) rfl<|pv 6) (λb b b b=>(aN (i:=0) (show (["_law_line","_law_group"]:List Str).Nodup by decide +kernel) rfl<|Or.inl rfl)) (λb b b b=>(iE<|ba qa (j6 (Ar (K:=K) rfl) (aS (bH (K:=K) rfl) (pv 0) ak λb b=>rfl) (pv 1) (by with_unfolding_all rfl)) (j6 (Ar (K:=K) rfl) (aS (bH (K:=K) rfl) (pv 0) ak λb b=>rfl) (pv 1) (by with_unfolding_all rfl))<|bx _)) λb b b b=>(pv 0))
   (af (eK (ba (wV (K:=K) rfl hr.units) (pv 7) (cJ ag)<|bx _)
   (aw<|aK gO)
   c6)
   (af (az (i:=5) nd rfl (Or.inl rfl)<|aI (oq rfl<|bC hr) (by rfl) B.max jA<|a8 (pv 5)<|a8 (aS (bH (K:=K) rfl) (aS (aJ (K:=K) rfl) (pv 7) ak λb b=>rfl) ak λb b=>rfl) ag)
   (aw<|az (i:=4) nd rfl (Or.inr rfl)<|aC re (pv 4)<|cJ<|a8 (aS (bH (K:=K) rfl) (aS (aJ (K:=K) rfl) (pv 7) ak λb b=>rfl) ak λb b=>rfl)<|a8 (aS (bH (K:=K) rfl) (aS (aJ (K:=K) rfl) (pv 7) ak λb b=>rfl) ak λb b=>rfl) ag)))))
   (aw<|aK<|pv 5))))),
  λa=>BV.cast (aD 4 ((ci<|cL (a7 2 rfl) ce)).ev λgroup1=>(aD 5 (bc bi (a7 0 rfl)<|a7 2 rfl) λlatest2=>(aD 6 ((we ((dv (bS bi<|a7 1 rfl) (by decide) (by decide) B8 λy4=>(xj (bc bi (a7 3 rfl)<|a7 2 rfl) (a7 0 rfl)<|a7 1 rfl))).ev)).ev λleft7=>(bv_whC (Γf:=λ(s9:(List<|Int)×(Int×Int))=>[.fr (rL<|cF a9 a9) (a.1),.fr (rL<|ml a9 a9 a9) (a.2.1),.fr a9 (a.2.2.1),.fr a9 (a.2.2.2),.fr (rL a9) (s9.1),.fr (cF a9 a9) (s9.2),.fr (rL<|ml (cF a9 a9) a9 a9) (left7),.any]) (rf:=rq<|fg<|cF a9 a9) (e:=(λx=>x)) 100000 ((group1,latest2)) (aB<|aB<|aB<|aB<|aB<|aB<|aB<|da .nil) (λs9=>(cy<|yN vA (a7 3 rfl)<|a7 4 rfl))
  (λs9=>(aD 7 ((dR (bS bi<|a7 6 rfl) (by decide) (by decide) (bb 0) (λy10=>(cy<|lf sc_bb (AC vA (rg<|a7 0 rfl)<|a7 1 rfl)<|AC vA (xl<|a7 0 rfl)<|a7 1 rfl)) λy10=>(a7 0 rfl))).ev λsome11=>(eS (cy<|AM (dL<|dT3 (dT2 tq tq) tq tq) (a7 7 rfl) ((ci (r:=(ml (cF a9 a9) a9 a9)) ce)).ev)
  (d5<|mJ<|bI k0)
  (c7 (aD 5 (ug (a7 5 rfl)<|k8<|bc bi (a7 7 rfl) au) λlatest15=>(bL (aD 4 ((rm (a7 4 rfl) ((ci<|cL (rg<|bc bi (a7 7 rfl) au)<|cL (xl<|bc bi (a7 7 rfl) au) ce)).ev)).ev λgroup22=>(nK ((group22,latest15))<|aB<|aB<|aB<|aB<|aB<|aB<|aB<|da .nil))))))))
  rfV (λb b b h=>h) λs9=>(bI<|g9<|a7 5 rfl))))) (by unfold Pf.fJ;first|rfl|(simp only[Pu.bs];done)|(simp only[Pu.bs,i8];done))⟩
theorem ok_law{f:Addr}{fd:FuncData}(F:Fun K "law" "law" kK f fd)(G05:jg P w K mg base)(G06:oQ P w K mg base)(G96:ye P w K mg base)(G97:C8 P w K mg base)(G17:iX P w K mg base)(G98:oV P w K mg base)(G74:uG P w K mg base)(G99:uH P w K mg base)(hl:∀ns:List Int,ns.length<=63->Pf.kG ns=some true):FnOk P w K mg base sZ 14 f fd ["_law_script"] (vD K):=by
 have nd:=C9.nd;refine F.law (fl:=Pf.kG) C9 rfl hl λf ZP A outer s H E hr=>?_;have hu:=bC hr;exact⟨_,(af (az (i:=1) nd rfl (Or.inl rfl)<|av G96 (hr.mono (by decide)) rfl<|a8 (pv 0)<|a8 ak ag)
   (af (az (i:=2) nd rfl (Or.inl rfl) (aS (aJ (K:=K) rfl) (cJ<|a8 ak<|a8 ak ag) (aC dq (av G05 (hr.mono (by decide)) rfl<|a8 (pv 0)<|a8 ak ag) ak) λb b=>rfl))
   (af (az (i:=3) nd rfl (Or.inl rfl)<|av G97 (hr.mono (by decide)) rfl<|a8 (pv 1) ag)
   (af (az (i:=4) nd rfl (Or.inl rfl)<|aI (vY rfl) (by rfl) B.sorted gB<|a8 (l6 (zd (K:=K) rfl rfl) (by rfl) B.set_ bo_set<|a8 (av G17 (hr.mono (by decide)) rfl<|a8 (pv 1)<|a8 (pv 2) ag) ag) ag)
   (af (az (i:=5) nd rfl (Or.inl rfl)<|av G98 (hr.mono (by decide)) rfl<|a8 (pv 1)<|a8 (pv 2) ag)
   (af (az (i:=6) nd rfl (Or.inl rfl) (aS (aJ (K:=K) rfl) (pv 4) (av G06 (hr.mono (by decide)) rfl<|a8 (pv 0)<|a8 ak<|a8 (aC gm (aI (de (K:=K) rfl) (by rfl) B.len iG<|a8 (pv 4) ag) ak) ag) λb b=>rfl))
   (af (eK (mY<|jv<|av G74 (hr.mono (by decide)) rfl<|a8 (pv 1)<|a8 (pv 2)<|a8 (pv 6)<|a8 (pv 6)<|a8 (pv 6) ag)
   (aw<|aK wy)
   c6)
   (af (az (i:=7) nd rfl (Or.inr rfl)<|pv 6)
   (af (az (i:=8) nd rfl (Or.inl rfl) (aS (aJ (K:=K) rfl) (pv 3) (pv 6) λb b=>rfl))
   (af (eZ R8 rfl (gz rfl B.range<|a8 ak ag) (aN (i:=9) nd rfl<|Or.inl rfl)
   (af (gW (loc:=["_law_line"]) (cap:=[("_law_here",7)]) (i:=10) rfl ⟨rfl,by decide +kernel,by decide +kernel,rfl,⟨⟨rfl,rfl,by first | exact Or.inl rfl | exact Or.inr rfl⟩,trivial⟩,rfl⟩ nd rfl (Or.inl rfl) (bu (K:=K) rfl<|pv 5) (λb b b b=>(aN (i:=0) (show (["_law_line","_law_here"]:List Str).Nodup by decide +kernel) rfl<|Or.inl rfl)) (λb b b b=>(iE<|PW.pt<|wB (ba jn (pv 1) (aS (bH (K:=K) rfl) (pv 0) ak λb b=>rfl)<|bx _)<|uS<|ba jn (pv 1) (aS (bH (K:=K) rfl) (pv 0) ak λb b=>rfl)<|bx _)) λb b b b=>(pv 0))
   (af (eK (ba (wV (K:=K) rfl hr.units) (pv 10) (cJ ag)<|bx _)
   (aw<|aK<|j6 jn (aI (de (K:=K) rfl) (by rfl) B.len iG<|a8 (pv 4) ag) ak<|bx _)
   c6)
   (af (zS (aS (aJ (K:=K) rfl) (pv 10) (av G06 (hr.mono (by decide)) rfl<|a8 (pv 0)<|a8 (aC bg ak<|pv 9)<|a8 (aC gm (aI (de (K:=K) rfl) (by rfl) B.len iG<|a8 (pv 10) ag) ak) ag) λb b=>rfl)<|qS (K:=K) (n:=3) rfl rfl<|eM (aN (i:=11) nd rfl<|Or.inl rfl)<|eM (aN (i:=12) nd rfl<|Or.inl rfl)<|eM (aN (i:=13) nd rfl<|Or.inl rfl) qI)
   (af (az (i:=7) nd rfl (Or.inr rfl)<|aC gm (aC bg (pv 11)<|pv 12)<|pv 7)
   (af (az (i:=8) nd rfl (Or.inl rfl)<|aI (oq rfl<|bC hr) (by rfl) B.max jA<|a8 (pv 8)<|a8 (aS (aJ (K:=K) rfl) (pv 3) (pv 13) λb b=>rfl) ag)
   (af (az (i:=14) nd rfl (Or.inl rfl) (aS (aJ (K:=K) rfl) (pv 3) (pv 6) λb b=>rfl))
   (af (eK (ba qa (pv 7) (pv 6)<|bx _)
   (aw<|az (i:=14) nd rfl (Or.inl rfl)<|av G99 (hr.mono (by decide)) rfl<|a8 (pv 3)<|a8 (pv 5)<|a8 (pv 6)<|a8 (pv 7) ag)
   c6)
   (aw (eK (PW.pt<|wB (ba zW (pv 14) gO<|bx _)<|wB (ba (op_gtP hr.units) (pv 14) (pv 8)<|bx _)<|uS<|mY<|jv<|av G74 (hr.mono (by decide)) rfl<|a8 (pv 1)<|a8 (pv 2)<|a8 (pv 6)<|a8 (pv 7)<|a8 (aS (bH (K:=K) rfl) (pv 14) ak λb b=>rfl) ag)
   (aw<|aK wy)
   c6))))))))))
   (aw<|aK wy))))))))))),
  λa=>BV.cast (aD 1 ((aU<|aj (a7 0 rfl)<|aA au)).ev λfloor_here1=>(aD 2 (bc bi ((ci<|cL au<|cL au ce)).ev (eC (aM<|aj (a7 0 rfl)<|aA au) au (by decide))) λreach5=>(aD 3 ((aU<|aA<|a7 1 rfl)).ev λkeys_here7=>(aD 4 ((zg<|ev_setW ((aU<|aj (a7 1 rfl)<|aA<|a7 2 rfl)).ev)).ev λbottoms10=>(aD 5 ((aU<|aj (a7 1 rfl)<|aA<|a7 2 rfl)).ev λlines12=>(aD 6 (bc bi (a7 4 rfl)<|aM<|aj (a7 0 rfl)<|aj au<|aA<|gq (jC bi<|a7 4 rfl) au) λfirst15=>(eS (nH<|qY<|aM<|aj (a7 1 rfl)<|aj (a7 2 rfl)<|aj (a7 6 rfl)<|aj (a7 6 rfl)<|aA<|a7 6 rfl)
  (d5<|bI xg)
  (c7 (aD 7 (a7 6 rfl) λhere18=>(aD 8 (bc bi (a7 3 rfl)<|a7 6 rfl) λlatest19=>(rB (Γf:=λ(s22:YV)=>[.fr (nF K) (a),.fr (rL<|rL a9) (floor_here1),.fr a9 (reach5),.fr (rL<|cF a9 a9) (keys_here7),.fr (rL a9) (bottoms10),.fr (rL<|ml a9 a9 a9) (lines12),.fr a9 (first15),.fr a9 (s22.1),.fr (cF a9 a9) (s22.2),.any,.any,.any,.any,.any,.any]) (rf:=rq bF) (e:=(λx=>x)) ((here18,latest19)) (ke au) (aB<|aB<|aB<|aB<|aB<|aB<|aB<|aB<|aB<|da<|da<|da<|da<|da<|da .nil) (λb=>(bb 9))
  (λs22 x21=>(aD 10 ((dR (bS bi<|a7 5 rfl) (by decide) (by decide) (bb 0) (λy23=>(AN (cy<|gs gb (a7 1 rfl)<|k8<|a7 0 rfl)<|cy<|gs gb (a7 1 rfl)<|rg<|a7 0 rfl)) λy23=>(a7 0 rfl))).ev λsome24=>(eS (cy<|AM (dL<|dT3 tq tq tq) (a7 10 rfl) ((ci (r:=(ml a9 a9 a9)) ce)).ev)
  (d5<|mJ<|bI<|gs gb (jC bi<|a7 4 rfl) au)
  (c7 (bv_asg (bc bi (a7 10 rfl)<|aM<|aj (a7 0 rfl)<|aj (bj au<|a7 9 rfl)<|aA<|gq (jC bi<|a7 10 rfl) au) (gv_trip 11 12 13) λt27=>(aD 7 (gq (bj (a7 11 rfl)<|a7 12 rfl)<|a7 7 rfl) λhere29=>(aD 8 (ug (a7 8 rfl)<|bc bi (a7 3 rfl)<|a7 13 rfl) λlatest31=>(aD 14 (g9<|bc bi (a7 3 rfl)<|a7 6 rfl) λdue33=>(xp (Γj:=λ(s36:(Option<|(Int×Int)))=>[.fr (nF K) (a),.fr (rL<|rL a9) (floor_here1),.fr a9 (reach5),.fr (rL<|cF a9 a9) (keys_here7),.fr (rL a9) (bottoms10),.fr (rL<|ml a9 a9 a9) (lines12),.fr a9 (first15),.fr a9 (here29),.fr (cF a9 a9) (latest31),.fr a9 (x21),.fr (rL<|ml a9 a9 a9) (some24),.fr a9 (t27.1),.fr a9 (t27.2.1),.fr a9 (t27.2.2),.fr (fg<|cF a9 a9) (s36)]) (bL (eS (cy<|lf gb (a7 7 rfl)<|a7 6 rfl)
  (aD 14 (aM<|aj (a7 3 rfl)<|aj (a7 5 rfl)<|aj (a7 6 rfl)<|aA<|a7 7 rfl) λdue37=>(kh (due37)<|aB<|aB<|aB<|aB<|aB<|aB<|aB<|aB<|aB<|aB<|aB<|aB<|aB<|aB<|aB .nil))
  (c7<|kh (due33)<|aB<|aB<|aB<|aB<|aB<|aB<|aB<|aB<|aB<|aB<|aB<|aB<|aB<|aB<|aB .nil))) λs36=>(bL (eS (AA (cy<|Ax (a7 14 rfl) nn_t2)<|AA (cy<|ev_gtP (iH<|a7 14 rfl)<|a7 8 rfl)<|nH<|qY<|aM<|aj (a7 1 rfl)<|aj (a7 2 rfl)<|aj (a7 6 rfl)<|aj (a7 7 rfl)<|aA<|gc<|iH<|a7 14 rfl)
  (d5<|mJ<|bI xg)
  (c7<|nK ((here29,latest31))<|aB<|aB<|aB<|aB<|aB<|aB<|aB<|aB<|aB<|da<|da<|da<|da<|da<|da .nil))))))))))))
  rfV (λb b b h=>h) λs22=>(bI xg)))))))))))) (by unfold Pf.kG;first|rfl|(simp only[Pu.bs];done)|(simp only[Pu.bs,i8];done))⟩
end
end K24
namespace Pu
open Gr
theorem whC_inv{S R:Type}{t:S->Option Bool}{f:S->Option (Ctl S R)}(I:S->Prop)(μ:S->Nat)(h:∀s,I s->∃b,t s=some b/\(b=true->∃s',f s=some (.nx s')/\I s'/\μ s'<μ s)):∀{n:Nat} {s:S},I s->μ s<n->∃s',Av t f n s=some (.nx s')/\I s'/\t s'=some false:=by
 intro n;induction n with
 |zero=>exact λx hn=>absurd hn<|O6 _
 |succ n ih =>
  intro s hI hn;refine aa (h s hI) λb e1 e2=>?_;cases b with
  |false=>exact cD s (cr e1 rfl) hI e1
  |true=>exact aE (e2 rfl) λs1 e3 h1 h2=>aE (ih h1<|bZ h2<|T1 hn) λs2 e4 h3 h4=>cD s2 (cr e1<|cr e3 e4) h3 h4
theorem whC_ex{S R T:Type}{t:S->Option Bool}{f:S->Option (Ctl S R)}{k:S->Option T}{e:R->T}{P:T->Prop}(I:S->Prop)(μ:S->Nat){s:S}(h0:I s)(hn:μ s<n)(h:∀s,I s->∃b,t s=some b/\(b=true->∃s',f s=some (.nx s')/\I s'/\μ s'<μ s))(hk:∀s',I s'->t s'=some false->∃o,k s'=some o/\P o):∃o,andThen (Av t f n s) k e=some o/\P o:=by refine aE (whC_inv I μ h h0 hn) λs' e1 h1 h2=>?_;rw[oE e1];exact hk s' h1 h2
noncomputable def un(n:Nat)(l:ZL):Nat:=((X9 n).filter λ(x:Nat)=>!decide ((x:Int)∈l)).length
theorem un_lt{l l':ZL}(sub:∀x,x∈l->x∈l'){x:Nat}(hx:x<n)(h1:(x:Int)∉l)(h2:(x:Int)∈l'):un n l'<un n l:=by
 have e:((X9 n).filter λ(x:Nat)=>!decide ((x:Int)∈l'))=((X9 n).filter λ(x:Nat)=>!decide ((x:Int)∈l)).filter λ(x:Nat)=>!decide ((x:Int)∈l'):=by
  rw[List.filter_filter];refine List.filter_congr λy a=>?_;by_cases q:(y:Int)∈l
  ·rw[decide_eq_true q,decide_eq_true (sub _ q)];rfl
  ·rw[decide_eq_false q,Bool.not_false,Bool.and_true]
 unfold un;rw[e];refine List.length_filter_lt_length_iff_exists.mpr ⟨x,P0.mpr ⟨P7.mpr hx,by rw[decide_eq_false h1];rfl⟩,by rw[decide_eq_true h2];exact Z7⟩
theorem un_le(n:Nat)(l:ZL):un n l<=n:=b8 (K9 _ _)<|bG U1
theorem zK{α:Type}(x:α)(xs:List α):at_ (x ::xs) 0=some x:=cZ (i:=0)
end Pu
namespace Pf
open Fl Pu Gr
section
variable {hs:ZL}{os:ZM}{A:ZE}{n:Nat}{bot:ZG}{ls:Zc}
theorem j4(hx:x<hs.length):Pu.at_ ((X9 hs.length).map (hk hs)) (x:Int)=some (hk hs x):=by rw[cZ,X2,F8 hx];rfl
noncomputable abbrev gN(hs:ZL)(t:Int×Int×Int):(Int×Int)×Int×Int:=(hk hs t.2.2.toNat,t.1,t.2.1)
structure Gat(hs:ZL)(os:ZM)(A:ZE)(n one ZO:Nat)(G:ZM)(m:Nat):Prop where
 mn:m<n
 hone:one∈G
 all:∀g∈G,g<n/\Rch A (Lv n (rk os)<|rk os m+1) one g
 le:rk os one<=rk os m
 low:∀k,rk os one<k->Rch A (Lv n (rk os) k) one ZO->rk os m<k
 len:G.length+2*un n (cl G)<=1+2*n
theorem Gat.step(sy:∀a b,A a b->A b a)(L:Lines A n (rk os) bot ls)(g:Gat hs os A n one ZO G m)(b1:bot one=one)(b2:bot ZO=ZO)(no:ZO∉G)(hw:w<n)(ha:a<n)(hb:b<n)(hl:rk os a<rk os w+1)(r:Rch A (Lv n (rk os)<|rk os w+1) a b)(x:(a∈G/\b∉G)\/(a∉G/\b∈G))(least:∀a' b' w':Nat,((a':Int),(b':Int),(w':Int))∈ls->(a'∈G/\b'∉G)\/(a'∉G/\b'∈G)->rk os w<=rk os w'):
  Gat hs os A n one ZO (G++[a,b]) (if rk os m<rk os w then w else m)/\un n (cl<|G++[a,b])<un n (cl G):=by
 have hm:rk os m<=rk os (if rk os m<rk os w then w else m)/\rk os w<=rk os (if rk os m<rk os w then w else m)/\(∀k,rk os m<k->rk os w<k->rk os (if rk os m<rk os w then w else m)<k)/\(if rk os m<rk os w then w else m)<n:=by
  by_cases q:rk os m<rk os w
  ·rw[if_pos q];exact⟨cT q,bD _,λc c h=>h,hw⟩
  ·rw[if_neg q];exact⟨bD _,U6.mp q,λc h c=>h,g.mn⟩
 generalize (if rk os m<rk os w then w else m)=m' at hm ⊢;have up:∀{j x y:Nat},j<=rk os m'->Rch A (Lv n (rk os)<|j+1) x y->Rch A (Lv n (rk os)<|rk os m'+1) x y:=λhj q=>q.mono λc c h1 h2=>⟨h1,h2.1,bZ h2.2<|N5 hj⟩;have un1:un n (cl<|G++[a,b])<un n (cl G):=by
  have sub:∀x,x∈cl G->x∈cl (G++[a,b]):=λx hx=>by rw[je];exact W0.mpr<|.inl hx
  rcases x with ⟨_,q⟩|⟨q,_⟩
  ·exact un_lt sub hb (λz=>q<|bB.mp z)<|bB.mpr<|W0.mpr<|.inr<|.tail _<|.head _
  ·exact un_lt sub ha (λz=>q<|bB.mp z)<|bB.mpr<|W0.mpr<|.inr<|.head _
 refine⟨⟨hm.2.2.2,W0.mpr<|.inl g.hone,λy hy=>?_,b8 g.le hm.1,λk h1 h2=>hm.2.2.1 k (g.low k h1 h2) ?_,?_⟩,un1⟩
 ·have both:Rch A (Lv n (rk os)<|rk os m'+1) one a/\Rch A (Lv n (rk os)<|rk os m'+1) one b:=by
   rcases x with ⟨q,_⟩|⟨_,q⟩
   ·have h1:=up hm.1 (g.all a q).2;exact⟨h1,h1.trans<|up hm.2.1 r⟩
   ·have h1:=up hm.1 (g.all b q).2;exact⟨h1.trans<|(up hm.2.1 r).symm sy ⟨ha,bZ hl<|N5 hm.2.1⟩,h1⟩
  rcases W0.mp hy with q|q
  ·exact⟨(g.all y q).1,up hm.1 (g.all y q).2⟩
  ·rcases Y4.mp q with q|q
   ·rw[q];exact⟨ha,both.1⟩
   ·rw[Y3.mp q];exact⟨hb,both.2⟩
 ·exact cH (L.over h1 h2 (λx=>x∈G) (b1.symm▸g.hone)<|b2.symm▸no) λa' b' w' g1 g2 g3=>dI (least a' b' w' g1 g3) g2
 ·rw[Y9];have:=g.len;show G.length+2+_<=_;lia
theorem leN_fst(h:uQ (x,p) (y,q)=true):cx y x=false:=by
 unfold uQ ltN at h;rw[Bool.not_eq_true']at h;by_cases e:y=x
 ·rw[e];exact wc x
 ·rw[if_neg (show ¬ (y,q).1=(x,p).1 from e)]at h;exact h
theorem latH(o:Ord hs os)(hx:x<hs.length)(hy:y<hs.length):(if Pu.cx (hk hs x) (hk hs y)=true then hk hs y else hk hs x)=hk hs (if rk os x<rk os y then y else x):=by
 by_cases q:rk os x<rk os y
 ·rw[if_pos q,if_pos ((o.lt_iff hx hy).mp q)]
 ·rw[if_neg q,if_neg λz=>q<|(o.lt_iff hx hy).mpr z]
theorem prim_eq(o:Ord hs os)(hn:n=hs.length)(hn2:n<=1000)(sy:∀a b,A a b->A b a)(L:Lines A n (rk os) bot ls)(hall:∀x y,x<n->y<n->Rch A (Lv n (rk os) n) x y)(h1:one<n)(h2:ZO<n)(b1:bot one=one)(b2:bot ZO=ZO):
  ∃r,Pf.fJ ((X9 hs.length).map (hk hs)) ls (one:Int) (ZO:Int)=some r/\∃m:Nat,r=some (hk hs m)/\m<n/\rk os one<=rk os m/\Rch A (Lv n (rk os)<|rk os m+1) one ZO/\∀k,rk os one<k->Rch A (Lv n (rk os) k) one ZO->rk os m<k:=by
 subst hn;have em:∀{e:Zh},e∈oA (ls.map<|gN hs)↔∃t,t∈ls/\gN hs t=e:=λ{e}=>by rw[(lB _).mem_iff,U9]
 have ln:(oA<|ls.map<|gN hs).length<=1000000:=by rw[(lB _).length_eq,Y0];exact b8 L.len (by decide)
 have e1:Pu.comp (λ(y4:Zf)=>(Pu.at_ ((X9 hs.length).map (hk hs)) y4.2.2).bind λx5=>some<|(x5,y4.1,y4.2.1)) ls=some (ls.map<|gN hs):=fu (b8 L.len (by decide)) λt ht=>fM (L.out t ht) λa b w e z=>by rw[e];exact cr (j4 z.1) rfl
 have nd:(ls.map<|gN hs).Nodup:=List.Pairwise.of_map Prod.snd (λa b ne e=>ne<|congrArg Prod.snd e) (show List.Pairwise (·≠·) ((ls.map<|gN hs).map Prod.snd) by rw[P6];exact L.nd);have e2:Pu.sf (ls.map<|gN hs)=some (oA<|ls.map<|gN hs):=if_pos ⟨by rw[Y0];exact dI L.len (by decide),nd⟩;unfold Pf.fJ;rw[j4 h1,bs,e1,bs,e2,bs];refine whC_ex (λs=>∃G m,s=(cl G,hk hs m)/\Gat hs os A hs.length one ZO G m) (λs=>un hs.length s.1) ⟨[one],one,rfl,?_⟩ (dI (b8 (un_le _ _) hn2) (by decide)) (λs hs'=>?_) λs hs' ht=>?_
 ·refine⟨h1,List.mem_singleton_self _,λg hg=>?_,bD _,λk hk h=>hk,?_⟩
  ·rw[Y3.mp hg];exact⟨h1,.here⟩
  ·have:=un_le hs.length<|cl [one];show 1+_<=_;lia
 ·refine bv hs' λG m es g=>?_;rw[es];refine⟨_,rfl,λhb=>?_⟩;have no:ZO∉G:=λz=>by rw[decide_eq_true (bB.mpr z)]at hb;exact absurd hb Z7
  have cf:=gJ (t:=λ(y10:(((Int×Int))×Int×Int))=>some<|!decide ((decide<|y10.2.1∈cl G)=(decide<|y10.2.2∈cl G))) (f:=λ(y10:(((Int×Int))×Int×Int))=>some<|y10) (g:=λy=>y) (p:=λy=>!decide ((decide<|y.2.1∈cl G)=(decide<|y.2.2∈cl G))) ln (λh h=>rfl) λh h h=>rfl;rw[List.map_id']at cf;have px:∀a b w:Nat,(!decide ((decide<|(gN hs ((a:Int),(b:Int),(w:Int))).2.1∈cl G)=(decide<|(gN hs ((a:Int),(b:Int),(w:Int))).2.2∈cl G)))=true↔(a∈G/\b∉G)\/(a∉G/\b∈G):=λa b w=>by show (!decide (decide ((a:Int)∈cl G)=decide ((b:Int)∈cl G)))=true↔_;rw[show decide ((a:Int)∈cl G)=decide (a∈G) from decide_eq_decide.mpr bB,show decide ((b:Int)∈cl G)=decide (b∈G) from decide_eq_decide.mpr bB];by_cases q1:a∈G<;>by_cases q2:b∈G<;>simp[q1,q2]
  have inF:∀a b w:Nat,((a:Int),(b:Int),(w:Int))∈ls->(a∈G/\b∉G)\/(a∉G/\b∈G)->gN hs ((a:Int),(b:Int),(w:Int))∈(oA<|ls.map<|gN hs).filter λy=>!decide ((decide<|y.2.1∈cl G)=(decide<|y.2.2∈cl G)):=λa b w g1 g2=>P0.mpr ⟨em.mpr ⟨_,g1,rfl⟩,(px a b w).mpr g2⟩;have pw:=(lQ<|ls.map<|gN hs).filter λy=>!decide ((decide<|y.2.1∈cl G)=(decide<|y.2.2∈cl G));cases hF:(oA<|ls.map<|gN hs).filter λy=>!decide ((decide<|y.2.1∈cl G)=(decide<|y.2.2∈cl G)) with
  |nil =>refine cH (L.over (o.rk_lt h1) (hall one ZO h1 h2) (λx=>x∈G) (b1.symm▸g.hone)<|b2.symm▸no) λa b w g1 h g3=>?_;exact nomatch hF▸inF a b w g1 g3
  |cons e0 rest =>
   rw[hF]at pw cf;have m0:=P0.mp (show e0∈(oA<|ls.map<|gN hs).filter λy=>!decide ((decide<|y.2.1∈cl G)=(decide<|y.2.2∈cl G)) from hF▸V1);refine aa (em.mp m0.1) λt0 ht0 et0=>fM (L.out t0 ht0) λa b w et z=>gl z λhw ha hb' ne zy0=>jt zy0 λc1 c2 hl r=> ?_;have m1:=m0.2;rw[<- et0,et]at m1;rw[<- et0,et]at pw cf;have st:=Gat.step sy L g b1 b2 no hw ha hb' hl r ((px a b w).mp m1) λa' b' w' g1 g2=>by
    have i1:=inF a' b' w' g1 g2;rw[hF,<- et0,et]at i1;refine fM (L.out _ g1) λa2 b2 w2 e z=>?_;have ew:w'=w2:=N4<|congrArg (fun t:Int×Int×Int=>t.2.2) e;rcases Y4.mp i1 with q|q
    ·exact bG<|congrArg (rk os) (N4<|congrArg (fun t:(Int×Int)×Int×Int=>t.1.2) q).symm
    ·exact(o.le_iff hw<|ew▸z.1).mpr (leN_fst<|(List.pairwise_cons.mp pw).1 _ q)
   refine⟨(cl<|G++[a,b],hk hs (if rk os m<rk os w then w else m)),?_,⟨_,_,rfl,st.1⟩,st.2⟩;refine cr cf ?_;rw[if_neg (by simp)];refine cr (cr (cr (zK _ _) rfl) rfl)<|cr (cr (cr (cr (zK _ _) rfl)<|cr (cr (zK _ _) rfl) rfl)<|wf (xs:=cl G) (ys:=[(a:Int),(b:Int)]) ?_) ?_
   ·rw[bR];have:=g.len;show G.length+2<=_;lia
   ·rw[je,<- latH o g.mn hw];rfl
 ·refine bv hs' λG m es g=>?_;rw[es]at ht ⊢;have yes:ZO∈G:=by have:=Z8 ht;rw[Bool.not_eq_false',decide_eq_true_eq]at this;exact bB.mp this
  exact⟨_,rfl,m,rfl,g.mn,g.le,(g.all ZO yes).2,g.low⟩
end
end Pf
namespace K24
open Fl Pu Gr Pf
set_option tactic.hygienic true in
theorem mn_of{r c:Nat}(h:1<=r)(h1:1<=c)(h2:c<=12):∃k:Nat,Pu.mn (r:Int) (48/(c:Int))=(k:Int)/\1<=k/\k<=r/\k*c<=48:=by
 have e:(48:Int)/(c:Int)=((48/c:Nat):Int):=(Int.natCast_ediv 48 c).symm;have h5:4<=48/c:=(Nat.le_div_iff_mul_le h1).mpr (Nat.mul_le_mul_left 4 h2);have hd:48/c*c<=48:=Nat.div_mul_le_self 48 c;rw[e];unfold Pu.mn;split
 ·exact(jQ (48/c) rfl (b8 (by decide) h5) (cT<|Int.ofNat_lt.mp (by assumption)) hd)
 ·rename_i q;exact(jQ r rfl h (bD _)<|b8 (G3 c<|Int.ofNat_le.mp<|Int.not_lt.mp q) hd)
theorem chunk_len{i c k:Nat}(hi:i<k)(h:k*c<=48):min c (50-(2+i*c))=c:=by have q:=G3 c<|Nat.succ_le_of_lt hi;rw[Nat.succ_mul]at q;exact O8<|Nat.le_sub_of_add_le<|b8 (bG (by rw[Nat.add_left_comm,Nat.add_comm c]))<|Nat.add_le_add_left (b8 q h) 2
theorem uN(ns:ZL):∃ZZ c,Pf.iO ns 48=some ZZ/\ShpW ZZ c 48:=by
 have ca:=i0 ns 0;rw[show ((0:Nat):Int)=0 from rfl]at ca;have f:=uA ns (most:=48) (by decide) (by decide);unfold Pf.oB at f;rw[ca,bs]at f;unfold Pf.iO;rw[ca,bs];refine aE (digits_eq (cellAt ns 0) 50 (by decide) (base:=1000000000000000001) ⟨by decide,by decide⟩) λds e1 h1 h2=>?_;rw[show Pf.digits (cellAt ns 0) (48+2) (1000000000000000000+1)=some ds from e1,bs];by_cases q:ds=[]
 ·rw[if_neg (by simp[q]),bs];exact f
 ·rw[if_pos (by simp[q])];have hl:ds.length=50:=h1.resolve_left q;have g0:Pu.at_ ds 0=some ds[0]:=(cZ (i:=0)).trans (Y5 (by lia));have g1:Pu.at_ ds 1=some ds[1]:=(cZ (i:=1)).trans (Y5 (by lia));rw[g0,bs,bs,bs,g1,bs,bs,bs];refine aE (xY ds[0]) λc hc c1 c2=>aE (xY ds[1]) λr hr r1 r2=>?_;rw[hc,hr];have c0:(0:Int)<(c:Int):=Int.ofNat_lt.mpr c1;have c64:(c:Int)<2^64:=Int.lt_of_le_of_lt (Int.ofNat_le.mpr c2) (by decide);rw[kH ⟨c0,c64⟩,bs,bs];refine ju (mn_of (c:=c) r1 c1 c2) λk hk k1 k2 k3=>?_;rw[hk,iP (b8 (b8 k2 r2) (by decide)),bs];refine⟨(X9 k).map λi=>(ds.drop<|2+i*c).take c,c,?_,?_⟩
  ·rw[fu (g:=λy=>(ds.drop<|2+y.toNat*c).take c) (by rw[gH];exact b8 (b8 k2 r2) (by decide)) λy hy=>?_]
   ·unfold nats;rw[P6];congr 1
   ·refine aa (uj.mp hy) λi x e=>?_;rw[e,sk ⟨Int.lt_trans (by decide) c0,c64⟩,bs,bs,bs,sk ⟨Int.lt_trans (by decide) c0,c64⟩,bs,bs,bs,V3];have e1:2+(i:Int)*(c:Int)=((2+i*c:Nat):Int):=by rw[Int.natCast_add,Int.natCast_mul];rfl
    have e2:2+((i:Int)+1)*(c:Int)=((2+(i+1)*c:Nat):Int):=by rw[Int.natCast_add,Int.natCast_mul];rfl
    rw[e1,e2,cut_nat,Nat.succ_mul,<- Nat.add_assoc,Q7]
  ·refine⟨by rw[Y0,U1];exact k1,by rw[Y0,U1];exact b8 k2 r2,c1,c2,λx hx=>?_,by rw[Y0,U1];exact k3,λx hx y hy=>?_⟩
   ·refine aa (U9.mp hx) λi hi e=>?_;rw[<- e,S6,J3,hl];exact chunk_len (P7.mp hi) k3
   ·refine aa (U9.mp hx) λi x e=>?_;rw[<- e]at hy;have:=h2 y<|J9<|G1 hy;exact⟨this.1,Int.lt_add_one_iff.mp this.2⟩
theorem len_one{l:ZL}(nd:l.Nodup)(h:x∈l)(all:∀y∈l,y=x):l.length=1:=by
 cases l with
 |nil=>exact nomatch h
 |cons a l =>
  cases l with
  |nil=>rfl
  |cons b l=>exact absurd ((all a<|.head _).trans (all b<|.tail _<|.head _).symm)<|(List.pairwise_cons.mp nd).1 b (.head _)
theorem pick{α:Type}(ns:ZL){k:Nat}(hk:k<=1000)(l:List α)(hl:0<l.length):∃x,((Pf.cn ns (k:Int)<|(Pu.ln l)-1).bind λi=>Pu.at_ l i)=some x/\x∈l:=by
 refine aE (fD ns hk (top:=Pu.ln l-1) (by unfold Pu.ln;lia)) λv e h0 h1=>?_;unfold Pu.ln at h1;have hv:v=((v.toNat:Nat):Int):=by lia
 generalize v.toNat=i at hv;subst hv;exact⟨l[i]'(by lia),cr e<|cZ.trans<|Y5 _,E9 _⟩
structure mt(ZZ:ZI)(c:Nat)(reach:Int)(os:ZM)(bot:ZG)(ls:Zc)(Z:ZL):Prop where
 shp:ShpW ZZ c 48
 ord:Ord ZZ.flatten os
 io:Pf.cO ZZ=some (cl os)
 iw:Pf.b7 ZZ=Pf.cO ZZ
 eb:((Pf.dg ZZ reach).bind λx9=>(Pu.mset x9).bind λz=>Pu.sortI z)=some Z
 el:Pf.gG ZZ reach=some ls
 B:Bots (Nb ZZ.length c reach) (ZZ.length*c) (rk os) bot
 L:Lines (Nb ZZ.length c reach) (ZZ.length*c) (rk os) bot ls
 zm:∀x,x∈Z↔∃y,y<ZZ.length*c/\x=((bot y:Nat):Int)
 zn:Z.Nodup
theorem std(S:ShpW ZZ c 48)(reach:Int):∃os bot ls Z,mt ZZ c reach os bot ls Z:=by
 have ZQ:ZZ.length*c<64:=dI S.area (by decide);have c9:c<=900:=b8 S.cmost (by decide);have m9:ZZ.length<=900:=b8 S.most12 (by decide);have ZR:ZZ.flatten.length=ZZ.length*c:=bn S.row;have iw:=pX S.pos S.cpos S.cmost S.most12 S.row ZQ;refine aa (jq S.pos S.cpos c9 m9 S.row) λos ho o=>aa (low_of (reach:=reach) S.pos S.cpos c9 m9 S.row o) λE Lw hf=>?_;have hb:=sv S.pos S.cpos c9 m9 S.row ho o Lw hf;have B:=bots_of (A:=Nb ZZ.length c reach) Lw (λx hx y hy=>(jI hx).mpr hy) λx hx=>cT<|ZR▸o.rk_lt (ZR.symm▸hx);refine aa (uD S.pos S.cpos S.cmost S.most12 S.row ho o hb) λls el z=>aE z λd bd ld els=>?_;have hz:=ddA (uB (ZZ.length*c)<|mV E<|ZZ.length*c) [] List.nodup_nil;have bl:(uB (ZZ.length*c)<|mV E<|ZZ.length*c).length=ZZ.length*c:=by rw[bR,Y0,U1]
 refine⟨os,mV E<|ZZ.length*c,ls,pG<|ded<|uB (ZZ.length*c)<|mV E<|ZZ.length*c,S,o,iw▸ho,iw,cr hb<|cr (if_pos ?_)<|if_pos ?_,el,B,els▸C2 S.row o B bd ld,λx=>?_,((fG _).nodup_iff).mpr hz.1⟩
 ·rw[bl];lia
 ·refine dI hz.2.1 ?_;rw[bl,List.length_nil,Nat.zero_add];exact ZQ
 ·rw[(fG _).mem_iff];unfold ded;rw[hz.2.2,hZ]
  constructor
  ·intro q;refine aa (q.resolve_left λz=>nomatch z) λv hv e=>aa (U9.mp hv) λy hy e2=>⟨y,P7.mp hy,by rw[e,<- e2]⟩
  ·exact λq=>aa q λy hy e=>.inr ⟨_,U9.mpr ⟨y,P7.mpr hy,rfl⟩,e⟩
section
variable {ZZ:ZI}{c:Nat}{reach:Int}{os:ZM}{bot:ZG}{ls:Zc}{Z:ZL}
theorem mt.all(s:mt ZZ c reach os bot ls Z):∀x y,x<ZZ.length*c->y<ZZ.length*c->Rch (Nb ZZ.length c reach) (Lv (ZZ.length*c) (rk os)<|ZZ.length*c) x y:=λx y hx hy=>by have ZR:ZZ.flatten.length=ZZ.length*c:=bn s.shp.row;have hρ:∀x,x<ZZ.length*c->rk os x<ZZ.length*c:=λx hx=>ZR▸s.ord.rk_lt (ZR.symm▸hx);exact(i5 s.shp.cpos rfl hρ x hx).trans ((i5 s.shp.cpos rfl hρ y hy).symm Nb.sy ⟨hy,hρ y hy⟩)
theorem mt.pass(s:mt ZZ c reach os bot ls Z)(h1:one<ZZ.length*c)(h2:ZO<ZZ.length*c):
  ∃m:Nat,(∀due,Pf.dS ZZ reach (one:Int) (ZO:Int) due=some (decide<|(m:Int)=due))/\m<ZZ.length*c/\rk os one<=rk os m/\rk os ZO<=rk os m/\Rch (Nb ZZ.length c reach) (Lv (ZZ.length*c) (rk os)<|rk os m+1) one ZO /\
   ∀k,rk os one<k->rk os ZO<k->Rch (Nb ZZ.length c reach) (Lv (ZZ.length*c) (rk os) k) one ZO->rk os m<k:=by
 have S:=s.shp;have ZQ:ZZ.length*c<64:=dI S.area (by decide);have c1:c<=100:=b8 S.cmost (by decide);have m1:ZZ.length<=100:=b8 S.most12 (by decide);refine zM (wl (reach:=reach) S.pos S.cpos (b8 c1 (by decide)) (b8 m1 (by decide)) S.row ZQ s.ord s.io h1 h2) λm e a1 a2 a3 a4 z=>?_;refine ao (C4 (reach:=reach) S.cpos c1 m1 S.row ZQ s.ord h2 a1<|a4.symm Nb.sy ⟨h1,M3 a2⟩) λw ew=>ao (wq (reach:=reach) S.cpos c1 m1 S.row ZQ s.ord s.io h1 a1) λks ek=>⟨m,λdue=>?_,a1,a2,a3,a4,λk k1 k2 r=>z k ⟨h1,k1⟩ ⟨h2,k2⟩ r⟩;rw[<- sw s.iw]at e;rw[<- sA s.iw]at ek;exact cr (cr (cr e rfl)<|cr ew<|cr ek rfl) rfl
theorem zI{T β:Type}{f:T->β->Option (Ctl T Bool)}{xs:List β}{s:T}(I:Nat->T->Prop)(h0:I 0 s)(h:∀i x s,xs[i]?=some x->I i s->(∃s',f s x=some (.nx s')/\I (i+1) s')\/∃r,f s x=some (.rt r)/\r=true):andThen (gY f xs s) (λa=>some true) (λx=>x)=some true :=
 (qy I h0 h).elim (λz=>aa z λs' e a=>oE e) λz=>aa z λr e hr=>by rw[e,hr];rfl
def At(ZZ:ZI)(c:Nat)(reach:Int)(os:ZM)(bot:ZG)(first h l:Nat):Prop:=h<ZZ.length*c/\bot h=h/\l<ZZ.length*c/\rk os first<=rk os l/\Rch (Nb ZZ.length c reach) (Lv (ZZ.length*c) (rk os)<|rk os l+1) first h
theorem mt.due(s:mt ZZ c reach os bot ls Z)(hf:first<ZZ.length*c)(bf:bot first=first)(a:At ZZ c reach os bot first h l):
  ∃m:Nat,(if (!decide ((h:Int)=(first:Int)))=true then (Pf.fJ ((X9 ZZ.flatten.length).map (hk ZZ.flatten)) ls (first:Int) (h:Int)).bind λdue38=>some (due38) else some (some<|hk ZZ.flatten first))=some (some<|hk ZZ.flatten m)/\m<ZZ.length*c/\rk os m<=rk os l/\Pf.dS ZZ reach (first:Int) (h:Int) (m:Int)=some true:=by
 have ZR:ZZ.flatten.length=ZZ.length*c:=bn s.shp.row;refine gl a λhh bh hl a4 a5=>zM (s.pass hf hh) λp p1 p2 p3 p4 p5 p6=>?_;have a6:=(a5.ok_ ⟨hf,M3 a4⟩).2;by_cases e:h=first
 ·subst e;refine⟨h,if_neg (by simp),hf,a4,(p1 h).trans (congrArg some<|decide_eq_true<|congrArg K3<|s.ord.inj p h (ZR.symm▸p2) (ZR.symm▸hf)<|T5 (T1<|p6 _ (W5 _) (W5 _) .here) p3)⟩
 ·refine aa (prim_eq (A:=Nb ZZ.length c reach) (bot:=bot) s.ord ZR.symm (b8 s.shp.area (by decide)) Nb.sy s.L s.all hf hh bf bh) λr er z=>ig z λm em m1 m2 m3 m4=>?_;rw[em]at er;refine⟨m,(if_pos (by simpa using λz=>e<|N4 z)).trans (cr er rfl),m1,T1<|m4 _ (M3 a4) a5,(p1 m).trans (congrArg some<|decide_eq_true<|congrArg K3<|s.ord.inj p m (ZR.symm▸p2) (ZR.symm▸m1)<|T5 (T1<|p6 _ (M3 m2) (m3.ok_ ⟨hf,M3 m2⟩).2 m3)<|T1<|m4 _ (M3 p3) p5)⟩
theorem mt.go(s:mt ZZ c reach os bot ls Z){first h l a b w:Nat}(hf:first<ZZ.length*c)(p:At ZZ c reach os bot first h l)(t:((a:Int),(b:Int),(w:Int))∈ls)(q:h=a\/h=b):
  ∃h':Nat,((a:Int)+(b:Int))-(h:Int)=(h':Int)/\w<ZZ.length*c/\At ZZ c reach os bot first h' (if rk os l<rk os w then w else l):=by
 refine fM (s.L.out _ t) λa' b' w' e z=>gl z λhw ha hb ne zy0=>jt zy0 λc1 c2 lv r=> gl p λhh bh hl a4 a5=>?_;have e1:a=a':=N4<|congrArg (fun t:Int×Int×Int=>t.1) e;have e2:b=b':=N4<|congrArg (fun t:Int×Int×Int=>t.2.1) e;have e3:w=w':=N4<|congrArg (fun t:Int×Int×Int=>t.2.2) e;subst e1 e2 e3;have hm:rk os l<=rk os (if rk os l<rk os w then w else l)/\rk os w<=rk os (if rk os l<rk os w then w else l)/\(if rk os l<rk os w then w else l)<ZZ.length*c:=by
  by_cases q:rk os l<rk os w
  ·rw[if_pos q];exact⟨cT q,bD _,hw⟩
  ·rw[if_neg q];exact⟨bD _,U6.mp q,hl⟩
 generalize (if rk os l<rk os w then w else l)=m' at hm ⊢;have up:∀{j x y:Nat},j<=rk os m'->Rch (Nb ZZ.length c reach) (Lv (ZZ.length*c) (rk os)<|j+1) x y->Rch (Nb ZZ.length c reach) (Lv (ZZ.length*c) (rk os)<|rk os m'+1) x y:=λhj q=>q.mono λi i h1 h2=>⟨h1,h2.1,bZ h2.2<|N5 hj⟩;rcases q with q|q
 ·subst q;exact⟨b,by lia,hw,hb,c2,hm.2.2,b8 a4 hm.1,(up hm.1 a5).trans (up hm.2.1 r)⟩
 ·subst q;exact⟨a,by lia,hw,ha,c1,hm.2.2,b8 a4 hm.1,(up hm.1 a5).trans (up hm.2.1<|r.symm Nb.sy ⟨ha,lv⟩)⟩
end
theorem holds(ns:ZL)(_:ns.length<=63):Pf.kG ns=some true:=by
 unfold Pf.kG;refine bv (uN ns) λZZ c e S=>?_;have ZR:ZZ.flatten.length=ZZ.length*c:=bn S.row;have hr:∃r:Int,(((Pf.eE ns 1).bind λx3=>some<|x3%2).bind λx4=>Pu.at_ ([4,8]) x4)=some r:=by have ca:=i0 ns 1;rw[show ((1:Nat):Int)=1 from rfl]at ca;rw[ca,bs,bs];rcases Int.emod_two_eq (cellAt ns 1) with z|z<;>rw[z]<;>exact⟨_,rfl⟩
 refine ao hr λreach er=>gu (std S reach) λos bot ls zy0=>ao zy0 λZ s=> ?_;have n0:0<ZZ.length*c:=Nat.mul_pos S.pos S.cpos;have z0:0<Z.length:=List.length_pos_of_mem<|(s.zm _).mpr ⟨0,n0,rfl⟩;refine aa (pick ns (k:=2) (by decide) Z z0) λx ep hx=>aa ((s.zm x).mp hx) λy hy ex=>?_;have hf:bot y<ZZ.length*c:=s.B.lt y hy;have bf:bot (bot y)=bot y:=s.B.id y hy;generalize bot y=first at hf bf ex
 subst ex;have a0:At ZZ c reach os bot first first first:=⟨hf,bf,hf,bD _,.here⟩
 have p0:Pf.dS ZZ reach (first:Int) (first:Int) (first:Int)=some true:=ju (s.due hf bf a0) λm e b b p=>by
  rw[if_neg (by simp)]at e;have:first=m:=N4<|congrArg Prod.snd<|Z8<|Z8 e
  rw[<- this]at p;exact p
 refine cr e<|cr er<|cr (wn (by rw[ZR];exact b8 S.area (by decide)))<|cr s.eb<|cr s.el<|cr ep<|cr (cr p0 rfl) ?_;refine(if_neg (by decide)).trans (cr (j4<|ZR.symm▸hf)<|cr (iP (n:=16) (by decide)) ?_);refine zI (λb st=>∃h l:Nat,st=((h:Int),hk ZZ.flatten l)/\At ZZ c reach os bot first h l) ⟨first,first,rfl,a0⟩ λi x st hx hI=>?_;refine bv hI λh l es a=>?_;have hi:=ui hx;rw[es,hi.2];have cf:=gJ (t:=λ(y23:Zf)=>some ((decide<|(h:Int)=y23.1) || (decide<|(h:Int)=y23.2.1))) (f:=λ(y23:Zf)=>some<|y23) (g:=λy=>y) (p:=λy=>(decide<|(h:Int)=y.1) || (decide<|(h:Int)=y.2.1)) (b8 s.L.len (by decide)) (λb b=>rfl) λb b b=>rfl;rw[List.map_id']at cf;cases hF:ls.filter λy=>(decide<|(h:Int)=y.1) || (decide<|(h:Int)=y.2.1) with
 |nil =>
  rw[hF]at cf;refine .inr ⟨_,cr cf<|if_pos (by simp),decide_eq_true ?_⟩;have:Z.length=1:=len_one s.zn ((s.zm _).mpr ⟨h,a.1,(congrArg K3 a.2.1).symm⟩) λv hv=>aa ((s.zm v).mp hv) λy hy ev=>?_
  ·unfold Pu.ln;rw[this];rfl
  ·rw[ev];refine congrArg K3 (Classical.byContradiction λne=>?_);refine cH (s.L.over (ZR▸s.ord.rk_lt (ZR.symm▸a.1)) (s.all h y a.1 hy) (λx=>x=bot h) rfl λz=>ne<|z.trans a.2.1) λa' b' w' g1 b g3=>?_;have:((a':Int),(b':Int),(w':Int))∈ls.filter λy=>(decide<|(h:Int)=y.1) || (decide<|(h:Int)=y.2.1):=P0.mpr ⟨g1,by
    rcases g3 with ⟨z,_⟩|⟨_,z⟩
    ·rw[z,a.2.1,decide_eq_true rfl];rfl
    ·rw[z,a.2.1,decide_eq_true (p:=(h:Int)=(h:Int)) rfl,Bool.or_true]⟩
   exact nomatch hF▸this
 |cons e0 rest =>
  rw[hF]at cf;refine aa (pick ns (k:=3+i) (by have:=hi.1;lia) (e0 ::rest)<|Nat.succ_pos _) λt et ht=>?_;have ht2:=P0.mp<|hF.symm▸ht;refine fM (s.L.out t ht2.1) λa' b' w et2 b=>?_;have q:h=a'\/h=b':=by have:=ht2.2;rw[et2,Bool.or_eq_true,decide_eq_true_eq,decide_eq_true_eq]at this;exact this.imp N4 N4
  rw[et2]at et;refine aE (s.go hf a (et2▸ht2.1) q) λh' eh hw a'=>ju (s.due hf bf a') λm em hm hml pm=>.inl ⟨((h':Int),hk ZZ.flatten (if rk os l<rk os w then w else l)),?_,h',_,rfl,a'⟩;refine cr cf<|(if_neg (by simp)).trans (cr (show ((Pf.cn ns (3+(i:Int))<|(Pu.ln (e0 ::rest))-1).bind λx26=>Pu.at_ (e0 ::rest) x26)=_ from et)<|cr (cr (j4<|ZR.symm▸hw) rfl)<|cr (cr (j4<|ZR.symm▸hf) rfl) ?_);simp only;rw[eh,latH s.ord (ZR.symm▸a.2.2.1) (ZR.symm▸hw)];refine cr em (cr (a:=false) ((if_neg (by simp)).trans (cr (cr (o:=some<|hk ZZ.flatten m) rfl<|congrArg some<|(s.ord.le_iff (ZR.symm▸hm)<|ZR.symm▸a'.2.2.1).mp hml)<|(if_neg (by simp)).trans (cr (cr (cr (o:=some<|hk ZZ.flatten m) rfl rfl) pm) rfl)))<|if_neg (by simp))
open PySem PySem.Spec PyProof.Rows L2
noncomputable def dn:Stmt->Str
 |.FunctionDef n ..=>n
 |_=>""
noncomputable def fo(q:Stmt->Str)(st:Stmt)(c:Nat)(pm:Value):Obj:=⟨.type "function",none,.func<|R6 (dn st) (q st) (bK st) (aX st) (ah st) .none .none .none pm none (.ref c) .none,#[]⟩
noncomputable def cq(q:Stmt->Str)(st:Stmt)(t l g f a b:Nat)(c d:Value)(e i m:Nat):Obj:=⟨.type "code",none,.fields #[.str (dn st) t,.str (q st) (t+1),.str "/claim/cut.py" (t+2),.int l 0,.int g 0,.int 0 0,.int 0 0,.int f 0,.ref a,.bool true,.int 181 0,.ref b,.none,c,d,.ref e,.int i 0,.int l 0,.str "/claim/cut.py" m],#[]⟩
noncomputable def fA:=fo dn
noncomputable def cA(st:Stmt)(t l g a i:Nat):Obj:=cq dn st t l g 3 a (a+1) (.ref<|a+2) (.ref<|a+3) (a+4) i<|i+1
noncomputable def cB(st:Stmt)(t l g a i:Nat):Obj:=cq dn st t l g 3 a (a+1) .none .none (a+2) i<|i+1
noncomputable def ne(P:Params)(n:Str)(t:Nat)(v:Value):J0:=⟨PyData.keyHash P n,.str n t,v⟩
noncomputable def d3_0(P:Params):List J0:=[ne P "__name__" 165 (.str "law_floodtree_k24_whole_passes_by_lines" 493),ne P "__doc__" 166 .none,ne P "__package__" 167 .none,ne P "__loader__" 168 (.builtin "__main__.__loader__#opaque"),ne P "__spec__" 169 .none,ne P "__annotations__" 170 (.ref 6),ne P "__builtins__" 171 (.ref 4),ne P "__file__" 173 (.str "/claim/cut.py" 172)]
noncomputable def d3_8(P:Params):List J0:=[ne P "__cached__" 174 .none,ne P "_wall" 193 (.ref 21),ne P "size_of" 203 (.ref 28),ne P "neighbours" 218 (.ref 35),ne P "height_of" 227 (.ref 42),ne P "all_cells" 235 (.ref 49),ne P "order_key" 243 (.ref 56),ne P "comes_before" 252 (.ref 63)]
noncomputable def d3_16(P:Params):List J0:=[ne P "earliest_of" 261 (.ref 70),ne P "in_order" 269 (.ref 77),ne P "Meetings" 324 (.ref 113),ne P "Water" 377 (.ref 151),ne P "fall_of" 390 (.ref 162),ne P "falls_of" 396 (.ref 167),ne P "basins_of" 402 (.ref 172),ne P "pairs_at" 408 (.ref 177)]
noncomputable def d3_24(P:Params):List J0:=[ne P "lines_of" 414 (.ref 182),ne P "ways_back" 431 (.ref 189),ne P "stretch_under" 441 (.ref 196),ne P "stretch_ahead_of" 452 (.ref 203),ne P "joining_cell" 467 (.ref 210),ne P "way_under" 480 (.ref 217),ne P "pass_between" 492 (.ref 224),ne P "_law_cell_at" 502 (.ref 231)]
noncomputable def d3_32(P:Params):List J0:=[ne P "_law_number" 514 (.ref 238),ne P "_law_height" 526 (.ref 245),ne P "_law_digits" 537 (.ref 252),ne P "_law_floor" 543 (.ref 257),ne P "_law_keys" 549 (.ref 262),ne P "_law_near" 567 (.ref 269),ne P "_law_joined" 573 (.ref 274),ne P "_law_passed" 585 (.ref 281)]
noncomputable def d3_40(P:Params):List J0:=[ne P "law" 591 (.ref 286)]
noncomputable def d112_0(P:Params):List J0:=[ne P "__module__" 279 (.str "floodtree.lakes" 270),ne P "__firstlineno__" 283 (.int 33 282),ne P "__init__" 291 (.ref 91),ne P "living" 300 (.ref 98),ne P "let_meet" 306 (.ref 103),ne P "tree" 314 (.ref 110),ne P "__static_attributes__" 317 (.ref 111),ne P "__dict__" 319 (.ref 114)]
noncomputable def d112_8(P:Params):List J0:=[ne P "__weakref__" 321 (.ref 115),ne P "__doc__" 322 .none]
noncomputable def d150_0(P:Params):List J0:=[ne P "__module__" 332 (.str "floodtree.lakes" 270),ne P "__firstlineno__" 336 (.int 55 335),ne P "__init__" 342 (.ref 129),ne P "start_now" 350 (.ref 136),ne P "homes_around" 356 (.ref 141),ne P "let_come" 365 (.ref 148),ne P "__static_attributes__" 370 (.ref 149),ne P "__dict__" 372 (.ref 152)]
noncomputable def d150_8(P:Params):List J0:=[ne P "__weakref__" 374 (.ref 153),ne P "__doc__" 375 .none]
noncomputable def pm0:Value:=.str "floodtree.cells" 194
noncomputable def za:Value:=.str "floodtree.lakes" 270
noncomputable def Ce:Value:=.str "floodtree.basins" 378
noncomputable def pm3:Value:=.str "floodtree.stretches" 415
noncomputable def pm4:Value:=.str "floodtree.passes" 453
noncomputable def zL:Value:=.str "law_floodtree_k24_whole_passes_by_lines" 493
noncomputable def fK(P:Params):Z4:=(nat_lit 3,⟨(.type "dict"),none,.dict ((d3_0 P)++(d3_8 P)++(d3_16 P)++(d3_24 P)++(d3_32 P)++(d3_40 P)).toArray 41,#[]⟩) ::
 (nat_lit 27,cA (top 2) 196 5 1 22 201) ::
 (nat_lit 28,fA (top 2) 27 pm0) ::
 (nat_lit 34,cA (top 3) 204 8 3 29 216) ::
 (nat_lit 35,fA (top 3) 34 pm0) ::
 (nat_lit 41,cA (top 4) 219 18 2 36 225) ::
 (nat_lit 42,fA (top 4) 41 pm0) ::
 (nat_lit 48,cA (top 5) 228 21 1 43 233) ::
 (nat_lit 49,fA (top 5) 48 pm0) ::
 (nat_lit 55,cA (top 6) 236 24 2 50 241) ::
 (nat_lit 56,fA (top 6) 55 pm0) ::
 (nat_lit 62,cA (top 7) 244 26 3 57 250) ::
 (nat_lit 63,fA (top 7) 62 pm0) ::
 (nat_lit 69,cA (top 8) 253 28 2 64 259) ::
 (nat_lit 70,fA (top 8) 69 pm0) ::
 (nat_lit 76,cA (top 9) 262 30 1 71 267) ::
 (nat_lit 77,fA (top 9) 76 pm0) ::
 (nat_lit 90,cq (λx=>"Meetings.__init__") (inClass (top 11) 0) 284 35 2 3 85 86 (.ref 87) (.ref 88) 89 289 290) ::
 (nat_lit 91,fo (λx=>"Meetings.__init__") (inClass (top 11) 0) 90 za) ::
 (nat_lit 97,cq (λx=>"Meetings.living") (inClass (top 11) 1) 292 39 2 3 92 93 (.ref 94) (.ref 95) 96 298 299) ::
 (nat_lit 98,fo (λx=>"Meetings.living") (inClass (top 11) 1) 97 za) ::
 (nat_lit 102,cq (λx=>"Meetings.let_meet") (inClass (top 11) 2) 301 45 3 3 99 100 .none .none 101 304 305) ::
 (nat_lit 103,fo (λx=>"Meetings.let_meet") (inClass (top 11) 2) 102 za) ::
 (nat_lit 112,⟨(.type "dict"),none,.dict ((d112_0 P)++(d112_8 P)).toArray 4,#[]⟩) ::
 (nat_lit 113,⟨(.type "type"),none,.cls ⟨"Meetings",[(.type "object")],[(.ref 113),(.type "object")],112,"Meetings",true,[],[],false,none,false⟩,#[none,none,(some<|.str "Meetings" 272),(some<|.str "Meetings" 280),(some<|.builtin "object.__new__"),(some<|.bool true)]⟩) ::
 (nat_lit 128,cq (λx=>"Water.__init__") (inClass (top 12) 0) 337 57 3 3 125 126 .none .none 127 340 341) ::
 (nat_lit 129,fo (λx=>"Water.__init__") (inClass (top 12) 0) 128 za) ::
 (nat_lit 135,cq (λx=>"Water.start_now") (inClass (top 12) 1) 343 63 2 3 130 131 (.ref 132) (.ref 133) 134 348 349) ::
 (nat_lit 136,fo (λx=>"Water.start_now") (inClass (top 12) 1) 135 za) ::
 (nat_lit 140,cq (λx=>"Water.homes_around") (inClass (top 12) 2) 351 66 2 3 137 138 .none .none 139 354 355) ::
 (nat_lit 141,fo (λx=>"Water.homes_around") (inClass (top 12) 2) 140 za) ::
 (nat_lit 147,cq (λx=>"Water.let_come") (inClass (top 12) 3) 357 70 2 3 142 143 (.ref 144) (.ref 145) 146 363 364) ::
 (nat_lit 148,fo (λx=>"Water.let_come") (inClass (top 12) 3) 147 za) ::
 (nat_lit 150,⟨(.type "dict"),none,.dict ((d150_0 P)++(d150_8 P)).toArray 4,#[]⟩) ::
 (nat_lit 151,⟨(.type "type"),none,.cls ⟨"Water",[(.type "object")],[(.ref 151),(.type "object")],150,"Water",true,[],[],false,none,false⟩,#[none,none,(some<|.str "Water" 325),(some<|.str "Water" 333),(some<|.builtin "object.__new__"),(some<|.bool true)]⟩) ::
 (nat_lit 161,cA (top 14) 380 74 3 156 388) ::
 (nat_lit 162,fA (top 14) 161 Ce) ::
 (nat_lit 166,cB (top 15) 391 78 2 163 394) ::
 (nat_lit 167,fA (top 15) 166 Ce) ::
 (nat_lit 171,cB (top 16) 397 80 2 168 400) ::
 (nat_lit 172,fA (top 16) 171 Ce) ::
 (nat_lit 176,cB (top 17) 403 86 4 173 406) ::
 (nat_lit 177,fA (top 17) 176 Ce) ::
 (nat_lit 181,cB (top 18) 409 91 2 178 412) ::
 (nat_lit 182,fA (top 18) 181 Ce) ::
 (nat_lit 188,cA (top 20) 417 99 4 183 429) ::
 (nat_lit 189,fA (top 20) 188 pm3) ::
 (nat_lit 195,cA (top 21) 432 110 4 190 439) ::
 (nat_lit 196,fA (top 21) 195 pm3) ::
 (nat_lit 202,cA (top 22) 442 114 4 197 450) ::
 (nat_lit 203,fA (top 22) 202 pm3) ::
 (nat_lit 209,cA (top 24) 455 120 4 204 465) ::
 (nat_lit 210,fA (top 24) 209 pm4) ::
 (nat_lit 216,cA (top 25) 468 128 5 211 478) ::
 (nat_lit 217,fA (top 25) 216 pm4) ::
 (nat_lit 223,cA (top 26) 481 134 4 218 490) ::
 (nat_lit 224,fA (top 26) 223 pm4) ::
 (nat_lit 230,cA (top 28) 495 139 2 225 500) ::
 (nat_lit 231,fA (top 28) 230 zL) ::
 (nat_lit 237,cA (top 29) 503 143 3 232 512) ::
 (nat_lit 238,fA (top 29) 237 zL) ::
 (nat_lit 244,cA (top 30) 515 148 5 239 524) ::
 (nat_lit 245,fA (top 30) 244 zL) ::
 (nat_lit 251,cA (top 31) 527 155 3 246 535) ::
 (nat_lit 252,fA (top 31) 251 zL) ::
 (nat_lit 256,cB (top 32) 538 161 2 253 541) ::
 (nat_lit 257,fA (top 32) 256 zL) ::
 (nat_lit 261,cB (top 33) 544 179 1 258 547) ::
 (nat_lit 262,fA (top 33) 261 zL) ::
 (nat_lit 273,cB (top 35) 568 195 4 270 571) ::
 (nat_lit 274,fA (top 35) 273 zL) ::
 (nat_lit 280,cA (top 36) 574 206 5 275 583) ::
 (nat_lit 281,fA (top 36) 280 zL) ::
 (nat_lit 285,cB (top 37) 586 211 1 282 589) ::
 (nat_lit 286,fA (top 37) 285 zL) :: []
theorem all_mk{l:PySem.W.OpenLaw}{w:World}{K:Z4}{h:Heap}{mg:ZH}{fa:Addr}(X:K.In h)(G:h.Ns S8 mg)(hfa:mg "law"=some (.ref fa)){f1 f2 f3 f4 f5:Addr}{od1 an1 od2 an2 od3 an3 od4 an4 od5 an5:Zr}{sl1 sl2 sl3 sl4 sl5:Za}{oc1 kV1 dc1 za cd1 ct1 oc2 kV2 dc2 Ce cd2 ct2 oc3 kV3 dc3 pm3 cd3 ct3 oc4 kV4 dc4 pm4 cd4 ct4 oc5 kV5 dc5 zL cd5 ct5:Value}{CM CW:Addr}(G19:PySem.W.nsIn K S8 "Meetings"=some (some<|.ref CM))(G20:PySem.W.plainGet K CM Str.empty=true)(G21:PySem.W.hasDictIn K CM=true)(G22:PySem.W.plainOver K CM=true)(G23:Q3 K (.ref CM) "__setattr__"=some (some<|.builtin "object.__setattr__"))(G24:PySem.W.makesIn K CM=true)(G25:R3 K (.ref CM)=true)(G26:bU K CM "floor")(G27:bU K CM "ended")(G28:PySem.W.nsIn K S8 "Water"=some (some<|.ref CW))(G29:PySem.W.plainGet K CW Str.empty=true)(G30:PySem.W.hasDictIn K CW=true)(G31:PySem.W.plainOver K CW=true)(G32:Q3 K (.ref CW) "__setattr__"=some (some<|.builtin "object.__setattr__"))(G33:PySem.W.makesIn K CW=true)(G34:R3 K (.ref CW)=true)(G35:bU K CW "floor")(G36:bU K CW "reach")(G37:bU K CW "homes")(G38:bU K CW "meetings")(a1:PySem.W.nsIn K S8 "earliest_of"=some (some<|.ref f1))(l1:K.lookup f1=some ⟨oc1,od1,.func<|R6 "earliest_of" "earliest_of" (bK cC) (aX cC) (ah cC) .none kV1 dc1 za an1 cd1 ct1,sl1⟩)(c1:N2 K cd1 "earliest_of"=true)(k1:R3 K (.ref f1)=true)(a2:PySem.W.nsIn K S8 "in_order"=some (some<|.ref f2))(l2:K.lookup f2=some ⟨oc2,od2,.func<|R6 "in_order" "in_order" (bK dW) (aX dW) (ah dW) .none kV2 dc2 Ce an2 cd2 ct2,sl2⟩)(c2:N2 K cd2 "in_order"=true)(k2:R3 K (.ref f2)=true)(a3:Q3 K (.ref CM) "__init__"=some (some<|.ref f3))(i3:PySem.W.isFn K (.ref f3)=true)(l3:K.lookup f3=some ⟨oc3,od3,.func<|R6 "__init__" "Meetings.__init__" (bK bq) (aX bq) (ah bq) .none kV3 dc3 pm3 an3 cd3 ct3,sl3⟩)(c3:N2 K cd3 "Meetings.__init__"=true)(k3:R3 K (.ref f3)=true)(a4:Q3 K (.ref CW) "__init__"=some (some<|.ref f4))(i4:PySem.W.isFn K (.ref f4)=true)(l4:K.lookup f4=some ⟨oc4,od4,.func<|R6 "__init__" "Water.__init__" (bK bO) (aX bO) (ah bO) .none kV4 dc4 pm4 an4 cd4 ct4,sl4⟩)(c4:N2 K cd4 "Water.__init__"=true)(k4:R3 K (.ref f4)=true)(a5:PySem.W.nsIn K S8 "law"=some (some<|.ref f5))(l5:K.lookup f5=some ⟨oc5,od5,.func<|R6 "law" "law" (bK kK) (aX kK) (ah kK) .none kV5 dc5 zL an5 cd5 ct5,sl5⟩)(c5:N2 K cd5 "law"=true)(k5:R3 K (.ref f5)=true){cc1:Addr}(G39:cd1=.ref cc1)(G09:D0 K cc1 65=true){cc2:Addr}(G40:cd2=.ref cc2)(G10:D0 K cc2 72=true)(G41:aL K mg "_law_digits" oK pl12)(G42:aL K mg "_law_cell_at" lD C6)(G43:aL K mg "_law_number" oM pl13)(G44:aL K mg "_law_height" oN pl14)(G45:aL K mg "_law_floor" sB pl15)(G46:aL K mg "_law_keys" wt pl16)(G47:aL K mg "size_of" lE yc)(G48:aL K mg "all_cells" iR yc)(G49:aL K mg "neighbours" i6 pl17)(G50:aL K mg "height_of" iS pl3)(G51:aL K mg "order_key" iT pl3)(G52:aL K mg "fall_of" lF pl18)(G53:aL K mg "falls_of" jJ zC)(G54:aL K mg "basins_of" iU zC)(G55:aL K mg "comes_before" fS C7)(G56:aL K mg "pairs_at" jK pl19)(G57:aL K mg "lines_of" jL zC)(G58:cb K CW "homes_around" "Water.homes_around" cQ yd)(G59:cb K CM "living" "Meetings.living" dD ["self","start"])(G60:cb K CM "let_meet" "Meetings.let_meet" d3 pl9)(G61:cb K CW "let_come" "Water.let_come" dX yd)(G62:cb K CW "start_now" "Water.start_now" dE yd)(G63:aL K mg "joining_cell" cR pl5)(G64:aL K mg "ways_back" iV pl4)(G65:aL K mg "way_under" iW pl20)(G66:aL K mg "stretch_under" fh pl4)(G67:aL K mg "stretch_ahead_of" dc pl21)(G68:aL K mg "pass_between" fT pl5)(G69:aL K mg "_law_passed" oO pl22)(G70:aL K mg "_law_joined" oP pl23)(B:Blt mg):
  ∃fd:FuncData,(∀(s:Shared) (v:Value),BindsTo s fd ⟨[v],[]⟩ [("_law_script",v)])/\(∀P∈(tE [(65,(("earliest_of":Str)++".<locals>.")++"<lambda>"),(72,(("in_order":Str)++".<locals>.")++"<lambda>")]).T,∃c,D0 K c P=true)/\∀base:Heap,K.In base->base.Ns S8 mg->BM mg base->FnOk l.prog w K mg base sZ 14 fa fd ["_law_script"] (@C5 (tE [(65,(("earliest_of":Str)++".<locals>.")++"<lambda>"),(72,(("in_order":Str)++".<locals>.")++"<lambda>")]) K):=by
 letI:Kon:=(tE [(65,(("earliest_of":Str)++".<locals>.")++"<lambda>"),(72,(("in_order":Str)++".<locals>.")++"<lambda>")])
 have e:=hfa.symm.trans<|PySem.W.mg_of X G a5;cases e;have kM:MK K CM:=⟨⟨G20,G21,G22,G23⟩,G26,G27⟩;have kW:WK K CW:=⟨⟨G29,G30,G31,G32⟩,G35,G36,G37,G38⟩;have G100:fO K mg "earliest_of" cC pl7 cc1:=xA X G a1 l1 c1 k1 G39 λx x x x x x us hl=>by obtain⟨_,_,rfl⟩:=L2.vK hl;rfl
 have G101:fO K mg "in_order" dW yc cc2:=xA X G a2 l2 c2 k2 G40 λx x x x x x us hl=>by obtain⟨_,rfl⟩:=L2.Ba hl;rfl
 have G102:jE K mg "Meetings" CM "Meetings.__init__" bq pl6:=xI X G G19 a3 l3 c3 k3 i3 G24 G25 λx x x x x x us hl=>by obtain⟨_,_,rfl⟩:=L2.vK hl;rfl
 have G103:jE K mg "Water" CW "Water.__init__" bO pl8:=xI X G G28 a4 l4 c4 k4 i4 G33 G34 λx x x x x x us hl=>by obtain⟨_,_,_,rfl⟩:=L2.len3 hl;rfl
 have F_law:=gU (st:=kK) l5 c5 k5;refine⟨R6 "law" "law" (bK kK) (aX kK) (ah kK) .none kV5 dc5 zL an5 cd5 ct5,λs v=>.of_eq rfl,List.forall_mem_cons.mpr ⟨⟨_,G09⟩,List.forall_mem_cons.mpr ⟨⟨_,G10⟩,λx h=>nomatch h⟩⟩,λbase x x bm=>?_⟩;have G104:=zD l.prog w base B kM kW G41;have G71:=wu l.prog w base B kM kW G42;have G75:=zE l.prog w base B kM kW G43 G71;have G105:=zF l.prog w base B kM kW G44 G75;have G106:=Ca l.prog w base B kM kW G45 G104 G71 G105;have G107:=ok_keys l.prog w base B kM kW G46;have G08:=wv l.prog w base B kM kW G47;have G11:=sC l.prog w base B kM kW G48 G08;have G12:=pY l.prog w base B kM kW G49;have G108:=sD l.prog w base B kM kW G50 G08;have G72:=sE l.prog w base B kM kW G51 G108;have G76:=p7 l.prog w base B kM kW G100 ⟨bm,G09,by first|exact List.Mem.head _|exact List.Mem.tail _ (List.Mem.head _)|exact List.Mem.tail _<|List.Mem.tail _<|List.Mem.head _,by first|rfl|decide +kernel⟩ G72;have G109:=wx l.prog w base B kM kW G52 G08 G12 G76;have G110:=uJ l.prog w base B kM kW G53 G11 G109;have G13:=uK l.prog w base B kM kW G101 ⟨bm,G10,by first|exact List.Mem.head _|exact List.Mem.tail _ (List.Mem.head _)|exact List.Mem.tail _<|List.Mem.tail _<|List.Mem.head _,by first|rfl|decide +kernel⟩ G11 G72;have G77:=sF l.prog w base B kM kW G54 G11 G110 G13;have G14:=mC l.prog w base B kM kW G55 G72;have G111:=uL l.prog w base B kM kW G56 G08 G12 G14;have G112:=uM l.prog w base B kM kW G57 G13 G77 G111;have G113:=j2 l.prog w base B kM kW G102;have G114:=kT l.prog w base B kM kW G103 G11 G113;have G115:=ip l.prog w base B kM kW G58 G08 G12;have G78:=jM l.prog w base B kM kW G59;have G116:=j3 l.prog w base B kM kW G60 G78 G76;have G117:=kU l.prog w base B kM kW G61 G115 G116;have G118:=jN l.prog w base B kM kW G62 G78;have G119:=mB l.prog w base B kM kW G63 G114 G13 G117 G118;have G79:=sG l.prog w base B kM kW G64 G08 G12 G14;have G120:=sH l.prog w base B kM kW G65 G79;have G121:=lJ l.prog w base B kM kW G66 G14 G79;have G122:=jm l.prog w base B kM kW G67 G13 G14 G121;have G123:=mD l.prog w base B kM kW G68 G119 G120 G122;have G124:=zG l.prog w base B kM kW G69 G123;have G125:=zH l.prog w base B kM kW G70;exact ok_law l.prog w base B kM kW F_law G71 G75 G106 G107 G77 G112 G124 G125 holds
theorem walk{l:PySem.W.OpenLaw}{q:U4}{loose:ZF}{XP:(Str->Option Value)->Heap->Prop}{YP:World->Heap->Prop}{d:DefRec}{K:Params->Z4}(hn:l.most=some 63)(hdf:d.params.defaults=[])(hY:∀(w:World) (h:Heap),YP w h->(K w.params).In h/\∀P∈(tE [(65,(("earliest_of":Str)++".<locals>.")++"<lambda>"),(72,(("in_order":Str)++".<locals>.")++"<lambda>")]).T,h.get? P=some (PySem.W.tabObj #[]))(hC:∀(w:World),∀P∈(tE [(65,(("earliest_of":Str)++".<locals>.")++"<lambda>"),(72,(("in_order":Str)++".<locals>.")++"<lambda>")]).T,(K w.params).lookup P=none)(F:∀(w:World) (mg:ZH) (fa:Addr) (h:Heap),(K w.params).In h->h.Ns S8 mg->mg d.name=some (.ref fa) ->
   ∃fd:FuncData,(∀(s:Shared) (u:Value),BindsTo s fd ⟨[u],[]⟩ [("_law_script",u)])/\(∀P∈(tE [(65,(("earliest_of":Str)++".<locals>.")++"<lambda>"),(72,(("in_order":Str)++".<locals>.")++"<lambda>")]).T,∃c,D0 (K w.params) c P=true)/\∀base:Heap,(K w.params).In base->base.Ns S8 mg->BM mg base->FnOk l.prog w (K w.params) mg base sZ 14 fa fd ["_law_script"] (@C5 (tE [(65,(("earliest_of":Str)++".<locals>.")++"<lambda>"),(72,(("in_order":Str)++".<locals>.")++"<lambda>")])<|K w.params)):
  PySem.W.WalkO q loose XP YP l.row.toRowW d [] (λf vs=>PySem.call f vs) :=
 letI:Kon:=(tE [(65,(("earliest_of":Str)++".<locals>.")++"<lambda>"),(72,(("in_order":Str)++".<locals>.")++"<lambda>")])
 L2.AX (n:=63) (k:=14) (x:="_law_script") (sp:=λw=>C5<|K w.params) hn (by decide) hdf ⟨rfl,by decide,by decide⟩ hY hC F λb b a ns hl tg hS=>⟨a,ns,rfl,hS,hl,tg,λb=>rfl⟩
end K24
open PySem PySem.W PyProof.Rows
set_option tactic.hygienic true
set_option maxRecDepth 100000 in
set_option maxHeartbeats 0 in
theorem PySem.Challenge.cw_floodtree_k24_whole_passes_by_lines_holds : PySem.Challenge.rw_floodtree_k24_whole_passes_by_lines.Holds := by
 w_on;o_law;o_head (PySem.W.kmHook K24.fK [3,27,28,34,35,41,42,48,49,55,56,62,63,69,70,76,77,90,91,97,98,102,103,112,113,128,129,135,136,140,141,147,148,150,151,161,162,166,167,171,172,176,177,181,182,188,189,195,196,202,203,209,210,216,217,223,224,230,231,237,238,244,245,251,252,256,257,261,262,273,274,280,281,285,286] (λ_=>by kernel_rfl) [65,72]);(case hw=>w_witness2)
 k_fill
 refine K24.walk (l:=PySem.Challenge.rw_floodtree_k24_whole_passes_by_lines) rfl rfl (λw h Y=>⟨PySem.W.km_in_of Y,PySem.W.km_tabs_of Y⟩) (λw=>?C) ?F
 case F =>
  intro w mg fa h KX G hmg;refine' K24.all_mk KX G hmg ?G19 ?G20 ?G21 ?G22 ?G23 ?G24 ?G25 ?G26 ?G27 ?G28 ?G29 ?G30 ?G31 ?G32 ?G33 ?G34 ?G35 ?G36 ?G37 ?G38 ?a1 ?l1 ?c1 ?k1 ?a2 ?l2 ?c2 ?k2 ?a3 ?i3 ?l3 ?c3 ?k3 ?a4 ?i4 ?l4 ?c4 ?k4 ?a5 ?l5 ?c5 ?k5 ?G39 ?G09 ?G40 ?G10 ?G41 ?G42 ?G43 ?G44 ?G45 ?G46 ?G47 ?G48 ?G49 ?G50 ?G51 ?G52 ?G53 ?G54 ?G55 ?G56 ?G57 ?G58 ?G59 ?G60 ?G61 ?G62 ?G63 ?G64 ?G65 ?G66 ?G67 ?G68 ?G69 ?G70 ?B
  (case G19|G20|G21|G22|G23|G24|G25=>k_is);(case G26|G27=>unfold L2.bU;k_is)
  (case G28|G29|G30|G31|G32|G33|G34=>k_is);(case G35|G36|G37|G38=>unfold L2.bU;k_is)
  (case a1|l1|c1|k1=>k_is)
  (case a2|l2|c2|k2=>k_is)
  (case a3|i3|l3|c3|k3=>k_is)
  (case a4|i4|l4|c4|k4=>k_is)
  (case a5|l5|c5|k5=>k_is)
  (case G39=>rfl);(case G09=>kernel_rfl)
  (case G40=>rfl);(case G10=>kernel_rfl)
  (case G41|G43|G49|G52|G55=>refine' L2.nB KX G ?a ?l ?c ?k (λ_ _ _ _ _ _ us hl=>by obtain⟨_,_,_,rfl⟩:=L2.len3 hl;rfl);case a|l|c|k=>k_is)
  (case G42|G45|G50|G51|G53|G54|G57=>refine' L2.nB KX G ?a ?l ?c ?k (λ_ _ _ _ _ _ us hl=>by obtain⟨_,_,rfl⟩:=L2.vK hl;rfl);case a|l|c|k=>k_is)
  (case G44|G65|G69=>refine' L2.nB KX G ?a ?l ?c ?k (λ_ _ _ _ _ _ us hl=>by obtain⟨_,_,_,_,_,rfl⟩:=L2.len5 hl;rfl);case a|l|c|k=>k_is)
  (case G46|G47|G48=>refine' L2.nB KX G ?a ?l ?c ?k (λ_ _ _ _ _ _ us hl=>by obtain⟨_,rfl⟩:=L2.Ba hl;rfl);case a|l|c|k=>k_is)
  (case G56|G63|G64|G66|G67|G68|G70=>refine' L2.nB KX G ?a ?l ?c ?k (λ_ _ _ _ _ _ us hl=>by obtain⟨_,_,_,_,rfl⟩:=L2.len4 hl;rfl);case a|l|c|k=>k_is)
  (case G58|G59|G61|G62=>letI:L2.Kon:=L2.kon0;refine' L2.xD ?a ?l ?c ?k ?i (λ_ _ _ _ _ _ us hl=>by obtain⟨_,_,rfl⟩:=L2.vK hl;rfl);case a|l|c|k|i=>k_is)
  (case G60=>letI:L2.Kon:=L2.kon0;refine' L2.xD ?a ?l ?c ?k ?i (λ_ _ _ _ _ _ us hl=>by obtain⟨_,_,_,rfl⟩:=L2.len3 hl;rfl);case a|l|c|k|i=>k_is)
  (case B=>constructor<;>(refine' PySem.W.mg_none_of KX G ?_;k_is))
 case C =>
  refine List.forall_mem_cons.mpr ⟨?_,List.forall_mem_cons.mpr ⟨?_,λ_ h=>nomatch h⟩⟩
  all_goals kernel_rfl
#print axioms PySem.Challenge.cw_floodtree_k24_whole_passes_by_lines_holds