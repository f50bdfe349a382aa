import PyProof.Rows.All
import Wide.All
import OpenK.AllK
import Wide.FinOn
import Lean
import PyProof.EqAt
import PyProof.EqKinds
import PyProof.TupleCall
import PySem.Challenge.RW_floodtree_k13_pass_walked
theorem nz1 {a b c:Nat} (h:a<b) (k:b≤c):a<c:=Nat.lt_of_lt_of_le h k
theorem nz2 {a b c:Nat} (h:a≤b) (k:b<c):a<c:=Nat.lt_of_le_of_lt h k
theorem nz3 {a b:Nat} (h:a=b):a≤b:=Nat.le_of_eq h
theorem nz4 {a b c:Nat} (h:a≤b) (k:b≤c):a≤c:=Nat.le_trans h k
theorem nz5 {a b:Nat} (h:a<b):a≤b:=Nat.le_of_lt h
theorem nz6 (n:Nat):n≤n:=Nat.le_refl n
theorem nz7 {a b:Nat} (h:a<b):a≠b:=Nat.ne_of_lt h
theorem nz8 {a b c:Nat} (h:a<b) (k:b<c):a<c:=Nat.lt_trans h k
theorem nz9 {α β γ:Type} (x:Option α) (f:α→Option β) (g:β→Option γ):(x.bind f).bind g=x.bind fun y=>(f y).bind g:=Option.bind_assoc x f g
theorem nza {α β:Type} (a:α) (f:α→Option β):(some a).bind f=f a:=rfl
theorem oq02 {p q:Prop}{Q:Prop}(h:p∧q)(f:p→q→Q):Q:=f h.1 h.2
theorem oq03 {p q r:Prop}{Q:Prop}(h:p∧q∧r)(f:p→q→r→Q):Q:=f h.1 h.2.1 h.2.2
theorem oq04 {p q r s:Prop}{Q:Prop}(h:p∧q∧r∧s)(f:p→q→r→s→Q):Q:=f h.1 h.2.1 h.2.2.1 h.2.2.2
theorem oq05 {p q r s t:Prop}{Q:Prop}(h:p∧q∧r∧s∧t)(f:p→q→r→s→t→Q):Q:=f h.1 h.2.1 h.2.2.1 h.2.2.2.1 h.2.2.2.2
theorem oq06 {p q r s t u:Prop}{Q:Prop}(h:p∧q∧r∧s∧t∧u)(f:p→q→r→s→t→u→Q):Q:=f h.1 h.2.1 h.2.2.1 h.2.2.2.1 h.2.2.2.2.1 h.2.2.2.2.2
theorem oq07 {p q r s t u v:Prop}{Q:Prop}(h:p∧q∧r∧s∧t∧u∧v)(f:p→q→r→s→t→u→v→Q):Q:=f h.1 h.2.1 h.2.2.1 h.2.2.2.1 h.2.2.2.2.1 h.2.2.2.2.2.1 h.2.2.2.2.2.2
theorem oq11 {A:Type}{p:A→Prop}{Q:Prop}(h:∃ a,p a)(f:∀ a,p a→Q):Q:=h.elim fun a h=>f a h
theorem oq12 {A:Type}{p q:A→Prop}{Q:Prop}(h:∃ a,p a∧q a)(f:∀ a,p a→q a→Q):Q:=h.elim fun a h=>f a h.1 h.2
theorem oq13 {A:Type}{p q r:A→Prop}{Q:Prop}(h:∃ a,p a∧q a∧r a)(f:∀ a,p a→q a→r a→Q):Q:=h.elim fun a h=>f a h.1 h.2.1 h.2.2
theorem oq14 {A:Type}{p q r s:A→Prop}{Q:Prop}(h:∃ a,p a∧q a∧r a∧s a)(f:∀ a,p a→q a→r a→s a→Q):Q:=h.elim fun a h=>f a h.1 h.2.1 h.2.2.1 h.2.2.2
theorem oq15 {A:Type}{p q r s t:A→Prop}{Q:Prop}(h:∃ a,p a∧q a∧r a∧s a∧t a)(f:∀ a,p a→q a→r a→s a→t a→Q):Q:=h.elim fun a h=>f a h.1 h.2.1 h.2.2.1 h.2.2.2.1 h.2.2.2.2
theorem oq16 {A:Type}{p q r s t u:A→Prop}{Q:Prop}(h:∃ a,p a∧q a∧r a∧s a∧t a∧u a)(f:∀ a,p a→q a→r a→s a→t a→u a→Q):Q:=h.elim fun a h=>f a h.1 h.2.1 h.2.2.1 h.2.2.2.1 h.2.2.2.2.1 h.2.2.2.2.2
theorem oq21 {A B:Type}{p:A→B→Prop}{Q:Prop}(h:∃ a b,p a b)(f:∀ a b,p a b→Q):Q:=h.elim fun a h=>h.elim fun b h=>f a b h
theorem oq22 {A B:Type}{p q:A→B→Prop}{Q:Prop}(h:∃ a b,p a b∧q a b)(f:∀ a b,p a b→q a b→Q):Q:=h.elim fun a h=>h.elim fun b h=>f a b h.1 h.2
theorem oq23 {A B:Type}{p q r:A→B→Prop}{Q:Prop}(h:∃ a b,p a b∧q a b∧r a b)(f:∀ a b,p a b→q a b→r a b→Q):Q:=h.elim fun a h=>h.elim fun b h=>f a b h.1 h.2.1 h.2.2
theorem oq24 {A B:Type}{p q r s:A→B→Prop}{Q:Prop}(h:∃ a b,p a b∧q a b∧r a b∧s a b)(f:∀ a b,p a b→q a b→r a b→s a b→Q):Q:=h.elim fun a h=>h.elim fun b h=>f a b h.1 h.2.1 h.2.2.1 h.2.2.2
theorem oq25 {A B:Type}{p q r s t:A→B→Prop}{Q:Prop}(h:∃ a b,p a b∧q a b∧r a b∧s a b∧t a b)(f:∀ a b,p a b→q a b→r a b→s a b→t a b→Q):Q:=h.elim fun a h=>h.elim fun b h=>f a b h.1 h.2.1 h.2.2.1 h.2.2.2.1 h.2.2.2.2
theorem oq26 {A B:Type}{p q r s t u:A→B→Prop}{Q:Prop}(h:∃ a b,p a b∧q a b∧r a b∧s a b∧t a b∧u a b)(f:∀ a b,p a b→q a b→r a b→s a b→t a b→u a b→Q):Q:=h.elim fun a h=>h.elim fun b h=>f a b h.1 h.2.1 h.2.2.1 h.2.2.2.1 h.2.2.2.2.1 h.2.2.2.2.2
theorem oq2a {A B:Type}{p q r s t u v w x y:A→B→Prop}{Q:Prop}(h:∃ a b,p a b∧q a b∧r a b∧s a b∧t a b∧u a b∧v a b∧w a b∧x a b∧y a b)(f:∀ a b,p a b→q a b→r a b→s a b→t a b→u a b→v a b→w a b→x a b→y a b→Q):Q:=h.elim fun a h=>h.elim fun b h=>f a b h.1 h.2.1 h.2.2.1 h.2.2.2.1 h.2.2.2.2.1 h.2.2.2.2.2.1 h.2.2.2.2.2.2.1 h.2.2.2.2.2.2.2.1 h.2.2.2.2.2.2.2.2.1 h.2.2.2.2.2.2.2.2.2
theorem oq2b {A B:Type}{p q r s t u v w x y z:A→B→Prop}{Q:Prop}(h:∃ a b,p a b∧q a b∧r a b∧s a b∧t a b∧u a b∧v a b∧w a b∧x a b∧y a b∧z a b)(f:∀ a b,p a b→q a b→r a b→s a b→t a b→u a b→v a b→w a b→x a b→y a b→z a b→Q):Q:=h.elim fun a h=>h.elim fun b h=>f a b h.1 h.2.1 h.2.2.1 h.2.2.2.1 h.2.2.2.2.1 h.2.2.2.2.2.1 h.2.2.2.2.2.2.1 h.2.2.2.2.2.2.2.1 h.2.2.2.2.2.2.2.2.1 h.2.2.2.2.2.2.2.2.2.1 h.2.2.2.2.2.2.2.2.2.2
theorem oq31 {A B C:Type}{p:A→B→C→Prop}{Q:Prop}(h:∃ a b c,p a b c)(f:∀ a b c,p a b c→Q):Q:=h.elim fun a h=>h.elim fun b h=>h.elim fun c h=>f a b c h
theorem oq32 {A B C:Type}{p q:A→B→C→Prop}{Q:Prop}(h:∃ a b c,p a b c∧q a b c)(f:∀ a b c,p a b c→q a b c→Q):Q:=h.elim fun a h=>h.elim fun b h=>h.elim fun c h=>f a b c h.1 h.2
theorem oq33 {A B C:Type}{p q r:A→B→C→Prop}{Q:Prop}(h:∃ a b c,p a b c∧q a b c∧r a b c)(f:∀ a b c,p a b c→q a b c→r a b c→Q):Q:=h.elim fun a h=>h.elim fun b h=>h.elim fun c h=>f a b c h.1 h.2.1 h.2.2
theorem oq34 {A B C:Type}{p q r s:A→B→C→Prop}{Q:Prop}(h:∃ a b c,p a b c∧q a b c∧r a b c∧s a b c)(f:∀ a b c,p a b c→q a b c→r a b c→s a b c→Q):Q:=h.elim fun a h=>h.elim fun b h=>h.elim fun c h=>f a b c h.1 h.2.1 h.2.2.1 h.2.2.2
theorem oq35 {A B C:Type}{p q r s t:A→B→C→Prop}{Q:Prop}(h:∃ a b c,p a b c∧q a b c∧r a b c∧s a b c∧t a b c)(f:∀ a b c,p a b c→q a b c→r a b c→s a b c→t a b c→Q):Q:=h.elim fun a h=>h.elim fun b h=>h.elim fun c h=>f a b c h.1 h.2.1 h.2.2.1 h.2.2.2.1 h.2.2.2.2
theorem oq36 {A B C:Type}{p q r s t u:A→B→C→Prop}{Q:Prop}(h:∃ a b c,p a b c∧q a b c∧r a b c∧s a b c∧t a b c∧u a b c)(f:∀ a b c,p a b c→q a b c→r a b c→s a b c→t a b c→u a b c→Q):Q:=h.elim fun a h=>h.elim fun b h=>h.elim fun c h=>f a b c h.1 h.2.1 h.2.2.1 h.2.2.2.1 h.2.2.2.2.1 h.2.2.2.2.2
theorem oq3a {A B C:Type}{p q r s t u v w x y:A→B→C→Prop}{Q:Prop}(h:∃ a b c,p a b c∧q a b c∧r a b c∧s a b c∧t a b c∧u a b c∧v a b c∧w a b c∧x a b c∧y a b c)(f:∀ a b c,p a b c→q a b c→r a b c→s a b c→t a b c→u a b c→v a b c→w a b c→x a b c→y a b c→Q):Q:=h.elim fun a h=>h.elim fun b h=>h.elim fun c h=>f a b c h.1 h.2.1 h.2.2.1 h.2.2.2.1 h.2.2.2.2.1 h.2.2.2.2.2.1 h.2.2.2.2.2.2.1 h.2.2.2.2.2.2.2.1 h.2.2.2.2.2.2.2.2.1 h.2.2.2.2.2.2.2.2.2
theorem oq3b {A B C:Type}{p q r s t u v w x y z:A→B→C→Prop}{Q:Prop}(h:∃ a b c,p a b c∧q a b c∧r a b c∧s a b c∧t a b c∧u a b c∧v a b c∧w a b c∧x a b c∧y a b c∧z a b c)(f:∀ a b c,p a b c→q a b c→r a b c→s a b c→t a b c→u a b c→v a b c→w a b c→x a b c→y a b c→z a b c→Q):Q:=h.elim fun a h=>h.elim fun b h=>h.elim fun c h=>f a b c h.1 h.2.1 h.2.2.1 h.2.2.2.1 h.2.2.2.2.1 h.2.2.2.2.2.1 h.2.2.2.2.2.2.1 h.2.2.2.2.2.2.2.1 h.2.2.2.2.2.2.2.2.1 h.2.2.2.2.2.2.2.2.2.1 h.2.2.2.2.2.2.2.2.2.2
theorem oq41 {A B C D:Type}{p:A→B→C→D→Prop}{Q:Prop}(h:∃ a b c d,p a b c d)(f:∀ a b c d,p a b c d→Q):Q:=h.elim fun a h=>h.elim fun b h=>h.elim fun c h=>h.elim fun d h=>f a b c d h
theorem oq42 {A B C D:Type}{p q:A→B→C→D→Prop}{Q:Prop}(h:∃ a b c d,p a b c d∧q a b c d)(f:∀ a b c d,p a b c d→q a b c d→Q):Q:=h.elim fun a h=>h.elim fun b h=>h.elim fun c h=>h.elim fun d h=>f a b c d h.1 h.2
theorem oq43 {A B C D:Type}{p q r:A→B→C→D→Prop}{Q:Prop}(h:∃ a b c d,p a b c d∧q a b c d∧r a b c d)(f:∀ a b c d,p a b c d→q a b c d→r a b c d→Q):Q:=h.elim fun a h=>h.elim fun b h=>h.elim fun c h=>h.elim fun d h=>f a b c d h.1 h.2.1 h.2.2
theorem oq44 {A B C D:Type}{p q r s:A→B→C→D→Prop}{Q:Prop}(h:∃ a b c d,p a b c d∧q a b c d∧r a b c d∧s a b c d)(f:∀ a b c d,p a b c d→q a b c d→r a b c d→s a b c d→Q):Q:=h.elim fun a h=>h.elim fun b h=>h.elim fun c h=>h.elim fun d h=>f a b c d h.1 h.2.1 h.2.2.1 h.2.2.2
theorem oq45 {A B C D:Type}{p q r s t:A→B→C→D→Prop}{Q:Prop}(h:∃ a b c d,p a b c d∧q a b c d∧r a b c d∧s a b c d∧t a b c d)(f:∀ a b c d,p a b c d→q a b c d→r a b c d→s a b c d→t a b c d→Q):Q:=h.elim fun a h=>h.elim fun b h=>h.elim fun c h=>h.elim fun d h=>f a b c d h.1 h.2.1 h.2.2.1 h.2.2.2.1 h.2.2.2.2
theorem oq46 {A B C D:Type}{p q r s t u:A→B→C→D→Prop}{Q:Prop}(h:∃ a b c d,p a b c d∧q a b c d∧r a b c d∧s a b c d∧t a b c d∧u a b c d)(f:∀ a b c d,p a b c d→q a b c d→r a b c d→s a b c d→t a b c d→u a b c d→Q):Q:=h.elim fun a h=>h.elim fun b h=>h.elim fun c h=>h.elim fun d h=>f a b c d h.1 h.2.1 h.2.2.1 h.2.2.2.1 h.2.2.2.2.1 h.2.2.2.2.2
theorem oq48 {A B C D:Type}{p q r s t u v w:A→B→C→D→Prop}{Q:Prop}(h:∃ a b c d,p a b c d∧q a b c d∧r a b c d∧s a b c d∧t a b c d∧u a b c d∧v a b c d∧w a b c d)(f:∀ a b c d,p a b c d→q a b c d→r a b c d→s a b c d→t a b c d→u a b c d→v a b c d→w a b c d→Q):Q:=h.elim fun a h=>h.elim fun b h=>h.elim fun c h=>h.elim fun d h=>f a b c d h.1 h.2.1 h.2.2.1 h.2.2.2.1 h.2.2.2.2.1 h.2.2.2.2.2.1 h.2.2.2.2.2.2.1 h.2.2.2.2.2.2.2
theorem oq51 {A B C D E:Type}{p:A→B→C→D→E→Prop}{Q:Prop}(h:∃ a b c d e,p a b c d e)(f:∀ a b c d e,p a b c d e→Q):Q:=h.elim fun a h=>h.elim fun b h=>h.elim fun c h=>h.elim fun d h=>h.elim fun e h=>f a b c d e h
theorem oq56 {A B C D E:Type}{p q r s t u:A→B→C→D→E→Prop}{Q:Prop}(h:∃ a b c d e,p a b c d e∧q a b c d e∧r a b c d e∧s a b c d e∧t a b c d e∧u a b c d e)(f:∀ a b c d e,p a b c d e→q a b c d e→r a b c d e→s a b c d e→t a b c d e→u a b c d e→Q):Q:=h.elim fun a h=>h.elim fun b h=>h.elim fun c h=>h.elim fun d h=>h.elim fun e h=>f a b c d e h.1 h.2.1 h.2.2.1 h.2.2.2.1 h.2.2.2.2.1 h.2.2.2.2.2
theorem oq58 {A B C D E:Type}{p q r s t u v w:A→B→C→D→E→Prop}{Q:Prop}(h:∃ a b c d e,p a b c d e∧q a b c d e∧r a b c d e∧s a b c d e∧t a b c d e∧u a b c d e∧v a b c d e∧w a b c d e)(f:∀ a b c d e,p a b c d e→q a b c d e→r a b c d e→s a b c d e→t a b c d e→u a b c d e→v a b c d e→w a b c d e→Q):Q:=h.elim fun a h=>h.elim fun b h=>h.elim fun c h=>h.elim fun d h=>h.elim fun e h=>f a b c d e h.1 h.2.1 h.2.2.1 h.2.2.2.1 h.2.2.2.2.1 h.2.2.2.2.2.1 h.2.2.2.2.2.2.1 h.2.2.2.2.2.2.2
theorem oq63 {A B C D E G:Type}{p q r:A→B→C→D→E→G→Prop}{Q:Prop}(h:∃ a b c d e g,p a b c d e g∧q a b c d e g∧r a b c d e g)(f:∀ a b c d e g,p a b c d e g→q a b c d e g→r a b c d e g→Q):Q:=h.elim fun a h=>h.elim fun b h=>h.elim fun c h=>h.elim fun d h=>h.elim fun e h=>h.elim fun g h=>f a b c d e g h.1 h.2.1 h.2.2
theorem oq64 {A B C D E G:Type}{p q r s:A→B→C→D→E→G→Prop}{Q:Prop}(h:∃ a b c d e g,p a b c d e g∧q a b c d e g∧r a b c d e g∧s a b c d e g)(f:∀ a b c d e g,p a b c d e g→q a b c d e g→r a b c d e g→s a b c d e g→Q):Q:=h.elim fun a h=>h.elim fun b h=>h.elim fun c h=>h.elim fun d h=>h.elim fun e h=>h.elim fun g h=>f a b c d e g h.1 h.2.1 h.2.2.1 h.2.2.2
theorem oq65 {A B C D E G:Type}{p q r s t:A→B→C→D→E→G→Prop}{Q:Prop}(h:∃ a b c d e g,p a b c d e g∧q a b c d e g∧r a b c d e g∧s a b c d e g∧t a b c d e g)(f:∀ a b c d e g,p a b c d e g→q a b c d e g→r a b c d e g→s a b c d e g→t a b c d e g→Q):Q:=h.elim fun a h=>h.elim fun b h=>h.elim fun c h=>h.elim fun d h=>h.elim fun e h=>h.elim fun g h=>f a b c d e g h.1 h.2.1 h.2.2.1 h.2.2.2.1 h.2.2.2.2
theorem oq6d {A B C D E G:Type}{p q r s t u v w x y z l m:A→B→C→D→E→G→Prop}{Q:Prop}(h:∃ a b c d e g,p a b c d e g∧q a b c d e g∧r a b c d e g∧s a b c d e g∧t a b c d e g∧u a b c d e g∧v a b c d e g∧w a b c d e g∧x a b c d e g∧y a b c d e g∧z a b c d e g∧l a b c d e g∧m a b c d e g)(f:∀ a b c d e g,p a b c d e g→q a b c d e g→r a b c d e g→s a b c d e g→t a b c d e g→u a b c d e g→v a b c d e g→w a b c d e g→x a b c d e g→y a b c d e g→z a b c d e g→l a b c d e g→m a b c d e g→Q):Q:=h.elim fun a h=>h.elim fun b h=>h.elim fun c h=>h.elim fun d h=>h.elim fun e h=>h.elim fun g h=>f a b c d e g h.1 h.2.1 h.2.2.1 h.2.2.2.1 h.2.2.2.2.1 h.2.2.2.2.2.1 h.2.2.2.2.2.2.1 h.2.2.2.2.2.2.2.1 h.2.2.2.2.2.2.2.2.1 h.2.2.2.2.2.2.2.2.2.1 h.2.2.2.2.2.2.2.2.2.2.1 h.2.2.2.2.2.2.2.2.2.2.2.1 h.2.2.2.2.2.2.2.2.2.2.2.2
theorem oq71 {A B C D E G I:Type}{p:A→B→C→D→E→G→I→Prop}{Q:Prop}(h:∃ a b c d e g i,p a b c d e g i)(f:∀ a b c d e g i,p a b c d e g i→Q):Q:=h.elim fun a h=>h.elim fun b h=>h.elim fun c h=>h.elim fun d h=>h.elim fun e h=>h.elim fun g h=>h.elim fun i h=>f a b c d e g i h
theorem oq79 {A B C D E G I:Type}{p q r s t u v w x:A→B→C→D→E→G→I→Prop}{Q:Prop}(h:∃ a b c d e g i,p a b c d e g i∧q a b c d e g i∧r a b c d e g i∧s a b c d e g i∧t a b c d e g i∧u a b c d e g i∧v a b c d e g i∧w a b c d e g i∧x a b c d e g i)(f:∀ a b c d e g i,p a b c d e g i→q a b c d e g i→r a b c d e g i→s a b c d e g i→t a b c d e g i→u a b c d e g i→v a b c d e g i→w a b c d e g i→x a b c d e g i→Q):Q:=h.elim fun a h=>h.elim fun b h=>h.elim fun c h=>h.elim fun d h=>h.elim fun e h=>h.elim fun g h=>h.elim fun i h=>f a b c d e g i h.1 h.2.1 h.2.2.1 h.2.2.2.1 h.2.2.2.2.1 h.2.2.2.2.2.1 h.2.2.2.2.2.2.1 h.2.2.2.2.2.2.2.1 h.2.2.2.2.2.2.2.2
theorem oi03 {p q r:Prop}(h0:p)(h1:q)(h2:r):p∧q∧r:=⟨h0,h1,h2⟩
theorem oi04 {p q r s:Prop}(h0:p)(h1:q)(h2:r)(h3:s):p∧q∧r∧s:=⟨h0,h1,h2,h3⟩
theorem oi05 {p q r s t:Prop}(h0:p)(h1:q)(h2:r)(h3:s)(h4:t):p∧q∧r∧s∧t:=⟨h0,h1,h2,h3,h4⟩
theorem oi06 {p q r s t u:Prop}(h0:p)(h1:q)(h2:r)(h3:s)(h4:t)(h5:u):p∧q∧r∧s∧t∧u:=⟨h0,h1,h2,h3,h4,h5⟩
theorem oi07 {p q r s t u v:Prop}(h0:p)(h1:q)(h2:r)(h3:s)(h4:t)(h5:u)(h6:v):p∧q∧r∧s∧t∧u∧v:=⟨h0,h1,h2,h3,h4,h5,h6⟩
theorem oi12 {A:Type}{p q:A→Prop}(a:A)(h0:p a)(h1:q a):∃ a,p a∧q a:=⟨a,h0,h1⟩
theorem oi13 {A:Type}{p q r:A→Prop}(a:A)(h0:p a)(h1:q a)(h2:r a):∃ a,p a∧q a∧r a:=⟨a,h0,h1,h2⟩
theorem oi14 {A:Type}{p q r s:A→Prop}(a:A)(h0:p a)(h1:q a)(h2:r a)(h3:s a):∃ a,p a∧q a∧r a∧s a:=⟨a,h0,h1,h2,h3⟩
theorem oi16 {A:Type}{p q r s t u:A→Prop}(a:A)(h0:p a)(h1:q a)(h2:r a)(h3:s a)(h4:t a)(h5:u a):∃ a,p a∧q a∧r a∧s a∧t a∧u a:=⟨a,h0,h1,h2,h3,h4,h5⟩
theorem oi21 {A B:Type}{p:A→B→Prop}(a:A)(b:B)(h0:p a b):∃ a b,p a b:=⟨a,b,h0⟩
theorem oi22 {A B:Type}{p q:A→B→Prop}(a:A)(b:B)(h0:p a b)(h1:q a b):∃ a b,p a b∧q a b:=⟨a,b,h0,h1⟩
theorem oi23 {A B:Type}{p q r:A→B→Prop}(a:A)(b:B)(h0:p a b)(h1:q a b)(h2:r a b):∃ a b,p a b∧q a b∧r a b:=⟨a,b,h0,h1,h2⟩
theorem oi24 {A B:Type}{p q r s:A→B→Prop}(a:A)(b:B)(h0:p a b)(h1:q a b)(h2:r a b)(h3:s a b):∃ a b,p a b∧q a b∧r a b∧s a b:=⟨a,b,h0,h1,h2,h3⟩
theorem oi25 {A B:Type}{p q r s t:A→B→Prop}(a:A)(b:B)(h0:p a b)(h1:q a b)(h2:r a b)(h3:s a b)(h4:t a b):∃ a b,p a b∧q a b∧r a b∧s a b∧t a b:=⟨a,b,h0,h1,h2,h3,h4⟩
theorem oi26 {A B:Type}{p q r s t u:A→B→Prop}(a:A)(b:B)(h0:p a b)(h1:q a b)(h2:r a b)(h3:s a b)(h4:t a b)(h5:u a b):∃ a b,p a b∧q a b∧r a b∧s a b∧t a b∧u a b:=⟨a,b,h0,h1,h2,h3,h4,h5⟩
theorem oi31 {A B C:Type}{p:A→B→C→Prop}(a:A)(b:B)(c:C)(h0:p a b c):∃ a b c,p a b c:=⟨a,b,c,h0⟩
theorem oi33 {A B C:Type}{p q r:A→B→C→Prop}(a:A)(b:B)(c:C)(h0:p a b c)(h1:q a b c)(h2:r a b c):∃ a b c,p a b c∧q a b c∧r a b c:=⟨a,b,c,h0,h1,h2⟩
theorem oi34 {A B C:Type}{p q r s:A→B→C→Prop}(a:A)(b:B)(c:C)(h0:p a b c)(h1:q a b c)(h2:r a b c)(h3:s a b c):∃ a b c,p a b c∧q a b c∧r a b c∧s a b c:=⟨a,b,c,h0,h1,h2,h3⟩
theorem oi35 {A B C:Type}{p q r s t:A→B→C→Prop}(a:A)(b:B)(c:C)(h0:p a b c)(h1:q a b c)(h2:r a b c)(h3:s a b c)(h4:t a b c):∃ a b c,p a b c∧q a b c∧r a b c∧s a b c∧t a b c:=⟨a,b,c,h0,h1,h2,h3,h4⟩
theorem oi36 {A B C:Type}{p q r s t u:A→B→C→Prop}(a:A)(b:B)(c:C)(h0:p a b c)(h1:q a b c)(h2:r a b c)(h3:s a b c)(h4:t a b c)(h5:u a b c):∃ a b c,p a b c∧q a b c∧r a b c∧s a b c∧t a b c∧u a b c:=⟨a,b,c,h0,h1,h2,h3,h4,h5⟩
theorem oi37 {A B C:Type}{p q r s t u v:A→B→C→Prop}(a:A)(b:B)(c:C)(h0:p a b c)(h1:q a b c)(h2:r a b c)(h3:s a b c)(h4:t a b c)(h5:u a b c)(h6:v a b c):∃ a b c,p a b c∧q a b c∧r a b c∧s a b c∧t a b c∧u a b c∧v a b c:=⟨a,b,c,h0,h1,h2,h3,h4,h5,h6⟩
theorem oi3b {A B C:Type}{p q r s t u v w x y z:A→B→C→Prop}(a:A)(b:B)(c:C)(h0:p a b c)(h1:q a b c)(h2:r a b c)(h3:s a b c)(h4:t a b c)(h5:u a b c)(h6:v a b c)(h7:w a b c)(h8:x a b c)(h9:y a b c)(h10:z a b c):∃ a b c,p a b c∧q a b c∧r a b c∧s a b c∧t a b c∧u a b c∧v a b c∧w a b c∧x a b c∧y a b c∧z a b c:=⟨a,b,c,h0,h1,h2,h3,h4,h5,h6,h7,h8,h9,h10⟩
theorem oi41 {A B C D:Type}{p:A→B→C→D→Prop}(a:A)(b:B)(c:C)(d:D)(h0:p a b c d):∃ a b c d,p a b c d:=⟨a,b,c,d,h0⟩
theorem oi44 {A B C D:Type}{p q r s:A→B→C→D→Prop}(a:A)(b:B)(c:C)(d:D)(h0:p a b c d)(h1:q a b c d)(h2:r a b c d)(h3:s a b c d):∃ a b c d,p a b c d∧q a b c d∧r a b c d∧s a b c d:=⟨a,b,c,d,h0,h1,h2,h3⟩
theorem oi45 {A B C D:Type}{p q r s t:A→B→C→D→Prop}(a:A)(b:B)(c:C)(d:D)(h0:p a b c d)(h1:q a b c d)(h2:r a b c d)(h3:s a b c d)(h4:t a b c d):∃ a b c d,p a b c d∧q a b c d∧r a b c d∧s a b c d∧t a b c d:=⟨a,b,c,d,h0,h1,h2,h3,h4⟩
theorem oi51 {A B C D E:Type}{p:A→B→C→D→E→Prop}(a:A)(b:B)(c:C)(d:D)(e:E)(h0:p a b c d e):∃ a b c d e,p a b c d e:=⟨a,b,c,d,e,h0⟩
theorem oi56 {A B C D E:Type}{p q r s t u:A→B→C→D→E→Prop}(a:A)(b:B)(c:C)(d:D)(e:E)(h0:p a b c d e)(h1:q a b c d e)(h2:r a b c d e)(h3:s a b c d e)(h4:t a b c d e)(h5:u a b c d e):∃ a b c d e,p a b c d e∧q a b c d e∧r a b c d e∧s a b c d e∧t a b c d e∧u a b c d e:=⟨a,b,c,d,e,h0,h1,h2,h3,h4,h5⟩
theorem oi61 {A B C D E G:Type}{p:A→B→C→D→E→G→Prop}(a:A)(b:B)(c:C)(d:D)(e:E)(g:G)(h0:p a b c d e g):∃ a b c d e g,p a b c d e g:=⟨a,b,c,d,e,g,h0⟩
theorem oi63 {A B C D E G:Type}{p q r:A→B→C→D→E→G→Prop}(a:A)(b:B)(c:C)(d:D)(e:E)(g:G)(h0:p a b c d e g)(h1:q a b c d e g)(h2:r a b c d e g):∃ a b c d e g,p a b c d e g∧q a b c d e g∧r a b c d e g:=⟨a,b,c,d,e,g,h0,h1,h2⟩
theorem oi64 {A B C D E G:Type}{p q r s:A→B→C→D→E→G→Prop}(a:A)(b:B)(c:C)(d:D)(e:E)(g:G)(h0:p a b c d e g)(h1:q a b c d e g)(h2:r a b c d e g)(h3:s a b c d e g):∃ a b c d e g,p a b c d e g∧q a b c d e g∧r a b c d e g∧s a b c d e g:=⟨a,b,c,d,e,g,h0,h1,h2,h3⟩
theorem oi65 {A B C D E G:Type}{p q r s t:A→B→C→D→E→G→Prop}(a:A)(b:B)(c:C)(d:D)(e:E)(g:G)(h0:p a b c d e g)(h1:q a b c d e g)(h2:r a b c d e g)(h3:s a b c d e g)(h4:t a b c d e g):∃ a b c d e g,p a b c d e g∧q a b c d e g∧r a b c d e g∧s a b c d e g∧t a b c d e g:=⟨a,b,c,d,e,g,h0,h1,h2,h3,h4⟩
set_option Elab.async false
set_option linter.all false
set_option maxRecDepth 100000
set_option bootstrap.genMatcherCode false
set_option genSizeOf false
set_option genInjectivity false
noncomputable section
namespace L2
open PySem PySem.Spec PyProof.Rows
noncomputable abbrev Key:=Sum Int Str
noncomputable def eU:Key→Value→Bool
 | .inl k,v=>Value.isInt k v
 | .inr x,v=>Value.isStrOf x v
noncomputable def keyH (w:World):Key→Int
 | .inl k=>hashInt k
 | .inr x=>hashStr w x
theorem aY:∀ {k:Key} {v:Value},eU k v=true→(∃ i t,k=Sum.inl i∧v=Value.int i t)∨(∃ x t,k=Sum.inr x∧v=Value.str x t)
 | .inl i,v,h=>by
  refine oq11 (Value.isInt_shape (k:=i) (v:=v) h) fun t e=>?_
  exact .inl ⟨i,t,rfl,e⟩
 | .inr x,v,h=>by
  refine oq11 (Value.isStrOf_shape (x:=x) (v:=v) h) fun t e=>?_
  exact .inr ⟨x,t,rfl,e⟩
theorem keyIs_int (i:Int) (t:Tok):eU (.inl i) (.int i t)=true:=by simp [eU,Value.isInt]
theorem keyIs_str (x:Str) (t:Tok):eU (.inr x) (.str x t)=true:=by simp [eU,Value.isStrOf]
theorem key_ll (a b:Int):decide ((Sum.inl a:Key)=Sum.inl b)=(a == b):=by
 by_cases e:a=b
 ·subst e; simp
 ·have h:¬ (Sum.inl a:Key)=Sum.inl b:=fun q=>e (Sum.inl.inj q)
  rw [decide_eq_false h]
  exact (beq_eq_false_iff_ne.mpr e).symm
theorem key_rr (a b:Str):decide ((Sum.inr a:Key)=Sum.inr b)=decide (a=b):=by
 by_cases e:a=b
 ·subst e; simp
 ·have h:¬ (Sum.inr a:Key)=Sum.inr b:=fun q=>e (Sum.inr.inj q)
  rw [decide_eq_false h,decide_eq_false e]
theorem key_lr (a:Int) (b:Str):decide ((Sum.inl a:Key)=Sum.inr b)=false:=decide_eq_false (fun q=>nomatch q)
theorem key_rl (a:Str) (b:Int):decide ((Sum.inr a:Key)=Sum.inl b)=false:=decide_eq_false (fun q=>nomatch q)
noncomputable def aS (prog:Program) (w:World):PySem.KeyKind prog w Key where
 is:=eU
 hash:=keyH w
 inj:=fun v a b ha hb=>by
  rcases aY ha with ⟨i,t,rfl,rfl⟩ | ⟨x,t,rfl,rfl⟩
  ·rcases aY hb with ⟨j,u,rfl,e⟩ | ⟨y,u,rfl,e⟩
   ·injection e with e1 _; rw [e1]
   ·exact nomatch e
  ·rcases aY hb with ⟨j,u,rfl,e⟩ | ⟨y,u,rfl,e⟩
   ·exact nomatch e
   ·injection e with e1 _; rw [e1]
 byValue:=fun k v h=>by
  rcases aY h with ⟨i,t,rfl,rfl⟩ | ⟨x,t,rfl,rfl⟩ <;> rfl
 pyHash:=fun hv h=>by
  rcases aY hv with ⟨i,t,rfl,rfl⟩ | ⟨x,t,rfl,rfl⟩
  ·exact wpAny_pyHash_int h
  ·exact wpAny_pyHash_str h
 eqBool:=fun hu hv h=>by
  rcases aY hu with ⟨i,t,rfl,rfl⟩ | ⟨x,t,rfl,rfl⟩
  ·rcases aY hv with ⟨j,u,rfl,rfl⟩ | ⟨y,u,rfl,rfl⟩
   ·rw [key_ll] at h; exact wpAny_eqBool_int h
   ·rw [key_lr] at h; exact SeqAt.EqAt.int_str i t y u _ _ _ _ h
  ·rcases aY hv with ⟨j,u,rfl,rfl⟩ | ⟨y,u,rfl,rfl⟩
   ·rw [key_rl] at h; exact SeqAt.EqAt.str_int x t j u _ _ _ _ h
   ·rw [key_rr] at h; exact wpAny_eqBool_str h
 «strs»:=fun k x t v h=>by
  rcases aY h with ⟨i,u,rfl,e⟩ | ⟨y,u,rfl,e⟩
  ·exact nomatch e
  ·injection e with e1 _
   subst e1
   cases v <;> rfl
theorem mf (prog:Program) (w:World) (i:Int) (t:Tok):(aS prog w).is (.inl i) (.int i t)=true:=keyIs_int i t
theorem mi (prog:Program) (w:World) (x:Str) (t:Tok):(aS prog w).is (.inr x) (.str x t)=true:=keyIs_str x t
end L2
namespace L2
open PySem PySem.Spec PyProof.Rows
set_option genInjectivity true in
inductive V where
 | non | bl (b:Bool) | int (i:Int) | str (x:Str) | byt (b:Array UInt8) | flt (b:UInt64) | ref (a:Addr) | ty (n:String)
 deriving DecidableEq
noncomputable def RelV:V→Value→Prop
 | .non,u=>u=Value.none
 | .bl b,u=>u=Value.bool b
 | .int i,u=>∃ t,u=Value.int i t
 | .str x,u=>∃ t,u=Value.str x t
 | .byt b,u=>∃ t,u=Value.bytes b t
 | .flt b,u=>∃ t,u=Value.float b t
 | .ref a,u=>u=Value.ref a
 | .ty n,u=>u=Value.type n
noncomputable abbrev Vals:List V→List Value→Prop:=Paired RelV
theorem Vals.length {xs:List V} {us:List Value} (r:Vals xs us):xs.length=us.length:=Paired.length r
theorem Vals.get:∀ {xs:List V} {us:List Value} {i:Nat} {x:V},Vals xs us→xs[i]?=some x→∃ u,us[i]?=some u∧RelV x u
 | _,_,_,_,.nil,e=>by simp at e
 | _,_,0,_,.cons r _,e=>by simp at e; subst e; exact ⟨_,rfl,r⟩
 | _,_,i+1,x,.cons _ t,e=>by
  refine oq12 (Vals.get (i:=i) (x:=x) t (by simpa using e)) fun u h1 h2=>?_
  exact ⟨u,by simpa using h1,h2⟩
theorem Vals.set {x:V} {u:Value} (r:RelV x u):∀ {xs:List V} {us:List Value} (i:Nat),Vals xs us→Vals (xs.set i x) (us.set i u)
 | _,_,_,.nil=>.nil
 | _,_,0,.cons _ t=>.cons r t
 | _,_,i+1,.cons q t=>.cons q (Vals.set r i t)
theorem Vals.append:∀ {xs ys:List V} {us ws:List Value},Vals xs us→Vals ys ws→Vals (xs++ys) (us++ws)
 | _,_,_,_,.nil,s=>s
 | _,_,_,_,.cons r t,s=>.cons r (Vals.append t s)
theorem Vals.take:∀ {xs:List V} {us:List Value} (n:Nat),Vals xs us→Vals (xs.take n) (us.take n)
 | _,_,0,_=>.nil
 | _,_,_+1,.nil=>.nil
 | _,_,n+1,.cons r t=>.cons r (Vals.take n t)
theorem Vals.drop:∀ {xs:List V} {us:List Value} (n:Nat),Vals xs us→Vals (xs.drop n) (us.drop n)
 | _,_,0,r=>r
 | _,_,_+1,.nil=>.nil
 | _,_,n+1,.cons _ t=>Vals.drop n t
noncomputable def RelO:Option V→Option Value→Prop
 | some v,some u=>RelV v u
 | none,none=>True
 | _,_=>False
noncomputable def KV {κ:Type}:List (κ × V)→List (κ × Value)→Prop:=Paired fun (p:κ × V) (q:κ × Value)=>p.1=q.1∧RelV p.2 q.2
noncomputable def kV:Key→V
 | .inl i=>.int i
 | .inr x=>.str x
inductive HO where
 | lst (xs:List V)
 | tup (xs:List V)
 | dK (kvs:List (Key × V)) | dT (kvs:List (List Key × V))
 | set (S:Int→Bool) (n:Nat)
 | ins (C dx:Addr) (fs:List (Str × V))
 | own (x:Addr)
 | xd (fs:List (Str × V))
 | met (f x:Addr)
 | rng (lo hi:Int)
 | frz (o:Obj) (u:HO)
 | tbl (ps:Array Value)
 | ext (φ:Heap→Prop)
noncomputable abbrev Hp:=Addr→Option HO
noncomputable def upd (H:Hp) (a:Addr) (o:HO):Hp:=fun b=>if b=a then some o else H b
theorem af {H:Hp} {a:Addr} {o:HO}:upd H a o a=some o:=by unfold upd; rw [if_pos rfl]
theorem ac {H:Hp} {a b:Addr} {o:HO} (h:b≠a):upd H a o b=H b:=by unfold upd; rw [if_neg h]
theorem upd_upd {H:Hp} {a:Addr} {o u:HO}:upd (upd H a o) a u=upd H a u:=by
 funext b; unfold upd; split <;> rfl
theorem ne_of {H:Hp} {a b:Addr} {o u:HO} (h:H a=some o) (h':H b=some u) (d:o≠u):a≠b:=by
 intro e; subst e; rw [h] at h'; exact d (Option.some.inj h')
theorem ah {H:Hp} {a b:Addr} {o:HO} (h:H a=some o) (h':H b=none):a≠b:=by
 intro e; subst e; rw [h] at h'; cases h'
section
variable (P:Program) (w:World)
noncomputable def bb (H:Hp) (h:Heap) (a:Addr):HO→Prop
 | .lst xs=>xs.length≤sizeLine∧∃ (its:List Value) (n:Nat),Vals xs its∧h.get? a=some { cls:=.type "list",data:=.seq its.toArray n }
 | .tup xs=>xs.length≤sizeLine∧∃ its:List Value,Vals xs its∧IsTup h a its.toArray
 | .dK kvs=>kvs.length≤sizeLine∧(a == sysModules)=false∧∃ vs,KV kvs vs∧h.DictOf (aS P w) a vs
 | .dT kvs=>kvs.length≤sizeLine∧(a == sysModules)=false∧∃ xs:List (List Key × Addr × Value),
   Paired (fun (p:List Key × V) (q:List Key × Addr × Value)=>p.1=q.1∧H q.2.1=some (.tup (p.1.map kV))∧RelV p.2 q.2.2) kvs xs ∧
   ∃ o es ep,h.get? a=some o∧o.ExactDict∧o.data=.dict es ep∧es.toList=xs.map (entryOfKey (tupleKind (aS P w)))∧(xs.map (·.1)).Nodup
 | .set S n=>h.SetOf (intKind P w) a S n
 | .ins C dx fs=>H dx=some (.own a)∧fs.length≤1000∧dx≠a∧h.get? a=some (PySem.W.instObj C dx) ∧
   ∃ mA,h.Ns1 dx mA∧(∀ f,RelO (fs.lookup f) (mA f))∧PySem.Within mA (fs.map (·.1))
 | .own _=>∃ o,h.get? a=some o
 | .xd fs=>∃ mA,h.Ns1 a mA∧∀ f,RelO (fs.lookup f) (mA f)
 | .rng lo hi=>∃ t u v,h.get? a=some { cls:=.type "range",data:=.fields #[.int lo t,.int hi u,.int 1 v] }
 | .frz o u=>h.get? a=some o∧bb H h a u
 | .tbl ps=>h.get? a=some { cls:=.none,data:=.fields ps }
 | .met f x=>h.get? a=some (PySem.W.methodObj (.ref f) (.ref x))
 | .ext φ=>φ h∧(∃ o,h.get? a=some o)∧∀ h1 h2:Heap,φ h1→(∀ o,h1.get? a=some o→h2.get? a=some o)→φ h2
noncomputable def HOk (H:Hp) (h:Heap):Prop:=∀ a o,H a=some o→bb P w H h a o
end
section
variable {P:Program} {w:World} {H H':Hp} {h h':Heap} {a:Addr} {o:HO}
theorem bb.lt (x:bb P w H h a o):a<h.objs.size:=by
 cases o with
 | lst xs=>refine oq02 x fun _ zz=>oq22 zz fun _ _ _ e=>?_; exact Heap.lt_size e
 | tup xs=>refine oq02 x fun _ zz=>oq12 zz fun _ _ p=>?_; exact p.lt
 | dK kvs=>refine oq03 x fun _ _ zz=>oq12 zz fun _ _ zz=>oq32 zz fun o _ _ e _=>?_; exact Heap.lt_size e
 | dT kvs=>refine oq03 x fun _ _ zz=>oq12 zz fun _ _ zz=>oq32 zz fun o _ _ e _=>?_; exact Heap.lt_size e
 | set S n=>refine oq42 x fun o _ _ _ e _=>?_; exact Heap.lt_size e
 | ins C dx fs=>refine oq05 x fun _ _ _ e _=>?_; exact Heap.lt_size e
 | own y=>refine oq11 x fun _ e=>?_; exact Heap.lt_size e
 | xd fs=>obtain ⟨_,⟨_,_,_,e,_⟩,_⟩:=x; exact Heap.lt_size e
 | rng lo hi=>refine oq31 x fun _ _ _ e=>?_; exact Heap.lt_size e
 | frz ob u=>refine oq02 x fun e _=>?_; exact Heap.lt_size e
 | tbl ps=>exact Heap.lt_size (show h.get? a=some _ from x)
 | met f y=>exact Heap.lt_size (show h.get? a=some _ from x)
 | ext φ=>obtain ⟨_,⟨_,e⟩,_⟩:=x; exact Heap.lt_size e
theorem Paired.mapP {α β:Type} {F G:α→β→Prop}:∀ {l₁:List α} {l₂:List β},Paired F l₁ l₂→(∀ a b,F a b→G a b)→Paired G l₁ l₂
 | _,_,.nil,_=>.nil
 | _,_,.cons r t,f=>.cons (f _ _ r) (Paired.mapP t f)
theorem bb.stay (x:bb P w H h a o) (k:∀ b u,(b=a∨H b=some (.own a))→h.get? b=some u→h'.get? b=some u)
  (ho:∀ b,H b=some (.own a)→H' b=some (.own a)) (ht:∀ b xs,H b=some (.tup xs)→H' b=some (.tup xs)):bb P w H' h' a o:=by
 induction o with
 | lst xs=>refine oq02 x fun z zz=>oq22 zz fun its n r e=>?_; exact ⟨z,its,n,r,k _ _ (.inl rfl) e⟩
 | tup xs=>refine oq02 x fun z zz=>oq12 zz fun its r zz=>oq12 zz fun ob e c=>?_; exact ⟨z,its,r,ob,k _ _ (.inl rfl) e,c⟩
 | dK kvs=>refine oq03 x fun z y zz=>oq12 zz fun vs r zz=>oq32 zz fun ob es ep e c=>?_; exact ⟨z,y,vs,r,ob,es,ep,k _ _ (.inl rfl) e,c⟩
 | dT kvs =>
  refine oq03 x fun z y zz=>oq12 zz fun xs r zz=>oq32 zz fun ob es ep e c=>?_
  exact ⟨z,y,xs,Paired.mapP r fun p q z=>⟨z.1,ht _ _ z.2.1,z.2.2⟩,ob,es,ep,k _ _ (.inl rfl) e,c⟩
 | set S n=>refine oq42 x fun ob es ep t e c=>?_; exact ⟨ob,es,ep,t,k _ _ (.inl rfl) e,c⟩
 | ins C dx fs =>
  obtain ⟨d,z,ne,e,mA,⟨od,es,ep,e2,c⟩,r⟩:=x
  exact ⟨ho _ d,z,ne,k _ _ (.inl rfl) e,mA,⟨od,es,ep,k _ _ (.inr d) e2,c⟩,r⟩
 | own y=>refine oq11 x fun ob e=>?_; exact ⟨ob,k _ _ (.inl rfl) e⟩
 | xd fs=>obtain ⟨mA,⟨od,es,ep,e,c⟩,r⟩:=x; exact ⟨mA,⟨od,es,ep,k _ _ (.inl rfl) e,c⟩,r⟩
 | rng lo hi=>refine oq31 x fun t u v e=>?_; exact ⟨t,u,v,k _ _ (.inl rfl) e⟩
 | frz ob u ih=>refine oq02 x fun e q=>?_; exact ⟨k _ _ (.inl rfl) e,ih q⟩
 | tbl ps =>
  have e:h.get? a=some { cls:=.none,data:=.fields ps }:=x
  show h'.get? a=some { cls:=.none,data:=.fields ps }
  exact k a _ (.inl rfl) e
 | met f y =>
  have e:h.get? a=some (PySem.W.methodObj (.ref f) (.ref y)):=x
  show h'.get? a=some (PySem.W.methodObj (.ref f) (.ref y))
  exact k a _ (.inl rfl) e
 | ext φ=>obtain ⟨p,⟨o,e⟩,st⟩:=x; exact ⟨st _ _ p fun o q=>k _ _ (.inl rfl) q,⟨o,k _ _ (.inl rfl) e⟩,st⟩
theorem HOk.lt (x:HOk P w H h) (e:H a=some o):a<h.objs.size:=(x a o e).lt
theorem HOk.fresh (x:HOk P w H h) (e:h.objs.size≤a):H a=none:=by
 cases q:H a with
 | none=>rfl
 | some u=>exact absurd (nz1 (x.lt q) e) (Nat.lt_irrefl _)
theorem HOk.kept (x:HOk P w H h) (k:∀ b u,h.get? b=some u→h'.get? b=some u):HOk P w H h':=fun a o e =>
 (x a o e).stay (fun b u _ q=>k b u q) (fun _ q=>q) fun _ _ q=>q
theorem HOk.laid (x:HOk P w H h) (k:∀ b u,h.get? b=some u→h'.get? b=some u) (hp:h.objs.size≤a) (new:bb P w (upd H a o) h' a o):HOk P w (upd H a o) h':=fun b u e=>by
 have hn:=x.fresh hp
 by_cases hb:b=a
 ·subst hb; rw [af] at e; cases e; exact new
 ·rw [ac hb] at e
  exact (x b u e).stay (fun c v _ q=>k c v q) (fun c q=>by rw [ac (ah q hn)]; exact q) fun c xs q=>by rw [ac (ah q hn)]; exact q
end
noncomputable def Rd (H:Hp) (a:Addr) (u:HO):Prop:=H a=some u∨∃ o,H a=some (.frz o u)
theorem Rd.of {H:Hp} {a:Addr} {u:HO} (h:H a=some u):Rd H a u:=.inl h
theorem Rd.ok {P:Program} {w:World} {H:Hp} {h:Heap} {a:Addr} {u:HO} (r:Rd H a u) (x:HOk P w H h):bb P w H h a u:=by
 rcases r with r | ⟨o,r⟩
 ·exact x a u r
 ·refine oq02 (x a _ r) fun _ q=>?_
  exact q
noncomputable def Mut:Option HO→Prop
 | some (.lst _)=>True
 | some (.dK _)=>True
 | some (.dT _)=>True
 | some (.set _ _)=>True
 | some (.ins _ _ _)=>True
 | some (.ext _)=>True
 | _=>False
section
variable {P:Program} {w:World} {H:Hp} {h h':Heap} {x e:Addr} {o':HO}
theorem HOk.write (ok:HOk P w H h) (mu:Mut (H x)) (he:e=x∨H e=some (.own x)) (k:∀ b u,b≠e→h.get? b=some u→h'.get? b=some u) (heo:∃ u,h'.get? e=some u)
  (new:bb P w (upd H x o') h' x o'):HOk P w (upd H x o') h':=fun b u q=>by
 have nown:∀ c y,H c=some (.own y)→c≠x:=fun c y r z=>by subst z; rw [r] at mu; exact mu
 have ntup:∀ c xs,H c=some (.tup xs)→c≠x:=fun c xs r z=>by subst z; rw [r] at mu; exact mu
 by_cases hb:b=x
 ·subst hb; rw [af] at q; cases q; exact new
 ·rw [ac hb] at q
  by_cases hbe:b=e
  ·have q':H b=some (.own x):=by
    rcases he with z | z
    ·exact absurd (hbe.trans z) hb
    ·rw [hbe]; exact z
   rw [q] at q'; cases q'
   refine oq11 heo fun v hv=>?_
   exact ⟨v,by rw [hbe]; exact hv⟩
  ·refine (ok b u q).stay (fun c v hc r=>k c v ?_ r) (fun c r=>by rw [ac (nown c b r)]; exact r) fun c xs r=>by rw [ac (ntup c xs r)]; exact r
   rcases hc with rfl | hc
   ·exact hbe
   ·rintro rfl
    rcases he with z | z
    ·exact nown c b hc z
    ·rw [hc] at z; cases z; exact hb rfl
end
structure Un (fs ex:List Addr) (H H':Hp) (h h':Heap):Prop where
 keep:∀ b o,h.get? b=some o→H b=none→b ∉ fs→b ∉ ex→h'.get? b=some o
 slot:∀ b o,h.get? b=some o→H b=none→b∈fs→b ∉ ex→∃ sl,h'.get? b=some { o with slots:=sl }
 free:∀ b o,h.get? b=some o→H b=none→b ∉ ex→H' b=none
 there:∀ b o,h.get? b=some o→b ∉ ex→∃ o',h'.get? b=some o'
 tups:∀ b xs,H b=some (.tup xs)→H' b=some (.tup xs)
 frzs:∀ b o u,H b=some (.frz o u)→H' b=some (.frz o u)
 tbls:∀ b ps,H b=some (.tbl ps)→∃ more,H' b=some (.tbl (ps++more))
section
variable {fs fs' ex ex':List Addr} {H H1 H2:Hp} {h h1 h2 h':Heap} {a x e:Addr} {o:HO}
theorem Un.any (u:Un fs ex H H1 h h1) {b:Addr} {ob:Obj} (q:h.get? b=some ob) (n:H b=none) (hx:b ∉ ex):∃ sl,h1.get? b=some { ob with slots:=sl }:=by
 by_cases hb:b∈fs
 ·exact u.slot b ob q n hb hx
 ·exact ⟨ob.slots,u.keep b ob q n hb hx⟩
theorem Un.kept (k:∀ b u,h.get? b=some u→h'.get? b=some u):Un fs ex H H h h' :=
 ⟨fun b ob q _ _ _=>k b ob q,fun b ob q _ _ _=>⟨ob.slots,k b ob q⟩,fun _ _ _ n _=>n,fun b ob q _=>⟨ob,k b ob q⟩,fun _ _ q=>q,fun _ _ _ q=>q,fun _ ps q=>⟨#[],by rw [q]; simp⟩⟩
theorem Un.refl:Un fs ex H H h h:=Un.kept fun _ _ q=>q
theorem Un.laid (k:∀ b u,h.get? b=some u→h'.get? b=some u) (hp:h.objs.size≤a) (hn:H a=none):Un fs ex H (upd H a o) h h' where
 keep:=fun b u q _ _ _=>k b u q
 slot:=fun b u q _ _ _=>⟨u.slots,k b u q⟩
 free:=fun b u q n _=>by rw [ac (nz7 (nz1 (Heap.lt_size q) hp))]; exact n
 there:=fun b u q _=>⟨u,k b u q⟩
 tups:=fun b xs q=>by rw [ac (ah q hn)]; exact q
 frzs:=fun b u xs q=>by rw [ac (ah q hn)]; exact q
 tbls:=fun b ps q=>⟨#[],by rw [ac (ah q hn),q]; simp⟩
theorem Un.write (mu:Mut (H x)) (he:e=x∨H e=some (.own x)) (k:∀ b u,b≠e→h.get? b=some u→h'.get? b=some u) (heo:∃ u,h'.get? e=some u):Un fs ex H (upd H x o) h h':=by
 have hx:∀ b,H b=none→b≠x:=fun b n z=>by subst z; rw [n] at mu; exact mu
 have hb:∀ b,H b=none→b≠e:=fun b n z=>by
  subst z
  rcases he with r | r
  ·exact hx b n r
  ·rw [n] at r; cases r
 have hm:∀ b u,H b=some u→¬ Mut (some u)→b≠x:=fun b u q nm z=>by subst z; rw [q] at mu; exact nm mu
 refine ⟨fun b u q n _ _=>k b u (hb b n) q,fun b u q n _ _=>⟨u.slots,k b u (hb b n) q⟩,fun b u q n _=>by rw [ac (hx b n)]; exact n,fun b u q _=>?_,
  fun b xs q=>by rw [ac (hm b _ q fun z=>z)]; exact q,fun b u xs q=>by rw [ac (hm b _ q fun z=>z)]; exact q,fun b ps q=>⟨#[],by rw [ac (hm b _ q fun z=>z),q]; simp⟩⟩
 by_cases hbe:b=e
 ·subst hbe; exact heo
 ·exact ⟨u,k b u hbe q⟩
end
noncomputable def trk (h:Heap) (H:Hp):List Addr:=(List.range h.objs.size).filter fun a=>(H a).isSome
noncomputable def hidT (h:Heap) (H:Hp):Heap:=PySem.W.hideAll h (trk h H)
theorem hidT_size (h:Heap) (H:Hp):(hidT h H).objs.size=h.objs.size:=PySem.W.hideAll_size _ _
theorem iX {h:Heap} {H:Hp} {b:Addr} {o:Obj} (e:h.get? b=some o) (n:H b=none):(hidT h H).get? b=some o :=
 PySem.W.hideAll_get _ e fun hm=>by
  have q:(H b).isSome=true:=(List.mem_filter.mp hm).2
  rw [n] at q; simp at q
theorem of_hidT {h:Heap} {H:Hp} {b:Addr} {o:Obj} (e:(hidT h H).get? b=some o):h.get? b=some o∧H b=none:=by
 have e':h.get? b=some o:=PySem.W.of_hideAll (trk h H) e
 refine ⟨e',?_⟩
 cases q:H b with
 | none=>rfl
 | some x =>
  have hm:b∈trk h H:=List.mem_filter.mpr ⟨List.mem_range.mpr (Heap.lt_size e'),by simp [q]⟩
  have z:(hidT h H).get? b=none:=PySem.W.hideAll_none (trk h H) hm
  rw [z] at e; cases e
end L2
namespace L2
open PySem PySem.Spec PyProof.Rows
structure Mod (K:PySem.W.Frag) (mg:Str→Option Value) (base:Heap):Prop where
 kin:K.In base
 glob:base.Ns mainGlobals mg
 blt:∃ mb,base.Ns builtinsNs mb∧∀ x:Str,x≠"__name__"→mb x=bootBuiltins x
 nolimit:base.NoLimit
structure Cx where
 prog:Program
 w:World
 K:PySem.W.Frag
 mg:Str→Option Value
 base:Heap
 A:Around
 N:List Str
 s₀:Shared
 H₀:Hp
 env:Env
 outer:List Env
 stack:List Env
 ex:List Addr
 fn:Str→Bool
 calm:Bool
 pn:List (Addr × Obj)
 xe:Value→Shared→Prop
noncomputable def frs (l:List Env):List Addr:=l.filterMap (·.frame)
noncomputable abbrev Cx.fs (X:Cx):List Addr:=frs X.outer
noncomputable def Vis (sc:Scope) (x:Str):Prop:=sc.names.lookup x=some .local∨sc.names.lookup x=some .cell∨sc.names.lookup x=some .free
noncomputable def Loc (sc:Scope) (x:Str):Prop:=sc.names.lookup x=some .local∨sc.names.lookup x=some .cell
noncomputable def Look (env:Env) (h:Heap) (m:Str→Option Value) (x:Str) (u:Value):Prop :=
 (env.kindOf x=some .local∧m x=some u)∨((env.kindOf x=some .cell∨env.kindOf x=some .free)∧∃ c,env.cells.lookup x=some c∧h.IsCell c (some u))
structure Cx.Ok (X:Cx):Prop where
 mod:Mod X.K X.mg X.base
 kind:X.env.scope.kind=.function
 glob:X.env.globals=mainGlobals
 blt:X.env.builtins=builtinsNs
 above:X.s₀.heap.objs.size≤X.env.locals
 inj:∀ x y c,X.env.cells.lookup x=some c→X.env.cells.lookup y=some c→x=y
 has:∀ x,(X.env.kindOf x=some .cell∨X.env.kindOf x=some .free)→∃ c,X.env.cells.lookup x=some c
 cab:∀ x c,X.fn x=true→X.env.cells.lookup x=some c→X.s₀.heap.objs.size≤c
 hd:X.calm=true→X.A.handled=none
 frames:X.A.frames=some X.stack
 stk:X.stack=X.outer∨(X.stack=X.env :: X.outer∧X.env.frame=some X.env.locals)
 exf:∀ b∈X.ex,b≠X.env.locals∧∀ x c,X.env.cells.lookup x=some c→c≠b
 bs:∀ b o,X.base.get? b=some o→X.s₀.heap.get? b=some o∧X.H₀ b=none
 bsz:X.base.objs.size≤X.s₀.heap.objs.size
 noex:∀ b o,X.base.get? b=some o→b ∉ X.ex
 exfs:∀ b∈X.ex,b ∉ X.fs
 funs:X.s₀.heap.FunFrames X.base X.outer
 frf:∀ b∈X.fs,X.H₀ b=none
structure Inv (X:Cx) (pins:List (Addr × Obj)) (σ:List (Option V)) (H:Hp) (s:Shared):Prop where
 ok:X.Ok
 os:s.os=X.s₀.os
 bare:AllBare s.gens
 base:Un X.fs X.ex X.H₀ H X.s₀.heap s.heap
 loc:∃ m,s.heap.Ns X.env.locals m∧∀ (i:Nat) (x:Str) (v:V),X.N[i]?=some x→σ[i]?=some (some v)→Vis X.env.scope x→∃ u,RelV v u∧Look X.env s.heap m x u
 cell:∀ x c,X.env.cells.lookup x=some c→∃ v,s.heap.IsCell c v
 free:H X.env.locals=none
 freeC:∀ x c,X.env.cells.lookup x=some c→H c=none
 pin:∀ p∈X.pn++pins,s.heap.get? p.1=some p.2∧H p.1=none∧p.1≠X.env.locals∧p.1 ∉ X.fs∧∀ v,p.2.data≠.cell v
 hok:HOk X.prog X.w H s.heap
 len:σ.length=X.N.length
section
variable {X:Cx} {pins:List (Addr × Obj)} {σ:List (Option V)} {H H':Hp} {s:Shared} {h':Heap}
theorem Cx.Ok.nofr (ok:X.Ok) {b:Addr} {o:Obj} (e:X.base.get? b=some o):b ∉ X.fs:=fun hb=>by
 have:=(ok.funs.mem hb).1
 rw [e] at this; cases this
theorem Inv.bs (I:Inv X pins σ H s):∀ b o,X.base.get? b=some o→s.heap.get? b=some o∧H b=none:=fun b o e =>
 ⟨I.base.keep b o (I.ok.bs b o e).1 (I.ok.bs b o e).2 (I.ok.nofr e) (I.ok.noex b o e),I.base.free b o (I.ok.bs b o e).1 (I.ok.bs b o e).2 (I.ok.noex b o e)⟩
theorem Inv.bk (I:Inv X pins σ H s):∀ b o,X.base.get? b=some o→s.heap.get? b=some o:=fun b o e=>(I.bs b o e).1
theorem Inv.mod (I:Inv X pins σ H s):Mod X.K X.mg X.base:=I.ok.mod
theorem Inv.kIn (I:Inv X pins σ H s):X.K.In s.heap:=I.ok.mod.kin.keeps I.bk
theorem Inv.nolimit (I:Inv X pins σ H s):s.heap.NoLimit:=I.ok.mod.nolimit.keeps I.bk
theorem Inv.lt (I:Inv X pins σ H s):X.env.locals<s.heap.objs.size:=oq12 I.loc fun _ hn _=>hn.lt
theorem Inv.sz (I:Inv X pins σ H s):X.s₀.heap.objs.size≤s.heap.objs.size:=nz4 I.ok.above (nz5 I.lt)
theorem Inv.nofs (I:Inv X pins σ H s) {a:Addr} (h:s.heap.objs.size≤a):a ∉ X.fs:=fun hb=>by
 refine oq02 (I.ok.funs.mem hb) fun _ zz=>oq12 zz fun o ho _=>?_
 exact absurd (nz1 (Heap.lt_size ho) (nz4 I.sz h)) (Nat.lt_irrefl _)
theorem Inv.cne (I:Inv X pins σ H s):∀ x c,X.env.cells.lookup x=some c→c≠X.env.locals:=fun x c e z=>by
 refine oq22 (I.cell x c e) fun v o ho hd=>?_
 obtain ⟨m,⟨o',es,ep,ho',hd',_⟩,_⟩:=I.loc
 rw [z,ho'] at ho; cases ho; rw [hd'] at hd; cases hd
theorem Inv.funs (I:Inv X pins σ H s):s.heap.FunFrames X.base X.outer:=by
 have all:∀ (l:List Env),(∀ b∈frs l,b∈X.fs)→X.s₀.heap.FunFrames X.base l→s.heap.FunFrames X.base l:=by
  intro l
  induction l with
  | nil=>intro _ _; trivial
  | cons env r ih =>
   intro hs hl
   obtain ⟨hk,⟨L,o,hf,hn,ho,hd⟩,hr⟩:=hl
   have hL:L∈X.fs:=hs L (by unfold frs; rw [List.filterMap_cons,hf]; exact List.mem_cons_self)
   refine oq11 (I.base.slot L o ho (I.ok.frf L hL) hL fun z=>I.ok.exfs L z hL) fun sl e=>?_
   exact ⟨hk,⟨L,_,hf,hn,e,hd⟩,ih (fun b hb=>hs b (by unfold frs; rw [List.filterMap_cons,hf]; exact List.mem_cons_of_mem _ hb)) hr⟩
 exact all X.outer (fun _ hb=>hb) I.ok.funs
theorem Inv.stack (I:Inv X pins σ H s):s.heap.FunFrames X.base X.stack:=by
 rcases I.ok.stk with e | ⟨e,hf⟩
 ·rw [e]; exact I.funs
 ·rw [e]
  refine oq12 I.loc fun m hn _=>?_
  refine .cons (by rw [I.ok.kind]; decide) hf hn ?_ I.funs
  exact Heap.get?_none_of_le (nz4 I.ok.bsz I.ok.above)
theorem Inv.stkSub (I:Inv X pins σ H s):∀ b∈frs X.stack,b∈X.env.locals :: X.fs:=fun b hb=>by
 rcases I.ok.stk with e | ⟨e,hf⟩
 ·rw [e] at hb; exact List.mem_cons_of_mem _ hb
 ·rw [e] at hb
  unfold frs at hb
  rw [List.filterMap_cons,hf] at hb
  exact hb
theorem Inv.stkFree (I:Inv X pins σ H s):∀ b∈frs X.stack,H b=none:=fun b hb=>by
 rcases List.mem_cons.mp (I.stkSub b hb) with e | hb
 ·rw [e]; exact I.free
 ·refine oq02 (I.ok.funs.mem hb) fun _ zz=>oq12 zz fun o ho _=>?_
  exact I.base.free b o ho (I.ok.frf b hb) fun z=>I.ok.exfs b z hb
theorem Inv.step {g':Array GenState} {t':Nat} {d':Drawn} {ch:List Addr} (I:Inv X pins σ H s)
  (hch:∀ b∈ch,(b∈X.ex∨X.s₀.heap.objs.size≤b)∧b≠X.env.locals∧(∀ x c,X.env.cells.lookup x=some c→c≠b)∧∀ p∈X.pn++pins,p.1≠b)
  (keep:∀ b o,b≠X.env.locals→b ∉ X.fs→b ∉ ch→s.heap.get? b=some o→H b=none→h'.get? b=some o)
  (slot:∀ b o,b≠X.env.locals→b∈X.fs→b ∉ ch→s.heap.get? b=some o→H b=none→∃ sl,h'.get? b=some { o with slots:=sl }) (free:∀ b o,b ∉ ch→s.heap.get? b=some o→H b=none→H' b=none)
  (there:∀ b o,b ∉ ch→s.heap.get? b=some o→∃ o',h'.get? b=some o')
  (tups:∀ b xs,H b=some (.tup xs)→H' b=some (.tup xs)) (frzs:∀ b o u,H b=some (.frz o u)→H' b=some (.frz o u)) (tbls:∀ b ps,H b=some (.tbl ps)→∃ more,H' b=some (.tbl (ps++more)))
  (ns:∀ m,s.heap.Ns X.env.locals m→h'.Ns X.env.locals m) (hok:HOk X.prog X.w H' h') (hg:AllBare g') :
  Inv X pins σ H' { s with heap:=h',gens:=g',drawn:=d',toks:=t' }:=by
 have neL:∀ b o,X.s₀.heap.get? b=some o→b≠X.env.locals:=fun b o e=>nz7 (nz1 (Heap.lt_size e) I.ok.above)
 have neC:∀ b o,X.s₀.heap.get? b=some o→b ∉ X.ex→b ∉ ch:=fun b o e hx hb=>by
  rcases (hch b hb).1 with z | z
  ·exact hx z
  ·exact absurd (nz1 (Heap.lt_size e) z) (Nat.lt_irrefl _)
 have cellK:∀ x c,X.env.cells.lookup x=some c→∀ v,s.heap.IsCell c v→h'.IsCell c v:=fun x c e v zq=>oq12 zq fun o ho hd=>by
  have nch:c ∉ ch:=fun z=>(hch c z).2.2.1 x c e rfl
  by_cases hc:c∈X.fs
  ·refine oq11 (slot c o (I.cne x c e) hc nch ho (I.freeC x c e)) fun sl q=>?_
   exact ⟨_,q,hd⟩
  ·exact ⟨o,keep c o (I.cne x c e) hc nch ho (I.freeC x c e),hd⟩
 refine ⟨I.ok,I.os,hg,⟨fun b o e n hb hx=>?_,fun b o e n hb hx=>?_,fun b o e n hx=>?_,fun b o e hx=>?_,fun b xs e=>tups b xs (I.base.tups b xs e),fun b o xs e=>frzs b o xs (I.base.frzs b o xs e),fun b ps e=>?_⟩,?_,fun x c e=>?_,?_,fun x c e=>?_,fun p hp=>?_,hok,I.len⟩
 ·exact keep b o (neL b o e) hb (neC b o e hx) (I.base.keep b o e n hb hx) (I.base.free b o e n hx)
 ·refine oq11 (I.base.slot b o e n hb hx) fun sl e1=>?_
  refine oq11 (slot b _ (neL b o e) hb (neC b o e hx) e1 (I.base.free b o e n hx)) fun sl' e2=>?_
  exact ⟨sl',e2⟩
 ·refine oq11 (I.base.there b o e hx) fun o' e1=>?_
  exact free b o' (neC b o e hx) e1 (I.base.free b o e n hx)
 ·refine oq11 (I.base.there b o e hx) fun o' e1=>?_
  exact there b o' (neC b o e hx) e1
 ·refine oq11 (I.base.tbls b ps e) fun m1 e1=>?_
  refine oq11 (tbls b _ e1) fun m2 e2=>?_
  exact ⟨m1++m2,by rw [e2,Array.append_assoc]⟩
 ·refine oq12 I.loc fun m hn hl=>?_
  refine ⟨m,ns m hn,fun i x v e1 e2 e3=>?_⟩
  refine oq12 (hl i x v e1 e2 e3) fun u r l=>?_
  refine ⟨u,r,?_⟩
  rcases l with l | ⟨k,c,e,z⟩
  ·exact .inl l
  ·exact .inr ⟨k,c,e,cellK x c e _ z⟩
 ·refine oq11 (I.cell x c e) fun v z=>?_
  exact ⟨v,cellK x c e v z⟩
 ·obtain ⟨m,⟨o,_,_,ho,_⟩,_⟩:=I.loc
  exact free _ o (fun z=>(hch _ z).2.1 rfl) ho I.free
 ·refine oq22 (I.cell x c e) fun v o ho hd=>?_
  exact free c o (fun z=>(hch c z).2.2.1 x c e rfl) ho (I.freeC x c e)
 ·refine oq05 (I.pin p hp) fun e n ne nf d=>?_
  have nch:p.1 ∉ ch:=fun z=>(hch p.1 z).2.2.2 p hp rfl
  exact ⟨keep p.1 p.2 ne nf nch e n,free p.1 p.2 nch e n,ne,nf,d⟩
theorem Inv.un {t':Nat} (I:Inv X pins σ H s) (u:Un X.fs [] H H' s.heap h') (hok:HOk X.prog X.w H' h'):Inv X pins σ H' { s with heap:=h',toks:=t' }:=by
 obtain ⟨m,⟨o,es,ep,ho,r⟩,_⟩:=id I.loc
 refine oq11 (u.any ho I.free (by simp)) fun sl hL=>?_
 exact I.step (g':=s.gens) (d':=s.drawn) (ch:=[]) (fun _ z=>nomatch z) (fun b o _ hb _ e n=>u.keep b o e n hb (by simp)) (fun b o _ hb _ e n=>u.slot b o e n hb (by simp)) (fun b o _ e n=>u.free b o e n (by simp)) (fun b o _ e=>u.there b o e (by simp)) u.tups u.frzs u.tbls (fun m' hm=>by
  refine oq32 hm fun o' es' ep' ho' r'=>?_
  rw [ho] at ho'; cases ho'
  exact ⟨_,es',ep',hL,r'⟩) hok I.bare
theorem Inv.call {g':Array GenState} {t':Nat} {d':Drawn} {ch:List Addr} (I:Inv X pins σ H s) (u:Un (frs X.stack) ch H H' s.heap h') (hok:HOk X.prog X.w H' h') (hg:AllBare g')
  (hch:∀ b∈ch,(b∈X.ex∨X.s₀.heap.objs.size≤b)∧b≠X.env.locals∧(∀ x c,X.env.cells.lookup x=some c→c≠b)∧∀ p∈X.pn++pins,p.1≠b) :
  Inv X pins σ H' { s with heap:=h',gens:=g',drawn:=d',toks:=t' }:=by
 obtain ⟨m,⟨o,es,ep,ho,r⟩,_⟩:=id I.loc
 refine oq11 (u.any ho I.free fun z=>(hch _ z).2.1 rfl) fun sl hL=>?_
 exact I.step (ch:=ch) hch (fun b o hL hb hc e n=>u.keep b o e n (fun z=>(List.mem_cons.mp (I.stkSub b z)).elim hL hb) hc) (fun b o _ _ hc e n=>u.any e n hc) (fun b o hc e n=>u.free b o e n hc) (fun b o hc e=>u.there b o e hc) u.tups u.frzs u.tbls (fun m' hm=>by
  refine oq32 hm fun o' es' ep' ho' r'=>?_
  rw [ho] at ho'; cases ho'
  exact ⟨_,es',ep',hL,r'⟩) hok hg
theorem Inv.turned {t':Nat} {it:Addr} (I:Inv X pins σ H s) (k:∀ b o,b≠it→s.heap.get? b=some o→h'.get? b=some o) (hn:H it=none) (hL:it≠X.env.locals)
  (h1:it∈X.ex∨X.s₀.heap.objs.size≤it) (h2:∀ x c,X.env.cells.lookup x=some c→c≠it) (h3:∀ p∈X.pn++pins,p.1≠it):Inv X pins σ H { s with heap:=h',toks:=t' }:=by
 have nit:∀ b u,H b=some u→b≠it:=fun b u e z=>by rw [z,hn] at e; cases e
 refine I.step (g':=s.gens) (d':=s.drawn) (ch:=[it]) (fun b hb=>?_) (fun b o _ _ hc e _=>k b o (fun z=>hc (by simp [z])) e) (fun b o _ _ hc e _=>⟨o.slots,k b o (fun z=>hc (by simp [z])) e⟩) (fun _ _ _ _ n=>n)
  (fun b o hc e=>⟨o,k b o (fun z=>hc (by simp [z])) e⟩) (fun _ _ e=>e) (fun _ _ _ e=>e) (fun b ps e=>⟨#[],by rw [e]; simp⟩) (fun m hm=>?_) (fun b u e=>?_) I.bare
 ·have e:b=it:=by simpa using hb
  subst e
  exact ⟨h1,hL,h2,h3⟩
 ·refine oq32 hm fun o es ep ho r=>?_
  exact ⟨o,es,ep,k _ o (Ne.symm hL) ho,r⟩
 ·refine (I.hok b u e).stay (fun c v hc q=>k c v ?_ q) (fun _ q=>q) fun _ _ q=>q
  rcases hc with z | z
  ·rw [z]; exact nit b u e
  ·exact nit c _ z
theorem Inv.tok (I:Inv X pins σ H s) (t:Nat):Inv X pins σ H { s with toks:=t }:=I.un (h':=s.heap) (t':=t) Un.refl I.hok
theorem Inv.kept {t':Nat} (I:Inv X pins σ H s) (k:∀ b u,s.heap.get? b=some u→h'.get? b=some u):Inv X pins σ H { s with heap:=h',toks:=t' }:=I.un (Un.kept k) (I.hok.kept k)
theorem Inv.laid {a:Addr} {o:HO} {t':Nat} (I:Inv X pins σ H s) (k:∀ b u,s.heap.get? b=some u→h'.get? b=some u) (hp:s.heap.objs.size≤a) (new:bb X.prog X.w (upd H a o) h' a o) :
  Inv X pins σ (upd H a o) { s with heap:=h',toks:=t' }:=I.un (Un.laid k hp (I.hok.fresh hp)) (I.hok.laid k hp new)
theorem Inv.write {x e:Addr} {o:HO} {t':Nat} (I:Inv X pins σ H s) (mu:Mut (H x)) (he:e=x∨H e=some (.own x)) (k:∀ b u,b≠e→s.heap.get? b=some u→h'.get? b=some u) (heo:∃ u,h'.get? e=some u)
  (new:bb X.prog X.w (upd H x o) h' x o):Inv X pins σ (upd H x o) { s with heap:=h',toks:=t' }:=I.un (Un.write mu he k heo) (I.hok.write mu he k heo new)
theorem Inv.weak {σ':List (Option V)} (I:Inv X pins σ H s) (hl:σ'.length=σ.length) (w:∀ (i:Nat) v,σ'[i]?=some (some v)→σ[i]?=some (some v)):Inv X pins σ' H s :=
 ⟨I.ok,I.os,I.bare,I.base,oq12 I.loc fun m hn hl'=>⟨m,hn,fun i x v e1 e2 e3=>hl' i x v e1 (w i v e2) e3⟩,I.cell,I.free,I.freeC,I.pin,I.hok,hl.trans I.len⟩
theorem Inv.pins_of {pins':List (Addr × Obj)} (I:Inv X pins σ H s) (h:∀ p∈pins',s.heap.get? p.1=some p.2∧H p.1=none∧p.1≠X.env.locals∧p.1 ∉ X.fs∧∀ v,p.2.data≠.cell v):Inv X pins' σ H s :=
 ⟨I.ok,I.os,I.bare,I.base,I.loc,I.cell,I.free,I.freeC,fun p hp=>(List.mem_append.mp hp).elim (fun z=>I.pin p (List.mem_append_left _ z)) (h p),I.hok,I.len⟩
theorem mj {N:List Str} (hN:N.Nodup) {i j:Nat} {x:Str} (a:N[i]?=some x) (b:N[j]?=some x):i=j:=by
 obtain ⟨h1,e1⟩:=List.getElem?_eq_some_iff.mp a
 obtain ⟨h2,e2⟩:=List.getElem?_eq_some_iff.mp b
 exact (List.getElem_inj hN).mp (e1.trans e2.symm)
theorem kf {M:Model} {A:Around} {E:Value→Shared→Prop} {i:Nat} {x:Str} {v:V} {u:Value} {Q:Unit→Shared→Prop} (I:Inv X pins σ H s) (hN:X.N.Nodup) (hi:X.N[i]?=some x) (hx:Loc X.env.scope x) (r:RelV v u)
  (h:∀ s',Inv X pins (σ.set i (some v)) H s'→(∃ a,Heap.SameBut a s.heap s'.heap∧(a=X.env.locals∨X.env.cells.lookup x=some a))→Q () s') (hf:X.fn x=true∨X.env.scope.names.lookup x=some .local:=by first | exact .inl rfl | exact .inr rfl | assumption):wpAny M A (storeName X.env x u) Q E s:=by
 refine oq12 (id I.loc) fun m hn hl=>?_
 have hcls:(X.env.scope.kind == .class || (X.env.scope.kind == .module && X.env.locals != X.env.globals))=false:=by rw [I.ok.kind]; rfl
 have hiσ:i<σ.length:=by rw [I.len]; exact (List.getElem?_eq_some_iff.mp hi).1
 have cne:=I.cne
 have tracked:∀ {a:Addr} {h':Heap},(∃ o,s.heap.get? a=some o∧H a=none)→Heap.SameBut a s.heap h'→HOk X.prog X.w H h':=fun {a h'} ha hs b ob e=>by
  refine oq12 ha fun _ _ hfree=>?_
  refine (I.hok b ob e).stay (fun c w' hc q=>(hs.2 c ?_).trans q) (fun _ q=>q) fun _ _ q=>q
  rintro rfl
  rcases hc with rfl | hc
  ·rw [hfree] at e; cases e
  ·rw [hfree] at hc; cases hc
 rcases hx with hk | hk
 ·refine wpAny_storeName_local hk hn (fun h' hn' hs=>?_) hcls
  refine oq32 (id hn) fun oL _ _ hoL _=>?_
  refine h _ ⟨I.ok,I.os,I.bare,⟨fun b o e n hb hx=>?_,fun b o e n hb hx=>?_,I.base.free,fun b o e hx=>?_,I.base.tups,I.base.frzs,I.base.tbls⟩,⟨_,hn',fun j y v' e1 e2 e3=>?_⟩,fun y c e=>?_,I.free,I.freeC,fun p hp=>?_,tracked ⟨oL,hoL,I.free⟩ hs,by simpa using I.len⟩ ⟨_,hs,.inl rfl⟩
  ·exact (hs.2 b (nz7 (nz1 (Heap.lt_size e) I.ok.above))).trans (I.base.keep b o e n hb hx)
  ·refine oq11 (I.base.slot b o e n hb hx) fun sl e1=>?_
   exact ⟨sl,(hs.2 b (nz7 (nz1 (Heap.lt_size e) I.ok.above))).trans e1⟩
  ·refine oq11 (I.base.there b o e hx) fun o' e1=>?_
   exact ⟨o',(hs.2 b (nz7 (nz1 (Heap.lt_size e) I.ok.above))).trans e1⟩
  ·by_cases hj:j=i
   ·subst hj
    rw [hi] at e1; cases e1
    rw [List.getElem?_set_self hiσ] at e2
    cases e2
    exact ⟨u,r,.inl ⟨hk,by simp⟩⟩
   ·rw [List.getElem?_set_ne (Ne.symm hj)] at e2
    refine oq12 (hl j y v' e1 e2 e3) fun u' r' q=>?_
    refine ⟨u',r',?_⟩
    rcases q with ⟨k,e⟩ | ⟨k,c,e,z⟩
    ·refine .inl ⟨k,?_⟩
     have:y≠x:=fun e=>hj (mj hN e1 (e ▸ hi))
     simp [this,e]
    ·exact .inr ⟨k,c,e,z.sameBut hs (cne y c e)⟩
  ·refine oq11 (I.cell y c e) fun w' z=>?_
   exact ⟨w',z.sameBut hs (cne y c e)⟩
  ·refine oq05 (I.pin p hp) fun e n ne nf d=>?_
   exact ⟨(hs.2 p.1 ne).trans e,n,ne,nf,d⟩
 ·have hfn:X.fn x=true:=by
   rcases hf with z | z
   ·exact z
   ·rw [z] at hk; cases hk
  refine oq11 (I.ok.has x (.inl hk)) fun c hc=>?_
  refine oq11 (I.cell x c hc) fun w' z=>?_
  refine wpAny_storeName_cell I.ok.kind hk hc z (fun h' hc' hs=>?_)
  refine oq12 (id z) fun oc hoc hocd=>?_
  refine h { s with heap:=h' } ⟨I.ok,I.os,I.bare,⟨fun b o e n hb hx=>?_,fun b o e n hb hx=>?_,I.base.free,fun b o e hx=>?_,I.base.tups,I.base.frzs,I.base.tbls⟩,⟨m,hn.sameBut hs (Ne.symm (cne x c hc)),fun j y v' e1 e2 e3=>?_⟩,fun y c' e=>?_,I.free,I.freeC,fun p hp=>?_,tracked ⟨oc,hoc,I.freeC x c hc⟩ hs,by simpa using I.len⟩ ⟨c,hs,.inr hc⟩
  ·exact (hs.2 b (nz7 (nz1 (Heap.lt_size e) (I.ok.cab x c hfn hc)))).trans (I.base.keep b o e n hb hx)
  ·refine oq11 (I.base.slot b o e n hb hx) fun sl e1=>?_
   exact ⟨sl,(hs.2 b (nz7 (nz1 (Heap.lt_size e) (I.ok.cab x c hfn hc)))).trans e1⟩
  ·refine oq11 (I.base.there b o e hx) fun o' e1=>?_
   exact ⟨o',(hs.2 b (nz7 (nz1 (Heap.lt_size e) (I.ok.cab x c hfn hc)))).trans e1⟩
  ·by_cases hj:j=i
   ·subst hj
    rw [hi] at e1; cases e1
    rw [List.getElem?_set_self hiσ] at e2
    cases e2
    exact ⟨u,r,.inr ⟨.inl hk,c,hc,hc'⟩⟩
   ·rw [List.getElem?_set_ne (Ne.symm hj)] at e2
    refine oq12 (hl j y v' e1 e2 e3) fun u' r' q=>?_
    refine ⟨u',r',?_⟩
    rcases q with q | ⟨k,c',e,z'⟩
    ·exact .inl q
    ·refine .inr ⟨k,c',e,z'.sameBut hs ?_⟩
     rintro rfl
     exact hj (mj hN e1 (I.ok.inj _ _ _ e hc ▸ hi))
  ·by_cases hcc:c'=c
   ·subst hcc; exact ⟨_,hc'⟩
   ·refine oq11 (I.cell y c' e) fun w2 z2=>?_
    exact ⟨w2,z2.sameBut hs hcc⟩
  ·refine oq05 (I.pin p hp) fun e n ne nf d=>?_
   refine ⟨(hs.2 p.1 ?_).trans e,n,ne,nf,d⟩
   intro q
   rw [q,hoc] at e
   have q':oc=p.2:=Option.some.inj e
   exact d w' (by rw [← q']; exact hocd)
theorem ml {M:Model} {A:Around} {E:Value→Shared→Prop} {i:Nat} {x:Str} {v:V} {u:Value} {Q:Unit→Shared→Prop} (I:Inv X pins σ H s) (hN:X.N.Nodup) (hi:X.N[i]?=some x) (hx:Loc X.env.scope x) (r:RelV v u)
  (h:∀ s',Inv X pins (σ.set i (some v)) H s'→Q () s') (hf:X.fn x=true∨X.env.scope.names.lookup x=some .local:=by first | exact .inl rfl | exact .inr rfl | assumption):wpAny M A (storeName X.env x u) Q E s :=
 kf I hN hi hx r (fun s' I' _=>h s' I') hf
theorem Inv.call' {s':Shared} {ch:List Addr} (I:Inv X pins σ H s) (ho:s'.os=s.os) (u:Un (frs X.stack) ch H H' s.heap s'.heap) (hok:HOk X.prog X.w H' s'.heap) (hg:AllBare s'.gens)
  (hch:∀ b∈ch,(b∈X.ex∨X.s₀.heap.objs.size≤b)∧b≠X.env.locals∧(∀ x c,X.env.cells.lookup x=some c→c≠b)∧∀ p∈X.pn++pins,p.1≠b):Inv X pins σ H' s':=by
 obtain ⟨h',g',d',t',o'⟩:=s'
 have e:o'=s.os:=ho
 subst e
 exact I.call (g':=g') (t':=t') (d':=d') u hok hg hch
end
noncomputable abbrev XK:=Value→Option Addr→Hp→Prop
noncomputable abbrev St:=List (Option V)
noncomputable abbrev VK:=V→Hp→Prop
noncomputable abbrev TE:=St→Hp→VK→Prop
noncomputable abbrev TT:=St→Hp→(Bool→Hp→Prop)→Prop
noncomputable abbrev TA:=St→Hp→(List V→Hp→Prop)→Prop
structure Ends where
 nx:St→Hp→Prop
 rt:VK
 bk:St→Hp→Prop:=fun _ _=>False
 ct:St→Hp→Prop:=fun _ _=>False
noncomputable abbrev TS:=Ends→St→Hp→Prop
noncomputable def EP (X:Cx) (pins:List (Addr × Obj)) (σ:St) (Q:VK) (u:Value) (s':Shared):Prop:=∃ v H',Inv X pins σ H' s'∧RelV v u∧Q v H'
noncomputable def TP (X:Cx) (pins:List (Addr × Obj)) (σ:St) (Q:Bool→Hp→Prop) (b:Bool) (s':Shared):Prop:=∃ H',Inv X pins σ H' s'∧Q b H'
noncomputable def AP (X:Cx) (pins:List (Addr × Obj)) (σ:St) (Q:List V→Hp→Prop) (us:List Value) (s':Shared):Prop:=∃ vs H',Inv X pins σ H' s'∧Vals vs us∧Q vs H'
noncomputable def SP (X:Cx) (pins:List (Addr × Obj)) (D:Ends) (f:Flow) (s':Shared):Prop :=
 match f with
 | .next=>∃ σ' H',Inv X pins σ' H' s'∧D.nx σ' H'
 | .brk=>∃ σ' H',Inv X pins σ' H' s'∧D.bk σ' H'
 | .cont=>∃ σ' H',Inv X pins σ' H' s'∧D.ct σ' H'
 | .ret u=>∃ v σ' H',Inv X pins σ' H' s'∧RelV v u∧D.rt v H'
noncomputable def PE (X:Cx) (e:Expr) (t:TE):Prop :=
 ∀ (pins:List (Addr × Obj)) (s:Shared) (σ:St) (H:Hp) (Q:VK),Inv X pins σ H s→t σ H Q→wpAny (model X.prog X.w) X.A (eval e X.env) (EP X pins σ Q) X.xe s
noncomputable def PT (X:Cx) (e:Expr) (t:TT):Prop :=
 ∀ (pins:List (Addr × Obj)) (s:Shared) (σ:St) (H:Hp) (Q:Bool→Hp→Prop),Inv X pins σ H s→t σ H Q→wpAny (model X.prog X.w) X.A (isTrue e X.env (eval e X.env)) (TP X pins σ Q) X.xe s
noncomputable def PW (X:Cx) (e:Expr) (t:TT):Prop :=
 ∀ (whole:Sem Value) (pins:List (Addr × Obj)) (s:Shared) (σ:St) (H:Hp) (Q:Bool→Hp→Prop),Inv X pins σ H s→t σ H Q→wpAny (model X.prog X.w) X.A (isTrue e X.env whole) (TP X pins σ Q) X.xe s
theorem PW.pt {X:Cx} {e:Expr} {t:TT} (h:PW X e t):PT X e t:=h _
noncomputable def PA (X:Cx) (es:List Expr) (t:TA):Prop :=
 ∀ (pos:Pos) (pins:List (Addr × Obj)) (s:Shared) (σ:St) (H:Hp) (Q:List V→Hp→Prop),Inv X pins σ H s→t σ H Q→wpAny (model X.prog X.w) X.A (spliced (backTo pos (starEach es X.env))) (AP X pins σ Q) X.xe s
noncomputable def PS (X:Cx) (st:Stmt) (t:TS):Prop :=
 ∀ (pins:List (Addr × Obj)) (s:Shared) (σ:St) (H:Hp) (D:Ends),Inv X pins σ H s→t D σ H→wpAny (model X.prog X.w) X.A (exec st X.env) (SP X pins D) X.xe s
noncomputable def PSs (X:Cx) (st:List Stmt) (t:TS):Prop :=
 ∀ (pins:List (Addr × Obj)) (s:Shared) (σ:St) (H:Hp) (D:Ends),Inv X pins σ H s→t D σ H→wpAny (model X.prog X.w) X.A (execs st X.env) (SP X pins D) X.xe s
theorem thn {α:Type} {t:Sem α} {Q Q':α→Shared→Prop} {M:Model} {A:Around} {E:Value→Shared→Prop} {s:Shared} (h:wpAny M A t Q E s) (hQ:∀ a s,Q a s→Q' a s):wpAny M A t Q' E s:=wpAny_mono h hQ fun _ _ x=>x
end L2
namespace L2
open PySem PySem.Spec PyProof.Rows
section
variable {X:Cx}
noncomputable def tVar (i:Nat):TE:=fun σ H Q=>∃ v,σ[i]?=some (some v)∧Q v H
noncomputable def tC (v:V):TE:=fun _ H Q=>Q v H
theorem pe_var {i:Nat} {x:Str} {pos:Pos} (hN:X.N[i]?=some x) (hv:Vis X.env.scope x) (hd:(x == ("__debug__":Str))=false:=by decide) (hcd:(x == ("__classdict__":Str))=false:=by decide):PE X (.Name x pos) (tVar i):=by
 intro pins s σ H Q I h
 refine oq12 h fun v e h=>?_
 refine oq12 I.loc fun m hn hl=>?_
 refine oq12 (hl i x v hN e hv) fun u r l=>?_
 have fin:EP X pins σ Q u s:=⟨v,H,I,r,h⟩
 rcases l with ⟨hk,hm⟩ | ⟨hk,c,hc,hcell⟩
 ·exact wpAny_Name (wpAny_loadName_local I.ok.kind hk hn hm fin) hd
 ·rcases hk with hk | hk
  ·exact wpAny_Name (wpAny_loadName_cell I.ok.kind hk hc hcell fin) hd
  ·exact wpAny_Name (wpAny_loadName_free I.ok.kind hk hc hcell fin hcd) hd
theorem al {i j pos}:PE X (.Constant (.int i) j pos) (tC (.int i)):=fun _ _ _ H _ I h=>wpAny_Constant_int ⟨.int i,H,I.tok _,⟨_,rfl⟩,h⟩
theorem cy {b j pos}:PE X (.Constant (.bool b) j pos) (tC (.bl b)):=fun _ _ _ H _ I h=>Constant_bool ⟨.bl b,H,I,rfl,h⟩
theorem iY {j pos}:PE X (.Constant .none j pos) (tC .non):=fun _ _ _ H _ I h=>Constant_none ⟨.non,H,I,rfl,h⟩
noncomputable def Gl (X:Cx) (x:Str):Prop:=X.env.kindOf x=some .globalImplicit
theorem oT {E:Value→Shared→Prop} {pins:List (Addr × Obj)} {s:Shared} {σ:St} {H:Hp} {x:Str} {u:Value} {pos:Pos} {Q:Value→Shared→Prop} (I:Inv X pins σ H s) (hg:Gl X x) (hm:X.mg x=some u) (h:Q u s)
  (hd:(x == ("__debug__":Str))=false:=by decide):wpAny (model X.prog X.w) X.A (eval (.Name x pos) X.env) Q E s :=
 Calls.Name_function_global I.ok.kind hg (Calls.loadGlobal_global (by rw [I.ok.glob]; exact I.mod.glob.keeps I.bk) hm h) hd
theorem dJ {E:Value→Shared→Prop} {pins:List (Addr × Obj)} {s:Shared} {σ:St} {H:Hp} {x:Str} {u:Value} {pos:Pos} {Q:Value→Shared→Prop} (I:Inv X pins σ H s) (hg:Gl X x) (hm:X.mg x=none) (hv:bootBuiltins x=some u) (h:Q u s)
  (hn:x≠"__name__":=by decide) (hd:(x == ("__debug__":Str))=false:=by decide):wpAny (model X.prog X.w) X.A (eval (.Name x pos) X.env) Q E s:=by
 refine oq12 I.mod.blt fun mb h1 h2=>?_
 exact Calls.Name_function_global I.ok.kind hg (Calls.loadGlobal_builtin (by rw [I.ok.glob]; exact I.mod.glob.keeps I.bk) hm (by rw [I.ok.blt]; exact h1.keeps I.bk) ((h2 x hn).trans hv) h) hd
theorem iK {x:Str} {v:V} {u:Value} {pos:Pos} (hg:Gl X x) (hm:X.mg x=none) (hv:bootBuiltins x=some u) (r:RelV v u) (hn:x≠"__name__":=by decide) (hd:(x == ("__debug__":Str))=false:=by decide):PE X (.Name x pos) (tC v) :=
 fun _ _ _ H _ I h=>dJ I hg hm hv ⟨v,H,I,r,h⟩ hn hd
variable {a b:Expr} {ta tb:TE} {pos:Pos}
noncomputable def PC (X:Cx) (op:CmpOp) (a b:Expr) (t:TE):Prop :=
 ∀ (pins:List (Addr × Obj)) (s:Shared) (σ:St) (H:Hp) (Q:VK),Inv X pins σ H s→t σ H Q →
  wpAny (model X.prog X.w) X.A (eval a X.env) (fun v s₁=>wpAny (model X.prog X.w) X.A (eval b X.env) (fun u s₂=>wpAny (model X.prog X.w) X.A (compareOp op v u) (EP X pins σ Q) X.xe s₂) X.xe s₁) X.xe s
noncomputable def tB (t:TE):TT:=fun σ H Q=>t σ H fun x H1=>∃ c,x=.bl c∧Q c H1
theorem nJ {op:CmpOp} {t:TE} (h:PC X op a b t) (h1:behindInMarks op b=false:=by first | exact nobehind _ (by decide) (by decide) | rfl):PT X (.Compare a [op] [b] pos) (tB t):=by
 intro pins s σ H Q I hw
 refine wpAny_isTrue_Compare1 (thn (h pins s σ H _ I hw) fun v s1 h1=>thn h1 fun u s2 h2=>thn h2 fun c s3 zq=>oq23 zq fun x H1 I1 r1 q1=>?_) h1
 refine oq12 q1 fun d eq1_ q=>?_; subst eq1_
 cases r1
 exact wpAny_truthy_bool ⟨H1,I1,q⟩
theorem cz {e:Expr} {t:TE} (h:PE X e t) (he:∀ whole,isTrue e X.env whole=(do let v ← whole; standAt e.pos; holding [v] (truthy v)):=by intro _; rfl):PT X e (tB t):=by
 intro pins s σ H Q I hw
 refine isTrue_plain (thn (h pins s σ H _ I hw) fun v s1 zq=>oq23 zq fun x H1 I1 r1 q1=>?_) (he _)
 refine oq12 q1 fun d eq1_ q=>?_; subst eq1_
 cases r1
 exact wpAny_truthy_bool ⟨H1,I1,q⟩
variable {tA tB':TT} {rest:List Expr}
noncomputable def tAnd (t u:TT):TT:=fun σ H Q=>t σ H fun c H1=>if c=true then u σ H1 Q else Q false H1
noncomputable def tOr (t u:TT):TT:=fun σ H Q=>t σ H fun c H1=>if c=true then Q true H1 else u σ H1 Q
noncomputable def tNot (t:TT):TT:=fun σ H Q=>t σ H fun c H1=>Q (!c) H1
theorem fA (ha:PT X a tA):PW X (.BoolOp .And [a] pos) tA:=by
 intro wh pins s σ H Q I h
 refine isTrue_and (thn (ha pins s σ H Q I h) fun c s1 e=>?_)
 cases c with
 | true=>exact isTrue_and_nil e
 | false=>exact e
theorem eB (ha:PT X a tA):PW X (.BoolOp .Or [a] pos) tA:=by
 intro wh pins s σ H Q I h
 refine isTrue_or (thn (ha pins s σ H Q I h) fun c s1 e=>?_)
 cases c with
 | false=>exact isTrue_or_nil e
 | true=>exact e
theorem gZ (ha:PT X a tA) (hb:PW X (.BoolOp .And (b :: rest) pos) tB'):PW X (.BoolOp .And (a :: b :: rest) pos) (tAnd tA tB'):=by
 intro wh pins s σ H Q I h
 refine isTrue_and (thn (ha pins s σ H _ I h) fun c s1 zq=>oq12 zq fun H1 I1 q1=>?_)
 cases c with
 | true=>exact hb wh pins s1 σ H1 Q I1 q1
 | false=>exact ⟨H1,I1,q1⟩
theorem d0 (ha:PT X a tA) (hb:PW X (.BoolOp .Or (b :: rest) pos) tB'):PW X (.BoolOp .Or (a :: b :: rest) pos) (tOr tA tB'):=by
 intro wh pins s σ H Q I h
 refine isTrue_or (thn (ha pins s σ H _ I h) fun c s1 zq=>oq12 zq fun H1 I1 q1=>?_)
 cases c with
 | true=>exact ⟨H1,I1,q1⟩
 | false=>exact hb wh pins s1 σ H1 Q I1 q1
theorem df (ha:PT X a tA):PT X (.UnaryOp .Not a pos) (tNot tA):=by
 intro pins s σ H Q I h
 exact isTrue_not (ha pins s σ H (fun c H1=>Q (!c) H1) I h)
noncomputable def tAndV (ta tb:TE):TE:=fun σ H Q=>ta σ H fun x H1=>∃ c,x=.bl c∧if c=true then tb σ H1 Q else Q (.bl false) H1
theorem pe_one {op} {t:TE} (h:PE X a t):PE X (.BoolOp op [a] pos) t:=fun pins s σ H Q I hw=>BoolOp_one (h pins s σ H Q I hw)
theorem pe_and (ha:PE X a ta) (hb:PE X (.BoolOp .And (b :: rest) pos) tb):PE X (.BoolOp .And (a :: b :: rest) pos) (tAndV ta tb):=by
 intro pins s σ H Q I h
 refine BoolOp_and (thn (ha pins s σ H _ I h) fun v s1 ⟨x,H1,I1,r1,q1⟩=>?_)
 obtain ⟨c,rfl,q1⟩:=q1
 cases r1
 refine wpAny_truthy_bool ?_
 cases c with
 | true=>exact hb pins s1 σ H1 Q I1 q1
 | false=>exact ⟨.bl false,H1,I1,rfl,q1⟩
noncomputable def tIf (t:TT) (ta tb:TE):TE:=fun σ H Q=>t σ H fun c H1=>if c=true then ta σ H1 Q else tb σ H1 Q
theorem iZ {c:Expr} (hc:PT X c tA) (ha:PE X a ta) (hb:PE X b tb):PE X (.IfExp c a b pos) (tIf tA ta tb):=by
 intro pins s σ H Q I h
 refine wpAny_IfExp (thn (hc pins s σ H _ I h) fun d s1 zq=>oq12 zq fun H1 I1 q1=>?_)
 cases d with
 | true=>exact ha pins s1 σ H1 Q I1 q1
 | false=>exact hb pins s1 σ H1 Q I1 q1
end
end L2
namespace L2
open PySem PySem.Spec PyProof.Rows
noncomputable def SqL (K:PySem.W.Frag) (H:Hp) (a:Addr) (xs:List V):Prop :=
 Rd H a (.lst xs) ∨
  ∃ (o:Obj) (its:Array Value) (n:Nat),K.lookup a=some o∧o.cls=.type "list"∧o.dict=none∧o.data=.seq its n∧its.size≤sizeLine∧Vals xs its.toList
noncomputable def SqT (K:PySem.W.Frag) (H:Hp) (a:Addr) (xs:List V):Prop :=
 Rd H a (.tup xs) ∨
  ∃ (o:Obj) (its:Array Value) (n:Nat),K.lookup a=some o∧o.cls=.type "tuple"∧o.data=.seq its n∧its.size≤sizeLine∧Vals xs its.toList
noncomputable def absV:Value→Option V
 | .none=>some .non
 | .bool b=>some (.bl b)
 | .int i _=>some (.int i)
 | .str x _=>some (.str x)
 | .bytes b _=>some (.byt b)
 | .float b _=>some (.flt b)
 | .ref a=>some (.ref a)
 | .type n=>some (.ty n)
 | _=>none
theorem RelV.abs {x:V} {u:Value} (r:RelV x u):absV u=some x:=by
 cases x with
 | non=>cases r; rfl
 | bl _=>cases r; rfl
 | int _=>refine oq11 r fun t eq1_=>?_; subst eq1_; rfl
 | str _=>refine oq11 r fun t eq1_=>?_; subst eq1_; rfl
 | byt _=>refine oq11 r fun t eq1_=>?_; subst eq1_; rfl
 | flt _=>refine oq11 r fun t eq1_=>?_; subst eq1_; rfl
 | ref _=>cases r; rfl
 | ty _=>cases r; rfl
theorem RelV.inj {x y:V} {u:Value} (r:RelV x u) (q:RelV y u):x=y:=Option.some.inj (r.abs.symm.trans q.abs)
theorem Vals.inj:∀ {xs ys:List V} {us:List Value},Vals xs us→Vals ys us→xs=ys
 | _,_,_,.nil,.nil=>rfl
 | _,_,_,.cons r t,.cons r' t'=>by rw [r.inj r',Vals.inj t t']
section
variable {X:Cx} {pins:List (Addr × Obj)} {σ:St} {H:Hp} {s:Shared} {a:Addr} {xs ys:List V}
theorem SqL.of {K:PySem.W.Frag} (h:H a=some (.lst xs)):SqL K H a xs:=.inl (.inl h)
theorem SqT.of {K:PySem.W.Frag} (h:H a=some (.tup xs)):SqT K H a xs:=.inl (.inl h)
theorem Inv.list (I:Inv X pins σ H s) (h:SqL X.K H a xs):∃ its:List Value,Vals xs its∧PlainL s.heap a its.toArray∧xs.length≤sizeLine:=by
 rcases h with h | ⟨o,its,n,hk,hc,hd,hs,hz,r⟩
 ·refine oq02 (h.ok I.hok) fun z zz=>oq22 zz fun its n r e=>?_
  exact ⟨its,r,⟨_,n,e,rfl,rfl,rfl⟩,z⟩
 ·refine ⟨its.toList,r,⟨o,n,I.kIn a o hk,hc,hd,by simpa using hs⟩,?_⟩
  have e:=r.length
  simp only [Array.length_toList] at e
  omega
theorem Inv.tuple (I:Inv X pins σ H s) (h:SqT X.K H a xs):∃ its:List Value,Vals xs its∧IsTup s.heap a its.toArray∧xs.length≤sizeLine:=by
 rcases h with h | ⟨o,its,n,hk,hc,hs,hz,r⟩
 ·refine oq02 (h.ok I.hok) fun z zz=>oq12 zz fun its r p=>?_
  exact ⟨its,r,p,z⟩
 ·refine ⟨its.toList,r,⟨o,I.kIn a o hk,hc,n,by simpa using hs⟩,?_⟩
  have e:=r.length
  simp only [Array.length_toList] at e
  omega
theorem Inv.list_inj (I:Inv X pins σ H s) (h:SqL X.K H a xs) (h':SqL X.K H a ys):xs=ys:=by
 obtain ⟨its,r,⟨o,n,e,_,_,d⟩,_⟩:=I.list h
 obtain ⟨its',r',⟨o',n',e',_,_,d'⟩,_⟩:=I.list h'
 rw [e] at e'; cases e'
 rw [d] at d'
 injection d' with d1 _
 have:its=its':=by simpa using congrArg Array.toList d1
 subst this
 exact r.inj r'
end
noncomputable abbrev Cx.wish (X:Cx) (E:Value→Shared→Prop):Cx:={ X with xe:=E }
noncomputable abbrev Cx.nox (X:Cx):Cx:=X.wish fun _ _=>False
theorem Cx.Ok.wish {X:Cx} (ok:X.Ok) (E:Value→Shared→Prop):(X.wish E).Ok :=
 ⟨ok.mod,ok.kind,ok.glob,ok.blt,ok.above,ok.inj,ok.has,ok.cab,ok.hd,ok.frames,ok.stk,ok.exf,ok.bs,ok.bsz,ok.noex,ok.exfs,ok.funs,ok.frf⟩
theorem Cx.Ok.unwish {X:Cx} {E:Value→Shared→Prop} (ok:(X.wish E).Ok):X.Ok :=
 ⟨ok.mod,ok.kind,ok.glob,ok.blt,ok.above,ok.inj,ok.has,ok.cab,ok.hd,ok.frames,ok.stk,ok.exf,ok.bs,ok.bsz,ok.noex,ok.exfs,ok.funs,ok.frf⟩
section
variable {X:Cx} {pins:List (Addr × Obj)} {σ:St} {H:Hp} {s:Shared} {E:Value→Shared→Prop}
theorem Inv.wish (I:Inv X pins σ H s) (E:Value→Shared→Prop):Inv (X.wish E) pins σ H s:=⟨I.ok.wish E,I.os,I.bare,I.base,I.loc,I.cell,I.free,I.freeC,I.pin,I.hok,I.len⟩
theorem Inv.unwish (I:Inv (X.wish E) pins σ H s):Inv X pins σ H s:=⟨I.ok.unwish,I.os,I.bare,I.base,I.loc,I.cell,I.free,I.freeC,I.pin,I.hok,I.len⟩
theorem SP.unwish {D:Ends} {f:Flow} {s':Shared} (h:SP (X.wish E) pins D f s'):SP X pins D f s':=by
 cases f with
 | next=>refine oq22 h fun σ' H' I q=>?_; exact ⟨σ',H',I.unwish,q⟩
 | brk=>refine oq22 h fun σ' H' I q=>?_; exact ⟨σ',H',I.unwish,q⟩
 | cont=>refine oq22 h fun σ' H' I q=>?_; exact ⟨σ',H',I.unwish,q⟩
 | ret u=>refine oq33 h fun v σ' H' I r q=>?_; exact ⟨v,σ',H',I.unwish,r,q⟩
theorem PSs.nox {st:List Stmt} {t:TS} (h:PSs X.nox st t):PSs X st t:=fun pins s σ H D I hw =>
 wpAny_mono (h pins s σ H D (I.wish _) hw) (fun _ _ q=>q.unwish) fun _ _ z=>False.elim z
end
section
variable {X:Cx} {st:Stmt} {rest:List Stmt} {t u:TS} {e:Expr} {te:TE} {pos:Pos}
noncomputable def j0:TS:=fun D σ H=>D.nx σ H
noncomputable def tSeq (t u:TS):TS:=fun D σ H=>t { D with nx:=u D } σ H
theorem aF:PSs X [] j0:=fun _ _ σ H _ I h=>wpAny_execs_nil ⟨σ,H,I,h⟩
theorem ag (h1:PS X st t) (h2:PSs X rest u):PSs X (st :: rest) (tSeq t u):=by
 intro pins s σ H D I h
 refine wpAny_execs_cons (thn (h1 pins s σ H { D with nx:=u D } I h) fun f s1 q=>?_)
 cases f with
 | next =>
  refine oq22 q fun σ' H' I' q=>?_
  exact h2 pins s1 σ' H' D I' q
 | ret v=>exact q
 | brk=>exact q
 | cont=>exact q
theorem aj (h1:PS X st t):PSs X [st] t:=by
 intro pins s σ H D I h
 refine wpAny_execs_cons (thn (h1 pins s σ H D I h) fun f s1 q=>?_)
 cases f with
 | next=>exact wpAny_execs_nil q
 | ret v=>exact q
 | brk=>exact q
 | cont=>exact q
theorem Inv.quiet {pins:List (Addr × Obj)} {σ:St} {H:Hp} {s:Shared} (I:Inv X pins σ H s):interactive X.env=false:=by simp [interactive,I.ok.kind]
noncomputable def mo (te:TE):TS:=fun D σ H=>te σ H fun _ H1=>D.nx σ H1
theorem dA (he:PE X e te) (hs:swapsWith e none pos.line X.env=pure false:=by rfl):PS X (.Expr e pos) (mo te):=by
 intro pins s σ H D I h
 exact wpAny_Expr_any (thn (he pins s σ H _ I h) fun v s1 zq=>oq23 zq fun x H1 I1 r1 q1=>⟨σ,H1,I1,q1⟩) I.quiet hs
noncomputable def tRet (te:TE):TS:=fun D σ H=>te σ H D.rt
theorem ar (he:PE X e te):PS X (.Return (some e) pos) (tRet te):=by
 intro pins s σ H D I h
 exact wpAny_Return_some (thn (he pins s σ H _ I h) fun v s1 zq=>oq23 zq fun x H1 I1 r1 q1=>⟨x,σ,H1,I1,r1,q1⟩)
noncomputable def tIfS (c:TT) (t u:TS):TS:=fun D σ H=>c σ H fun b H1=>if b=true then t D σ H1 else u D σ H1
theorem bC {c:Expr} {a b:List Stmt} {tc:TT} (hc:PT X c tc) (ha:PSs X a t) (hb:PSs X b u):PS X (.If c a b pos) (tIfS tc t u):=by
 intro pins s σ H D I h
 refine wpAny_If (thn (hc pins s σ H _ I h) fun d s1 zq=>oq12 zq fun H1 I1 q1=>?_)
 cases d with
 | true=>exact ha pins s1 σ H1 D I1 q1
 | false=>exact hb pins s1 σ H1 D I1 q1
end
noncomputable abbrev TG:=V→St→Hp→(St→Hp→Prop)→Prop
noncomputable abbrev TGs:=List V→St→Hp→(St→Hp→Prop)→Prop
noncomputable def PG (X:Cx) (target:Expr) (t:TG):Prop :=
 ∀ (pins:List (Addr × Obj)) (s:Shared) (σ:St) (H:Hp) (v:V) (u:Value) (Q:St→Hp→Prop),Inv X pins σ H s→RelV v u→t v σ H Q →
  wpAny (model X.prog X.w) X.A (assign target X.env u) (fun _ s'=>∃ σ' H',Inv X pins σ' H' s'∧Q σ' H') X.xe s
noncomputable def PGs (X:Cx) (ts:List Expr) (t:TGs):Prop :=
 ∀ (pins:List (Addr × Obj)) (s:Shared) (σ:St) (H:Hp) (vs:List V) (us:List Value) (Q:St→Hp→Prop),Inv X pins σ H s→Vals vs us→t vs σ H Q →
  wpAny (model X.prog X.w) X.A (assignInOrder ((assignEach ts X.env).map (·.2)) us) (fun _ s'=>∃ σ' H',Inv X pins σ' H' s'∧Q σ' H') X.xe s
noncomputable abbrev TSet:=V→V→V→Hp→(Hp→Prop)→Prop
noncomputable def PSet (X:Cx) (t:TSet):Prop :=
 ∀ (pins:List (Addr × Obj)) (s:Shared) (σ:St) (H:Hp) (o i v:V) (ov iv u:Value) (Q:Hp→Prop),Inv X pins σ H s→RelV o ov→RelV i iv→RelV v u→t o i v H Q →
  wpAny (model X.prog X.w) X.A (setItem ov iv u) (fun _ s'=>∃ H',Inv X pins σ H' s'∧Q H') X.xe s
section
variable {X:Cx} {pos:Pos}
noncomputable def d4 (i:Nat):TG:=fun v σ H Q=>Q (σ.set i (some v)) H
theorem az {i:Nat} {x:Str} (hN:X.N.Nodup) (hi:X.N[i]?=some x) (hx:Loc X.env.scope x) (hf:X.fn x=true∨X.env.scope.names.lookup x=some .local:=by first | exact .inl rfl | exact .inr rfl | assumption):PG X (.Name x pos) (d4 i):=by
 intro pins s σ H v u Q I r h
 exact wpAny_assign_Name (ml I hN hi hx r (fun s' I'=>⟨_,H,I',h⟩) hf)
noncomputable def gNil:TGs:=fun vs σ H Q=>vs=[]∧Q σ H
noncomputable def kg (t:TG) (u:TGs):TGs:=fun vs σ H Q=>∃ v r,vs=v :: r∧t v σ H fun σ' H'=>u r σ' H' Q
theorem fB:PGs X [] gNil:=by
 intro pins s σ H vs us Q I r h
 obtain ⟨e,h⟩:=h
 subst e
 cases r
 exact assignInOrder_nil ⟨σ,H,I,h⟩
theorem bM {e:Expr} {es:List Expr} {t:TG} {u:TGs} (h1:PG X e t) (h2:PGs X es u)
  (hs:(assignEach (e :: es) X.env).map (·.2)=assign e X.env :: (assignEach es X.env).map (·.2):=by rfl):PGs X (e :: es) (kg t u):=by
 intro pins s σ H vs us Q I r h
 obtain ⟨v,vr,e1,h⟩:=h
 subst e1
 cases r with
 | cons r rr =>
  rw [hs]
  refine assignInOrder_cons (thn (h1 pins s σ H _ _ _ I r h) fun _ s1 ⟨σ1,H1,I1,q1⟩=>?_)
  exact h2 pins s1 σ1 H1 _ _ Q I1 rr q1
noncomputable def gTup (K:PySem.W.Frag) (n:Nat) (t:TGs):TG:=fun v σ H Q=>∃ a xs,v=.ref a∧SqT K H a xs∧xs.length=n∧t xs σ H Q
theorem pg_tup {es:List Expr} {k:Nat} {t:TGs} {n:Nat} (hc:X.calm=true) (h:PGs X es t)
  (hn:(assignEach es X.env).length=n:=by rfl) (hst:(assignEach es X.env).findIdx? (·.1)=none:=by rfl):PG X (.Tuple es k pos) (gTup X.K n t):=by
 intro pins s σ H v u Q I r hw
 obtain ⟨a,xs,e1,hq,hl,hw⟩:=hw
 subst e1
 cases r
 obtain ⟨its,rv,ht,hz⟩:=I.tuple hq
 refine assign_Tuple_tuple (I.ok.hd hc) ht (by simp [hn,← hl,rv.length]) hst fun h' hx=>?_
 have I1:Inv X pins σ H { s with heap:=h' }:=I.kept (t':=s.toks) fun b o e=>hx b o (nz7 (Heap.lt_size e)) e
 exact h pins _ σ H xs _ Q I1 (by simpa using rv) hw
noncomputable def gSub (to ti:TE) (t:TSet):TG:=fun v σ H Q=>to σ H fun o H1=>ti σ H1 fun i H2=>t o i v H2 fun H3=>Q σ H3
theorem pg_sub {o i:Expr} {to ti:TE} {t:TSet} (ho:PE X o to) (hi:PE X i ti) (hs:PSet X t)
  (ha:∀ v,assign (.Subscript o i pos) X.env v=(do
   let ov ← holding [v] (eval o X.env)
   let iv ← holding [v,ov] (eval i X.env)
   standAt pos
   holding [v,ov,iv] (setItem ov iv v)
   release [v,ov,iv] []):=by intro _; rfl):PG X (.Subscript o i pos) (gSub to ti t):=by
 intro pins s σ H v u Q I r h
 rw [ha]
 refine wpAny_bind (wpAny_holding (thn (ho pins s σ H _ I h) fun ov s1 zq=>oq23 zq fun x H1 I1 r1 q1=>?_))
 refine wpAny_bind (wpAny_holding (thn (hi pins s1 σ H1 _ I1 q1) fun iv s2 zq=>oq23 zq fun y H2 I2 r2 q2=>?_))
 refine wpAny_bind (wpAny_standAt (wpAny_bind (wpAny_holding (thn (hs pins s2 σ H2 x y v ov iv u _ I2 r1 r2 r q2) fun _ s3 zq=>oq12 zq fun H3 I3 q3=>?_))))
 exact wpAny_release ⟨σ,H3,I3,q3⟩
noncomputable def tAsg (te:TE) (g:TG):TS:=fun D σ H=>te σ H fun x H1=>g x σ H1 D.nx
theorem kX {tg e:Expr} {te:TE} {g:TG} (he:PE X e te) (hg:PG X tg g) (hs:swapsWithSole [tg] e pos.line X.env=pure false:=by rfl) (hw:swappedStores [tg] e X.env=pure none:=by rfl)
  (h1:(assignEach [tg] X.env).map (·.2)=[assign tg X.env]:=by rfl):PS X (.Assign [tg] e pos) (tAsg te g):=by
 intro pins s σ H D I h
 refine wpAny_Assign_stores (thn (he pins s σ H _ I h) fun v s1 zq=>oq23 zq fun x H1 I1 r1 q1=>?_) hs hw
 rw [h1]
 exact thn (hg pins s1 σ H1 x v _ I1 r1 q1) fun _ s2 q=>q
theorem av {i:Nat} {x:Str} {e:Expr} {te:TE} {pos':Pos} (hN:X.N.Nodup) (hi:X.N[i]?=some x) (hx:Loc X.env.scope x) (he:PE X e te) (hs:swapsWith e (some (.Name x pos')) pos.line X.env=pure false:=by rfl) (hf:X.fn x=true∨X.env.scope.names.lookup x=some .local:=by first | exact .inl rfl | exact .inr rfl | assumption) :
  PS X (.Assign [.Name x pos'] e pos) (tAsg te (d4 i)):=by
 intro pins s σ H D I h
 refine wpAny_Assign_Name (thn (he pins s σ H _ I h) fun v s1 zq=>oq23 zq fun y H1 I1 r1 q1=>?_) hs
 exact ml I1 hN hi hx r1 (fun s2 I2=>⟨_,H1,I2,q1⟩) hf
end
section
variable {X:Cx} {pos:Pos}
noncomputable def tWhile (c:TT) (tb:TS):TS:=fun D σ H=>∃ W:Nat→St→Hp→Prop,(∃ m,W m σ H)∧∀ m σ H,W m σ H →
 c σ H fun b H1=>if b=true then ∃ N:St→Hp→Prop,(∀ σ' H',N σ' H'→∃ m',m'<m∧W m' σ' H')∧tb { D with nx:=N,ct:=N,bk:=D.nx } σ H1 else D.nx σ H1
theorem gs {c:Expr} {body:List Stmt} {tc:TT} {tb:TS} (hp:PassesOwn (model X.prog X.w) X.A X.env X.xe) (hc:PT X c tc) (hb:PSs X body tb):PS X (.While c body [] pos) (tWhile tc tb):=by
 intro pins s σ H D I h
 obtain ⟨W,⟨m0,w0⟩,turn⟩:=h
 refine wpAny_While (codeAny_whileLoop (fun n s'=>∃ σ' H',Inv X pins σ' H' s'∧W n σ' H') ?_ m0 ⟨σ,H,I,w0⟩)
 intro n s1 zq; refine oq22 zq fun σ1 H1 I1 w1=>?_
 refine wpAny_passesOwn hp (thn (hc pins s1 σ1 H1 _ I1 (turn n σ1 H1 w1)) fun b s2 zq=>oq12 zq fun H2 I2 q2=>?_)
 cases b with
 | true =>
  refine oq12 q2 fun N hN q2=>?_
  rw [if_pos rfl]
  refine wpAny_passesOwn hp (thn (hb pins s2 σ1 H2 _ I2 q2) fun f s3 q3=>?_)
  cases f with
  | next =>
   refine oq22 q3 fun σ3 H3 I3 n3=>?_
   refine oq12 (hN σ3 H3 n3) fun m' hm w3=>?_
   exact ⟨m',hm,σ3,H3,I3,w3⟩
  | cont =>
   refine oq22 q3 fun σ3 H3 I3 n3=>?_
   refine oq12 (hN σ3 H3 n3) fun m' hm w3=>?_
   exact ⟨m',hm,σ3,H3,I3,w3⟩
  | brk=>exact q3
  | ret v=>exact q3
 | false =>
  rw [if_neg Bool.false_ne_true]
  exact wpAny_execs_nil ⟨σ1,H2,I2,q2⟩
end
structure It where
 go:Nat→Hp→Prop
 yld:Nat→Hp→V→Hp→Prop
 stop:Nat→Hp→Prop
noncomputable def FpOk (X:Cx) (pins:List (Addr × Obj)) (H:Hp) (b:Addr):Prop :=
 H b=none∧b≠X.env.locals∧b ∉ X.fs∧(b∈X.ex∨X.s₀.heap.objs.size≤b)∧(∀ x c,X.env.cells.lookup x=some c→c≠b)∧∀ p∈X.pn++pins,p.1≠b
theorem Inv.fpOk {X:Cx} {pins:List (Addr × Obj)} {σ:St} {H H':Hp} {s:Shared} {b:Addr} (I:Inv X pins σ H s) (hb:s.heap.objs.size≤b) (hn:H' b=none):FpOk X pins H' b:=by
 refine ⟨hn,Nat.ne_of_gt (nz1 I.lt hb),I.nofs hb,.inr (nz4 I.sz hb),fun x c e z=>?_,fun p hp z=>?_⟩
 ·refine oq11 (I.cell x c e) fun v q=>?_
  exact absurd (nz1 q.lt (by rw [z]; exact hb)) (Nat.lt_irrefl _)
 ·exact absurd (nz1 (Heap.lt_size (I.pin p hp).1) (by rw [z]; exact hb)) (Nat.lt_irrefl _)
structure Turn (P:Program) (w:World) (K:PySem.W.Frag) (tg:Expr) (J:It) (fp:List Addr) (it:Addr) (tn:Nat→Heap→Prop):Prop where
 mem:it∈fp
 obj:∀ i h,tn i h→∀ b∈fp,∃ o,h.get? b=some o∧∀ v,o.data≠.cell v
 keep:∀ i h h',tn i h→(∀ b∈fp,∀ o,h.get? b=some o→h'.get? b=some o)→tn i h'
 item:∀ (X:Cx),X.prog=P→X.w=w→X.K=K→X.calm=true→∀ (i:Nat) (pins:List (Addr × Obj)) (s:Shared) (σ:St) (H:Hp) (E:Value→Shared→Prop),Inv X pins σ H s→(∀ b∈fp,FpOk X pins H b)→tn i s.heap→J.go i H →
  wpAny (model P w) X.A (pyNext (.ref it)) (fun r s1=>∃ u,r=some u ∧
   wpAny (model P w) X.A (letOwnedTupleGo tg (.ref it) u) (fun _ s2=>∃ x H',Inv X pins σ H' s2∧RelV x u∧J.yld i H x H'∧tn (i+1) s2.heap∧∀ b∈fp,H' b=none) E s1) E s
 done:∀ (X:Cx),X.prog=P→X.w=w→X.K=K→X.calm=true→∀ (i:Nat) (pins:List (Addr × Obj)) (s:Shared) (σ:St) (H:Hp) (E:Value→Shared→Prop),Inv X pins σ H s→(∀ b∈fp,FpOk X pins H b)→tn i s.heap→J.stop i H →
  wpAny (model P w) X.A (pyNext (.ref it)) (fun r s1=>r=none∧Inv X pins σ H s1) E s
 self:∀ (A:Around) (i:Nat) (s:Shared) (Q:Value→Shared→Prop) (E:Value→Shared→Prop),tn i s.heap→Q (.ref it) s→wpAny (model P w) A (pyIter (.ref it)) Q E s
noncomputable abbrev TI:=St→Hp→(It→Hp→Prop)→Prop
noncomputable def PIE (X:Cx) (pins:List (Addr × Obj)) (σ:St) (tg:Expr) (R:It→Hp→Prop) (itv:Value) (s2:Shared):Prop :=
 ∃ (it:Addr) (fp:List Addr) (tn:Nat→Heap→Prop) (J:It) (H':Hp),itv=.ref it∧Inv X pins σ H' s2∧Turn X.prog X.w X.K tg J fp it tn∧tn 0 s2.heap∧(∀ b∈fp,FpOk X pins H' b)∧R J H'
noncomputable def PI (X:Cx) (tg iter:Expr) (wi:TI):Prop :=
 ∀ (pins:List (Addr × Obj)) (s:Shared) (σ:St) (H:Hp) (R:It→Hp→Prop),Inv X pins σ H s→wi σ H R →
  wpAny (model X.prog X.w) X.A (eval iter X.env) (fun v s1=>wpAny (model X.prog X.w) X.A (pyIter v) (PIE X pins σ tg R) X.xe s1) X.xe s
theorem go_of {M:Model} {A:Around} {E:Value→Shared→Prop} {s:Shared} {tg:Expr} {it:Addr} {u:Value} {o:Obj} {n:String} {vs:Array Value} {Q:Unit→Shared→Prop} (ho:s.heap.get? it=some o) (hc:o.cls=.type n) (hd:o.data=.fields vs)
    (hn:["enumerate","zip","dict_itemiterator","dict_reverseitemiterator","odict_iterator","itertools.zip_longest","itertools.pairwise"].contains n=false) (hQ:Q () s):wpAny M A (letOwnedTupleGo tg (.ref it) u) Q E s:=by
  unfold letOwnedTupleGo
  cases tg <;> first
    | exact wpAny_pure hQ
    | (cases u <;> first
        | exact wpAny_pure hQ
        | (refine wpAny_bind (wpAny_load ho ?_)
           rw [hc,hd]
           show wpAny M A (if (["enumerate","zip","dict_itemiterator","dict_reverseitemiterator","odict_iterator","itertools.zip_longest","itertools.pairwise"].contains n && vs[0]? == some (rawInt _))=true then _ else _) Q E s
           rw [if_neg (by intro h; rw [hn,Bool.false_and] at h; cases h)]
           exact wpAny_pure hQ))
noncomputable def Itl (K:PySem.W.Frag) (a:Addr):It :=
 ⟨fun i H=>∃ xs x,SqL K H a xs∧xs[i]?=some x,fun i H x H'=>H'=H∧∀ xs,SqL K H a xs→xs[i]?=some x,fun i H=>∃ xs,SqL K H a xs∧xs.length≤i⟩
noncomputable def Itr (lo:Int) (n:Nat):It:=⟨fun i _=>i<n,fun i H x H'=>H'=H∧x=.int (lo+i),fun i _=>n≤i⟩
theorem turn_list {P:Program} {w:World} {K:PySem.W.Frag} {tg:Expr} (a it:Addr):Turn P w K tg (Itl K a) [it] it (fun i h=>h.IsListIter it a i) where
 mem:=by simp
 obj:=fun i h st b hb=>by
  have e:b=it:=by simpa using hb
  subst e
  refine oq13 st fun o e c d=>?_
  exact ⟨o,e,fun v z=>by rw [d] at z; cases z⟩
 keep:=fun i h h' st k=>st.at fun o e=>k it (by simp) o e
 item:=by
  intro X hP hw hK hc i pins s σ H E I hf st hg
  subst hP hw hK
  refine oq22 hg fun xs x hq hx=>?_
  refine oq13 (I.list hq) fun its rv p hz=>?_
  refine oq12 (rv.get hx) fun u hu ru=>?_
  refine oq06 (hf it (by simp)) fun f0 f1 f2 f3 f4 f5=>?_
  refine wpAny_pyNext_list_item st p.isList (x:=u) (by simpa using hu) fun h' st' sb=>?_
  have I1:Inv X pins σ H { s with heap:=h' }:=I.turned (t':=s.toks) (fun b o hb e=>(sb.2 b hb).trans e) f0 f1 f3 f4 f5
  refine oq13 (id st') fun o e c d=>?_
  exact ⟨u,rfl,go_of (s:={ s with heap:=h' }) e c d (by decide) ⟨x,H,I1,ru,⟨rfl,fun ys hy=>by rw [I.list_inj hy hq]; exact hx⟩,st',fun b hb=>(hf b hb).1⟩⟩
 done:=by
  intro X hP hw hK hc i pins s σ H E I hf st hg
  subst hP hw hK
  refine oq12 hg fun xs hq hx=>?_
  refine oq13 (I.list hq) fun its rv p hz=>?_
  refine oq06 (hf it (by simp)) fun f0 f1 f2 f3 f4 f5=>?_
  have hl:=rv.length
  exact wpAny_pyNext_list_end (I.ok.hd hc) st p.isList (by simp; omega) fun h' eb=>⟨rfl,I.turned (t':=s.toks) (fun b o hb e=>eb b o hb e) f0 f1 f3 f4 f5⟩
 self:=fun _ _ _ _ _ st h=>wpAny_pyIter_listiter st h
theorem nK {P:Program} {w:World} {K:PySem.W.Frag} {tg:Expr} (it:Addr) (lo:Int) (n:Nat):Turn P w K tg (Itr lo n) [it] it (fun i h=>IsRangeIter h it (lo+(i:Nat) * 1) ((n:Int) - (i:Nat)) 1) where
 mem:=by simp
 obj:=fun i h st b hb=>by
  have e:b=it:=by simpa using hb
  subst e
  exact ⟨_,st,fun v z=>by
   have z':Data.fields _=Data.cell v:=z
   cases z'⟩
 keep:=fun i h h' st k=>k it (by simp) _ st
 item:=by
  intro X hP hw hK hc i pins s σ H E I hf st hg
  subst hP hw hK
  refine oq06 (hf it (by simp)) fun f0 f1 f2 f3 f4 f5=>?_
  have W:=Walks.range (prog:=X.prog) (w:=X.w) (I.ok.hd hc) it lo 1 n
  refine W.item i s _ _ hg st fun v h' tk hv st' kk=>?_
  refine oq11 hv fun t eq1_=>?_; subst eq1_
  have I1:Inv X pins σ H { s with heap:=h',toks:=tk }:=I.turned (fun b o hb e=>kk b o (by simpa using hb) e) f0 f1 f3 f4 f5
  refine ⟨_,rfl,go_of (s:={ s with heap:=h',toks:=tk }) (n:="range_iterator") st' rfl rfl (by decide) ⟨.int (lo+i),H,I1,⟨t,?_⟩,⟨rfl,rfl⟩,st',fun b hb=>(hf b hb).1⟩⟩
  rw [Int.mul_one]
 done:=by
  intro X hP hw hK hc i pins s σ H E I hf st hg
  subst hP hw hK
  refine oq06 (hf it (by simp)) fun f0 f1 f2 f3 f4 f5=>?_
  exact wpAny_pyNext_range_end (I.ok.hd hc) st (by have:n≤i:=hg; omega) fun h' eb=>⟨rfl,I.turned (t':=s.toks) (fun b o hb e=>eb b o hb e) f0 f1 f3 f4 f5⟩
 self:=fun _ _ _ _ _ st h=>wpAny_pyIter_rangeiter st h
end L2
namespace L2
open PySem PySem.Spec PyProof.Rows
section
variable {X:Cx} {tg:Expr}
noncomputable def iList (K:PySem.W.Frag) (tl:TE):TI:=fun σ H R=>tl σ H fun x H1=>∃ a,x=.ref a∧(∃ xs,SqL K H1 a xs)∧R (Itl K a) H1
theorem pi_list {l:Expr} {tl:TE} (hl:PE X l tl):PI X tg l (iList X.K tl):=by
 intro pins s σ H R I h
 refine thn (hl pins s σ H _ I h) fun v s1 zq=>oq23 zq fun x H1 I1 r1 q1=>?_
 obtain ⟨a,e,⟨xs,hq⟩,q⟩:=q1
 subst e
 cases r1
 refine oq13 (I1.list hq) fun its rv p hz=>?_
 refine wpAny_pyIter_list p.isList ?_
 refine ⟨s1.heap.objs.size,[s1.heap.objs.size],_,_,H1,rfl,I1.kept (t':=s1.toks) fun b o e=>Heap.get?_push_of_some _ e,turn_list a _,⟨_,Heap.get?_push_size _ rfl,rfl,rfl⟩,fun b hb=>?_,q⟩
 have e:b=s1.heap.objs.size:=by simpa using hb
 subst e
 exact I1.fpOk (nz6 _) (I1.hok.fresh (nz6 _))
theorem mq {pins:List (Addr × Obj)} {σ:St} {H:Hp} {s:Shared} {R:It→Hp→Prop} {E:Value→Shared→Prop} {lo hi:Int} {t u v:Tok} {tk:Nat} (I:Inv X pins σ H s) (h1:-(2 ^ 62)≤lo) (h2:lo<2 ^ 62) (h3:-(2 ^ 62)≤hi) (h4:hi<2 ^ 62)
  (q:R (Itr lo (hi - lo).toNat) H):wpAny (model X.prog X.w) X.A (pyIter (.ref s.heap.objs.size)) (PIE X pins σ tg R) E { s with heap:=s.heap.push { cls:=.type "range",data:=.fields #[.int lo t,.int hi u,.int 1 v] },toks:=tk }:=by
 refine wpAny_pyIter_range (IsRange.new ..) (small_one h1 h2 h3 h4) ?_
 have I1:Inv X pins σ H { s with heap:=s.heap.push { cls:=.type "range",data:=.fields #[.int lo t,.int hi u,.int 1 v] },toks:=tk }:=I.kept fun b o e=>Heap.get?_push_of_some _ e
 refine ⟨(s.heap.push { cls:=.type "range",data:=.fields #[.int lo t,.int hi u,.int 1 v] }).objs.size,[(s.heap.push { cls:=.type "range",data:=.fields #[.int lo t,.int hi u,.int 1 v] }).objs.size],_,_,H,rfl,
  I1.kept (t':=tk) fun b o e=>Heap.get?_push_of_some _ e,nK _ lo (hi - lo).toNat,?_,fun b hb=>?_,q⟩
 ·have e1:lo+((0:Nat):Int) * 1=lo:=by simp
  have e2:(((hi - lo).toNat:Nat):Int) - ((0:Nat):Int)=Builtin.Range.rangeSize lo hi 1:=by rw [rangeSize_one]; split <;> omega
  show IsRangeIter _ _ (lo+((0:Nat):Int) * 1) ((((hi - lo).toNat:Nat):Int) - ((0:Nat):Int)) 1
  rw [e1,e2]
  exact Heap.get?_push_size _ rfl
 ·have e:b=(s.heap.push { cls:=.type "range",data:=.fields #[.int lo t,.int hi u,.int 1 v] }).objs.size:=by simpa using hb
  subst e
  exact I1.fpOk (nz6 _) (I1.hok.fresh (nz6 _))
noncomputable def iRng1 (ta:TA):TI:=fun σ H R=>ta σ H fun vs H1=>∃ j:Int,vs=[.int j]∧-(2 ^ 62)≤j∧j<2 ^ 62∧R (Itr 0 j.toNat) H1
noncomputable def iRng2 (ta:TA):TI:=fun σ H R=>ta σ H fun vs H1=>∃ i j:Int,vs=[.int i,.int j]∧(-(2 ^ 62)≤i∧i<2 ^ 62∧-(2 ^ 62)≤j∧j<2 ^ 62)∧R (Itr i (j - i).toNat) H1
theorem pi_range1 {a:Expr} {ta:TA} {p pos:Pos} (hg:Gl X "range") (hm:X.mg "range"=none) (ha:PA X [a] ta) (hs:starEach [a] X.env=[(false,eval a X.env)]:=by rfl):PI X tg (.Call (.Name "range" p) [a] [] pos) (iRng1 ta):=by
 intro pins s σ H R I h
 refine Call_ (dJ I hg hm boot_range (PyProof.Rows.callWith_type1 (thn (ha pos pins s σ H _ I h) fun us s1 ⟨vs,H1,I1,r1,q1⟩=>?_) hs rfl))
 obtain ⟨j,e,q1,q2,q⟩:=q1
 subst e
 cases r1 with
 | cons r rr =>
  cases rr
  obtain ⟨t,rfl⟩:=r
  exact call_range_1 (mq I1 (by omega) (by omega) q1 q2 (by simpa using q))
theorem fD {a b:Expr} {ta:TA} {p pos:Pos} (hg:Gl X "range") (hm:X.mg "range"=none) (ha:PA X [a,b] ta) (hs:starEach [a,b] X.env=[(false,eval a X.env),(false,eval b X.env)]:=by rfl) (hs2:starEach [b] X.env=[(false,eval b X.env)]:=by rfl) :
  PI X tg (.Call (.Name "range" p) [a,b] [] pos) (iRng2 ta):=by
 intro pins s σ H R I h
 refine Call_ (dJ I hg hm boot_range (PyProof.Rows.callWith_type1 (thn (ha pos pins s σ H _ I h) fun us s1 zq=>oq23 zq fun vs H1 I1 r1 q1=>?_) (by rw [hs,hs2]) (by rw [hs2]; rfl)))
 obtain ⟨i,j,e,⟨q1,q2,q3,q4⟩,q⟩:=q1
 subst e
 cases r1 with
 | cons r rr =>
  cases rr with
  | cons r' rr =>
   cases rr
   refine oq11 r fun t eq1_=>?_; subst eq1_
   refine oq11 r' fun t' eq1_=>?_; subst eq1_
   exact call_range_2 (mq I1 q1 q2 q3 q4 q)
noncomputable def tFor (wi:TI) (g:TG) (tb:TS):TS:=fun D σ H=>wi σ H fun J H1=>∃ W:Nat→Nat→St→Hp→Prop,(∃ m,W 0 m σ H1)∧∀ i m σ H,W i m σ H →
 (J.stop i H∧D.nx σ H)∨(J.go i H∧∃ N:St→Hp→Prop,(∀ σ' H',N σ' H'→∃ m',m'<m∧W (i+1) m' σ' H')∧∀ x H',J.yld i H x H'→g x σ H' fun σ2 H2=>tb { D with nx:=N,ct:=N,bk:=D.nx } σ2 H2)
noncomputable def j1 (fp:List Addr) (h:Heap):List (Addr × Obj):=fp.filterMap fun b=>(h.get? b).map fun o=>(b,o)
theorem eC {fp:List Addr} {h:Heap} {b:Addr} {o:Obj} (hb:b∈fp) (e:h.get? b=some o):(b,o)∈j1 fp h:=List.mem_filterMap.mpr ⟨b,hb,by rw [e]; rfl⟩
theorem of_pinsAt {fp:List Addr} {h:Heap} {p:Addr × Obj} (hp:p∈j1 fp h):p.1∈fp∧h.get? p.1=some p.2:=by
 refine oq12 (List.mem_filterMap.mp hp) fun b hb e=>?_
 cases q:h.get? b with
 | none=>rw [q] at e; cases e
 | some o =>
  rw [q] at e
  have e':(b,o)=p:=Option.some.inj e
  subst e'
  exact ⟨hb,q⟩
theorem Inv.pinned {pins:List (Addr × Obj)} {σ:St} {H:Hp} {s:Shared} {fp:List Addr} (I:Inv X pins σ H s) (hf:∀ b∈fp,FpOk X pins H b) (ho:∀ b∈fp,∃ o,s.heap.get? b=some o∧∀ v,o.data≠.cell v):Inv X (pins++j1 fp s.heap) σ H s :=
 I.pins_of fun p hp=>(List.mem_append.mp hp).elim (fun z=>I.pin p (List.mem_append_right _ z)) fun z=>by
  refine oq02 (of_pinsAt z) fun hb e=>?_
  refine oq04 (hf p.1 hb) fun f0 f1 f2 _=>?_
  refine oq12 (ho p.1 hb) fun o e' d=>?_
  rw [e] at e'; cases e'
  exact ⟨e,f0,f1,f2,d⟩
theorem Inv.unpinned {pins pl:List (Addr × Obj)} {σ:St} {H:Hp} {s:Shared} (I:Inv X (pins++pl) σ H s):Inv X pins σ H s:=I.pins_of fun p hp=>I.pin p (List.mem_append_right _ (List.mem_append_left _ hp))
theorem cn {iter:Expr} {body:List Stmt} {wi:TI} {g:TG} {tb:TS} {pos:Pos} (hp:PassesOwn (model X.prog X.w) X.A X.env X.xe) (hc:X.calm=true) (hi:PI X tg iter wi) (hg:PG X tg g) (hb:PSs X body tb)
  (hs:∀ x,foldedSetIterable iter X.env x=pure x:=by intro _; rfl):PS X (.For tg iter body [] pos) (tFor wi g tb):=by
 intro pins s σ H D I h
 refine wpAny_For (thn (hi pins s σ H _ I h) fun v s1 h1=>thn h1 fun itv s2 h2=>?_) hs
 obtain ⟨it,fp,tn,J,H2,e,I2,T,st2,f2,W,⟨m0,w0⟩,turn⟩:=h2
 subst e
 have stat:∀ {H':Hp},(∀ b∈fp,H' b=none)→∀ b∈fp,FpOk X pins H' b:=fun hn b hb=>⟨hn b hb,(f2 b hb).2⟩
 refine codeAny_forLoop_any (fun n s'=>∃ i σ' H',Inv X pins σ' H' s'∧tn i s'.heap∧(∀ b∈fp,H' b=none)∧W i n σ' H') ?_ m0 ⟨0,σ,H2,I2,st2,fun b hb=>(f2 b hb).1,w0⟩
 intro n s3 zq; refine oq34 zq fun i σ3 H3 I3 st3 fr3 w3=>?_
 rcases turn i n σ3 H3 w3 with ⟨stop,qn⟩ | ⟨go,N,hN,step⟩
 ·refine wpAny_passesOwn hp (thn (T.done X rfl rfl rfl hc i pins s3 σ3 H3 X.xe I3 (stat fr3) st3 stop) fun r s4 zq=>oq02 zq fun hr I4=>?_)
  subst hr
  exact wpAny_execs_nil ⟨σ3,H3,I4,qn⟩
 ·refine wpAny_passesOwn hp (thn (T.item X rfl rfl rfl hc i pins s3 σ3 H3 X.xe I3 (stat fr3) st3 go) fun r s4 zq=>oq12 zq fun u hr h4=>?_)
  subst hr
  refine wpAny_passesOwn hp (thn h4 fun _ s5 zq=>oq25 zq fun x H5 I5 r5 y5 st5 fr5=>?_)
  have I5':=I5.pinned (stat fr5) (T.obj _ _ st5)
  refine wpAny_passesOwn hp (thn (hg _ s5 σ3 H5 x u _ I5' r5 (step x H5 y5)) fun _ s6 zq=>oq22 zq fun σ6 H6 I6 q6=>?_)
  refine wpAny_passesOwn hp (thn (hb _ s6 σ6 H6 _ I6 q6) fun f s7 q7=>?_)
  have again:∀ {σ7:St} {H7:Hp},Inv X (pins++j1 fp s5.heap) σ7 H7 s7→N σ7 H7→∃ m,m<n∧∃ i σ' H',Inv X pins σ' H' s7∧tn i s7.heap∧(∀ b∈fp,H' b=none)∧W i m σ' H':=fun {σ7 H7} I7 n7=>by
   refine oq12 (hN σ7 H7 n7) fun m' hm w7=>?_
   refine ⟨m',hm,i+1,σ7,H7,I7.unpinned,T.keep _ _ _ st5 fun b hb o e=>(I7.pin (b,o) (List.mem_append_right _ (List.mem_append_right _ (eC hb e)))).1,fun b hb=>?_,w7⟩
   refine oq12 (T.obj _ _ st5 b hb) fun o e d=>?_
   exact (I7.pin (b,o) (List.mem_append_right _ (List.mem_append_right _ (eC hb e)))).2.1
  cases f with
  | next=>refine oq22 q7 fun σ7 H7 I7 n7=>?_; exact again I7 n7
  | cont=>refine oq22 q7 fun σ7 H7 I7 n7=>?_; exact again I7 n7
  | brk=>refine oq22 q7 fun σ7 H7 I7 q7=>?_; exact ⟨σ7,H7,I7.unpinned,q7⟩
  | ret v=>refine oq33 q7 fun x7 σ7 H7 I7 r7 q7=>?_; exact ⟨x7,σ7,H7,I7.unpinned,r7,q7⟩
end
end L2
namespace L2
open PySem PySem.Spec PyProof.Rows
noncomputable abbrev R2:=V→V→Hp→VK→Prop
noncomputable def OpR (X:Cx) (f:Value→Value→Sem Value) (r:R2):Prop :=
 ∀ (pins:List (Addr × Obj)) (s:Shared) (σ:St) (H:Hp) (x y:V) (v u:Value) (Q:VK),Inv X pins σ H s→RelV x v→RelV y u→r x y H Q →
  wpAny (model X.prog X.w) X.A (f v u) (EP X pins σ Q) X.xe s
noncomputable def UnR (X:Cx) (f:Value→Sem Value) (r:V→Hp→VK→Prop):Prop :=
 ∀ (pins:List (Addr × Obj)) (s:Shared) (σ:St) (H:Hp) (x:V) (v:Value) (Q:VK),Inv X pins σ H s→RelV x v→r x H Q →
  wpAny (model X.prog X.w) X.A (f v) (EP X pins σ Q) X.xe s
noncomputable def cA (X:Cx) (f:Value) (r:List V→Hp→VK→Prop):Prop :=
 ∀ (pins:List (Addr × Obj)) (s:Shared) (σ:St) (H:Hp) (xs:List V) (us:List Value) (Q:VK),Inv X pins σ H s→Vals xs us→r xs H Q →
  wpAny (model X.prog X.w) X.A (call f us) (EP X pins σ Q) X.xe s
noncomputable def TruR (X:Cx) (r:V→Hp→(Bool→Hp→Prop)→Prop):Prop :=
 ∀ (pins:List (Addr × Obj)) (s:Shared) (σ:St) (H:Hp) (x:V) (v:Value) (Q:Bool→Hp→Prop),Inv X pins σ H s→RelV x v→r x H Q →
  wpAny (model X.prog X.w) X.A (truthy v) (TP X pins σ Q) X.xe s
noncomputable def tOp (r:R2) (ta tb:TE):TE:=fun σ H Q=>ta σ H fun x H1=>tb σ H1 fun y H2=>r x y H2 Q
noncomputable def tUn (r:V→Hp→VK→Prop) (ta:TE):TE:=fun σ H Q=>ta σ H fun x H1=>r x H1 Q
noncomputable def rI (C:Int→Int→Prop) (g:Int→Int→V):R2:=fun x y H Q=>∃ i j,x=.int i∧y=.int j∧C i j∧Q (g i j) H
noncomputable def rI0 (g:Int→Int→V):R2:=fun x y H Q=>∃ i j,x=.int i∧y=.int j∧Q (g i j) H
noncomputable def rU (g:Int→V):V→Hp→VK→Prop:=fun x H Q=>∃ i,x=.int i∧Q (g i) H
section
variable {X:Cx} {a b c:Expr} {ta tb tc:TE} {pos:Pos}
theorem binT (ha:PE X a ta) (hb:PE X b tb) {pins:List (Addr × Obj)} {s:Shared} {σ:St} {H:Hp} {R:V→V→Hp→Prop} (I:Inv X pins σ H s)
  (h:ta σ H fun x H1=>tb σ H1 fun y H2=>R x y H2) {Q:Value→Shared→Prop} {f:Value→Value→Sem Value}
  (hf:∀ v u s2 x y H2,Inv X pins σ H2 s2→RelV x v→RelV y u→R x y H2→wpAny (model X.prog X.w) X.A (f v u) Q X.xe s2) :
  wpAny (model X.prog X.w) X.A (eval a X.env) (fun v s₁=>wpAny (model X.prog X.w) X.A (eval b X.env) (fun u s₂=>wpAny (model X.prog X.w) X.A (f v u) Q X.xe s₂) X.xe s₁) X.xe s:=by
 refine thn (ha pins s σ H _ I h) fun v s1 zq=>oq23 zq fun x H1 I1 r1 q1=>?_
 refine thn (hb pins s1 σ H1 _ I1 q1) fun u s2 zq=>oq23 zq fun y H2 I2 r2 q2=>?_
 exact hf v u s2 x y H2 I2 r1 r2 q2
theorem aw {op:Operator} {r:R2} (ho:OpR X (binaryOp op) r) (ha:PE X a ta) (hb:PE X b tb):PE X (.BinOp a op b pos) (tOp r ta tb):=by
 intro pins s σ H Q I h
 exact wpAny_BinOp (binT ha hb I h fun v u s2 x y H2 I2 rx ry q=>ho pins s2 σ H2 x y v u Q I2 rx ry q)
theorem mr {op:UnaryOp} {r:V→Hp→VK→Prop} (ho:UnR X (unaryOp op) r) (ha:PE X a ta):PE X (.UnaryOp op a pos) (tUn r ta):=by
 intro pins s σ H Q I h
 exact UnaryOp_ (thn (ha pins s σ H _ I h) fun v s1 zq=>oq23 zq fun x H1 I1 r1 q1=>ho pins s1 σ H1 x v Q I1 r1 q1)
theorem opI {f:Value→Value→Sem Value} {C:Int→Int→Prop} {g:Int→Int→Int}
  (rule:∀ (i j:Int) (t u:Tok) (s:Shared) (Q:Value→Shared→Prop) (E:Value→Shared→Prop),C i j→Q (.int (g i j) s.toks) { s with toks:=s.toks+1 }→wpAny (model X.prog X.w) X.A (f (.int i t) (.int j u)) Q E s) :
  OpR X f (rI C fun i j=>.int (g i j)):=by
 intro pins s σ H x y v u Q I rx ry h
 refine oq24 h fun i j eq2_ eq3_ hc q=>?_; subst eq2_; subst eq3_
 refine oq11 rx fun t eq1_=>?_; subst eq1_
 refine oq11 ry fun t' eq1_=>?_; subst eq1_
 exact rule i j t t' s _ _ hc ⟨.int (g i j),H,I.tok _,⟨_,rfl⟩,q⟩
theorem opI0 {f:Value→Value→Sem Value} {g:Int→Int→Int}
  (rule:∀ (i j:Int) (t u:Tok) (s:Shared) (Q:Value→Shared→Prop) (E:Value→Shared→Prop),Q (.int (g i j) s.toks) { s with toks:=s.toks+1 }→wpAny (model X.prog X.w) X.A (f (.int i t) (.int j u)) Q E s) :
  OpR X f (rI0 fun i j=>.int (g i j)):=by
 intro pins s σ H x y v u Q I rx ry h
 refine oq23 h fun i j eq2_ eq3_ q=>?_; subst eq2_; subst eq3_
 refine oq11 rx fun t eq1_=>?_; subst eq1_
 refine oq11 ry fun t' eq1_=>?_; subst eq1_
 exact rule i j t t' s _ _ ⟨.int (g i j),H,I.tok _,⟨_,rfl⟩,q⟩
theorem opB0 {f:Value→Value→Sem Value} {g:Int→Int→Bool}
  (rule:∀ (i j:Int) (t u:Tok) (s:Shared) (Q:Value→Shared→Prop) (E:Value→Shared→Prop),Q (.bool (g i j)) s→wpAny (model X.prog X.w) X.A (f (.int i t) (.int j u)) Q E s) :
  OpR X f (rI0 fun i j=>.bl (g i j)):=by
 intro pins s σ H x y v u Q I rx ry h
 refine oq23 h fun i j eq2_ eq3_ q=>?_; subst eq2_; subst eq3_
 refine oq11 rx fun t eq1_=>?_; subst eq1_
 refine oq11 ry fun t' eq1_=>?_; subst eq1_
 exact rule i j t t' s _ _ ⟨.bl (g i j),H,I,rfl,q⟩
noncomputable def CPow (i j:Int):Prop:=0≤j∧j≤1000000∧i.natAbs<2 ^ 64
noncomputable def CMul (i j:Int):Prop:=(-(2 ^ 64)<i∧i<2 ^ 64)∨(-(2 ^ 64)<j∧j<2 ^ 64)
theorem CMul.ok {i j:Int} (h:CMul i j):IntMulOk i j:=by
 rcases h with ⟨h1,h2⟩ | ⟨h1,h2⟩
 ·exact .of_left (intBits_le_64 h1 h2)
 ·exact .of_right (intBits_le_64 h1 h2)
theorem bW:OpR X (binaryOp .Add) (rI0 fun i j=>.int (i+j)):=opI0 fun _ _ _ _ _ _ _ q=>add_int q
theorem dM:OpR X (binaryOp .Sub) (rI0 fun i j=>.int (i - j)):=opI0 fun _ _ _ _ _ _ _ q=>sub_int q
theorem gb:OpR X (binaryOp .Mult) (rI CMul fun i j=>.int (i * j)):=opI fun _ _ _ _ _ _ _ hc q=>mul_int q hc.ok
theorem bS:OpR X (binaryOp .Mod) (rI (fun _ j=>0<j) fun i j=>.int (i % j)):=opI fun i j _ _ _ _ _ hc q=>by
 have h1:(0:Int)<j:=hc
 exact mod_int' (by omega) (by rw [Int.fmod_eq_emod_of_nonneg i (by omega)]; exact q)
theorem kY:OpR X (binaryOp .Pow) (rI CPow fun i j=>.int (i ^ j.toNat)):=opI fun _ _ _ _ _ _ _ hc q=>pow_int_small hc.1 hc.2.1 hc.2.2 q
theorem unI {f:Value→Sem Value} {g:Int→Int}
  (rule:∀ (i:Int) (t:Tok) (s:Shared) (Q:Value→Shared→Prop) (E:Value→Shared→Prop),Q (.int (g i) s.toks) { s with toks:=s.toks+1 }→wpAny (model X.prog X.w) X.A (f (.int i t)) Q E s) :
  UnR X f (rU fun i=>.int (g i)):=by
 intro pins s σ H x v Q I rx h
 refine oq12 h fun i eq1_ q=>?_; subst eq1_
 refine oq11 rx fun t eq1_=>?_; subst eq1_
 exact rule i t s _ _ ⟨.int (g i),H,I.tok _,⟨_,rfl⟩,q⟩
theorem j2:UnR X (unaryOp .USub) (rU fun i=>.int (-i)):=unI fun _ _ _ _ _ q=>neg_int q
end
noncomputable def scal:V→V→Bool
 | .non,.non=>true | .non,.int _=>true | .int _,.non=>true | .non,.bl _=>true | .bl _,.non=>true | .non,.str _=>true | .str _,.non=>true
 | .int _,.int _=>true | .bl _,.bl _=>true | .str _,.str _=>true | .byt _,.byt _=>true
 | .int _,.str _=>true | .str _,.int _=>true | .bl _,.str _=>true | .str _,.bl _=>true
 | _,_=>false
noncomputable def rEq:R2:=fun x y H Q=>scal x y=true∧Q (.bl (decide (x=y))) H
noncomputable def rNe:R2:=fun x y H Q=>scal x y=true∧Q (.bl (!decide (x=y))) H
theorem dec_int {i j:Int}:decide (V.int i=V.int j)=(i == j):=by
 rw [Bool.eq_iff_iff]
 simp
theorem dec_bl {i j:Bool}:decide (V.bl i=V.bl j)=(i == j):=by
 rw [Bool.eq_iff_iff]
 simp
theorem dec_str {i j:Str}:decide (V.str i=V.str j)=(i == j):=by
 rw [Bool.eq_iff_iff]
 simp
theorem dec_byt {i j:Array UInt8}:decide (V.byt i=V.byt j)=(i.toList == j.toList):=by
 rw [Bool.eq_iff_iff]
 cases i
 cases j
 simp
section
variable {X:Cx} {a b c:Expr} {ta tb tc:TE} {pos:Pos}
theorem aQ {pins:List (Addr × Obj)} {σ:St} {H:Hp} {s:Shared} {Q:VK} {k k':Bool} (I:Inv X pins σ H s) (q:Q (.bl k) H) (e:k=k'):EP X pins σ Q (.bool k') s:=by
 subst e
 exact ⟨.bl k,H,I,rfl,q⟩
theorem eP:OpR X (compareOp .Eq) rEq:=by
 intro pins s σ H x y v u Q I rx ry h
 refine oq02 h fun hs q=>?_
 cases x with
 | non =>
  cases rx
  cases y with
  | non=>cases ry; exact PySem.EqNone.eq_none_none (aQ I q (by simp))
  | bl j=>cases ry; exact PySem.EqNone.eq_none_bool (aQ I q (by simp))
  | int j=>refine oq11 ry fun t' eq1_=>?_; subst eq1_; exact PySem.EqNone.eq_none_int (aQ I q (by simp))
  | str j=>refine oq11 ry fun t' eq1_=>?_; subst eq1_; exact PySem.EqNone.eq_none_str (aQ I q (by simp))
  | _=>exact absurd (show false=true from hs) Bool.false_ne_true
 | bl i =>
  cases rx
  cases y with
  | non=>cases ry; exact PySem.EqNone.eq_bool_none (aQ I q (by simp))
  | bl j=>cases ry; exact eq_bool (aQ I q dec_bl)
  | str j=>refine oq11 ry fun t' eq1_=>?_; subst eq1_; exact PySem.EqMixed.eq_bool_str (aQ I q (by simp))
  | _=>exact absurd (show false=true from hs) Bool.false_ne_true
 | int i =>
  refine oq11 rx fun t eq1_=>?_; subst eq1_
  cases y with
  | non=>cases ry; exact PySem.EqNone.eq_int_none (aQ I q (by simp))
  | int j=>refine oq11 ry fun t' eq1_=>?_; subst eq1_; exact eq_int (aQ I q dec_int)
  | str j=>refine oq11 ry fun t' eq1_=>?_; subst eq1_; exact PySem.EqMixed.eq_int_str (aQ I q (by simp))
  | _=>exact absurd (show false=true from hs) Bool.false_ne_true
 | str i =>
  refine oq11 rx fun t eq1_=>?_; subst eq1_
  cases y with
  | non=>cases ry; exact PySem.EqNone.eq_str_none (aQ I q (by simp))
  | bl j=>cases ry; exact PySem.EqMixed.eq_str_bool (aQ I q (by simp))
  | int j=>refine oq11 ry fun t' eq1_=>?_; subst eq1_; exact PySem.EqMixed.eq_str_int (aQ I q (by simp))
  | str j=>refine oq11 ry fun t' eq1_=>?_; subst eq1_; exact eq_str (aQ I q dec_str)
  | _=>exact absurd (show false=true from hs) Bool.false_ne_true
 | byt i =>
  refine oq11 rx fun t eq1_=>?_; subst eq1_
  cases y with
  | byt j=>refine oq11 ry fun t' eq1_=>?_; subst eq1_; exact PySem.W.eq_bytes (aQ I q dec_byt)
  | _=>exact absurd (show false=true from hs) Bool.false_ne_true
 | _=>cases y <;> exact absurd (show false=true from hs) Bool.false_ne_true
theorem ip:OpR X (compareOp .NotEq) rNe:=by
 intro pins s σ H x y v u Q I rx ry h
 refine oq02 h fun hs q=>?_
 cases x with
 | non =>
  cases rx
  cases y with
  | non=>cases ry; exact PySem.EqNone.ne_none_none (aQ I q (by simp))
  | bl j=>cases ry; exact PySem.EqNone.ne_none_bool (aQ I q (by simp))
  | int j=>refine oq11 ry fun t' eq1_=>?_; subst eq1_; exact PySem.EqNone.ne_none_int (aQ I q (by simp))
  | str j=>refine oq11 ry fun t' eq1_=>?_; subst eq1_; exact PySem.EqNone.ne_none_str (aQ I q (by simp))
  | _=>exact absurd (show false=true from hs) Bool.false_ne_true
 | bl i =>
  cases rx
  cases y with
  | non=>cases ry; exact PySem.EqNone.ne_bool_none (aQ I q (by simp))
  | bl j=>cases ry; exact ne_bool (aQ I q (congrArg not dec_bl))
  | str j=>refine oq11 ry fun t' eq1_=>?_; subst eq1_; exact PySem.EqMixed.ne_bool_str (aQ I q (by simp))
  | _=>exact absurd (show false=true from hs) Bool.false_ne_true
 | int i =>
  refine oq11 rx fun t eq1_=>?_; subst eq1_
  cases y with
  | non=>cases ry; exact PySem.EqNone.ne_int_none (aQ I q (by simp))
  | int j=>refine oq11 ry fun t' eq1_=>?_; subst eq1_; exact ne_int (aQ I q (congrArg not dec_int))
  | str j=>refine oq11 ry fun t' eq1_=>?_; subst eq1_; exact PySem.EqMixed.ne_int_str (aQ I q (by simp))
  | _=>exact absurd (show false=true from hs) Bool.false_ne_true
 | str i =>
  refine oq11 rx fun t eq1_=>?_; subst eq1_
  cases y with
  | non=>cases ry; exact PySem.EqNone.ne_str_none (aQ I q (by simp))
  | bl j=>cases ry; exact PySem.EqMixed.ne_str_bool (aQ I q (by simp))
  | int j=>refine oq11 ry fun t' eq1_=>?_; subst eq1_; exact PySem.EqMixed.ne_str_int (aQ I q (by simp))
  | str j=>refine oq11 ry fun t' eq1_=>?_; subst eq1_; exact ne_str (aQ I q (congrArg not dec_str))
  | _=>exact absurd (show false=true from hs) Bool.false_ne_true
 | byt i =>
  refine oq11 rx fun t eq1_=>?_; subst eq1_
  cases y with
  | byt j=>refine oq11 ry fun t' eq1_=>?_; subst eq1_; exact PySem.W.ne_bytes (aQ I q (congrArg not dec_byt))
  | _=>exact absurd (show false=true from hs) Bool.false_ne_true
 | _=>cases y <;> exact absurd (show false=true from hs) Bool.false_ne_true
theorem kh:OpR X (compareOp .Lt) (rI0 fun i j=>.bl (decide (i<j))):=opB0 fun _ _ _ _ _ _ _ q=>lt_int q
theorem op_le:OpR X (compareOp .LtE) (rI0 fun i j=>.bl (decide (i≤j))):=opB0 fun _ _ _ _ _ _ _ q=>le_int q
theorem op_ge:OpR X (compareOp .GtE) (rI0 fun i j=>.bl (decide (j≤i))):=opB0 fun _ _ _ _ _ _ _ q=>ge_int q
theorem op_notN:OpR X (compareOp .IsNot) (fun x y H Q=>y=.non∧Q (.bl (!decide (x=.non))) H):=by
 intro pins s σ H x y v u Q I rx ry h
 refine oq02 h fun eq0_ q=>?_; subst eq0_
 cases ry
 refine isnot_none_gen (aQ I q ?_)
 cases x <;> first
  | (cases rx; rfl)
  | (refine oq11 rx fun t eq1_=>?_; subst eq1_; rfl)
theorem aI (b:Expr) {op:CmpOp} (h:op≠.In:=by decide) (h2:op≠.NotIn:=by decide):behindInMarks op b=false:=by
 have e1:(op == CmpOp.In)=false:=by cases op <;> first | rfl | exact absurd rfl h
 have e2:(op == CmpOp.NotIn)=false:=by cases op <;> first | rfl | exact absurd rfl h2
 cases b <;> simp [behindInMarks,e1,e2]
theorem iL {op:CmpOp} {r:R2} (ho:OpR X (compareOp op) r) (ha:PE X a ta) (hb:PE X b tb) (hm:behindInMarks op b=false):PE X (.Compare a [op] [b] pos) (tOp r ta tb):=by
 intro pins s σ H Q I h
 exact wpAny_Compare1 (binT ha hb I h fun v u s2 x y H2 I2 rx ry q=>ho pins s2 σ H2 x y v u Q I2 rx ry q) hm
noncomputable def tTest (t:TE):TT:=fun σ H Q=>t σ H fun x H'=>∃ k,x=.bl k∧Q k H'
theorem ax {op:CmpOp} {r:R2} (ho:OpR X (compareOp op) r) (ha:PE X a ta) (hb:PE X b tb) (hm:behindInMarks op b=false):PT X (.Compare a [op] [b] pos) (tTest (tOp r ta tb)):=by
 intro pins s σ H Q I h
 refine wpAny_isTrue_Compare1 (thn (ha pins s σ H _ I h) fun v s1 zq=>oq23 zq fun x H1 I1 r1 q1=>thn (hb pins s1 σ H1 _ I1 q1) fun u s2 zq=>oq23 zq fun y H2 I2 r2 q2 =>
  thn (ho pins s2 σ H2 x y v u _ I2 r1 r2 q2) fun c s3 zq=>oq23 zq fun z H3 I3 r3 zz=>oq12 zz fun k e q3=>?_) hm
 subst e
 cases r3
 exact wpAny_truthy_bool ⟨H3,I3,q3⟩
noncomputable def kZ (r r':R2) (ta tb tc:TE):TE:=fun σ H Q=>ta σ H fun x H1=>tb σ H1 fun y H2=>r x y H2 fun z H3=>∃ k,z=.bl k ∧
 (if k=true then tc σ H3 fun w' H4=>r' y w' H4 Q else Q (.bl false) H3)
theorem mt {op op':CmpOp} {r r':R2} (ho:OpR X (compareOp op) r) (ho':OpR X (compareOp op') r') (ha:PE X a ta) (hb:PE X b tb) (hc:PE X c tc)
  (hm:lastMarks [op,op'] [b,c]=false:=by with_unfolding_all rfl):PE X (.Compare a [op,op'] [b,c] pos) (kZ r r' ta tb tc):=by
 intro pins s σ H Q I h
 refine Compare_chain (thn (ha pins s σ H _ I h) fun v s1 zq=>oq23 zq fun x H1 I1 r1 q1=>chain_link (thn (hb pins s1 σ H1 _ I1 q1) fun u s2 zq=>oq23 zq fun y H2 I2 r2 q2 =>
  thn (ho pins s2 σ H2 x y v u _ I2 r1 r2 q2) fun d s3 zq=>oq23 zq fun z H3 I3 r3 zz=>oq12 zz fun k e q3=>?_)) hm
 subst e
 cases r3
 refine wpAny_truthy_bool ?_
 cases k with
 | false=>exact ite_ff ⟨.bl false,H3,I3,rfl,q3⟩
 | true=>exact ite_tt (chain_last (thn (hc pins s3 σ H3 _ I3 q3) fun w' s4 zq=>oq23 zq fun z' H4 I4 r4 q4=>ho' pins s4 σ H4 y z' u w' Q I4 r2 r4 q4))
theorem pt_chain {op op':CmpOp} {r r':R2} (ho:OpR X (compareOp op) r) (ho':OpR X (compareOp op') r') (ha:PE X a ta) (hb:PE X b tb) (hc:PE X c tc)
  (hm:lastMarks [op,op'] [b,c]=false:=by with_unfolding_all rfl):PT X (.Compare a [op,op'] [b,c] pos) (tTest (kZ r r' ta tb tc)):=by
 intro pins s σ H Q I h
 refine isTrue_chain (thn (ha pins s σ H _ I h) fun v s1 zq=>oq23 zq fun x H1 I1 r1 q1=>test_link (thn (hb pins s1 σ H1 _ I1 q1) fun u s2 zq=>oq23 zq fun y H2 I2 r2 q2 =>
  thn (ho pins s2 σ H2 x y v u _ I2 r1 r2 q2) fun d s3 zq=>oq23 zq fun z H3 I3 r3 zz=>oq12 zz fun k e q3=>?_)) hm
 subst e
 cases r3
 refine wpAny_truthy_bool ?_
 cases k with
 | false =>
  refine oq12 q3 fun k' e' q'=>?_
  cases e'
  exact ite_ff ⟨H3,I3,q'⟩
 | true =>
  refine ite_tt (test_last (thn (hc pins s3 σ H3 _ I3 q3) fun w' s4 zq=>oq23 zq fun z' H4 I4 r4 q4=>thn (ho' pins s4 σ H4 y z' u w' _ I4 r2 r4 q4) fun d' s5 zq=>oq23 zq fun z2 H5 I5 r5 zz=>oq12 zz fun k2 e2 q5=>?_))
  subst e2
  cases r5
  exact wpAny_truthy_bool ⟨H5,I5,q5⟩
noncomputable def TruV (K:PySem.W.Frag) (x:V) (H:Hp) (k:Bool):Prop :=
 match x with
 | .non=>k=false
 | .bl b=>k=b
 | .int i=>k=(i != 0)
 | .str y=>y.length≤sizeLine∧k=((y.length:Int) != 0)
 | .byt y=>y.size≤sizeLine∧k=((y.size:Int) != 0)
 | .ref p=>(∃ xs,SqL K H p xs∧k=!xs.isEmpty)∨(∃ xs,SqT K H p xs∧k=!xs.isEmpty)∨∃ kvs,H p=some (.dK kvs)∧k=!kvs.isEmpty
 | _=>False
theorem nL {κ:Type} {kvs:List (κ × V)} {vs:List (κ × Value)} (r:KV kvs vs):(!vs.isEmpty)=!kvs.isEmpty:=by
 cases r <;> rfl
theorem j3 {xs:List V} {its:List Value} (r:Vals xs its):(!its.toArray.isEmpty)=!xs.isEmpty:=by
 cases r <;> simp
theorem j4:(sizeLine:Nat)<2 ^ 63:=by rw [sizeLine_eq]; decide
theorem tru_ok:TruR X (fun x H Q=>∃ k,TruV X.K x H k∧Q k H):=by
 intro pins s σ H x v Q I rx h
 refine oq12 h fun k e q=>?_
 have hl:=j4
 have hs:sizeLine=16777216:=sizeLine_eq
 cases x with
 | non =>
  cases rx
  have e':k=false:=e
  subst e'
  exact truthy_none ⟨H,I,q⟩
 | bl b =>
  cases rx
  have e':k=b:=e
  subst e'
  exact wpAny_truthy_bool ⟨H,I,q⟩
 | int i =>
  refine oq11 rx fun t eq1_=>?_; subst eq1_
  have e':k=(i != 0):=e
  subst e'
  exact PySem.P.truthy_int ⟨H,I,q⟩
 | str y =>
  refine oq11 rx fun t eq1_=>?_; subst eq1_
  refine oq02 (show y.length≤sizeLine∧k=((y.length:Int) != 0) from e) fun hy e'=>?_
  subst e'
  exact PySem.P.truthy_str (by omega) ⟨H,I.tok _,q⟩
 | byt y =>
  refine oq11 rx fun t eq1_=>?_; subst eq1_
  refine oq02 (show y.size≤sizeLine∧k=((y.size:Int) != 0) from e) fun hy e'=>?_
  subst e'
  exact PySem.W.truthy_bytes (by omega) ⟨H,I.tok _,q⟩
 | ref p =>
  cases rx
  have e':(∃ xs,SqL X.K H p xs∧k=!xs.isEmpty)∨(∃ xs,SqT X.K H p xs∧k=!xs.isEmpty)∨∃ kvs,H p=some (.dK kvs)∧k=!kvs.isEmpty:=e
  rcases e' with ⟨xs,hx,e'⟩ | ⟨xs,hx,e'⟩ | ⟨kvs,hx,e'⟩
  ·subst e'
   refine oq13 (I.list hx) fun its r pl hz=>?_
   have hlen:=r.length
   exact wpAny_truthy_list pl.isList (by simp only [List.size_toArray]; omega) ⟨H,I.tok _,by rw [j3 r]; exact q⟩
  ·subst e'
   refine oq13 (I.tuple hx) fun its r pl hz=>?_
   have hlen:=r.length
   exact truthy_tuple pl (by simp only [List.size_toArray]; omega) ⟨H,I.tok _,by rw [j3 r]; exact q⟩
  ·subst e'
   refine oq03 (show kvs.length≤sizeLine∧(p == sysModules)=false∧∃ vs,KV kvs vs∧s.heap.DictOf (aS X.prog X.w) p vs from I.hok p _ hx) fun hz hS zz=>oq12 zz fun vs r m=>?_
   have hlen:kvs.length=vs.length:=Paired.length r
   exact wpAny_truthy_dict hS m (by omega) ⟨H,I.tok _,by rw [nL r]; exact q⟩
 | _=>exact (show False from e).elim
theorem pt_truth (ha:PE X a ta) (he:∀ whole,isTrue a X.env whole=(do let v ← whole; standAt a.pos; holding [v] (truthy v))) :
  PT X a (fun σ H Q=>ta σ H fun x H'=>∃ k,TruV X.K x H' k∧Q k H'):=by
 intro pins s σ H Q I h
 exact isTrue_plain (thn (ha pins s σ H _ I h) fun v s1 zq=>oq23 zq fun x H1 I1 r1 q1=>tru_ok pins s1 σ H1 x v Q I1 r1 q1) (he _)
theorem vals1 {x:V} {us:List Value} (r:Vals [x] us):∃ u,us=[u]∧RelV x u:=by
 cases r with
 | cons r1 r2=>cases r2; exact ⟨_,rfl,r1⟩
theorem vals2 {x y:V} {us:List Value} (r:Vals [x,y] us):∃ u w',us=[u,w']∧RelV x u∧RelV y w':=by
 cases r with
 | cons r1 r2 =>
  cases r2 with
  | cons r3 r4=>cases r4; exact ⟨_,_,rfl,r1,r3⟩
theorem gu:cA X (.builtin "abs") (fun xs H Q=>∃ i,xs=[.int i]∧Q (.int (if i<0 then -i else i)) H):=by
 intro pins s σ H xs us Q I r h
 refine oq12 h fun i eq1_ q=>?_; subst eq1_
 refine oq12 (vals1 r) fun u eq1_ zz=>oq11 zz fun t eq3_=>?_; subst eq1_; subst eq3_
 exact call_abs_int fun u tk=>⟨.int (if i<0 then -i else i),H,I.tok _,⟨_,rfl⟩,q⟩
theorem fE (hc:X.calm=true):cA X (.builtin "max") (fun xs H Q=>∃ i j,xs=[.int i,.int j]∧Q (.int (if j > i then j else i)) H):=by
 intro pins s σ H xs us Q I r h
 refine oq22 h fun i j eq2_ q=>?_; subst eq2_
 obtain ⟨u,w',rfl,⟨t,rfl⟩,⟨t',rfl⟩⟩:=vals2 r
 refine max_two_ints (I.ok.hd hc) fun h' tk k=>⟨_,H,I.kept k,?_,q⟩
 by_cases hj:j > i
 ·rw [if_pos hj,if_pos hj]; exact ⟨_,rfl⟩
 ·rw [if_neg hj,if_neg hj]; exact ⟨_,rfl⟩
theorem fF (hc:X.calm=true):cA X (.builtin "min") (fun xs H Q=>∃ i j,xs=[.int i,.int j]∧Q (.int (if j<i then j else i)) H):=by
 intro pins s σ H xs us Q I r h
 refine oq22 h fun i j eq2_ q=>?_; subst eq2_
 obtain ⟨u,w',rfl,⟨t,rfl⟩,⟨t',rfl⟩⟩:=vals2 r
 refine min_two_ints (I.ok.hd hc) fun h' tk k=>⟨_,H,I.kept k,?_,q⟩
 by_cases hj:j<i
 ·rw [if_pos hj,if_pos hj]; exact ⟨_,rfl⟩
 ·rw [if_neg hj,if_neg hj]; exact ⟨_,rfl⟩
end
end L2
namespace L2
open PySem PySem.Spec PyProof.Rows
structure ObjM (h:Heap) (x dx C:Addr) (mA:Str→Option Value):Prop where
 obj:h.get? x=some (PySem.W.instObj C dx)
 ns:h.Ns1 dx mA
 ne:dx≠x
theorem lookIn_ns {h:Heap} {dx:Addr} {mA:Str→Option Value} (n:h.Ns1 dx mA):∃ od,h.get? dx=some od∧∀ name,PySem.W.lookIn name od=some (mA name):=by
 refine oq35 n fun o es ep ho hd hk _ hm=>?_
 refine ⟨o,ho,fun name=>?_⟩
 have e:=hm name
 unfold nsFind findBy at e
 rw [← Array.find?_toList] at e
 unfold PySem.W.lookIn
 rw [hd]
 dsimp only
 split
 ·rename_i y q
  rw [q] at e
  exact congrArg some e
 ·rename_i q
  rw [q] at e
  have a:es.toList.any (·.refKey)=false:=by
   rw [List.any_eq_false]
   intro y hy
   refine oq21 (hk y (Array.mem_toList_iff.mp hy)) fun z t hkey=>?_
   simp [DictEntry.refKey,hkey]
  have a':¬ es.toList.any (·.refKey)=true:=by rw [a]; exact Bool.false_ne_true
  rw [if_neg a']
  exact congrArg some e
theorem ObjM.look {h:Heap} {x dx C:Addr} {mA:Str→Option Value} (I:ObjM h x dx C mA):∃ od,PySem.W.InstAt h x (PySem.W.instObj C dx) C (some od)∧∀ name,PySem.W.lookIn name od=some (mA name) :=
 let ⟨od,ho,hl⟩:=lookIn_ns I.ns
 ⟨od,⟨I.obj,rfl,rfl,ho⟩,hl⟩
section
variable {prog:Program} {w:World} {A:Around} {E:Value→Shared→Prop} {s:Shared} {K:PySem.W.Frag} {x dx C f:Addr} {mA:Str→Option Value} {name:Str} {v:Value}
theorem get_map {expr:Bool} {Q:Value→Shared→Prop} (X:K.In s.heap) (I:ObjM s.heap x dx C mA) (hg:PySem.W.plainGet K C name=true) (hh:PySem.W.hasDictIn K C=true)
  (ha:PySem.W.findIn K (.ref C) name=some none) (hv:mA name=some v) (hv':PySem.W.handedIn v=true) (h:Q v { s with toks:=s.toks+1 }) :
  wpAny (model prog w) A (getAttr (.ref x) name expr) Q E s:=by
 refine oq12 I.look fun od J hl=>?_
 exact PySem.W.get_value X J (PySem.W.plainGet_of hg).1 (PySem.W.findObj_own hh ha rfl (by rw [hl,hv])) hv' h
theorem get_meth {pl:Sem Bool} {Q:Value × List Value→Shared→Prop} (X:K.In s.heap) (I:ObjM s.heap x dx C mA) (hg:PySem.W.plainGet K C name=true)
  (hf:PySem.W.findIn K (.ref C) name=some (some (.ref f))) (ht:PySem.W.isFn K (.ref f)=true) (hv:mA name=none) (h:Q (.ref f,[.ref x]) s) :
  wpAny (model prog w) A (getMethod (.ref x) name pl) Q E s:=by
 refine oq12 I.look fun od J hl=>?_
 exact PySem.W.method_fn X J (PySem.W.plainGet_of hg).1 (PySem.W.plainGet_of hg).2 hf (beq_iff_eq.mp ht) (by show (PySem.W.lookIn name od).map (·.isSome)=some false; rw [hl,hv]; rfl) h
theorem set_map {ns:List Str} {Q:Unit→Shared→Prop} (X:K.In s.heap) (I:ObjM s.heap x dx C mA)
  (hs:PySem.W.findIn K (.ref C) "__setattr__"=some (some (.builtin "object.__setattr__"))) (hp:PySem.W.plainOver K C=true) (ht:PySem.W.takerIn K C name=some none) (hh:PySem.W.hasDictIn K C=true)
  (hw:PySem.Within mA ns) (hsz:ns.length≤sizeLine)
  (h:∀ h',ObjM h' x dx C (fun y=>if y=name then some v else mA y)→Heap.SameBut dx s.heap h'→Q () { s with heap:=h',toks:=s.toks+2 }) :
  wpAny (model prog w) A (setAttr (.ref x) name v) Q E s:=by
 refine oq12 I.look fun od J hl=>?_
 refine PySem.W.set_plain X J hs (PySem.W.osa_open (s:={ s with toks:=s.toks+1 }) (r:=none) X J hp ht fun b=>?_)
 refine oq12 (PySem.W.any_some hh) fun cd hc hd'=>?_
 have hx:s.heap.get? x=some ⟨.ref C,some dx,.plain,#[]⟩:=I.obj
 refine wpAny_bind (wpAny_pure (wpAny_bind (wpAny_bind (wpAny_loadPart hx (wpAny_bind (PySem.W.Looks.here (s:={ s with toks:=s.toks+1 }) (PySem.W.looks_clsIn X hc) ?_))))))
 rw [hd']
 refine wpAny_pure (a:=some dx) (wpAny_bind (wpAny_pure (wpAny_bind ?_)))
 refine wpAny_nsSet1 (s:={ s with toks:=s.toks+1 }) I.ns fun h' hn2 hs2=>?_
 refine oq33 (hn2.count (PySem.Within.cons name v hw)) fun oD esD epD hoD hdD hcD=>?_
 refine wpAny_bind (wpAny_lookBehind hoD (by rw [hdD]; exact pastItsLine_dict (nz4 hcD (by rw [List.length_cons]; omega))) ?_)
 exact wpAny_pure (h _ ⟨(hs2.2 _ (Ne.symm I.ne)).trans I.obj,hn2,I.ne⟩ hs2)
theorem make_map {R:Result→Shared→Prop} {vs:List Value} {kw:List (Str × Value)} (X:K.In s.heap) (hm:PySem.W.makesIn K C=true)
  (hi:PySem.W.findIn K (.ref C) "__init__"=some (some (.ref f))) (hf:PySem.W.typeIn K (.ref f)=some (.type "function"))
  (h:codeAny (model prog w) (A.under (.builtin "type.__call__" ⟨.ref C :: vs,kw⟩)) (.call (.ref f) ⟨.ref (s.heap.objs.size+1) :: vs,kw⟩) (PySem.W.InitBack (s.heap.objs.size+1) R)
   { s with heap:=(s.heap.push PySem.W.emptyDict).push (PySem.W.instObj C s.heap.objs.size) }) :
  codeAny (model prog w) A (.call (.ref C) ⟨vs,kw⟩) R s:=by
 obtain ⟨hh,g,d,t,os⟩:=s
 exact PySem.W.make_core (PySem.W.makes_of X hm) (PySem.W.looks_findIn X hi) (fun self=>PySem.W.bind_fn X self hf) (.inl rfl) h
end
noncomputable def putF (f:Str) (v:V):List (Str × V)→List (Str × V)
 | []=>[(f,v)]
 | (g,x) :: r=>if g=f then (g,v) :: r else (g,x) :: putF f v r
theorem iq (f g:Str) (v:V):∀ fs:List (Str × V),(putF f v fs).lookup g=if g=f then some v else fs.lookup g
 | []=>by
  show List.lookup g [(f,v)]=_
  by_cases h:g=f
  ·have hb:(g == f)=true:=beq_iff_eq.mpr h
   simp only [List.lookup,hb,if_pos h]
  ·have hb:(g == f)=false:=beq_eq_false_iff_ne.mpr h
   simp only [List.lookup,hb,if_neg h]
 | (k,x) :: r=>by
  have ih:=iq f g v r
  rw [show putF f v ((k,x) :: r)=(if k=f then (k,v) :: r else (k,x) :: putF f v r) from rfl]
  by_cases hk:k=f
  ·rw [if_pos hk]
   by_cases h:g=k
   ·have hb:(g == k)=true:=beq_iff_eq.mpr h
    simp only [List.lookup,hb,if_pos (h.trans hk)]
   ·have hb:(g == k)=false:=beq_eq_false_iff_ne.mpr h
    simp only [List.lookup,hb,if_neg (fun e:g=f=>h (e.trans hk.symm))]
  ·rw [if_neg hk]
   by_cases h:g=k
   ·have hb:(g == k)=true:=beq_iff_eq.mpr h
    simp only [List.lookup,hb,if_neg (fun e:g=f=>hk (h.symm.trans e))]
   ·have hb:(g == k)=false:=beq_eq_false_iff_ne.mpr h
    simp only [List.lookup,hb]
    exact ih
theorem hE (f:Str) (v:V):∀ fs:List (Str × V),f∈(putF f v fs).map (·.1)∧∀ g,g∈fs.map (·.1)→g∈(putF f v fs).map (·.1)
 | []=>⟨by simp [putF],fun g h=>by simp at h⟩
 | (k,x) :: r=>by
  refine oq02 (hE f v r) fun i1 i2=>?_
  rw [show putF f v ((k,x) :: r)=(if k=f then (k,v) :: r else (k,x) :: putF f v r) from rfl]
  by_cases hk:k=f
  ·rw [if_pos hk]
   subst hk
   exact ⟨by simp,fun g h=>by simpa using h⟩
  ·rw [if_neg hk]
   refine ⟨?_,fun g h=>?_⟩
   ·rw [List.map_cons]
    exact List.mem_cons_of_mem _ i1
   ·rw [List.map_cons] at h ⊢
    rcases List.mem_cons.mp h with e | e
    ·exact List.mem_cons.mpr (.inl e)
    ·exact List.mem_cons_of_mem _ (i2 g e)
theorem ir (f:Str) (v:V):∀ fs:List (Str × V),(putF f v fs).length≤fs.length+1
 | []=>by simp [putF]
 | (k,x) :: r=>by
  have ih:=ir f v r
  rw [show putF f v ((k,x) :: r)=(if k=f then (k,v) :: r else (k,x) :: putF f v r) from rfl]
  by_cases hk:k=f
  ·rw [if_pos hk,List.length_cons,List.length_cons]; omega
  ·rw [if_neg hk,List.length_cons,List.length_cons]; omega
theorem RelO.some_of {v:V} {o:Option Value} (r:RelO (some v) o):∃ u,o=some u∧RelV v u:=by
 cases o with
 | none=>exact (show False from r).elim
 | some u=>exact ⟨u,rfl,r⟩
theorem RelO.none_of {o:Option Value} (r:RelO none o):o=none:=by
 cases o with
 | none=>rfl
 | some u=>exact (show False from r).elim
theorem handed_of {v:V} {u:Value} (r:RelV v u):PySem.W.handedIn u=true:=by
 cases v with
 | non=>cases (show u=Value.none from r); rfl
 | bl b=>cases (show u=Value.bool b from r); rfl
 | int i=>refine oq11 ((show ∃ t,u=Value.int i t from r)) fun t e=>?_; cases e; rfl
 | str x=>refine oq11 ((show ∃ t,u=Value.str x t from r)) fun t e=>?_; cases e; rfl
 | byt b=>refine oq11 ((show ∃ t,u=Value.bytes b t from r)) fun t e=>?_; cases e; rfl
 | flt b=>refine oq11 ((show ∃ t,u=Value.float b t from r)) fun t e=>?_; cases e; rfl
 | ref a=>cases (show u=Value.ref a from r); rfl
 | ty n=>cases (show u=Value.type n from r); rfl
section
variable {P:Program} {w:World} {H H':Hp} {h h':Heap} {a C dx:Addr} {fs fs':List (Str × V)}
theorem iM (hok:HOk P w H h) (e:H a=some (.ins C dx fs)):∃ mA,ObjM h a dx C mA∧(∀ f,RelO (fs.lookup f) (mA f))∧PySem.Within mA (fs.map (·.1))∧fs.length≤1000∧H dx=some (.own a):=by
 refine oq05 ((show bb P w H h a (.ins C dx fs) from hok a _ e)) fun d z ne ob zz=>oq13 zz fun mA n r q=>?_
 exact ⟨mA,⟨ob,n,ne⟩,r,q,z,d⟩
end
structure Cls (K:PySem.W.Frag) (C:Addr):Prop where
 pg:PySem.W.plainGet K C Str.empty=true
 hd:PySem.W.hasDictIn K C=true
 po:PySem.W.plainOver K C=true
 sa:PySem.W.findIn K (.ref C) "__setattr__"=some (some (.builtin "object.__setattr__"))
theorem Cls.get {K:PySem.W.Frag} {C:Addr} (c:Cls K C) (f:Str):PySem.W.plainGet K C f=true:=c.pg
noncomputable def bn (K:PySem.W.Frag) (C:Addr) (f:Str):Prop:=PySem.W.findIn K (.ref C) f=some none
theorem bn.taker {K:PySem.W.Frag} {C:Addr} {f:Str} (n:bn K C f):PySem.W.takerIn K C f=some none:=by
 unfold PySem.W.takerIn
 rw [show PySem.W.findIn K (.ref C) f=some none from n]
 rfl
structure Meth (K:PySem.W.Frag) (C:Addr) (m:Str) (f:Addr):Prop where
 at_:PySem.W.findIn K (.ref C) m=some (some (.ref f))
 fn:PySem.W.isFn K (.ref f)=true
 kp:PySem.W.keepIn K (.ref f)=true
section
variable {X:Cx} {pins:List (Addr × Obj)} {σ:St} {H:Hp} {s:Shared} {a C dx:Addr} {fs:List (Str × V)} {f:Str} {v:V} {A:Around} {E:Value→Shared→Prop}
theorem nM {b:Bool} {Q:Value→Shared→Prop} (I:Inv X pins σ H s) (e:H a=some (.ins C dx fs)) (c:Cls X.K C) (n:bn X.K C f) (l:fs.lookup f=some v)
  (h:∀ u s',Inv X pins σ H s'→RelV v u→Q u s'):wpAny (model X.prog X.w) A (getAttr (.ref a) f b) Q E s:=by
 refine oq15 (iM I.hok e) fun mA O r _ _ _=>?_
 refine oq12 (RelO.some_of (v:=v) (o:=mA f) (by rw [← l]; exact r f)) fun u hu ru=>?_
 exact get_map I.kIn O (c.get f) c.hd n hu (handed_of ru) (h u _ (I.tok _) ru)
theorem nN {m:Str} {g:Addr} {pl:Sem Bool} {Q:Value × List Value→Shared→Prop} (I:Inv X pins σ H s) (e:H a=some (.ins C dx fs)) (c:Cls X.K C) (k:Meth X.K C m g) (l:fs.lookup m=none)
  (h:Q (.ref g,[.ref a]) s):wpAny (model X.prog X.w) A (getMethod (.ref a) m pl) Q E s:=by
 refine oq15 (iM I.hok e) fun mA O r _ _ _=>?_
 have hn:mA m=none:=RelO.none_of (by rw [← l]; exact r m)
 exact get_meth I.kIn O (c.get m) k.at_ k.fn hn h
theorem nO {y:V} {u:Value} {Q:Unit→Shared→Prop} (I:Inv X pins σ H s) (e:H a=some (.ins C dx fs)) (c:Cls X.K C) (n:bn X.K C f) (hl:fs.length<1000) (ry:RelV y u)
  (h:∀ s',Inv X pins σ (upd H a (.ins C dx (putF f y fs))) s'→Q () s'):wpAny (model X.prog X.w) A (setAttr (.ref a) f u) Q E s:=by
 refine oq15 (iM I.hok e) fun mA O r wi _ ho=>?_
 have hz:(fs.map (·.1)).length≤sizeLine:=by rw [List.length_map,sizeLine_eq]; omega
 refine set_map I.kIn O c.sa c.po n.taker c.hd wi hz fun h' O' sb=>h _ ?_
 have hd:∃ o,h'.get? dx=some o:=oq32 O'.ns fun o _ _ e' _=>⟨o,e'⟩
 refine I.write (x:=a) (e:=dx) (by rw [e]; exact True.intro) (.inr ho) (fun b q hb z=>(sb.2 b hb).trans z) hd ?_
 refine ⟨by rw [ac O.ne]; exact ho,?_,O.ne,O'.obj,_,O'.ns,fun g=>?_,fun g hg=>?_⟩
 ·have:=ir f y fs; omega
 ·show RelO ((putF f y fs).lookup g) (if g=f then some u else mA g)
  rw [iq]
  by_cases q:g=f
  ·rw [if_pos q,if_pos q]; exact ry
  ·rw [if_neg q,if_neg q]; exact r g
 ·by_cases q:g=f
  ·rw [q]; exact (hE f y fs).1
  ·refine (hE f y fs).2 g (wi g fun z=>hg ?_)
   show (if g=f then some u else mA g)=none
   rw [if_neg q]; exact z
theorem Inv.made (I:Inv X pins σ H s):Inv X pins σ (upd (upd H s.heap.objs.size (.own (s.heap.objs.size+1))) (s.heap.objs.size+1) (.ins C s.heap.objs.size []))
  { s with heap:=(s.heap.push PySem.W.emptyDict).push (PySem.W.instObj C s.heap.objs.size) }:=by
 have e1:(s.heap.push PySem.W.emptyDict).get? s.heap.objs.size=some PySem.W.emptyDict:=Heap.get?_push_size s.heap rfl
 have e2:((s.heap.push PySem.W.emptyDict).push (PySem.W.instObj C s.heap.objs.size)).get? (s.heap.objs.size+1)=some (PySem.W.instObj C s.heap.objs.size):=by
  have:=Heap.get?_push_size (s.heap.push PySem.W.emptyDict) (o:=PySem.W.instObj C s.heap.objs.size) rfl
  rwa [Heap.size_push] at this
 have e3:(s.heap.push PySem.W.emptyDict).Ns s.heap.objs.size (fun _=>none):=⟨PySem.W.emptyDict,#[],_,e1,rfl,(fun e he=>absurd he (by simp)),fun _=>rfl⟩
 have I1:=I.laid (a:=s.heap.objs.size) (o:=.own (s.heap.objs.size+1)) (h':=s.heap.push PySem.W.emptyDict) (t':=s.toks) (fun b u q=>Heap.get?_push_of_some _ q) (nz6 _) ⟨_,e1⟩
 refine I1.laid (a:=s.heap.objs.size+1) (o:=.ins C s.heap.objs.size []) (t':=s.toks) (fun b u q=>Heap.get?_push_of_some _ q) (nz3 (Heap.size_push _ _)) ?_
 have ne:s.heap.objs.size≠s.heap.objs.size+1:=nz7 (Nat.lt_succ_self _)
 refine ⟨by rw [ac ne,af],Nat.zero_le _,ne,e2,fun _=>none,(Heap.Ns1.of_empty e3).at fun o q=>Heap.get?_push_of_some _ q,fun _=>True.intro,fun y hy=>absurd rfl hy⟩
theorem attr_of {prog:Program} {w:World} {env:Env} {e:Expr} {f:Str} {pos:Pos} {s:Shared} {Q:Value→Shared→Prop} (hb:attributeBase e f env (eval e env)=eval e env)
  (h:wpAny (model prog w) A (eval e env) (fun o s₁=>wpAny (model prog w) A (getAttr o f true) Q E s₁) E s):wpAny (model prog w) A (eval (.Attribute e f pos) env) Q E s :=
 Attribute_any_ h (by rw [arm_eval_Attribute,hb])
end
noncomputable def tFld (K:PySem.W.Frag) (ta:TE) (f:Str):TE:=fun σ H Q=>ta σ H fun x H1=>∃ a C dx fs v,x=.ref a∧H1 a=some (.ins C dx fs)∧Cls K C∧bn K C f∧fs.lookup f=some v∧Q v H1
noncomputable def sFld (K:PySem.W.Frag) (ta tv:TE) (f:Str):TS:=fun D σ H=>tv σ H fun y H1=>ta σ H1 fun x H2=>∃ a C dx fs,x=.ref a∧H2 a=some (.ins C dx fs)∧Cls K C∧bn K C f∧fs.length<1000 ∧
 D.nx σ (upd H2 a (.ins C dx (putF f y fs)))
section
variable {X:Cx} {o e value:Expr} {f:Str} {pos pos' tpos:Pos} {ta tv:TE}
theorem pe_fld (he:PE X e ta) (hb:attributeBase e f X.env (eval e X.env)=eval e X.env):PE X (.Attribute e f pos) (tFld X.K ta f):=by
 intro pins s σ H Q I h
 refine attr_of hb (thn (he pins s σ H _ I h) fun u s1 zq=>oq23 zq fun x H1 I1 rx zz=>oq56 zz fun a C dx fs v ex ea c n l q=>?_)
 subst ex
 obtain rfl:u=Value.ref a:=rx
 exact nM I1 ea c n l fun u' s2 I2 ru=>⟨v,H1,I2,ru,q⟩
theorem hJ (ha:PE X o ta) (hv:PE X value tv) (hs:swapsWith value (some (.Attribute o f pos')) pos.line X.env=pure false):PS X (.Assign [.Attribute o f pos'] value pos) (sFld X.K ta tv f):=by
 intro pins s σ H D I h
 refine plainObj_wpAny_Assign_Attribute (thn (hv pins s σ H _ I h) fun u s1 zq=>oq23 zq fun y H1 I1 ry q=>thn (ha pins s1 σ H1 _ I1 q) fun ov s2 zq=>oq23 zq fun x H2 I2 rx zz=>oq46 zz fun a C dx fs ex ea c n l q2=>?_) hs
 subst ex
 obtain rfl:ov=Value.ref a:=rx
 exact nO I2 ea c n l ry fun s3 I3=>⟨σ,_,I3,q2⟩
end
section
variable {X:Cx} {pins:List (Addr × Obj)} {σ:St} {H:Hp} {s:Shared} {A:Around} {E:Value→Shared→Prop} {Q:Value→Shared→Prop} {c:Value} {b:Bool}
inductive TyOf (K:PySem.W.Frag) (H:Hp):V→Value→Prop where
 | non:TyOf K H .non (.type "NoneType")
 | bl (x:Bool):TyOf K H (.bl x) (.type "bool")
 | int (i:Int):TyOf K H (.int i) (.type "int")
 | str (x:Str):TyOf K H (.str x) (.type "str")
 | flt (x:UInt64):TyOf K H (.flt x) (.type "float")
 | lst {a:Addr} {xs:List V} (e:H a=some (.lst xs)):TyOf K H (.ref a) (.type "list")
 | frz {a:Addr} {o:Obj} {xs:List V} (e:H a=some (.frz o (.lst xs))):TyOf K H (.ref a) (.type "list")
 | tup {a:Addr} {xs:List V} (e:H a=some (.tup xs)):TyOf K H (.ref a) (.type "tuple")
 | dK {a:Addr} {kvs:List (Key × V)} (e:H a=some (.dK kvs)):TyOf K H (.ref a) (.type "dict")
 | dT {a:Addr} {kvs:List (List Key × V)} (e:H a=some (.dT kvs)):TyOf K H (.ref a) (.type "dict")
 | ins {a C dx:Addr} {fs:List (Str × V)} (e:H a=some (.ins C dx fs)) (cl:Cls K C) (ha:PySem.W.findIn K (.ref C) "__class__"=some (some (.builtin "object.__class__")))
   (hn:PySem.W.specialIn K (.builtin "object.__class__") "__get__"=some (some (.builtin "getset_descriptor.__get__"))) (htk:PySem.W.takesIn K (.builtin "object.__class__")=some true)
   (hm:PySem.W.mroIn K C (.type "object")=some true):TyOf K H (.ref a) (.ref C)
theorem isinst_ok {x:V} {u t:Value} (I:Inv X pins σ H s) (rx:RelV x u) (ty:TyOf X.K H x t) (e:PySem.W.kitOne X.K t c=some b) (h:∀ tk,Q (.bool b) { s with toks:=tk }) :
  wpAny (model X.prog X.w) A (call (.builtin "isinstance") [u,c]) Q E s:=by
 cases ty with
 | non=>cases (show u=Value.none from rx); exact PySem.W.kia_one PySem.W.kitx_none I.kIn True.intro e (fun z=>nomatch z) h
 | bl y=>cases (show u=Value.bool y from rx); exact PySem.W.kia_one PySem.W.kitx_bool I.kIn True.intro e (fun z=>nomatch z) h
 | int i=>refine oq11 ((show ∃ t,u=Value.int i t from rx)) fun t q=>?_; cases q; exact PySem.W.kia_one PySem.W.kitx_int I.kIn True.intro e (fun z=>nomatch z) h
 | str y=>refine oq11 ((show ∃ t,u=Value.str y t from rx)) fun t q=>?_; cases q; exact PySem.W.kia_one PySem.W.kitx_str I.kIn True.intro e (fun z=>nomatch z) h
 | flt y=>refine oq11 ((show ∃ t,u=Value.float y t from rx)) fun t q=>?_; cases q; exact PySem.W.kia_one PySem.W.kitx_float I.kIn True.intro e (fun z=>nomatch z) h
 | @lst a xs ea =>
  cases (show u=Value.ref a from rx)
  refine oq02 ((show bb X.prog X.w H s.heap a (.lst xs) from I.hok a _ ea)) fun _ zz=>oq22 zz fun _ n _ h1=>?_
  exact PySem.W.kia_one PySem.W.kitx_list I.kIn ⟨_,h1,rfl⟩ e (fun z=>nomatch z) h
 | @frz a ob xs ea =>
  cases (show u=Value.ref a from rx)
  refine oq03 ((show bb X.prog X.w H s.heap a (.frz ob (.lst xs)) from I.hok a _ ea)) fun _ _ zz=>oq22 zz fun _ n _ h1=>?_
  exact PySem.W.kia_one PySem.W.kitx_list I.kIn ⟨_,h1,rfl⟩ e (fun z=>nomatch z) h
 | @tup a xs ea =>
  cases (show u=Value.ref a from rx)
  refine oq02 ((show bb X.prog X.w H s.heap a (.tup xs) from I.hok a _ ea)) fun _ zz=>oq12 zz fun _ _ p=>?_
  refine oq13 p fun o h1 h2 _=>?_
  exact PySem.W.kia_one PySem.W.kitx_tuple I.kIn ⟨o,h1,h2⟩ e (fun z=>nomatch z) h
 | @dK a kvs ea =>
  cases (show u=Value.ref a from rx)
  refine oq03 ((show bb X.prog X.w H s.heap a (.dK kvs) from I.hok a _ ea)) fun _ _ zz=>oq12 zz fun vs _ p=>?_
  refine oq33 p fun o es ep h1 h2 _=>?_
  exact PySem.W.kia_one PySem.W.kitx_dict I.kIn ⟨o,h1,h2.1⟩ e (fun z=>nomatch z) h
 | @dT a kvs ea =>
  cases (show u=Value.ref a from rx)
  refine oq03 ((show bb X.prog X.w H s.heap a (.dT kvs) from I.hok a _ ea)) fun _ _ zz=>oq12 zz fun xs _ zz=>oq33 zz fun o es ep h1 h2 _=>?_
  exact PySem.W.kia_one PySem.W.kitx_dict I.kIn ⟨o,h1,h2.1⟩ e (fun z=>nomatch z) h
 | @ins a C dx fs ea cl ha hn htk hm =>
  cases (show u=Value.ref a from rx)
  refine oq12 (iM I.hok ea) fun mA O _=>?_
  refine oq12 O.look fun od J _=>?_
  exact PySem.W.kia_one (PySem.W.kitx_own (cl.get _) cl.hd ha hn htk hm) I.kIn J e (fun z=>nomatch z) h
end
end L2
namespace L2
open PySem PySem.Spec PyProof.Rows
structure Room (k:Nat) (A:Around):Prop where
 hd:A.handled=none
 dp:A.depth+3 * k+5<recursionLimit
 un:A.units+16 * k+200<cLine
theorem Room.mono {j k:Nat} {A:Around} (r:Room k A) (h:j≤k):Room j A:=⟨r.hd,by have:=r.dp; omega,by have:=r.un; omega⟩
theorem Room.deeper {k:Nat} {A:Around} (r:Room (k+1) A) (env:Env):Room k (A.deeper env) :=
 ⟨r.hd,by have:=r.dp; show A.depth+1+3 * k+5<_; omega,by have:=r.un; show A.units+3+16 * k+200<_; omega⟩
theorem Room.in1 {k:Nat} {A:Around} (r:Room (k+1) A):Room k A.in1 :=
 ⟨r.hd,by have:=r.dp; show A.depth+3 * k+5<_; omega,by have:=r.un; show A.units+1+16 * k+200<_; omega⟩
theorem nP {A:Around} {C:Addr} {us:List Value} {kw:List (Str × Value)}:(A.under (.builtin "type.__call__" ⟨.ref C :: us,kw⟩)).depth=A.depth+1:=by
 first | rfl | simp [Around.under,Code.weight,Code.isCreation,Code.isGuard,Code.isCaller,Code.frames,Code.isFrame,guardIds]
theorem nQ {A:Around} {C:Addr} {us:List Value} {kw:List (Str × Value)}:(A.under (.builtin "type.__call__" ⟨.ref C :: us,kw⟩)).units=A.units+1:=by
 first | rfl | simp [Around.under,Code.cUnits,Code.frames,Code.isFrame]
theorem Room.make {k:Nat} {A:Around} (r:Room (k+1) A) (C:Addr) (us:List Value) (kw:List (Str × Value)):Room k (A.under (.builtin "type.__call__" ⟨.ref C :: us,kw⟩)) :=
 ⟨r.hd,by have:=r.dp; rw [nP]; omega,by have:=r.un; rw [nQ]; omega⟩
theorem Room.depth {k:Nat} {A:Around} (r:Room k A):A.depth<recursionLimit:=by have:=r.dp; omega
theorem Room.units {k:Nat} {A:Around} (r:Room k A):A.units+64<cLine:=by have:=r.un; omega
noncomputable def tNil:TA:=fun _ H Q=>Q [] H
noncomputable def aK (ta:TE) (tr:TA):TA:=fun σ H Q=>ta σ H fun x H1=>tr σ H1 fun xs H2=>Q (x :: xs) H2
section
variable {X:Cx} {e:Expr} {es:List Expr} {te:TE} {t:TA} {pos:Pos}
theorem aa:PA X [] tNil:=fun _ _ _ _ H Q I h=>Calls.spliced_nil ⟨[],H,I,.nil,h⟩
theorem a8 (ha:PE X e te) (hr:PA X es t) (hs:starEach (e :: es) X.env=(false,eval e X.env) :: starEach es X.env:=by rfl):PA X (e :: es) (aK te t):=by
 intro pos pins s σ H Q I h
 rw [hs]
 show wpAny _ _ (spliced ((false,eval e X.env) :: backTo pos (starEach es X.env))) _ _ s
 refine Calls.spliced_cons (thn (ha pins s σ H _ I h) fun u s1 zq=>oq23 zq fun x H1 I1 r1 q1=>?_)
 exact thn (hr pos pins s1 σ H1 _ I1 q1) fun us s2 zq=>oq23 zq fun xs H2 I2 r2 q2=>⟨x :: xs,H2,I2,.cons r1 r2,q2⟩
noncomputable def tTup (t:TA):TE:=fun σ H Q=>t σ H fun xs H1=>xs.length≤sizeLine∧∀ p,H1 p=none→Q (.ref p) (upd H1 p (.tup xs))
noncomputable def tLst (t:TA):TE:=fun σ H Q=>t σ H fun xs H1=>xs.length≤sizeLine∧∀ p,H1 p=none→Q (.ref p) (upd H1 p (.lst xs))
theorem gc {x1} (h:PA X es t):PE X (.Tuple es x1 pos) (tTup t):=by
 intro pins s σ H Q I hq
 refine wpAny_Tuple_spliced (thn (h pos pins s σ H _ I hq) fun us s1 zq=>oq24 zq fun xs H1 I1 r z q=>⟨by rw [← r.length]; exact z,?_⟩)
 have hf:H1 s1.heap.objs.size=none:=I1.hok.fresh (nz6 _)
 refine ⟨.ref s1.heap.objs.size,upd H1 s1.heap.objs.size (.tup xs),I1.laid (t':=s1.toks) (fun b u e=>Heap.get?_push_of_some _ e) (nz6 _) ?_,rfl,q _ hf⟩
 exact ⟨z,us,r,⟨_,Heap.get?_push_size _ rfl,rfl,_,rfl⟩⟩
theorem bX (h:PA X es t):PE X (.List es pos) (tLst t):=by
 intro pins s σ H Q I hq
 refine wpAny_List_spliced (thn (h pos pins s σ H _ I hq) fun us s1 zq=>oq24 zq fun xs H1 I1 r z q=>⟨by rw [← r.length]; exact z,?_⟩)
 have hf:H1 s1.heap.objs.size=none:=I1.hok.fresh (nz6 _)
 refine ⟨.ref s1.heap.objs.size,upd H1 s1.heap.objs.size (.lst xs),I1.laid (t':=s1.toks) (fun b u e=>Heap.get?_push_of_some _ e) (nz6 _) ?_,rfl,q _ hf⟩
 exact ⟨z,us,0,r,Heap.get?_push_size _ rfl⟩
end
noncomputable abbrev Sp:=List V→Hp→VK→XK→Prop
noncomputable abbrev CXT:=List Env→Hp→Shared→XK→Value→Shared→Prop
structure Env0 (P:Program) (w:World) (K:PySem.W.Frag) (mg:Str→Option Value) (base:Heap) (A:Around) (outer:List Env) (s:Shared) (H:Hp):Prop where
 frames:A.frames=some outer
 mod:Mod K mg base
 bs:∀ b o,base.get? b=some o→s.heap.get? b=some o∧H b=none
 bsz:base.objs.size≤s.heap.objs.size
 funs:s.heap.FunFrames base outer
 frf:∀ b∈frs outer,H b=none
 hok:HOk P w H s.heap
 bare:AllBare s.gens
noncomputable def CE (outer:List Env) (P:Program) (w:World) (H:Hp) (s:Shared) (Q:VK) (u:Value) (s':Shared):Prop :=
 ∃ v H',s'.os=s.os∧AllBare s'.gens∧Un (frs outer) [] H H' s.heap s'.heap∧HOk P w H' s'.heap∧RelV v u∧Q v H'
noncomputable def CR (CX:CXT) (outer:List Env) (P:Program) (w:World) (H:Hp) (s:Shared) (Q:VK) (E:XK) (r:Result) (s':Shared):Prop :=
 match r with
 | .ok (.ret u)=>CE outer P w H s Q u s'
 | .ok _=>False
 | .error e=>CX outer H s E e s'
structure FnOk (P:Program) (w:World) (K:PySem.W.Frag) (mg:Str→Option Value) (base:Heap) (CX:CXT) (k:Nat) (f:Addr) (fd:FuncData) (ps:List Str) (sp:Sp):Prop where
 len:∀ vs H Q E,sp vs H Q E→vs.length=ps.length
 run:∀ (A:Around) (outer:List Env) (s:Shared) (H:Hp) (args:Args) (us:List Value) (vs:List V) (Q:VK) (E:XK),Room k A→Env0 P w K mg base A outer s H→BindsTo s fd args (ps.zip us)→Vals vs us→sp vs H Q E →
  codeAny (model P w) A (.call (.ref f) args) (CR CX outer P w H s Q E) s
theorem Env0.make {P:Program} {w:World} {K:PySem.W.Frag} {mg:Str→Option Value} {base:Heap} {A:Around} {outer:List Env} {s:Shared} {H:Hp} (e:Env0 P w K mg base A outer s H) (C:Addr) (us:List Value) (kw:List (Str × Value)) :
  Env0 P w K mg base (A.under (.builtin "type.__call__" ⟨.ref C :: us,kw⟩)) outer s H:=⟨by first | exact e.frames | (simpa [Around.under,Code.envs,Code.isFrame,pushEnvs] using e.frames),e.mod,e.bs,e.bsz,e.funs,e.frf,e.hok,e.bare⟩
section
variable {X:Cx} {pins:List (Addr × Obj)} {σ:St} {H:Hp} {s s':Shared}
theorem Inv.env0 (I:Inv X pins σ H s):Env0 X.prog X.w X.K X.mg X.base X.A X.stack s H :=
 ⟨I.ok.frames,I.ok.mod,I.bs,nz4 I.ok.bsz I.sz,I.stack,I.stkFree,I.hok,I.bare⟩
theorem Inv.after {Q:VK} {u:Value} (I:Inv X pins σ H s) (h:CE X.stack X.prog X.w H s Q u s'):EP X pins σ Q u s':=by
 refine oq26 h fun v H' os bare un hok r q=>?_
 obtain ⟨hh,g,d,t,os'⟩:=s'
 obtain rfl:os'=s.os:=os
 exact ⟨v,H',I.call (h':=hh) (g':=g) (d':=d) (t':=t) (ch:=[]) un hok bare (fun b z=>absurd z (by simp)),r,q⟩
end
noncomputable def j5 (sp:Sp) (dvs:List V) (E:XK) (t:TA):TE:=fun σ H Q=>t σ H fun vs H1=>sp (vs++dvs) H1 Q E
noncomputable def ki (C:Addr) (m:Str) (sp:Sp) (dvs:List V) (E:XK) (ta:TE) (t:TA):TE:=fun σ H Q=>ta σ H fun x H1=>∃ a dx fs,x=.ref a∧H1 a=some (.ins C dx fs)∧fs.lookup m=none ∧
 t σ H1 fun vs H2=>sp (x :: (vs++dvs)) H2 Q E
noncomputable def tMake (C:Addr) (sp:Sp) (dvs:List V) (E:XK) (t:TA):TE:=fun σ H Q=>t σ H fun vs H1=>∀ x dx,H1 x=none→H1 dx=none→dx≠x →
 sp (.ref x :: (vs++dvs)) (upd (upd H1 dx (.own x)) x (.ins C dx [])) (fun v H2=>v=.non∧Q (.ref x) H2) E
noncomputable def Binds (K:PySem.W.Frag) (fd:FuncData) (ps:List Str) (ds:List Value):Prop :=
 ∀ (s:Shared) (us:List Value),K.In s.heap→(us++ds).length=ps.length→BindsTo s fd ⟨us,[]⟩ (ps.zip (us++ds))
theorem Binds.all {K:PySem.W.Frag} {fd:FuncData} {ps:List Str} (h:∀ us:List Value,us.length=ps.length→bindArgs fd ⟨us,[]⟩=pure (ps.zip us)):Binds K fd ps []:=fun s us _ hl=>by
 rw [List.append_nil] at hl ⊢
 exact .of_eq (h us hl)
noncomputable def hO (CX:CXT) (X:Cx) (E:XK):Prop:=∀ (pins:List (Addr × Obj)) (σ:St) (H:Hp) (s:Shared) (e:Value) (s':Shared),Inv X pins σ H s→CX X.stack H s E e s'→X.xe e s'
section
variable {X:Cx} {CX:CXT} {k:Nat} {f C:Addr} {fd:FuncData} {ps:List Str} {sp:Sp} {dvs:List V} {ds:List Value} {E:XK} {x m:Str} {p pos apos:Pos} {e o:Expr} {es:List Expr} {ta:TE} {t:TA}
theorem run_fn {pins:List (Addr × Obj)} {σ:St} {H:Hp} {s:Shared} {Q:VK} {us:List Value} {vs:List V} (F:FnOk X.prog X.w X.K X.mg X.base CX k f fd ps sp) (hr:Room k X.A) (hb:Binds X.K fd ps ds) (hd:Vals dvs ds) (hx:hO CX X E)
  (I:Inv X pins σ H s) (r:Vals vs us) (h:sp (vs++dvs) H Q E):wpAny (model X.prog X.w) X.A (call (.ref f) us) (EP X pins σ Q) X.xe s:=by
 have r2:Vals (vs++dvs) (us++ds):=r.append hd
 have hl:(us++ds).length=ps.length:=by rw [← r2.length]; exact F.len _ _ _ _ h
 refine wpAny_call (codeAny_mono (F.run X.A X.stack s H ⟨us,[]⟩ (us++ds) (vs++dvs) Q E hr I.env0 (hb s us I.kIn hl) r2 h) fun r s' hq=>?_)
 cases r with
 | error e=>exact hx pins σ H s e s' I hq
 | ok fl =>
  cases fl with
  | ret u=>exact I.after hq
  | next=>exact False.elim hq
  | brk=>exact False.elim hq
  | cont=>exact False.elim hq
theorem pe_call (F:FnOk X.prog X.w X.K X.mg X.base CX k f fd ps sp) (hr:Room k X.A) (hg:Gl X x) (hm:X.mg x=some (.ref f)) (hk:PySem.W.keepIn X.K (.ref f)=true) (hb:Binds X.K fd ps ds) (hd:Vals dvs ds) (hx:hO CX X E)
  (ha:PA X (e :: es) t) (hdb:(x == ("__debug__":Str))=false:=by decide) (he:starEach (e :: es) X.env=(false,eval e X.env) :: starEach es X.env:=by rfl) (hpl:(backTo pos (starEach es X.env)).any (·.1)=false:=by rfl) :
  PE X (.Call (.Name x p) (e :: es) [] pos) (j5 sp dvs E t):=by
 intro pins s σ H Q I h
 refine wpAny_Call_Name_kw (oT I hg hm ?_ hdb)
 refine PySem.W.callWith_K (h₀:=X.base) I.ok.mod.kin hk (thn (ha pos pins s σ H _ I h) fun us s1 zq=>oq23 zq fun vs H1 I1 r q=>⟨I1.kIn,?_⟩) he hpl
 exact run_fn F hr hb hd hx I1 r q
theorem pe_meth {pl:Sem Bool} (he:PE X o ta) (c:Cls X.K C) (hm:Meth X.K C m f) (F:FnOk X.prog X.w X.K X.mg X.base CX k f fd ps sp) (hr:Room k X.A) (hb:Binds X.K fd ps ds) (hd:Vals dvs ds) (hx:hO CX X E) (ha:PA X (e :: es) t)
  (hst:starEach (e :: es) X.env=(false,eval e X.env) :: starEach es X.env:=by rfl) (hpl:(backTo pos (starEach es X.env)).any (·.1)=false:=by rfl)
  (ht:eval (.Call (.Attribute o m apos) (e :: es) [] pos) X.env=(do
   let ov ← eval o X.env
   standAt apos.atName
   let (f,first) ← holding [ov] (getMethod ov m pl)
   callWith pos f first (backTo pos (starEach (e :: es) X.env)) (backToKw pos (keywordEach [] X.env))):=by rfl) :
  PE X (.Call (.Attribute o m apos) (e :: es) [] pos) (ki C m sp dvs E ta t):=by
 intro pins s σ H Q I h
 refine PySem.W.methodCall_KW (pl:=pl) (thn (he pins s σ H _ I h) fun u s1 zq=>oq23 zq fun x H1 I1 rx zz=>oq34 zz fun a dx fs ex ea l q=>?_) ht
 subst ex
 obtain rfl:u=Value.ref a:=rx
 refine nN I1 ea c hm l ?_
 refine PySem.W.callWith_K (first:=[.ref a]) (h₀:=X.base) I.ok.mod.kin hm.kp (thn (ha pos pins s1 σ H1 _ I1 q) fun us s2 zq=>oq23 zq fun vs H2 I2 r q2=>⟨I2.kIn,?_⟩) hst hpl
 exact run_fn (us:=.ref a :: us) (vs:=.ref a :: vs) F hr hb hd hx I2 (.cons rfl r) q2
structure Mk (K:PySem.W.Frag) (C f:Addr):Prop where
 makes:PySem.W.makesIn K C=true
 init:PySem.W.findIn K (.ref C) "__init__"=some (some (.ref f))
 fn:PySem.W.isFn K (.ref f)=true
 kp:PySem.W.keepIn K (.ref C)=true
theorem run_make {pins:List (Addr × Obj)} {σ:St} {H:Hp} {s:Shared} {Q:VK} {us:List Value} {vs:List V} (M:Mk X.K C f) (F:FnOk X.prog X.w X.K X.mg X.base CX k f fd ps sp) (hr:Room (k+1) X.A) (hb:Binds X.K fd ps ds) (hd:Vals dvs ds)
  (hx:hO CX X E) (I:Inv X pins σ H s) (r:Vals vs us)
  (h:∀ x dx,H x=none→H dx=none→dx≠x→sp (.ref x :: (vs++dvs)) (upd (upd H dx (.own x)) x (.ins C dx [])) (fun v H2=>v=.non∧Q (.ref x) H2) E) :
  wpAny (model X.prog X.w) X.A (call (.ref C) us) (EP X pins σ Q) X.xe s:=by
 have hq:=h (s.heap.objs.size+1) s.heap.objs.size (I.hok.fresh (Nat.le_succ _)) (I.hok.fresh (nz6 _)) (nz7 (Nat.lt_succ_self _))
 have I2:=Inv.made (C:=C) I
 have r2:Vals (V.ref (s.heap.objs.size+1) :: (vs++dvs)) (Value.ref (s.heap.objs.size+1) :: (us++ds)):=.cons rfl (r.append hd)
 have hl:(Value.ref (s.heap.objs.size+1) :: us++ds).length=ps.length:=by
  have e:=r2.length
  rw [F.len _ _ _ _ hq] at e
  exact e.symm
 refine wpAny_call (make_map (f:=f) I.kIn M.makes M.init (beq_iff_eq.mp M.fn) (codeAny_mono (F.run _ X.stack _ _ ⟨Value.ref (s.heap.objs.size+1) :: us,[]⟩ (Value.ref (s.heap.objs.size+1) :: (us++ds)) _ _ E (hr.make C us [])
  (I2.env0.make C us []) (hb _ (Value.ref (s.heap.objs.size+1) :: us) I2.kIn hl) r2 hq) fun r s' hq'=>?_))
 cases r with
 | error e=>exact hx pins σ _ _ e s' I2 hq'
 | ok fl =>
  cases fl with
  | ret u =>
   refine oq24 (I2.after hq') fun v H' I3 rv ev q3=>?_
   subst ev
   exact ⟨rv,⟨V.ref (s.heap.objs.size+1),H',I3,rfl,q3⟩⟩
  | next=>exact False.elim hq'
  | brk=>exact False.elim hq'
  | cont=>exact False.elim hq'
theorem pe_make (M:Mk X.K C f) (F:FnOk X.prog X.w X.K X.mg X.base CX k f fd ps sp) (hr:Room (k+1) X.A) (hg:Gl X x) (hm:X.mg x=some (.ref C)) (hb:Binds X.K fd ps ds) (hd:Vals dvs ds) (hx:hO CX X E)
  (ha:PA X (e :: es) t) (hdb:(x == ("__debug__":Str))=false:=by decide) (he:starEach (e :: es) X.env=(false,eval e X.env) :: starEach es X.env:=by rfl) (hpl:(backTo pos (starEach es X.env)).any (·.1)=false:=by rfl) :
  PE X (.Call (.Name x p) (e :: es) [] pos) (tMake C sp dvs E t):=by
 intro pins s σ H Q I h
 refine wpAny_Call_Name_kw (oT I hg hm ?_ hdb)
 refine PySem.W.callWith_K (h₀:=X.base) I.ok.mod.kin M.kp (thn (ha pos pins s σ H _ I h) fun us s1 zq=>oq23 zq fun vs H1 I1 r q=>⟨I1.kIn,?_⟩) he hpl
 exact run_make M F hr hb hd hx I1 r q
end
section
variable {X:Cx} {CX:CXT} {k:Nat} {f C:Addr} {fd:FuncData} {ps ks:List Str} {sp:Sp} {E:XK} {x m:Str} {p pos apos kpos:Pos} {e o:Expr} {es:List Expr} {kws:List Keyword} {te ta:TE} {t tk:TA} {nm:Option Str}
variable {g:List Value→List Value→List Value} {gV:List V→List V→List V}
end
structure FnScope (N P:List Str) (sc:Scope):Prop where
 kind:sc.kind=.function
 co:sc.isCoroutine=false
 gen:sc.isGenerator=false
 nd:N.Nodup
 pre:N.take P.length=P
 par:∀ x∈P,sc.names.lookup x=some .local∨sc.names.lookup x=some .cell
 nofree:∀ y∈sc.names,y.2≠.free
theorem kj {kindOf:Str→Option NameKind} {x:Str}:∀ {binds:List (Str × Value)} {m:Str→Option Value},(∀ v,(x,v) ∉ binds)→bindL kindOf binds m x=m x
 | [],_,_=>rfl
 | (n,v) :: r,m,h=>by
  unfold bindL
  rw [kj fun w hw=>h w (List.mem_cons_of_mem _ hw)]
  split
  ·have:x≠n:=by rintro rfl; exact h v List.mem_cons_self
   simp [this]
  ·rfl
theorem km {kindOf:Str→Option NameKind} {x:Str}:∀ {binds:List (Str × Value)} {m:Str→Option Value},(∀ v,(x,v) ∉ binds)→bindC kindOf binds m x=m x
 | [],_,_=>rfl
 | (n,v) :: r,m,h=>by
  unfold bindC
  rw [km fun w hw=>h w (List.mem_cons_of_mem _ hw)]
  split
  ·rfl
  ·have:x≠n:=by rintro rfl; exact h v List.mem_cons_self
   simp [this]
theorem kn {kindOf:Str→Option NameKind} {x:Str} {v:Value}:∀ {P:List Str} {vs:List Value} {i:Nat} {m:Str→Option Value},P.Nodup→P[i]?=some x→vs[i]?=some v→kindOf x=some .local →
  bindL kindOf (P.zip vs) m x=some v
 | [],_,_,_,_,h,_,_=>by simp at h
 | _ :: _,[],_,_,_,_,h,_=>by simp at h
 | p :: P,w :: vs,0,m,nd,h1,h2,hk=>by
  simp at h1 h2; subst h1; subst h2
  show bindL kindOf ((p,w) :: P.zip vs) m p=_
  unfold bindL
  rw [kj fun v hv=>(List.nodup_cons.mp nd).1 (List.of_mem_zip hv).1,if_pos hk]
  simp
 | p :: P,w :: vs,i+1,m,nd,h1,h2,hk=>by
  show bindL kindOf ((p,w) :: P.zip vs) m x=_
  unfold bindL
  exact kn (i:=i) (List.nodup_cons.mp nd).2 (by simpa using h1) (by simpa using h2) hk
theorem ko {kindOf:Str→Option NameKind} {x:Str} {v:Value}:∀ {P:List Str} {vs:List Value} {i:Nat} {m:Str→Option Value},P.Nodup→P[i]?=some x→vs[i]?=some v→kindOf x≠some .local →
  bindC kindOf (P.zip vs) m x=some v
 | [],_,_,_,_,h,_,_=>by simp at h
 | _ :: _,[],_,_,_,_,h,_=>by simp at h
 | p :: P,w :: vs,0,m,nd,h1,h2,hk=>by
  simp at h1 h2; subst h1; subst h2
  show bindC kindOf ((p,w) :: P.zip vs) m p=_
  unfold bindC
  rw [km fun v hv=>(List.nodup_cons.mp nd).1 (List.of_mem_zip hv).1,if_neg hk]
  simp
 | p :: P,w :: vs,i+1,m,nd,h1,h2,hk=>by
  show bindC kindOf ((p,w) :: P.zip vs) m x=_
  unfold bindC
  exact ko (i:=i) (List.nodup_cons.mp nd).2 (by simpa using h1) (by simpa using h2) hk
noncomputable def start (N:List Str) (vs:List V):St:=vs.map some++List.replicate (N.length - vs.length) none
noncomputable def cxOf (CX:CXT) (P:Program) (w:World) (K:PySem.W.Frag) (mg:Str→Option Value) (base:Heap) (N:List Str) (qual:Str) (scope:Scope) (f:Addr) (cd:Value) (A:Around) (outer:List Env) (s:Shared) (H:Hp) (E:XK):Cx where
 prog:=P
 w:=w
 K:=K
 mg:=mg
 base:=base
 A:=A.deeper (envOfC qual scope s.heap.objs.size f cd)
 N:=N
 s₀:=s
 H₀:=H
 env:=envOfC qual scope s.heap.objs.size f cd
 outer:=outer
 stack:=envOfC qual scope s.heap.objs.size f cd :: outer
 ex:=[]
 calm:=true
 fn:=fun _=>true
 pn:=[]
 xe:=fun e s'=>wpAny (model P w) (A.deeper (envOfC qual scope s.heap.objs.size f cd)) (leaving (envOfC qual scope s.heap.objs.size f cd) e) (fun _ s''=>CX outer H s E e s'') (fun e' s''=>CX outer H s E e' s'') s'
theorem mv {sc:Scope} {n:Nat} {x:Str} (h:sc.names.lookup x=some .cell):∃ c,(cellsFrom n sc.names []).lookup x=some c:=by
 have q:=PySem.W.cellsFrom_some sc.names n [] (.inl h)
 exact Option.isSome_iff_exists.mp q
theorem inv_start {CX:CXT} {P:Program} {w:World} {K:PySem.W.Frag} {mg:Str→Option Value} {base:Heap} {N ps:List Str} {qual:Str} {scope:Scope} {f:Addr} {cd:Value} {A:Around} {outer:List Env} {s s1:Shared} {H:Hp} {E:XK} {us:List Value} {vs:List V}
  (S:FnScope N ps scope) (hd:A.handled=none) (e0:Env0 P w K mg base A outer s H) (hl:vs.length=ps.length) (r:Vals vs us)
  (x:InCallC s s.heap.objs.size (bindL (envOfC qual scope s.heap.objs.size f cd).kindOf (ps.zip us) fun _=>none) (cellsFrom (s.heap.objs.size+1) scope.names []) (bindC (envOfC qual scope s.heap.objs.size f cd).kindOf (ps.zip us) fun _=>none) s1) :
  Inv (cxOf CX P w K mg base N qual scope f cd A outer s H E) [] (start N vs) H s1:=by
 have hpl:ps.length≤N.length:=by have:=congrArg List.length S.pre; rw [List.length_take] at this; omega
 refine oq22 x.done fun h1 tk eq2_ hk=>?_; subst eq2_
 have noA:∀ b:Addr,b ∉ (cxOf CX P w K mg base N qual scope f cd A outer s H E).ex:=fun b z=>absurd (show b∈([]:List Addr) from z) (by simp)
 refine ⟨⟨e0.mod,S.kind,rfl,rfl,nz6 _,fun y z c h1 h2=>?_,fun y hy=>?_,fun y c _ h=>?_,fun _=>hd,Around.frames_deeper e0.frames,.inr ⟨rfl,rfl⟩,fun b z=>absurd z (noA b),e0.bs,e0.bsz,fun b _ _=>noA b,fun b z=>absurd z (noA b),e0.funs,e0.frf⟩,
  rfl,e0.bare,Un.kept hk,⟨_,x.toInCall.ns,fun i y v h1 h2 h3=>?_⟩,fun y c h=>⟨_,x.cell y c h⟩,e0.hok.fresh (nz6 _),fun y c h=>?_,fun p hp=>absurd (show p∈([]:List (Addr × Obj)) from hp) (by simp),e0.hok.kept hk,?_⟩
 ·exact name_of_addr x.apart (PySem.mem_of_lookup h1) (PySem.mem_of_lookup h2)
 ·have hy:scope.names.lookup y=some .cell∨scope.names.lookup y=some .free:=hy
  rcases hy with hy | hy
  ·exact mv hy
  ·exact absurd rfl (S.nofree _ (PySem.mem_of_lookup hy))
 ·exact nz5 (x.above y c (PySem.mem_of_lookup h))
 ·have hi:i<vs.length:=by
   unfold start at h2
   by_cases hi:i<vs.length
   ·exact hi
   ·rw [List.getElem?_append_right (by simpa using hi)] at h2
    rw [List.getElem?_replicate] at h2
    split at h2 <;> cases h2
  have ha:vs[i]?=some v:=by
   unfold start at h2
   rw [List.getElem?_append_left (by simpa using hi),List.getElem?_map] at h2
   cases e:vs[i]? with
   | none=>rw [e] at h2; cases h2
   | some a=>rw [e] at h2; cases h2; rfl
  refine oq12 (r.get ha) fun u hu rv=>?_
  have hp:ps[i]?=some y:=by
   rw [← S.pre,List.getElem?_take_of_lt (by omega)]; exact h1
  have ndP:ps.Nodup:=by rw [← S.pre]; exact S.nd.sublist (List.take_sublist _ _)
  refine ⟨u,rv,?_⟩
  rcases S.par y (List.mem_of_getElem? hp) with k | k
  ·exact .inl ⟨k,kn ndP hp hu k⟩
  ·refine oq11 (mv (n:=s.heap.objs.size+1) k) fun c e=>?_
   refine .inr ⟨.inl k,c,e,?_⟩
   have q:=x.cell y c e
   rw [ko ndP hp hu (by show scope.names.lookup y≠_; rw [k]; decide)] at q
   exact q
 ·exact e0.hok.fresh (nz5 (x.above y c (PySem.mem_of_lookup h)))
 ·unfold start
  show _=N.length
  rw [List.length_append,List.length_map,List.length_replicate]
  omega
theorem fn_of {CX:CXT} {P:Program} {w:World} {K:PySem.W.Frag} {mg:Str→Option Value} {base:Heap} {k:Nat} {f:Addr} {name qual:Str} {params:Arguments} {body:List Stmt} {scope:Scope} {dV kV doc pm cdv ct oc:Value} {an od:Option Addr}
  {osl:Array (Option Value)} {N ps:List Str} {sp:Sp} (lk:K.lookup f=some ⟨oc,od,.func (PySem.W.fnOf name qual params body scope dV kV doc pm an cdv ct),osl⟩) (hcd:PySem.W.codeIn K cdv qual=true) (S:FnScope N ps scope)
  (len:∀ vs H Q E,sp vs H Q E→vs.length=ps.length)
  (hbody:∀ (A:Around) (outer:List Env) (s:Shared) (H:Hp) (vs:List V) (Q:VK) (E:XK),Room k (A.deeper (envOfC qual scope s.heap.objs.size f cdv))→sp vs H Q E →
   ∃ t,PSs (cxOf CX P w K mg base N qual scope f cdv A outer s H E) body t∧t { nx:=fun _ H'=>Q .non H',rt:=Q } (start N vs) H) :
  FnOk P w K mg base CX (k+1) f (PySem.W.fnOf name qual params body scope dV kV doc pm an cdv ct) ps sp:=by
 refine ⟨len,fun A outer s H args us vs Q E hr e0 hb r hsp=>?_⟩
 have hl:=len _ _ _ _ hsp
 have KX:K.In s.heap:=e0.mod.kin.keeps fun b o e=>(e0.bs b o e).1
 have lim:s.heap.NoLimit:=e0.mod.nolimit.keeps fun b o e=>(e0.bs b o e).1
 have hkind:∀ y∈ps.zip us,scope.names.lookup y.1=some .local∨(scope.names.lookup y.1=some .cell∧((cellsFrom (s.heap.objs.size+1) scope.names []).lookup y.1).isSome=true):=fun ⟨n,v⟩ hy=>by
  rcases S.par n (List.of_mem_zip hy).1 with q | q
  ·exact .inl q
  ·exact .inr ⟨q,PySem.W.cellsFrom_some _ _ _ (.inl q)⟩
 refine codeAny_call_function hr.depth (KX _ _ lk) rfl S.co S.gen rfl (PySem.W.codeRec_of KX hcd) (hb _ _ _ _ ?_)
 refine wpAny_newFunctionEnv_cells S.kind hkind fun env he s1 x=>?_
 subst he
 refine ⟨lim.keeps x.toInCall.keep,codeAny_func ?_⟩
 refine oq12 (hbody A outer s H vs Q E (hr.deeper _) hsp) fun t ht hq=>?_
 have I:Inv (cxOf CX P w K mg base N qual scope f cdv A outer s H E) [] (start N vs) H s1:=inv_start S hr.hd e0 hl r x
 refine wpAny_mono (ht [] s1 (start N vs) H _ I hq) (fun fl s' hs=>?_) fun e s' hs=>hs
 have fin:∀ {σ':St} {H':Hp} {v:V} {u:Value},Inv (cxOf CX P w K mg base N qual scope f cdv A outer s H E) [] σ' H' s'→RelV v u→Q v H'→CE outer P w H s Q u s' :=
  fun {σ' H' v u} J rv q=>⟨v,H',J.os,J.bare,J.base,J.hok,rv,q⟩
 cases fl with
 | ret u =>
  refine oq33 hs fun v σ' H' J rv q=>?_
  exact fin J rv q
 | next =>
  refine oq22 hs fun σ' H' J q=>?_
  exact fin (v:=V.non) (u:=Value.none) J rfl q
 | brk =>
  refine oq22 hs fun _ _ _ q=>?_
  exact False.elim q
 | cont =>
  refine oq22 hs fun _ _ _ q=>?_
  exact False.elim q
end L2
namespace L2
open PySem PySem.Spec PyProof.Rows
section
variable {X:Cx} {x:Str} {p pos:Pos} {e:Expr} {es:List Expr} {t:TA} {id T:String} {r:List V→Hp→VK→Prop}
noncomputable def tCB (r:List V→Hp→VK→Prop) (t:TA):TE:=fun σ H Q=>t σ H fun vs H1=>r vs H1 Q
theorem aq (hc:cA X (.builtin id) r) (hg:Gl X x) (hm:X.mg x=none) (hv:bootBuiltins x=some (.builtin id)) (ha:PA X (e :: es) t) (hn:x≠"__name__":=by decide) (hdb:(x == ("__debug__":Str))=false:=by decide)
  (he:starEach (e :: es) X.env=(false,eval e X.env) :: starEach es X.env:=by rfl) (hpl:(backTo pos (starEach es X.env)).any (·.1)=false:=by rfl):PE X (.Call (.Name x p) (e :: es) [] pos) (tCB r t):=by
 intro pins s σ H Q I h
 refine wpAny_Call_Name_kw (dJ I hg hm hv ?_ hn hdb)
 exact PyProof.Rows.callWith_builtin1 (thn (ha pos pins s σ H _ I h) fun us s1 zq=>oq23 zq fun vs H1 I1 r1 q1=>hc pins s1 σ H1 vs us Q I1 r1 q1) he hpl
theorem dP (hc:cA X (.type T) r) (hg:Gl X x) (hm:X.mg x=none) (hv:bootBuiltins x=some (.type T)) (ha:PA X (e :: es) t) (hn:x≠"__name__":=by decide) (hdb:(x == ("__debug__":Str))=false:=by decide)
  (he:starEach (e :: es) X.env=(false,eval e X.env) :: starEach es X.env:=by rfl) (hpl:(backTo pos (starEach es X.env)).any (·.1)=false:=by rfl):PE X (.Call (.Name x p) (e :: es) [] pos) (tCB r t):=by
 intro pins s σ H Q I h
 refine wpAny_Call_Name_kw (dJ I hg hm hv ?_ hn hdb)
 exact PyProof.Rows.callWith_type1 (thn (ha pos pins s σ H _ I h) fun us s1 zq=>oq23 zq fun vs H1 I1 r1 q1=>hc pins s1 σ H1 vs us Q I1 r1 q1) he hpl
end
end L2
namespace HT
open PySem PyProof.Rows
noncomputable def lexLt:List Int→List Int→Bool
 | [],[]=>false
 | [],_ :: _=>true
 | _ :: _,[]=>false
 | x :: xs,y :: ys=>if x=y then lexLt xs ys else decide (x<y)
theorem nR (x y:Int) (xs ys:List Int):lexLt (x :: xs) (y :: ys)=if x=y then lexLt xs ys else decide (x<y):=rfl
theorem jU:lexLt [] []=false:=rfl
theorem j6 (y:Int) (ys:List Int):lexLt [] (y :: ys)=true:=rfl
theorem j7 (x:Int) (xs:List Int):lexLt (x :: xs) []=false:=rfl
theorem eqAt_int (A:Around) (s:Shared) (a:Int) (t:Tok) (c:Int) (u:Tok):∃ e,SeqAt.EqAt A s (.int a t) (.int c u) e∧(e=true↔a=c) :=
 ⟨(a == c),SeqAt.EqAt.int_int a t c u,by simp⟩
theorem rcLt_int (A:Around) (s:Shared) (a:Int) (t:Tok) (c:Int) (u:Tok) (prog:Program) (w:World) (E:Value→Shared→Prop) (Q:Value→Shared→Prop) (h:Q (.bool (decide (a<c))) s) :
  wpAny (model prog w) A (richCompare .Lt (.int a t) (.int c u)) Q E s :=
 (PyProof.Rows.lt_int h:wpAny (model prog w) A (compareOp .Lt (.int a t) (.int c u)) Q E s)
section
open PySem.SeqAt
open PySem.AutoSeq1 (wpAny_loadPart')
open PySem.MeetsSeq PySem.MeetsSeq2 PySem.MeetsSeq3
theorem jV (l b:Addr) (items items2:Array Value) (n n2:Nat) (dd dd2:Option Addr) (sl sl2:Array (Option Value)) (ns ms:List Int) (hi:IntsAre items.toList ns) (hj:IntsAre items2.toList ms) :
  Meets (Builtin.«tuple.__lt__» ⟨[.ref l,.ref b],[]⟩)
   (fun _ R s=>s.heap.get? l=some { cls:=.type "tuple",dict:=dd,data:=.seq items n,slots:=sl }∧s.heap.get? b=some { cls:=.type "tuple",dict:=dd2,data:=.seq items2 n2,slots:=sl2 } ∧
    R (.ok (.ret (.bool (lexLt ns ms)))) s) :=
 .of_wp fun prog w A R s h=>by
  obtain ⟨hp,g,d,tk,os⟩:=s; refine oq03 h fun hl hb h=>?_
  have f2:=AutoSeq1.sub_tuple_tuple
  have z1:items.size=ns.length:=by rw [← hi.length]; simp
  have z2:items2.size=ms.length:=by rw [← hj.length]; simp
  wp_walk using wpAny_loadPart' hl,wpAny_loadPart' hb,wpAny_forIn_list _ (fun rest b s'=>b.1=none∧s'=⟨hp,g,d,tk,os⟩∧∃ (vs ws:List Value) (ns' ms':List Int),rest=vs.zip ws ∧
   IntsAre vs ns'∧IntsAre ws ms'∧ns'.length+items2.size=ms'.length+items.size∧R (.ok (.ret (.bool (lexLt ns' ms')))) ⟨hp,g,d,tk,os⟩) _
  case turn =>
   rintro ⟨y,x⟩ rest b s' ⟨hb',rfl,vs,ws,ns',ms',hz,hvi,hwi,hlen,hR⟩
   cases hvi with
   | nil=>rw [List.zip_nil_left] at hz; cases hz
   | cons a t hvi' =>
    cases hwi with
    | nil=>rw [List.zip_nil_right] at hz; cases hz
    | cons c u hwi' =>
     rw [List.zip_cons_cons] at hz
     injection hz with hyx hrest
     injection hyx with hy hx
     subst hy hx
     rw [nR] at hR
     simp only [List.length_cons] at hlen
     refine oq12 (eqAt_int A.in1 ⟨hp,g,d,tk,os⟩ a t c u) fun e he hiff=>?_
     refine wpAny_bind (he prog w _ _ ?_)
     cases e with
     | true =>
      rw [if_pos (hiff.mp rfl)] at hR
      wp_walk
      exact ⟨rfl,rfl,_,_,_,_,hrest,hvi',hwi',by omega,hR⟩
     | false =>
      rw [if_neg (fun q=>absurd (hiff.mpr q) Bool.false_ne_true)] at hR
      have hri:=rcLt_int A.in1 ⟨hp,g,d,tk,os⟩ a t c u prog w
      wp_walk using hri
      exact ⟨_,rfl,by simpa using hR⟩
  case fin =>
   rintro ⟨b1,b2⟩ s' ⟨hb',rfl,vs,ws,ns',ms',hz,hvi,hwi,hlen,hR⟩
   simp only at hb'
   subst hb'
   have hv:lexLt ns' ms'=decide (items.size<items2.size):=by
    cases hvi with
    | nil =>
     cases hwi with
     | nil =>
      simp only [List.length_nil] at hlen
      rw [jU]
      exact (decide_eq_false (by omega)).symm
     | cons c u hw =>
      simp only [List.length_nil,List.length_cons] at hlen
      rw [j6]
      exact (decide_eq_true (by omega)).symm
    | cons a t hv =>
     cases hwi with
     | nil =>
      simp only [List.length_nil,List.length_cons] at hlen
      rw [j7]
      exact (decide_eq_false (by omega)).symm
     | cons c u hw =>
      rw [List.zip_cons_cons] at hz
      cases hz
   rw [hv] at hR
   wp_walk
   exact ⟨_,rfl,by simpa [Builtin.Tuple.tupleCompareSizes] using hR⟩
  case h =>
   exact ⟨rfl,rfl,items.toList,items2.toList,ns,ms,rfl,hi,hj,by omega,h⟩
end
section
variable {prog:Program} {w:World} {A:Around} {E:Value→Shared→Prop} {s:Shared}
theorem j9 {l b:Addr} {items items2:Array Value} {ns ms:List Int} {Q:Value→Shared→Prop} (hl:IsTup s.heap l items) (hb:IsTup s.heap b items2) (hi:IntsAre items.toList ns) (hj:IntsAre items2.toList ms)
  (hu:A.units<cLine) (h:Q (.bool (lexLt ns ms)) s):wpAny (model prog w) A (compareOp .Lt (.ref l) (.ref b)) Q E s:=by
 obtain ⟨⟨cls,dd,data,sl⟩,ho,hc,n,hd⟩:=id hl
 obtain ⟨⟨cls2,dd2,data2,sl2⟩,ho2,hc2,n2,hd2⟩:=id hb
 simp only at hc hd hc2 hd2
 subst hc hd hc2 hd2
 exact richCompare_meets_room (op:=.Lt) ⟨_,ho,rfl⟩ ⟨_,ho2,rfl⟩ PySem.F.slot_tuple_lt PySem.F.entry_tuple_lt (PySem.F.args_tuple_lt_2 _ _) (jV l b items items2 n n2 dd dd2 sl sl2 ns ms hi hj)
  ⟨ho,ho2,show Value.bool (lexLt ns ms)≠Value.notImplemented∧Q (.bool (lexLt ns ms)) s from ⟨(fun x=>nomatch x),h⟩⟩ hu
noncomputable def sIx (n d:Nat):Option Int→Nat
 | none=>d
 | some v=>if v<0 then (v+(n:Int)).toNat else min v.toNat n
theorem sIx_none (n d:Nat):sIx n d none=d:=rfl
theorem l0 (n d k:Nat):sIx n d (some (k:Int))=min k n:=by
 show (if (k:Int)<0 then ((k:Int)+(n:Int)).toNat else min (k:Int).toNat n)=min k n
 rw [if_neg (by omega),Int.toNat_natCast]
end
end HT
namespace L2
open PySem PySem.Spec PyProof.Rows
noncomputable abbrev TO:=St→Hp→(Option Int→Hp→Prop)→Prop
noncomputable def PO (X:Cx) (e:Option Expr) (t:TO):Prop :=
 ∀ (pins:List (Addr × Obj)) (s:Shared) (σ:St) (H:Hp) (Q:Option Int→Hp→Prop),Inv X pins σ H s→t σ H Q →
  wpAny (model X.prog X.w) X.A (evalPart e X.env) (fun u s'=>∃ o H',Inv X pins σ H' s'∧IsPart u o∧Q o H') X.xe s
noncomputable def tNoPart:TO:=fun _ H Q=>Q none H
noncomputable def tPart (t:TE):TO:=fun σ H Q=>t σ H fun x H1=>∃ i,x=.int i∧Q (some i) H1
theorem intsAre_of {ns:List Int}:∀ {us:List Value},Vals (ns.map V.int) us→IntsAre us ns:=by
 induction ns with
 | nil=>intro us r; rw [List.map_nil] at r; cases r; exact .nil
 | cons n ns ih =>
  intro us r
  rw [List.map_cons] at r
  cases r with
  | cons r1 r2 =>
   refine oq11 r1 fun t e=>?_
   subst e
   exact .cons n t (ih r2)
section
variable {X:Cx} {e:Expr} {te:TE} {lo hi:Option Expr} {tl th:TO} {pos p2:Pos}
theorem po_none:PO X none tNoPart:=by
 intro pins s σ H Q I h
 rw [evalPart_none]
 exact wpAny_pure ⟨none,H,I,.none,h⟩
theorem gv (h:PE X e te):PO X (some e) (tPart te):=by
 intro pins s σ H Q I hw
 rw [evalPart_some]
 refine thn (h pins s σ H _ I hw) fun u s1 zq=>oq23 zq fun x H1 I1 r1 q1=>?_
 refine oq12 q1 fun i eq1_ q=>?_; subst eq1_
 refine oq11 r1 fun t eq1_=>?_; subst eq1_
 exact ⟨some i,H1,I1,.int i t,q⟩
noncomputable def SlR (X:Cx) (r:V→Option Int→Option Int→Hp→VK→Prop):Prop :=
 ∀ (pins:List (Addr × Obj)) (s:Shared) (σ:St) (H:Hp) (x:V) (v vl vu:Value) (lo hi:Option Int) (sl:Addr) (Q:VK),Inv X pins σ H s→RelV x v→s.heap.IsSliceOf sl vl vu .none→IsPart vl lo→IsPart vu hi→r x lo hi H Q →
  ∃ T id,typeLookup (.type T) "__getitem__"=pure (some (.builtin id))∧s.TypeIs v T∧wpAny (model X.prog X.w) X.A (getItem v (.ref sl)) (EP X pins σ Q) X.xe s
noncomputable def tSl (r:V→Option Int→Option Int→Hp→VK→Prop) (te:TE) (tl th:TO):TE:=fun σ H Q=>te σ H fun x H1=>tl σ H1 fun l H2=>th σ H2 fun u H3=>r x l u H3 Q
theorem ja {r:V→Option Int→Option Int→Hp→VK→Prop} (hr:SlR X r) (he:PE X e te) (hl:PO X lo tl) (hu:PO X hi th):PE X (.Subscript e (.Slice lo hi none p2) pos) (tSl r te tl th):=by
 intro pins s σ H Q I h
 refine Subscript_ (thn (he pins s σ H _ I h) fun v s1 zq=>oq23 zq fun x H1 I1 r1 q1=>?_)
 refine wpAny_Slice (thn (hl pins s1 σ H1 _ I1 q1) fun vl s2 zq=>oq23 zq fun l H2 I2 pl q2=>thn (hu pins s2 σ H2 _ I2 q2) fun vu s3 zq=>oq23 zq fun u H3 I3 pu q3=>?_)
 rw [evalPart_none]
 refine wpAny_pure ?_
 have I4:Inv X pins σ H3 { s3 with heap:=s3.heap.push { cls:=.type "slice",data:=.fields #[vl,vu,.none] } }:=I3.kept (t':=s3.toks) fun b ob q=>Heap.get?_push_of_some _ q
 refine oq23 (hr pins { s3 with heap:=s3.heap.push { cls:=.type "slice",data:=.fields #[vl,vu,.none] } } σ H3 x v vl vu l u s3.heap.objs.size Q I4 r1 (Heap.IsSliceOf.new ..) pl pu q3) fun T id hT ht hg=>?_
 show wpAny (model X.prog X.w) X.A (subscriptTail e (.Slice lo hi none p2) v (.ref s3.heap.objs.size)) (EP X pins σ Q) X.xe { s3 with heap:=s3.heap.push { cls:=.type "slice",data:=.fields #[vl,vu,.none] } }
 exact tail_any (ops:=[.ref s3.heap.objs.size,v]) ht hT hg (by with_unfolding_all rfl)
noncomputable def cutV (xs:List V) (lo hi:Option Int):List V:=(xs.drop (HT.sIx xs.length 0 lo)).take (HT.sIx xs.length xs.length hi - HT.sIx xs.length 0 lo)
theorem mw (xs:List V) (lo hi:Option Int):(cutV xs lo hi).length≤xs.length:=by
 unfold cutV
 rw [List.length_take,List.length_drop]
 omega
noncomputable def rLtT (K:PySem.W.Frag):R2:=fun x y H Q=>∃ a b ns ms,x=.ref a∧y=.ref b∧SqT K H a (ns.map V.int)∧SqT K H b (ms.map V.int)∧Q (.bl (HT.lexLt ns ms)) H
theorem op_ltT (hu:X.A.units<cLine):OpR X (compareOp .Lt) (rLtT X.K):=by
 intro pins s σ H x y v u Q I rx ry h
 refine oq45 h fun a b ns ms eq4_ eq5_ ha hb q=>?_; subst eq4_; subst eq5_
 cases rx
 cases ry
 refine oq13 (I.tuple ha) fun its r1 p1 _=>?_
 refine oq13 (I.tuple hb) fun its2 r2 p2 _=>?_
 have i1:IntsAre its.toArray.toList ns:=intsAre_of r1
 have i2:IntsAre its2.toArray.toList ms:=intsAre_of r2
 exact HT.j9 p1 p2 i1 i2 hu ⟨.bl (HT.lexLt ns ms),H,I,rfl,q⟩
end
end L2
namespace L2
open PySem PySem.Spec PyProof.Rows
noncomputable def ixN (n:Nat) (i:Int):Option Nat:=if 0≤i then (if i<n then some i.toNat else none) else if -(n:Int)≤i then some (i+n).toNat else none
noncomputable def atI {α:Type} (xs:List α) (i:Int):Option α:=(ixN xs.length i).bind fun j=>xs[j]?
theorem ixN_seq {n:Nat} {i:Int} {j:Nat} (h:ixN n i=some j):seqIndex? i n=some j∧j<n∧-(n:Int)≤i∧i<n:=by
 unfold ixN at h
 by_cases h0:0≤i
 ·rw [if_pos h0] at h
  by_cases h1:i<n
  ·rw [if_pos h1] at h
   have e:i.toNat=j:=Option.some.inj h
   exact ⟨by rw [seqIndex_of h0 h1,e],by omega,by omega,h1⟩
  ·rw [if_neg h1] at h; cases h
 ·rw [if_neg h0] at h
  by_cases h1:-(n:Int)≤i
  ·rw [if_pos h1] at h
   have e:(i+n).toNat=j:=Option.some.inj h
   exact ⟨by rw [seqIndex_neg (by omega) h1,e],by omega,h1,by omega⟩
  ·rw [if_neg h1] at h; cases h
theorem atI_get {α:Type} {xs:List α} {i:Int} {v:α} (h:atI xs i=some v):∃ j,seqIndex? i xs.length=some j∧xs[j]?=some v∧j<xs.length∧-(xs.length:Int)≤i∧i<xs.length:=by
 unfold atI at h
 cases e:ixN xs.length i with
 | none=>rw [e] at h; cases h
 | some j =>
  rw [e] at h
  refine oq04 (ixN_seq e) fun h1 h2 h3 h4=>?_
  exact ⟨j,h1,h,h2,h3,h4⟩
noncomputable def PlainIx (b:Expr):Prop:=∀ o i,subscripted b false o i=operate [o,i] (getItem o i)
noncomputable def IxR (X:Cx) (r:R2):Prop :=
 ∀ (value slice:Expr) (pins:List (Addr × Obj)) (s:Shared) (σ:St) (H:Hp) (x y:V) (v u:Value) (Q:VK),Inv X pins σ H s→RelV x v→RelV y u→r x y H Q →
  subscripted slice false v u=operate [v,u] (getItem v u)→wpAny (model X.prog X.w) X.A (subscriptTail value slice v u) (EP X pins σ Q) X.xe s
noncomputable def MtR (X:Cx) (id:String) (r:V→List V→Hp→VK→Prop):Prop :=
 ∀ (pins:List (Addr × Obj)) (s:Shared) (σ:St) (H:Hp) (x:V) (xs:List V) (v:Value) (us:List Value) (Q:VK),Inv X pins σ H s→RelV x v→Vals xs us→r x xs H Q →
  wpAny (model X.prog X.w) X.A (call (.builtin id) (v :: us)) (EP X pins σ Q) X.xe s
section
variable {X:Cx} {a b:Expr} {ta tb:TE} {pos:Pos}
theorem aL {r:R2} (hr:IxR X r) (ha:PE X a ta) (hb:PE X b tb) (hs:PlainIx b):PE X (.Subscript a b pos) (tOp r ta tb):=by
 intro pins s σ H Q I h
 exact Subscript_ (binT ha hb I h fun v u s2 x y H2 I2 rx ry q=>hr a b pins s2 σ H2 x y v u Q I2 rx ry q (hs _ _))
noncomputable def rIxL (K:PySem.W.Frag):R2:=fun x y H Q=>∃ p xs i v,x=.ref p∧y=.int i∧SqL K H p xs∧atI xs i=some v∧Q v H
noncomputable def rIxT (K:PySem.W.Frag):R2:=fun x y H Q=>∃ p xs i v,x=.ref p∧y=.int i∧SqT K H p xs∧atI xs i=some v∧Q v H
theorem ix_list:IxR X (rIxL X.K):=by
 intro value slice pins s σ H x y v u Q I rx ry h hs
 refine oq45 h fun p xs i z eq4_ eq5_ hq he q=>?_; subst eq4_; subst eq5_
 cases rx
 refine oq11 ry fun t eq1_=>?_; subst eq1_
 refine oq13 (I.list hq) fun its r pl hz=>?_
 refine oq15 (atI_get he) fun j h1 h2 h3 h4 h5=>?_
 refine oq12 (r.get h2) fun w ew rw'=>?_
 have hl:=r.length
 have hn:=j4
 have fin:EP X pins σ Q w s:=⟨z,H,I,rw',q⟩
 by_cases h0:0≤i
 ·have hj:i.toNat=j:=by
   rw [seqIndex_of h0 h5] at h1
   exact Option.some.inj h1
  exact item_listR pl.isList h0 (by omega) (by rw [hj]; simpa using ew) fin hs
 ·have hj:(i+(its.toArray.size:Int)).toNat=j:=by
   rw [seqIndex_neg (by omega) h4] at h1
   rw [List.size_toArray,← hl]
   exact Option.some.inj h1
  exact subscriptTail_builtinR (x:=w) pl.isList.typeIs slot_list_getitem.lookup
   (wpAny_getItem_list_neg (Q:=fun r s'=>r=w∧EP X pins σ Q r s') pl.isList (by omega) (by rw [List.size_toArray] <;> omega) (by omega) (by rw [hj]; simpa using ew) ⟨rfl,fin⟩) hs
theorem ix_tup:IxR X (rIxT X.K):=by
 intro value slice pins s σ H x y v u Q I rx ry h hs
 refine oq45 h fun p xs i z eq4_ eq5_ hq he q=>?_; subst eq4_; subst eq5_
 cases rx
 refine oq11 ry fun t eq1_=>?_; subst eq1_
 refine oq13 (I.tuple hq) fun its r pl hz=>?_
 refine oq15 (atI_get he) fun j h1 h2 h3 h4 h5=>?_
 refine oq12 (r.get h2) fun w ew rw'=>?_
 have hl:=r.length
 have hn:=j4
 have fin:EP X pins σ Q w s:=⟨z,H,I,rw',q⟩
 exact subscriptTail_builtinR (x:=w) pl.typeIs slot_tuple_getitem.lookup
  (getItem_tuple (j:=j) (Q:=fun r s'=>r=w∧EP X pins σ Q r s') pl (by omega) (by omega) (by rw [List.size_toArray,← hl]; exact h1) (by simpa using ew) ⟨rfl,fin⟩) hs
theorem nS (its:List Value) (n j:Nat) (u:Value):Obj.mapSeq (·.setIfInBounds j u) { cls:=.type "list",data:=.seq its.toArray n }={ cls:=.type "list",data:=.seq (its.set j u).toArray n }:=by
 simp [Obj.mapSeq]
theorem Inv.lst {pins:List (Addr × Obj)} {σ:St} {H:Hp} {s:Shared} {p:Addr} {xs:List V} (I:Inv X pins σ H s) (h:H p=some (.lst xs)) :
  ∃ (its:List Value) (n:Nat),Vals xs its∧s.heap.get? p=some { cls:=.type "list",data:=.seq its.toArray n }∧xs.length≤sizeLine:=by
 refine oq02 (I.hok p _ h) fun z zz=>oq22 zz fun its n r e=>?_
 exact ⟨its,n,r,e,z⟩
theorem Inv.lstUpd {pins:List (Addr × Obj)} {σ:St} {H:Hp} {s:Shared} {p:Addr} {xs ys:List V} {its its':List Value} {n n':Nat} {f:Obj→Obj} (I:Inv X pins σ H s) (h:H p=some (.lst xs))
  (ho:s.heap.get? p=some { cls:=.type "list",data:=.seq its.toArray n }) (hf:f { cls:=.type "list",data:=.seq its.toArray n }={ cls:=.type "list",data:=.seq its'.toArray n' }) (r:Vals ys its') (hz:ys.length≤sizeLine) (t:Nat) :
  Inv X pins σ (upd H p (.lst ys)) { s with heap:=s.heap.update p f,toks:=t }:=by
 have e:(s.heap.update p f).get? p=some { cls:=.type "list",data:=.seq its'.toArray n' }:=by
  rw [Heap.get?_update_self f ho (by rw [hf] <;> rfl),hf]
 refine I.write (x:=p) (e:=p) (by rw [h]; trivial) (.inl rfl) (fun b u hb q=>(Heap.get?_update_other _ _ (Ne.symm hb)).trans q) ⟨_,e⟩ ?_
 exact ⟨hz,its',n',r,e⟩
noncomputable def rSetL:V→V→V→Hp→(Hp→Prop)→Prop:=fun o i v H Q=>∃ p xs k j,o=.ref p∧i=.int k∧H p=some (.lst xs)∧ixN xs.length k=some j∧Q (upd H p (.lst (xs.set j v)))
theorem set_list:PSet X rSetL:=by
 intro pins s σ H o i v ov iv u Q I ro ri rv h
 refine oq45 h fun p xs k j eq4_ eq5_ hp hj q=>?_; subst eq4_; subst eq5_
 cases ro
 refine oq11 ri fun t eq1_=>?_; subst eq1_
 refine oq23 (I.lst hp) fun its n r ho hz=>?_
 refine oq04 (ixN_seq hj) fun h1 h2 h3 h4=>?_
 have hl:=r.length
 have hn:=j4
 have I':Inv X pins σ (upd H p (.lst (xs.set j v))) { s with heap:=s.heap.update p (Obj.mapSeq (·.setIfInBounds j u)) } :=
  I.lstUpd hp ho (nS its n j u) (r.set rv j) (by rw [List.length_set]; exact hz) s.toks
 by_cases h0:0≤k
 ·have hk:k.toNat=j:=by
   rw [seqIndex_of h0 h4] at h1
   exact Option.some.inj h1
  exact PySem.W.ki_setAt ho h0 (by omega) (by rw [List.size_toArray,← hl]; exact h4) (by rw [hk]; exact ⟨_,I',q⟩)
 ·have hk:(k+(its.toArray.size:Int)).toNat=j:=by
   rw [seqIndex_neg (by omega) h3] at h1
   rw [List.size_toArray,← hl]
   exact Option.some.inj h1
  exact PySem.W.ki_setBack ho (by omega) (by rw [List.size_toArray,← hl]; exact h3) (by omega) (by rw [hk]; exact ⟨_,I',q⟩)
theorem l6 (lo hi:Option Int) (n:Nat):(sliceBounds lo hi none n).1=((HT.sIx n 0 lo:Nat):Int)∧(sliceBounds lo hi none n).2.1=((HT.sIx n n hi:Nat):Int)∧(sliceBounds lo hi none n).2.2=1:=by
 refine ⟨?_,?_,rfl⟩
 ·cases lo with
  | none=>simp [sliceBounds,HT.sIx]
  | some i =>
   simp only [sliceBounds,HT.sIx,Option.getD_none,show (1:Int) > 0 by decide,if_true]
   by_cases h:i<0
   ·simp only [h,if_true] <;> omega
   ·simp only [h,if_false] <;> omega
 ·cases hi with
  | none=>simp [sliceBounds,HT.sIx]
  | some i =>
   simp only [sliceBounds,HT.sIx,Option.getD_none,show (1:Int) > 0 by decide,if_true]
   by_cases h:i<0
   ·simp only [h,if_true] <;> omega
   ·simp only [h,if_false] <;> omega
theorem jW (its:List Value) (lo hi:Option Int):slicePick its.toArray lo hi none=((its.drop (HT.sIx its.length 0 lo)).take (HT.sIx its.length its.length hi - HT.sIx its.length 0 lo)).toArray:=by
 refine oq03 (l6 lo hi its.toArray.size) fun h1 h2 h3=>?_
 unfold slicePick
 rw [h1,h2,h3]
 simp only [sliceRange_one,pick_run,List.size_toArray] <;> rfl
noncomputable def rSlL (K:PySem.W.Frag):V→Option Int→Option Int→Hp→VK→Prop:=fun x lo hi H Q=>∃ a xs,x=.ref a∧SqL K H a xs∧∀ p,H p=none→Q (.ref p) (upd H p (.lst (cutV xs lo hi)))
theorem sl_list:SlR X (rSlL X.K):=by
 intro pins s σ H x v vl vu lo hi sl Q I rx hs pl pu h
 refine oq23 h fun a xs eq2_ hx q=>?_; subst eq2_
 cases rx
 refine oq13 (I.list hx) fun its r ht hz=>?_
 have hlen:=r.length
 refine ⟨"list",_,slot_list_getitem.lookup,ht.isList.typeIs,?_⟩
 refine wpAny_getItem_list_slice ht.isList hs pl pu .none (by simp) ?_ (by rw [List.size_toArray] <;> omega)
 rw [jW,← hlen]
 refine ⟨.ref s.heap.objs.size,_,I.laid (t':=s.toks) (o:=.lst (cutV xs lo hi)) (fun b ob q=>Heap.get?_push_of_some _ q) (nz6 _) ?_,rfl,q _ (I.hok.fresh (nz6 _))⟩
 exact ⟨nz4 (mw xs lo hi) hz,_,0,(r.drop (HT.sIx xs.length 0 lo)).take (HT.sIx xs.length xs.length hi - HT.sIx xs.length 0 lo),Heap.get?_push_size _ rfl⟩
noncomputable def fV:V→Bool
 | .non=>true
 | .bl _=>true
 | .int _=>true
 | .str _=>true
 | _=>false
noncomputable def eqV:V→V→Bool
 | .non,.non=>true
 | .bl a,.bl b=>a == b
 | .bl a,.int b=>(if a then 1 else 0) == b
 | .int a,.bl b=>a == (if b then 1 else 0)
 | .int a,.int b=>a == b
 | .str a,.str b=>a == b
 | _,_=>false
theorem eqAt_V {A:Around} {s:Shared} {y x:V} {u v:Value} (ry:RelV y u) (rx:RelV x v) (fy:fV y=true) (fx:fV x=true):SeqAt.EqAt A s u v (eqV y x):=by
 cases y with
 | non =>
  cases ry
  cases x with
  | non=>cases rx; exact SeqAt.EqAt.same _
  | bl b=>cases rx; exact SeqAt.EqAt.none_bool b
  | int b=>refine oq11 rx fun t eq1_=>?_; subst eq1_; exact SeqAt.EqAt.none_int b t
  | str b=>refine oq11 rx fun t eq1_=>?_; subst eq1_; exact SeqAt.EqAt.none_str b t
  | _=>exact absurd (show false=true from fx) Bool.false_ne_true
 | bl a =>
  cases ry
  cases x with
  | non=>cases rx; exact SeqAt.EqAt.bool_none a
  | bl b=>cases rx; exact SeqAt.EqAt.bool_bool a b
  | int b=>refine oq11 rx fun t eq1_=>?_; subst eq1_; exact SeqAt.EqAt.bool_int a b t
  | str b=>refine oq11 rx fun t eq1_=>?_; subst eq1_; exact SeqAt.EqAt.bool_str a b t
  | _=>exact absurd (show false=true from fx) Bool.false_ne_true
 | int a =>
  refine oq11 ry fun t' eq1_=>?_; subst eq1_
  cases x with
  | non=>cases rx; exact SeqAt.EqAt.int_none a t'
  | bl b=>cases rx; exact SeqAt.EqAt.int_bool a t' b
  | int b=>refine oq11 rx fun t eq1_=>?_; subst eq1_; exact SeqAt.EqAt.int_int a t' b t
  | str b=>refine oq11 rx fun t eq1_=>?_; subst eq1_; exact SeqAt.EqAt.int_str a t' b t
  | _=>exact absurd (show false=true from fx) Bool.false_ne_true
 | str a =>
  refine oq11 ry fun t' eq1_=>?_; subst eq1_
  cases x with
  | non=>cases rx; exact SeqAt.EqAt.str_none a t'
  | bl b=>cases rx; exact SeqAt.EqAt.str_bool a t' b
  | int b=>refine oq11 rx fun t eq1_=>?_; subst eq1_; exact SeqAt.EqAt.str_int a t' b t
  | str b=>refine oq11 rx fun t eq1_=>?_; subst eq1_; exact SeqAt.EqAt.str_str a t' b t
  | _=>exact absurd (show false=true from fx) Bool.false_ne_true
 | _=>exact absurd (show false=true from fy) Bool.false_ne_true
noncomputable def eqU (x:V) (u:Value):Bool:=match u with
 | .none=>eqV .non x
 | .bool b=>eqV (.bl b) x
 | .int i _=>eqV (.int i) x
 | .str z _=>eqV (.str z) x
 | _=>false
theorem eqU_of {x y:V} {u:Value} (r:RelV y u) (f:fV y=true):eqU x u=eqV y x:=by
 cases y with
 | non=>cases r; rfl
 | bl b=>cases r; rfl
 | int i=>refine oq11 r fun t eq1_=>?_; subst eq1_; rfl
 | str z=>refine oq11 r fun t eq1_=>?_; subst eq1_; rfl
 | _=>exact absurd (show false=true from f) Bool.false_ne_true
theorem gw {x:V}:∀ {xs:List V} {us:List Value},Vals xs us→xs.all fV=true→us.any (eqU x)=xs.any fun y=>eqV y x
 | _,_,.nil,_=>rfl
 | y :: xs,u :: us,.cons r t,f=>by
  rw [List.all_cons,Bool.and_eq_true] at f
  rw [List.any_cons,List.any_cons,eqU_of r f.1,gw t f.2]
theorem eV {A:Around} {s:Shared} {x:V} {v:Value} (rx:RelV x v) (fx:fV x=true):∀ {xs:List V} {us:List Value},Vals xs us→xs.all fV=true→∀ u∈us,SeqAt.EqAt A s u v (eqU x u)
 | _,_,.nil,_=>fun u hu=>by cases hu
 | y :: xs,u :: us,.cons r t,f=>fun u' hu=>by
  rw [List.all_cons,Bool.and_eq_true] at f
  rcases List.mem_cons.mp hu with rfl | hu
  ·rw [eqU_of r f.1]; exact eqAt_V r rx f.1 fx
  ·exact eV rx fx t f.2 u' hu
noncomputable def inV (x:V) (xs:List V):Bool:=xs.any fun y=>eqV y x
noncomputable def rIn (K:PySem.W.Frag) (neg:Bool):R2:=fun x y H Q=>∃ p xs,y=.ref p∧(SqL K H p xs∨SqT K H p xs)∧fV x=true∧xs.all fV=true∧Q (.bl (if neg then !inV x xs else inV x xs)) H
theorem op_in_seq:OpR X (compareOp .In) (rIn X.K false):=by
 intro pins s σ H x y v u Q I rx ry h
 refine oq25 h fun p xs eq2_ hq fx fs q=>?_; subst eq2_
 cases ry
 rcases hq with hq | hq
 ·refine oq13 (I.list hq) fun its r pl hz=>?_
  refine SeqAt.in_listAt (eqU x) pl.isList (fun w hw=>eV rx fx r fs w (by simpa using hw)) ⟨.bl _,H,I,rfl,?_⟩
  rw [show its.toArray.any (eqU x)=its.any (eqU x) by simp,gw r fs]
  exact q
 ·refine oq13 (I.tuple hq) fun its r pl hz=>?_
  refine SeqAt.in_tupleAt (eqU x) pl (fun w hw=>eV rx fx r fs w (by simpa using hw)) ⟨.bl _,H,I,rfl,?_⟩
  rw [show its.toArray.any (eqU x)=its.any (eqU x) by simp,gw r fs]
  exact q
theorem l7:OpR X (compareOp .NotIn) (rIn X.K true):=by
 intro pins s σ H x y v u Q I rx ry h
 refine oq25 h fun p xs eq2_ hq fx fs q=>?_; subst eq2_
 cases ry
 rcases hq with hq | hq
 ·refine oq13 (I.list hq) fun its r pl hz=>?_
  refine SeqAt.notIn_listAt (eqU x) pl.isList (fun w hw=>eV rx fx r fs w (by simpa using hw)) ⟨.bl _,H,I,rfl,?_⟩
  rw [show its.toArray.any (eqU x)=its.any (eqU x) by simp,gw r fs]
  exact q
 ·refine oq13 (I.tuple hq) fun its r pl hz=>?_
  refine SeqAt.notIn_tupleAt (eqU x) pl (fun w hw=>eV rx fx r fs w (by simpa using hw)) ⟨.bl _,H,I,rfl,?_⟩
  rw [show its.toArray.any (eqU x)=its.any (eqU x) by simp,gw r fs]
  exact q
theorem l8:cA X (.builtin "len") (fun xs H Q=>∃ p ys,xs=[.ref p]∧(SqL X.K H p ys∨SqT X.K H p ys)∧Q (.int ys.length) H):=by
 intro pins s σ H xs us Q I r h
 refine oq23 h fun p ys eq2_ hq q=>?_; subst eq2_
 refine oq12 (vals1 r) fun u eq1_ rx=>?_; subst eq1_
 cases rx
 have hn:=j4
 rcases hq with hq | hq
 ·refine oq13 (I.list hq) fun its r' pl hz=>?_
  have hlen:=r'.length
  exact Calls.call_len_list pl.isList (by simp only [List.size_toArray] <;> omega) ⟨.int ys.length,H,I.tok _,⟨s.toks+1,by rw [List.size_toArray,hlen]⟩,q⟩
 ·refine oq13 (I.tuple hq) fun its r' pl hz=>?_
  have hlen:=r'.length
  exact len_tuple pl (by simp only [List.size_toArray] <;> omega) ⟨.int ys.length,H,I.tok _,⟨s.toks+1,by rw [List.size_toArray,hlen]⟩,q⟩
theorem l9:cA X (.type "list") (fun xs H Q=>∃ p ys,xs=[.ref p]∧(SqL X.K H p ys∨SqT X.K H p ys)∧∀ l,H l=none→Q (.ref l) (upd H l (.lst ys))):=by
 intro pins s σ H xs us Q I r h
 refine oq23 h fun p ys eq2_ hq q=>?_; subst eq2_
 refine oq12 (vals1 r) fun u eq1_ rx=>?_; subst eq1_
 cases rx
 have fin:∀ (its:List Value),Vals ys its→ys.length≤sizeLine→∀ (h':Heap) (c':Nat),(∀ b o',s.heap.get? b=some o'→h'.get? b=some o') →
   h'.get? s.heap.objs.size=some { cls:=.type "list",dict:=none,data:=.seq its.toArray c',slots:=#[] }→EP X pins σ Q (.ref s.heap.objs.size) { s with heap:=h' }:=fun its r' hz h' c' kp e =>
  ⟨.ref s.heap.objs.size,_,I.laid (t':=s.toks) kp (nz6 _) (show bb X.prog X.w _ h' _ (.lst ys) from ⟨hz,its,c',r',e⟩),rfl,q _ (I.hok.fresh (nz6 _))⟩
 rcases hq with hq | hq
 ·refine oq13 (I.list hq) fun its r' pl hz=>?_
  have hlen:=r'.length
  refine oq13 pl.isList fun o ho hc zz=>oq11 zz fun n hd=>?_
  exact call_list_seq p (.inl rfl) ho hc hd (fun h' c' kp e=>fin its r' hz h' c' kp e) (by simp only [List.size_toArray] <;> omega)
 ·refine oq13 (I.tuple hq) fun its r' pl hz=>?_
  have hlen:=r'.length
  refine oq13 pl fun o ho hc zz=>oq11 zz fun n hd=>?_
  exact call_list_seq p (.inr rfl) ho hc hd (fun h' c' kp e=>fin its r' hz h' c' kp e) (by simp only [List.size_toArray] <;> omega)
noncomputable def tyV (K:PySem.W.Frag) (T:String) (x:V) (H:Hp):Prop:=match x with
 | .str _=>T="str"
 | .int _=>T="int"
 | .ref p=>(T="list"∧∃ xs,SqL K H p xs)∨(T="tuple"∧∃ o,K.lookup p=some o∧o.cls=.type "tuple"∧o.dict=none) ∨
   (T="dict"∧((∃ kvs,H p=some (.dK kvs))∨∃ kvs,H p=some (.dT kvs)))∨(T="set"∧∃ S n,H p=some (.set S n))
 | _=>False
theorem tyV_is {pins:List (Addr × Obj)} {σ:St} {H:Hp} {s:Shared} {T:String} {x:V} {v:Value} (I:Inv X pins σ H s) (r:RelV x v) (ty:tyV X.K T x H) :
  s.TypeIs v T∧∀ a,v=.ref a→∃ ob,s.heap.get? a=some ob∧ob.dict=none:=by
 cases x with
 | str z =>
  refine oq11 r fun t eq1_=>?_; subst eq1_
  cases (show T="str" from ty)
  exact ⟨typeIs_str s z t,fun _ e=>nomatch e⟩
 | int i =>
  refine oq11 r fun t eq1_=>?_; subst eq1_
  cases (show T="int" from ty)
  exact ⟨typeIs_int s i t,fun _ e=>nomatch e⟩
 | ref p =>
  cases r
  rcases ty with ⟨rfl,xs,hq⟩ | ⟨rfl,o,hk,hc,hd⟩ | ⟨rfl,hk⟩ | ⟨rfl,S,n,hk⟩
  ·refine oq13 (I.list hq) fun its _ pl _=>?_
   refine ⟨pl.isList.typeIs,fun a e=>?_⟩
   cases e
   refine oq24 pl fun o n e c hd _=>?_
   exact ⟨o,e,hd⟩
  ·refine ⟨⟨o,I.kIn p o hk,hc⟩,fun a e=>?_⟩
   cases e
   exact ⟨o,I.kIn _ o hk,hd⟩
  ·have z:∃ o,s.heap.get? p=some o∧o.ExactDict:=by
    rcases hk with ⟨kvs,hk⟩ | ⟨kvs,hk⟩
    ·refine oq03 (I.hok p _ hk) fun _ _ zz=>oq12 zz fun _ _ zz=>oq33 zz fun o _ _ e ex _=>?_
     exact ⟨o,e,ex⟩
    ·refine oq03 (I.hok p _ hk) fun _ _ zz=>oq12 zz fun _ _ zz=>oq33 zz fun o _ _ e ex _=>?_
     exact ⟨o,e,ex⟩
   refine oq12 z fun o e ex=>?_
   refine ⟨⟨o,e,ex.1⟩,fun a e2=>?_⟩
   cases e2
   exact ⟨o,e,ex.2.1⟩
  ·refine oq43 (I.hok p _ hk) fun o _ _ _ e ex _=>?_
   refine ⟨⟨o,e,ex.1⟩,fun a e2=>?_⟩
   cases e2
   exact ⟨o,e,ex.2.1⟩
 | _=>exact False.elim ty
noncomputable def tBM0 (K:PySem.W.Frag) (T:String) (r:V→List V→Hp→VK→Prop) (to:TE):TE:=fun σ H Q=>to σ H fun x H1=>tyV K T x H1∧r x [] H1 Q
noncomputable def tBM (K:PySem.W.Frag) (T:String) (r:V→List V→Hp→VK→Prop) (to:TE) (t:TA):TE:=fun σ H Q=>to σ H fun x H1=>tyV K T x H1∧t σ H1 fun xs H2=>r x xs H2 Q
variable {o e:Expr} {es:List Expr} {to:TE} {t:TA} {name:Str} {apos cpos:Pos} {T id:String} {r:V→List V→Hp→VK→Prop}
theorem pe_bm0 (pa:PlainAttrs T) (slot:Slot T name id) (hty:typeOf (.builtin id)=pure (.type "method_descriptor")) (hm:MtR X id r) (ho:PE X o to)
  (hbase:attributeBase o name X.env (eval o X.env)=eval o X.env:=by rfl) (hline:(apos.endLine == cpos.line)=true:=by rfl):PE X (.Call (.Attribute o name apos) [] [] cpos) (tBM0 X.K T r to):=by
 intro pins s σ H Q I h
 refine wpAny_Call_method0_late hbase hline (thn (ho pins s σ H _ I h) fun v s1 zq=>oq24 zq fun x H1 I1 r1 ty q1=>?_)
 refine oq02 (tyV_is I1 r1 ty) fun h1 h2=>?_
 exact ⟨T,id,pa,slot,hty,h1,h2,Calls.callWith_builtin rfl (PySem.evalArgs_none (hm pins s1 σ H1 x [] v [] Q I1 r1 .nil q1))⟩
theorem pe_bm (pa:PlainAttrs T) (slot:Slot T name id) (hty:typeOf (.builtin id)=pure (.type "method_descriptor")) (hm:MtR X id r) (ho:PE X o to) (ha:PA X (e :: es) t)
  (hbase:attributeBase o name X.env (eval o X.env)=eval o X.env:=by rfl)
  (hfew:((backTo cpos (starEach (e :: es) X.env)).all (fun x=>!x.1) && (backToKw cpos (keywordEach [] X.env)).all (fun x=>x.1.isSome)
   && decide ((e :: es).length+([]:List Keyword).length+(if ([]:List Keyword).isEmpty then 0 else 1)<30))=true:=by rfl)
  (hline:(apos.endLine == cpos.line)=true:=by rfl) (hs:starEach (e :: es) X.env=(false,eval e X.env) :: starEach es X.env:=by rfl) (hplain:(backTo cpos (starEach es X.env)).any (·.1)=false:=by rfl) :
  PE X (.Call (.Attribute o name apos) (e :: es) [] cpos) (tBM X.K T r to t):=by
 intro pins s σ H Q I h
 refine wpAny_Call_method_late hbase hfew hline rfl (thn (ho pins s σ H _ I h) fun v s1 zq=>oq24 zq fun x H1 I1 r1 ty q1=>?_)
 refine oq02 (tyV_is I1 r1 ty) fun h1 h2=>?_
 refine ⟨T,id,pa,slot,hty,h1,h2,?_⟩
 have hA:=ha cpos pins s1 σ H1 _ I1 q1
 rw [hs] at hA ⊢
 refine Calls.callWith_builtin (by show (false || (backTo cpos (starEach es X.env)).any (·.1))=false; rw [hplain] <;> rfl) (Calls.evalArgs_plain ?_)
 exact thn hA fun us s2 zq=>oq23 zq fun vs H2 I2 r2 q2=>hm pins s2 σ H2 x vs v us Q I2 r1 r2 q2
end
end L2
namespace L2
open PySem PySem.Spec PyProof.Rows
noncomputable def MtM (X:Cx) (id:String) (r:V→List V→Hp→VK→Prop):Prop :=
 ∀ (pins:List (Addr × Obj)) (s:Shared) (σ:St) (H:Hp) (x:V) (xs:List V) (v:Value) (us:List Value) (Q:VK),Inv X pins σ H s→RelV x v→Vals xs us→r x xs H Q →
  wpAny (model X.prog X.w) X.A (call (.builtin id) (v :: us)) (EP X pins σ Q) X.xe s
theorem Vals.one:∀ {x:V} {us:List Value},Vals [x] us→∃ u,us=[u]∧RelV x u
 | _,_,.cons r .nil=>⟨_,rfl,r⟩
theorem Vals.zero:∀ {us:List Value},Vals [] us→us=[]
 | _,.nil=>rfl
theorem Vals.dropLast {xs:List V} {us:List Value} (h:Vals xs us):Vals xs.dropLast us.dropLast:=by
 induction h with
 | nil=>exact .nil
 | cons r t ih =>
  cases t with
  | nil=>exact .nil
  | cons q t'=>exact .cons r ih
theorem Vals.eraseIdx:∀ {xs:List V} {us:List Value} (i:Nat),Vals xs us→Vals (xs.eraseIdx i) (us.eraseIdx i)
 | _,_,_,.nil=>.nil
 | _,_,0,.cons _ t=>t
 | _,_,i+1,.cons r t=>.cons r (Vals.eraseIdx i t)
theorem nT {α:Type} (l:List α):l.eraseIdx (l.length - 1)=l.dropLast:=by
 induction l with
 | nil=>rfl
 | cons a r ih =>
  cases r with
  | nil=>rfl
  | cons b r =>
   have e:(a :: b :: r).length - 1=((b :: r).length - 1)+1:=by
    have h1:(a :: b :: r).length=r.length+2:=rfl
    have h2:(b :: r).length=r.length+1:=rfl
    omega
   rw [e,List.eraseIdx_cons_succ,ih]
   all_goals rfl
theorem kq {α:Type}:∀ (l:List α) (i:Nat),(l.eraseIdx i).length≤l.length
 | [],_=>nz6 _
 | _ :: _,0=>Nat.le_succ _
 | _ :: r,i+1=>Nat.succ_le_succ (kq r i)
section
variable {X:Cx} {pins:List (Addr × Obj)} {σ:St} {H:Hp} {s:Shared} {l b:Addr} {xs ys zs:List V}
theorem Inv.lset {its its':List Value} {n:Nat} {f:Array Value→Array Value} {t':Nat} (I:Inv X pins σ H s) (hH:H l=some (.lst xs))
  (e:s.heap.get? l=some { cls:=.type "list",data:=.seq its.toArray n }) (hf:f its.toArray=its'.toArray) (hv:Vals ys its') (hz:ys.length≤sizeLine) :
  Inv X pins σ (upd H l (.lst ys)) { s with heap:=s.heap.update l (Obj.mapSeq f),toks:=t' }:=by
 have q:=PySem.IsL.update e f
 rw [hf] at q
 refine I.write (x:=l) (e:=l) (by rw [hH]; exact trivial) (.inl rfl) (fun b' u hb hu=>(Heap.get?_update_other s.heap (Obj.mapSeq f) (Ne.symm hb)).trans hu) ⟨_,q⟩ ?_
 exact ⟨hz,its',_,hv,q⟩
theorem Inv.lnew {its:List Value} {t':Nat} (I:Inv X pins σ H s) (hv:Vals ys its) (hz:ys.length≤sizeLine) :
  Inv X pins σ (upd H s.heap.objs.size (.lst ys)) { s with heap:=s.heap.push { cls:=.type "list",data:=.seq its.toArray },toks:=t' } :=
 I.laid (fun _ _ q=>Heap.get?_push_of_some _ q) (nz6 _) ⟨hz,its,0,hv,Heap.get?_push_size _ rfl⟩
theorem Inv.fresh (I:Inv X pins σ H s):H s.heap.objs.size=none:=I.hok.fresh (nz6 _)
theorem Inv.lstM (I:Inv X pins σ H s) (hH:H l=some (.lst xs)):xs.length≤sizeLine∧∃ (its:List Value) (n:Nat),Vals xs its∧xs.length=its.length∧s.heap.get? l=some { cls:=.type "list",data:=.seq its.toArray n }:=by
 refine oq02 (I.hok l _ hH) fun z zz=>oq22 zz fun its n r e=>?_
 exact ⟨z,its,n,r,r.length,e⟩
end
section
variable {X:Cx}
noncomputable def la:V→List V→Hp→VK→Prop:=fun x vs H Q=>∃ l xs y,x=.ref l∧vs=[y]∧H l=some (.lst xs)∧xs.length<sizeLine∧Q .non (upd H l (.lst (xs++[y])))
theorem cI:MtM X "list.append" la:=by
 intro pins s σ H x vs v us Q I rx rv h
 refine oq35 h fun l xs y eq3_ eq4_ hH hz q=>?_; subst eq3_; subst eq4_
 cases rx
 refine oq12 rv.one fun u eq1_ ru=>?_; subst eq1_
 refine oq02 (I.lstM hH) fun z zz=>oq23 zz fun its n r hl e=>?_
 refine call_meets F.slot_list_append ⟨_,e,rfl⟩ F.entry_list_append (F.args_list_append_2 _ _) (PySem.list_append l its.toArray n u (by rw [List.size_toArray]; omega)) ⟨e,?_⟩
 refine ⟨.non,_,I.lset (its':=its++[u]) hH e (by simp) (r.append (.cons ru .nil)) ?_,rfl,q⟩
 rw [List.length_append,List.length_singleton]
 omega
noncomputable def rPop:V→List V→Hp→VK→Prop:=fun x vs H Q=>∃ l xs y,x=.ref l∧vs=[]∧H l=some (.lst xs)∧xs[xs.length - 1]?=some y∧Q y (upd H l (.lst xs.dropLast))
theorem mt_pop:MtM X "list.pop" rPop:=by
 intro pins s σ H x vs v us Q I rx rv h
 refine oq35 h fun l xs y eq3_ eq4_ hH hy q=>?_; subst eq3_; subst eq4_
 cases rx
 have hus:=rv.zero
 subst hus
 refine oq02 (I.lstM hH) fun z zz=>oq23 zz fun its n r hl e=>?_
 refine oq12 (r.get hy) fun u hu ru=>?_
 have hy':its.toArray[its.toArray.size - 1]?=some u:=by
  show its.toArray[its.length - 1]?=some u
  rw [← Array.getElem?_toList,← hl]
  exact hu
 refine call_meets F.slot_list_pop ⟨_,e,rfl⟩ F.entry_list_pop (F.args_list_pop_1 _) (MeetsSeq.list_pop_last l its.toArray n u hy' (by rw [List.size_toArray]; omega)) ⟨e,?_⟩
 refine ⟨y,_,I.lset (its':=its.dropLast) hH e ?_ r.dropLast ?_,ru,q⟩
 ·show its.toArray.eraseIdxIfInBounds (its.toArray.size - 1)=its.dropLast.toArray
  rw [List.size_toArray,List.eraseIdxIfInBounds_toArray,nT]
 ·rw [List.length_dropLast]
  omega
noncomputable def nU:V→List V→Hp→VK→Prop:=fun x vs H Q=>∃ l xs i k y,x=.ref l∧vs=[.int i]∧H l=some (.lst xs)∧-(2 ^ 63)≤i∧i<2 ^ 63∧seqIndex? i xs.length=some k∧xs[k]?=some y∧Q y (upd H l (.lst (xs.eraseIdx k)))
theorem mt_popAt:MtM X "list.pop" nU:=by
 intro pins s σ H x vs v us Q I rx rv h
 refine oq58 h fun l xs i k y eq5_ eq6_ hH h1 h2 hk hy q=>?_; subst eq5_; subst eq6_
 cases rx
 refine oq12 rv.one fun u eq1_ ru=>?_; subst eq1_
 refine oq11 ru fun t eq1_=>?_; subst eq1_
 refine oq02 (I.lstM hH) fun z zz=>oq23 zz fun its n r hl e=>?_
 refine oq12 (r.get hy) fun w hw rw'=>?_
 refine call_meets F.slot_list_pop ⟨_,e,rfl⟩ F.entry_list_pop (F.args_list_pop_2 _ _)
  (MeetsSeq.list_pop_at l its.toArray n i t k w (fitsIndex_both h1 h2) (by rw [List.size_toArray,← hl]; exact hk) (by rw [← Array.getElem?_toList]; exact hw) (by rw [List.size_toArray]; omega)) ⟨e,?_⟩
 refine ⟨y,_,I.lset (its':=its.eraseIdx k) hH e ?_ (r.eraseIdx k) ?_,rw',q⟩
 ·show its.toArray.eraseIdxIfInBounds k=(its.eraseIdx k).toArray
  rw [List.eraseIdxIfInBounds_toArray]
 ·have:=kq xs k
  omega
noncomputable def rClear:V→List V→Hp→VK→Prop:=fun x vs H Q=>∃ l xs,x=.ref l∧vs=[]∧H l=some (.lst xs)∧Q .non (upd H l (.lst []))
theorem mt_clear:MtM X "list.clear" rClear:=by
 intro pins s σ H x vs v us Q I rx rv h
 refine oq24 h fun l xs eq2_ eq3_ hH q=>?_; subst eq2_; subst eq3_
 cases rx
 have hus:=rv.zero
 subst hus
 refine oq02 (I.lstM hH) fun z zz=>oq23 zz fun its n r hl e=>?_
 refine call_meets F.slot_list_clear ⟨_,e,rfl⟩ F.entry_list_clear (F.args_list_clear_1 _) (AutoSeq1.list_clear_list_0 l its.toArray n (by rw [List.size_toArray]; omega)) ⟨e,?_⟩
 exact ⟨.non,_,I.lset (its':=[]) (ys:=[]) hH e rfl .nil (Nat.zero_le _),rfl,q⟩
end
section
variable {prog:Program} {w:World} {A:Around} {E:Value→Shared→Prop} {s:Shared}
set_option maxRecDepth 100000 in
end
section
variable {X:Cx}
end
end L2
namespace L2
open PySem PySem.Spec PyProof.Rows
section
variable {X:Cx} {x:Str} {p pos:Pos} {e:Expr} {es:List Expr} {t:TA} {id T:String} {r:List V→Hp→VK→Prop}
end
end L2
namespace L2
open PySem PySem.Spec PyProof.Rows
section
variable {κ:Type} [DecidableEq κ]
noncomputable def valV (kvs:List (κ × V)) (k:κ):Option V:=(kvs.find? fun kv=>decide (kv.1=k)).map (·.2)
noncomputable def putK (kvs:List (κ × V)) (k:κ) (v:V):List (κ × V) :=
 if (kvs.any fun kv=>decide (kv.1=k))=true then kvs.map (fun kv=>if kv.1=k then (kv.1,v) else kv) else kvs++[(k,v)]
theorem gz {p:κ × V} {r:List (κ × V)} {k:κ} (e:p.1=k):valV (p :: r) k=some p.2:=by simp [valV,List.find?_cons,e]
theorem gA {p:κ × V} {r:List (κ × V)} {k:κ} (e:¬ p.1=k):valV (p :: r) k=valV r k:=by simp [valV,List.find?_cons,e]
theorem my (k:κ):∀ kvs:List (κ × V),(kvs.any fun kv=>decide (kv.1=k))=(valV kvs k).isSome
 | []=>rfl
 | p :: r=>by
  rw [List.any_cons]
  by_cases e:p.1=k
  ·simp only [gz e,decide_eq_true e,Bool.true_or,Option.isSome_some]
  ·rw [gA e,decide_eq_false e,Bool.false_or]; exact my k r
theorem eW (kvs:List (κ × V)) (k:κ) (v:V):(putK kvs k v).length≤kvs.length+1:=by
 unfold putK
 split
 ·rw [List.length_map]; omega
 ·rw [List.length_append,List.length_cons,List.length_nil]; omega
theorem RelO.isSome_eq {o:Option V} {u:Option Value} (r:RelO o u):o.isSome=u.isSome:=by
 cases o with
 | none=>cases u with
  | none=>rfl
  | some _=>exact (show False from r).elim
 | some _=>cases u with
  | none=>exact (show False from r).elim
  | some _=>rfl
theorem KV.val {kvs:List (κ × V)} {vs:List (κ × Value)} (r:KV kvs vs) (k:κ):RelO (valV kvs k) (valueAt vs k):=by
 unfold KV at r
 induction r with
 | nil=>exact True.intro
 | @cons p q ps qs h t ih =>
  refine oq02 h fun h1 h2=>?_
  by_cases e:p.1=k
  ·have e':q.1=k:=h1.symm.trans e
   have b:valueAt (q :: qs) k=some q.2:=by simp [valueAt,List.find?_cons,e']
   rw [gz e,b]; exact h2
  ·have e':¬ q.1=k:=fun z=>e (h1.trans z)
   have b:valueAt (q :: qs) k=valueAt qs k:=by simp [valueAt,List.find?_cons,e']
   rw [gA e,b]; exact ih
theorem KV.any {kvs:List (κ × V)} {vs:List (κ × Value)} (r:KV kvs vs) (k:κ):(kvs.any fun kv=>decide (kv.1=k))=vs.any fun kv=>decide (kv.1=k):=by
 unfold KV at r
 induction r with
 | nil=>rfl
 | cons h t ih=>rw [List.any_cons,List.any_cons,ih,h.1]
theorem KV.repl {kvs:List (κ × V)} {vs:List (κ × Value)} (r:KV kvs vs) (k:κ) {y:V} {u:Value} (ry:RelV y u) :
  KV (kvs.map fun kv=>if kv.1=k then (kv.1,y) else kv) (vs.map fun kv=>if kv.1=k then (kv.1,u) else kv):=by
 unfold KV at r ⊢
 induction r with
 | nil=>exact .nil
 | @cons p q ps qs h t ih =>
  rw [List.map_cons,List.map_cons]
  refine .cons ?_ ih
  refine oq02 h fun h1 h2=>?_
  by_cases e:p.1=k
  ·rw [if_pos e,if_pos (h1.symm.trans e)]; exact ⟨h1,ry⟩
  ·rw [if_neg e,if_neg (fun z=>e (h1.trans z))]; exact ⟨h1,h2⟩
theorem KV.put {kvs:List (κ × V)} {vs:List (κ × Value)} (r:KV kvs vs) (k:κ) {y:V} {u:Value} (ry:RelV y u):KV (putK kvs k y) (stored vs k u):=by
 unfold putK stored
 rw [r.any k]
 by_cases e:(vs.any fun kv=>decide (kv.1=k))=true
 ·rw [if_pos e,if_pos e]; exact r.repl k ry
 ·rw [if_neg e,if_neg e]; exact Paired.snoc r ⟨rfl,ry⟩
theorem KV.length {kvs:List (κ × V)} {vs:List (κ × Value)} (r:KV kvs vs):kvs.length=vs.length:=Paired.length r
end
theorem kr {P:Program} {w:World} {k:Key} {u:Value} (r:RelV (kV k) u):(aS P w).is k u=true:=by
 cases k with
 | inl i=>refine oq11 ((show ∃ t,u=Value.int i t from r)) fun t e=>?_; subst e; exact mf P w i t
 | inr x=>refine oq11 ((show ∃ t,u=Value.str x t from r)) fun t e=>?_; subst e; exact mi P w x t
theorem kt {P:Program} {w:World}:∀ {ks:List Key} {us:List Value},Vals (ks.map kV) us→ItemsAre (aS P w) ks us
 | [],_,r=>by rw [List.map_nil] at r; cases r; exact .nil
 | k :: ks,_,r=>by
  rw [List.map_cons] at r
  cases r with
  | cons h t=>exact .cons (kr h) (kt t)
noncomputable abbrev KT (H:Hp):List (List Key × V)→List (List Key × Addr × Value)→Prop:=Paired fun p q=>p.1=q.1∧H q.2.1=some (.tup (p.1.map kV))∧RelV p.2 q.2.2
theorem KT.val {H:Hp} {kvs:List (List Key × V)} {xs:List (List Key × Addr × Value)} (r:KT H kvs xs) (k:List Key):RelO (valV kvs k) ((atKey xs k).map (·.2)):=by
 induction r with
 | nil=>exact True.intro
 | @cons p q ps qs h t ih =>
  refine oq03 h fun h1 _ h2=>?_
  by_cases e:p.1=k
  ·have e':q.1=k:=h1.symm.trans e
   have b:atKey (q :: qs) k=some q.2:=by simp [atKey,List.find?_cons,e']
   rw [gz e,b]; exact h2
  ·have e':¬ q.1=k:=fun z=>e (h1.trans z)
   have b:atKey (q :: qs) k=atKey qs k:=by simp [atKey,List.find?_cons,e']
   rw [gA e,b]; exact ih
theorem KT.repl {H:Hp} {kvs:List (List Key × V)} {xs:List (List Key × Addr × Value)} (r:KT H kvs xs) (k:List Key) {y:V} {u:Value} (ry:RelV y u) :
  KT H (kvs.map fun kv=>if kv.1=k then (kv.1,y) else kv) (xs.map (putAt k u)):=by
 induction r with
 | nil=>exact .nil
 | @cons p q ps qs h t ih =>
  rw [List.map_cons,List.map_cons]
  refine .cons ?_ ih
  refine oq03 h fun h1 h2 h3=>?_
  unfold putAt
  by_cases e:p.1=k
  ·rw [if_pos e,if_pos (h1.symm.trans e)]; exact ⟨h1,h2,ry⟩
  ·rw [if_neg e,if_neg (fun z=>e (h1.trans z))]; exact ⟨h1,h2,h3⟩
theorem KT.put {H:Hp} {kvs:List (List Key × V)} {xs:List (List Key × Addr × Value)} (r:KT H kvs xs) (k:List Key) {b:Addr} {y:V} {u:Value} (hb:H b=some (.tup (k.map kV))) (ry:RelV y u) :
  KT H (putK kvs k y) (storedH xs k b u):=by
 have e:(kvs.any fun kv=>decide (kv.1=k))=(atKey xs k).isSome:=by
  rw [my,(r.val k).isSome_eq,Option.isSome_map]
 unfold putK storedH
 rw [e]
 by_cases q:(atKey xs k).isSome=true
 ·rw [if_pos q,if_pos q]; exact r.repl k ry
 ·rw [if_neg q,if_neg q]; exact Paired.snoc r ⟨rfl,hb,ry⟩
theorem KT.keeps {H H':Hp} {kvs:List (List Key × V)} {xs:List (List Key × Addr × Value)} (r:KT H kvs xs) (ht:∀ b ys,H b=some (.tup ys)→H' b=some (.tup ys)):KT H' kvs xs :=
 Paired.mapP r fun _ _ z=>⟨z.1,ht _ _ z.2.1,z.2.2⟩
section
variable {P:Program} {w:World} {H:Hp} {h:Heap} {a:Addr}
theorem rd_of {u:HO} (ok:HOk P w H h) (e:Rd H a u):bb P w H h a u:=e.ok ok
theorem ku {kvs:List (Key × V)} (ok:HOk P w H h) (e:Rd H a (.dK kvs)):kvs.length≤sizeLine∧(a == sysModules)=false∧∃ vs,KV kvs vs∧h.DictOf (aS P w) a vs :=
 show bb P w H h a (.dK kvs) from rd_of ok e
theorem dk_of {kvs:List (Key × V)} (ok:HOk P w H h) (e:H a=some (.dK kvs)):kvs.length≤sizeLine∧(a == sysModules)=false∧∃ vs,KV kvs vs∧h.DictOf (aS P w) a vs:=ku ok (.inl e)
theorem jb {ks:List Key} (ok:HOk P w H h) (e:H a=some (.tup (ks.map kV))):(tupleKind (aS P w)).is h ks a:=by
 refine oq02 ((show bb P w H h a (.tup (ks.map kV)) from ok a _ e)) fun _ zz=>oq12 zz fun its r zz=>oq13 zz fun o h1 h2 zz=>oq11 zz fun n h3=>?_
 exact ⟨o,its.toArray,n,h1,h2,h3,by simpa using kt r⟩
theorem mz {kvs:List (List Key × V)} (ok:HOk P w H h) (e:Rd H a (.dT kvs)):kvs.length≤sizeLine∧(a == sysModules)=false ∧
  ∃ xs,KT H kvs xs∧h.DictOfH (tupleKind (aS P w)) a xs:=by
 refine oq03 ((show bb P w H h a (.dT kvs) from rd_of ok e)) fun z y zz=>oq12 zz fun xs r zz=>oq35 zz fun o es ep h1 h2 h3 h4 h5=>?_
 refine ⟨z,y,xs,r,o,es,ep,h1,h2,h3,h4,fun x hx=>?_,h5⟩
 have all:∀ {l:List (List Key × V)} {m:List (List Key × Addr × Value)},KT H l m→∀ x∈m,(tupleKind (aS P w)).is h x.1 x.2.1:=by
  intro l m q
  induction q with
  | nil=>intro x hx; exact nomatch hx
  | @cons p q ps qs hq t ih =>
   intro x hx
   rcases List.mem_cons.mp hx with e | hx
   ·subst e
    exact jb ok (by rw [← hq.1]; exact hq.2.1)
   ·exact ih x hx
 exact all r x hx
theorem dt_of {kvs:List (List Key × V)} (ok:HOk P w H h) (e:H a=some (.dT kvs)):kvs.length≤sizeLine∧(a == sysModules)=false ∧
  ∃ xs,KT H kvs xs∧h.DictOfH (tupleKind (aS P w)) a xs:=mz ok (.inl e)
end
noncomputable def DGet (H:Hp) (a:Addr) (y:V) (r:Option V):Prop :=
 (∃ kvs k,Rd H a (.dK kvs)∧y=kV k∧r=valV kvs k)∨∃ kvs k b,Rd H a (.dT kvs)∧y=.ref b∧H b=some (.tup (k.map kV))∧r=valV kvs k
noncomputable def DPut (H:Hp) (a:Addr) (y v:V) (H':Hp):Prop :=
 (∃ kvs k,H a=some (.dK kvs)∧y=kV k∧kvs.length<sizeLine∧H'=upd H a (.dK (putK kvs k v))) ∨
 ∃ kvs k b,H a=some (.dT kvs)∧y=.ref b∧H b=some (.tup (k.map kV))∧kvs.length<sizeLine∧H'=upd H a (.dT (putK kvs k v))
theorem DGet.k {H:Hp} {a:Addr} {kvs:List (Key × V)} {k:Key} (e:H a=some (.dK kvs)):DGet H a (kV k) (valV kvs k):=.inl ⟨kvs,k,.inl e,rfl,rfl⟩
theorem DPut.k {H:Hp} {a:Addr} {kvs:List (Key × V)} {k:Key} {v:V} (e:H a=some (.dK kvs)) (hl:kvs.length<sizeLine):DPut H a (kV k) v (upd H a (.dK (putK kvs k v))):=.inl ⟨kvs,k,e,rfl,hl,rfl⟩
section
variable {X:Cx} {pins:List (Addr × Obj)} {σ:St} {H:Hp} {s:Shared} {a:Addr} {y v:V} {u r:Value} {o:Option V} {A:Around} {E:Value→Shared→Prop}
theorem Inv.big (I:Inv X pins σ H s):sysModules<s.heap.objs.size:=by
 have h:mainGlobals<s.heap.objs.size:=(I.mod.glob.keeps I.bk).lt
 exact nz8 (by decide) h
theorem d_getItem {Q:Value→Shared→Prop} (hu:A.units+1<cLine) (I:Inv X pins σ H s) (g:DGet H a y (some v)) (ry:RelV y u) (h:∀ w' s',Inv X pins σ H s'→RelV v w'→Q w' s') :
  wpAny (model X.prog X.w) A (getItem (.ref a) u) Q E s:=by
 rcases g with ⟨kvs,k,e,ey,l⟩ | ⟨kvs,k,b,e,ey,eb,l⟩
 ·subst ey
  refine oq03 (ku I.hok e) fun z hd zz=>oq12 zz fun vs rel dd=>?_
  refine oq12 (RelO.some_of (v:=v) (o:=valueAt vs k) (by rw [l]; exact rel.val k)) fun w' hw rw'=>?_
  exact wpAny_getItem_of (kr ry) dd.mapOf hw (h w' _ (I.tok _) rw')
 ·subst ey
  cases (show u=Value.ref b from ry)
  refine oq03 (mz I.hok e) fun z hd zz=>oq12 zz fun xs rel dd=>?_
  refine oq12 (RelO.some_of (v:=v) (o:=(atKey xs k).map (·.2)) (by rw [l]; exact rel.val k)) fun w' hw rw'=>?_
  refine oq12 (Option.map_eq_some_iff.mp hw) fun p hp hp2=>?_
  refine wpAny_getItem_heap (tupleKind_room_in1 hu) (jb I.hok eb) dd hp ?_
  rw [hp2]
  exact h w' _ (I.tok _) rw'
theorem d_in {Q:Value→Shared→Prop} (hu:A.units+1<cLine) (I:Inv X pins σ H s) (g:DGet H a y o) (ry:RelV y u) (h:∀ s',Inv X pins σ H s'→Q (.bool o.isSome) s') :
  wpAny (model X.prog X.w) A (compareOp .In u (.ref a)) Q E s:=by
 rcases g with ⟨kvs,k,e,ey,l⟩ | ⟨kvs,k,b,e,ey,eb,l⟩
 ·subst ey
  refine oq03 (ku I.hok e) fun z hd zz=>oq12 zz fun vs rel dd=>?_
  refine wpAny_in_of (kr ry) hd dd.mapOf ?_
  rw [← (rel.val k).isSome_eq,← l]
  exact h _ (I.tok _)
 ·subst ey
  cases (show u=Value.ref b from ry)
  refine oq03 (mz I.hok e) fun z hd zz=>oq12 zz fun xs rel dd=>?_
  refine wpAny_in_heap (tupleKind_room_in1 hu) (jb I.hok eb) hd dd ?_
  have q:=(rel.val k).isSome_eq
  rw [Option.isSome_map] at q
  rw [← q,← l]
  exact h _ (I.tok _)
theorem d_notIn {Q:Value→Shared→Prop} (hu:A.units+1<cLine) (I:Inv X pins σ H s) (g:DGet H a y o) (ry:RelV y u) (h:∀ s',Inv X pins σ H s'→Q (.bool (!o.isSome)) s') :
  wpAny (model X.prog X.w) A (compareOp .NotIn u (.ref a)) Q E s:=by
 rcases g with ⟨kvs,k,e,ey,l⟩ | ⟨kvs,k,b,e,ey,eb,l⟩
 ·subst ey
  refine oq03 (ku I.hok e) fun z hd zz=>oq12 zz fun vs rel dd=>?_
  refine wpAny_notIn_of (kr ry) hd dd.mapOf ?_
  rw [← (rel.val k).isSome_eq,← l]
  exact h _ (I.tok _)
 ·subst ey
  cases (show u=Value.ref b from ry)
  refine oq03 (mz I.hok e) fun z hd zz=>oq12 zz fun xs rel dd=>?_
  refine wpAny_notIn_heap (tupleKind_room_in1 hu) (jb I.hok eb) hd dd ?_
  have q:=(rel.val k).isSome_eq
  rw [Option.isSome_map] at q
  rw [← q,← l]
  exact h _ (I.tok _)
theorem lb {h':Heap} {t':Nat} {ob:HO} (I:Inv X pins σ H s) (mu:Mut (H a)) (hs:Heap.SameBut a s.heap h') (he:∃ q,h'.get? a=some q) (new:bb X.prog X.w (upd H a ob) h' a ob) :
  Inv X pins σ (upd H a ob) { s with heap:=h',toks:=t' } :=
 I.write (x:=a) (e:=a) mu (.inl rfl) (fun b q hb z=>(hs.2 b hb).trans z) he new
theorem dk_new {P:Program} {w:World} {H':Hp} {h':Heap} {kvs:List (Key × V)} {vs:List (Key × Value)} (z:kvs.length≤sizeLine) (hd:(a == sysModules)=false) (rel:KV kvs vs) (dd:h'.DictOf (aS P w) a vs) :
  bb P w H' h' a (.dK kvs):=⟨z,hd,vs,rel,dd⟩
theorem d_setItem {H':Hp} {Q:Unit→Shared→Prop} (hu:A.units+1<cLine) (I:Inv X pins σ H s) (g:DPut H a y v H') (ry:RelV y u) (rv:RelV v r) (h:∀ s',Inv X pins σ H' s'→Q () s') :
  wpAny (model X.prog X.w) A (setItem (.ref a) u r) Q E s:=by
 rcases g with ⟨kvs,k,e,ey,l,eH⟩ | ⟨kvs,k,b,e,ey,eb,l,eH⟩
 ·subst ey eH
  refine oq03 (dk_of I.hok e) fun z hd zz=>oq12 zz fun vs rel dd=>?_
  have hz:vs.length≤sizeLine:=by rw [← rel.length]; exact z
  have hl:(putK kvs k v).length≤sizeLine:=by have:=eW kvs k v; omega
  refine wpAny_setItem_pairs (hsz:=hz) (kr ry) dd fun h' dd' hs=>h _ ?_
  have he:∃ q,h'.get? a=some q:=oq32 dd' fun q _ _ hq _=>⟨q,hq⟩
  exact lb I (by rw [e]; exact True.intro) hs he (dk_new hl hd (rel.put k rv) dd')
 ·subst ey eH
  cases (show u=Value.ref b from ry)
  refine oq03 (dt_of I.hok e) fun z hd zz=>oq12 zz fun xs rel dd=>?_
  have hz:xs.length≤sizeLine:=by rw [← Paired.length rel]; exact z
  have hl:(putK kvs k v).length≤sizeLine:=by have:=eW kvs k v; omega
  refine wpAny_setItem_heap (hsz:=hz) (tupleKind_room_in1 hu) (jb I.hok eb) dd fun h' dd' hs=>h _ ?_
  refine oq36 dd' fun q es ep hq h2 h3 h4 _ h5=>?_
  refine lb I (by rw [e]; exact True.intro) hs ⟨q,hq⟩ ⟨hl,hd,_,(rel.put k eb rv).keeps fun c ys ec=>?_,q,es,ep,hq,h2,h3,h4,h5⟩
  rw [ac (ne_of ec e (fun z=>nomatch z))]
  exact ec
end
section
variable {X:Cx} {pins:List (Addr × Obj)} {σ:St} {H:Hp} {s:Shared} {a:Addr} {kvs:List (Key × V)} {k:Key} {u:Value} {A:Around} {E:Value→Shared→Prop}
theorem d_len {Q:Value→Shared→Prop} (I:Inv X pins σ H s) (e:Rd H a (.dK kvs)) (h:∀ t s',Inv X pins σ H s'→Q (.int kvs.length t) s'):wpAny (model X.prog X.w) A (call (.builtin "len") [.ref a]) Q E s:=by
 refine oq03 (ku I.hok e) fun z hd zz=>oq12 zz fun vs rel dd=>?_
 refine call_len_dict hd dd (by rw [← rel.length]; rw [sizeLine_eq] at z; omega) ?_
 rw [← rel.length]
 exact h _ _ (I.tok _)
end
noncomputable def NoSl (i:Expr):Prop:=∀ ov iv,subscripted i false ov iv=operate [ov,iv] (getItem ov iv)
theorem subD_of {prog:Program} {w:World} {A:Around} {E:Value→Shared→Prop} {s:Shared} {env:Env} {value slice:Expr} {pos:Pos} {T id:String} {Q:Value→Shared→Prop}
  (hl:typeLookup (.type T) "__getitem__"=pure (some (.builtin id))) (hs:NoSl slice)
  (h:wpAny (model prog w) A (eval value env) (fun o s₁=>wpAny (model prog w) A (eval slice env) (fun i s₂=>s₂.TypeIs o T∧wpAny (model prog w) A (getItem o i) Q E s₂) E s₁) E s) :
  wpAny (model prog w) A (eval (.Subscript value slice pos) env) Q E s:=by
 refine Subscript_ (wpAny_mono h (fun o s₁ h₁=>wpAny_mono h₁ (fun i s₂ h₂=>?_) fun _ _ x=>x) fun _ _ x=>x)
 refine oq02 h₂ fun hT h₂=>?_
 unfold subscriptTail
 refine wpAny_bind ?_
 rw [getitemInPython_of_ne hT.not_modules]
 refine wpAny_bind (wpAny_specialOf hT hl ?_)
 have fin:wpAny (model prog w) A (subscripted slice false o i) (fun r s₃=>wpAny (model prog w) A (letTemporaryGo value o r >>= fun _=>pure r) Q E s₃) E s₂:=by
  rw [hs o i]
  exact wpAny_operating (wpAny_mono h₂ (fun r s₃ h₃=>wpAny_bind (wpAny_letTemporaryGo (wpAny_pure h₃))) fun _ _ x=>x)
 first
  | exact wpAny_pure (wpAny_bind fin)
  | exact wpAny_bind (wpAny_pure (wpAny_bind fin))
  | exact wpAny_bind fin
theorem mB {X:Cx} {pins:List (Addr × Obj)} {σ:St} {H:Hp} {s:Shared} {a:Addr} {y:V} {o:Option V} (I:Inv X pins σ H s) (g:DGet H a y o):s.TypeIs (.ref a) "dict":=by
 rcases g with ⟨kvs,k,e,_,_⟩ | ⟨kvs,k,b,e,_,_,_⟩
 ·refine oq03 (ku I.hok e) fun _ _ zz=>oq12 zz fun vs _ dd=>?_
  exact dd.typeIs
 ·refine oq03 (mz I.hok e) fun _ _ zz=>oq12 zz fun xs _ dd=>?_
  exact dd.typeIs
noncomputable def tDGet (td ty:TE):TE:=fun σ H Q=>td σ H fun x H1=>ty σ H1 fun y H2=>∃ a v,x=.ref a∧DGet H2 a y (some v)∧Q v H2
noncomputable def tDNotIn (ty td:TE):TE:=fun σ H Q=>ty σ H fun y H1=>td σ H1 fun x H2=>∃ a o,x=.ref a∧DGet H2 a y o∧Q (.bl (!o.isSome)) H2
noncomputable def sDPut (td ty tv:TE):TS:=fun D σ H=>tv σ H fun v H1=>td σ H1 fun x H2=>ty σ H2 fun y H3=>∃ a H4,x=.ref a∧DPut H3 a y v H4∧D.nx σ H4
section
variable {X:Cx} {o i e value:Expr} {pos pos' tpos:Pos} {td ty tv:TE}
theorem pe_dget (hu:X.A.units+1<cLine) (ho:PE X o td) (hi:PE X i ty) (hs:NoSl i):PE X (.Subscript o i pos) (tDGet td ty):=by
 intro pins s σ H Q I h
 refine subD_of PySem.F.slot_dict_getitem.lookup hs (thn (ho pins s σ H _ I h) fun u s1 zq=>oq23 zq fun x H1 I1 rx q1=>thn (hi pins s1 σ H1 _ I1 q1) fun iv s2 zq=>oq23 zq fun y H2 I2 ry zz=>oq23 zz fun a v ex g q2=>?_)
 subst ex
 obtain rfl:u=Value.ref a:=rx
 exact ⟨mB I2 g,d_getItem hu I2 g ry fun w' s3 I3 rw'=>⟨v,H2,I3,rw',q2⟩⟩
theorem kx (hu:X.A.units+1<cLine) (hi:PE X i ty) (ho:PE X o td):PC X .NotIn i o (tDNotIn ty td):=by
 intro pins s σ H Q I h
 refine thn (hi pins s σ H _ I h) fun iv s1 zq=>oq23 zq fun y H1 I1 ry q1=>thn (ho pins s1 σ H1 _ I1 q1) fun u s2 zq=>oq23 zq fun x H2 I2 rx zz=>oq23 zz fun a ov ex g q2=>?_
 subst ex
 obtain rfl:u=Value.ref a:=rx
 exact d_notIn hu I2 g ry fun s3 I3=>⟨.bl (!ov.isSome),H2,I3,rfl,q2⟩
theorem lf (hu:X.A.units+1<cLine) (ho:PE X o td) (hi:PE X i ty) (hv:PE X value tv) (hs:swapsWith value (some (.Subscript o i pos')) pos.line X.env=pure false) :
  PS X (.Assign [.Subscript o i pos'] value pos) (sDPut td ty tv):=by
 intro pins s σ H D I h
 refine wpAny_Assign_Subscript (thn (hv pins s σ H _ I h) fun r s1 zq=>oq23 zq fun v H1 I1 rv q1=>thn (ho pins s1 σ H1 _ I1 q1) fun u s2 zq=>oq23 zq fun x H2 I2 rx q2=>thn (hi pins s2 σ H2 _ I2 q2) fun iv s3 zq=>oq23 zq fun y H3 I3 ry zz=>oq23 zz fun a H4 ex g q3=>?_) hs
 subst ex
 obtain rfl:u=Value.ref a:=rx
 exact d_setItem hu I3 g ry rv fun s4 I4=>⟨σ,H4,I4,q3⟩
end
theorem mC {P:Program} {w:World} {H:Hp} (h:Heap) (hb:sysModules<h.objs.size):bb P w H (h.push { cls:=.type "dict",data:=.dict #[] }) h.objs.size (.dK []) :=
 ⟨Nat.zero_le _,beq_eq_false_iff_ne.mpr (Ne.symm (nz7 hb)),[],.nil,Heap.DictOf.new h⟩
noncomputable def tDNewK:TE:=fun _ H Q=>∀ p,H p=none→Q (.ref p) (upd H p (.dK []))
section
variable {X:Cx} {pos:Pos}
theorem pe_dnewK:PE X (.Dict [] [] pos) tDNewK:=fun pins s σ H Q I h =>
 wpAny_Dict_empty ⟨.ref s.heap.objs.size,_,I.laid (a:=s.heap.objs.size) (o:=.dK []) (t':=s.toks) (fun _ _ q=>Heap.get?_push_of_some _ q) (nz6 _) (mC s.heap I.big),rfl,h _ (I.hok.fresh (nz6 _))⟩
end
noncomputable def nV:List (TE × TE)→St→Hp→(List (V × V)→Hp→Prop)→Prop
 | [],_,H,Q=>Q [] H
 | (tk,tv) :: r,σ,H,Q=>tk σ H fun x H1=>tv σ H1 fun y H2=>nV r σ H2 fun ps H3=>Q ((x,y) :: ps) H3
noncomputable abbrev VV:List (V × V)→List (Value × Value)→Prop:=Paired fun p q=>RelV p.1 q.1∧RelV p.2 q.2
noncomputable def PPs (X:Cx) (pos:Pos) (keys:List (Option Expr)) (values:List Expr) (trs:List (TE × TE)):Prop :=
 ∀ (pins:List (Addr × Obj)) (s:Shared) (σ:St) (H:Hp) (Q:List (V × V)→Hp→Prop),Inv X pins σ H s→nV trs σ H Q →
  wpAny (model X.prog X.w) X.A (evalPairs (pairTrees keys values X.env pos)) (fun vs s'=>∃ ps H',Inv X pins σ H' s'∧VV ps vs∧Q ps H') X.xe s
theorem pps_nil {X:Cx} {pos:Pos}:PPs X pos [] [] []:=fun pins s σ H Q I h=>pairTrees_nil_walk ⟨[],H,I,.nil,h⟩
theorem mD {X:Cx} {pos:Pos} {k v:Expr} {ks:List (Option Expr)} {vs:List Expr} {tk tv:TE} {trs:List (TE × TE)} (hk:PE X k tk) (hv:PE X v tv) (hr:PPs X pos ks vs trs) :
  PPs X pos (some k :: ks) (v :: vs) ((tk,tv) :: trs):=fun pins s σ H Q I h =>
 pairTrees_cons_walk (thn (hk pins s σ H _ I h) fun u s1 zq=>oq23 zq fun x H1 I1 rx q1=>thn (hv pins s1 σ H1 _ I1 q1) fun w2 s2 zq=>oq23 zq fun y H2 I2 ry q2 =>
  thn (hr pins s2 σ H2 _ I2 q2) fun ws s3 zq=>oq23 zq fun ps H3 I3 rel q3=>⟨(x,y) :: ps,H3,I3,.cons ⟨rx,ry⟩ rel,q3⟩)
noncomputable def eX (kvs more:List (Key × V)):List (Key × V):=more.foldl (fun acc kv=>putK acc kv.1 kv.2) kvs
theorem KV.merge:∀ {more:List (Key × V)} {rs:List (Key × Value)} {kvs:List (Key × V)} {vs:List (Key × Value)},KV more rs→KV kvs vs→KV (eX kvs more) (merged vs rs):=by
 intro more rs kvs vs r
 unfold KV at r
 induction r generalizing kvs vs with
 | nil=>intro q; exact q
 | @cons p q ps qs h t ih =>
  intro r0
  have e:KV (putK kvs p.1 p.2) (stored vs q.1 q.2):=by
   have:=r0.put p.1 h.2
   rw [← h.1]; exact this
  exact ih e
theorem fW:∀ (more kvs:List (Key × V)),(eX kvs more).length≤kvs.length+more.length
 | [],kvs=>by show kvs.length≤kvs.length+0; omega
 | p :: r,kvs=>by
  have h1:=fW r (putK kvs p.1 p.2)
  have h2:=eW kvs p.1 p.2
  show (eX (putK kvs p.1 p.2) r).length≤_
  rw [List.length_cons]; omega
theorem jc {P:Program} {w:World}:∀ {kvs:List (Key × V)} {ws:List (Value × Value)},VV (kvs.map fun kv=>(kV kv.1,kv.2)) ws→∃ rs,Carries (aS P w) ws rs∧KV kvs rs
 | [],_,r=>by rw [List.map_nil] at r; cases r; exact ⟨[],True.intro,.nil⟩
 | p :: kvs,_,r=>by
  rw [List.map_cons] at r
  cases r with
  | @cons a b as bs h t =>
   refine oq12 (jc (P:=P) (w:=w) t) fun rs c q=>?_
   obtain ⟨b1,b2⟩:=b
   exact ⟨(p.1,b2) :: rs,⟨kr h.1,rfl,c⟩,.cons ⟨rfl,h.2⟩ q⟩
noncomputable def tDisp (trs:List (TE × TE)):TE:=fun σ H Q=>∀ p,H p=none→nV trs σ (upd H p (.dK [])) fun ps H2=>H2 p=some (.dK [])∧∃ kvs:List (Key × V),ps=kvs.map (fun kv=>(kV kv.1,kv.2))∧kvs.length≤15∧Q (.ref p) (upd H2 p (.dK (eX [] kvs)))
theorem pe_disp {X:Cx} {pos:Pos} {keys:List (Option Expr)} {values:List Expr} {trs:List (TE × TE)} (h:PPs X pos keys values trs) (hall:keys.all (·.isSome)=true) (hl:keys.length=values.length) (h0:keys≠[])
  (h15:keys.length≤15):PE X (.Dict keys values pos) (tDisp trs):=by
 intro pins s σ H Q I q
 have hn:=I.hok.fresh (nz6 s.heap.objs.size)
 have I1:=I.laid (a:=s.heap.objs.size) (o:=.dK []) (h':=s.heap.push { cls:=.type "dict",data:=.dict #[] }) (t':=s.toks) (fun _ _ q=>Heap.get?_push_of_some _ q) (nz6 _) (mC s.heap I.big)
 refine wpAny_Dict_walk (knd:=aS X.prog X.w) hall hl h0 h15 (thn (h pins _ σ _ _ I1 (q _ hn)) fun ws s2 zq=>oq24 zq fun ps H2 I2 rel e zz=>oq13 zz fun kvs ep lk q2=>?_)
 subst ep
 refine oq12 (jc (P:=X.prog) (w:=X.w) rel) fun rs c rk=>?_
 refine oq03 (dk_of I2.hok e) fun z hd zz=>oq12 zz fun vs0 r0 dd=>?_
 cases r0
 refine ⟨rs,c,dd,fun h' dd' hs=>⟨.ref s.heap.objs.size,_,?_,rfl,q2⟩⟩
 have hz:(eX [] kvs).length≤sizeLine:=by
  have h1:=fW kvs []
  rw [List.length_nil] at h1
  rw [sizeLine_eq]; omega
 have he:∃ q,h'.get? s.heap.objs.size=some q:=oq32 dd' fun q _ _ hq _=>⟨q,hq⟩
 exact lb I2 (by rw [e]; exact True.intro) hs he (dk_new hz hd (rk.merge .nil) dd')
section
variable {X:Cx} {pins:List (Addr × Obj)} {σ:St} {H:Hp} {s:Shared} {a:Addr} {y d:V} {u r:Value} {o:Option V} {A:Around} {E:Value→Shared→Prop}
end
section
variable {X:Cx} {o e f:Expr} {apos cpos:Pos} {td ty tx:TE}
end
section
variable {X:Cx} {pins:List (Addr × Obj)} {σ:St} {H:Hp} {s:Shared} {a:Addr} {kvs:List (Key × V)} {A:Around} {E:Value→Shared→Prop}
end
section
variable {X:Cx} {pins:List (Addr × Obj)} {σ:St} {H:Hp} {s:Shared} {a:Addr} {y:V} {u:Value} {A:Around} {E:Value→Shared→Prop}
end
end L2
namespace Att
open PySem PySem.W PySem.Calls PyProof.Rows
theorem iF {P:Params} {h:Heap}:∀ (ns:List Int) (vs:List Value),WellAll P h vs (ns.map WData.int)→IntsAre vs ns:=by
 intro ns
 induction ns with
 | nil =>
  intro vs w
  rw [List.map_nil] at w
  cases w
  exact .nil
 | cons n ns ih =>
  intro vs w
  rw [List.map_cons] at w
  cases w with
  | cons a b =>
   cases a
   exact .cons _ _ (ih _ b)
theorem script_of {l:OpenLaw} {n:Nat} (hn:l.most=some n) {P:Params} {h:Heap} {args:List WData} {vals:List Value}
  (hpre:l.row.toRowW.claim.pre args=true) (hwl:WellAll P h vals args) :
  ∃ a vs ns,vals=[Value.ref a]∧args=[WData.list (ns.map WData.int)]∧h.get? a=some { cls:=.type "list",data:=.seq vs.toArray }∧IntsAre vs ns∧ns.length≤n:=by
 have hsh:WShape.hasAll [] args [.list .int]=true:=(pre_splitW hpre).1
 have hc:l.pre.holds [] { args:=args }=true:=(pre_splitW hpre).2
 refine oq23 (hasAllW_cons hsh) fun d r eq2_ h1 h2=>?_; subst eq2_
 obtain rfl:=hasAllW_nil h2
 refine oq12 (hasW_list h1) fun xs eq1_ h3=>?_; subst eq1_
 refine oq11 (items_int h3) fun ns eq1_=>?_; subst eq1_
 have hlen:ns.length≤n:=by
  unfold OpenLaw.pre at hc
  have h4:(WTm.not (.lt (.lit (.int (n:Int))) (.len (.arg 0)))).holds [] { args:=[.list (ns.map .int)] }=true:=by
   have h4:=(holds_andW hc).1
   rw [hn] at h4
   exact h4
  have h5:=condW_of h4 (w_not (w_lt w_lit (w_len_list (w_arg rfl))))
  rw [List.length_map] at h5
  refine Nat.le_of_not_lt fun q=>?_
  have q':(n:Int)<((ns.length:Nat):Int):=by omega
  first
   | (rw [decide_eq_true q'] at h5; exact absurd h5 (by decide))
   | (simp at h5; omega)
 cases hwl with
 | cons w1 w2 =>
  cases w2
  cases w1 with
  | list ho hall=>exact ⟨_,_,ns,rfl,rfl,ho,iF ns _ hall,hlen⟩
theorem post_true (l:OpenLaw) (args:List WData):l.row.toRowW.claim.post args (.bool true) args=true :=
 postW_of (r:=l.row.toRowW) (X:=(true == true))
  (show WShape.has [] (.bool true) .bool=true by first | rfl | decide | simp [WShape.has,WShape.arms,WShape.armsAll])
  (show (WTm.eq .res (.lit (.bool true))).value [] { args:=args,res:=some (.bool true),after:=args }=some (.bool (true == true)) from w_eq_bool (w_res rfl) w_lit) rfl
theorem mE {l:OpenLaw} {n:Nat} {q:Program} {loose:List Str} {XP:(Str→Option Value)→Heap→Prop} {YP:World→Heap→Prop} {d:DefRec}
  (hn:l.most=some n) (hdf:d.params.defaults=[])
  (call:∀ (w:World) (s₀ s₁:Shared) (mg mb:Str→Option Value) (fa:Addr) (o:Obj) (pm cd doc:Value) (a:Addr) (vs:List Value) (ns:List Int),
   Ground q loose [] XP w s₀ mg mb s₁.heap→YP w s₁.heap →
   s₁.heap.get? fa=some o→o.data=.func (docDef d.name d.params d.body d.scope pm cd doc)→s₁.heap.CodeRec cd d.name→mg d.name=some (.ref fa) →
   s₁.heap.get? a=some { cls:=.type "list",data:=.seq vs.toArray }→IntsAre vs ns→ns.length≤n→s₁.gens=#[] →
   codeAny (model l.prog w) callerA (.call (.ref fa) ⟨[.ref a],[]⟩) (fun r s'=>r=.ok (.ret (.bool true))∧OldK s₁.heap s'.heap∧s'.os=s₁.os∧AllBare s'.gens) s₁) :
  WalkO q loose XP YP l.row.toRowW d [] (fun f vs=>PySem.call f vs):=by
 intro w s₀ s₁ mg mb G Y fa o pm cd doc dV kV ho hd hcd hD hmg hg args vals as hpre hlay hrd hwl hlo
 obtain rfl:dV=.none:=Dflts.none hD hdf
 obtain rfl:kV=.none:=Dflts.noKw hD
 refine oq35 (script_of hn hpre hwl) fun a vs ns eq3_ eq4_ hobj hints hlen=>?_; subst eq3_; subst eq4_
 refine enter_call (codeAny_mono (call w s₀ s₁ mg mb fa o pm cd doc a vs ns G Y ho (fd_plain hd) hcd hmg hobj hints hlen hg) fun r s' hq=>?_)
 refine oq04 hq fun eq0_ h2 h3 h4=>?_; subst eq0_
 exact ⟨.inl ⟨.bool true,.bool true,[],rfl,fun _=>rfl,.bool true,post_true l _,fun _=>⟨List.Pairwise.nil,fun _ hm=>(nomatch hm)⟩⟩,h2,h3,h4⟩
section
variable {prog:Program} {w:World} {A:Around} {E:Value→Shared→Prop} {s:Shared} {K:Frag}
end
end Att
namespace L2
open PySem PySem.Spec PyProof.Rows
theorem dQ:∀ {vs:List Value} {ns:List Int},IntsAre vs ns→Vals (ns.map V.int) vs
 | _,_,.nil=>.nil
 | _,_,.cons n t h=>.cons ⟨t,rfl⟩ (dQ h)
noncomputable def Only (H:Hp):Prop:=∀ b,H b=none∨∃ o xs,H b=some (.frz o (.lst xs))
end L2
namespace L2
open PySem PySem.Spec PyProof.Rows
end L2
namespace L2
open PySem PySem.Spec PyProof.Rows
noncomputable def inClass (s:Stmt) (j:Nat):Stmt:=match s with
 | .ClassDef _ _ _ body _ _ _ _ _ _ _=>body.getD j (.Pass ⟨0,0,0,0⟩)
 | _=>.Pass ⟨0,0,0,0⟩
noncomputable def bz (s:Stmt):Arguments:=match s with
 | .FunctionDef _ a _ _ _ _ _ _ _ _=>a
 | _=>{ posonlyargs:=[],args:=[],vararg:=none,kwonlyargs:=[],kw_defaults:=[],kwarg:=none,defaults:=[] }
noncomputable def aO (s:Stmt):List Stmt:=match s with
 | .FunctionDef _ _ b _ _ _ _ _ _ _=>b
 | _=>[]
noncomputable def ae (s:Stmt):Scope:=match s with
 | .FunctionDef _ _ _ _ _ _ sc _ _ _=>sc
 | _=>{ kind:=.function,names:=[],isGenerator:=false,isCoroutine:=false }
noncomputable abbrev CX0:CXT:=fun _ _ _ _ _ _=>False
noncomputable abbrev E0:XK:=fun _ _ _=>False
theorem pass0 {X:Cx}:hO CX0 X E0:=fun _ _ _ _ _ _ _ h=>h.elim
structure Fun (K:PySem.W.Frag) (x qual:Str) (st:Stmt) (f:Addr) (fd:FuncData):Prop where
 ex:∃ (oc:Value) (od:Option Addr) (kV doc pm:Value) (an:Option Addr) (cdv ct:Value) (osl:Array (Option Value)),
  fd=PySem.W.fnOf x qual (bz st) (aO st) (ae st) .none kV doc pm an cdv ct∧K.lookup f=some ⟨oc,od,.func fd,osl⟩∧PySem.W.codeIn K cdv qual=true
 kp:PySem.W.keepIn K (.ref f)=true
section
variable {P:Program} {w:World} {K:PySem.W.Frag} {mg:Str→Option Value} {base:Heap}
theorem Fun.ok {x qual:Str} {st:Stmt} {f:Addr} {fd:FuncData} {N ps:List Str} {k:Nat} {sp:Sp} (F:Fun K x qual st f fd) (S:FnScope N ps (ae st)) (len:∀ vs H Q E,sp vs H Q E→vs.length=ps.length)
  (hbody:∀ (cdv:Value) (A:Around) (outer:List Env) (s:Shared) (H:Hp) (vs:List V) (Q:VK) (E:XK),Room k (A.deeper (envOfC qual (ae st) s.heap.objs.size f cdv))→sp vs H Q E →
   ∃ t,PSs (cxOf CX0 P w K mg base N qual (ae st) f cdv A outer s H E).nox (aO st) t∧t { nx:=fun _ H'=>Q .non H',rt:=Q } (start N vs) H):FnOk P w K mg base CX0 (k+1) f fd ps sp:=by
 refine oq71 F.ex fun oc od kV doc pm an cdv zz=>oq23 zz fun ct osl eq9_ lk hcd=>?_; subst eq9_
 refine fn_of lk hcd S len fun A outer s H vs Q E hr hsp=>?_
 refine oq12 (hbody cdv A outer s H vs Q E hr hsp) fun t h q=>?_
 exact ⟨t,h.nox,q⟩
theorem Fun.binds {x qual:Str} {st:Stmt} {f:Addr} {fd:FuncData} {ps:List Str} (F:Fun K x qual st f fd)
  (h:∀ (kV doc pm:Value) (an:Option Addr) (cdv ct:Value) (us:List Value),us.length=ps.length→bindArgs (PySem.W.fnOf x qual (bz st) (aO st) (ae st) .none kV doc pm an cdv ct) ⟨us,[]⟩=pure (ps.zip us)):Binds K fd ps []:=by
 refine oq71 F.ex fun oc od kV doc pm an cdv zz=>oq23 zz fun ct osl eq9_ lk hcd=>?_; subst eq9_
 exact .all (h kV doc pm an cdv ct)
theorem eD {x qual:Str} {st:Stmt} {f:Addr} {oc:Value} {od an:Option Addr} {osl:Array (Option Value)} {kV doc pm cdv ct:Value} (l:K.lookup f=some ⟨oc,od,.func (PySem.W.fnOf x qual (bz st) (aO st) (ae st) .none kV doc pm an cdv ct),osl⟩)
  (c:PySem.W.codeIn K cdv qual=true) (k:PySem.W.keepIn K (.ref f)=true):Fun K x qual st f (PySem.W.fnOf x qual (bz st) (aO st) (ae st) .none kV doc pm an cdv ct):=⟨⟨oc,od,kV,doc,pm,an,cdv,ct,osl,rfl,l,c⟩,k⟩
end
theorem ba {A:Around} {k:Nat} (hr:Room k A):A.units+1<cLine:=nz2 (Nat.add_le_add_left (by decide:1≤64) _) hr.units
section
variable {X:Cx}
theorem pv (i:Nat) {x:Str} {pos:Pos} (hN:X.N[i]?=some x:=by rfl) (hv:Vis X.env.scope x:=by first | exact Or.inl rfl | exact Or.inr (Or.inl rfl) | exact Or.inr (Or.inr rfl)) (hd:(x == ("__debug__":Str))=false:=by decide)
  (hcd:(x == ("__classdict__":Str))=false:=by decide):PE X (.Name x pos) (tVar i):=pe_var hN hv hd hcd
end
noncomputable def Same (H H':Hp):Prop:=∀ b o,H b=some o→H' b=some o
theorem Same.refl (H:Hp):Same H H:=fun _ _ h=>h
theorem Same.trans {H H1 H2:Hp} (a:Same H H1) (b:Same H1 H2):Same H H2:=fun c o h=>b c o (a c o h)
theorem Same.free {H H':Hp} (e:Same H H') {l:Addr} (h:H' l=Option.none):H l=Option.none:=by
 cases q:H l with
 | none=>rfl
 | some o =>
  rw [e l o q] at h
  cases h
theorem Same.seq {K:PySem.W.Frag} {H H':Hp} {a:Addr} {xs:List V} (e:Same H H') (h:SqL K H a xs):SqL K H' a xs:=by
 rcases h with (h | ⟨o,h⟩) | h
 ·exact .inl (.inl (e _ _ h))
 ·exact .inl (.inr ⟨o,e _ _ h⟩)
 ·exact .inr h
end L2
namespace L2
open PySem PySem.Spec PyProof.Rows
section
variable {X:Cx} {κ:Type} [DecidableEq κ]
theorem call_lenD:cA X (.builtin "len") (fun xs H Q=>∃ a kvs,xs=[V.ref a]∧H a=some (.dK kvs)∧Q (.int kvs.length) H):=by
 intro pins s σ H xs us Q I r h
 refine oq23 h fun a kvs eq2_ ha q=>?_; subst eq2_
 refine oq12 (vals1 r) fun u eq1_ ru=>?_; subst eq1_
 cases ru
 exact d_len I (.inl ha) fun t s' I'=>⟨.int kvs.length,H,I',⟨t,rfl⟩,q⟩
end
end L2
set_option maxHeartbeats 1000000
namespace Fl
noncomputable def mn (i j:Int):Int:=if j<i then j else i
noncomputable def mx (i j:Int):Int:=if j > i then j else i
noncomputable def jd (a b c:Int):Nat:=(if a<b then (b - a - 1) / c+1 else 0).toNat
noncomputable def cellAt (ns:List Int) (k:Nat):Int:=ns.getD k 0
noncomputable def mixed (n k:Int):Int:=(n % 100000000000000000000 * 40503+k * k * 2503+11) % 2147483587
noncomputable def cp (n k way:Int):Int :=
 if way=0 then mixed n k % 4 else if way=1 then mixed n k % 12 else if way=2 then n % 1000000000000000001
 else if mixed n k / 3 % 2=0 then mixed n k % 3 else 1000000000000000000 - mixed n k % 3
noncomputable def folded (hs:List Int) (c:Nat):List (List Int):=(List.range (jd 0 ((hs.length:Int) - c+1) c)).map fun i=>(hs.drop (i * c)).take c
noncomputable def dg (v:Int) (n:Nat):Int :=
 mx (if v % 5=4 then mx 1 (mn (1+v / 5 % mn 12 n) ((n:Int) / 3)) else 1+v / 5 % mn 12 n) (0 - (0 - (n:Int)) / 12)
noncomputable def cB (ns:List Int) (first:Nat):List Int:=(((ns.drop (first+1)).take 60).zipIdx).map fun p=>cp p.1 (p.2:Nat) (cellAt ns first % 5 % 4)
noncomputable def bh (ns:List Int) (first:Nat):List Int:=if cB ns first=[] then [cellAt ns first / 5 % 1000000000000000001] else cB ns first
noncomputable def floorOf (ns:List Int) (first:Nat):List (List Int):=folded (bh ns first) (dg (cellAt ns first) (bh ns first).length).toNat
theorem je (n k:Int):0≤mixed n k:=Int.emod_nonneg _ (by decide)
theorem jX (n k way:Int):0≤cp n k way∧cp n k way≤1000000000000000000:=by
 have h:=je n k
 unfold cp
 generalize mixed n k=m at *
 split
 ·omega
 ·split
  ·omega
  ·split
   ·omega
   ·split <;> omega
theorem mn12 {n:Nat} (hn:0<n):1≤mn 12 n∧mn 12 n≤12∧mn 12 n≤n:=by unfold mn; split <;> omega
theorem mx_le {a b k:Int} (h1:a≤k) (h2:b≤k):mx a b≤k:=by unfold mx; split <;> assumption
theorem le_mxl (a b:Int):a≤mx a b:=by
 unfold mx; split
 ·exact Int.le_of_lt (by assumption)
 ·exact Int.le_refl _
theorem le_mxr (a b:Int):b≤mx a b:=by
 unfold mx; split
 ·exact Int.le_refl _
 ·exact Int.not_lt.mp (by assumption)
theorem mn_lel (a b:Int):mn a b≤a:=by
 unfold mn; split
 ·exact Int.le_of_lt (by assumption)
 ·exact Int.le_refl _
theorem twelfth {n:Nat} (h2:n≤60):0 - (0 - (n:Int)) / 12≤12∧0 - (0 - (n:Int)) / 12≤n∧(n:Int)≤12 * (0 - (0 - (n:Int)) / 12):=by omega
theorem iu (v:Int) {n:Nat} (h1:0<n) (h2:n≤60):1≤dg v n∧dg v n≤12∧dg v n≤n∧(n:Int)≤12 * dg v n:=by
 refine oq03 (mn12 h1) fun a1 a2 a3=>?_
 have b1:0≤v / 5 % mn 12 n:=Int.emod_nonneg _ (Int.ne_of_gt a1)
 have b2:1+v / 5 % mn 12 n≤mn 12 n:=by rw [Int.add_comm]; exact Int.emod_lt_of_pos _ a1
 refine oq03 (twelfth h2) fun q1 q2 q3=>?_
 have p:1≤(if v % 5=4 then mx 1 (mn (1+v / 5 % mn 12 n) ((n:Int) / 3)) else 1+v / 5 % mn 12 n)∧(if v % 5=4 then mx 1 (mn (1+v / 5 % mn 12 n) ((n:Int) / 3)) else 1+v / 5 % mn 12 n)≤mn 12 n:=by
  split
  ·exact ⟨le_mxl _ _,mx_le a1 (Int.le_trans (mn_lel _ _) b2)⟩
  ·exact ⟨Int.le_add_of_nonneg_right b1,b2⟩
 unfold dg
 exact (oi04 (Int.le_trans p.1 (le_mxl _ _)) (mx_le (Int.le_trans p.2 a2) q1) (mx_le (Int.le_trans p.2 a3) q2) (Int.le_trans q3 (Int.mul_le_mul_of_nonneg_left (le_mxr _ _) (by decide))))
theorem jf {n c:Nat} (hc:0<c) (hcn:c≤n):jd 0 ((n:Int) - c+1) c=n / c:=by
 unfold jd
 rw [if_pos (by omega)]
 have e:(n:Int) - c+1 - 0 - 1=((n - c:Nat):Int):=by omega
 rw [e]
 have e2:(((n - c:Nat):Int) / (c:Int))=(((n - c) / c:Nat):Int):=by norm_cast
 rw [e2]
 have e3:n / c=(n - c) / c+1:=by
  rw [Nat.div_eq n c,if_pos ⟨hc,hcn⟩]
 rw [e3]
 generalize (n - c) / c=q
 omega
structure Shape (rows:List (List Int)) (c:Nat):Prop where
 pos:0<rows.length
 most:rows.length≤12
 cpos:0<c
 cmost:c≤12
 row:∀ r∈rows,r.length=c
 area:rows.length * c≤60
 hts:∀ r∈rows,∀ x∈r,0≤x∧x≤1000000000000000000
theorem lg {hs:List Int} {c:Nat} (hc:0<c) (hc12:c≤12) (hcn:c≤hs.length) (hn:hs.length≤60) (h12:hs.length≤12 * c+(c - 1)) (hb:∀ x∈hs,0≤x∧x≤1000000000000000000):Shape (folded hs c) c:=by
 have e:(folded hs c).length=hs.length / c:=by unfold folded; rw [List.length_map,List.length_range,jf hc hcn]
 refine ⟨?_,?_,hc,hc12,?_,?_,?_⟩
 ·rw [e]; exact Nat.div_pos hcn hc
 ·rw [e]
  have:hs.length / c<13:=(Nat.div_lt_iff_lt_mul hc).mpr (by omega)
  omega
 ·intro r hr
  unfold folded at hr
  refine oq12 (List.mem_map.mp hr) fun i hi eq2_=>?_; subst eq2_
  rw [List.mem_range,jf hc hcn] at hi
  rw [List.length_take,List.length_drop]
  have h1:(i+1) * c≤hs.length:=nz4 (Nat.mul_le_mul_right c hi) (Nat.div_mul_le_self _ _)
  rw [Nat.add_mul,Nat.one_mul] at h1
  omega
 ·rw [e]
  exact nz4 (Nat.div_mul_le_self _ _) hn
 ·intro r hr x hx
  unfold folded at hr
  refine oq12 (List.mem_map.mp hr) fun i hi eq2_=>?_; subst eq2_
  exact hb x (List.mem_of_mem_drop (List.mem_of_mem_take hx))
theorem iw (ns:List Int) (first:Nat):0<(bh ns first).length∧(bh ns first).length≤60:=by
 unfold bh
 split
 ·simp
 ·rename_i h
  refine ⟨List.length_pos_iff.mpr h,?_⟩
  unfold cB
  rw [List.length_map,List.length_zipIdx,List.length_take]
  omega
theorem jg (ns:List Int) (first:Nat):∀ x∈bh ns first,0≤x∧x≤1000000000000000000:=by
 intro x hx
 unfold bh at hx
 split at hx
 ·have e:x=cellAt ns first / 5 % 1000000000000000001:=by simpa using hx
  rw [e]; omega
 ·unfold cB at hx
  refine oq12 (List.mem_map.mp hx) fun p _ eq2_=>?_; subst eq2_
  exact jX _ _ _
theorem mF (ns:List Int) (first:Nat):Shape (floorOf ns first) (dg (cellAt ns first) (bh ns first).length).toNat:=by
 refine oq02 (iw ns first) fun h1 h2=>?_
 refine oq04 (iu (cellAt ns first) h1 h2) fun a1 a2 a3 a4=>?_
 unfold floorOf
 exact lg (by omega) (by omega) (by omega) h2 (by omega) (jg ns first)
theorem gB {i j c:Nat} (hj:j<c):(i * c+j) / c=i∧(i * c+j) % c=j:=by
 have hc:0<c:=by omega
 constructor
 ·rw [Nat.mul_comm,Nat.mul_add_div hc,Nat.div_eq_of_lt hj]; omega
 ·rw [Nat.mul_comm,Nat.mul_add_mod,Nat.mod_eq_of_lt hj]
end Fl
namespace Fl
noncomputable def dif (a b:Int):Int:=if a - b<0 then -(a - b) else a - b
theorem mG (a b:Int):dif a b=dif b a:=by unfold dif; split <;> split <;> omega
noncomputable def adj (c:Nat) (reach:Int) (x o:Nat):Bool :=
 decide (dif (o / c:Nat) (x / c:Nat)+dif (o % c:Nat) (x % c:Nat)=1∨(reach=8∧dif (o / c:Nat) (x / c:Nat)=1∧dif (o % c:Nat) (x % c:Nat)=1))
noncomputable def nbL (m c:Nat) (reach:Int) (x:Nat):List Nat:=(List.range (m * c)).filter (adj c reach x)
theorem adj_comm (c:Nat) (reach:Int) (x o:Nat):adj c reach x o=adj c reach o x:=by
 unfold adj; rw [mG (o / c:Nat),mG (o % c:Nat)]
theorem cM {m c:Nat} {reach:Int} {x o:Nat}:o∈nbL m c reach x↔o<m * c∧adj c reach x o=true:=by
 unfold nbL; rw [List.mem_filter,List.mem_range]
theorem nbL_len (m c:Nat) (reach:Int) (x:Nat):(nbL m c reach x).length≤m * c:=by
 unfold nbL
 exact nz4 (List.length_filter_le _ _) (by rw [List.length_range]; exact nz6 _)
theorem ky (p:Nat→Bool) (n:Nat):(List.range (n+1)).filter p=(List.range n).filter p++(if p n=true then [n] else []):=by
 rw [List.range_succ,List.filter_append]
 congr 1
 by_cases h:p n=true
 ·rw [if_pos h]; simp [h]
 ·rw [if_neg h]; simp [h]
theorem dR (p:Nat→Bool) (a:Nat):∀ (b:Nat),a≤b→(∀ i,a≤i→i<b→p i=false)→(List.range b).filter p=(List.range a).filter p
 | 0,h,_=>by
  have:a=0:=Nat.le_antisymm h (Nat.zero_le _)
  subst this; rfl
 | b+1,h,hp=>by
  by_cases e:a=b+1
  ·subst e; rfl
  ·rw [ky,dR p a b (by omega) fun i h1 h2=>hp i h1 (by exact nz8 h2 (Nat.lt_succ_self _)),hp b (by omega) (by exact Nat.lt_succ_self _)]
   simp
theorem adj_at {c k:Nat} (hk:k<c) (reach:Int) (x r:Nat):adj c reach x (r * c+k)=decide (dif (r:Nat) (x / c:Nat)+dif (k:Nat) (x % c:Nat)=1∨(reach=8∧dif (r:Nat) (x / c:Nat)=1∧dif (k:Nat) (x % c:Nat)=1)):=by
 refine oq02 (gB (i:=r) hk) fun e1 e2=>?_
 unfold adj
 rw [e1,e2]
theorem iy {c:Nat} (hc:0<c) {reach:Int} {x o:Nat} (h:o / c+1<x / c∨x / c+1<o / c):adj c reach x o=false:=by
 unfold adj
 rw [decide_eq_false_iff_not]
 unfold dif
 split <;> split <;> omega
theorem iz {c:Nat} {reach:Int} {x o:Nat} (h:o % c+1<x % c∨x % c+1<o % c):adj c reach x o=false:=by
 unfold adj
 rw [decide_eq_false_iff_not]
 unfold dif
 split <;> split <;> omega
end Fl
namespace Gr
inductive Rch (nb:Nat→Nat→Prop) (ok:Nat→Prop) (x:Nat):Nat→Prop where
 | here:Rch nb ok x x
 | on {y z:Nat}:Rch nb ok x y→nb y z→ok z→Rch nb ok x z
section
variable {nb:Nat→Nat→Prop} {ok:Nat→Prop} {x y z:Nat}
theorem Rch.closed {S:Nat→Prop} (hx:S x) (hc:∀ y z,S y→nb y z→ok z→S z) (h:Rch nb ok x y):S y:=by
 induction h with
 | here=>exact hx
 | on _ h1 h2 ih=>exact hc _ _ ih h1 h2
theorem Rch.trans (h:Rch nb ok x y) (h':Rch nb ok y z):Rch nb ok x z:=by
 induction h' with
 | here=>exact h
 | on _ h1 h2 ih=>exact .on ih h1 h2
theorem Rch.ok_ (hx:ok x) (h:Rch nb ok x y):ok y:=by
 cases h with
 | here=>exact hx
 | on _ _ h=>exact h
theorem Rch.symm (sy:∀ a b,nb a b→nb b a) (hx:ok x) (h:Rch nb ok x y):Rch nb ok y x:=by
 induction h with
 | here=>exact .here
 | on h1 h2 h3 ih=>exact Rch.trans (.on .here (sy _ _ h2) (h1.ok_ hx)) ih
theorem Rch.mono {nb':Nat→Nat→Prop} {ok':Nat→Prop} (h1:∀ a b,nb a b→ok b→nb' a b∧ok' b) (h:Rch nb ok x y):Rch nb' ok' x y:=by
 induction h with
 | here=>exact .here
 | on _ h2 h3 ih=>exact .on ih (h1 _ _ h2 h3).1 (h1 _ _ h2 h3).2
end
theorem bD:∀ (n:Nat) {l:List Nat},l.Nodup→(∀ x∈l,x<n)→l.length≤n
 | 0,l,_,h=>by
  cases l with
  | nil=>exact nz6 _
  | cons a l=>exact absurd (h a (List.mem_cons.mpr (.inl rfl))) (Nat.not_lt_zero _)
 | n+1,l,hn,h=>by
  have h1:=bD n (l:=l.erase n) (hn.erase n) fun x hx=>by
   have:=(hn.mem_erase_iff).mp hx
   have:=h x this.2
   have:x≠n:=(hn.mem_erase_iff.mp hx).1
   omega
  rw [List.length_erase] at h1
  split at h1
  ·omega
  ·exact nz5 (nz2 h1 (Nat.lt_succ_self _))
structure Sea (nb:Nat→List Nat) (ok:Nat→Bool) (x:Nat) (ks ws:List Nat):Prop where
 nd:ks.Nodup
 x_in:x∈ks
 rch:∀ k∈ks,Rch (fun a b=>b∈nb a) (fun a=>ok a=true) x k
 sub:∀ w∈ws,w∈ks
 clo:∀ k∈ks,k ∉ ws→∀ o∈nb k,ok o=true→o∈ks
structure SeaAt (nb:Nat→List Nat) (ok:Nat→Bool) (x u:Nat) (done ks ws:List Nat):Prop where
 nd:ks.Nodup
 x_in:x∈ks
 rch:∀ k∈ks,Rch (fun a b=>b∈nb a) (fun a=>ok a=true) x k
 sub:∀ w∈ws,w∈ks
 clo:∀ k∈ks,k ∉ ws→k≠u→∀ o∈nb k,ok o=true→o∈ks
 u_in:u∈ks
 dn:∀ o∈done,ok o=true→o∈ks
section
variable {nb:Nat→List Nat} {ok:Nat→Bool} {x u o:Nat} {done ks ws:List Nat}
theorem Sea.start:Sea nb ok x [x] [x]:=⟨by simp,by simp,fun k hk=>by simp at hk; subst hk; exact .here,fun w hw=>hw,fun k hk hn=>absurd hk hn⟩
theorem Sea.take {ws':List Nat} (s:Sea nb ok x ks ws) (hu:u∈ws) (hw:∀ w∈ws,w=u∨w∈ws') (hs:∀ w∈ws',w∈ws):SeaAt nb ok x u [] ks ws' :=
 ⟨s.nd,s.x_in,s.rch,fun w h=>s.sub w (hs w h),fun k hk hn hne o ho=>s.clo k hk (fun z=>(hw k z).elim hne hn) o ho,s.sub u hu,fun _ h=>nomatch h⟩
theorem SeaAt.skip (s:SeaAt nb ok x u done ks ws) (h:ok o=true→o∈ks):SeaAt nb ok x u (done++[o]) ks ws :=
 ⟨s.nd,s.x_in,s.rch,s.sub,s.clo,s.u_in,fun p hp=>by
  rcases List.mem_append.mp hp with z | z
  ·exact s.dn p z
  ·rw [List.mem_singleton.mp z]; exact h⟩
theorem SeaAt.add {ws':List Nat} (s:SeaAt nb ok x u done ks ws) (ho:o∈nb u) (hok:ok o=true) (hn:o ∉ ks) (hw:∀ w,w∈ws'↔w∈ws∨w=o):SeaAt nb ok x u (done++[o]) (ks++[o]) ws':=by
 refine ⟨?_,List.mem_append_left _ s.x_in,fun k hk=>?_,fun w h=>?_,fun k hk hnk hne p hp hp'=>?_,List.mem_append_left _ s.u_in,fun p hp hp'=>?_⟩
 ·rw [List.nodup_append]
  exact ⟨s.nd,by simp,fun a ha b hb=>by rw [List.mem_singleton.mp hb]; rintro rfl; exact hn ha⟩
 ·rcases List.mem_append.mp hk with z | z
  ·exact s.rch k z
  ·rw [List.mem_singleton.mp z]; exact .on (s.rch u s.u_in) ho hok
 ·rcases (hw w).mp h with z | z
  ·exact List.mem_append_left _ (s.sub w z)
  ·rw [z]; exact List.mem_append_right _ (by simp)
 ·rcases List.mem_append.mp hk with z | z
  ·exact List.mem_append_left _ (s.clo k z (fun q=>hnk ((hw k).mpr (.inl q))) hne p hp hp')
  ·exact absurd ((hw k).mpr (.inr (List.mem_singleton.mp z))) hnk
 ·rcases List.mem_append.mp hp with z | z
  ·exact List.mem_append_left _ (s.dn p z hp')
  ·exact List.mem_append_right _ z
theorem SeaAt.fin (s:SeaAt nb ok x u (nb u) ks ws):Sea nb ok x ks ws :=
 ⟨s.nd,s.x_in,s.rch,s.sub,fun k hk hn o ho hok=>by
  by_cases e:k=u
  ·subst e; exact s.dn o ho hok
  ·exact s.clo k hk hn e o ho hok⟩
theorem Sea.all (s:Sea nb ok x ks []) {y:Nat}:y∈ks↔Rch (fun a b=>b∈nb a) (fun a=>ok a=true) x y :=
 ⟨s.rch y,fun h=>h.closed (S:=fun z=>z∈ks) s.x_in fun a b ha hb hok=>s.clo a ha (by simp) b hb hok⟩
end
end Gr
namespace Gr
noncomputable def Lv (n:Nat) (ρ:Nat→Nat) (k:Nat) (z:Nat):Prop:=z<n∧ρ z<k
structure Fst (A:Nat→Nat→Prop) (n:Nat) (ρ:Nat→Nat) (k x r:Nat):Prop where
 rch:Rch A (Lv n ρ k) x r
 lv:Lv n ρ k r
 min:∀ y,Rch A (Lv n ρ k) x y→ρ r≤ρ y
inductive Liv (par:Nat→Option (Nat × Nat)):Nat→Nat→Prop where
 | root {s:Nat}:par s=none→Liv par s s
 | up {s m e r:Nat}:par s=some (m,e)→Liv par e r→Liv par s r
section
variable {A:Nat→Nat→Prop} {n:Nat} {ρ:Nat→Nat} {k:Nat} {par par':Nat→Option (Nat × Nat)}
theorem Liv.det {s r r':Nat} (h:Liv par s r) (h':Liv par s r'):r=r':=by
 induction h with
 | root e=>cases h' with
  | root=>rfl
  | up e'=>rw [e] at e'; cases e'
 | up e _ ih=>cases h' with
  | root e'=>rw [e] at e'; cases e'
  | up e' q=>rw [e] at e'; cases e'; exact ih q
theorem Liv.end_ {s r:Nat} (h:Liv par s r):par r=none:=by
 induction h with
 | root e=>exact e
 | up _ _ ih=>exact ih
theorem Liv.more {s r r':Nat} (hp:∀ z,par z≠none→par' z=par z) (h:Liv par s r) (h':Liv par' r r'):Liv par' s r':=by
 induction h with
 | root=>exact h'
 | up e _ ih=>exact .up ((hp _ (by rw [e]; exact nofun)).trans e) (ih h')
theorem Lv.up {z:Nat} (h:Lv n ρ k z):Lv n ρ (k+1) z:=⟨h.1,by have:=h.2; exact nz8 this (Nat.lt_succ_self _)⟩
theorem Rch.up {x y:Nat} (h:Rch A (Lv n ρ k) x y):Rch A (Lv n ρ (k+1)) x y:=h.mono fun _ _ h1 h2=>⟨h1,h2.up⟩
theorem Fst.same (inj:∀ x y,x<n→y<n→ρ x=ρ y→x=y) {x r r':Nat} (h:Fst A n ρ k x r) (h':Fst A n ρ k x r'):r=r' :=
 inj r r' h.lv.1 h'.lv.1 (Nat.le_antisymm (h.min _ h'.rch) (h'.min _ h.rch))
theorem Fst.of_rch (sy:∀ a b,A a b→A b a) {x y r:Nat} (hx:Lv n ρ k x) (h:Rch A (Lv n ρ k) x y) (f:Fst A n ρ k x r):Fst A n ρ k y r :=
 ⟨(h.symm sy hx).trans f.rch,f.lv,fun z hz=>f.min z (h.trans hz)⟩
theorem Rch.new (sy:∀ a b,A a b→A b a) (inj:∀ x y,x<n→y<n→ρ x=ρ y→x=y) {c x y:Nat} (hc:c<n) (hρ:ρ c=k) (hx:Lv n ρ k x) (h:Rch A (Lv n ρ (k+1)) x y) :
  Rch A (Lv n ρ k) x y∨∃ o,A c o∧Lv n ρ k o∧Rch A (Lv n ρ k) x o∧(y=c∨∃ o',A c o'∧Lv n ρ k o'∧Rch A (Lv n ρ k) o' y):=by
 have two:∀ {z:Nat},Lv n ρ (k+1) z→Lv n ρ k z∨z=c:=fun {z} h=>by
  by_cases e:ρ z<k
  ·exact .inl ⟨h.1,e⟩
  ·exact .inr (inj z c h.1 hc (by have:=h.2; exact Nat.le_antisymm (nz4 (Nat.le_of_lt_succ this) (nz3 hρ.symm)) (nz4 (nz3 hρ) (Nat.not_lt.mp e))))
 induction h with
 | here=>exact .inl .here
 | @on y z h1 h2 h3 ih =>
  rcases ih with q | ⟨o,o1,o2,o3,q⟩
  ·rcases two h3 with w | rfl
   ·exact .inl (.on q h2 w)
   ·exact .inr (oi14 y (sy _ _ h2) (q.ok_ hx) q (.inl rfl))
  ·rcases two h3 with w | rfl
   ·rcases q with rfl | ⟨o',p1,p2,p3⟩
    ·exact .inr (oi14 o o1 o2 o3 (.inr (oi13 z h2 w .here)))
    ·exact .inr (oi14 o o1 o2 o3 (.inr (oi13 o' p1 p2 (.on p3 h2 w))))
   ·exact .inr (oi14 o o1 o2 o3 (.inl rfl))
theorem Rch.newc (sy:∀ a b,A a b→A b a) (inj:∀ x y,x<n→y<n→ρ x=ρ y→x=y) {c y:Nat} (hc:c<n) (hρ:ρ c=k) (h:Rch A (Lv n ρ (k+1)) c y):y=c∨∃ o',A c o'∧Lv n ρ k o'∧Rch A (Lv n ρ k) o' y:=by
 have two:∀ {z:Nat},Lv n ρ (k+1) z→Lv n ρ k z∨z=c:=fun {z} h=>by
  by_cases e:ρ z<k
  ·exact .inl ⟨h.1,e⟩
  ·exact .inr (inj z c h.1 hc (by have:=h.2; exact Nat.le_antisymm (nz4 (Nat.le_of_lt_succ this) (nz3 hρ.symm)) (nz4 (nz3 hρ) (Nat.not_lt.mp e))))
 induction h with
 | here=>exact .inl rfl
 | @on y z h1 h2 h3 ih =>
  rcases two h3 with w | rfl
  ·rcases ih with rfl | ⟨o',p1,p2,p3⟩
   ·exact .inr (oi13 z h2 w .here)
   ·exact .inr (oi13 o' p1 p2 (.on p3 h2 w))
  ·exact .inl rfl
structure UF (A:Nat→Nat→Prop) (n:Nat) (ρ:Nat→Nat) (k:Nat) (home:Nat→Option Nat) (par:Nat→Option (Nat × Nat)):Prop where
 dom:∀ x,home x≠none→Lv n ρ k x
 has:∀ x,Lv n ρ k x→∃ s,home x=some s
 hm:∀ x s,home x=some s→Fst A n ρ (ρ x+1) x s
 own:∀ x s,home x=some s→home s=some s
 pr:∀ s m e,par s=some (m,e)→home s=some s∧home e=some e∧Lv n ρ k m∧ρ s<ρ m∧Fst A n ρ (ρ m) s s∧Fst A n ρ (ρ m+1) s e∧e≠s
 liv:∀ x s,home x=some s→∃ r,Liv par s r∧Fst A n ρ k x r
theorem UF.start:UF A n ρ 0 (fun _=>none) (fun _=>none):=⟨fun _ h=>absurd rfl h,fun x h=>absurd h.2 (Nat.not_lt_zero _),fun _ _ h=>(nomatch h),fun _ _ h=>(nomatch h),fun _ _ _ h=>(nomatch h),fun _ _ h=>(nomatch h)⟩
variable {home home':Nat→Option Nat}
theorem UF.root (u:UF A n ρ k home par) {s r:Nat} (hs:home s=some s) (h:Liv par s r):home r=some r:=by
 induction h with
 | root=>exact hs
 | up e _ ih=>exact ih (u.pr _ _ _ e).2.1
theorem UF.rk_pr (inj:∀ x y,x<n→y<n→ρ x=ρ y→x=y) (u:UF A n ρ k home par) {s m e:Nat} (h:par s=some (m,e)):ρ e<ρ s:=by
 refine oq07 (u.pr s m e h) fun h1 h2 h3 h4 h5 h6 h7=>?_
 have:=h6.min s .here
 have ne:ρ e≠ρ s:=fun z=>h7 (inj e s h6.lv.1 h5.lv.1 z)
 omega
theorem UF.alone (sy:∀ a b,A a b→A b a) (inj:∀ x y,x<n→y<n→ρ x=ρ y→x=y) (u:UF A n ρ k home par) {c:Nat} (hc:c<n) (hρ:ρ c=k) (no:∀ o,A c o→¬ Lv n ρ k o) (h1:home' c=some c) (h2:∀ x,x≠c→home' x=home x):UF A n ρ (k+1) home' par:=by
 have ncl:¬ Lv n ρ k c:=fun z=>by have:=z.2; exact Nat.not_lt.mpr (nz3 hρ.symm) this
 have nec:∀ {x s:Nat},home x=some s→x≠c:=fun {x s} h z=>ncl (u.dom c (by rw [← z,h]; exact nofun))
 have fc:Fst A n ρ (k+1) c c:=⟨.here,⟨hc,by exact nz2 (nz3 hρ) (Nat.lt_succ_self _)⟩,fun y hy=>by
  rcases hy.newc sy inj hc hρ with rfl | ⟨o,p1,p2,_⟩
  ·exact nz6 _
  ·exact absurd p2 (no o p1)⟩
 refine ⟨fun x hx=>?_,fun x hx=>?_,fun x s hx=>?_,fun x s hx=>?_,fun s m e h=>?_,fun x s hx=>?_⟩
 ·by_cases e:x=c
  ·subst e; exact ⟨hc,by exact nz2 (nz3 hρ) (Nat.lt_succ_self _)⟩
  ·rw [h2 x e] at hx; exact (u.dom x hx).up
 ·by_cases e:x=c
  ·subst e; exact ⟨x,h1⟩
  ·rw [h2 x e]
   refine u.has x ⟨hx.1,?_⟩
   have:ρ x≠k:=fun z=>e (inj x c hx.1 hc (by exact Nat.le_antisymm (nz4 (nz3 z) (nz3 hρ.symm)) (nz4 (nz3 hρ) (nz3 z.symm))))
   have:=hx.2; omega
 ·by_cases e:x=c
  ·subst e; rw [h1] at hx; cases hx; rw [hρ]; exact fc
  ·rw [h2 x e] at hx; exact u.hm x s hx
 ·by_cases e:x=c
  ·subst e; rw [h1] at hx; cases hx; exact h1
  ·rw [h2 x e] at hx
   have:=u.own x s hx
   rw [h2 s (nec this)]; exact this
 ·refine oq07 (u.pr s m e h) fun g1 g2 g3 g4 g5 g6 g7=>?_
  exact (oi07 (by rw [h2 s (nec g1)]; exact g1) (by rw [h2 e (nec g2)]; exact g2) g3.up g4 g5 g6 g7)
 ·by_cases e:x=c
  ·subst e
   rw [h1] at hx; cases hx
   refine (oi12 x (.root ?_) fc)
   cases q:par x with
   | none=>rfl
   | some p=>exact absurd rfl (nec (u.pr x p.1 p.2 q).1)
  ·rw [h2 x e] at hx
   refine oq12 (u.liv x s hx) fun r l f=>?_
   have lx:=u.dom x (by rw [hx]; exact nofun)
   refine ⟨r,l,f.rch.up,f.lv.up,fun y hy=>?_⟩
   rcases hy.new sy inj hc hρ lx with q | ⟨o,p1,p2,_⟩
   ·exact f.min y q
   ·exact absurd p2 (no o p1)
theorem UF.meet (sy:∀ a b,A a b→A b a) (inj:∀ x y,x<n→y<n→ρ x=ρ y→x=y) (u:UF A n ρ k home par) {c elder:Nat} {met:List Nat} (hc:c<n) (hρ:ρ c=k)
  (m1:∀ o s,A c o→home o=some s→∃ r,r∈met∧Liv par s r) (m2:∀ r,r∈met→∃ o s,A c o∧home o=some s∧Liv par s r) (he:elder∈met) (hmin:∀ r,r∈met→ρ elder≤ρ r)
  (h1:home' c=some elder) (h2:∀ x,x≠c→home' x=home x) (p1:∀ s,s∈met→s≠elder→par' s=some (c,elder)) (p2:∀ s,¬ (s∈met∧s≠elder)→par' s=par s):UF A n ρ (k+1) home' par':=by
 have ncl:¬ Lv n ρ k c:=fun z=>by have:=z.2; exact Nat.not_lt.mpr (nz3 hρ.symm) this
 have nec:∀ {x s:Nat},home x=some s→x≠c:=fun {x s} h z=>ncl (u.dom c (by rw [← z,h]; exact nofun))
 have L0:∀ o,A c o→Lv n ρ k o→∃ r,r∈met∧Fst A n ρ k o r:=fun o ho lo=>by
  refine oq11 (u.has o lo) fun s hs=>?_
  refine oq12 (m1 o s ho hs) fun r g1 g2=>?_
  refine oq12 (u.liv o s hs) fun r' g3 g4=>?_
  have:=g2.det g3
  subst this
  exact (oi12 r g1 g4)
 have L0':∀ r,r∈met→∃ o,A c o∧Lv n ρ k o∧Fst A n ρ k o r:=fun r hr=>by
  refine oq23 (m2 r hr) fun o s g1 g2 g3=>?_
  refine oq12 (u.liv o s g2) fun r' g4 g5=>?_
  have:=g3.det g4
  subst this
  exact (oi13 o g1 (u.dom o (by rw [g2]; exact nofun)) g5)
 have lc:Lv n ρ (k+1) c:=⟨hc,by exact nz2 (nz3 hρ) (Nat.lt_succ_self _)⟩
 have L1:Fst A n ρ (k+1) c elder:=by
  refine oq13 (L0' elder he) fun o g1 g2 g3=>?_
  refine ⟨Rch.trans (.on .here g1 g2.up) g3.rch.up,g3.lv.up,fun y hy=>?_⟩
  rcases hy.newc sy inj hc hρ with rfl | ⟨o',q1,q2,q3⟩
  ·have:=g3.lv.2; exact nz5 (nz1 this (nz3 hρ.symm))
  ·refine oq12 (L0 o' q1 q2) fun r' r1 r2=>?_
   exact nz4 (hmin r' r1) (r2.min y q3)
 have L2:∀ x r,Lv n ρ k x→Fst A n ρ k x r→r∈met→Fst A n ρ (k+1) x elder:=fun x r lx f hr=>by
  refine oq13 (L0' r hr) fun o g1 g2 g3=>?_
  have xc:Rch A (Lv n ρ (k+1)) x c:=.on ((f.rch.trans (g3.rch.symm sy g2)).up) (sy _ _ g1) lc
  exact ⟨xc.trans L1.rch,L1.lv,fun y hy=>L1.min y ((xc.symm sy lx.up).trans hy)⟩
 have L3:∀ x r,Lv n ρ k x→Fst A n ρ k x r→r ∉ met→Fst A n ρ (k+1) x r:=fun x r lx f hr=>by
  refine ⟨f.rch.up,f.lv.up,fun y hy=>?_⟩
  rcases hy.new sy inj hc hρ lx with q | ⟨o,q1,q2,q3,_⟩
  ·exact f.min y q
  ·refine oq12 (L0 o q1 q2) fun r' r1 r2=>?_
   have:=(f.of_rch sy lx q3).same inj r2
   exact absurd (this ▸ r1) hr
 have pn:∀ r,r∈met→par r=none:=fun r hr=>by
  refine oq23 (m2 r hr) fun o s g1 g2 g3=>?_
  exact g3.end_
 have hr:∀ r,r∈met→home r=some r:=fun r hr=>by
  refine oq23 (m2 r hr) fun o s g1 g2 g3=>?_
  exact u.root (u.own o s g2) g3
 have keep:∀ z,par z≠none→par' z=par z:=fun z hz=>p2 z fun q=>hz (pn z q.1)
 have le:Liv par' elder elder:=.root ((p2 elder fun q=>q.2 rfl).trans (pn elder he))
 refine ⟨fun x hx=>?_,fun x hx=>?_,fun x s hx=>?_,fun x s hx=>?_,fun s m e h=>?_,fun x s hx=>?_⟩
 ·by_cases e:x=c
  ·subst e; exact lc
  ·rw [h2 x e] at hx; exact (u.dom x hx).up
 ·by_cases e:x=c
  ·subst e; exact ⟨elder,h1⟩
  ·rw [h2 x e]
   refine u.has x ⟨hx.1,?_⟩
   have:ρ x≠k:=fun z=>e (inj x c hx.1 hc (by exact Nat.le_antisymm (nz4 (nz3 z) (nz3 hρ.symm)) (nz4 (nz3 hρ) (nz3 z.symm))))
   have:=hx.2; omega
 ·by_cases e:x=c
  ·subst e; rw [h1] at hx; cases hx; rw [hρ]; exact L1
  ·rw [h2 x e] at hx; exact u.hm x s hx
 ·by_cases e:x=c
  ·subst e
   rw [h1] at hx; cases hx
   rw [h2 _ (nec (hr _ he))]; exact hr _ he
  ·rw [h2 x e] at hx
   have:=u.own x s hx
   rw [h2 s (nec this)]; exact this
 ·by_cases q:s∈met∧s≠elder
  ·rw [p1 s q.1 q.2] at h
   cases h
   have hs:=hr s q.1
   refine oq13 (L0' s q.1) fun o g1 g2 g3=>?_
   have fs:=g3.of_rch sy g2 g3.rch
   refine (oi07 (by rw [h2 s (nec hs)]; exact hs) (by rw [h2 _ (nec (hr _ he))]; exact hr _ he) lc ?_ (by rw [hρ]; exact fs) (by rw [hρ]; exact L2 s s g3.lv fs q.1) (fun z=>q.2 z.symm))
   have:=g3.lv.2; exact nz1 this (nz3 hρ.symm)
  ·rw [p2 s q] at h
   refine oq07 (u.pr s m e h) fun g1 g2 g3 g4 g5 g6 g7=>?_
   exact (oi07 (by rw [h2 s (nec g1)]; exact g1) (by rw [h2 e (nec g2)]; exact g2) g3.up g4 g5 g6 g7)
 ·by_cases e:x=c
  ·subst e
   rw [h1] at hx; cases hx
   exact (oi12 _ le L1)
  ·rw [h2 x e] at hx
   refine oq12 (u.liv x s hx) fun r l f=>?_
   have lx:=u.dom x (by rw [hx]; exact nofun)
   by_cases q:r∈met
   ·refine (oi12 elder (l.more keep ?_) (L2 x r lx f q))
    by_cases qe:r=elder
    ·rw [qe]; exact le
    ·exact .up (p1 r q qe) le
   ·exact (oi12 r (l.more keep (.root ((p2 r fun z=>q z.1).trans l.end_))) (L3 x r lx f q))
end
end Gr
namespace Srt
theorem mid {l r f:Nat} (h:l<r) (h3:r - l≤f+1):l≤(l+r) / 2∧(l+r) / 2<r∧(l+r) / 2 - l≤f∧r - ((l+r) / 2+1)≤f:=by
 have a:l≤(l+r) / 2:=(Nat.le_div_iff_mul_le (by decide)).mpr (by rw [Nat.mul_two]; exact Nat.add_le_add_left (nz5 h) l)
 have b:(l+r) / 2<r:=(Nat.div_lt_iff_lt_mul (by decide)).mpr (by rw [Nat.mul_two]; exact Nat.add_lt_add_right h r)
 have c:r - (l+1)≤f:=by rw [Nat.sub_add_eq]; exact Nat.sub_le_of_le_add h3
 refine ⟨a,b,nz4 (Nat.sub_le_sub_right (Nat.le_sub_one_of_lt b) l) ?_,nz4 (Nat.sub_le_sub_left (Nat.succ_le_succ a) r) c⟩
 rw [Nat.sub_sub,Nat.add_comm]; exact c
open PySem PySem.W PyProof.Rows
noncomputable def Ok {α:Type} (c:Nat→Nat→Bool) (n:Nat):KasT α→(α→Prop)→Prop
 | .ret a,Q=>Q a
 | .ask i j k,Q=>i<n∧j<n∧Ok c n (k (c i j)) Q
theorem Ok.bind {α β:Type} {c:Nat→Nat→Bool} {n:Nat} {f:α→KasT β} {Q:β→Prop}:∀ {t:KasT α},Ok c n t (fun a=>Ok c n (f a) Q)→Ok c n (t.bind f) Q
 | .ret _,h=>h
 | .ask _ _ _,⟨h1,h2,h3⟩=>⟨h1,h2,Ok.bind h3⟩
theorem Ok.mono {α:Type} {c:Nat→Nat→Bool} {n:Nat} {Q Q':α→Prop} (h:∀ a,Q a→Q' a):∀ {t:KasT α},Ok c n t Q→Ok c n t Q'
 | .ret _,q=>h _ q
 | .ask _ _ _,⟨h1,h2,h3⟩=>⟨h1,h2,Ok.mono h h3⟩
theorem Ok.wp {α:Type} {c:Nat→Nat→Bool} {n:Nat} {Q:α→Prop} {cmp:Nat→Nat→(Bool→Shared→Prop)→Shared→Prop} {G:α→Shared→Prop} {s:Shared}
  (hc:∀ i j C,i<n→j<n→C (c i j) s→cmp i j C s) (hG:∀ a,Q a→G a s):∀ {t:KasT α},Ok c n t Q→t.kasWp cmp G s
 | .ret _,q=>hG _ q
 | .ask i j k,⟨h1,h2,h3⟩=>hc i j _ h1 h2 (Ok.wp hc hG h3)
structure Lin (c:Nat→Nat→Bool) (n:Nat):Prop where
 irr:∀ i,i<n→c i i=false
 tr:∀ i j k,i<n→j<n→k<n→c i j=true→c j k=true→c i k=true
 tot:∀ i j,i<n→j<n→i≠j→c i j=false→c j i=true
structure Arr (n:Nat) (p:Array Nat):Prop where
 sz:p.size=n
 pm:p.toList.Perm (List.range n)
noncomputable abbrev at' (p:Array Nat) (i:Nat):Nat:=p.getD i 0
theorem Arr.get {n:Nat} {p:Array Nat} (a:Arr n p) {i:Nat} (hi:i<n):p[i]?=some (at' p i):=by
 have h:i<p.size:=by rw [a.sz]; exact hi
 simp [at',Array.getD,h]
theorem Arr.lt {n:Nat} {p:Array Nat} (a:Arr n p) {i:Nat} (hi:i<n):at' p i<n:=by
 have h:=a.get hi
 have hm:at' p i∈p.toList:=by
  have:p.toList[i]?=some (at' p i):=by rw [Array.getElem?_toList]; exact h
  exact List.mem_of_getElem? this
 have:=a.pm.mem_iff.mp hm
 exact List.mem_range.mp this
theorem Arr.inj {n:Nat} {p:Array Nat} (a:Arr n p) {i j:Nat} (hi:i<n) (hj:j<n) (e:at' p i=at' p j):i=j:=by
 have nd:p.toList.Nodup:=(a.pm.nodup_iff).mpr List.nodup_range
 have h1:p.toList[i]?=some (at' p i):=by rw [Array.getElem?_toList]; exact a.get hi
 have h2:p.toList[j]?=some (at' p j):=by rw [Array.getElem?_toList]; exact a.get hj
 obtain ⟨l1,e1⟩:=List.getElem?_eq_some_iff.mp h1
 obtain ⟨l2,e2⟩:=List.getElem?_eq_some_iff.mp h2
 exact (List.getElem_inj nd).mp (e1.trans (e.trans e2.symm))
noncomputable def Up (c:Nat→Nat→Bool) (p:Array Nat) (k:Nat):Prop:=∀ i j,i<j→j<k→c (at' p i) (at' p j)=true
noncomputable def Dn (c:Nat→Nat→Bool) (p:Array Nat) (k:Nat):Prop:=∀ i j,i<j→j<k→c (at' p j) (at' p i)=true
section
variable {c:Nat→Nat→Bool} {n:Nat} (L:Lin c n)
include L
theorem Up.more {p:Array Nat} {m:Nat} (a:Arr n p) (u:Up c p m) (h1:1≤m) (hm:m<n) (h:c (at' p (m - 1)) (at' p m)=true):Up c p (m+1):=by
 intro i j hij hj
 by_cases e:j=m
 ·subst e
  by_cases e2:i=j - 1
  ·subst e2; exact h
  ·exact L.tr _ _ _ (a.lt (by exact nz8 hij hm)) (a.lt (by exact nz2 (Nat.sub_le _ _) hm)) (a.lt hm) (u i (j - 1) (by omega) (by omega)) h
 ·exact u i j hij (by omega)
theorem Dn.more {p:Array Nat} {m:Nat} (a:Arr n p) (u:Dn c p m) (h1:1≤m) (hm:m<n) (h:c (at' p m) (at' p (m - 1))=true):Dn c p (m+1):=by
 intro i j hij hj
 by_cases e:j=m
 ·subst e
  by_cases e2:i=j - 1
  ·subst e2; exact h
  ·exact L.tr _ _ _ (a.lt hm) (a.lt (by exact nz2 (Nat.sub_le _ _) hm)) (a.lt (by exact nz8 hij hm)) h (u i (j - 1) (by omega) (by omega))
 ·exact u i j hij (by omega)
theorem nW {p:Array Nat} (a:Arr n p):∀ (f m:Nat),1≤m→m+f=n→Up c p m→Ok c n (kas_asc p f m) fun m'=>m≤m'∧m'≤n∧Up c p m'∧(m'<n→c (at' p m') (at' p (m' - 1))=true)
 | 0,m,h1,hf,u=>⟨nz6 _,by omega,u,fun h=>absurd h (by omega)⟩
 | f+1,m,h1,hf,u=>by
  have hm:m<n:=by omega
  refine ⟨a.lt hm,a.lt (by exact nz2 (Nat.sub_le _ _) hm),?_⟩
  show Ok c n (if (c (at' p m) (at' p (m - 1)))=true then KasT.ret m else kas_asc p f (m+1)) _
  cases e:c (at' p m) (at' p (m - 1)) with
  | true =>
   rw [if_pos rfl]
   exact ⟨nz6 _,by exact nz5 hm,u,fun _=>e⟩
  | false =>
   rw [if_neg Bool.false_ne_true]
   have h2:c (at' p (m - 1)) (at' p m)=true:=L.tot _ _ (a.lt hm) (a.lt (by exact nz2 (Nat.sub_le _ _) hm)) (fun q=>by have:=a.inj hm (by exact nz2 (Nat.sub_le _ _) hm) q; omega) e
   exact Ok.mono (fun m' ⟨q1,q2,q3,q4⟩=>(oi04 (by exact nz5 q1) q2 q3 q4)) (nW a f (m+1) (by exact Nat.le_add_left _ _) (by omega) (Up.more L a u h1 hm h2))
theorem ok_desc {p:Array Nat} (a:Arr n p):∀ (f m:Nat),1≤m→m+f=n→Dn c p m→Ok c n (kas_desc f p m 0) fun r=>r.1=p∧r.2.2=0∧m≤r.2.1∧r.2.1≤n∧Dn c p r.2.1
 | 0,m,h1,hf,u=>⟨rfl,rfl,nz6 _,by show m≤n; omega,u⟩
 | f+1,m,h1,hf,u=>by
  have hm:m<n:=by omega
  refine ⟨a.lt hm,a.lt (by exact nz2 (Nat.sub_le _ _) hm),?_⟩
  show Ok c n (if (c (at' p m) (at' p (m - 1)))=true then (if 0 > 0 then kas_desc f (kas_rev p (m - (0+1)) m) (m+1) 0 else kas_desc f p (m+1) 0)
   else .ask (at' p (m - 1)) (at' p m) fun d=>if d=true then .ret (p,m,0) else kas_desc f p (m+1) (0+1)) _
  cases e:c (at' p m) (at' p (m - 1)) with
  | true =>
   rw [if_pos rfl,if_neg (by omega)]
   exact Ok.mono (fun r ⟨q0,q1,q2,q3,q4⟩=>(oi05 q0 q1 (by exact nz5 q2) q3 q4)) (ok_desc a f (m+1) (by exact Nat.le_add_left _ _) (by omega) (Dn.more L a u h1 hm e))
  | false =>
   rw [if_neg Bool.false_ne_true]
   have h2:c (at' p (m - 1)) (at' p m)=true:=L.tot _ _ (a.lt hm) (a.lt (by exact nz2 (Nat.sub_le _ _) hm)) (fun q=>by have:=a.inj hm (by exact nz2 (Nat.sub_le _ _) hm) q; omega) e
   refine ⟨a.lt (by exact nz2 (Nat.sub_le _ _) hm),a.lt hm,?_⟩
   show Ok c n (if (c (at' p (m - 1)) (at' p m))=true then KasT.ret (p,m,0) else _) _
   rw [h2,if_pos rfl]
   exact ⟨rfl,rfl,nz6 _,by show m≤n; exact nz5 hm,u⟩
omit L in
theorem Arr.rev {p:Array Nat} (a:Arr n p) (i j:Nat):Arr n (kas_rev p i j) :=
 ⟨(mirror_size _ _ _ _).trans a.sz,((mirror_perm p i j _).toList).trans a.pm⟩
omit L in
theorem rev_at {p:Array Nat} (a:Arr n p) {m:Nat} (hm:m≤n) {k:Nat} (hk:k<m):at' (kas_rev p 0 m) k=at' p (m - 1 - k):=by
 have h:=getElem?_mirror_all (xs:=p) (i:=0) (j:=m) (by rw [a.sz]; exact hm) k
 rw [if_pos ⟨Nat.zero_le _,hk⟩] at h
 have h1:=(a.rev 0 m).get (i:=k) (by exact nz1 hk hm)
 have h2:=a.get (i:=0+m - 1 - k) (by omega)
 have h3:some (at' (kas_rev p 0 m) k)=some (at' p (0+m - 1 - k)):=h1.symm.trans (h.trans h2)
 rw [Nat.zero_add] at h3
 exact Option.some.inj h3
omit L in
theorem Dn.up {p:Array Nat} {m:Nat} (a:Arr n p) (hm:m≤n) (u:Dn c p m):Up c (kas_rev p 0 m) m:=by
 intro i j hij hj
 rw [rev_at a hm (by exact nz8 hij hj),rev_at a hm hj]
 exact u _ _ (by omega) (by omega)
theorem ok_tail3 {p:Array Nat} {m:Nat} (a:Arr n p) (h1:1≤m) (hm:m≤n) (u:Dn c p m):Ok c n (kas_tail3 m n p) fun r=>1≤r.1∧r.1≤n∧Arr n r.2∧Up c r.2 r.1:=by
 refine Ok.bind (Ok.mono (fun m' ⟨q1,q2,q3,_⟩=>?_) (nW L (a.rev 0 m) (n - m) m h1 (by omega) (u.up a hm)))
 exact ⟨by show 1≤m'; exact nz4 h1 q1,q2,a.rev 0 m,q3⟩
theorem ok_count {p:Array Nat} (a:Arr n p) (hn:1≤n):Ok c n (kas_count n p) fun r=>1≤r.1∧r.1≤n∧Arr n r.2∧Up c r.2 r.1:=by
 refine Ok.bind (Ok.mono (fun m ⟨q1,q2,q3,q4⟩=>?_) (nW L a (n - 1) 1 (nz6 _) (by omega) fun i j hij hj=>absurd hij (by omega)))
 by_cases e:m=n
 ·rw [if_pos (by simp [e])]
  exact ⟨q1,q2,a,q3⟩
 ·rw [if_neg (by simp [e])]
  by_cases h:m > 1
  ·rw [if_pos h]
   have hc:c (at' p 0) (at' p (m - 1))=true:=q3 0 (m - 1) (by omega) (by omega)
   refine ⟨a.lt (by omega),a.lt (by omega),?_⟩
   show Ok c n (if (c (at' p 0) (at' p (m - 1)))=true then KasT.ret (m,p) else _) _
   rw [hc,if_pos rfl]
   exact ⟨q1,q2,a,q3⟩
  ·rw [if_neg h]
   have e1:m=1:=by omega
   subst e1
   have hn2:1<n:=by omega
   have h0:=q4 hn2
   have d2:Dn c p 2:=fun i j hij hj=>by
    have ei:i=0:=by omega
    have ej:j=1:=by omega
    subst ei ej
    exact h0
   refine Ok.bind (Ok.mono (fun r ⟨r0,r1,r2,r3,r4⟩=>?_) (ok_desc L a (n - (1+1)) (1+1) (by exact nz5 (Nat.lt_succ_self _)) (by omega) d2))
   rw [r1,if_neg (by omega),r0]
   exact ok_tail3 L a (by exact nz5 r2) r3 r4
theorem jh {p:Array Nat} {k:Nat} (a:Arr n p) (hk:k<n) (u:Up c p k):∀ (f l r:Nat),l≤r→r≤k→r - l≤f→(∀ i,i<l→c (at' p i) (at' p k)=true)→(∀ i,r≤i→i<k→c (at' p k) (at' p i)=true) →
  Ok c n (kas_place p k f l r) fun m=>m≤k∧(∀ i,i<m→c (at' p i) (at' p k)=true)∧∀ i,m≤i→i<k→c (at' p k) (at' p i)=true
 | 0,l,r,h1,h2,h3,hl,hr=>⟨by show l≤k; exact nz4 h1 h2,hl,fun i q1 q2=>hr i (nz4 (Nat.le_of_sub_eq_zero (Nat.le_zero.mp h3)) q1) q2⟩
 | f+1,l,r,h1,h2,h3,hl,hr=>by
  unfold kas_place
  by_cases h:l ≥ r
  ·rw [if_pos h]
   exact ⟨by show l≤k; exact nz4 h1 h2,hl,fun i q1 q2=>hr i (by exact nz4 h q1) q2⟩
  ·rw [if_neg h]
   refine oq04 (mid (Nat.not_le.mp h) h3) fun m1 m2 m3 m4=>?_
   have hm:(l+r) / 2<k:=nz1 m2 h2
   refine ⟨a.lt hk,a.lt (by exact nz8 hm hk),?_⟩
   show Ok c n (if (c (at' p k) (at' p ((l+r) / 2)))=true then kas_place p k f l ((l+r) / 2) else kas_place p k f ((l+r) / 2+1) r) _
   cases e:c (at' p k) (at' p ((l+r) / 2)) with
   | true =>
    rw [if_pos rfl]
    refine jh a hk u f l ((l+r) / 2) m1 (by exact nz5 hm) m3 hl fun i q1 q2=>?_
    by_cases ei:i=(l+r) / 2
    ·subst ei; exact e
    ·exact L.tr _ _ _ (a.lt hk) (a.lt (by exact nz8 hm hk)) (a.lt (by exact nz8 q2 hk)) e (u _ _ (Nat.lt_of_le_of_ne q1 (Ne.symm ei)) q2)
   | false =>
    rw [if_neg Bool.false_ne_true]
    have h4:c (at' p ((l+r) / 2)) (at' p k)=true:=L.tot _ _ (a.lt hk) (a.lt (by exact nz8 hm hk)) (fun q=>by have:=a.inj hk (by exact nz8 hm hk) q; exact absurd hm (this ▸ Nat.lt_irrefl _)) e
    refine jh a hk u f ((l+r) / 2+1) r m2 h2 m4 (fun i q=>?_) hr
    by_cases ei:i=(l+r) / 2
    ·subst ei; exact h4
    ·exact L.tr _ _ _ (a.lt (nz2 (Nat.le_of_lt_succ q) (nz8 hm hk))) (a.lt (by exact nz8 hm hk)) (a.lt hk) (u i _ (Nat.lt_of_le_of_ne (Nat.le_of_lt_succ q) ei) (by exact hm)) h4
omit L in
theorem Arr.bub {p:Array Nat} (a:Arr n p) (k d:Nat):Arr n (bubble p k d):=⟨(bubble_size _ _ _).trans a.sz,((bubble_perm p k d).toList).trans a.pm⟩
omit L in
theorem bub_at {p:Array Nat} (a:Arr n p) {k l i:Nat} (hk:k<n) (hl:l≤k) (hi:i<n):at' (bubble p k (k - l)) i=if i=l then at' p k else if l<i∧i≤k then at' p (i - 1) else at' p i:=by
 have h:=getElem?_bubble (xs:=p) (src:=k) (by rw [a.sz]; exact hk) (k - l) (by exact nz4 (Nat.sub_le _ _) (nz6 _)) i
 have e:k - (k - l)=l:=by omega
 rw [e] at h
 have h1:=(a.bub k (k - l)).get hi
 rw [h1] at h
 by_cases q:i=l
 ·rw [if_pos q] at h ⊢
  rw [a.get hk] at h
  exact Option.some.inj h
 ·rw [if_neg q] at h ⊢
  by_cases q2:l<i∧i≤k
  ·rw [if_pos q2] at h ⊢
   rw [a.get (by exact nz2 (Nat.sub_le _ _) hi)] at h
   exact Option.some.inj h
  ·rw [if_neg q2] at h ⊢
   rw [a.get hi] at h
   exact Option.some.inj h
theorem ok_bin:∀ (f k:Nat) {p:Array Nat},Arr n p→k+f=n→Up c p k→Ok c n (kas_bin f p k) fun p'=>Arr n p'∧Up c p' n
 | 0,k,p,a,hf,u=>by
  have e:k=n:=hf
  subst e
  exact ⟨a,u⟩
 | f+1,k,p,a,hf,u=>by
  have hk:k<n:=hf ▸ Nat.lt_add_of_pos_right (Nat.succ_pos f)
  refine Ok.bind (Ok.mono (fun l zq=>oq03 zq fun q1 q2 q3=>?_) (jh L a hk u k 0 k (Nat.zero_le _) (nz6 _) (by exact nz4 (Nat.sub_le _ _) (nz6 _)) (fun i h=>absurd h (by exact Nat.not_lt.mpr (Nat.zero_le _))) fun i h1 h2=>absurd h2 (by exact Nat.not_lt.mpr h1)))
  refine ok_bin f (k+1) (a.bub k (k - l)) ((Nat.succ_add k f).trans hf) fun i j hij hj=>?_
  have hjn:j<n:=nz1 hj hk
  have hjk:j≤k:=Nat.le_of_lt_succ hj
  rw [bub_at a hk q1 (nz8 hij hjn),bub_at a hk q1 hjn]
  by_cases ei:i=l
  ·rw [if_pos ei,if_neg (fun z=>absurd hij (by rw [ei,z]; exact Nat.lt_irrefl _)),if_pos ⟨by exact nz2 (nz3 ei.symm) hij,hjk⟩]
   exact q3 _ (Nat.le_sub_one_of_lt (ei ▸ hij)) (nz1 (Nat.sub_one_lt_of_lt hij) hjk)
  ·rw [if_neg ei]
   by_cases ej:j=l
   ·rw [if_pos ej,if_neg (fun z=>absurd z.1 (Nat.not_lt.mpr (nz5 (ej ▸ hij))))]
    exact q2 i (by exact nz1 hij (nz3 ej))
   ·rw [if_neg ej]
    by_cases h1:l<i∧i≤k
    ·rw [if_pos h1,if_pos ⟨by exact nz8 h1.1 hij,hjk⟩]
     exact u _ _ (Nat.sub_lt_sub_right (Nat.succ_le_of_lt (nz2 (Nat.zero_le _) h1.1)) hij) (nz1 (Nat.sub_one_lt_of_lt hij) hjk)
    ·rw [if_neg h1]
     by_cases h2:l<j∧j≤k
     ·rw [if_pos h2]
      exact u _ _ (nz1 (Nat.lt_of_le_of_ne (Nat.not_lt.mp fun z=>h1 ⟨z,nz4 (nz5 hij) hjk⟩) ei) (Nat.le_sub_one_of_lt h2.1)) (nz1 (Nat.sub_one_lt_of_lt hij) hjk)
     ·rw [if_neg h2]
      exact u _ _ hij (nz1 (Nat.lt_of_le_of_ne (Nat.not_lt.mp fun z=>h2 ⟨z,hjk⟩) ej) q1)
theorem ok_sort (hn:1≤n):Ok c n (kas_sort n) fun p=>Arr n p∧Up c p n:=by
 have a:Arr n (List.toArray (List.range n)):=⟨by simp,by simp⟩
 refine Ok.bind (Ok.mono (fun r zq=>oq04 zq fun q1 q2 q3 q4=>?_) (ok_count L a hn))
 by_cases h:r.1<n
 ·rw [if_pos h,Nat.max_eq_left q1]
  exact ok_bin L (n - r.1) r.1 q3 (by omega) q4
 ·rw [if_neg h]
  have e:r.1=n:=by exact Nat.le_antisymm q2 (Nat.not_lt.mp h)
  rw [e] at q4
  exact ⟨q3,q4⟩
end
end Srt
namespace L2
open PySem PySem.Spec PyProof.Rows
theorem gd {env:Env}:∀ (names:List (Str × NameKind)) (cs:List (Str × Addr)),(∀ y∈names,y.2=.free→∃ c,env.cells.lookup y.1=some c) →
  ∃ cl,(forIn names cs fun (x:Str × NameKind) (r:List (Str × Addr))=>(match x with
   | (name,kind)=>if (kind == NameKind.free)=true then do let a ← cellOf env name; pure (ForInStep.yield ((name,a) :: r)) else pure (ForInStep.yield r):Sem (ForInStep (List (Str × Addr)))))=pure cl ∧
   (∀ p∈cl,p∈cs∨env.cells.lookup p.1=some p.2)∧(∀ p∈cs,p∈cl)∧∀ y∈names,y.2=.free→∃ c,(y.1,c)∈cl
 | [],cs,_=>(oi14 cs rfl (fun p h=>.inl h) (fun p h=>h) (fun y h=>nomatch h))
 | (n,k) :: r,cs,h=>by
  by_cases hk:k=.free
  ·subst hk
   refine oq11 (h (n,.free) List.mem_cons_self rfl) fun c hc=>?_
   refine oq14 (gd r ((n,c) :: cs) fun y hy=>h y (List.mem_cons_of_mem _ hy)) fun cl e h1 h2 h3=>?_
   refine (oi14 cl ?_ (fun p hp=>?_) (fun p hp=>h2 p (List.mem_cons_of_mem _ hp)) (fun y hy hf=>?_))
   ·rw [List.forIn_cons]
    have e1:cellOf env n=pure c:=by unfold cellOf; rw [hc]
    simp only [beq_self_eq_true,if_true,e1,pure_bind]
    exact e
   ·rcases h1 p hp with z | z
    ·rcases List.mem_cons.mp z with z | z
     ·subst z; exact .inr hc
     ·exact .inl z
    ·exact .inr z
   ·rcases List.mem_cons.mp hy with z | z
    ·subst z; exact ⟨c,h2 _ List.mem_cons_self⟩
    ·exact h3 y z hf
  ·refine oq14 (gd r cs fun y hy=>h y (List.mem_cons_of_mem _ hy)) fun cl e h1 h2 h3=>?_
   refine (oi14 cl ?_ h1 h2 (fun y hy hf=>?_))
   ·have hb:(k == NameKind.free)=false:=by simpa using hk
    rw [List.forIn_cons]
    simp only [hb,Bool.false_eq_true,if_false,pure_bind]
    exact e
   ·rcases List.mem_cons.mp hy with z | z
    ·subst z; exact absurd hf hk
    ·exact h3 y z hf
theorem fX {β:Type} {x:Str} {c:β}:∀ {l:List (Str × β)},(x,c)∈l→∃ d,l.lookup x=some d
 | [],h=>nomatch h
 | (n,d) :: r,h=>by
  by_cases e:x=n
  ·subst e; exact ⟨d,by simp [List.lookup_cons]⟩
  ·have hb:(x == n)=false:=by simpa using e
   rcases List.mem_cons.mp h with z | z
   ·injection z with z1 _; exact absurd z1 e
   ·refine oq11 (fX z) fun d' e'=>?_
    exact ⟨d',by rw [List.lookup_cons,hb]; exact e'⟩
theorem gf {scope:Scope} {env:Env} (h:∀ y∈scope.names,y.2=.free→∃ c,env.cells.lookup y.1=some c) :
  ∃ cl,closureFor scope env=pure cl∧(∀ x c,cl.lookup x=some c→env.cells.lookup x=some c)∧∀ y∈scope.names,y.2=.free→∃ c,cl.lookup y.1=some c:=by
 refine oq14 (gd (env:=env) scope.names [] h) fun cl e h1 _ h3=>?_
 refine (oi13 cl ?_ (fun x c hx=>?_) (fun y hy hf=>?_))
 ·unfold closureFor
  show (forIn scope.names [] _ >>= fun cs=>pure cs)=pure cl
  refine Eq.trans (congrArg (fun m=>m >>= fun cs=>pure cs) e) ?_
  rw [pure_bind]
 ·rcases h1 _ (PySem.mem_of_lookup hx) with z | z
  ·exact nomatch z
  ·exact z
 ·refine oq11 (h3 y hy hf) fun c hc=>?_
  exact fX hc
theorem d5 {env:Env}:∀ {names:List (Str × NameKind)} {x:Str},names.lookup x=some .free→∃ k,
  (names.map fun (n,k)=>if (k == NameKind.free && env.scope.kind == .function && env.kindOf n == some .cell) then (n,NameKind.cell) else (n,k)).lookup x=some k∧(k=.cell∨k=.free)
 | [],_,h=>by simp at h
 | (n,k) :: r,x,h=>by
  show ∃ k',List.lookup x ((if (k == NameKind.free && env.scope.kind == .function && env.kindOf n == some .cell)=true then (n,NameKind.cell) else (n,k)) :: _)=some k'∧_
  cases hx:x == n with
  | true =>
   simp only [List.lookup_cons,hx] at h
   cases h
   by_cases hc:(NameKind.free == NameKind.free && env.scope.kind == .function && env.kindOf n == some .cell)=true
   ·exact (oi12 .cell (by rw [if_pos hc]; simp [List.lookup_cons,hx]) (.inl rfl))
   ·exact (oi12 .free (by rw [if_neg hc]; simp [List.lookup_cons,hx]) (.inr rfl))
  | false =>
   simp only [List.lookup_cons,hx] at h
   refine oq12 (d5 (env:=env) h) fun k' e hk=>?_
   refine (oi12 k' ?_ hk)
   by_cases hc:(k == NameKind.free && env.scope.kind == .function && env.kindOf n == some .cell)=true
   ·rw [if_pos hc]; simp only [List.lookup_cons,hx]; exact e
   ·rw [if_neg hc]; simp only [List.lookup_cons,hx]; exact e
section
variable {prog:Program} {w:World} {A:Around} {R:Result→Shared→Prop} {s:Shared}
theorem lh {elt target iter:Expr} {ifs:List Expr} {scope:Scope} {pos:Pos} {it acc:Value} {env:Env} (I:Nat→Shared→Prop)
  (turn:∀ n s,I n s→wpAny (model prog w) A (pyNext it) (fun r s₁=>match r with
   | none=>R (.ok .next) s₁
   | some v=>wpAny (model prog w) A (letOwnedTupleGo target it v) (fun _ s'=>wpAny (model prog w) A (assign target env v) (fun _ s₂ =>
     wpAny (model prog w) A (forIn ifs true fun c r=>if r=true then do let ok ← isTrue c env (eval c env); pure (ForInStep.yield ok) else pure (ForInStep.yield r)) (fun ok s₃ =>
      if ok=true then wpAny (model prog w) A (eval elt env) (fun x s₄ =>
       wpAny (model prog w) A (call (.builtin "list.append") [acc,x]) (fun _ s₅=>∃ m,m<n∧I m s₅) (fun _ _=>False) s₄) (fun _ _=>False) s₃
      else ∃ m,m<n∧I m s₃) (fun _ _=>False) s₂) (fun _ _=>False) s') (fun _ _=>False) s₁) (fun _ _=>False) s)
  (n:Nat) (h:I n s):codeAny (model prog w) A (.compLoop (.ListComp elt [⟨target,iter,ifs,0⟩] scope pos) 0 it acc env) R s:=by
 refine codeAny_loop rfl I (fun n s hI=>?_) n h
 show wpAny _ A ((compTurn (.ListComp elt [⟨target,iter,ifs,0⟩] scope pos) 0 it acc env).onRaise (fun x=>do noteFrame x env; theTreesLotGoes x)) _ _ s
 refine wpAny_noted ?_
 rw [compTurn_list]
 refine wpAny_bind (wpAny_standAt (wpAny_bind (wpAny_mono (turn n s hI) (fun r s₁ h₁=>?_) fun _ _ z=>z.elim)))
 cases r with
 | none=>exact wpAny_pure h₁
 | some v =>
  refine wpAny_bind (wpAny_mono h₁ (fun _ s' h'=>?_) fun _ _ z=>z.elim)
  refine wpAny_bind (wpAny_mono h' (fun _ s₂ h₂=>wpAny_bind (wpAny_mono h₂ (fun ok s₃ h₃=>?_) fun _ _ z=>z.elim)) fun _ _ z=>z.elim)
  cases ok with
  | false=>exact wpAny_pure ⟨rfl,h₃⟩
  | true =>
   exact wpAny_bind (wpAny_bind (wpAny_mono h₃ (fun x s₄ h₄=>wpAny_bind (wpAny_mono h₄ (fun _ s₅ h₅=>wpAny_pure (wpAny_pure ⟨rfl,h₅⟩)) fun _ _ z=>z.elim)) fun _ _ z=>z.elim))
end
noncomputable def bO (X:Cx) (N':List Str) (scope:Scope) (cl:List (Str × Addr)) (fp:List Addr) (s3:Shared) (H3:Hp):Cx where
 prog:=X.prog
 w:=X.w
 K:=X.K
 mg:=X.mg
 base:=X.base
 A:=X.A
 N:=N'
 s₀:=s3
 H₀:=H3
 env:=compEnvC scope cl s3.heap.objs.size X.env
 outer:=X.stack
 stack:=X.stack
 ex:=fp
 calm:=X.calm
 fn:=fun _=>false
 pn:=[]
 xe:=fun _ _=>False
noncomputable def kz (X:Cx) (scope:Scope):List (Str × Nat)→Prop
 | []=>True
 | p :: r=>(X.N[p.2]?=some p.1∧scope.names.lookup p.1=some .free∧(X.env.kindOf p.1=some .cell∨X.env.kindOf p.1=some .free))∧kz X scope r
theorem kz.get {X:Cx} {scope:Scope}:∀ {cap:List (Str × Nat)},kz X scope cap→∀ p∈cap,X.N[p.2]?=some p.1∧scope.names.lookup p.1=some .free∧(X.env.kindOf p.1=some .cell∨X.env.kindOf p.1=some .free)
 | [],_,_,h=>nomatch h
 | _ :: _,⟨h1,h2⟩,p,h=>by
  rcases List.mem_cons.mp h with z | z
  ·subst z; exact h1
  ·exact kz.get h2 p z
noncomputable def st0 (loc:List Str) (cap:List (Str × Nat)) (σ:St):St:=loc.map (fun _=>none)++cap.map fun p=>(σ[p.2]?).join
theorem st0_len {loc:List Str} {cap:List (Str × Nat)} {σ:St}:(st0 loc cap σ).length=(loc++cap.map (·.1)).length:=by
 unfold st0; simp
theorem st0_get {loc:List Str} {cap:List (Str × Nat)} {σ:St} {i:Nat} {v:V} (h:(st0 loc cap σ)[i]?=some (some v)):∃ p,p∈cap∧(loc++cap.map (·.1))[i]?=some p.1∧σ[p.2]?=some (some v):=by
 unfold st0 at h
 by_cases hi:i<loc.length
 ·rw [List.getElem?_append_left (by simpa using hi),List.getElem?_map] at h
  cases e:loc[i]? with
  | none=>rw [e] at h; cases h
  | some a=>rw [e] at h; cases h
 ·rw [List.getElem?_append_right (by simpa using hi),List.getElem?_map,List.length_map] at h
  cases e:cap[i - loc.length]? with
  | none=>rw [e] at h; cases h
  | some p =>
   rw [e] at h
   have h':(σ[p.2]?).join=some v:=Option.some.inj h
   refine (oi13 p (List.mem_of_getElem? e) ?_ ?_)
   ·rw [List.getElem?_append_right (by exact Nat.not_lt.mp hi),List.getElem?_map,e]; rfl
   ·cases e2:σ[p.2]? with
    | none=>rw [e2] at h'; cases h'
    | some o=>rw [e2] at h'; exact congrArg some h'
noncomputable def Wk:St→St→Prop
 | [],[]=>True
 | none :: r,_ :: t=>Wk r t
 | some v :: r,o :: t=>o=some v∧Wk r t
 | _,_=>False
theorem Wk.len:∀ {a b:St},Wk a b→a.length=b.length
 | [],[],_=>rfl
 | none :: r,_ :: t,h=>by rw [List.length_cons,List.length_cons,Wk.len (a:=r) (b:=t) h]
 | some _ :: r,_ :: t,h=>by rw [List.length_cons,List.length_cons,Wk.len (a:=r) (b:=t) h.2]
 | [],_ :: _,h=>False.elim h
 | none :: _,[],h=>False.elim h
 | some _ :: _,[],h=>False.elim h
theorem Wk.get:∀ {a b:St},Wk a b→∀ (i:Nat) (v:V),a[i]?=some (some v)→b[i]?=some (some v)
 | [],[],_,i,v,e=>by simp at e
 | none :: r,o :: t,h,0,v,e=>by simp at e
 | none :: r,o :: t,h,i+1,v,e=>by
  have:=Wk.get (a:=r) (b:=t) h i v (by simpa using e)
  simpa using this
 | some x :: r,o :: t,h,0,v,e=>by
  have e':x=v:=by simpa using e
  subst e'
  simpa using h.1
 | some x :: r,o :: t,h,i+1,v,e=>by
  have:=Wk.get (a:=r) (b:=t) h.2 i v (by simpa using e)
  simpa using this
 | [],_ :: _,h,_,_,_=>False.elim h
 | none :: _,[],h,_,_,_=>False.elim h
 | some _ :: _,[],h,_,_,_=>False.elim h
noncomputable def freeOk (ns ms:List (Str × NameKind)):Bool:=ns.all fun y=>match y.2 with
 | .free=>match ms.lookup y.1 with
  | some .cell=>true
  | some .free=>true
  | _=>false
 | _=>true
theorem ji {ns ms:List (Str × NameKind)} (h:freeOk ns ms=true):∀ y∈ns,y.2=.free→ms.lookup y.1=some .cell∨ms.lookup y.1=some .free:=by
 intro y hy hf
 have q:=List.all_eq_true.mp h y hy
 rw [hf] at q
 cases e:ms.lookup y.1 with
 | none=>rw [e] at q; cases q
 | some k =>
  rw [e] at q
  cases k <;> first | exact .inl rfl | exact .inr rfl | cases q
structure CompScope (X:Cx) (loc:List Str) (cap:List (Str × Nat)) (scope:Scope):Prop where
 kind:scope.kind=.function
 nocell:∀ y∈scope.names,y.2≠.cell
 names:∀ y∈scope.names,y.2=.local→scope.names.lookup y.1=some .local
 free0:freeOk scope.names X.env.scope.names=true
 cap:kz X scope cap
 xkind:X.env.scope.kind=.function
theorem CompScope.free {X:Cx} {loc:List Str} {cap:List (Str × Nat)} {scope:Scope} (S:CompScope X loc cap scope):∀ y∈scope.names,y.2=.free→X.env.kindOf y.1=some .cell∨X.env.kindOf y.1=some .free:=ji S.free0
section
variable {X:Cx} {pins:List (Addr × Obj)} {σ:St} {H:Hp} {s:Shared} {loc:List Str} {cap:List (Str × Nat)} {scope:Scope} {cl:List (Str × Addr)} {fp:List Addr}
theorem inv_comp {h1:Heap} (S:CompScope X loc cap scope) (I:Inv X pins σ H s) (hcl:∀ x c,cl.lookup x=some c→X.env.cells.lookup x=some c) (hcl2:∀ y∈scope.names,y.2=.free→∃ c,cl.lookup y.1=some c)
  (hf:∀ b∈fp,FpOk X pins H b) (hlt:∀ b∈fp,b<s.heap.objs.size) (hns:h1.Ns s.heap.objs.size (fun _=>none)) (hk:∀ b o,s.heap.get? b=some o→h1.get? b=some o) :
  Inv (bO X (loc++cap.map (·.1)) scope cl fp s H) [] (st0 loc cap σ) H { s with heap:=h1 }:=by
 have fromK:∀ x,(relabel scope X.env).names.lookup x=some .cell∨(relabel scope X.env).names.lookup x=some .free→∃ y∈scope.names,y.2=.free∧y.1=x:=by
  intro x hx
  have:∃ k,(relabel scope X.env).names.lookup x=some k∧(k=.cell∨k=.free):=by
   rcases hx with z | z
   ·exact (oi12 _ z (.inl rfl))
   ·exact (oi12 _ z (.inr rfl))
  refine oq12 this fun k e hk=>?_
  have hm:=PySem.mem_of_lookup e
  refine oq12 (List.mem_map.mp hm) fun y hy e2=>?_
  obtain ⟨n,k'⟩:=y
  have e3:(if (k' == NameKind.free && X.env.scope.kind == .function && X.env.kindOf n == some .cell)=true then (n,NameKind.cell) else (n,k'))=(x,k):=e2
  by_cases hc:(k' == NameKind.free && X.env.scope.kind == .function && X.env.kindOf n == some .cell)=true
  ·rw [if_pos hc] at e3
   injection e3 with e4 _
   simp only [Bool.and_eq_true] at hc
   exact (oi13 (n,k') hy (by simpa using hc.1.1) e4)
  ·rw [if_neg hc] at e3
   injection e3 with e4 e5
   rcases hk with z | z
   ·rw [z] at e5; exact absurd e5 (S.nocell _ hy)
   ·rw [z] at e5; exact (oi13 (n,k') hy e5 e4)
 refine ⟨⟨I.ok.mod,S.kind,I.ok.glob,I.ok.blt,nz6 _,fun x y c h1 h2=>I.ok.inj x y c (hcl x c h1) (hcl y c h2),fun x hx=>?_,fun x c h _=>absurd h (by show ¬ (false=true); decide),I.ok.hd,I.ok.frames,.inl rfl,fun b hb=>⟨nz7 (hlt b hb),fun x c e=>(hf b hb).2.2.2.2.1 x c (hcl x c e)⟩,I.bs,
   nz4 I.ok.bsz I.sz,fun b o e z=>?_,fun b hb z=>?_,I.stack,I.stkFree⟩,
  rfl,I.bare,Un.kept hk,(oi12 _ hns (fun i x v h1 h2 h3=>?_)),fun x c e=>?_,I.hok.fresh (nz6 _),fun x c e=>I.freeC x c (hcl x c e),fun p hp=>absurd (show p∈([]:List (Addr × Obj)) from hp) (by simp),I.hok.kept hk,st0_len⟩
 ·refine oq13 (fromK x hx) fun y hy hfr e=>?_
  subst e
  exact hcl2 y hy hfr
 ·
  have hb:=hf b z
  rcases hb.2.2.2.1 with q | q
  ·exact I.ok.noex b o e q
  ·exact absurd (nz1 (Heap.lt_size e) (nz4 I.ok.bsz q)) (Nat.lt_irrefl _)
 ·have z':=I.stkSub b z
  rcases List.mem_cons.mp z' with q | q
  ·exact (hf b hb).2.1 q
  ·exact (hf b hb).2.2.1 q
 ·refine oq13 (st0_get h2) fun p hp e1 e2=>?_
  have e3:x=p.1:=Option.some.inj (h1.symm.trans e1)
  subst e3
  refine oq03 (S.cap.get p hp) fun c1 c2 c3=>?_
  refine oq12 I.loc fun m _ hl=>?_
  have vis:Vis X.env.scope p.1:=by
   rcases c3 with k | k
   ·exact .inr (.inl k)
   ·exact .inr (.inr k)
  refine oq12 (hl p.2 p.1 v c1 e2 vis) fun u r l=>?_
  refine (oi12 u r (.inr ⟨?_,?_⟩))
  ·refine oq12 (d5 (env:=X.env) c2) fun k e hk=>?_
   rcases hk with z | z
   ·subst z; exact .inl e
   ·subst z; exact .inr e
  ·rcases l with ⟨k,_⟩ | ⟨_,c,e,hc⟩
   ·rcases c3 with z | z
    ·rw [k] at z; cases z
    ·rw [k] at z; cases z
   ·refine oq11 (hcl2 (p.1,.free) (PySem.mem_of_lookup c2) rfl) fun c' hc'=>?_
    have:c'=c:=Option.some.inj ((hcl _ _ hc').symm.trans e)
    subst this
    refine oq12 hc fun o ho hd=>?_
    exact ⟨c',hc',o,hk _ o ho,hd⟩
 ·refine oq22 (I.cell x c (hcl x c e)) fun v o ho hd=>?_
  exact ⟨v,o,hk _ o ho,hd⟩
end
noncomputable def cTurn (g:TG) (tt:TT) (te:TE) (loc:List Str) (cap:List (Str × Nat)) (σ:St) (D:Addr) (ys:List V) (N:List V→Hp→Prop) (x:V) (H':Hp):Prop :=
 g x (st0 loc cap σ) H' fun σ3 H3=>Wk (st0 loc cap σ) σ3∧tt σ3 H3 fun b H4=>if b=true then te σ3 H4 fun v H5=>H5 D=some (.lst ys)∧ys.length<sizeLine∧N (ys++[v]) (upd H5 D (.lst (ys++[v]))) else N ys H4
noncomputable def cGoal (g:TG) (tt:TT) (te:TE) (loc:List Str) (cap:List (Str × Nat)) (σ:St) (D:Addr) (Q:VK) (J:It) (H1:Hp):Prop :=
 ∃ W:Nat→Nat→List V→Hp→Prop,(∃ m,W 0 m [] (upd H1 D (.lst [])))∧∀ i m ys H2,W i m ys H2→H2 D=some (.lst ys) ∧
  ((J.stop i H2∧Q (.ref D) H2)∨(J.go i H2∧∃ N:List V→Hp→Prop,(∀ ys' H',N ys' H'→∃ m',m'<m∧W (i+1) m' ys' H')∧∀ x H',J.yld i H2 x H'→cTurn g tt te loc cap σ D ys N x H'))
noncomputable def tComp (wi:TI) (loc:List Str) (cap:List (Str × Nat)) (g:TG) (tt:TT) (te:TE):TE:=fun σ H Q=>wi σ H fun J H1=>∀ D,H1 D=none→cGoal g tt te loc cap σ D Q J H1
noncomputable def tTrue:TT:=fun _ H Q=>Q true H
noncomputable def PIfs (X:Cx) (ifs:List Expr) (t:TT):Prop :=
 ∀ (pins:List (Addr × Obj)) (s:Shared) (σ:St) (H:Hp) (Q:Bool→Hp→Prop),Inv X pins σ H s→t σ H Q →
  wpAny (model X.prog X.w) X.A (forIn ifs true fun c r=>if r=true then do let ok ← isTrue c X.env (eval c X.env); pure (ForInStep.yield ok) else pure (ForInStep.yield r)) (TP X pins σ Q) X.xe s
theorem ci {X:Cx}:PIfs X [] tTrue:=fun _ _ _ H _ I h=>wpAny_tests_nil ⟨H,I,h⟩
theorem pifs_one {X:Cx} {c:Expr} {t:TT} (hc:PT X c t):PIfs X [c] t:=fun pins s σ H Q I h=>wpAny_tests_one (hc pins s σ H Q I h)
section
variable {X:Cx} {tg iter elt:Expr} {ifs:List Expr} {scope:Scope} {loc:List Str} {cap:List (Str × Nat)} {pos:Pos} {wi:TI} {g:TG} {tt:TT} {te:TE}
theorem jj {pins:List (Addr × Obj)} {σ:St} {H:Hp} {s:Shared} {cl:List (Str × Addr)} {fp:List Addr} {it:Addr} {tn:Nat→Heap→Prop} {J:It} {Q:VK} {E:Value→Shared→Prop} {RR:Value→Addr→Result→Shared→Prop}
  (hc:X.calm=true) (S:CompScope X loc cap scope) (hg:∀ cl fp s3 H3,PG (bO X (loc++cap.map (·.1)) scope cl fp s3 H3) tg g) (ht:∀ cl fp s3 H3,PIfs (bO X (loc++cap.map (·.1)) scope cl fp s3 H3) ifs tt)
  (he:∀ cl fp s3 H3,PE (bO X (loc++cap.map (·.1)) scope cl fp s3 H3) elt te)
  (hcl:∀ x c,cl.lookup x=some c→X.env.cells.lookup x=some c) (hcl2:∀ y∈scope.names,y.2=.free→∃ c,cl.lookup y.1=some c)
  (I:Inv X pins σ H s) (T:Turn X.prog X.w X.K tg J fp it tn) (st:tn 0 s.heap) (hf:∀ b∈fp,FpOk X pins H b)
  (h:∀ D,H D=none→cGoal g tt te loc cap σ D Q J H)
  (hRR:∀ D C s' H' m,Inv X pins σ H' s'→FpOk X pins H' C→s'.heap.Ns C m→Q (.ref D) H'→RR (.ref D) C (.ok .next) s') :
  wpAny (model X.prog X.w) X.A (newList []) (fun acc s₃=>wpAny (model X.prog X.w) X.A (newFunctionEnv scope X.env.globals cl [] X.env.qual none .none (some X.env)) (fun cenv s₄ =>
   codeAny (model X.prog X.w) X.A (.compStart (.ListComp elt [⟨tg,iter,ifs,0⟩] scope pos) 0 (.ref it) acc { cenv with scope:=relabel scope X.env }) (RR acc cenv.locals) s₄) E s₃) E s:=by
 have hlt:∀ b∈fp,b<s.heap.objs.size:=fun b hb=>oq12 (T.obj 0 _ st b hb) fun o e _=>Heap.lt_size e
 have hD:H s.heap.objs.size=none:=I.hok.fresh (nz6 _)
 refine oq12 (h _ hD) fun W nn1 turn=>?_; refine oq11 nn1 fun m0 w0=>?_
 refine wpAny_newObj_type (wpAny_newFunctionEnv S.nocell (by intro y hy; simp at hy) (fun h₁ hns₁ hsb₁=>?_) S.kind)
 have hD2:({ cls:=.type "list",dict:=none,data:=.seq ([]:List Value).toArray }:Obj)={ cls:=.type "list",data:=.seq ([]:List Value).toArray 0 }:=rfl
 have I3:Inv X pins σ (upd H s.heap.objs.size (.lst [])) { s with heap:=s.heap.push { cls:=.type "list",dict:=none,data:=.seq ([]:List Value).toArray } } :=
  I.laid (t':=s.toks) (fun b o e=>Heap.get?_push_of_some _ e) (nz6 _) ⟨Nat.zero_le _,[],0,.nil,Heap.get?_push_size _ rfl⟩
 generalize hS3:({ s with heap:=s.heap.push { cls:=.type "list",dict:=none,data:=.seq ([]:List Value).toArray } }:Shared)=s3 at I3 hns₁ hsb₁ ⊢
 generalize hH3:upd H s.heap.objs.size (.lst [])=H3 at I3 w0
 have sz3:s3.heap.objs.size=s.heap.objs.size+1:=by rw [← hS3]; exact Heap.size_push ..
 have fp3:∀ b∈fp,FpOk X pins H3 b:=fun b hb=>by
  refine oq02 (hf b hb) fun f0 fr=>?_
  refine ⟨?_,fr⟩
  rw [← hH3,ac (nz7 (hlt b hb))]; exact f0
 have lt3:∀ b∈fp,b<s3.heap.objs.size:=fun b hb=>by rw [sz3]; exact Nat.lt_succ_of_lt (hlt b hb)
 have k1:∀ b o,s3.heap.get? b=some o→h₁.get? b=some o:=fun b o e=>hsb₁.extBut b o (nz7 (Heap.lt_size e)) (Heap.get?_push_of_some _ e)
 have I4:Inv (bO X (loc++cap.map (·.1)) scope cl fp s3 H3) [] (st0 loc cap σ) H3 { s3 with heap:=h₁ }:=inv_comp S I3 hcl hcl2 fp3 lt3 (by simpa using hns₁) k1
 have st4:tn 0 h₁:=T.keep 0 _ _ st fun b hb o e=>k1 b o (by rw [← hS3]; exact Heap.get?_push_of_some _ e)
 have fpC:∀ {H':Hp},(∀ b∈fp,H' b=none)→∀ b∈fp,FpOk (bO X (loc++cap.map (·.1)) scope cl fp s3 H3) [] H' b:=fun {H'} hn b hb =>
  ⟨hn b hb,nz7 (lt3 b hb),fun z=>(I4.ok.exfs b hb z),.inl hb,fun x c e=>(hf b hb).2.2.2.2.1 x c (hcl x c e),fun p hp=>absurd (show p∈([]:List (Addr × Obj)) from hp) (by simp)⟩
 have toks0:({ s3 with heap:=h₁,toks:=s3.toks+([]:List (Str × Value)).length }:Shared)={ s3 with heap:=h₁ }:=rfl
 rw [toks0]
 have fin:∀ {H':Hp} {s':Shared} {σ':St},Inv (bO X (loc++cap.map (·.1)) scope cl fp s3 H3) [] σ' H' s'→Inv X pins σ H' s':=fun {H' s' σ'} J' =>
  I3.call' J'.os J'.base J'.hok J'.bare fun b hb=>by
   refine oq06 (hf b hb) fun _ f1 f2 f3 f4 f5=>?_
   exact (oi04 f3 f1 f4 f5)
 have loop:codeAny (model X.prog X.w) X.A (.compLoop (.ListComp elt [⟨tg,iter,ifs,0⟩] scope pos) 0 (.ref it) (.ref s.heap.objs.size) (compEnvC scope cl s3.heap.objs.size X.env)) (RR (.ref s.heap.objs.size) s3.heap.objs.size) { s3 with heap:=h₁ }:=by
  refine lh (fun n s'=>∃ i ys H',Inv (bO X (loc++cap.map (·.1)) scope cl fp s3 H3) [] (st0 loc cap σ) H' s'∧tn i s'.heap∧(∀ b∈fp,H' b=none)∧W i n ys H') ?_ m0 (oi34 0 ([]) H3 I4 st4 (fun b hb=>(fp3 b hb).1) w0)
  intro n s5 zq; refine oq34 zq fun i ys H5 I5 st5 fr5 w5=>?_
  refine oq02 (turn i n ys H5 w5) fun hd5 alt=>?_
  rcases alt with ⟨stop,q⟩ | ⟨go,N,hN,step⟩
  ·refine thn (T.done (bO X (loc++cap.map (·.1)) scope cl fp s3 H3) rfl rfl rfl hc i [] s5 _ H5 (fun _ _=>False) I5 (fpC fr5) st5 stop) fun r s6 zq=>oq02 zq fun hr I6=>?_
   subst hr
   refine oq12 I6.loc fun m hn _=>?_
   refine hRR _ _ s6 H5 m (fin I6) ?_ hn q
   exact I3.fpOk (nz6 _) I6.free
  ·refine thn (T.item (bO X (loc++cap.map (·.1)) scope cl fp s3 H3) rfl rfl rfl hc i [] s5 _ H5 (fun _ _=>False) I5 (fpC fr5) st5 go) fun r s6 zq=>oq12 zq fun u hr h6=>?_
   subst hr
   refine thn h6 fun _ s7 zq=>oq25 zq fun x H7 I7 r7 y7 st7 fr7=>?_
   have I7':=I7.pinned (fpC fr7) (T.obj _ _ st7)
   refine thn (hg cl fp s3 H3 _ s7 _ H7 x u _ I7' r7 (step x H7 y7)) fun _ s8 zq=>oq22 zq fun σ8 H8 I8 q8=>?_
   refine oq02 q8 fun wk q8=>?_
   have again:∀ {H9:Hp} {s9:Shared} {zs:List V},Inv (bO X (loc++cap.map (·.1)) scope cl fp s3 H3) ([]++j1 fp s7.heap) σ8 H9 s9→N zs H9→∃ m,m<n∧∃ i ys H',Inv (bO X (loc++cap.map (·.1)) scope cl fp s3 H3) [] (st0 loc cap σ) H' s9∧tn i s9.heap∧(∀ b∈fp,H' b=none)∧W i m ys H':=fun {H9 s9 zs} I9 n9=>by
    refine oq12 (hN zs H9 n9) fun m' hm w9=>?_
    refine ⟨m',hm,i+1,zs,H9,(I9.weak wk.len wk.get).unpinned,T.keep _ _ _ st7 fun b hb o e=>(I9.pin (b,o) (List.mem_append_right _ (List.mem_append_right _ (eC hb e)))).1,fun b hb=>?_,w9⟩
    refine oq12 (T.obj _ _ st7 b hb) fun o e d=>?_
    exact (I9.pin (b,o) (List.mem_append_right _ (List.mem_append_right _ (eC hb e)))).2.1
   refine thn (ht cl fp s3 H3 _ s8 σ8 H8 _ I8 q8) fun ok s9 zq=>oq12 zq fun H9 I9 q9=>?_
   cases ok with
   | false =>
    rw [if_neg Bool.false_ne_true] at q9 ⊢
    exact again I9 q9
   | true =>
    rw [if_pos rfl] at q9 ⊢
    refine thn (he cl fp s3 H3 _ s9 σ8 H9 _ I9 q9) fun u' s10 zq=>oq25 zq fun v H10 I10 r10 hD10 hl10 n10=>?_
    refine thn (cI (X:=bO X (loc++cap.map (·.1)) scope cl fp s3 H3) _ s10 σ8 H10 (.ref s.heap.objs.size) [v] (.ref s.heap.objs.size) [u'] (fun _ H11=>N (ys++[v]) H11) I10 rfl (.cons r10 .nil) ⟨_,ys,v,rfl,rfl,hD10,hl10,n10⟩) fun _ s11 zq=>oq23 zq fun _ H11 I11 _ n11=>?_
    exact again I11 n11
 exact codeAny_compStart_list loop (T.self _ 0 _ _ _ st4 loop)
theorem eE (hc:X.calm=true) (S:CompScope X loc cap scope) (hi:PI X tg iter wi) (hg:∀ cl fp s3 H3,PG (bO X (loc++cap.map (·.1)) scope cl fp s3 H3) tg g) (ht:∀ cl fp s3 H3,PIfs (bO X (loc++cap.map (·.1)) scope cl fp s3 H3) ifs tt)
  (he:∀ cl fp s3 H3,PE (bO X (loc++cap.map (·.1)) scope cl fp s3 H3) elt te) (hs:∀ x,foldedSetIterable iter X.env x=pure x:=by intro _; rfl) :
  PE X (.ListComp elt [⟨tg,iter,ifs,0⟩] scope pos) (tComp wi loc cap g tt te):=by
 intro pins s σ H Q I h
 refine oq13 (gf (scope:=scope) (env:=X.env) fun y hy hf=>I.ok.has y.1 (S.free y hy hf)) fun cl hcl0 hcl hcl2=>?_
 rw [eval_ListComp]
 refine wpAny_comprehension_free (use:=none) rfl hs hcl0 S.kind S.names (thn (hi pins s σ H _ I h) fun v s1 h1=>thn h1 fun itv s2 h2=>?_)
 refine oq56 h2 fun it fp tn J H2 e I2 T st2 f2 R=>?_
 subst e
 refine jj (RR:=fun acc C=>compPost (model X.prog X.w) X.A X.xe none (EP X pins σ Q) acc C) hc S hg ht he hcl hcl2 I2 T st2 f2 R ?_
 intro D C s' H' m I' fC hn q
 exact ⟨m,hn,fun h'' hs''=>⟨.ref D,H',I'.turned (t':=s'.toks) (fun b o hb e=>(hs''.2 b hb).trans e) fC.1 fC.2.1 fC.2.2.2.1 fC.2.2.2.2.1 fC.2.2.2.2.2,rfl,q⟩⟩
theorem eF {i:Nat} {x:Str} {pos' spos:Pos} (hc:X.calm=true) (S:CompScope X loc cap scope) (hN:X.N.Nodup) (hi':X.N[i]?=some x) (hx:Loc X.env.scope x) (hi:PI X tg iter wi)
  (hg:∀ cl fp s3 H3,PG (bO X (loc++cap.map (·.1)) scope cl fp s3 H3) tg g) (ht:∀ cl fp s3 H3,PIfs (bO X (loc++cap.map (·.1)) scope cl fp s3 H3) ifs tt)
  (he:∀ cl fp s3 H3,PE (bO X (loc++cap.map (·.1)) scope cl fp s3 H3) elt te) (hsw:swapsWith (.ListComp elt [⟨tg,iter,ifs,0⟩] scope pos) (some (.Name x pos')) spos.line X.env=pure true:=by rfl)
  (hf:X.fn x=true∨X.env.scope.names.lookup x=some .local:=by first | exact .inl rfl | exact .inr rfl | assumption) (hs:∀ x,foldedSetIterable iter X.env x=pure x:=by intro _; rfl) :
  PS X (.Assign [.Name x pos'] (.ListComp elt [⟨tg,iter,ifs,0⟩] scope pos) spos) (tAsg (tComp wi loc cap g tt te) (d4 i)):=by
 intro pins s σ H D I h
 refine oq13 (gf (scope:=scope) (env:=X.env) fun y hy hf=>I.ok.has y.1 (S.free y hy hf)) fun cl hcl0 hcl hcl2=>?_
 rw [exec_Assign_Name_used _ _ _ _ hsw]
 refine wpAny_bind (wpAny_standAt (wpAny_bind ?_))
 show wpAny _ X.A (do let _ ← comprehension (.ListComp elt [⟨tg,iter,ifs,0⟩] scope pos) scope X.env _ (newList []) false (eval iter X.env) (some (assign (.Name x pos') X.env))) _ _ s
 refine wpAny_bind (thn (wpAny_comprehension_free (use:=some (assign (.Name x pos') X.env)) (Q:=fun _ s'=>SP X pins D .next s') rfl hs hcl0 S.kind S.names
  (thn (hi pins s σ H _ I h) fun v s1 h1=>thn h1 fun itv s2 h2=>?_)) fun _ s' hq=>wpAny_pure (wpAny_pure hq))
 refine oq56 h2 fun it fp tn J H2 e I2 T st2 f2 R=>?_
 subst e
 refine jj (RR:=fun acc C=>compPost (model X.prog X.w) X.A X.xe (some (assign (.Name x pos') X.env)) (fun _ s'=>SP X pins D .next s') acc C) hc S hg ht he hcl hcl2 I2 T st2 f2 R ?_
 intro D' C s' H' m I' fC hn q
 show wpAny _ X.A (assign (.Name x pos') X.env (.ref D')) _ _ s'
 refine wpAny_assign_Name (kf I' hN hi' hx (v:=.ref D') rfl (fun s'' I'' zq=>oq12 zq fun a hsb ha=>?_) hf)
 have hCa:C≠a:=by
  rcases ha with z | z
  ·rw [z]; exact fC.2.1
  ·exact Ne.symm (fC.2.2.2.2.1 x a z)
 refine (oi12 m (hn.sameBut hsb hCa) (fun h'' hs''=>⟨_,H',I''.turned (t':=s''.toks) (fun b o hb e=>(hs''.2 b hb).trans e) fC.1 fC.2.1 fC.2.2.2.1 fC.2.2.2.2.1 fC.2.2.2.2.2,q⟩))
end
section
variable {K:PySem.W.Frag} {g:TG} {tt:TT} {te:TE} {loc:List Str} {cap:List (Str × Nat)} {σ:St} {Q:VK}
end
end L2
namespace L2
open PySem PySem.Spec PyProof.Rows
section
variable {X:Cx} {pins:List (Addr × Obj)} {σ:St} {H:Hp} {s:Shared} {h':Heap}
theorem Inv.turnedL {ch:List Addr} {t':Nat} (I:Inv X pins σ H s) (hch:∀ b∈ch,FpOk X pins H b) (k:∀ b u,b ∉ ch→s.heap.get? b=some u→h'.get? b=some u):Inv X pins σ H { s with heap:=h',toks:=t' }:=by
 have nch:∀ b u,H b=some u→b ∉ ch:=fun b u e z=>by rw [(hch b z).1] at e; cases e
 refine I.step (g':=s.gens) (d':=s.drawn) (ch:=ch) (fun b hb=>?_) (fun b u _ _ hc e _=>k b u hc e) (fun b u _ _ hc e _=>⟨u.slots,k b u hc e⟩)
  (fun b u _ _ n=>n) (fun b u hc e=>⟨u,k b u hc e⟩) (fun b xs e=>e) (fun b u xs e=>e) (fun b ps e=>⟨#[],by rw [e]; simp⟩) (fun m hm=>?_) (fun b u e=>?_) I.bare
 ·have f:=hch b hb; exact (oi04 f.2.2.2.1 f.2.1 f.2.2.2.2.1 f.2.2.2.2.2)
 ·refine oq32 hm fun o es ep ho r=>?_
  exact ⟨o,es,ep,k _ o (fun z=>(hch _ z).2.1 rfl) ho,r⟩
 ·refine (I.hok b u e).stay (fun c v hc q=>k c v ?_ q) (fun c q=>q) fun c xs q=>q
  rcases hc with z | z
  ·rw [z]; exact nch b u e
  ·exact nch c _ z
theorem Inv.turnNew {a:Addr} {o:HO} {ch:List Addr} {t':Nat} (I:Inv X pins σ H s) (hch:∀ b∈ch,FpOk X pins H b) (ha:s.heap.objs.size≤a) (k:∀ b u,b ∉ ch→s.heap.get? b=some u→h'.get? b=some u)
  (new:bb X.prog X.w (upd H a o) h' a o):Inv X pins σ (upd H a o) { s with heap:=h',toks:=t' }:=by
 have hn:H a=none:=I.hok.fresh ha
 have fa:=I.fpOk ha hn
 have hne:∀ b u,H b=some u→b≠a:=fun b u e=>ah e hn
 have nch:∀ b u,H b=some u→b ∉ ch:=fun b u e z=>by rw [(hch b z).1] at e; cases e
 refine I.step (g':=s.gens) (d':=s.drawn) (ch:=a :: ch) (fun b hb=>?_) (fun b u _ _ hc e _=>k b u (fun z=>hc (List.mem_cons_of_mem _ z)) e) (fun b u _ _ hc e _=>⟨u.slots,k b u (fun z=>hc (List.mem_cons_of_mem _ z)) e⟩)
  (fun b u hc _ n=>by rw [ac (fun z=>hc (by rw [z]; exact List.mem_cons_self))]; exact n) (fun b u hc e=>⟨u,k b u (fun z=>hc (List.mem_cons_of_mem _ z)) e⟩)
  (fun b xs e=>by rw [ac (hne b _ e)]; exact e) (fun b u xs e=>by rw [ac (hne b _ e)]; exact e) (fun b ps e=>⟨#[],by rw [ac (hne b _ e),e]; simp⟩) (fun m hm=>?_) (fun b u e=>?_) I.bare
 ·rcases List.mem_cons.mp hb with z | z
  ·rw [z]; exact (oi04 fa.2.2.2.1 fa.2.1 fa.2.2.2.2.1 fa.2.2.2.2.2)
  ·have f:=hch b z; exact (oi04 f.2.2.2.1 f.2.1 f.2.2.2.2.1 f.2.2.2.2.2)
 ·refine oq32 hm fun o es ep ho r=>?_
  exact ⟨o,es,ep,k _ o (fun z=>(hch _ z).2.1 rfl) ho,r⟩
 ·by_cases hb:b=a
  ·subst hb; rw [af] at e; cases e; exact new
  ·rw [ac hb] at e
   refine (I.hok b u e).stay (fun c v hc q=>k c v ?_ q) (fun c q=>by rw [ac (hne c _ q)]; exact q) fun c xs q=>by rw [ac (hne c _ q)]; exact q
   rcases hc with z | z
   ·rw [z]; exact nch b u e
   ·exact nch c _ z
end
noncomputable def Ite (K:PySem.W.Frag) (a:Addr):It :=
 ⟨fun i H=>∃ xs x,SqL K H a xs∧xs[i]?=some x,fun i H x H'=>∃ p y,x=.ref p∧H p=none∧H'=upd H p (.tup [.int (i:Nat),y])∧∀ xs,SqL K H a xs→xs[i]?=some y,fun i H=>∃ xs,SqL K H a xs∧xs.length≤i⟩
theorem turn_enum {P:Program} {w:World} {K:PySem.W.Frag} {elts:List Expr} {x1:Nat} {pos:Pos} (a e it:Addr) (hne:e≠it) :
  Turn P w K (.Tuple elts x1 pos) (Ite K a) [e,it] e (fun i h=>(∃ old,IsEnum h e it ((i:Nat):Int) old)∧h.IsListIter it a i) where
 mem:=by simp
 obj:=fun i h st b hb=>by
  refine oq02 st fun nn1 hi=>?_; refine oq11 nn1 fun old he=>?_
  have hb':b=e∨b=it:=by simpa using hb
  rcases hb' with z | z
  ·rw [z]; exact (oi12 _ he (fun v q=>by have q':Data.fields _=Data.cell v:=q; cases q'))
  ·rw [z]
   refine oq13 hi fun o e' c d=>?_
   exact (oi12 o e' (fun v q=>by rw [d] at q; cases q))
 keep:=fun i h h' st k=>by
  refine oq02 st fun nn2 hi=>?_; refine oq11 nn2 fun old he=>?_
  exact ⟨⟨old,k e (by simp) _ he⟩,hi.at fun o q=>k it (by simp) o q⟩
 item:=by
  intro X hP hw hK hc i pins s σ H E I hf st hg
  subst hP hw hK
  refine oq02 st fun nn3 hit=>?_; refine oq11 nn3 fun old he=>?_
  refine oq22 hg fun xs x hq hx=>?_
  refine oq13 (I.list hq) fun its rv p hz=>?_
  refine oq12 (rv.get hx) fun u hu ru=>?_
  refine wpAny_pyNext_enum_item he hit p.isList (x:=u) (by simpa using hu) hne fun h1 heo hit1 ht1 hz1 hk1=>?_
  refine (oi12 _ rfl (wpAny_letOwnedTupleGo_enum heo fun h2 he2 hs2=>?_))
  replace hs2:Heap.SameBut e h1 h2:=hs2
  replace he2:IsEnum h2 e it ((i:Int)+1) u:=he2
  have hlt:e<s.heap.objs.size:=Heap.lt_size he
  have hk2:∀ b o,b ∉ [e,it]→s.heap.get? b=some o→h2.get? b=some o:=fun b o hb q=>by
   have b1:b≠e:=fun z=>hb (by simp [z])
   have b2:b≠it:=fun z=>hb (by simp [z])
   exact (hs2.2 b b1).trans (hk1 b o b1 b2 q)
  have t2:h2.get? s.heap.objs.size=some { cls:=.type "tuple",data:=.seq #[.int (i:Nat) s.toks,u] }:=(hs2.2 _ (Nat.ne_of_gt hlt)).trans ht1
  refine (oi25 (.ref s.heap.objs.size) _ (I.turnNew (t':=s.toks+1) (ch:=[e,it]) (a:=s.heap.objs.size) (o:=.tup [.int (i:Nat),x]) hf (nz6 _) hk2 ?_) rfl ⟨_,x,rfl,I.hok.fresh (nz6 _),rfl,fun ys hy=>by rw [I.list_inj hy hq]; exact hx⟩ ⟨⟨u,?_⟩,hit1.extBut hs2.extBut (Ne.symm hne)⟩ (fun b hb=>?_))
  ·exact ⟨by show 2≤sizeLine; decide,[.int (i:Nat) s.toks,u],.cons ⟨_,rfl⟩ (.cons ru .nil),⟨_,t2,rfl,_,rfl⟩⟩
  ·have e1:((i+1:Nat):Int)=(i:Int)+1:=by push_cast; rfl
   rw [e1]; exact he2
  ·have f:=hf b hb
   have hbl:b≠s.heap.objs.size:=by
    have hb':b=e∨b=it:=by simpa using hb
    rcases hb' with z | z
    ·rw [z]; exact nz7 hlt
    ·refine oq12 hit fun o e' _=>?_
     rw [z]; exact nz7 (Heap.lt_size e')
   rw [ac hbl]; exact f.1
 done:=by
  intro X hP hw hK hc i pins s σ H E I hf st hg
  subst hP hw hK
  refine oq02 st fun nn4 hit=>?_; refine oq11 nn4 fun old he=>?_
  refine oq12 hg fun xs hq hx=>?_
  refine oq13 (I.list hq) fun its rv p hz=>?_
  have hl:=rv.length
  exact wpAny_pyNext_enum_end (I.ok.hd hc) he hit p.isList (by simp; exact nz4 (nz3 hl.symm) hx) fun h' eb=>⟨rfl,I.turnedL (t':=s.toks) (ch:=[e,it]) hf fun b o hb q=>eb b o (fun z=>hb (by simp [z])) q⟩
 self:=fun _ _ _ _ _ st h=>by
  refine oq02 st fun nn5 _=>?_; refine oq11 nn5 fun old he=>?_
  exact wpAny_pyIter_enum he h
section
variable {X:Cx} {elts:List Expr} {x1:Nat} {tpos:Pos}
noncomputable def iEnum (K:PySem.W.Frag) (ta:TA):TI:=fun σ H R=>ta σ H fun vs H1=>∃ a,vs=[.ref a]∧(∃ xs,SqL K H1 a xs)∧R (Ite K a) H1
theorem pi_enum {a:Expr} {ta:TA} {p pos:Pos} (hg:Gl X "enumerate") (hm:X.mg "enumerate"=none) (ha:PA X [a] ta) (hs:starEach [a] X.env=[(false,eval a X.env)]:=by rfl) :
  PI X (.Tuple elts x1 tpos) (.Call (.Name "enumerate" p) [a] [] pos) (iEnum X.K ta):=by
 intro pins s σ H R I h
 refine Call_ (dJ I hg hm boot_enumerate (PyProof.Rows.callWith_type1 (thn (ha pos pins s σ H _ I h) fun us s1 zq=>oq23 zq fun vs H1 I1 r1 q1=>?_) hs rfl))
 refine oq13 q1 fun l e nn6 q=>?_; refine oq11 nn6 fun xs hq=>?_
 subst e
 refine oq12 (vals1 r1) fun u eq1_ ru=>?_; subst eq1_
 cases ru
 refine oq13 (I1.list hq) fun its rv pl hz=>?_
 refine call_enumerate_list pl.isList fun h' he hit hsz hk=>wpAny_pyIter_enum he ?_
 have I2:Inv X pins σ H1 { s1 with heap:=h' }:=I1.kept (t':=s1.toks) hk
 refine ⟨s1.heap.objs.size+1,[s1.heap.objs.size+1,s1.heap.objs.size],_,_,H1,rfl,I2,turn_enum l _ _ (Nat.succ_ne_self _),⟨⟨_,he⟩,hit⟩,fun b hb=>?_,q⟩
 have hb':b=s1.heap.objs.size+1∨b=s1.heap.objs.size:=by simpa using hb
 have hle:s1.heap.objs.size≤b:=by
  rcases hb' with z | z
  ·rw [z]; exact Nat.le_succ _
  ·rw [z]; exact nz6 _
 exact I1.fpOk hle (I1.hok.fresh hle)
end
section
variable {X:Cx} {elts:List Expr} {x1:Nat} {tpos:Pos}
end
noncomputable def Itq (lo c:Int) (n:Nat):It:=⟨fun i _=>i<n,fun i H x H'=>H'=H∧x=.int (lo+(i:Nat) * c),fun i _=>n≤i⟩
theorem mH {P:Program} {w:World} {K:PySem.W.Frag} {tg:Expr} (it:Addr) (lo c:Int) (n:Nat):Turn P w K tg (Itq lo c n) [it] it (fun i h=>IsRangeIter h it (lo+(i:Nat) * c) ((n:Int) - (i:Nat)) c) where
 mem:=by simp
 obj:=fun i h st b hb=>by
  have e:b=it:=by simpa using hb
  subst e
  exact (oi12 _ st (fun v z=>by
   have z':Data.fields _=Data.cell v:=z
   cases z'))
 keep:=fun i h h' st k=>k it (by simp) _ st
 item:=by
  intro X hP hw hK hc i pins s σ H E I hf st hg
  subst hP hw hK
  refine oq06 (hf it (by simp)) fun f0 f1 f2 f3 f4 f5=>?_
  have W:=Walks.range (prog:=X.prog) (w:=X.w) (I.ok.hd hc) it lo c n
  refine W.item i s _ _ hg st fun v h' tk hv st' kk=>?_
  refine oq11 hv fun t eq1_=>?_; subst eq1_
  have I1:Inv X pins σ H { s with heap:=h',toks:=tk }:=I.turned (fun b o hb e=>kk b o (by simpa using hb) e) f0 f1 f3 f4 f5
  exact (oi12 _ rfl (go_of (s:={ s with heap:=h',toks:=tk }) (n:="range_iterator") st' rfl rfl (by decide) (oi25 (.int (lo+(i:Nat) * c)) H I1 ⟨t,rfl⟩ ⟨rfl,rfl⟩ st' (fun b hb=>(hf b hb).1))))
 done:=by
  intro X hP hw hK hc i pins s σ H E I hf st hg
  subst hP hw hK
  refine oq06 (hf it (by simp)) fun f0 f1 f2 f3 f4 f5=>?_
  exact wpAny_pyNext_range_end (I.ok.hd hc) st (by have:n≤i:=hg; omega) fun h' eb=>⟨rfl,I.turned (t':=s.toks) (fun b o hb e=>eb b o hb e) f0 f1 f3 f4 f5⟩
 self:=fun _ _ _ _ _ st h=>wpAny_pyIter_rangeiter st h
noncomputable abbrev rcnt (a b c:Int):Nat:=Fl.jd a b c
theorem rcnt_size {a b c:Int} (hc:0<c):((rcnt a b c:Nat):Int)=Builtin.Range.rangeSize a b c:=by
 unfold rcnt Fl.jd Builtin.Range.rangeSize
 rw [if_pos (show c > 0 from hc)]
 by_cases h:a<b
 ·rw [if_pos h]
  have:0≤(b - a - 1) / c:=Int.ediv_nonneg (by omega) (by exact Int.le_of_lt hc)
  omega
 ·rw [if_neg h]; rfl
theorem fits {x:Int} (h:-(2 ^ 62)≤x) (h':x≤2 ^ 62):Builtin.Range.rangeFitsLong x=true:=by
 simp only [Builtin.Range.rangeFitsLong,Bool.and_eq_true,decide_eq_true_eq]
 exact ⟨Int.le_trans (by decide) h,Int.lt_of_le_of_lt h' (by decide)⟩
theorem nX {a b c:Int} (ha:-(2 ^ 61)≤a) (ha':a<2 ^ 61) (hb:-(2 ^ 61)≤b) (hb':b<2 ^ 61) (hc:0<c) (hc':c<1073741824):Builtin.Range.small a b c=true:=by
 have fa:∀ {x:Int},-(2 ^ 61)≤x→x<2 ^ 61→Builtin.Range.rangeFitsLong x=true:=fun h h'=>fits (Int.le_trans (by decide) h) (Int.le_trans (Int.le_of_lt h') (by decide))
 have fc:Builtin.Range.rangeFitsLong c=true:=fits (Int.le_trans (by decide) (Int.le_of_lt hc)) (Int.le_trans (Int.le_of_lt hc') (by decide))
 unfold Builtin.Range.small Builtin.Range.rangeSize
 simp only [show c > 0 from hc,if_true,fa ha ha',fa hb hb',fc,Bool.true_and]
 by_cases h:a<b
 ·rw [if_pos h,fits,fits,Bool.or_true]
  ·rfl
  ·omega
  ·omega
  ·exact Int.le_trans (by decide) (Int.le_trans (Int.ediv_nonneg (by omega) (by exact Int.le_of_lt hc)) (Int.le_add_of_nonneg_right (by decide)))
  ·have h2:(b - a - 1) / c≤b - a - 1:=Int.ediv_le_self _ (by omega)
   omega
 ·rw [if_neg h]; rfl
section
variable {X:Cx} {tg:Expr}
theorem range_it3 {pins:List (Addr × Obj)} {σ:St} {H:Hp} {s:Shared} {R:It→Hp→Prop} {E:Value→Shared→Prop} {lo hi c:Int} {t u v:Tok} {tk:Nat} (I:Inv X pins σ H s) (h1:-(2 ^ 61)≤lo) (h2:lo<2 ^ 61) (h3:-(2 ^ 61)≤hi) (h4:hi<2 ^ 61) (h5:0<c) (h6:c<1073741824)
  (q:R (Itq lo c (rcnt lo hi c)) H):wpAny (model X.prog X.w) X.A (pyIter (.ref s.heap.objs.size)) (PIE X pins σ tg R) E { s with heap:=s.heap.push { cls:=.type "range",data:=.fields #[.int lo t,.int hi u,.int c v] },toks:=tk }:=by
 refine wpAny_pyIter_range (IsRange.new ..) (nX h1 h2 h3 h4 h5 h6) ?_
 have I1:Inv X pins σ H { s with heap:=s.heap.push { cls:=.type "range",data:=.fields #[.int lo t,.int hi u,.int c v] },toks:=tk }:=I.kept fun b o e=>Heap.get?_push_of_some _ e
 refine ⟨(s.heap.push { cls:=.type "range",data:=.fields #[.int lo t,.int hi u,.int c v] }).objs.size,[(s.heap.push { cls:=.type "range",data:=.fields #[.int lo t,.int hi u,.int c v] }).objs.size],_,_,H,rfl,
  I1.kept (t':=tk) fun b o e=>Heap.get?_push_of_some _ e,mH _ lo c (rcnt lo hi c),?_,fun b hb=>?_,q⟩
 ·have e1:lo+((0:Nat):Int) * c=lo:=by simp
  have e2:((rcnt lo hi c:Nat):Int) - ((0:Nat):Int)=Builtin.Range.rangeSize lo hi c:=by rw [rcnt_size h5]; simp
  show IsRangeIter _ _ (lo+((0:Nat):Int) * c) (((rcnt lo hi c:Nat):Int) - ((0:Nat):Int)) c
  rw [e1,e2]
  exact Heap.get?_push_size _ rfl
 ·have e:b=(s.heap.push { cls:=.type "range",data:=.fields #[.int lo t,.int hi u,.int c v] }).objs.size:=by simpa using hb
  subst e
  exact I1.fpOk (nz6 _) (I1.hok.fresh (nz6 _))
noncomputable def iRng3 (ta:TA):TI:=fun σ H R=>ta σ H fun vs H1=>∃ i j c:Int,vs=[.int i,.int j,.int c]∧(-(2 ^ 61)≤i∧i<2 ^ 61∧-(2 ^ 61)≤j∧j<2 ^ 61∧0<c∧c<1073741824)∧R (Itq i c (rcnt i j c)) H1
theorem pi_range3 {a b c:Expr} {ta:TA} {p pos:Pos} (hg:Gl X "range") (hm:X.mg "range"=none) (ha:PA X [a,b,c] ta) (hs:starEach [a,b,c] X.env=[(false,eval a X.env),(false,eval b X.env),(false,eval c X.env)]:=by rfl)
  (hs2:starEach [b,c] X.env=[(false,eval b X.env),(false,eval c X.env)]:=by rfl):PI X tg (.Call (.Name "range" p) [a,b,c] [] pos) (iRng3 ta):=by
 intro pins s σ H R I h
 refine Call_ (dJ I hg hm boot_range (PyProof.Rows.callWith_type1 (thn (ha pos pins s σ H _ I h) fun us s1 zq=>oq23 zq fun vs H1 I1 r1 q1=>?_) (by rw [hs,hs2]) (by rw [hs2]; rfl)))
 obtain ⟨i,j,k,e,nn15,q⟩:=q1; obtain ⟨q1,q2,q3,q4,q5,q6⟩:=nn15
 subst e
 cases r1 with
 | cons r rr =>
  cases rr with
  | cons r' rr =>
   cases rr with
   | cons r'' rr =>
    cases rr
    refine oq11 r fun t eq1_=>?_; subst eq1_
    refine oq11 r' fun t' eq1_=>?_; subst eq1_
    refine oq11 r'' fun t'' eq1_=>?_; subst eq1_
    exact call_range_3 (by exact Int.ne_of_gt q5) (range_it3 I1 q1 q2 q3 q4 q5 q6 q) (.inl (PyProof.noPylong_small (by omega)))
end
end L2
namespace L2
open PySem PySem.Spec PyProof.Rows
mutual
noncomputable def DatV (K:PySem.W.Frag) (H:Hp):PyData→V→Prop
 | .none,v=>v=.non
 | .bool b,v=>v=.bl b
 | .int i,v=>v=.int i
 | .str x,v=>v=.str x
 | .list ds,v=>∃ a xs,v=.ref a∧SqL K H a xs∧bP K H ds xs
 | .tuple ds,v=>∃ a xs,v=.ref a∧SqT K H a xs∧bP K H ds xs
 | .dict _,_=>False
noncomputable def bP (K:PySem.W.Frag) (H:Hp):List PyData→List V→Prop
 | [],xs=>xs=[]
 | d :: ds,xs=>∃ x r,xs=x :: r∧DatV K H d x∧bP K H ds r
end
theorem Same.sqT {K:PySem.W.Frag} {H H':Hp} {a:Addr} {xs:List V} (e:Same H H') (h:SqT K H a xs):SqT K H' a xs:=by
 rcases h with (h | ⟨o,h⟩) | h
 ·exact .inl (.inl (e _ _ h))
 ·exact .inl (.inr ⟨o,e _ _ h⟩)
 ·exact .inr h
mutual
theorem DatV.same {K:PySem.W.Frag} {H H':Hp} (e:Same H H'):∀ {d:PyData} {v:V},DatV K H d v→DatV K H' d v
 | .none,_,h=>by unfold DatV at h ⊢; exact h
 | .bool _,_,h=>by unfold DatV at h ⊢; exact h
 | .int _,_,h=>by unfold DatV at h ⊢; exact h
 | .str _,_,h=>by unfold DatV at h ⊢; exact h
 | .list ds,_,h=>by
  unfold DatV at h ⊢
  refine oq23 h fun a xs h1 h2 h3=>?_
  exact (oi23 a xs h1 (e.seq h2) (bP.same e h3))
 | .tuple ds,_,h=>by
  unfold DatV at h ⊢
  refine oq23 h fun a xs h1 h2 h3=>?_
  exact (oi23 a xs h1 (e.sqT h2) (bP.same e h3))
 | .dict _,_,h=>by unfold DatV at h; exact h.elim
theorem bP.same {K:PySem.W.Frag} {H H':Hp} (e:Same H H'):∀ {ds:List PyData} {xs:List V},bP K H ds xs→bP K H' ds xs
 | [],_,h=>by unfold bP at h ⊢; exact h
 | d :: ds,_,h=>by
  unfold bP at h ⊢
  refine oq23 h fun x r h1 h2 h3=>?_
  exact (oi23 x r h1 (DatV.same e h2) (bP.same e h3))
end
section
variable {X:Cx} {pins:List (Addr × Obj)} {σ:St} {H:Hp} {s:Shared}
mutual
theorem DatV.reads (I:Inv X pins σ H s):∀ {d:PyData} {v:V} {u:Value},DatV X.K H d v→RelV v u→∃ as,Reads s.heap u d as
 | .none,v,u,h,r=>by
  unfold DatV at h; subst h; cases r; exact ⟨_,.none⟩
 | .bool b,v,u,h,r=>by
  unfold DatV at h; subst h; cases r; exact ⟨_,.bool b⟩
 | .int i,v,u,h,r=>by
  unfold DatV at h; subst h; refine oq11 r fun t eq1_=>?_; subst eq1_; exact ⟨_,.int i t⟩
 | .str x,v,u,h,r=>by
  unfold DatV at h; subst h; refine oq11 r fun t eq1_=>?_; subst eq1_; exact ⟨_,.str x t⟩
 | .list ds,v,u,h,r=>by
  unfold DatV at h
  refine oq23 h fun a xs h1 h2 h3=>?_
  subst h1
  cases r
  obtain ⟨its,rv,⟨o,n,e,hc,_,hd⟩,_⟩:=I.list h2
  refine oq11 (bP.reads I h3 rv) fun as q=>?_
  exact ⟨_,.list e hc hd (by simpa using q)⟩
 | .tuple ds,v,u,h,r=>by
  unfold DatV at h
  refine oq23 h fun a xs h1 h2 h3=>?_
  subst h1
  cases r
  obtain ⟨its,rv,⟨o,e,hc,n,hd⟩,_⟩:=I.tuple h2
  refine oq11 (bP.reads I h3 rv) fun as q=>?_
  exact ⟨_,.tuple e hc hd (by simpa using q)⟩
 | .dict _,v,u,h,r=>by unfold DatV at h; exact h.elim
theorem bP.reads (I:Inv X pins σ H s):∀ {ds:List PyData} {xs:List V} {us:List Value},bP X.K H ds xs→Vals xs us→∃ as,ReadsAll s.heap us ds as
 | [],xs,us,h,r=>by
  unfold bP at h; subst h; cases r; exact ⟨_,.nil⟩
 | d :: ds,xs,us,h,r=>by
  unfold bP at h
  refine oq23 h fun x t h1 h2 h3=>?_
  subst h1
  cases r with
  | cons r1 r2 =>
   refine oq11 (DatV.reads I h2 r1) fun as q1=>?_
   refine oq11 (bP.reads I h3 r2) fun bs q2=>?_
   exact ⟨_,.cons q1 q2⟩
end
end
section
variable {X:Cx}
noncomputable def rEqD (K:PySem.W.Frag):R2:=fun x y H Q=>∃ dx dy,DatV K H dx x∧DatV K H dy y∧dx.canLay0=true∧dy.canLay0=true∧min dx.depth dy.depth≤60∧Q (.bl (PyData.eqv dx dy)) H
noncomputable def rNeD (K:PySem.W.Frag):R2:=fun x y H Q=>∃ dx dy,DatV K H dx x∧DatV K H dy y∧dx.canLay0=true∧dy.canLay0=true∧min dx.depth dy.depth≤60∧Q (.bl (!PyData.eqv dx dy)) H
theorem op_eqD (hu:X.A.units+64<cLine):OpR X (compareOp .Eq) (rEqD X.K):=by
 intro pins s σ H x y v u Q I rx ry h
 refine oq26 h fun dx dy h1 h2 c1 c2 dp q=>?_
 refine oq11 (DatV.reads I h1 rx) fun as ra=>?_
 refine oq11 (DatV.reads I h2 ry) fun bs rb=>?_
 exact SeqAt.compareEq_reads ra rb c1 c2 (by omega) ⟨.bl _,H,I,rfl,q⟩
theorem cP:OpR X (binaryOp .FloorDiv) (rI (fun _ j=>0<j∧j<2 ^ 64) fun i j=>.int (i / j)):=opI fun i j _ _ _ _ _ hc q=>by
 have h1:(0:Int)<j:=hc.1
 have h2:j<2 ^ 64:=hc.2
 refine floordiv_int (by exact Int.ne_of_gt h1) (by rw [Int.fdiv_eq_ediv_of_nonneg i (by exact Int.le_of_lt h1)]; exact q) (.inl (PyProof.noPylong_of_log2 ?_))
 have h3:j.natAbs≠0:=by omega
 have h4:j.natAbs.log2<64:=(Nat.log2_lt h3).mpr (by omega)
 exact nz8 h4 (by decide)
theorem mI {T:String}:cA X (.builtin "isinstance") (fun xs H Q=>∃ x t b,xs=[x,.ty T]∧TyOf X.K H x t∧PySem.W.kitOne X.K t (.type T)=some b∧Q (.bl b) H):=by
 intro pins s σ H xs us Q I r h
 refine oq34 h fun x t b eq3_ ty e q=>?_; subst eq3_
 refine oq23 (vals2 r) fun u c eq2_ ru rc=>?_; subst eq2_
 have rc':c=Value.type T:=rc
 subst rc'
 exact isinst_ok I ru ty e fun tk=>⟨.bl b,H,I.tok _,rfl,q⟩
end
section
variable {K:PySem.W.Frag}
theorem mJ:PySem.W.kitOne K (.type "int") (.type "int")=some true:=by with_unfolding_all rfl
theorem li:PySem.W.kitOne K (.type "int") (.type "bool")=some false:=by with_unfolding_all rfl
theorem mK:PySem.W.kitOne K (.type "tuple") (.type "tuple")=some true:=by with_unfolding_all rfl
theorem fY:PySem.W.kitOne K (.type "list") (.type "list")=some true:=by with_unfolding_all rfl
end
end L2
namespace L2
open PySem PySem.Spec PyProof.Rows
section
variable {K:PySem.W.Frag} {g:TG} {tb:TS} {D:Ends} {σ:St} {H:Hp} {J:It}
end
section
variable {K:PySem.W.Frag} {g:TG} {tt:TT} {te:TE} {loc:List Str} {cap:List (Str × Nat)} {σ:St} {Q:VK} {J:It} {D:Addr} {H:Hp}
theorem comp_it {n:Nat} (Pv:Nat→List V→Hp→Prop) (h0:Pv 0 [] (upd H D (.lst []))) (hD:∀ i ys H,i≤n→Pv i ys H→H D=some (.lst ys)) (go:∀ i ys H,i<n→Pv i ys H→J.go i H) (st:∀ ys H,Pv n ys H→J.stop n H)
  (hs:∀ i ys H x H',i<n→Pv i ys H→J.yld i H x H'→cTurn g tt te loc cap σ D ys (Pv (i+1)) x H') (hd:∀ ys H,Pv n ys H→Q (.ref D) H):cGoal g tt te loc cap σ D Q J H:=by
 refine ⟨fun i m ys H=>m=n - i∧i≤n∧Pv i ys H,(oi13 n (by simp) (Nat.zero_le _) h0),?_⟩
 intro i m ys H zq; refine oq03 zq fun eq0_ hi p=>?_; subst eq0_
 refine ⟨hD i ys H hi p,?_⟩
 by_cases hlt:i<n
 ·exact .inr ⟨go i ys H hlt p,Pv (i+1),fun ys' H' p'=>(oi14 (n - (i+1)) (by omega) rfl hlt p'),fun x H' y=>hs i ys H x H' hlt p y⟩
 ·have e:i=n:=by exact Nat.le_antisymm hi (Nat.not_lt.mp hlt)
  subst e
  exact .inl ⟨st ys H p,hd ys H p⟩
end
noncomputable def au (K:PySem.W.Frag) (mg:Str→Option Value) (x:Str) (st:Stmt) (ps:List Str):Prop:=∃ f fd,Fun K x x st f fd∧Binds K fd ps []∧mg x=some (.ref f)
noncomputable def Has (P:Program) (w:World) (K:PySem.W.Frag) (mg:Str→Option Value) (base:Heap) (k:Nat) (x:Str) (ps:List Str) (sp:Sp):Prop :=
 ∃ f fd,FnOk P w K mg base CX0 k f fd ps sp∧mg x=some (.ref f)∧PySem.W.keepIn K (.ref f)=true∧Binds K fd ps []
section
variable {P:Program} {w:World} {K:PySem.W.Frag} {mg:Str→Option Value} {base:Heap}
theorem au.has {x:Str} {st:Stmt} {N ps:List Str} {k:Nat} {sp:Sp} (D:au K mg x st ps) (S:FnScope N ps (ae st)) (len:∀ vs H Q E,sp vs H Q E→vs.length=ps.length)
  (hbody:∀ (f:Addr) (cdv:Value) (A:Around) (outer:List Env) (s:Shared) (H:Hp) (vs:List V) (Q:VK) (E:XK),Room k (A.deeper (envOfC x (ae st) s.heap.objs.size f cdv))→sp vs H Q E →
   ∃ t,PSs (cxOf CX0 P w K mg base N x (ae st) f cdv A outer s H E).nox (aO st) t∧t { nx:=fun _ H'=>Q .non H',rt:=Q } (start N vs) H):Has P w K mg base (k+1) x ps sp:=by
 refine oq23 D fun f fd F b hm=>?_
 exact ⟨f,fd,F.ok S len fun cdv A outer s H vs Q E hr h=>hbody f cdv A outer s H vs Q E hr h,hm,F.kp,b⟩
end
section
variable {X:Cx} {k:Nat} {ps:List Str} {sp:Sp} {x:Str} {p pos:Pos} {e:Expr} {es:List Expr} {t:TA}
theorem ao (G:Has X.prog X.w X.K X.mg X.base k x ps sp) (hr:Room k X.A) (hg:Gl X x) (ha:PA X (e :: es) t) (hdb:(x == ("__debug__":Str))=false:=by decide)
  (he:starEach (e :: es) X.env=(false,eval e X.env) :: starEach es X.env:=by rfl) (hpl:(backTo pos (starEach es X.env)).any (·.1)=false:=by rfl) :
  PE X (.Call (.Name x p) (e :: es) [] pos) (j5 sp [] E0 t):=by
 refine oq24 G fun f fd F hm hk hb=>?_
 exact pe_call F hr hg hm hk hb .nil pass0 ha hdb he hpl
end
structure Blt (mg:Str→Option Value):Prop where
 len:mg "len"=none
 range:mg "range"=none
 enumerate:mg "enumerate"=none
 zip:mg "zip"=none
 min:mg "min"=none
 max:mg "max"=none
 abs:mg "abs"=none
 isinstance:mg "isinstance"=none
 int_:mg "int"=none
 bool_:mg "bool"=none
 list_:mg "list"=none
 tuple_:mg "tuple"=none
 sorted:mg "sorted"=none
 set_:mg "set"=none
end L2
namespace L2
open PySem PySem.Spec PyProof.Rows
theorem bI:bootBuiltins "len"=some (.builtin "len"):=by decide +kernel
theorem jk:bootBuiltins "min"=some (.builtin "min"):=by decide +kernel
theorem jl:bootBuiltins "max"=some (.builtin "max"):=by decide +kernel
theorem lj:bootBuiltins "abs"=some (.builtin "abs"):=by decide +kernel
theorem cN:bootBuiltins "isinstance"=some (.builtin "isinstance"):=by decide +kernel
theorem fH:bootBuiltins "sorted"=some (.builtin "sorted"):=by decide +kernel
theorem bo_int:bootBuiltins "int"=some (.type "int"):=by decide +kernel
theorem bo_bool:bootBuiltins "bool"=some (.type "bool"):=by decide +kernel
theorem gC:bootBuiltins "list"=some (.type "list"):=by decide +kernel
theorem bo_tuple:bootBuiltins "tuple"=some (.type "tuple"):=by decide +kernel
theorem bo_set:bootBuiltins "set"=some (.type "set"):=by decide +kernel
noncomputable abbrev Ints (K:PySem.W.Frag) (H:Hp) (a:Addr) (ns:List Int):Prop:=SqL K H a (ns.map V.int)
theorem cq {α β:Type} {F:α→β→Prop}:∀ {l₁:List α} {l₂:List β} {i:Nat} {y:β},Paired F l₁ l₂→l₂[i]?=some y→∃ x,l₁[i]?=some x∧F x y
 | _,_,_,_,.nil,e=>by simp at e
 | _,_,0,_,.cons r _,e=>by simp at e; subst e; exact (oi12 _ rfl r)
 | _,_,i+1,y,.cons _ t,e=>by
  refine oq12 (cq (i:=i) (y:=y) t (by simpa using e)) fun x h1 h2=>?_
  exact (oi12 x (by simpa using h1) h2)
theorem eY {α β:Type} {F:α→β→Prop}:∀ {l₁:List α} {l₂:List β} {i:Nat} {x:α},Paired F l₁ l₂→l₁[i]?=some x→∃ y,l₂[i]?=some y∧F x y
 | _,_,_,_,.nil,e=>by simp at e
 | _,_,0,_,.cons r _,e=>by simp at e; subst e; exact (oi12 _ rfl r)
 | _,_,i+1,x,.cons _ t,e=>by
  refine oq12 (eY (i:=i) (x:=x) t (by simpa using e)) fun y h1 h2=>?_
  exact (oi12 y (by simpa using h1) h2)
end L2
namespace L2
open PySem
end L2
namespace L2
open PySem PySem.Spec PyProof.Rows
theorem aZ {K:PySem.W.Frag} {mg:Str→Option Value} {h:Heap} {x:Str} {st:Stmt} {ps:List Str} {f:Addr} {oc:Value} {od an:Option Addr} {osl:Array (Option Value)} {kV doc pm cdv ct:Value} (X:K.In h) (G:h.Ns mainGlobals mg)
  (a:PySem.W.nsIn K mainGlobals x=some (some (.ref f))) (l:K.lookup f=some ⟨oc,od,.func (PySem.W.fnOf x x (bz st) (aO st) (ae st) .none kV doc pm an cdv ct),osl⟩) (c:PySem.W.codeIn K cdv x=true) (k:PySem.W.keepIn K (.ref f)=true)
  (hb:∀ (kV doc pm:Value) (an:Option Addr) (cdv ct:Value) (us:List Value),us.length=ps.length→bindArgs (PySem.W.fnOf x x (bz st) (aO st) (ae st) .none kV doc pm an cdv ct) ⟨us,[]⟩=pure (ps.zip us)):au K mg x st ps :=
 ⟨f,_,eD (st:=st) l c k,(eD (st:=st) l c k).binds hb,PySem.W.mg_of X G a⟩
end L2
namespace L2
open PySem
end L2
namespace L2
open PySem PySem.Spec PyProof.Rows
theorem aC {H:Hp} {p:Addr} {o:HO} (h:H p=none):Same H (upd H p o):=fun b u e=>by rw [ac (ah e h)]; exact e
section
variable {K:PySem.W.Frag} {g:TG} {tt:TT} {te:TE} {loc:List Str} {cap:List (Str × Nat)} {σ:St} {Q:VK} {J:It} {D:Addr} {H:Hp}
end
end L2
namespace L2
open PySem PySem.Spec PyProof.Rows
end L2
namespace L2
open PySem
end L2
namespace L2
open PySem PySem.Spec PyProof.Rows
section
variable {X:Cx} {K:PySem.W.Frag}
theorem jm (h:X.K=K):SlR X (rSlL K):=by subst h; exact sl_list
theorem aB (h:X.K=K):IxR X (rIxL K):=by subst h; exact ix_list
theorem bp (h:X.K=K):IxR X (rIxT K):=by subst h; exact ix_tup
theorem nY (h:X.K=K):OpR X (compareOp .In) (rIn K false):=by subst h; exact op_in_seq
theorem fI (h:X.K=K):OpR X (compareOp .NotIn) (rIn K true):=by subst h; exact l7
theorem ll (h:X.K=K) (hu:X.A.units+64<cLine):OpR X (compareOp .Eq) (rEqD K):=by subst h; exact op_eqD hu
noncomputable def rLen (K:PySem.W.Frag):List V→Hp→VK→Prop:=fun xs H Q=>∃ p ys,xs=[.ref p]∧(SqL K H p ys∨SqT K H p ys)∧Q (.int ys.length) H
theorem aM (h:X.K=K):cA X (.builtin "len") (rLen K):=by subst h; exact l8
noncomputable def rListOf (K:PySem.W.Frag):List V→Hp→VK→Prop:=fun xs H Q=>∃ p ys,xs=[.ref p]∧(SqL K H p ys∨SqT K H p ys)∧∀ l,H l=none→Q (.ref l) (upd H l (.lst ys))
theorem gh (h:X.K=K):cA X (.type "list") (rListOf K):=by subst h; exact l9
noncomputable def rIsi (K:PySem.W.Frag) (T:String):List V→Hp→VK→Prop:=fun xs H Q=>∃ x t b,xs=[x,.ty T]∧TyOf K H x t∧PySem.W.kitOne K t (.type T)=some b∧Q (.bl b) H
theorem fJ {T:String} (h:X.K=K):cA X (.builtin "isinstance") (rIsi K T):=by subst h; exact mI
noncomputable def tTru (K:PySem.W.Frag) (ta:TE):TT:=fun σ H Q=>ta σ H fun x H'=>∃ k,TruV K x H' k∧Q k H'
theorem lp {a:Expr} {ta:TE} (h:X.K=K) (ha:PE X a ta) (he:∀ whole,isTrue a X.env whole=(do let v ← whole; standAt a.pos; holding [v] (truthy v))):PT X a (tTru K ta):=by subst h; exact pt_truth ha he
theorem bc {tg l:Expr} {tl:TE} (h:X.K=K) (hl:PE X l tl):PI X tg l (iList K tl):=by subst h; exact pi_list hl
theorem jn {elts:List Expr} {x1:Nat} {tpos:Pos} {a:Expr} {ta:TA} {p pos:Pos} (h:X.K=K) (hg:Gl X "enumerate") (hm:X.mg "enumerate"=none) (ha:PA X [a] ta) (hs:starEach [a] X.env=[(false,eval a X.env)]:=by rfl) :
  PI X (.Tuple elts x1 tpos) (.Call (.Name "enumerate" p) [a] [] pos) (iEnum K ta):=by subst h; exact pi_enum hg hm ha hs
theorem fK {es:List Expr} {k:Nat} {t:TGs} {n:Nat} {pos:Pos} (h:X.K=K) (hc:X.calm=true) (hs:PGs X es t) (hn:(assignEach es X.env).length=n:=by rfl) (hst:(assignEach es X.env).findIdx? (·.1)=none:=by rfl) :
  PG X (.Tuple es k pos) (gTup K n t):=by subst h; exact pg_tup hc hs hn hst
section
variable {o e:Expr} {es:List Expr} {to:TE} {t:TA} {name:Str} {apos cpos:Pos} {T id:String} {r:V→List V→Hp→VK→Prop}
theorem pe_bm0K (h:X.K=K) (pa:PlainAttrs T) (slot:Slot T name id) (hty:typeOf (.builtin id)=pure (.type "method_descriptor")) (hm:MtR X id r) (ho:PE X o to)
  (hbase:attributeBase o name X.env (eval o X.env)=eval o X.env:=by rfl) (hline:(apos.endLine == cpos.line)=true:=by rfl):PE X (.Call (.Attribute o name apos) [] [] cpos) (tBM0 K T r to):=by subst h; exact pe_bm0 pa slot hty hm ho hbase hline
theorem eZ (h:X.K=K) (pa:PlainAttrs T) (slot:Slot T name id) (hty:typeOf (.builtin id)=pure (.type "method_descriptor")) (hm:MtR X id r) (ho:PE X o to) (ha:PA X (e :: es) t)
  (hbase:attributeBase o name X.env (eval o X.env)=eval o X.env:=by rfl)
  (hfew:((backTo cpos (starEach (e :: es) X.env)).all (fun x=>!x.1) && (backToKw cpos (keywordEach [] X.env)).all (fun x=>x.1.isSome)
   && decide ((e :: es).length+([]:List Keyword).length+(if ([]:List Keyword).isEmpty then 0 else 1)<30))=true:=by rfl)
  (hline:(apos.endLine == cpos.line)=true:=by rfl) (hs:starEach (e :: es) X.env=(false,eval e X.env) :: starEach es X.env:=by rfl) (hplain:(backTo cpos (starEach es X.env)).any (·.1)=false:=by rfl) :
  PE X (.Call (.Attribute o name apos) (e :: es) [] cpos) (tBM K T r to t):=by subst h; exact pe_bm pa slot hty hm ho ha hbase hfew hline hs hplain
end
end
end L2
namespace L2
open PySem PySem.Spec PyProof.Rows
class Kon where
 T:List Addr
 Q:Addr→Str
noncomputable def be (c:Addr) (q:Str):Heap→Prop:=fun h=>h.CodeRec (.ref c) q
noncomputable def cQ:HO→Prop
 | .tbl _=>False
 | _=>True
structure TbG [Kon] (H:Hp):Prop where
 there:∀ P∈Kon.T,∃ ps,H P=some (.tbl ps)
 good:∀ P ps,H P=some (.tbl ps)→TriplesOk ps.toList∧∀ pos cv,codeAmong pos ps.toList=some cv→∃ c,cv=.ref c∧H c=some (.ext (be c (Kon.Q P)))
structure Sm [Kon] (H H':Hp):Prop where
 kp:∀ b o,cQ o→H b=some o→H' b=some o
 tb:∀ b ps,H b=some (.tbl ps)→∃ more,H' b=some (.tbl (ps++more))
 tg:TbG H→TbG H'
section
variable [Kon] {H H1 H2 H':Hp} {p:Addr} {o:HO}
theorem Sm.refl (H:Hp):Sm H H:=⟨fun _ _ _ h=>h,fun _ ps h=>⟨#[],by rw [h]; simp⟩,fun h=>h⟩
theorem Sm.trans (a:Sm H H1) (b:Sm H1 H2):Sm H H2:=⟨fun c o n h=>b.kp c o n (a.kp c o n h),fun c ps h=>by
 refine oq11 (a.tb c ps h) fun m1 e1=>?_
 refine oq11 (b.tb c _ e1) fun m2 e2=>?_
 exact ⟨m1++m2,by rw [e2,Array.append_assoc]⟩,fun h=>b.tg (a.tg h)⟩
theorem Sm.some (e:Sm H H') {b:Addr} (h:H b=some o):∃ o',H' b=some o':=by
 cases o with
 | tbl ps=>refine oq11 (e.tb b ps h) fun m q=>?_; exact ⟨_,q⟩
 | _=>refine ⟨_,e.kp b _ ?_ h⟩; trivial
theorem Sm.free (e:Sm H H') {l:Addr} (h:H' l=Option.none):H l=Option.none:=by
 cases q:H l with
 | none=>rfl
 | some o=>refine oq11 (e.some q) fun o' z=>?_; rw [h] at z; cases z
theorem lq (h:H p=none) (n:cQ o):Sm H (upd H p o):=by
 have k:∀ b u,H b=some u→upd H p o b=some u:=fun b u q=>by rw [ac (ah q h)]; exact q
 refine ⟨fun b u _ q=>k b u q,fun b ps q=>⟨#[],by rw [k b _ q]; simp⟩,fun g=>⟨fun P hP=>?_,fun P ps q=>?_⟩⟩
 ·refine oq11 (g.there P hP) fun ps e=>?_
  exact ⟨ps,k _ _ e⟩
 ·by_cases e:P=p
  ·subst e; rw [af] at q; cases q; exact n.elim
  ·rw [ac e] at q
   refine oq02 (g.good P ps q) fun g1 g2=>?_
   exact ⟨g1,fun pos cv hc=>by refine oq12 (g2 pos cv hc) fun c e1 e2=>?_; exact (oi12 c e1 (k _ _ e2))⟩
noncomputable def Own:HO→Prop
 | .lst _=>True
 | .dK _=>True
 | _=>False
theorem sm_chg {u u':HO} (e:Sm H H1) (h0:H p=none) (h:H1 p=some u) (a:Own u) (b:Own u'):Sm H (upd H1 p u'):=by
 refine ⟨fun c o n q=>?_,fun c ps q=>?_,fun g=>?_⟩
 ·rw [ac (ah q h0)]; exact e.kp c o n q
 ·rw [ac (ah q h0)]; exact e.tb c ps q
 ·have g':=e.tg g
  have nt:∀ {c:Addr} {o:HO},H1 c=some o→¬ Own o→c≠p:=fun {c o} q n z=>by subst z; rw [h] at q; cases q; exact n a
  refine ⟨fun P hP=>?_,fun P ps q=>?_⟩
  ·refine oq11 (g'.there P hP) fun ps e1=>?_
   exact ⟨ps,by rw [ac (nt e1 fun z=>z)]; exact e1⟩
  ·by_cases e2:P=p
   ·subst e2; rw [af] at q; cases q; exact b.elim
   ·rw [ac e2] at q
    refine oq02 (g'.good P ps q) fun g1 g2=>?_
    exact ⟨g1,fun pos cv hc=>by refine oq12 (g2 pos cv hc) fun c e3 e4=>?_; exact (oi12 c e3 (by rw [ac (nt e4 fun z=>z)]; exact e4))⟩
theorem ls {u:HO} (e:Sm H H1) (h0:H p=none) (h:H1 p=some u) (a:Own u):Sm H (fun b=>if b=p then Option.none else H1 b):=by
 have k:∀ {c:Addr} {o:HO},H1 c=some o→c≠p→(if c=p then Option.none else H1 c)=some o:=fun q n=>by rw [if_neg n]; exact q
 refine ⟨fun c o n q=>k (e.kp c o n q) (ah q h0),fun c ps q=>?_,fun g=>?_⟩
 ·refine oq11 (e.tb c ps q) fun m z=>?_
  exact ⟨m,k z (ah q h0)⟩
 ·have g':=e.tg g
  have nt:∀ {c:Addr} {o:HO},H1 c=some o→¬ Own o→c≠p:=fun {c o} q n z=>by subst z; rw [h] at q; cases q; exact n a
  refine ⟨fun P hP=>?_,fun P ps q=>?_⟩
  ·refine oq11 (g'.there P hP) fun ps e1=>?_
   exact ⟨ps,k e1 (nt e1 fun z=>z)⟩
  ·have q:(if P=p then Option.none else H1 P)=some (.tbl ps):=q
   split at q
   ·cases q
   ·refine oq02 (g'.good P ps q) fun g1 g2=>?_
    exact ⟨g1,fun pos cv hc=>by refine oq12 (g2 pos cv hc) fun c e3 e4=>?_; exact (oi12 c e3 (k e4 (nt e4 fun z=>z)))⟩
end
noncomputable def NT (F:Hp):Prop:=∀ b ps,F b≠some (.tbl ps)
theorem gi {F:Hp} {p:Addr} {o:HO} (h:NT F) (n:cQ o):NT (upd F p o):=fun b ps q=>by
 by_cases e:b=p
 ·subst e; rw [af] at q; cases q; exact n
 ·rw [ac e] at q; exact h b ps q
structure Rp (α:Type) where
 rel:Hp→V→α→Prop
 mono:∀ {H H':Hp} {v:V} {a:α},Same H H'→rel H v a→rel H' v a
theorem Paired.imp2 {α β:Type} {F G:α→β→Prop} (h:∀ a b,F a b→G a b):∀ {l:List α} {m:List β},Paired F l m→Paired G l m
 | _,_,.nil=>.nil
 | _,_,.cons r t=>.cons (h _ _ r) (Paired.imp2 h t)
theorem Paired.setB {α β:Type} {F:α→β→Prop} {x:α} {y:β} (h:F x y):∀ {l:List α} {m:List β} (i:Nat),Paired F l m→Paired F (l.set i x) (m.set i y)
 | _,_,_,.nil=>.nil
 | _,_,0,.cons _ t=>.cons h t
 | _,_,i+1,.cons r t=>.cons r (Paired.setB h i t)
theorem Paired.app {α β:Type} {F:α→β→Prop}:∀ {l l':List α} {m m':List β},Paired F l m→Paired F l' m'→Paired F (l++l') (m++m')
 | _,_,_,_,.nil,s=>s
 | _,_,_,_,.cons r t,s=>.cons r (Paired.app t s)
theorem Paired.takeB {α β:Type} {F:α→β→Prop}:∀ {l:List α} {m:List β} (n:Nat),Paired F l m→Paired F (l.take n) (m.take n)
 | _,_,0,_=>.nil
 | _,_,_+1,.nil=>.nil
 | _,_,n+1,.cons r t=>.cons r (Paired.takeB n t)
theorem Paired.dropB {α β:Type} {F:α→β→Prop}:∀ {l:List α} {m:List β} (n:Nat),Paired F l m→Paired F (l.drop n) (m.drop n)
 | _,_,0,r=>r
 | _,_,_+1,.nil=>.nil
 | _,_,n+1,.cons _ t=>Paired.dropB n t
noncomputable def rInt:Rp Int:=⟨fun _ v a=>v=.int a,fun _ h=>h⟩
noncomputable def aG:Rp Bool:=⟨fun _ v a=>v=.bl a,fun _ h=>h⟩
noncomputable def rOp {α:Type} (r:Rp α):Rp (Option α):=⟨fun H v a=>match a with | none=>v=.non | some x=>r.rel H v x,fun {_ _ _ a} e h=>by
 cases a with
 | none=>exact h
 | some x=>exact r.mono e h⟩
theorem Same.rd {H H':Hp} {a:Addr} {u:HO} (e:Same H H') (h:Rd H a u):Rd H' a u:=by
 rcases h with h | ⟨o,h⟩
 ·exact .inl (e _ _ h)
 ·exact .inr ⟨o,e _ _ h⟩
noncomputable def rL {α:Type} (r:Rp α):Rp (List α):=⟨fun H v xs=>∃ p vs,v=.ref p∧Rd H p (.lst vs)∧Paired (r.rel H) vs xs,fun e zq=>oq23 zq fun p vs h1 h2 h3=>(oi23 p vs h1 (e.rd h2) (Paired.imp2 (fun _ _ q=>r.mono e q) h3))⟩
noncomputable def rT2 {α β:Type} (r:Rp α) (s:Rp β):Rp (α × β):=⟨fun H v x=>∃ p a b,v=.ref p∧H p=some (.tup [a,b])∧r.rel H a x.1∧s.rel H b x.2,
 fun e zq=>oq34 zq fun p a b h1 h2 h3 h4=>(oi34 p a b h1 (e _ _ h2) (r.mono e h3) (s.mono e h4))⟩
noncomputable def rT3 {α β γ:Type} (r:Rp α) (s:Rp β) (t:Rp γ):Rp (α × β × γ):=⟨fun H v x=>∃ p a b c,v=.ref p∧H p=some (.tup [a,b,c])∧r.rel H a x.1∧s.rel H b x.2.1∧t.rel H c x.2.2,
 fun e zq=>oq45 zq fun p a b c h1 h2 h3 h4 h5=>(oi45 p a b c h1 (e _ _ h2) (r.mono e h3) (s.mono e h4) (t.mono e h5))⟩
noncomputable abbrev dRel {α:Type} (r:Rp α) (H:Hp):Key × V→Int × α→Prop:=fun w k=>w.1=.inl k.1∧r.rel H w.2 k.2
noncomputable def rD {α:Type} (r:Rp α):Rp (List (Int × α)):=⟨fun H v kvs=>∃ p ws,v=.ref p∧H p=some (.dK ws)∧Paired (dRel r H) ws kvs,
 fun e zq=>oq23 zq fun p ws h1 h2 h3=>(oi23 p ws h1 (e _ _ h2) (Paired.imp2 (fun _ _ q=>⟨q.1,r.mono e q.2⟩) h3))⟩
noncomputable def del (F:Hp) (p:Addr):Hp:=fun b=>if b=p then none else F b
theorem bf {F:Hp} {p b:Addr} (h:b≠p):del F p b=F b:=by unfold del; rw [if_neg h]
theorem cR {F:Hp} {p:Addr}:del F p p=none:=by unfold del; rw [if_pos rfl]
theorem cS {F:Hp} {p b:Addr} {o:HO} (h:del F p b=some o):b≠p∧F b=some o:=by
 unfold del at h
 split at h
 ·cases h
 ·rename_i q; exact ⟨q,h⟩
noncomputable def Chg:HO→Prop
 | .lst _=>True
 | .dK _=>True
 | .ins _ _ _=>True
 | _=>False
noncomputable def Flat {α:Type} (r:Rp α):Prop:=∀ {F:Hp} {p:Addr} {o:HO} {v:V} {a:α},F p=some o→Chg o→r.rel F v a→r.rel (del F p) v a
theorem dS:Flat rInt:=fun _ _ h=>h
theorem kA:Flat aG:=fun _ _ h=>h
theorem flat_op {α:Type} {r:Rp α} (f:Flat r):Flat (rOp r):=fun {_ _ _ _ a} h c q=>by
 cases a with
 | none=>exact q
 | some x=>exact f h c q
noncomputable def rScr (K:PySem.W.Frag):Rp (List Int):=⟨fun H v xs=>∃ p vs,v=.ref p∧SqL K H p vs∧Paired (rInt.rel H) vs xs,fun e zq=>oq23 zq fun p vs h1 h2 h3=>(oi23 p vs h1 (e.seq h2) (Paired.imp2 (fun _ _ q=>rInt.mono e q) h3))⟩
structure Sq (K:PySem.W.Frag) {α:Type} (rl:Rp (List α)) (r:Rp α):Prop where
 get:∀ {H v xs},rl.rel H v xs→∃ p vs,v=.ref p∧SqL K H p vs∧Paired (r.rel H) vs xs
theorem sq_l {K:PySem.W.Frag} {α:Type} {r:Rp α}:Sq K (rL r) r:=⟨fun zq=>oq23 zq fun p vs h1 h2 h3=>(oi23 p vs h1 (.inl h2) h3)⟩
theorem sq_s {K:PySem.W.Frag}:Sq K (rScr K) rInt:=⟨fun h=>h⟩
inductive Slot:Type 1 where
 | any
 | fr {α:Type} (r:Rp α) (a:α)
 | ol {α:Type} (r:Rp α) (φ:Addr→Prop) (xs:List α)
 | od {α:Type} (r:Rp α) (φ:Addr→Prop) (kvs:List (Int × α))
noncomputable def Slot.own:Slot→Bool
 | .ol _ _ _=>true
 | .od _ _ _=>true
 | _=>false
noncomputable def tt_:Addr→Prop:=fun _=>True
noncomputable def SlOk (H0 F H:Hp):Slot→Option V→Prop
 | .any,_=>True
 | .fr r a,o=>∃ v,o=some v∧r.rel F v a
 | .ol r φ xs,o=>∃ p vs,o=some (.ref p)∧φ p∧H0 p=none∧F p=none∧H p=some (.lst vs)∧Paired (r.rel F) vs xs
 | .od r φ kvs,o=>∃ p ws,o=some (.ref p)∧φ p∧H0 p=none∧F p=none∧H p=some (.dK ws)∧Paired (dRel r F) ws kvs
structure Fc where
 H0:Hp
 F0:Hp
 L:Hp
structure Fr [Kon] (C:Fc) (F H:Hp):Prop where
 keep:Sm C.H0 H
 low:Same C.L F
 sub:Same F H
 base:∀ b o,F b=some o→C.F0 b=some o∨C.H0 b=none
 nt:NT F
 tg:TbG H
structure SR [Kon] (C:Fc) (F:Hp) (Γ:List Slot) (σ:St) (H:Hp):Prop extends Fr C F H where
 len:σ.length=Γ.length
 at_:∀ (i:Nat) s,Γ[i]?=some s→∃ o,σ[i]?=some o∧SlOk C.H0 F H s o
 inj:∀ (i j:Nat) s t p,Γ[i]?=some s→Γ[j]?=some t→s.own=true→t.own=true→σ[i]?=some (some (.ref p))→σ[j]?=some (some (.ref p))→i=j
structure Ext [Kon] (F H F' H':Hp):Prop where
 hh:Sm H H'
 ff:Same F F'
 sub:Same F' H'
 nw:∀ b o,F' b=some o→F b=some o∨H b=none
 nt:NT F→NT F'
section
variable [Kon]
theorem Ext.refl {F H:Hp} (h:Same F H):Ext F H F H:=⟨Sm.refl _,Same.refl _,h,fun _ _ q=>.inl q,fun z=>z⟩
theorem Ext.trans {F H F1 H1 F2 H2:Hp} (a:Ext F H F1 H1) (b:Ext F1 H1 F2 H2):Ext F H F2 H2:=⟨a.hh.trans b.hh,a.ff.trans b.ff,b.sub,fun c o h=>by
 rcases b.nw c o h with q | q
 ·exact a.nw c o q
 ·exact .inr (a.hh.free q),fun z=>b.nt (a.nt z)⟩
theorem Ext.new {F H:Hp} {p:Addr} {o:HO} (h:Same F H) (hp:H p=none) (n:cQ o:=by trivial):Ext F H (upd F p o) (upd H p o) :=
 ⟨lq hp n,aC (h.free hp),fun b u q=>by
  by_cases e:b=p
  ·subst e; rw [af] at q ⊢; exact q
  ·rw [ac e] at q ⊢; exact h b u q,fun b u q=>by
  by_cases e:b=p
  ·subst e; exact .inr hp
  ·rw [ac e] at q; exact .inl q,fun z=>gi z n⟩
theorem Ext.newH {F H:Hp} {p:Addr} {o:HO} (h:Same F H) (hp:H p=none) (n:cQ o:=by trivial):Ext F H F (upd H p o):=⟨lq hp n,Same.refl _,h.trans (aC hp),fun _ _ q=>.inl q,fun z=>z⟩
theorem Fr.grow {C:Fc} {F H F' H':Hp} (f:Fr C F H) (e:Ext F H F' H'):Fr C F' H':=⟨f.keep.trans e.hh,f.low.trans e.ff,e.sub,fun b o h=>by
 rcases e.nw b o h with q | q
 ·exact f.base b o q
 ·exact .inr (f.keep.free q),e.nt f.nt,e.hh.tg f.tg⟩
theorem SlOk.grow {H0 F H F' H':Hp} {s:Slot} {o:Option V} (e:Ext F H F' H') (h:SlOk H0 F H s o):SlOk H0 F' H' s o:=by
 have nn:∀ p u,F p=none→H p=some u→F' p=none:=fun p u h1 h2=>by
  cases q:F' p with
  | none=>rfl
  | some w =>
   rcases e.nw p w q with z | z
   ·rw [h1] at z; cases z
   ·rw [h2] at z; cases z
 cases s with
 | any=>trivial
 | fr r a=>refine oq12 h fun v h1 h2=>?_; exact ⟨v,h1,r.mono e.ff h2⟩
 | ol r φ xs=>refine oq26 h fun p vs h1 h0 h2 h3 h4 h5=>?_; exact ⟨p,vs,h1,h0,h2,nn p _ h3 h4,e.hh.kp _ _ trivial h4,Paired.imp2 (fun _ _ q=>r.mono e.ff q) h5⟩
 | od r φ kvs=>refine oq26 h fun p ws h1 h0 h2 h3 h4 h5=>?_; exact ⟨p,ws,h1,h0,h2,nn p _ h3 h4,e.hh.kp _ _ trivial h4,Paired.imp2 (fun _ _ q=>⟨q.1,r.mono e.ff q.2⟩) h5⟩
section
variable {C:Fc} {F H F' H':Hp} {Γ:List Slot} {σ:St}
theorem SR.grow (S:SR C F Γ σ H) (e:Ext F H F' H'):SR C F' Γ σ H':=⟨S.toFr.grow e,S.len,fun i s h=>by
 refine oq12 (S.at_ i s h) fun o h1 h2=>?_
 exact (oi12 o h1 (h2.grow e)),S.inj⟩
theorem SR.fr {α:Type} {r:Rp α} {a:α} {i:Nat} (S:SR C F Γ σ H) (h:Γ[i]?=some (.fr r a)):∃ v,σ[i]?=some (some v)∧r.rel F v a:=by
 refine oq12 (S.at_ i _ h) fun o h1 zz=>oq12 zz fun v eq3_ h2=>?_; subst eq3_
 exact (oi12 v h1 h2)
theorem get_set {α:Type _} {l:List α} {i j:Nat} {x y:α} (h:(l.set i x)[j]?=some y):(i=j∧x=y∧i<l.length)∨(i≠j∧l[j]?=some y):=by
 rw [List.getElem?_set] at h
 split at h
 ·rename_i e
  split at h
  ·rename_i q; subst e; cases h; exact .inl (oi03 rfl rfl q)
  ·cases h
 ·rename_i e; exact .inr ⟨e,h⟩
theorem dN {α:Type _} {l:List α} {i:Nat} {x:α} (h:i<l.length):(l.set i x)[i]?=some x:=by rw [List.getElem?_set]; simp [h]
theorem bi {α:Type _} {l:List α} {i j:Nat} {x:α} (h:i≠j):(l.set i x)[j]?=l[j]?:=by rw [List.getElem?_set]; simp [h]
theorem SR.setF {α:Type} {r:Rp α} {a:α} {v:V} (i:Nat) (S:SR C F Γ σ H) (h:r.rel F v a):SR C F (Γ.set i (.fr r a)) (σ.set i (some v)) H:=by
 refine ⟨S.toFr,by rw [List.length_set,List.length_set]; exact S.len,fun j s q=>?_,fun j k s t p q1 q2 o1 o2 e1 e2=>?_⟩
 ·rcases get_set q with ⟨rfl,rfl,hl⟩ | ⟨hne,q⟩
  ·exact ⟨_,dN (by rw [S.len]; exact hl),v,rfl,h⟩
  ·refine oq12 (S.at_ j s q) fun o h1 h2=>?_
   exact (oi12 o (by rw [bi hne]; exact h1) h2)
 ·rcases get_set q1 with ⟨rfl,rfl,_⟩ | ⟨n1,q1⟩
  ·cases o1
  rcases get_set q2 with ⟨rfl,rfl,_⟩ | ⟨n2,q2⟩
  ·cases o2
  rw [bi n1] at e1
  rw [bi n2] at e2
  exact S.inj j k s t p q1 q2 o1 o2 e1 e2
theorem jo {H0 F H:Hp} {p:Addr} {s:Slot} (hs:s.own=true) (h:SlOk H0 F H s (some (.ref p))):∃ u,H p=some u∧Own u:=by
 cases s with
 | any=>cases hs
 | fr r a=>cases hs
 | ol r φ xs=>refine oq26 h fun p' vs h1 _ _ _ h4 _=>?_; cases h1; exact (oi12 _ h4 trivial)
 | od r φ kvs=>refine oq26 h fun p' vs h1 _ _ _ h4 _=>?_; cases h1; exact (oi12 _ h4 trivial)
theorem Own.noTbl {u:HO} (h:Own u):cQ u:=by cases u <;> first | exact h | trivial
theorem SR.setO {p:Addr} {u:HO} {s:Slot} (i:Nat) (S:SR C F Γ σ H) (hp:H p=none) (hs:s.own=true) (h:SlOk C.H0 F (upd H p u) s (some (.ref p))):SR C F (Γ.set i s) (σ.set i (some (.ref p))) (upd H p u):=by
 have ou:cQ u:=by
  refine oq12 (jo hs h) fun u' e1 e2=>?_
  rw [af] at e1; cases e1; exact e2.noTbl
 have e:Ext F H F (upd H p u):=Ext.newH S.sub hp ou
 have np:∀ (j:Nat) t,Γ[j]?=some t→t.own=true→σ[j]?=some (some (.ref p))→False:=fun j t q1 o1 e1=>by
  refine oq12 (S.at_ j t q1) fun o h1 h2=>?_
  rw [e1] at h1
  cases h1
  cases t with
  | any=>cases o1
  | fr r a=>cases o1
  | ol r φ xs=>refine oq26 h2 fun p' vs h1 _ _ _ h4 _=>?_; cases h1; rw [hp] at h4; cases h4
  | od r φ kvs=>refine oq26 h2 fun p' vs h1 _ _ _ h4 _=>?_; cases h1; rw [hp] at h4; cases h4
 refine ⟨S.toFr.grow e,by rw [List.length_set,List.length_set]; exact S.len,fun j t q=>?_,fun j k s' t p' q1 q2 o1 o2 e1 e2=>?_⟩
 ·rcases get_set q with ⟨rfl,rfl,hl⟩ | ⟨hne,q⟩
  ·exact (oi12 _ (dN (by rw [S.len]; exact hl)) h)
  ·refine oq12 (S.at_ j t q) fun o h1 h2=>?_
   exact (oi12 o (by rw [bi hne]; exact h1) (h2.grow e))
 ·rcases get_set q1 with ⟨rfl,rfl,l1⟩ | ⟨n1,q1⟩
  ·rcases get_set q2 with ⟨rfl,rfl,_⟩ | ⟨n2,q2⟩
   ·rfl
   ·rw [dN (by rw [S.len]; exact l1)] at e1
    cases e1
    rw [bi n2] at e2
    exact absurd e2 (fun z=>np k t q2 o2 z)
  ·rcases get_set q2 with ⟨rfl,rfl,l2⟩ | ⟨n2,q2⟩
   ·rw [dN (by rw [S.len]; exact l2)] at e2
    cases e2
    rw [bi n1] at e1
    exact absurd e1 (fun z=>np j s' q1 o1 z)
   ·rw [bi n1] at e1
    rw [bi n2] at e2
    exact S.inj j k s' t p' q1 q2 o1 o2 e1 e2
theorem SR.chg {p:Addr} {u:HO} {s s':Slot} {i:Nat} (S:SR C F Γ σ H) (hi:Γ[i]?=some s) (ho:s.own=true) (hp:σ[i]?=some (some (.ref p))) (h0:C.H0 p=none) (hF:F p=none) (hs:s'.own=true) (h:SlOk C.H0 F (upd H p u) s' (some (.ref p))) :
  SR C F (Γ.set i s') σ (upd H p u):=by
 have oth:∀ (j:Nat) t,j≠i→Γ[j]?=some t→t.own=true→σ[j]?=some (some (.ref p))→False:=fun j t n q1 o1 e1=>n (S.inj j i t s p q1 hi o1 ho e1 hp)
 obtain ⟨u0,hu0,ou0⟩:∃ u0,H p=some u0∧Own u0:=by
  refine oq12 (S.at_ i s hi) fun o z1 z2=>?_
  rw [hp] at z1; cases z1
  exact jo ho z2
 have ou:Own u:=by
  refine oq12 (jo hs h) fun u' e1 e2=>?_
  rw [af] at e1; cases e1; exact e2
 have sk:=sm_chg S.keep h0 hu0 ou0 ou
 have tgu:TbG (upd H p u):=by
  have nt:∀ {c:Addr} {o:HO},H c=some o→¬ Own o→c≠p:=fun {c o} q n z=>by subst z; rw [hu0] at q; cases q; exact n ou0
  refine ⟨fun P hP=>?_,fun P ps q=>?_⟩
  ·refine oq11 (S.tg.there P hP) fun ps e1=>?_
   exact ⟨ps,by rw [ac (nt e1 fun z=>z)]; exact e1⟩
  ·by_cases e2:P=p
   ·subst e2; rw [af] at q; cases q; exact ou.elim
   ·rw [ac e2] at q
    refine oq02 (S.tg.good P ps q) fun g1 g2=>?_
    exact ⟨g1,fun pos cv hc=>by refine oq12 (g2 pos cv hc) fun c e3 e4=>?_; exact (oi12 c e3 (by rw [ac (nt e4 fun z=>z)]; exact e4))⟩
 refine ⟨⟨sk,S.low,fun b o q=>?_,S.base,S.nt,tgu⟩,by rw [List.length_set]; exact S.len,fun j t q=>?_,fun j k a b p' q1 q2 o1 o2 e1 e2=>?_⟩
 ·rw [ac (ah q hF)]; exact S.sub b o q
 ·rcases get_set q with ⟨rfl,rfl,hl⟩ | ⟨hne,q⟩
  ·exact (oi12 _ hp h)
  ·refine oq12 (S.at_ j t q) fun o h1 h2=>?_
   refine (oi12 o h1 ?_)
   cases t with
   | any=>trivial
   | fr r a=>exact h2
   | ol r φ xs =>
    refine oq26 h2 fun p' vs h3 h4 h5 h6 h7 h8=>?_
    refine ⟨p',vs,h3,h4,h5,h6,?_,h8⟩
    subst h3
    rw [ac]
    ·exact h7
    ·rintro rfl; exact oth j _ (Ne.symm hne) q rfl h1
   | od r φ kvs =>
    refine oq26 h2 fun p' vs h3 h4 h5 h6 h7 h8=>?_
    refine ⟨p',vs,h3,h4,h5,h6,?_,h8⟩
    subst h3
    rw [ac]
    ·exact h7
    ·rintro rfl; exact oth j _ (Ne.symm hne) q rfl h1
 ·have own':∀ (j:Nat) x,(Γ.set i s')[j]?=some x→x.own=true→∃ y,Γ[j]?=some y∧y.own=true:=fun j x q o=>by
   rcases get_set q with ⟨rfl,rfl,_⟩ | ⟨_,q⟩
   ·exact ⟨s,hi,ho⟩
   ·exact ⟨x,q,o⟩
  obtain ⟨a',r1,r2⟩:=own' j a q1 o1
  obtain ⟨b',r3,r4⟩:=own' k b q2 o2
  exact S.inj j k a' b' p' r1 r3 r2 r4 e1 e2
end
inductive SubS:Slot→Slot→Prop where
 | any {s:Slot}:SubS s .any
 | rfl {s:Slot}:SubS s s
 | frz {α:Type} {r:Rp α} {φ:Addr→Prop} {xs:List α}:SubS (.ol r φ xs) (.fr (rL r) xs)
 | frd {α:Type} {r:Rp α} {φ:Addr→Prop} {kvs:List (Int × α)}:SubS (.od r φ kvs) (.fr (rD r) kvs)
 | ttD {α:Type} {r:Rp α} {φ:Addr→Prop} {kvs:List (Int × α)}:SubS (.od r φ kvs) (.od r tt_ kvs)
 | tt {α:Type} {r:Rp α} {φ:Addr→Prop} {xs:List α}:SubS (.ol r φ xs) (.ol r tt_ xs)
inductive SubL:List Slot→List Slot→Prop where
 | nil:SubL [] []
 | cons {s s':Slot} {Γ Γ':List Slot}:SubS s s'→SubL Γ Γ'→SubL (s :: Γ) (s' :: Γ')
theorem SR.freeze {C:Fc} {F H:Hp} {Γ:List Slot} {σ:St} {i:Nat} {s:Slot} (S:SR C F Γ σ H) (hi:Γ[i]?=some s) (p:Addr) (u:HO) (s':Slot) (hs':s'.own=false) (hs:s.own=true) (e1:σ[i]?=some (some (.ref p))) (e2:C.H0 p=none) (e3:F p=none) (e4:H p=some u)
  (e5:SlOk C.H0 (upd F p u) H s' (some (.ref p))) (ou:Own u):SR C (upd F p u) (Γ.set i s') σ H:=by
 have ff:Same F (upd F p u):=aC e3
 have sb:Same (upd F p u) H:=fun b o q=>by
  by_cases e:b=p
  ·subst e; rw [af] at q; rw [← q]; exact e4
  ·rw [ac e] at q; exact S.sub b o q
 have bs:∀ b o,upd F p u b=some o→C.F0 b=some o∨C.H0 b=none:=fun b o q=>by
  by_cases e:b=p
  ·subst e; exact .inr e2
  ·rw [ac e] at q; exact S.base b o q
 have oth:∀ (j:Nat) t,j≠i→Γ[j]?=some t→t.own=true→σ[j]?=some (some (.ref p))→False:=fun j t n q1 o1 z=>n (S.inj j i t s p q1 hi o1 hs z e1)
 have keepS:∀ (j:Nat) t,i≠j→Γ[j]?=some t→∃ o,σ[j]?=some o∧SlOk C.H0 (upd F p u) H t o:=fun j t hne q=>by
  refine oq12 (S.at_ j t q) fun o h1 h2=>?_
  refine (oi12 o h1 ?_)
  cases t with
  | any=>trivial
  | fr r a=>refine oq12 h2 fun v z1 z2=>?_; exact ⟨v,z1,r.mono ff z2⟩
  | ol r φ xs =>
   refine oq26 h2 fun p' vs h3 h4 h5 h6 h7 h8=>?_
   subst h3
   have n:p'≠p:=by rintro rfl; exact oth j _ (Ne.symm hne) q rfl h1
   exact ⟨p',vs,rfl,h4,h5,by rw [ac n]; exact h6,h7,Paired.imp2 (fun _ _ z=>r.mono ff z) h8⟩
  | od r φ kvs =>
   refine oq26 h2 fun p' vs h3 h4 h5 h6 h7 h8=>?_
   subst h3
   have n:p'≠p:=by rintro rfl; exact oth j _ (Ne.symm hne) q rfl h1
   exact ⟨p',vs,rfl,h4,h5,by rw [ac n]; exact h6,h7,Paired.imp2 (fun _ _ z=>⟨z.1,r.mono ff z.2⟩) h8⟩
 refine ⟨⟨S.keep,S.low.trans ff,sb,bs,gi S.nt ou.noTbl,S.tg⟩,by rw [List.length_set]; exact S.len,fun j t q=>?_,fun j k a b p' q1 q2 o1 o2 z1 z2=>?_⟩
 ·rcases get_set q with ⟨rfl,rfl,_⟩ | ⟨n,q⟩
  ·exact (oi12 _ e1 e5)
  ·exact keepS j t n q
 ·rcases get_set q1 with ⟨rfl,rfl,_⟩ | ⟨n1,q1⟩
  ·rw [hs'] at o1; cases o1
  rcases get_set q2 with ⟨rfl,rfl,_⟩ | ⟨n2,q2⟩
  ·rw [hs'] at o2; cases o2
  exact S.inj j k a b p' q1 q2 o1 o2 z1 z2
theorem SR.weak1 {C:Fc} {F H:Hp} {Γ:List Slot} {σ:St} {i:Nat} {s s':Slot} (S:SR C F Γ σ H) (hi:Γ[i]?=some s) (h:SubS s s'):∃ F',Same F F'∧SR C F' (Γ.set i s') σ H:=by
 have ilt:i<Γ.length:=(List.getElem?_eq_some_iff.mp hi).1
 have stay:∀ s',(∀ o,SlOk C.H0 F H s o→SlOk C.H0 F H s' o)→(s'.own=true→s.own=true)→∃ F',Same F F'∧SR C F' (Γ.set i s') σ H:=fun s' h1 h2=>by
  have own':∀ (j:Nat) x,(Γ.set i s')[j]?=some x→x.own=true→∃ y,Γ[j]?=some y∧y.own=true:=fun j x q o=>by
   rcases get_set q with ⟨rfl,rfl,_⟩ | ⟨_,q⟩
   ·exact ⟨s,hi,h2 o⟩
   ·exact ⟨x,q,o⟩
  refine ⟨F,Same.refl _,S.toFr,by rw [List.length_set]; exact S.len,fun j t q=>?_,fun j k a b p' q1 q2 o1 o2 e1 e2=>?_⟩
  ·rcases get_set q with ⟨rfl,rfl,_⟩ | ⟨_,q⟩
   ·refine oq12 (S.at_ i s hi) fun o z1 z2=>?_; exact (oi12 o z1 (h1 o z2))
   ·exact S.at_ j t q
  ·obtain ⟨a',r1,r2⟩:=own' j a q1 o1
   obtain ⟨b',r3,r4⟩:=own' k b q2 o2
   exact S.inj j k a' b' p' r1 r3 r2 r4 e1 e2
 cases h with
 | any=>exact stay _ (fun _ _=>trivial) (fun z=>by cases z)
 | rfl=>exact stay _ (fun _ z=>z) (fun z=>z)
 | tt=>exact stay _ (fun _ zq=>oq23 zq fun p vs a _ b=>⟨p,vs,a,trivial,b⟩) (fun z=>z)
 | ttD=>exact stay _ (fun _ zq=>oq23 zq fun p vs a _ b=>⟨p,vs,a,trivial,b⟩) (fun z=>z)
 | frz =>
  refine oq12 (S.at_ i _ hi) fun o h1 zz=>oq26 zz fun p vs eq4_ h2 h3 h4 h5 h6=>?_; subst eq4_
  exact (oi12 _ (aC h4) (S.freeze hi p _ _ rfl rfl h1 h3 h4 h5 ⟨_,rfl,p,vs,rfl,Rd.of af,Paired.imp2 (fun _ _ z=>Rp.mono _ (aC h4) z) h6⟩ trivial))
 | frd =>
  refine oq12 (S.at_ i _ hi) fun o h1 zz=>oq26 zz fun p vs eq4_ h2 h3 h4 h5 h6=>?_; subst eq4_
  exact (oi12 _ (aC h4) (S.freeze hi p _ _ rfl rfl h1 h3 h4 h5 ⟨_,rfl,p,vs,rfl,af,Paired.imp2 (fun _ _ z=>⟨z.1,Rp.mono _ (aC h4) z.2⟩) h6⟩ trivial))
theorem SR.weakL {C:Fc} {H:Hp} {σ:St} {Γ Γ':List Slot} (h:SubL Γ Γ'):∀ (Δ:List Slot) {F:Hp},SR C F (Δ++Γ) σ H→∃ F',Same F F'∧SR C F' (Δ++Γ') σ H:=by
 induction h with
 | nil=>exact fun Δ F S=>(oi12 F (Same.refl _) S)
 | @cons s s' Γ Γ' h1 _ ih =>
  intro Δ F S
  refine oq12 (S.weak1 (i:=Δ.length) (s:=s) (s':=s') (by simp) h1) fun F1 e1 S1=>?_
  have e:(Δ++s :: Γ).set Δ.length s'=(Δ++[s'])++Γ:=by simp
  rw [e] at S1
  refine oq12 (ih (Δ++[s']) S1) fun F2 e2 S2=>?_
  exact (oi12 F2 (e1.trans e2) (by simpa using S2))
theorem SR.weak {C:Fc} {F H:Hp} {σ:St} {Γ Γ':List Slot} (S:SR C F Γ σ H) (h:SubL Γ Γ'):∃ F',Same F F'∧SR C F' Γ' σ H:=SR.weakL h [] S
theorem SR.lower {C:Fc} {F H:Hp} {σ:St} {Γ:List Slot} (S:SR C F Γ σ H):SR { C with L:=F } F Γ σ H:=⟨⟨S.keep,Same.refl _,S.sub,S.base,S.nt,S.tg⟩,S.len,S.at_,S.inj⟩
theorem SR.raise {C:Fc} {F F1 H:Hp} {σ:St} {Γ:List Slot} (S:SR { C with L:=F } F1 Γ σ H) (h:Same C.L F):SR C F1 Γ σ H:=⟨⟨S.keep,h.trans S.low,S.sub,S.base,S.nt,S.tg⟩,S.len,S.at_,S.inj⟩
theorem Fr.raise {C:Fc} {F F1 H:Hp} (S:Fr { C with L:=F } F1 H) (h:Same C.L F):Fr C F1 H:=⟨S.keep,h.trans S.low,S.sub,S.base,S.nt,S.tg⟩
end
end L2
namespace Pu
theorem bs {α β:Type} {a:α} {f:α→Option β}:(some a).bind f=f a:=Eq.trans (nza a f) (Eq.refl _)
noncomputable def fdiv (i j:Int):Option Int:=if 0<j∧j<2 ^ 64 then some (i / j) else none
noncomputable def fmod (i j:Int):Option Int:=if 0<j then some (i % j) else none
noncomputable def mul (i j:Int):Option Int:=if (-(2 ^ 64)<i∧i<2 ^ 64)∨(-(2 ^ 64)<j∧j<2 ^ 64) then some (i * j) else none
noncomputable def pow (i j:Int):Option Int:=if 0≤j∧j≤1000000∧i.natAbs<2 ^ 64 then some (i ^ j.toNat) else none
noncomputable def mn (i j:Int):Int:=if j<i then j else i
noncomputable def mx (i j:Int):Int:=if j > i then j else i
noncomputable def ab (i:Int):Int:=if i<0 then -i else i
noncomputable abbrev at_ {α:Type} (xs:List α) (i:Int):Option α:=L2.atI xs i
noncomputable def ln {α:Type} (xs:List α):Int:=xs.length
noncomputable def cut {α:Type} (xs:List α) (lo hi:Option Int):List α:=(xs.drop (HT.sIx xs.length 0 lo)).take (HT.sIx xs.length xs.length hi - HT.sIx xs.length 0 lo)
noncomputable def app {α:Type} (xs:List α) (a:α):Option (List α):=if xs.length<16777216 then some (xs++[a]) else none
noncomputable def cat {α:Type} (xs ys:List α):Option (List α):=if xs.length+ys.length≤16777216 then some (xs++ys) else none
noncomputable def nats (n:Nat):List Int:=(List.range n).map fun (i:Nat)=>(i:Int)
noncomputable def rng1 (j:Int):Option (List Int):=if -(2 ^ 62)≤j∧j<2 ^ 62 then some (nats j.toNat) else none
noncomputable def rng2 (i j:Int):Option (List Int):=if -(2 ^ 62)≤i∧i<2 ^ 62∧-(2 ^ 62)≤j∧j<2 ^ 62 then some ((List.range (j - i).toNat).map fun (k:Nat)=>i+(k:Int)) else none
noncomputable def rng3 (i j c:Int):Option (List Int):=if -(2 ^ 61)≤i∧i<2 ^ 61∧-(2 ^ 61)≤j∧j<2 ^ 61∧0<c∧c<1073741824 then some ((List.range (Fl.jd i j c)).map fun (k:Nat)=>i+(k:Int) * c) else none
noncomputable def enum {α:Type} (xs:List α):List (Int × α):=(xs.zipIdx).map fun p=>((p.2:Int),p.1)
noncomputable def find {α:Type} (kvs:List (Int × α)) (k:Int):Option α:=(kvs.find? fun kv=>decide (kv.1=k)).map (·.2)
noncomputable def put {α:Type} (kvs:List (Int × α)) (k:Int) (v:α):List (Int × α) :=
 if (kvs.any fun kv=>decide (kv.1=k))=true then kvs.map (fun kv=>if kv.1=k then (kv.1,v) else kv) else kvs++[(k,v)]
noncomputable def kB {β α:Type} (f:β→Option α):List β→Option (List α)
 | []=>some []
 | x :: xs=>(f x).bind fun a=>(kB f xs).bind fun as=>some (a :: as)
noncomputable def bN {β α:Type} (t:β→Option Bool) (f:β→Option α):List β→Option (List α)
 | []=>some []
 | x :: xs=>(t x).bind fun b=>if b=true then (f x).bind fun a=>(bN t f xs).bind fun as=>some (a :: as) else bN t f xs
noncomputable def comp {β α:Type} (f:β→Option α) (xs:List β):Option (List α):=if xs.length≤16777216 then kB f xs else none
noncomputable def f7 {β α:Type} (t:β→Option Bool) (f:β→Option α) (xs:List β):Option (List α):=if xs.length≤16777216 then bN t f xs else none
inductive Ctl (S R:Type) where
 | nx (s:S) | bk (s:S) | rt (r:R)
noncomputable def forS {S β:Type} (f:S→β→Option S):List β→S→Option S
 | [],s=>some s
 | x :: xs,s=>(f s x).bind fun s=>forS f xs s
noncomputable def forC {S R β:Type} (f:S→β→Option (Ctl S R)):List β→S→Option (Ctl S R)
 | [],s=>some (.nx s)
 | x :: xs,s=>(f s x).bind fun c=>match c with
  | .nx s=>forC f xs s
  | .bk s=>some (.nx s)
  | .rt r=>some (.rt r)
noncomputable def whS {S:Type} (t:S→Option Bool) (f:S→Option S):Nat→S→Option S
 | 0,_=>none
 | n+1,s=>(t s).bind fun b=>if b=true then (f s).bind fun s=>whS t f n s else some s
theorem kC {S β:Type} {f:S→β→Option S} {x:β} {xs:List β} {s:S}:forS f (x :: xs) s=(f s x).bind fun s=>forS f xs s:=rfl
theorem hU {S R β:Type} {f:S→β→Option (Ctl S R)} {x:β} {xs:List β} {s:S}:forC f (x :: xs) s=(f s x).bind fun c=>match c with
  | .nx s=>forC f xs s
  | .bk s=>some (.nx s)
  | .rt r=>some (.rt r):=rfl
theorem mL {S:Type} {t:S→Option Bool} {f:S→Option S} {n:Nat} {s:S}:whS t f (n+1) s=(t s).bind fun b=>if b=true then (f s).bind fun s=>whS t f n s else some s:=rfl
theorem nZ {β α:Type} {f:β→Option α} {x:β} {xs:List β}:kB f (x :: xs)=(f x).bind fun a=>(kB f xs).bind fun as=>some (a :: as):=rfl
noncomputable def andThen {S R T:Type} (o:Option (Ctl S R)) (k:S→Option T) (e:R→T):Option T:=o.bind fun c=>match c with
 | .nx s=>k s
 | .bk s=>k s
 | .rt r=>some (e r)
end Pu
namespace L2
open PySem PySem.Spec PyProof.Rows
theorem a9 {α β:Type} {o:Option α} {f:α→Option β} {b:β} (h:o.bind f=some b):∃ a,o=some a∧f a=some b:=by
 cases o with
 | none=>cases h
 | some a=>exact (oi12 a rfl h)
variable [Kon]
section
variable (Γ:List Slot) {α:Type}
noncomputable def EV (t:TE) (o:Option α) (r:Rp α):Prop:=∀ C F σ H Q a,SR C F Γ σ H→o=some a→(∀ v F' H',Ext F H F' H'→r.rel F' v a→Q v H')→t σ H Q
noncomputable def EVL (t:TE) (o:Option (List α)) (r:Rp α):Prop:=∀ C F σ H Q xs,SR C F Γ σ H→o=some xs→(∀ p vs F' H1,Ext F H F' H1→H1 p=none→Paired (r.rel F') vs xs→Q (.ref p) (upd H1 p (.lst vs)))→t σ H Q
noncomputable def EVD (t:TE) (o:Option (List (Int × α))) (r:Rp α):Prop:=∀ C F σ H Q kvs,SR C F Γ σ H→o=some kvs→(∀ p ws F' H1,Ext F H F' H1→H1 p=none→Paired (dRel r F') ws kvs→Q (.ref p) (upd H1 p (.dK ws)))→t σ H Q
noncomputable def ET (t:TT) (o:Option Bool):Prop:=∀ C F σ H Q b,SR C F Γ σ H→o=some b→(∀ F' H',Ext F H F' H'→Q b H')→t σ H Q
structure Walks (J:It) (F:Hp) {β:Type} (r:Rp β) (xs:List β):Prop where
 go:∀ i H,Same F H→i<xs.length→J.go i H
 stop:∀ H,Same F H→J.stop xs.length H
 yld:∀ i H x H' F1,Same F H→i<xs.length→J.yld i H x H'→Same F F1→Same F1 H→∃ F2 a,xs[i]?=some a∧Ext F1 H F2 H'∧r.rel F2 x a
noncomputable def IV (t:TI) (o:Option (List α)) (r:Rp α):Prop:=∀ C F σ H R xs,SR C F Γ σ H→o=some xs→(∀ J F' H',Ext F H F' H'→Walks J F' r xs→R J H')→t σ H R
noncomputable def EO (t:TO) (o:Option (Option Int)):Prop:=∀ C F σ H Q a,SR C F Γ σ H→o=some a→(∀ F' H',Ext F H F' H'→Q a H')→t σ H Q
end
section
variable {Γ:List Slot} {α β γ δ:Type} {r:Rp α} {s:Rp β} {ta tb tc td:TE} {oa:Option α} {ob:Option β} {K:PySem.W.Frag}
theorem a7 {a:α} (i:Nat) (h:Γ[i]?=some (.fr r a)):EV Γ (tVar i) (some a) r:=by
 intro C F σ H Q a' S e k
 cases e
 refine oq12 (S.fr h) fun v h1 h2=>?_
 exact ⟨v,h1,k v F H (Ext.refl S.sub) h2⟩
theorem ev_c {v:V} {a:α} (h:∀ F,r.rel F v a):EV Γ (tC v) (some a) r:=by
 intro C F σ H Q a' S e k
 cases e
 exact k v F H (Ext.refl S.sub) (h F)
theorem am {n:Int}:EV Γ (tC (.int n)) (some n) rInt:=ev_c fun _=>rfl
theorem cC {b:Bool}:EV Γ (tC (.bl b)) (some b) aG:=ev_c fun _=>rfl
theorem lu:EV Γ (tC .non) (some none) (rOp r):=ev_c fun _=>rfl
theorem EV.cast {t:TE} {o o':Option α} (h:EV Γ t o r) (e:o'=o):EV Γ t o' r:=e ▸ h
theorem gD {t:TE} (h:EV Γ t oa r):EV Γ t (oa.bind fun a=>some (some a)) (rOp r):=by
 intro C F σ H Q a' S e k
 refine oq12 (a9 e) fun a e1 e2=>?_
 cases e2
 exact h C F σ H Q a S e1 k
theorem jp {t:TE} {o:Option (Option α)} (h:EV Γ t o (rOp r)):EV Γ t (o.bind fun a=>a) r:=by
 intro C F σ H Q a' S e k
 refine oq12 (a9 e) fun a e1 e2=>?_
 subst e2
 exact h C F σ H Q _ S e1 k
theorem EV.two {C:Fc} {F H:Hp} {σ:St} {a:α} {b:β} {q:V→V→Hp→Prop} (ha:EV Γ ta oa r) (hb:EV Γ tb ob s) (S:SR C F Γ σ H) (e1:oa=some a) (e2:ob=some b)
  (k:∀ x y F' H',Ext F H F' H'→r.rel F' x a→s.rel F' y b→q x y H'):ta σ H fun x H1=>tb σ H1 fun y H2=>q x y H2 :=
 ha C F σ H _ a S e1 fun x F1 H1 x1 r1=>hb C F1 σ H1 _ b (S.grow x1) e2 fun y F2 H2 x2 r2=>k x y F2 H2 (x1.trans x2) (r.mono x2.ff r1) r2
theorem fZ {R:R2} {f:α→β→Option γ} {t:Rp γ} (hR:∀ F H x y a b c Q,Same F H→r.rel F x a→s.rel F y b→f a b=some c→(∀ v,t.rel F v c→Q v H)→R x y H Q) (ha:EV Γ ta oa r) (hb:EV Γ tb ob s) :
  EV Γ (tOp R ta tb) (oa.bind fun a=>ob.bind fun b=>f a b) t:=by
 intro C F σ H Q c S e k
 refine oq12 (a9 e) fun a e1 e=>?_
 refine oq12 (a9 e) fun b e2 e3=>?_
 exact EV.two ha hb S e1 e2 fun x y F' H' x1 r1 r2=>hR F' H' x y a b c _ x1.sub r1 r2 e3 fun v rv=>k v F' H' x1 rv
theorem ev_i0 {g:Int→Int→V} {f:Int→Int→γ} {t:Rp γ} {ox oy:Option Int} (hg:∀ H i j,t.rel H (g i j) (f i j)) (ha:EV Γ ta ox rInt) (hb:EV Γ tb oy rInt):EV Γ (tOp (rI0 g) ta tb) (ox.bind fun a=>oy.bind fun b=>some (f a b)) t :=
 fZ (fun F H x y a b c Q _ r1 r2 e k=>by cases e; exact ⟨a,b,r1,r2,k _ (hg F a b)⟩) ha hb
theorem ev_i {Cn:Int→Int→Prop} {g:Int→Int→V} {f:Int→Int→Option γ} {t:Rp γ} {ox oy:Option Int} (hg:∀ H i j c,f i j=some c→Cn i j∧t.rel H (g i j) c) (ha:EV Γ ta ox rInt) (hb:EV Γ tb oy rInt) :
  EV Γ (tOp (rI Cn g) ta tb) (ox.bind fun a=>oy.bind fun b=>f a b) t :=
 fZ (fun F H x y a b c Q _ r1 r2 e k=>by refine oq02 (hg F a b c e) fun h1 h2=>?_; exact ⟨a,b,r1,r2,h1,k _ h2⟩) ha hb
section
variable {ox oy oz:Option Int}
theorem bY (ha:EV Γ ta ox rInt) (hb:EV Γ tb oy rInt):EV Γ (tOp (rI0 fun i j=>.int (i+j)) ta tb) (ox.bind fun a=>oy.bind fun b=>some (a+b)) rInt:=ev_i0 (fun _ _ _=>rfl) ha hb
theorem dO (ha:EV Γ ta ox rInt) (hb:EV Γ tb oy rInt):EV Γ (tOp (rI0 fun i j=>.int (i - j)) ta tb) (ox.bind fun a=>oy.bind fun b=>some (a - b)) rInt:=ev_i0 (fun _ _ _=>rfl) ha hb
theorem ev_lt (ha:EV Γ ta ox rInt) (hb:EV Γ tb oy rInt):EV Γ (tOp (rI0 fun i j=>.bl (decide (i<j))) ta tb) (ox.bind fun a=>oy.bind fun b=>some (decide (a<b))) aG:=ev_i0 (fun _ _ _=>rfl) ha hb
theorem ev_ge (ha:EV Γ ta ox rInt) (hb:EV Γ tb oy rInt):EV Γ (tOp (rI0 fun i j=>.bl (decide (j≤i))) ta tb) (ox.bind fun a=>oy.bind fun b=>some (decide (b≤a))) aG:=ev_i0 (fun _ _ _=>rfl) ha hb
theorem hV (ha:EV Γ ta ox rInt) (hb:EV Γ tb oy rInt):EV Γ (tOp (rI CMul fun i j=>.int (i * j)) ta tb) (ox.bind fun a=>oy.bind fun b=>Pu.mul a b) rInt:=ev_i (fun _ i j c e=>by
 unfold Pu.mul at e
 split at e
 ·rename_i h; cases e; exact ⟨h,rfl⟩
 ·cases e) ha hb
theorem gj (ha:EV Γ ta ox rInt) (hb:EV Γ tb oy rInt):EV Γ (tOp (rI (fun _ j=>0<j) fun i j=>.int (i % j)) ta tb) (ox.bind fun a=>oy.bind fun b=>Pu.fmod a b) rInt:=ev_i (fun _ i j c e=>by
 unfold Pu.fmod at e
 split at e
 ·rename_i h; cases e; exact ⟨h,rfl⟩
 ·cases e) ha hb
theorem iN (ha:EV Γ ta ox rInt) (hb:EV Γ tb oy rInt):EV Γ (tOp (rI (fun _ j=>0<j∧j<2 ^ 64) fun i j=>.int (i / j)) ta tb) (ox.bind fun a=>oy.bind fun b=>Pu.fdiv a b) rInt:=ev_i (fun _ i j c e=>by
 unfold Pu.fdiv at e
 split at e
 ·rename_i h; cases e; exact ⟨h,rfl⟩
 ·cases e) ha hb
theorem ev_pow (ha:EV Γ ta ox rInt) (hb:EV Γ tb oy rInt):EV Γ (tOp (rI CPow fun i j=>.int (i ^ j.toNat)) ta tb) (ox.bind fun a=>oy.bind fun b=>Pu.pow a b) rInt:=ev_i (fun _ i j c e=>by
 unfold Pu.pow at e
 split at e
 ·rename_i h; cases e; exact ⟨h,rfl⟩
 ·cases e) ha hb
theorem jq (ha:EV Γ ta ox rInt):EV Γ (tUn (rU fun i=>.int (-i)) ta) (ox.bind fun a=>some (-a)) rInt:=by
 intro C F σ H Q c S e k
 refine oq12 (a9 e) fun a e1 e=>?_
 cases e
 exact ha C F σ H _ a S e1 fun v F' H' x1 r1=>⟨a,r1,k _ F' H' x1 rfl⟩
end
theorem cX {f:α→β→Bool} (hf:∀ H x y a b,r.rel H x a→s.rel H y b→scal x y=true∧decide (x=y)=f a b) (ha:EV Γ ta oa r) (hb:EV Γ tb ob s):EV Γ (tOp rEq ta tb) (oa.bind fun a=>ob.bind fun b=>some (f a b)) aG :=
 fZ (fun F H x y a b c Q _ r1 r2 e k=>by cases e; refine oq02 (hf F x y a b r1 r2) fun h1 h2=>?_; exact ⟨h1,by rw [h2]; exact k _ rfl⟩) ha hb
theorem f9 {f:α→β→Bool} (hf:∀ H x y a b,r.rel H x a→s.rel H y b→scal x y=true∧decide (x=y)=f a b) (ha:EV Γ ta oa r) (hb:EV Γ tb ob s):EV Γ (tOp rNe ta tb) (oa.bind fun a=>ob.bind fun b=>some (!f a b)) aG :=
 fZ (fun F H x y a b c Q _ r1 r2 e k=>by cases e; refine oq02 (hf F x y a b r1 r2) fun h1 h2=>?_; exact ⟨h1,by rw [h2]; exact k _ rfl⟩) ha hb
theorem cD (H:Hp) (x y:V) (a b:Int) (h1:rInt.rel H x a) (h2:rInt.rel H y b):scal x y=true∧decide (x=y)=decide (a=b):=by
 cases h1; cases h2; exact ⟨rfl,by rw [Bool.eq_iff_iff]; simp⟩
theorem sc_oo (H:Hp) (x y:V) (a b:Option Int) (h1:(rOp rInt).rel H x a) (h2:(rOp rInt).rel H y b):scal x y=true∧decide (x=y)=decide (a=b):=by
 cases a with
 | none =>
  cases h1
  cases b with
  | none=>cases h2; exact ⟨rfl,by rw [Bool.eq_iff_iff]; simp⟩
  | some i=>cases h2; exact ⟨rfl,by rw [Bool.eq_iff_iff]; simp⟩
 | some j =>
  cases h1
  cases b with
  | none=>cases h2; exact ⟨rfl,by rw [Bool.eq_iff_iff]; simp⟩
  | some i=>cases h2; exact ⟨rfl,by rw [Bool.eq_iff_iff]; simp⟩
theorem ev_notN {o:Option (Option α)} (ha:EV Γ ta o (rOp r)) (hr:∀ F a,¬ r.rel F .non a):EV Γ (tOp (fun x y H Q=>y=.non∧Q (.bl (!decide (x=.non))) H) ta (tC .non)) (o.bind fun a=>some a.isSome) aG:=by
 intro C F σ H Q c S e k
 refine oq12 (a9 e) fun a e1 e=>?_
 cases e
 refine ha C F σ H _ a S e1 fun v F' H' x1 r1=>⟨rfl,?_⟩
 have:(!decide (v=.non))=a.isSome:=by
  cases a with
  | none=>cases r1; rfl
  | some x=>show (!decide (v=.non))=true; rw [decide_eq_false fun z=>hr F' x (by subst z; exact r1)]; rfl
 rw [this]; exact k _ F' H' x1 rfl
theorem nn_int (F:Hp) (a:Int):¬ rInt.rel F .non a:=fun h=>nomatch h
theorem ev_chain {g g':Int→Int→Bool} {ox oy oz:Option Int} (ha:EV Γ ta ox rInt) (hb:EV Γ tb oy rInt) (hc:EV Γ tc oz rInt) :
  EV Γ (kZ (rI0 fun i j=>.bl (g i j)) (rI0 fun i j=>.bl (g' i j)) ta tb tc) (ox.bind fun a=>oy.bind fun b=>if g a b=true then oz.bind fun c=>some (g' b c) else some false) aG:=by
 intro C F σ H Q d S e k
 refine oq12 (a9 e) fun a e1 e=>?_
 refine oq12 (a9 e) fun b e2 e=>?_
 refine EV.two ha hb S e1 e2 fun x y F' H' x1 r1 r2=>⟨a,b,r1,r2,g a b,rfl,?_⟩
 by_cases h:g a b=true
 ·rw [if_pos h] at e ⊢
  refine oq12 (a9 e) fun c e3 e=>?_
  cases e
  exact hc C F' σ H' _ c (S.grow x1) e3 fun z F2 H2 x2 r3=>⟨b,c,r2,r3,k _ F2 H2 (x1.trans x2) rfl⟩
 ·rw [if_neg h] at e ⊢
  cases e
  exact k _ F' H' x1 rfl
section
variable {t u:TT} {o o':Option Bool}
theorem aU (h:EV Γ ta o aG):ET Γ (tTest ta) o:=fun C F σ H Q b S e k=>h C F σ H _ b S e fun v F' H' x1 r1=>(oi12 b r1 (k F' H' x1))
theorem et_b (h:EV Γ ta o aG):ET Γ (tB ta) o:=fun C F σ H Q b S e k=>h C F σ H _ b S e fun v F' H' x1 r1=>(oi12 b r1 (k F' H' x1))
theorem ly (h:ET Γ t o) (h':ET Γ u o'):ET Γ (tAnd t u) (o.bind fun b=>if b=true then o' else some false):=by
 intro C F σ H Q d S e k
 refine oq12 (a9 e) fun a e1 e=>?_
 refine h C F σ H _ a S e1 fun F' H' x1=>?_
 cases a with
 | true=>exact h' C F' σ H' _ d (S.grow x1) e fun F2 H2 x2=>k F2 H2 (x1.trans x2)
 | false=>cases e; exact k F' H' x1
theorem dU (h:ET Γ t o) (h':ET Γ u o'):ET Γ (tOr t u) (o.bind fun b=>if b=true then some true else o'):=by
 intro C F σ H Q d S e k
 refine oq12 (a9 e) fun a e1 e=>?_
 refine h C F σ H _ a S e1 fun F' H' x1=>?_
 cases a with
 | true=>cases e; exact k F' H' x1
 | false=>exact h' C F' σ H' _ d (S.grow x1) e fun F2 H2 x2=>k F2 H2 (x1.trans x2)
theorem dh (h:ET Γ t o):ET Γ (tNot t) (o.bind fun b=>some (!b)):=by
 intro C F σ H Q d S e k
 refine oq12 (a9 e) fun a e1 e=>?_
 cases e
 exact h C F σ H _ a S e1 fun F' H' x1=>k F' H' x1
theorem et_true:ET Γ tTrue (some true):=fun C F σ H Q b S e k=>by cases e; exact k F H (Ext.refl S.sub)
theorem lz {rl:Rp (List α)} {ol:Option (List α)} (sq:Sq K rl r) (h:EV Γ ta ol rl):ET Γ (tTru K ta) (ol.bind fun xs=>some (!xs.isEmpty)):=by
 intro C F σ H Q d S e k
 refine oq12 (a9 e) fun a e1 e=>?_
 cases e
 refine h C F σ H _ a S e1 fun v F' H' x1 hv=>?_
 refine oq23 (sq.get hv) fun p vs e2 h2 h3=>?_
 refine (oi12 (!vs.isEmpty) ?_ ?_)
 ·subst e2; exact .inl (oi12 vs (x1.sub.seq h2) rfl)
 ·have:(!vs.isEmpty)=!a.isEmpty:=by cases h3 <;> rfl
  rw [this]; exact k F' H' x1
theorem ev_and (h:EV Γ ta o aG) (h':EV Γ tb o' aG):EV Γ (tAndV ta tb) (o.bind fun b=>if b=true then o' else some false) aG:=by
 intro C F σ H Q d S e k
 refine oq12 (a9 e) fun a e1 e=>?_
 refine h C F σ H _ a S e1 fun v F' H' x1 r1=>(oi12 a r1 ?_)
 cases a with
 | true=>exact h' C F' σ H' _ d (S.grow x1) e fun w F2 H2 x2 r2=>k w F2 H2 (x1.trans x2) r2
 | false=>cases e; exact k _ F' H' x1 rfl
theorem ev_ifx {oa':Option α} (ht:ET Γ t o) (ha:EV Γ ta oa r) (hb:EV Γ tb oa' r):EV Γ (tIf t ta tb) (o.bind fun b=>if b=true then oa else oa') r:=by
 intro C F σ H Q d S e k
 refine oq12 (a9 e) fun a e1 e=>?_
 refine ht C F σ H _ a S e1 fun F' H' x1=>?_
 cases a with
 | true=>exact ha C F' σ H' _ d (S.grow x1) e fun w F2 H2 x2 r2=>k w F2 H2 (x1.trans x2) r2
 | false=>exact hb C F' σ H' _ d (S.grow x1) e fun w F2 H2 x2 r2=>k w F2 H2 (x1.trans x2) r2
end
end
end L2
namespace L2
open PySem PySem.Spec PyProof.Rows
variable [Kon]
theorem jr {α:Type} {r:V→α→Prop} {vs:List V} {xs:List α} {i:Int} {a:α} (p:Paired r vs xs) (h:atI xs i=some a):∃ v,atI vs i=some v∧r v a:=by
 unfold atI at h ⊢
 rw [p.length]
 refine oq12 (a9 h) fun j e1 e2=>?_
 refine oq12 (cq p e2) fun v h1 h2=>?_
 exact (oi12 v (by rw [e1]; exact h1) h2)
theorem o4 {α:Type} {r:V→α→Prop} {vs:List V} {xs:List α} {lo hi:Option Int} (p:Paired r vs xs):Paired r (cutV vs lo hi) (Pu.cut xs lo hi):=by
 unfold cutV Pu.cut
 rw [p.length]
 exact Paired.takeB _ (Paired.dropB _ p)
theorem dB {α:Type} {r:Rp α} {F:Hp} {k:Int}:∀ {ws:List (Key × V)} {kvs:List (Int × α)},Paired (dRel r F) ws kvs→(∀ a,Pu.find kvs k=some a→∃ v,valV ws (.inl k)=some v∧r.rel F v a)∧(Pu.find kvs k=none→valV ws (.inl k)=none)
 | _,_,.nil=>⟨fun a h=>(nomatch h),fun _=>rfl⟩
 | w :: ws,kv :: kvs,.cons h t=>by
  refine oq02 h fun e1 e2=>?_
  by_cases q:kv.1=k
  ·have e3:w.1=Sum.inl k:=by rw [e1,q]
   have ef:Pu.find (kv :: kvs) k=some kv.2:=by unfold Pu.find; rw [List.find?_cons_of_pos (by simpa using q)]; rfl
   rw [ef,gz e3]
   exact ⟨fun a h=>by cases h; exact (oi12 _ rfl e2),fun h=>(nomatch h)⟩
  ·have e3:¬ w.1=Sum.inl k:=by rw [e1]; intro z; exact q (Sum.inl.inj z)
   have ef:Pu.find (kv :: kvs) k=Pu.find kvs k:=by unfold Pu.find; rw [List.find?_cons_of_neg (by simpa using q)]
   rw [ef,gA e3]
   exact dB t
theorem Paired.mapB {α β α' β':Type} {F:α→β→Prop} {G:α'→β'→Prop} {f:α→α'} {g:β→β'} (h:∀ a b,F a b→G (f a) (g b)):∀ {l:List α} {m:List β},Paired F l m→Paired G (l.map f) (m.map g)
 | _,_,.nil=>.nil
 | _,_,.cons r t=>.cons (h _ _ r) (Paired.mapB h t)
theorem js {α:Type} {r:Rp α} {F:Hp} {k:Int}:∀ {ws:List (Key × V)} {kvs:List (Int × α)},Paired (dRel r F) ws kvs→(ws.any fun kv=>decide (kv.1=Sum.inl k))=kvs.any fun kv=>decide (kv.1=k)
 | _,_,.nil=>rfl
 | w :: ws,kv :: kvs,.cons h t=>by
  rw [List.any_cons,List.any_cons,js t,h.1]
  congr 1
  rw [Bool.eq_iff_iff]; simp
theorem o5 {α:Type} {r:Rp α} {F:Hp} {k:Int} {v:V} {a:α} (hv:r.rel F v a) {ws:List (Key × V)} {kvs:List (Int × α)} (p:Paired (dRel r F) ws kvs):Paired (dRel r F) (putK ws (.inl k) v) (Pu.put kvs k a):=by
 unfold putK Pu.put
 rw [js p]
 split
 ·refine Paired.mapB (fun w kv h=>?_) p
  by_cases q:kv.1=k
  ·rw [if_pos q,if_pos (by rw [h.1,q])]; exact ⟨h.1,hv⟩
  ·rw [if_neg q,if_neg (by rw [h.1]; intro z; exact q (Sum.inl.inj z))]; exact h
 ·exact Paired.app p (.cons ⟨rfl,hv⟩ .nil)
section
variable {X:Cx} {K:PySem.W.Frag}
noncomputable def rCatS:R2:=fun x y H Q=>∃ l b xs zs,x=.ref l∧y=.ref b∧Rd H l (.lst xs)∧Rd H b (.lst zs)∧xs.length+zs.length≤sizeLine∧∀ p,H p=none→Q (.ref p) (upd H p (.lst (xs++zs)))
theorem op_catS:OpR X (binaryOp .Add) rCatS:=by
 intro pins s σ H x y v u Q I rx ry h
 refine oq46 h fun l b xs zs eq4_ eq5_ hH hB hz q=>?_; subst eq4_; subst eq5_
 cases rx
 cases ry
 refine oq02 ((show bb X.prog X.w H s.heap l (.lst xs) from hH.ok I.hok)) fun z zz=>oq22 zz fun its n r e=>?_
 refine oq02 ((show bb X.prog X.w H s.heap b (.lst zs) from hB.ok I.hok)) fun z2 zz=>oq22 zz fun its2 n2 r2 e2=>?_
 have hl:=r.length
 have hl2:=r2.length
 refine PySem.P.add_list e e2 ?_ (by rw [List.size_toArray,List.size_toArray]; omega)
 have ea:its.toArray++its2.toArray=(its++its2).toArray:=by simp
 rw [ea]
 exact ⟨.ref _,_,I.lnew (t':=s.toks) (r.append r2) (by rw [List.length_append]; omega),rfl,q _ I.fresh⟩
end
section
variable (Γ:List Slot) {α τ:Type}
noncomputable def EVs (n:Nat) (t:TA) (o:Option (List α)) (r:Rp α):Prop:=∀ C F σ H Q xs,SR C F Γ σ H→o=some xs→(∀ vs F' H',Ext F H F' H'→vs.length=n→Paired (r.rel F') vs xs→Q vs H')→t σ H Q
structure RpA (τ:Type) where
 rel:Hp→List V→τ→Prop
 mono:∀ {H H':Hp} {vs:List V} {a:τ},Same H H'→rel H vs a→rel H' vs a
 slots:τ→List Slot
 ok:∀ {F:Hp} {vs:List V} {a:τ},rel F vs a→vs.length=(slots a).length∧∀ (i:Nat) s,(slots a)[i]?=some s→s.own=false∧∃ v,vs[i]?=some v∧∀ H0 H,SlOk H0 F H s (some v)
noncomputable def aOne {α:Type} (r:Rp α):RpA α:=⟨fun H vs a=>∃ v,vs=[v]∧r.rel H v a,fun e zq=>oq12 zq fun v h1 h2=>(oi12 v h1 (r.mono e h2)),fun a=>[.fr r a],fun {F vs a} ⟨v,h1,h2⟩=>by
 subst h1
 refine ⟨rfl,fun i s h=>?_⟩
 match i,h with
 | 0,h=>cases h; exact ⟨rfl,v,rfl,fun _ _=>⟨v,rfl,h2⟩⟩
 | i+1,h=>simp at h⟩
noncomputable def ak {α τ:Type} (r:Rp α) (ra:RpA τ):RpA (α × τ):=⟨fun H vs a=>∃ v ws,vs=v :: ws∧r.rel H v a.1∧ra.rel H ws a.2,fun e zq=>oq23 zq fun v ws h1 h2 h3=>(oi23 v ws h1 (r.mono e h2) (ra.mono e h3)),fun a=>.fr r a.1 :: ra.slots a.2,fun {F vs a} ⟨v,ws,h1,h2,h3⟩=>by
 subst h1
 refine oq02 (ra.ok h3) fun l g=>?_
 refine ⟨by simp [l],fun i s h=>?_⟩
 match i,h with
 | 0,h=>cases h; exact ⟨rfl,v,rfl,fun _ _=>⟨v,rfl,h2⟩⟩
 | i+1,h=>exact g i s (by simpa using h)⟩
noncomputable def EA (t:TA) (o:Option τ) (ra:RpA τ):Prop:=∀ C F σ H Q a,SR C F Γ σ H→o=some a→(∀ vs F' H',Ext F H F' H'→ra.rel F' vs a→Q vs H')→t σ H Q
noncomputable def spV {γ:Type} (ra:RpA τ) (r:Rp γ) (f:τ→Option γ):Sp:=fun vs H Q _=>∃ F a c,Same F H∧NT F∧TbG H∧ra.rel F vs a∧f a=some c∧∀ v F' H',Ext F H F' H'→r.rel F' v c→Q v H'
noncomputable def spL {γ:Type} (ra:RpA τ) (r:Rp γ) (f:τ→Option (List γ)):Sp:=fun vs H Q _=>∃ F a xs,Same F H∧NT F∧TbG H∧ra.rel F vs a∧f a=some xs∧∀ p vs F' H1,Ext F H F' H1→H1 p=none→Paired (r.rel F') vs xs→Q (.ref p) (upd H1 p (.lst vs))
noncomputable def spD {γ:Type} (ra:RpA τ) (r:Rp γ) (f:τ→Option (List (Int × γ))):Sp:=fun vs H Q _=>∃ F a xs,Same F H∧NT F∧TbG H∧ra.rel F vs a∧f a=some xs∧∀ p vs F' H1,Ext F H F' H1→H1 p=none→Paired (dRel r F') vs xs→Q (.ref p) (upd H1 p (.dK vs))
end
section
variable {Γ:List Slot} {α β γ δ τ:Type} {r:Rp α} {s:Rp β} {q:Rp γ} {ta tb tc td:TE} {oa:Option α} {ob:Option β} {oc:Option γ} {K:PySem.W.Frag} {t:TA} {ra:RpA τ} {oτ:Option τ} {oi:Option Int}
theorem ap (h:EV Γ ta oa r):EA Γ (aK ta tNil) oa (aOne r):=fun C F σ H Q a S e k=>h C F σ H _ a S e fun v F' H' x1 r1=>k _ F' H' x1 ⟨v,rfl,r1⟩
theorem ai (h:EV Γ ta oa r) (h':EA Γ t oτ ra):EA Γ (aK ta t) (oa.bind fun a=>oτ.bind fun b=>some (a,b)) (ak r ra):=by
 intro C F σ H Q c S e k
 refine oq12 (a9 e) fun a e1 e=>?_
 refine oq12 (a9 e) fun b e2 e=>?_
 cases e
 exact h C F σ H _ a S e1 fun v F' H' x1 r1=>h' C F' σ H' _ b (S.grow x1) e2 fun vs F2 H2 x2 r2=>k _ F2 H2 (x1.trans x2) ⟨v,vs,rfl,r.mono x2.ff r1,r2⟩
theorem aA {f:τ→Option γ} (h:EA Γ t oτ ra):EV Γ (j5 (spV ra q f) [] E0 t) (oτ.bind f) q:=by
 intro C F σ H Q c S e k
 refine oq12 (a9 e) fun a e1 e=>?_
 exact h C F σ H _ a S e1 fun vs F' H' x1 r1=>⟨F',a,c,x1.sub,x1.nt S.nt,x1.hh.tg S.tg,by rw [List.append_nil]; exact r1,e,fun v F2 H2 x2 r2=>k v F2 H2 (x1.trans x2) r2⟩
theorem bo {f:τ→Option (List γ)} (h:EA Γ t oτ ra):EVL Γ (j5 (spL ra q f) [] E0 t) (oτ.bind f) q:=by
 intro C F σ H Q c S e k
 refine oq12 (a9 e) fun a e1 e=>?_
 exact h C F σ H _ a S e1 fun vs F' H' x1 r1=>⟨F',a,c,x1.sub,x1.nt S.nt,x1.hh.tg S.tg,by rw [List.append_nil]; exact r1,e,fun p ws F2 H2 x2 hp r2=>k p ws F2 H2 (x1.trans x2) hp r2⟩
theorem mM {f:τ→Option (List (Int × γ))} (h:EA Γ t oτ ra):EVD Γ (j5 (spD ra q f) [] E0 t) (oτ.bind f) q:=by
 intro C F σ H Q c S e k
 refine oq12 (a9 e) fun a e1 e=>?_
 exact h C F σ H _ a S e1 fun vs F' H' x1 r1=>⟨F',a,c,x1.sub,x1.nt S.nt,x1.hh.tg S.tg,by rw [List.append_nil]; exact r1,e,fun p ws F2 H2 x2 hp r2=>k p ws F2 H2 (x1.trans x2) hp r2⟩
theorem EVL.ev {o:Option (List α)} (h:EVL Γ ta o r):EV Γ ta o (rL r):=fun C F σ H Q xs S e k=>h C F σ H Q xs S e fun p vs F' H1 x1 hp r1 =>
 k _ _ _ (x1.trans (Ext.new x1.sub hp)) ⟨p,vs,rfl,Rd.of af,Paired.imp2 (fun _ _ z=>r.mono (aC (x1.sub.free hp)) z) r1⟩
theorem EVD.ev {o:Option (List (Int × α))} (h:EVD Γ ta o r):EV Γ ta o (rD r):=fun C F σ H Q xs S e k=>h C F σ H Q xs S e fun p vs F' H1 x1 hp r1 =>
 k _ _ _ (x1.trans (Ext.new x1.sub hp)) ⟨p,vs,rfl,af,Paired.imp2 (fun _ _ z=>⟨z.1,r.mono (aC (x1.sub.free hp)) z.2⟩) r1⟩
theorem gE (ha:EV Γ ta oa r) (hb:EV Γ tb ob s):EV Γ (tTup (aK ta (aK tb tNil))) (oa.bind fun a=>ob.bind fun b=>some (a,b)) (rT2 r s):=by
 intro C F σ H Q c S e k
 refine oq12 (a9 e) fun a e1 e=>?_
 refine oq12 (a9 e) fun b e2 e=>?_
 cases e
 exact EV.two (q:=fun x y H2=>[x,y].length≤sizeLine∧∀ p,H2 p=none→Q (.ref p) (upd H2 p (.tup [x,y]))) ha hb S e1 e2 fun x y F' H' x1 r1 r2=>⟨by show 2≤sizeLine; decide,fun p hp=>k _ _ _ (x1.trans (Ext.new x1.sub hp)) ⟨p,x,y,rfl,af,r.mono (aC (x1.sub.free hp)) r1,s.mono (aC (x1.sub.free hp)) r2⟩⟩
theorem jt {n:Int} {T:Type} {u:Rp T} {o:Option T} (get:T→γ) (h:EV Γ ta o u) (hg:∀ F H v a Q,Same F H→u.rel F v a→(∀ w,q.rel F w (get a)→Q w H)→rIxT K v (.int n) H Q):EV Γ (tOp (rIxT K) ta (tC (.int n))) (o.bind fun p=>some (get p)) q:=by
 intro C F σ H Q c S e k
 refine oq12 (a9 e) fun a e1 e=>?_
 cases e
 exact h C F σ H _ a S e1 fun v F' H' x1 r1=>hg F' H' v a _ x1.sub r1 fun w rw=>k w F' H' x1 rw
theorem lA {o:Option (α × β)} (h:EV Γ ta o (rT2 r s)):EV Γ (tOp (rIxT K) ta (tC (.int 0))) (o.bind fun p=>some p.1) r:=jt (·.1) h fun F H v a Q sb ⟨p,x,y,e,h1,h2,h3⟩ k=>⟨p,_,_,x,e,rfl,SqT.of (sb _ _ h1),rfl,k x h2⟩
theorem dC {o:Option (α × β)} (h:EV Γ ta o (rT2 r s)):EV Γ (tOp (rIxT K) ta (tC (.int 1))) (o.bind fun p=>some p.2) s:=jt (·.2) h fun F H v a Q sb ⟨p,x,y,e,h1,h2,h3⟩ k=>⟨p,_,_,y,e,rfl,SqT.of (sb _ _ h1),rfl,k y h3⟩
theorem iO {o:Option (α × β × γ)} (h:EV Γ ta o (rT3 r s q)):EV Γ (tOp (rIxT K) ta (tC (.int 0))) (o.bind fun p=>some p.1) r:=jt (·.1) h fun F H v a Q sb ⟨p,x,y,z,e,h1,h2,h3,h4⟩ k=>⟨p,_,_,x,e,rfl,SqT.of (sb _ _ h1),rfl,k x h2⟩
theorem ev_t3_1 {o:Option (α × β × γ)} (h:EV Γ ta o (rT3 r s q)):EV Γ (tOp (rIxT K) ta (tC (.int 1))) (o.bind fun p=>some p.2.1) s:=jt (·.2.1) h fun F H v a Q sb ⟨p,x,y,z,e,h1,h2,h3,h4⟩ k=>⟨p,_,_,y,e,rfl,SqT.of (sb _ _ h1),rfl,k y h3⟩
theorem ev_t3_2 {o:Option (α × β × γ)} (h:EV Γ ta o (rT3 r s q)):EV Γ (tOp (rIxT K) ta (tC (.int 2))) (o.bind fun p=>some p.2.2) q:=jt (·.2.2) h fun F H v a Q sb ⟨p,x,y,z,e,h1,h2,h3,h4⟩ k=>⟨p,_,_,z,e,rfl,SqT.of (sb _ _ h1),rfl,k z h4⟩
theorem bE:EVs Γ 0 tNil (some []) r:=fun C F σ H Q xs S e k=>by cases e; exact k [] F H (Ext.refl S.sub) rfl .nil
theorem bv {n:Nat} {o:Option (List α)} (h:EV Γ ta oa r) (h':EVs Γ n t o r):EVs Γ (n+1) (aK ta t) (oa.bind fun a=>o.bind fun b=>some (a :: b)) r:=by
 intro C F σ H Q c S e k
 refine oq12 (a9 e) fun a e1 e=>?_
 refine oq12 (a9 e) fun b e2 e=>?_
 cases e
 exact h C F σ H _ a S e1 fun v F' H' x1 r1=>h' C F' σ H' _ b (S.grow x1) e2 fun vs F2 H2 x2 l r2=>k _ F2 H2 (x1.trans x2) (by simp [l]) (.cons (r.mono x2.ff r1) r2)
theorem bF {n:Nat} {o:Option (List α)} (h:EVs Γ n t o r) (hn:n≤16777216:=by decide):EVL Γ (tLst t) o r:=fun C F σ H Q xs S e k=>h C F σ H _ xs S e fun vs F' H' x1 l r1=>⟨by rw [l,sizeLine_eq]; exact hn,fun p hp=>k p vs F' H' x1 hp r1⟩
theorem bg {rl:Rp (List α)} {o:Option (List α)} (sq:Sq K rl r) (h:EV Γ ta o rl) (hi:EV Γ tb oi rInt):EV Γ (tOp (rIxL K) ta tb) (o.bind fun xs=>oi.bind fun i=>Pu.at_ xs i) r :=
 fZ (r:=rl) (s:=rInt) (fun F H x y a b c Q sb hx r2 e3 k=>by
  refine oq23 (sq.get hx) fun p vs e h1 h2=>?_
  refine oq12 (jr h2 e3) fun v h3 h4=>?_
  exact ⟨p,vs,b,v,e,r2,sb.seq h1,h3,k v h4⟩) h hi
theorem ev_ixD {o:Option (List (Int × α))} (h:EV Γ ta o (rD r)) (hi:EV Γ tb oi rInt):EV Γ (tDGet ta tb) (o.bind fun xs=>oi.bind fun i=>Pu.find xs i) r:=by
 intro C F σ H Q c S e k
 refine oq12 (a9 e) fun a e1 e=>?_
 refine oq12 (a9 e) fun b e2 e=>?_
 refine EV.two (q:=fun x y H2=>∃ a v,x=.ref a∧DGet H2 a y (some v)∧Q v H2) h hi S e1 e2 fun x y F' H' x1 ⟨p,ws,e3,h1,h2⟩ r2=>?_
 refine oq12 ((dB (k:=b) h2).1 c e) fun v h3 h4=>?_
 exact (oi23 p v e3 (.inl (oi23 ws (.inl b) (.inl (x1.sub _ _ h1)) r2 h3.symm)) (k v F' H' x1 h4))
theorem kD {o:Option (List (Int × α))} (hi:EV Γ tb oi rInt) (h:EV Γ ta o (rD r)):EV Γ (tDNotIn tb ta) (oi.bind fun i=>o.bind fun xs=>some (!(Pu.find xs i).isSome)) aG:=by
 intro C F σ H Q c S e k
 refine oq12 (a9 e) fun b e2 e=>?_
 refine oq12 (a9 e) fun a e1 e=>?_
 cases e
 refine EV.two (q:=fun y x H2=>∃ a o,x=.ref a∧DGet H2 a y o∧Q (.bl (!o.isSome)) H2) hi h S e2 e1 fun y x F' H' x1 r2 zq=>oq23 zq fun p ws e3 h1 h2=>?_
 refine (oi23 p (valV ws (.inl b)) e3 (.inl (oi23 ws (.inl b) (.inl (x1.sub _ _ h1)) r2 rfl)) ?_)
 have:(valV ws (.inl b)).isSome=(Pu.find a b).isSome:=by
  refine oq02 (dB (k:=b) h2) fun g1 g2=>?_
  cases q:Pu.find a b with
  | none=>rw [g2 q]; rfl
  | some z=>refine oq12 (g1 z q) fun v h3 _=>?_; rw [h3]; rfl
 rw [this]; exact k _ F' H' x1 rfl
theorem evl_cat {o o':Option (List α)} (h:EV Γ ta o (rL r)) (h':EV Γ tb o' (rL r)):EVL Γ (tOp rCatS ta tb) (o.bind fun xs=>o'.bind fun ys=>Pu.cat xs ys) r:=by
 intro C F σ H Q c S e k
 refine oq12 (a9 e) fun a e1 e=>?_
 refine oq12 (a9 e) fun b e2 e=>?_
 unfold Pu.cat at e
 split at e
 ·rename_i hl
  cases e
  exact EV.two (q:=fun x y H2=>rCatS x y H2 Q) h h' S e1 e2 fun x y F' H' x1 ⟨p,vs,e3,h1,h2⟩ ⟨p',vs',e4,h3,h4⟩=>⟨p,p',vs,vs',e3,e4,x1.sub.rd h1,x1.sub.rd h3,by rw [h2.length,h4.length,sizeLine_eq]; exact hl,fun p hp=>k p _ F' H' x1 hp (Paired.app h2 h4)⟩
 ·cases e
theorem eo_none:EO Γ tNoPart (some none):=fun C F σ H Q a S e k=>by cases e; exact k F H (Ext.refl S.sub)
theorem gF (h:EV Γ ta oi rInt):EO Γ (tPart ta) (oi.bind fun i=>some (some i)):=by
 intro C F σ H Q c S e k
 refine oq12 (a9 e) fun a e1 e=>?_
 cases e
 exact h C F σ H _ a S e1 fun v F' H' x1 r1=>(oi12 a r1 (k F' H' x1))
theorem lB {rl:Rp (List α)} {o:Option (List α)} {tl th:TO} {ol oh:Option (Option Int)} (sq:Sq K rl r) (h:EV Γ ta o rl) (h1:EO Γ tl ol) (h2:EO Γ th oh):EVL Γ (tSl (rSlL K) ta tl th) (o.bind fun xs=>ol.bind fun lo=>oh.bind fun hi=>some (Pu.cut xs lo hi)) r:=by
 intro C F σ H Q c S e k
 refine oq12 (a9 e) fun a e1 e=>?_
 refine oq12 (a9 e) fun lo e2 e=>?_
 refine oq12 (a9 e) fun hi e3 e=>?_
 cases e
 refine h C F σ H _ a S e1 fun x F1 H1 x1 hx=>?_
 refine oq23 (sq.get hx) fun p vs e4 z1 z2=>?_
 exact h1 C F1 σ H1 _ lo (S.grow x1) e2 fun F2 H2 x2=>h2 C F2 σ H2 _ hi ((S.grow x1).grow x2) e3 fun F3 H3 x3 =>
  ⟨p,vs,e4,x3.sub.seq (x3.ff.seq (x2.ff.seq z1)),fun p hp=>k p _ F3 H3 ((x1.trans x2).trans x3) hp (o4 (Paired.imp2 (fun _ _ z=>r.mono (x2.ff.trans x3.ff) z) z2))⟩
theorem bT {rl:Rp (List α)} {o:Option (List α)} (sq:Sq K rl r) (h:EV Γ ta o rl):EV Γ (tCB (rLen K) (aK ta tNil)) (o.bind fun xs=>some (Pu.ln xs)) rInt:=by
 intro C F σ H Q c S e k
 refine oq12 (a9 e) fun a e1 e=>?_
 cases e
 refine h C F σ H _ a S e1 fun v F' H' x1 hv=>?_
 refine oq23 (sq.get hv) fun p vs e2 h1 h2=>?_
 exact ⟨p,vs,by rw [e2],.inl (x1.sub.seq h1),k _ F' H' x1 (by rw [h2.length]; rfl)⟩
theorem ev_lenD {o:Option (List (Int × α))} (h:EV Γ ta o (rD r)):EV Γ (tCB (fun xs H Q=>∃ a kvs,xs=[V.ref a]∧H a=some (.dK kvs)∧Q (.int kvs.length) H) (aK ta tNil)) (o.bind fun xs=>some (Pu.ln xs)) rInt:=by
 intro C F σ H Q c S e k
 refine oq12 (a9 e) fun a e1 e=>?_
 cases e
 exact h C F σ H _ a S e1 fun v F' H' x1 zq=>oq23 zq fun p vs e2 h1 h2=>⟨p,vs,by rw [e2],x1.sub _ _ h1,k _ F' H' x1 (by rw [h2.length]; rfl)⟩
theorem ju {rl:Rp (List α)} {o:Option (List α)} (sq:Sq K rl r) (h:EV Γ ta o rl):EVL Γ (tCB (rListOf K) (aK ta tNil)) o r:=fun C F σ H Q xs S e k=>h C F σ H _ xs S e fun v F' H' x1 hv=>by
 refine oq23 (sq.get hv) fun p vs e2 h1 h2=>?_
 exact ⟨p,vs,by rw [e2],.inl (x1.sub.seq h1),fun l hl=>k l vs F' H' x1 hl h2⟩
theorem lD (h:EV Γ ta oi rInt):EV Γ (tCB (fun xs H Q=>∃ i,xs=[.int i]∧Q (.int (if i<0 then -i else i)) H) (aK ta tNil)) (oi.bind fun i=>some (Pu.ab i)) rInt:=by
 intro C F σ H Q c S e k
 refine oq12 (a9 e) fun a e1 e=>?_
 cases e
 exact h C F σ H _ a S e1 fun v F' H' x1 r1=>⟨a,by rw [r1],k _ F' H' x1 rfl⟩
theorem iP {oj:Option Int} (h:EV Γ ta oi rInt) (h':EV Γ tb oj rInt):EV Γ (tCB (fun xs H Q=>∃ i j,xs=[.int i,.int j]∧Q (.int (if j<i then j else i)) H) (aK ta (aK tb tNil))) (oi.bind fun i=>oj.bind fun j=>some (Pu.mn i j)) rInt:=by
 intro C F σ H Q c S e k
 refine oq12 (a9 e) fun a e1 e=>?_
 refine oq12 (a9 e) fun b e2 e=>?_
 cases e
 exact EV.two (q:=fun x y H2=>∃ i j,[x,y]=[.int i,.int j]∧Q (.int (if j<i then j else i)) H2) h h' S e1 e2 fun x y F' H' x1 r1 r2=>(oi22 a b (by rw [r1,r2]) (k _ F' H' x1 rfl))
theorem iQ {oj:Option Int} (h:EV Γ ta oi rInt) (h':EV Γ tb oj rInt):EV Γ (tCB (fun xs H Q=>∃ i j,xs=[.int i,.int j]∧Q (.int (if j > i then j else i)) H) (aK ta (aK tb tNil))) (oi.bind fun i=>oj.bind fun j=>some (Pu.mx i j)) rInt:=by
 intro C F σ H Q c S e k
 refine oq12 (a9 e) fun a e1 e=>?_
 refine oq12 (a9 e) fun b e2 e=>?_
 cases e
 exact EV.two (q:=fun x y H2=>∃ i j,[x,y]=[.int i,.int j]∧Q (.int (if j > i then j else i)) H2) h h' S e1 e2 fun x y F' H' x1 r1 r2=>(oi22 a b (by rw [r1,r2]) (k _ F' H' x1 rfl))
structure Fe [DecidableEq α] (r:Rp α):Prop where
 flat:∀ {F v a},r.rel F v a→fV v=true
 eq:∀ {F v w a b},r.rel F v a→r.rel F w b→eqV v w=decide (a=b)
theorem gk:Fe rInt:=⟨fun h=>by cases h; rfl,fun h h'=>by cases h; cases h'; exact (by rw [Bool.eq_iff_iff]; simp [eqV])⟩
theorem hW [DecidableEq α] (f:Fe r) {F:Hp} {x:V} {a:α} (hx:r.rel F x a):∀ {vs:List V} {xs:List α},Paired (r.rel F) vs xs→inV x vs=decide (a∈xs)∧vs.all fV=true
 | _,_,.nil=>⟨by simp [inV],rfl⟩
 | v :: vs,y :: ys,.cons h t=>by
  refine oq02 (hW f hx t) fun i1 i2=>?_
  refine ⟨?_,by rw [List.all_cons,f.flat h,i2]; rfl⟩
  have:inV x (v :: vs)=(eqV v x || inV x vs):=rfl
  rw [this,i1,f.eq h hx,Bool.eq_iff_iff,Bool.or_eq_true,decide_eq_true_eq,decide_eq_true_eq,decide_eq_true_eq,List.mem_cons]
  constructor
  ·rintro (z | z)
   ·exact .inl z.symm
   ·exact .inr z
  ·rintro (z | z)
   ·exact .inl z.symm
   ·exact .inr z
theorem o6 [DecidableEq α] {o:Option (List α)} (f:Fe r) (h:EV Γ ta oa r) (h':EV Γ tb o (rL r)):EV Γ (tOp (rIn K false) ta tb) (oa.bind fun a=>o.bind fun xs=>some (decide (a∈xs))) aG :=
 fZ (r:=r) (s:=rL r) (fun F H x y a b c Q sb r1 ⟨p,vs,e,h1,h2⟩ e3 k=>by
  cases e3
  refine oq02 (hW f r1 h2) fun i1 i2=>?_
  exact ⟨p,vs,e,.inl (.inl (sb.rd h1)),f.flat r1,i2,by rw [if_neg Bool.false_ne_true,i1]; exact k _ rfl⟩) h h'
theorem fL [DecidableEq α] {o:Option (List α)} (f:Fe r) (h:EV Γ ta oa r) (h':EV Γ tb o (rL r)):EV Γ (tOp (rIn K true) ta tb) (oa.bind fun a=>o.bind fun xs=>some (!decide (a∈xs))) aG :=
 fZ (r:=r) (s:=rL r) (fun F H x y a b c Q sb r1 ⟨p,vs,e,h1,h2⟩ e3 k=>by
  cases e3
  refine oq02 (hW f r1 h2) fun i1 i2=>?_
  exact ⟨p,vs,e,.inl (.inl (sb.rd h1)),f.flat r1,i2,by rw [if_pos rfl,i1]; exact k _ rfl⟩) h h'
theorem TyOf.same {F H:Hp} {v:V} {t:Value} (e:Same F H) (h:TyOf K F v t):TyOf K H v t:=by
 cases h with
 | non=>exact .non
 | bl x=>exact .bl x
 | int i=>exact .int i
 | str x=>exact .str x
 | flt x=>exact .flt x
 | lst h=>exact .lst (e _ _ h)
 | frz h=>exact .frz (e _ _ h)
 | tup h=>exact .tup (e _ _ h)
 | dK h=>exact .dK (e _ _ h)
 | dT h=>exact .dT (e _ _ h)
 | ins h a b c d f=>exact .ins (e _ _ h) a b c d f
theorem lE {T:String} {f:α→Bool} (h:EV Γ ta oa r) (hf:∀ F v a,r.rel F v a→∃ t,TyOf K F v t∧PySem.W.kitOne K t (.type T)=some (f a)):EV Γ (tCB (rIsi K T) (aK ta (aK (tC (.ty T)) tNil))) (oa.bind fun a=>some (f a)) aG:=by
 intro C F σ H Q c S e k
 refine oq12 (a9 e) fun a e1 e=>?_
 cases e
 refine h C F σ H _ a S e1 fun v F' H' x1 r1=>?_
 refine oq12 (hf F' v a r1) fun t h1 h2=>?_
 exact ⟨v,t,f a,rfl,h1.same x1.sub,h2,k _ F' H' x1 rfl⟩
theorem isi_ii (F:Hp) (v:V) (a:Int) (h:rInt.rel F v a):∃ t,TyOf K F v t∧PySem.W.kitOne K t (.type "int")=some ((fun _=>true) a):=(oi12 _ (by cases h; exact .int a) mJ)
theorem isi_ib (F:Hp) (v:V) (a:Int) (h:rInt.rel F v a):∃ t,TyOf K F v t∧PySem.W.kitOne K t (.type "bool")=some ((fun _=>false) a):=(oi12 _ (by cases h; exact .int a) li)
theorem isi_ll (F:Hp) (v:V) (a:List α) (h:(rL r).rel F v a):∃ t,TyOf K F v t∧PySem.W.kitOne K t (.type "list")=some ((fun _=>true) a):=by
 obtain ⟨p,vs,rfl,(h | ⟨o,h⟩),_⟩:=h
 ·exact (oi12 _ (.lst h) fY)
 ·exact (oi12 _ (.frz h) fY)
theorem isi_t3 (F:Hp) (v:V) (a:α × β × γ) (h:(rT3 r s q).rel F v a):∃ t,TyOf K F v t∧PySem.W.kitOne K t (.type "tuple")=some ((fun _=>true) a):=by
 obtain ⟨p,x,y,z,rfl,h,_⟩:=h
 exact (oi12 _ (.tup h) mK)
end
end L2
namespace L2
open PySem PySem.Spec PyProof.Rows
variable [Kon]
section
variable {Γ:List Slot} {α β γ δ τ S T R:Type} {r:Rp α} {s:Rp β} {q:Rp γ} {ta tb tc td:TE} {oa:Option α} {ob:Option β} {K:PySem.W.Frag} {oi:Option Int}
theorem dD {F H F' H':Hp} {p:Addr} {u:HO} (hF:F p=none) (hH:H p=some u) (e:Ext (upd F p u) H F' H') (nu:cQ u:=by trivial):Ext F H (del F' p) H'∧F' p=some u:=by
 refine ⟨⟨e.hh,fun b o h=>?_,fun b o h=>e.sub b o (cS h).2,fun b o h=>?_,fun z b ps q=>e.nt (gi z nu) b ps (cS q).2⟩,e.ff p u af⟩
 ·have n:b≠p:=ah h hF
  rw [bf n]
  exact e.ff b o (by rw [ac n]; exact h)
 ·refine oq02 (cS h) fun n h=>?_
  rcases e.nw b o h with z | z
  ·rw [ac n] at z; exact .inl z
  ·exact .inr z
theorem SR.borrow {C:Fc} {F H:Hp} {σ:St} {i:Nat} {φ:Addr→Prop} {xs:List α} (S:SR C F Γ σ H) (hi:Γ[i]?=some (.ol r φ xs)):∃ p vs,F p=none∧H p=some (.lst vs)∧SR C (upd F p (.lst vs)) (Γ.set i (.fr (rL r) xs)) σ H:=by
 refine oq12 (S.at_ i _ hi) fun o h1 zz=>oq26 zz fun p vs eq4_ h2 h3 h4 h5 h6=>?_; subst eq4_
 exact (oi23 p vs h4 h5 (S.freeze hi p _ _ rfl rfl h1 h3 h4 h5 ⟨_,rfl,p,vs,rfl,Rd.of af,Paired.imp2 (fun _ _ z=>Rp.mono _ (aC h4) z) h6⟩ trivial))
theorem SR.borrowD {C:Fc} {F H:Hp} {σ:St} {i:Nat} {φ:Addr→Prop} {kvs:List (Int × α)} (S:SR C F Γ σ H) (hi:Γ[i]?=some (.od r φ kvs)):∃ p ws,F p=none∧H p=some (.dK ws)∧SR C (upd F p (.dK ws)) (Γ.set i (.fr (rD r) kvs)) σ H:=by
 refine oq12 (S.at_ i _ hi) fun o h1 zz=>oq26 zz fun p vs eq4_ h2 h3 h4 h5 h6=>?_; subst eq4_
 exact (oi23 p vs h4 h5 (S.freeze hi p _ _ rfl rfl h1 h3 h4 h5 ⟨_,rfl,p,vs,rfl,af,Paired.imp2 (fun _ _ z=>⟨z.1,Rp.mono _ (aC h4) z.2⟩) h6⟩ trivial))
noncomputable abbrev brw (Γ:List Slot) (i:Nat) {α:Type} (r:Rp α) (xs:List α):List Slot:=Γ.set i (.fr (rL r) xs)
noncomputable abbrev brwD (Γ:List Slot) (i:Nat) {α:Type} (r:Rp α) (kvs:List (Int × α)):List Slot:=Γ.set i (.fr (rD r) kvs)
theorem ev_bor {φ:Addr→Prop} {xs:List α} (i:Nat) (hi:Γ[i]?=some (.ol r φ xs)) (fl:Flat s) (h:EV (brw Γ i r xs) tb ob s):EV Γ tb ob s:=by
 intro C F σ H Q b S e k
 refine oq23 (S.borrow hi) fun p vs h1 h2 S'=>?_
 refine h C _ σ H Q b S' e fun v F' H' x1 r1=>?_
 refine oq02 (dD h1 h2 x1) fun x2 h3=>?_
 exact k v _ H' x2 (fl h3 trivial r1)
theorem ev_borD {φ:Addr→Prop} {kvs:List (Int × α)} (i:Nat) (hi:Γ[i]?=some (.od r φ kvs)) (fl:Flat s) (h:EV (brwD Γ i r kvs) tb ob s):EV Γ tb ob s:=by
 intro C F σ H Q b S e k
 refine oq23 (S.borrowD hi) fun p vs h1 h2 S'=>?_
 refine h C _ σ H Q b S' e fun v F' H' x1 r1=>?_
 refine oq02 (dD h1 h2 x1) fun x2 h3=>?_
 exact k v _ H' x2 (fl h3 trivial r1)
theorem evl_bor {φ:Addr→Prop} {xs:List α} {o:Option (List β)} (i:Nat) (hi:Γ[i]?=some (.ol r φ xs)) (fl:Flat s) (h:EVL (brw Γ i r xs) tb o s):EVL Γ tb o s:=by
 intro C F σ H Q b S e k
 refine oq23 (S.borrow hi) fun p vs h1 h2 S'=>?_
 refine h C _ σ H Q b S' e fun v ws F' H' x1 hv r1=>?_
 refine oq02 (dD h1 h2 x1) fun x2 h3=>?_
 exact k v ws _ H' x2 hv (Paired.imp2 (fun _ _ z=>fl h3 trivial z) r1)
theorem o7 {φ:Addr→Prop} {xs:List α} {t:TT} {o:Option Bool} (i:Nat) (hi:Γ[i]?=some (.ol r φ xs)) (h:ET (brw Γ i r xs) t o):ET Γ t o:=by
 intro C F σ H Q b S e k
 refine oq23 (S.borrow hi) fun p vs h1 h2 S'=>?_
 refine h C _ σ H Q b S' e fun F' H' x1=>?_
 refine oq02 (dD h1 h2 x1) fun x2 h3=>?_
 exact k _ H' x2
theorem et_borD {φ:Addr→Prop} {kvs:List (Int × α)} {t:TT} {o:Option Bool} (i:Nat) (hi:Γ[i]?=some (.od r φ kvs)) (h:ET (brwD Γ i r kvs) t o):ET Γ t o:=by
 intro C F σ H Q b S e k
 refine oq23 (S.borrowD hi) fun p vs h1 h2 S'=>?_
 refine h C _ σ H Q b S' e fun F' H' x1=>?_
 refine oq02 (dD h1 h2 x1) fun x2 h3=>?_
 exact k _ H' x2
theorem bL {rl:Rp (List α)} {o:Option (List α)} (sq:Sq K rl r) (h:EV Γ ta o rl):IV Γ (iList K ta) o r:=fun C F σ H R xs S e k=>h C F σ H _ xs S e fun v F' H' x1 hv=>by
 refine oq23 (sq.get hv) fun p vs e2 h1 h2=>?_
 exact (oi13 p e2 ⟨vs,x1.sub.seq h1⟩ (k _ F' H' x1
  ⟨fun i H2 sb hi=>⟨vs,vs[i]'(by rw [h2.length]; exact hi),sb.seq h1,by simp⟩,fun H2 sb=>⟨vs,sb.seq h1,by rw [h2.length]; exact nz6 _⟩,fun i H2 x H3 F1 sb hi ⟨e3,y⟩ s1 s2=>by
    subst e3
    obtain ⟨w,g1,g2⟩:=cq h2 (List.getElem?_eq_getElem hi)
    have ex:x=w:=Option.some.inj ((y vs (sb.seq h1)).symm.trans g1)
    subst ex
    exact (oi23 F1 (xs[i]) (List.getElem?_eq_getElem hi) (Ext.refl s2) (r.mono s1 g2))⟩))
theorem gl {F:Hp} {n:Nat} {f:Nat→Int} {J:It} (hj:J=⟨fun i _=>i<n,fun i H x H'=>H'=H∧x=.int (f i),fun i _=>n≤i⟩):Walks J F rInt ((List.range n).map f):=by
 subst hj
 refine ⟨fun i H _ hi=>by simpa using hi,fun H _=>by simp,fun i H2 x H3 F1 sb hi ⟨e3,y⟩ s1 s2=>?_⟩
 subst e3 y
 have hi':i<n:=by simpa using hi
 exact (oi23 F1 (f i) (by simp [hi']) (Ext.refl s2) rfl)
theorem iv_rng1 (h:EV Γ ta oi rInt):IV Γ (iRng1 (aK ta tNil)) (oi.bind fun j=>Pu.rng1 j) rInt:=by
 intro C F σ H R xs S e k
 refine oq12 (a9 e) fun j e1 e=>?_
 unfold Pu.rng1 at e
 split at e
 ·rename_i hb
  cases e
  refine h C F σ H _ j S e1 fun v F' H' x1 r1=>⟨j,by rw [r1],hb.1,hb.2,k _ F' H' x1 ?_⟩
  refine gl (f:=fun i=>(i:Int)) ?_
  unfold Itr
  simp
 ·cases e
theorem iR {oj:Option Int} (h:EV Γ ta oi rInt) (h':EV Γ tb oj rInt):IV Γ (iRng2 (aK ta (aK tb tNil))) (oi.bind fun i=>oj.bind fun j=>Pu.rng2 i j) rInt:=by
 intro C F σ H R xs S e k
 refine oq12 (a9 e) fun i e1 e=>?_
 refine oq12 (a9 e) fun j e2 e=>?_
 unfold Pu.rng2 at e
 split at e
 ·rename_i hb
  cases e
  refine EV.two (q:=fun x y H2=>∃ i j:Int,[x,y]=[.int i,.int j]∧(-(2 ^ 62)≤i∧i<2 ^ 62∧-(2 ^ 62)≤j∧j<2 ^ 62)∧R (Itr i (j - i).toNat) H2) h h' S e1 e2 fun x y F' H' x1 r1 r2=>(oi23 i j (by rw [r1,r2]) hb (k _ F' H' x1 ?_))
  exact gl (f:=fun k=>i+(k:Int)) rfl
 ·cases e
theorem iv_rng3 {oj ok:Option Int} (h:EV Γ ta oi rInt) (h':EV Γ tb oj rInt) (h'':EV Γ tc ok rInt):IV Γ (iRng3 (aK ta (aK tb (aK tc tNil)))) (oi.bind fun i=>oj.bind fun j=>ok.bind fun c=>Pu.rng3 i j c) rInt:=by
 intro C F σ H R xs S e k
 refine oq12 (a9 e) fun i e1 e=>?_
 refine oq12 (a9 e) fun j e2 e=>?_
 refine oq12 (a9 e) fun c e3 e=>?_
 unfold Pu.rng3 at e
 split at e
 ·rename_i hb
  cases e
  refine EV.two (q:=fun x y H2=>tc σ H2 fun z H3=>∃ i j c:Int,[x,y,z]=[.int i,.int j,.int c]∧(-(2 ^ 61)≤i∧i<2 ^ 61∧-(2 ^ 61)≤j∧j<2 ^ 61∧0<c∧c<1073741824)∧R (Itq i c (rcnt i j c)) H3) h h' S e1 e2 fun x y F' H' x1 r1 r2=>?_
  refine h'' C F' σ H' _ c (S.grow x1) e3 fun z F2 H2 x2 r3=>(oi33 i j c (by rw [r1,r2,r3]) hb (k _ F2 H2 (x1.trans x2) ?_))
  exact gl (f:=fun k=>i+(k:Int) * c) rfl
 ·cases e
theorem lF {rl:Rp (List α)} {o:Option (List α)} (sq:Sq K rl r) (h:EV Γ ta o rl):IV Γ (iEnum K (aK ta tNil)) (o.bind fun xs=>some (Pu.enum xs)) (rT2 rInt r):=by
 intro C F σ H R ys S e k
 refine oq12 (a9 e) fun xs e1 e=>?_
 cases e
 refine h C F σ H _ xs S e1 fun v F' H' x1 hv=>?_
 refine oq23 (sq.get hv) fun p vs e2 h1 h2=>?_
 refine ⟨p,by rw [e2],⟨vs,x1.sub.seq h1⟩,k _ F' H' x1 ?_⟩
 have len:(Pu.enum xs).length=vs.length:=by unfold Pu.enum; simp [h2.length]
 refine ⟨fun i H2 sb hi=>⟨vs,vs[i]'(by rw [← len]; exact hi),sb.seq h1,by simp⟩,fun H2 sb=>⟨vs,sb.seq h1,by rw [len]; exact nz6 _⟩,fun i H2 x H3 F1 sb hi y s1 s2=>?_⟩
 refine oq24 y fun t z e4 ht e5 hz=>?_
 subst e4 e5
 have hi':i<xs.length:=by rw [← h2.length,← len]; exact hi
 obtain ⟨w,g1,g2⟩:=cq h2 (List.getElem?_eq_getElem hi')
 have ex:z=w:=Option.some.inj ((hz vs (sb.seq h1)).symm.trans g1)
 subst ex
 refine ⟨_,((i:Int),xs[i]),?_,Ext.new s2 ht,t,_,_,rfl,af,rfl,r.mono (s1.trans (aC (s2.free ht))) g2⟩
 unfold Pu.enum
 rw [List.getElem?_map,List.getElem?_zipIdx,List.getElem?_eq_getElem hi']
 simp
noncomputable def GV (Γ:List Slot) (m:Nat) (g:TG) (r:Rp α) (Γt:α→List Slot):Prop:=∀ C F σ H v x k,SR C F Γ σ H→r.rel F v x→(∀ σ',SR C F (Γt x) σ' H→((∀ j,j<m→σ[j]?=some none)→Wk σ σ')→k σ' H)→g v σ H k
theorem Wk.refl:∀ {a:St},Wk a a
 | []=>trivial
 | none :: r=>Wk.refl (a:=r)
 | some _ :: r=>⟨rfl,Wk.refl (a:=r)⟩
theorem Wk.set:∀ {a b:St} {i:Nat} {v:V},Wk a b→a[i]?=some none→Wk a (b.set i (some v))
 | [],[],_,_,_,e=>by simp at e
 | none :: r,o :: t,0,v,h,e=>h
 | none :: r,o :: t,i+1,v,h,e=>Wk.set (a:=r) (b:=t) (i:=i) h (by simpa using e)
 | some x :: r,o :: t,0,v,h,e=>by simp at e
 | some x :: r,o :: t,i+1,v,h,e=>⟨h.1,Wk.set (a:=r) (b:=t) (i:=i) h.2 (by simpa using e)⟩
 | [],_ :: _,_,_,h,_=>False.elim h
 | none :: _,[],_,_,h,_=>False.elim h
 | some _ :: _,[],_,_,h,_=>False.elim h
theorem b7 (i:Nat):GV Γ (i+1) (d4 i) r (fun x=>Γ.set i (.fr r x)):=fun C F σ H v x k S h q=>q _ (S.setF i h) fun z=>Wk.refl.set (z i (by exact Nat.lt_succ_self _))
theorem gG (i j:Nat):GV Γ (i+j+1) (gTup K 2 (kg (d4 i) (kg (d4 j) gNil))) (rT2 r s) (fun x=>(Γ.set i (.fr r x.1)).set j (.fr s x.2)):=fun C F σ H v x k S ⟨p,a,b,e,h1,h2,h3⟩ q =>
 ⟨p,_,e,SqT.of (S.sub _ _ h1),rfl,a,[b],rfl,b,[],rfl,rfl,q _ ((S.setF i h2).setF j h3) fun z=>(Wk.refl.set (z i (by exact Nat.lt_succ_of_le (Nat.le_add_right _ _)))).set (z j (by exact Nat.lt_succ_of_le (Nat.le_add_left _ _)))⟩
theorem gv_trip (i j l:Nat):GV Γ (i+j+l+1) (gTup K 3 (kg (d4 i) (kg (d4 j) (kg (d4 l) gNil)))) (rT3 r s q) (fun x=>((Γ.set i (.fr r x.1)).set j (.fr s x.2.1)).set l (.fr q x.2.2)):=fun C F σ H v x k S ⟨p,a,b,c,e,h1,h2,h3,h4⟩ q =>
 ⟨p,_,e,SqT.of (S.sub _ _ h1),rfl,a,[b,c],rfl,b,[c],rfl,c,[],rfl,rfl,q _ (((S.setF i h2).setF j h3).setF l h4) fun z=>((Wk.refl.set (z i (by omega))).set (z j (by omega))).set (z l (by exact Nat.lt_succ_of_le (Nat.le_add_left _ _)))⟩
noncomputable def csl (loc:List Str) (cap:List (Str × Nat)) (Γ:List Slot):List Slot:=loc.map (fun _=>Slot.any)++cap.map fun p=>(Γ[p.2]?).getD .any
theorem SR.comp {C:Fc} {F H:Hp} {σ:St} {loc:List Str} {cap:List (Str × Nat)} (S:SR C F Γ σ H) (hc:(cap.map (·.2)).Nodup):SR C F (csl loc cap Γ) (st0 loc cap σ) H:=by
 have get:∀ (i:Nat) s,(csl loc cap Γ)[i]?=some s→s=.any∨∃ p,loc.length≤i∧cap[i - loc.length]?=some p∧Γ[p.2]?=some s:=fun i s h=>by
  unfold csl at h
  by_cases hi:i<loc.length
  ·rw [List.getElem?_append_left (by simpa using hi),List.getElem?_map] at h
   cases q:loc[i]? with
   | none=>rw [q] at h; cases h
   | some _=>rw [q] at h; cases h; exact .inl rfl
  ·rw [List.getElem?_append_right (by simp; exact Nat.not_lt.mp hi),List.length_map,List.getElem?_map] at h
   cases q:cap[i - loc.length]? with
   | none=>rw [q] at h; cases h
   | some p =>
    rw [q] at h
    have h:(Γ[p.2]?).getD .any=s:=by simpa using h
    cases q2:Γ[p.2]? with
    | none=>rw [q2] at h; exact .inl h.symm
    | some s'=>rw [q2] at h; cases h; exact .inr (oi13 p (by exact Nat.not_lt.mp hi) rfl q2)
 have stg:∀ (i:Nat) p,loc.length≤i→cap[i - loc.length]?=some p→(st0 loc cap σ)[i]?=some (σ[p.2]?).join:=fun i p hi h=>by
  unfold st0
  rw [List.getElem?_append_right (by simp; exact hi),List.length_map,List.getElem?_map,h]
  rfl
 refine ⟨S.toFr,by unfold st0 csl; simp,fun i s h=>?_,fun i j s t p h1 h2 o1 o2 e1 e2=>?_⟩
 ·rcases get i s h with rfl | ⟨p,hi,h1,h2⟩
  ·have:i<(st0 loc cap σ).length:=by
    have:=(List.getElem?_eq_some_iff.mp h).1
    unfold csl at this; unfold st0
    simpa using this
   exact (oi12 _ (List.getElem?_eq_getElem this) trivial)
  ·refine oq12 (S.at_ _ s h2) fun o h3 h4=>?_
   exact (oi12 o (by rw [stg i p hi h1,h3]; rfl) h4)
 ·rcases get i s h1 with rfl | ⟨p1,hi1,g1,g2⟩
  ·cases o1
  rcases get j t h2 with rfl | ⟨p2,hi2,g3,g4⟩
  ·cases o2
  have e3:σ[p1.2]?=some (some (.ref p)):=by
   refine oq12 (S.at_ _ s g2) fun o h3 _=>?_
   rw [stg i p1 hi1 g1,h3] at e1
   rw [h3]; exact e1
  have e4:σ[p2.2]?=some (some (.ref p)):=by
   refine oq12 (S.at_ _ t g4) fun o h3 _=>?_
   rw [stg j p2 hi2 g3,h3] at e2
   rw [h3]; exact e2
  have e5:=S.inj _ _ s t p g2 g4 o1 o2 e3 e4
  have a1:(cap.map (·.2))[i - loc.length]?=some p1.2:=by rw [List.getElem?_map,g1]; rfl
  have a2:(cap.map (·.2))[j - loc.length]?=some p1.2:=by rw [List.getElem?_map,g3,e5]; rfl
  have l1:=(List.getElem?_eq_some_iff.mp a1).1
  have l2:=(List.getElem?_eq_some_iff.mp a2).1
  have:i - loc.length=j - loc.length:=(List.getElem?_inj l1 hc).mp (a1.trans a2.symm)
  omega
end
end L2
namespace Pu
variable {β α:Type} {t:β→Option Bool} {f:β→Option α}
theorem fM:∀ (l m:List β),bN t f (l++m)=(bN t f l).bind fun a=>(bN t f m).bind fun b=>some (a++b)
 | [],m=>by cases h:bN t f m <;> simp [bN,h]
 | x :: l,m=>by
  rw [List.cons_append,bN,bN,fM l m]
  cases t x with
  | none=>rfl
  | some b =>
   cases b with
   | false=>simp
   | true =>
    simp
    cases f x with
    | none=>rfl
    | some a =>
     cases h1:bN t f l with
     | none=>rfl
     | some as=>cases h2:bN t f m <;> simp
theorem hZ:∀ {l:List β} {as:List α},bN t f l=some as→as.length≤l.length
 | [],as,h=>by cases h; simp
 | x :: l,as,h=>by
  rw [bN] at h
  refine oq12 (L2.a9 h) fun b _ h=>?_
  cases b with
  | false=>rw [if_neg Bool.false_ne_true] at h; have:=hZ h; simp; exact nz5 (nz2 this (Nat.lt_succ_self _))
  | true =>
   rw [if_pos rfl] at h
   refine oq12 (L2.a9 h) fun a _ h=>?_
   refine oq12 (L2.a9 h) fun as' h1 h=>?_
   cases h
   have:=hZ h1
   simp; exact this
theorem compF_at {xs:List β} {as:List α} (h:bN t f xs=some as) {i:Nat} {x:β} (hx:xs[i]?=some x):∃ p b,bN t f (xs.take i)=some p∧t x=some b∧(b=true→∃ c,f x=some c∧bN t f (xs.take (i+1))=some (p++[c]))∧(b=false→bN t f (xs.take (i+1))=some p):=by
 have hi:=(List.getElem?_eq_some_iff.mp hx).1
 have ex:=(List.getElem?_eq_some_iff.mp hx).2
 have e:xs=xs.take i++(x :: xs.drop (i+1)):=by rw [← ex,List.getElem_cons_drop,List.take_append_drop]
 rw [e,fM] at h
 refine oq12 (L2.a9 h) fun p h1 h=>?_
 refine oq12 (L2.a9 h) fun w h2 _=>?_
 rw [bN] at h2
 refine oq12 (L2.a9 h2) fun b h3 h2=>?_
 have et:xs.take (i+1)=xs.take i++[x]:=by rw [← ex,List.take_append_getElem]
 refine (oi24 p b h1 h3 (fun hb=>?_) (fun hb=>?_))
 ·subst hb
  rw [if_pos rfl] at h2
  refine oq12 (L2.a9 h2) fun c h4 _=>?_
  exact (oi12 c h4 (by rw [et,fM,h1]; simp [bN,h3,h4]))
 ·subst hb
  rw [et,fM,h1]; simp [bN,h3]
theorem mN:∀ (xs:List β),kB f xs=bN (fun _=>some true) f xs
 | []=>rfl
 | x :: xs=>by rw [kB,bN,mN xs]; simp
end Pu
namespace L2
open PySem PySem.Spec PyProof.Rows
variable [Kon]
section
variable {Γ:List Slot} {α β γ δ τ S T R:Type} {r:Rp α} {rb:Rp β} {K:PySem.W.Frag}
theorem compIf_at {J:It} {loc:List Str} {cap:List (Str × Nat)} {g:TG} {tt:TT} {te:TE} {t:β→Option Bool} {f:β→Option α} {m:Nat} {Γt:β→List Slot} {C:Fc} {F' H1:Hp} {σ:St} {Q:VK} {xs:List β} {as:List α} (S:SR C F' Γ σ H1) (W:Walks J F' rb xs) (hc:(cap.map (·.2)).Nodup) (hm:m≤loc.length) (hg:GV (csl loc cap Γ) m g rb Γt)
  (ht:∀ x,ET (Γt x) tt (t x)) (he:∀ x,EV (Γt x) te (f x) r) (e:Pu.f7 t f xs=some as) (k:∀ p vs F2 H2,Ext F' H1 F2 H2→H2 p=none→Paired (r.rel F2) vs as→Q (.ref p) (upd H2 p (.lst vs))) (D:Addr) (hD:H1 D=none):cGoal g tt te loc cap σ D Q J H1:=by
 unfold Pu.f7 at e
 split at e
 case isFalse=>cases e
 rename_i hl
 have sn:∀ j,j<m→(st0 loc cap σ)[j]?=some none:=fun j hj=>by
  unfold st0
  rw [List.getElem?_append_left (by simp; exact nz1 hj hm),List.getElem?_map,List.getElem?_eq_getElem (by exact nz1 hj hm)]
  rfl
 refine comp_it (n:=xs.length) (fun i ys H2=>∃ F1 G p,H2=upd G D (.lst ys)∧G D=none∧Ext F' H1 F1 G∧Pu.bN t f (xs.take i)=some p∧Paired (r.rel F1) ys p) (oi35 F' H1 ([]) rfl hD (Ext.refl S.sub) (by rw [List.take_zero]; rfl) .nil) ?_ ?_ ?_ ?_ ?_
 ·intro i ys H2 _ zq; refine oq32 zq fun F1 G p eq3_ _=>?_; subst eq3_; exact af
 ·intro i ys H2 hi zq; refine oq34 zq fun F1 G p eq3_ hG x2 _=>?_; subst eq3_; exact W.go i _ (x2.ff.trans (x2.sub.trans (aC hG))) hi
 ·intro ys H2 zq; refine oq34 zq fun F1 G p eq3_ hG x2 _=>?_; subst eq3_; exact W.stop _ (x2.ff.trans (x2.sub.trans (aC hG)))
 ·rintro i ys H2 x H' hi ⟨F1,G,p,rfl,hG,x2,hp,pr⟩ y
  have sFH:=x2.sub.trans (aC (o:=.lst ys) hG)
  refine oq23 (W.yld i _ x H' F1 (x2.ff.trans sFH) hi y x2.ff sFH) fun F2 a ha x3 ra=>?_
  have F1D:F1 D=none:=x2.sub.free hG
  have noD:∀ {A B:Hp},Ext F1 (upd G D (.lst ys)) A B→A D=none:=fun {A B} x=>by
   cases q:A D with
   | none=>rfl
   | some o =>
    rcases x.nw D o q with z | z
    ·rw [F1D] at z; cases z
    ·rw [af] at z; cases z
  have S3:SR C F2 (csl loc cap Γ) (st0 loc cap σ) H':=((((S.grow x2).comp hc).grow (Ext.newH x2.sub hG)).grow x3)
  have fin:∀ {A B:Hp} {zs:List V} {pp:List α},Ext F1 (upd G D (.lst ys)) A B→Pu.bN t f (xs.take (i+1))=some pp→Paired (r.rel A) zs pp→∃ F1 G p,upd B D (.lst zs)=upd G D (.lst zs)∧G D=none∧Ext F' H1 F1 G∧Pu.bN t f (xs.take (i+1))=some p∧Paired (r.rel F1) zs p:=fun {A B zs pp} x hpp pz=>by
   refine (oi35 A (del B D) pp ?_ cR ⟨ls (x2.hh.trans ((lq (o:=.lst ys) hG trivial).trans x.hh)) hD (x.hh.kp D (.lst ys) trivial af) trivial,x2.ff.trans x.ff,fun b o h=>?_,fun b o h=>?_,fun z=>x.nt (x2.nt z)⟩ hpp pz)
   ·funext b; unfold upd del; split <;> rfl
   ·rw [bf (ah h (noD x))]; exact x.sub b o h
   ·rcases x.nw b o h with z | z
    ·exact x2.nw b o z
    ·have n:b≠D:=by rintro rfl; rw [af] at z; cases z
     rw [ac n] at z; exact .inr (x2.hh.free z)
  refine oq24 (Pu.compF_at e ha) fun p' b h1 h2 h3 h4=>?_
  rw [hp] at h1
  cases h1
  refine hg C F2 _ H' x a _ S3 ra fun σ' S4 wk=>⟨wk sn,?_⟩
  refine ht a C F2 σ' H' _ b S4 h2 fun F3 H3 x4=>?_
  cases b with
  | false =>
   have hB:H3 D=some (.lst ys):=(x3.trans x4).hh.kp D (.lst ys) trivial af
   refine oq35 (fin (x3.trans x4) (h4 rfl) (Paired.imp2 (fun _ _ z=>r.mono (x3.ff.trans x4.ff) z) pr)) fun F5 G5 p5 q1 q2 q3 q4 q5=>?_
   refine ⟨F5,G5,p5,?_,q2,q3,q4,q5⟩
   rw [← q1]
   funext b; unfold upd; split
   ·rename_i z; rw [z]; exact hB
   ·rfl
  | true =>
   refine oq12 (h3 rfl) fun c h5 h6=>?_
   refine he a C F3 σ' H3 _ c (S4.grow x4) h5 fun v F4 H4 x5 rv=>?_
   have x6:=(x3.trans x4).trans x5
   refine (oi03 (x6.hh.kp D (.lst ys) trivial af) ?_ (fin x6 h6 (Paired.app (Paired.imp2 (fun _ _ z=>r.mono x6.ff z) pr) (.cons rv .nil))))
   have:=Pu.hZ hp
   rw [pr.length,sizeLine_eq]
   rw [List.length_take] at this
   omega
 ·intro ys H2 zq; refine oq35 zq fun F1 G p eq3_ hG x2 hp pr=>?_; subst eq3_
  rw [List.take_length,e] at hp
  cases hp
  exact k D ys F1 G x2 hG pr
theorem jv {wi:TI} {loc:List Str} {cap:List (Str × Nat)} {g:TG} {tt:TT} {te:TE} {ox:Option (List β)} {t:β→Option Bool} {f:β→Option α} {m:Nat} {Γt:β→List Slot} (hi:IV Γ wi ox rb) (hc:(cap.map (·.2)).Nodup) (hm:m≤loc.length) (hg:GV (csl loc cap Γ) m g rb Γt)
  (ht:∀ x,ET (Γt x) tt (t x)) (he:∀ x,EV (Γt x) te (f x) r):EVL Γ (tComp wi loc cap g tt te) (ox.bind fun xs=>Pu.f7 t f xs) r:=by
 intro C F σ H Q as S e k
 refine oq12 (a9 e) fun xs e1 e=>?_
 exact hi C F σ H _ xs S e1 fun J F' H1 x1 W D hD=>compIf_at (S.grow x1) W hc hm hg ht he e (fun p vs F2 H2 x2=>k p vs F2 H2 (x1.trans x2)) D hD
theorem cj {wi:TI} {loc:List Str} {cap:List (Str × Nat)} {g:TG} {te:TE} {ox:Option (List β)} {f:β→Option α} {m:Nat} {Γt:β→List Slot} (hi:IV Γ wi ox rb) (hc:(cap.map (·.2)).Nodup) (hm:m≤loc.length) (hg:GV (csl loc cap Γ) m g rb Γt)
  (he:∀ x,EV (Γt x) te (f x) r):EVL Γ (tComp wi loc cap g tTrue te) (ox.bind fun xs=>Pu.comp f xs) r:=by
 have h:=jv (t:=fun _=>some true) hi hc hm hg (fun _=>et_true) he
 have e:(fun xs=>Pu.f7 (fun _=>some true) f xs)=fun xs=>Pu.comp f xs:=by
  funext xs; unfold Pu.f7 Pu.comp; rw [Pu.mN]
 rw [e] at h; exact h
end
end L2
namespace L2
open PySem PySem.Spec PyProof.Rows
variable [Kon]
section
variable {α β γ δ τ S T R:Type}
noncomputable def BV (Γ:List Slot) (t:TS) (o:Option T) (fin:Fc→T→Ends→Prop):Prop:=∀ C F σ H D x,SR C F Γ σ H→o=some x→fin C x D→t D σ H
noncomputable def finV (r:Rp α):Fc→α→Ends→Prop:=fun C a D=>∀ v F H,Fr C F H→r.rel F v a→D.rt v H
noncomputable def finL (r:Rp α):Fc→List α→Ends→Prop:=fun C xs D=>∀ p vs F H,Fr C F H→H p=none→Paired (r.rel F) vs xs→D.rt (.ref p) (upd H p (.lst vs))
noncomputable def finD (r:Rp α):Fc→List (Int × α)→Ends→Prop:=fun C xs D=>∀ p vs F H,Fr C F H→H p=none→Paired (dRel r F) vs xs→D.rt (.ref p) (upd H p (.dK vs))
theorem tbg_del {H:Hp} {p:Addr} {u:HO} (g:TbG H) (h:H p=some u) (a:Own u):TbG (del H p):=by
 have nt:∀ {c:Addr} {o:HO},H c=some o→¬ Own o→c≠p:=fun {c o} q n z=>by subst z; rw [h] at q; cases q; exact n a
 refine ⟨fun P hP=>?_,fun P ps q=>?_⟩
 ·refine oq11 (g.there P hP) fun ps e1=>?_
  exact ⟨ps,by rw [bf (nt e1 fun z=>z)]; exact e1⟩
 ·refine oq02 (cS q) fun n q=>?_
  refine oq02 (g.good P ps q) fun g1 g2=>?_
  exact ⟨g1,fun pos cv hc=>by refine oq12 (g2 pos cv hc) fun c e3 e4=>?_; exact (oi12 c e3 (by rw [bf (nt e4 fun z=>z)]; exact e4))⟩
structure RFin (rf:Fc→R→Ends→Prop):Prop where
 lo:∀ {C F x D},Same C.L F→rf C x D→rf { C with L:=F } x D
 en:∀ {C x D nx bk ct},rf C x D→rf C x { D with nx:=nx,bk:=bk,ct:=ct }
theorem rfV {r:Rp α}:RFin (finV r):=⟨fun e h v F H f q=>h v F H (f.raise e) q,fun h=>h⟩
noncomputable def finS (Γf:S→List Slot):Fc→S→Ends→Prop:=fun C s D=>∀ F σ H,SR C F (Γf s) σ H→D.nx σ H∧D.ct σ H
noncomputable def finC (Γf:S→List Slot) (rf:Fc→R→Ends→Prop):Fc→Pu.Ctl S R→Ends→Prop:=fun C c D=>match c with
 | .nx s=>∀ F σ H,SR C F (Γf s) σ H→D.nx σ H∧D.ct σ H
 | .bk s=>∀ F σ H,SR C F (Γf s) σ H→D.bk σ H
 | .rt r=>rf C r D
noncomputable def finJ (Γj:S→List Slot):Fc→S→Ends→Prop:=fun C s D=>∀ F σ H,SR C F (Γj s) σ H→D.nx σ H
end
section
variable {Γ:List Slot} {α β γ δ τ S T R:Type} {r:Rp α} {s:Rp β} {ta tb tc td te:TE} {oa:Option α} {ob:Option β} {K:PySem.W.Frag} {oi:Option Int} {u t t':TS} {o o':Option T} {fin:Fc→T→Ends→Prop}
theorem BV.cast (h:BV Γ t o fin) (e:o'=o):BV Γ t o' fin:=e ▸ h
theorem b8 (h:BV Γ (tSeq t j0) o fin):BV Γ t o fin:=h
theorem mO (h:BV Γ (tSeq t (tSeq t' u)) o fin):BV Γ (tSeq (tSeq t t') u) o fin:=h
theorem aH (h:BV Γ u o fin):BV Γ (tSeq j0 u) o fin:=h
theorem aD {f:α→Option T} (i:Nat) (he:EV Γ te oa r) (h:∀ a,BV (Γ.set i (.fr r a)) u (f a) fin):BV Γ (tSeq (tAsg te (d4 i)) u) (oa.bind f) fin:=by
 intro C F σ H D x S e k
 refine oq12 (a9 e) fun a e1 e=>?_
 exact he C F σ H _ a S e1 fun v F' H' x1 r1=>h a C F' _ H' D x ((S.grow x1).setF i r1) e k
theorem d7 {ol:Option (List α)} {f:List α→Option T} (i:Nat) (he:EVL Γ te ol r) (h:∀ a,BV (Γ.set i (.ol r tt_ a)) u (f a) fin):BV Γ (tSeq (tAsg te (d4 i)) u) (ol.bind f) fin:=by
 intro C F σ H D x S e k
 refine oq12 (a9 e) fun a e1 e=>?_
 exact he C F σ H _ a S e1 fun p vs F' H' x1 hp r1=>h a C F' _ _ D x ((S.grow x1).setO i hp rfl ⟨p,vs,rfl,trivial,(S.grow x1).keep.free hp,x1.sub.free hp,af,r1⟩) e k
theorem bv_setD {ol:Option (List (Int × α))} {f:List (Int × α)→Option T} (i:Nat) (he:EVD Γ te ol r) (h:∀ a,BV (Γ.set i (.od r tt_ a)) u (f a) fin):BV Γ (tSeq (tAsg te (d4 i)) u) (ol.bind f) fin:=by
 intro C F σ H D x S e k
 refine oq12 (a9 e) fun a e1 e=>?_
 exact he C F σ H _ a S e1 fun p vs F' H' x1 hp r1=>h a C F' _ _ D x ((S.grow x1).setO i hp rfl ⟨p,vs,rfl,trivial,(S.grow x1).keep.free hp,x1.sub.free hp,af,r1⟩) e k
theorem bv_asg {g:TG} {m:Nat} {Γt:α→List Slot} {f:α→Option T} (he:EV Γ te oa r) (hg:GV Γ m g r Γt) (h:∀ a,BV (Γt a) u (f a) fin):BV Γ (tSeq (tAsg te g) u) (oa.bind f) fin:=by
 intro C F σ H D x S e k
 refine oq12 (a9 e) fun a e1 e=>?_
 exact he C F σ H _ a S e1 fun v F' H' x1 r1=>hg C F' σ H' v a _ (S.grow x1) r1 fun σ' S' _=>h a C F' σ' H' D x S' e k
theorem bG {tt:TT} {oc:Option Bool} (hc:ET Γ tt oc) (h1:BV Γ (tSeq t u) o fin) (h2:BV Γ (tSeq t' u) o' fin):BV Γ (tSeq (tIfS tt t t') u) (oc.bind fun b=>if b=true then o else o') fin:=by
 intro C F σ H D x S e k
 refine oq12 (a9 e) fun b e1 e=>?_
 refine hc C F σ H _ b S e1 fun F' H' x1=>?_
 cases b with
 | true=>exact h1 C F' σ H' D x (S.grow x1) e k
 | false=>exact h2 C F' σ H' D x (S.grow x1) e k
theorem bv_join {Γj:S→List Slot} {oj:Option S} {f:S→Option T} (h1:BV Γ t oj (finJ Γj)) (h:∀ s,BV (Γj s) u (f s) fin):BV Γ (tSeq t u) (oj.bind f) fin:=by
 intro C F σ H D x S e k
 refine oq12 (a9 e) fun s e1 e=>?_
 exact h1 C F σ H _ s S e1 fun F' σ' H' S'=>h s C F' σ' H' D x S' e k
theorem gH {Γj:S→List Slot} (st:S) (hs:SubL Γ (Γj st)):BV Γ j0 (some st) (finJ Γj):=fun C F σ H D x S e k=>by
 cases e
 refine oq12 (S.weak hs) fun F' _ S'=>?_
 exact k F' σ H S'
theorem aE (he:EV Γ te oa r):BV Γ (tRet te) oa (finV r):=fun C F σ H D x S e k=>he C F σ H _ x S e fun v F' H' x1 r1=>k v F' H' (S.toFr.grow x1) r1
theorem cE {ol:Option (List α)} (he:EVL Γ te ol r):BV Γ (tRet te) ol (finL r):=fun C F σ H D x S e k=>he C F σ H _ x S e fun p vs F' H' x1 hp r1=>k p vs F' H' (S.toFr.grow x1) hp r1
theorem gJ {φ:Addr→Prop} {xs:List α} (i:Nat) (hi:Γ[i]?=some (.ol r φ xs)):BV Γ (tRet (tVar i)) (some xs) (finL r):=fun C F σ H D x S e k=>by
 cases e
 refine oq12 (S.at_ i _ hi) fun o h1 zz=>oq26 zz fun p vs eq4_ h2 h3 h4 h5 h6=>?_; subst eq4_
 refine ⟨.ref p,h1,?_⟩
 have eH:H=upd (del H p) p (.lst vs):=by
  funext b; unfold upd del; split
  ·rename_i z; rw [z]; exact h5
  ·rfl
 rw [eH]
 have sd:Sm C.H0 (del H p):=ls S.keep h3 h5 trivial
 refine k p vs F (del H p) ⟨sd,S.low,fun b o h=>?_,S.base,S.nt,tbg_del S.tg h5 trivial⟩ cR h6
 rw [bf (ah h h4)]; exact S.sub b o h
theorem bv_retOD {φ:Addr→Prop} {xs:List (Int × α)} (i:Nat) (hi:Γ[i]?=some (.od r φ xs)):BV Γ (tRet (tVar i)) (some xs) (finD r):=fun C F σ H D x S e k=>by
 cases e
 refine oq12 (S.at_ i _ hi) fun o h1 zz=>oq26 zz fun p vs eq4_ h2 h3 h4 h5 h6=>?_; subst eq4_
 refine ⟨.ref p,h1,?_⟩
 have eH:H=upd (del H p) p (.dK vs):=by
  funext b; unfold upd del; split
  ·rename_i z; rw [z]; exact h5
  ·rfl
 rw [eH]
 have sd:Sm C.H0 (del H p):=ls S.keep h3 h5 trivial
 refine k p vs F (del H p) ⟨sd,S.low,fun b o h=>?_,S.base,S.nt,tbg_del S.tg h5 trivial⟩ cR h6
 rw [bf (ah h h4)]; exact S.sub b o h
theorem b9 (h:BV Γ (tRet te) o fin):BV Γ (tSeq (tRet te) u) o fin:=fun C F σ H D x S e k=>h C F σ H D x S e k
theorem dE {Γf:S→List Slot} {rf:Fc→R→Ends→Prop} {oR:Option R} (h:BV Γ (tRet te) oR rf):BV Γ (tRet te) (oR.bind fun a=>some (.rt a)) (finC Γf rf):=fun C F σ H D x S e k=>by
 refine oq12 (a9 e) fun a e1 e=>?_
 cases e
 exact h C F σ H D a S e1 k
theorem bA {Γf:S→List Slot} (st:S) (hs:SubL Γ (Γf st)):BV Γ j0 (some st) (finS Γf):=fun C F σ H D x S e k=>by
 cases e
 refine oq12 (S.weak hs) fun F' _ S'=>?_
 exact (k F' σ H S').1
theorem dW {Γf:S→List Slot} {rf:Fc→R→Ends→Prop} (st:S) (hs:SubL Γ (Γf st)):BV Γ j0 (some (.nx st)) (finC Γf rf):=fun C F σ H D x S e k=>by
 cases e
 refine oq12 (S.weak hs) fun F' _ S'=>?_
 exact (k F' σ H S').1
end
end L2
namespace Pu
variable {S R β:Type}
end Pu
namespace L2
open PySem PySem.Spec PyProof.Rows
variable [Kon]
section
variable {Γ:List Slot} {α β γ δ τ S T R:Type} {r:Rp α} {s:Rp β} {rb:Rp β} {ta tb tc td te:TE} {oa:Option α} {ob:Option β} {K:PySem.W.Frag} {oi:Option Int} {u t t' tl:TS} {o o':Option T} {fin:Fc→T→Ends→Prop}
theorem fN {wi:TI} {g:TG} {ox:Option (List β)} {Γf:S→List Slot} {Γt:S→β→List Slot} {m:Nat} {body:S→β→Option (Pu.Ctl S R)} {rf:Fc→R→Ends→Prop} {f:S→Option T} {e:R→T} (st:S) (hi:IV Γ wi ox rb) (hs:SubL Γ (Γf st)) (hg:∀ s,GV (Γf s) m g rb (Γt s))
  (hb:∀ s x,BV (Γt s x) tl (body s x) (finC Γf rf)) (hr:RFin rf) (he:∀ C x D,fin C (e x) D→rf C x D) (h:∀ s,BV (Γf s) u (f s) fin):BV Γ (tSeq (tFor wi g tl) u) (ox.bind fun xs=>Pu.andThen (Pu.forC body xs st) f e) fin:=by
 intro C F σ H D x S0 e0 k
 refine oq12 (a9 e0) fun xs e1 e0=>?_
 refine hi C F σ H _ xs S0 e1 fun J F' H1 x1 W=>?_
 refine oq12 ((S0.grow x1).weak hs) fun F2 f2 S2=>?_
 have L1:Same C.L F2:=S2.low
 refine ⟨fun i m σ H=>∃ F3 s',m=xs.length - i∧i≤xs.length∧SR { C with L:=F2 } F3 (Γf s') σ H∧Pu.andThen (Pu.forC body (xs.drop i) s') f e=some x,⟨xs.length,F2,st,by simp,Nat.zero_le _,S2.lower,by rw [List.drop_zero]; exact e0⟩,?_⟩
 intro i m σ H zq; refine oq24 zq fun F3 s' eq2_ hil S3 e3=>?_; subst eq2_
 by_cases hlt:i<xs.length
 ·refine .inr ⟨W.go i H (f2.trans (S3.low.trans S3.sub)) hlt,fun σ' H'=>∃ F3 s',i+1≤xs.length∧SR { C with L:=F2 } F3 (Γf s') σ' H'∧Pu.andThen (Pu.forC body (xs.drop (i+1)) s') f e=some x,
   fun σ' H' zq=>oq23 zq fun F3 s' h1 h2 h3=>⟨xs.length - (i+1),by omega,F3,s',rfl,h1,h2,h3⟩,fun v H' y=>?_⟩
  refine oq23 (W.yld i H v H' F3 (f2.trans (S3.low.trans S3.sub)) hlt y (f2.trans S3.low) S3.sub) fun F4 a ha x4 ra=>?_
  have ea:xs[i]=a:=(List.getElem?_eq_some_iff.mp ha).2
  rw [← List.getElem_cons_drop (h:=hlt),ea,Pu.forC] at e3
  unfold Pu.andThen at e3
  refine oq12 (a9 e3) fun c1 e4 e5=>?_
  refine oq12 (a9 e4) fun c e6 e7=>?_
  refine hg s' _ F4 σ H' v a _ (S3.grow x4) ra fun σ' S4 _=>?_
  refine hb s' a _ F4 σ' H' _ c S4 e6 ?_
  cases c with
  | nx s2=>exact fun F5 σ5 H5 S5=>⟨⟨F5,s2,hlt,S5,by unfold Pu.andThen; rw [show Pu.forC body (xs.drop (i+1)) s2=some c1 from e7]; exact e5⟩,⟨F5,s2,hlt,S5,by unfold Pu.andThen; rw [show Pu.forC body (xs.drop (i+1)) s2=some c1 from e7]; exact e5⟩⟩
  | bk s2 =>
   cases e7
   exact fun F5 σ5 H5 S5=>h s2 C F5 σ5 H5 D x (S5.raise L1) e5 k
  | rt r2 =>
   cases e7
   cases e5
   exact hr.en (hr.lo L1 (hr.en (nx:=u D) (bk:=D.bk) (ct:=D.ct) (he C r2 D k)))
 ·have ei:i=xs.length:=by exact Nat.le_antisymm hil (Nat.not_lt.mp hlt)
  subst ei
  rw [List.drop_length,Pu.forC] at e3
  exact .inl ⟨W.stop H (f2.trans (S3.low.trans S3.sub)),h s' C F3 σ H D x (S3.raise L1) e3 k⟩
theorem dF {wi:TI} {g:TG} {ox:Option (List β)} {Γf:S→List Slot} {Γt:S→β→List Slot} {m:Nat} {body:S→β→Option S} {f:S→Option T} (st:S) (hi:IV Γ wi ox rb) (hs:SubL Γ (Γf st)) (hg:∀ s,GV (Γf s) m g rb (Γt s))
  (hb:∀ s x,BV (Γt s x) tl (body s x) (finS Γf)) (h:∀ s,BV (Γf s) u (f s) fin):BV Γ (tSeq (tFor wi g tl) u) (ox.bind fun xs=>(Pu.forS body xs st).bind f) fin:=by
 intro C F σ H D x S0 e0 k
 refine oq12 (a9 e0) fun xs e1 e0=>?_
 refine hi C F σ H _ xs S0 e1 fun J F' H1 x1 W=>?_
 refine oq12 ((S0.grow x1).weak hs) fun F2 f2 S2=>?_
 have L1:Same C.L F2:=S2.low
 refine ⟨fun i m σ H=>∃ F3 s',m=xs.length - i∧i≤xs.length∧SR { C with L:=F2 } F3 (Γf s') σ H∧(Pu.forS body (xs.drop i) s').bind f=some x,⟨xs.length,F2,st,by simp,Nat.zero_le _,S2.lower,by rw [List.drop_zero]; exact e0⟩,?_⟩
 intro i m σ H zq; refine oq24 zq fun F3 s' eq2_ hil S3 e3=>?_; subst eq2_
 by_cases hlt:i<xs.length
 ·refine .inr ⟨W.go i H (f2.trans (S3.low.trans S3.sub)) hlt,fun σ' H'=>∃ F3 s',i+1≤xs.length∧SR { C with L:=F2 } F3 (Γf s') σ' H'∧(Pu.forS body (xs.drop (i+1)) s').bind f=some x,
   fun σ' H' zq=>oq23 zq fun F3 s' h1 h2 h3=>⟨xs.length - (i+1),by omega,F3,s',rfl,h1,h2,h3⟩,fun v H' y=>?_⟩
  refine oq23 (W.yld i H v H' F3 (f2.trans (S3.low.trans S3.sub)) hlt y (f2.trans S3.low) S3.sub) fun F4 a ha x4 ra=>?_
  have ea:xs[i]=a:=(List.getElem?_eq_some_iff.mp ha).2
  rw [← List.getElem_cons_drop (h:=hlt),ea,Pu.forS] at e3
  refine oq12 (a9 e3) fun c1 e4 e5=>?_
  refine oq12 (a9 e4) fun c e6 e7=>?_
  refine hg s' _ F4 σ H' v a _ (S3.grow x4) ra fun σ' S4 _=>?_
  refine hb s' a _ F4 σ' H' _ c S4 e6 ?_
  exact fun F5 σ5 H5 S5=>⟨⟨F5,c,hlt,S5,by rw [e7]; exact e5⟩,⟨F5,c,hlt,S5,by rw [e7]; exact e5⟩⟩
 ·have ei:i=xs.length:=by exact Nat.le_antisymm hil (Nat.not_lt.mp hlt)
  subst ei
  rw [List.drop_length,Pu.forS] at e3
  exact .inl ⟨W.stop H (f2.trans (S3.low.trans S3.sub)),h s' C F3 σ H D x (S3.raise L1) e3 k⟩
theorem lG {tt:TT} {Γf:S→List Slot} {tf:S→Option Bool} {body:S→Option S} {f:S→Option T} (n:Nat) (st:S) (hs:SubL Γ (Γf st)) (ht:∀ s,ET (Γf s) tt (tf s))
  (hb:∀ s,BV (Γf s) tl (body s) (finS Γf)) (h:∀ s,BV (Γf s) u (f s) fin):BV Γ (tSeq (tWhile tt tl) u) ((Pu.whS tf body n st).bind f) fin:=by
 intro C F σ H D x S0 e0 k
 refine oq12 (S0.weak hs) fun F2 f2 S2=>?_
 refine ⟨fun m σ H=>∃ F3 s',SR C F3 (Γf s') σ H∧(Pu.whS tf body m s').bind f=some x,⟨n,F2,st,S2,e0⟩,?_⟩
 intro m σ H zq; refine oq22 zq fun F3 s' S3 e3=>?_
 cases m with
 | zero=>exact absurd e3 (by simp [Pu.whS])
 | succ m =>
  rw [Pu.whS] at e3
  refine oq12 (a9 e3) fun c1 e4 e5=>?_
  refine oq12 (a9 e4) fun b e6 e7=>?_
  refine ht s' C F3 σ H _ b S3 e6 fun F4 H4 x4=>?_
  cases b with
  | false =>
   rw [if_neg Bool.false_ne_true] at e7 ⊢
   cases e7
   exact h s' C F4 σ H4 D x (S3.grow x4) e5 k
  | true =>
   rw [if_pos rfl] at e7 ⊢
   refine oq12 (a9 e7) fun c e8 e9=>?_
   refine ⟨fun σ' H'=>∃ F3 s',SR C F3 (Γf s') σ' H'∧(Pu.whS tf body m s').bind f=some x,fun σ' H' zq=>oq22 zq fun F3 s' h1 h2=>⟨m,by exact Nat.lt_succ_self _,F3,s',h1,h2⟩,hb s' C F4 σ H4 _ c (S3.grow x4) e8 ?_⟩
   exact fun F5 σ5 H5 S5=>⟨⟨F5,c,S5,by rw [e9]; exact e5⟩,⟨F5,c,S5,by rw [e9]; exact e5⟩⟩
section
variable {φ:Addr→Prop} {xs:List α} {kvs:List (Int × α)}
theorem dX {f:List α→Option T} (i:Nat) (hi:Γ[i]?=some (.ol r φ xs)) (he:EV Γ te oa r) (h:∀ ys,BV (Γ.set i (.ol r φ ys)) u (f ys) fin):BV Γ (tSeq (mo (tBM K "list" la (tVar i) (aK te tNil))) u) (oa.bind fun a=>(Pu.app xs a).bind f) fin:=by
 intro C F σ H D x S e k
 refine oq12 (a9 e) fun a e1 e=>?_
 refine oq12 (a9 e) fun ys e2 e=>?_
 refine oq12 (S.at_ i _ hi) fun o h1 zz=>oq26 zz fun p vs eq4_ h2 h3 h4 h5 h6=>?_; subst eq4_
 refine ⟨.ref p,h1,.inl ⟨rfl,vs,SqL.of h5⟩,he C F σ H _ a S e1 fun v F' H' x1 r1=>?_⟩
 have S':=S.grow x1
 refine oq12 (S'.at_ i _ hi) fun o' q1 zz=>oq26 zz fun p' vs' eq4_ q2 q3 q4 q5 q6=>?_; subst eq4_
 rw [h1] at q1
 cases q1
 unfold Pu.app at e2
 split at e2
 ·rename_i hl
  cases e2
  refine ⟨p,vs',v,rfl,rfl,q5,by rw [q6.length,sizeLine_eq]; exact hl,?_⟩
  exact h _ C F' σ _ D x (S'.chg hi rfl h1 q3 q4 rfl ⟨p,_,rfl,q2,q3,q4,af,Paired.app q6 (.cons r1 .nil)⟩) e k
 ·cases e2
theorem bv_pop0 {f:α→List α→Option T} (i j:Nat) (hi:Γ[i]?=some (.ol r φ xs)) (hij:i≠j) (h:∀ a ys,BV ((Γ.set i (.ol r φ ys)).set j (.fr r a)) u (f a ys) fin):BV Γ (tSeq (tAsg (tBM K "list" nU (tVar i) (aK (tC (.int 0)) tNil)) (d4 j)) u) (match xs with | []=>none | a :: ys=>f a ys) fin:=by
 intro C F σ H D x S e k
 refine oq12 (S.at_ i _ hi) fun o h1 zz=>oq26 zz fun p vs eq4_ h2 h3 h4 h5 h6=>?_; subst eq4_
 cases h6 with
 | nil=>cases e
 | @cons v a vs ys q6 q7 =>
  refine ⟨.ref p,h1,.inl ⟨rfl,_,SqL.of h5⟩,p,v :: vs,0,0,v,rfl,rfl,h5,by decide,by decide,?_,rfl,?_⟩
  ·unfold seqIndex?
   simp
  ·exact h a ys C F _ _ D x ((S.chg (s':=.ol r φ ys) hi rfl h1 h3 h4 rfl ⟨p,_,rfl,h2,h3,h4,af,q7⟩).setF j q6) e k
noncomputable def g8 (Γ:List Slot) (to:TE) (i:Nat):Prop:=∀ C F σ H Q v,SR C F Γ σ H→σ[i]?=some (some v)→Q v H→to σ H Q
theorem own_var (i:Nat):g8 Γ (tVar i) i:=fun _ _ _ _ _ v _ h q=>⟨v,h,q⟩
theorem bv_setAtG {to:TE} {f:List α→Option T} (i:Nat) (ho:g8 Γ to i) (hi:Γ[i]?=some (.ol r φ xs)) (hk:EV Γ tb oi rInt) (he:EV Γ te oa r) (h:∀ ys,BV (Γ.set i (.ol r φ ys)) u (f ys) fin) :
  BV Γ (tSeq (tAsg te (gSub to tb rSetL)) u) (oa.bind fun a=>oi.bind fun k=>(ixN xs.length k).bind fun j=>f (xs.set j a)) fin:=by
 intro C F σ H D x S e k
 refine oq12 (a9 e) fun a e1 e=>?_
 refine oq12 (a9 e) fun n e2 e=>?_
 refine oq12 (a9 e) fun j e3 e=>?_
 refine he C F σ H _ a S e1 fun v F' H' x1 r1=>?_
 refine oq12 (S.at_ i _ hi) fun o h1 _=>?_
 obtain ⟨p,rfl⟩:∃ p,o=some (.ref p):=by
  refine oq12 (S.at_ i _ hi) fun o' h1' zz=>oq22 zz fun p vs eq4_ _=>?_; subst eq4_
  rw [h1] at h1'
  exact ⟨p,Option.some.inj h1'⟩
 refine ho C F' σ H' _ (.ref p) (S.grow x1) h1 (hk C F' σ H' _ n (S.grow x1) e2 fun w F2 H2 x2 r2=>?_)
 have S':=(S.grow x1).grow x2
 refine oq12 (S'.at_ i _ hi) fun o' q1 zz=>oq26 zz fun p' vs' eq4_ q2 q3 q4 q5 q6=>?_; subst eq4_
 rw [h1] at q1
 cases q1
 refine ⟨p,vs',n,j,rfl,r2,q5,by rw [q6.length]; exact e3,?_⟩
 exact h _ C F2 σ _ D x (S'.chg hi rfl h1 q3 q4 rfl ⟨p,_,rfl,q2,q3,q4,af,Paired.setB (r.mono x2.ff r1) j q6⟩) e k
theorem bv_setAt {f:List α→Option T} (i:Nat) (hi:Γ[i]?=some (.ol r φ xs)) (hk:EV Γ tb oi rInt) (he:EV Γ te oa r) (h:∀ ys,BV (Γ.set i (.ol r φ ys)) u (f ys) fin) :
  BV Γ (tSeq (tAsg te (gSub (tVar i) tb rSetL)) u) (oa.bind fun a=>oi.bind fun k=>(ixN xs.length k).bind fun j=>f (xs.set j a)) fin:=bv_setAtG i (own_var i) hi hk he h
theorem bv_putG {to:TE} {f:List (Int × α)→Option T} (i:Nat) (ho:g8 Γ to i) (hi:Γ[i]?=some (.od r φ kvs)) (hk:EV Γ tb oi rInt) (he:EV Γ te oa r) (h:∀ ys,BV (Γ.set i (.od r φ ys)) u (f ys) fin) :
  BV Γ (tSeq (sDPut to tb te) u) (oa.bind fun a=>oi.bind fun k=>if kvs.length<16777216 then f (Pu.put kvs k a) else none) fin:=by
 intro C F σ H D x S e k
 refine oq12 (a9 e) fun a e1 e=>?_
 refine oq12 (a9 e) fun n e2 e=>?_
 split at e
 case isFalse=>cases e
 rename_i hl
 refine he C F σ H _ a S e1 fun v F' H' x1 r1=>?_
 refine oq12 (S.at_ i _ hi) fun o h1 zz=>oq22 zz fun p vs eq4_ _=>?_; subst eq4_
 refine ho C F' σ H' _ (.ref p) (S.grow x1) h1 (hk C F' σ H' _ n (S.grow x1) e2 fun w F2 H2 x2 r2=>?_)
 have S':=(S.grow x1).grow x2
 refine oq12 (S'.at_ i _ hi) fun o' q1 zz=>oq26 zz fun p' vs' eq4_ q2 q3 q4 q5 q6=>?_; subst eq4_
 rw [h1] at q1
 cases q1
 cases r2
 refine (oi23 p _ rfl (DPut.k (k:=Sum.inl n) q5 (by rw [q6.length,sizeLine_eq]; exact hl)) ?_)
 exact h _ C F2 σ _ D x (S'.chg hi rfl h1 q3 q4 rfl ⟨p,_,rfl,q2,q3,q4,af,o5 (r.mono x2.ff r1) q6⟩) e k
theorem bv_put {f:List (Int × α)→Option T} (i:Nat) (hi:Γ[i]?=some (.od r φ kvs)) (hk:EV Γ tb oi rInt) (he:EV Γ te oa r) (h:∀ ys,BV (Γ.set i (.od r φ ys)) u (f ys) fin) :
  BV Γ (tSeq (sDPut (tVar i) tb te) u) (oa.bind fun a=>oi.bind fun k=>if kvs.length<16777216 then f (Pu.put kvs k a) else none) fin:=bv_putG i (own_var i) hi hk he h
end
theorem evd_one (hk:EV Γ ta oi rInt) (hv:EV Γ tb oa r):EVD Γ (tDisp [(ta,tb)]) (oi.bind fun i=>oa.bind fun a=>some [(i,a)]) r:=by
 intro C F σ H Q kvs S e k
 refine oq12 (a9 e) fun i e1 e=>?_
 refine oq12 (a9 e) fun a e2 e=>?_
 cases e
 intro p hp
 have S1:=S.grow (Ext.newH (o:=.dK []) S.sub hp)
 have go:ta σ (upd H p (.dK [])) fun x H1=>tb σ H1 fun y H2=>H2 p=some (.dK [])∧∃ kvs:List (Key × V),[(x,y)]=kvs.map (fun kv=>(kV kv.1,kv.2))∧kvs.length≤15∧Q (.ref p) (upd H2 p (.dK (eX [] kvs))):=by
  refine EV.two (q:=fun x y H2=>H2 p=some (.dK [])∧∃ kvs:List (Key × V),[(x,y)]=kvs.map (fun kv=>(kV kv.1,kv.2))∧kvs.length≤15∧Q (.ref p) (upd H2 p (.dK (eX [] kvs)))) hk hv S1 e1 e2 fun x y F' H' x1 r1 r2=>⟨x1.hh.kp p (.dK []) trivial af,[(.inl i,y)],by rw [r1]; rfl,by simp,?_⟩
  have Fp:F p=none:=S.sub.free hp
  have Fp':F' p=none:=by
   cases q:F' p with
   | none=>rfl
   | some o =>
    rcases x1.nw p o q with z | z
    ·rw [Fp] at z; cases z
    ·rw [af] at z; cases z
  have eH:upd H' p (.dK (eX [] [(Sum.inl i,y)]))=upd (del H' p) p (.dK [(Sum.inl i,y)]):=by
   funext b; unfold upd del; split <;> rfl
  rw [eH]
  refine k p _ F' (del H' p) ⟨ls ((lq (o:=.dK []) hp trivial).trans x1.hh) hp (x1.hh.kp p (.dK []) trivial af) trivial,x1.ff,fun b o h=>?_,fun b o h=>?_,x1.nt⟩ cR (.cons ⟨rfl,r2⟩ .nil)
  ·rw [bf (ah h Fp')]; exact x1.sub b o h
  ·rcases x1.nw b o h with z | z
   ·exact .inl z
   ·have n:b≠p:=by rintro rfl; rw [af] at z; cases z
    rw [ac n] at z; exact .inr z
 exact go
end
section
variable {P:Program} {w:World} {K:PySem.W.Frag} {mg:Str→Option Value} {base:Heap} {x:Str} {st:Stmt} {N ps:List Str} {k:Nat} {τ γ:Type} {ra:RpA τ} {r:Rp γ}
theorem SR.begin_ {F H:Hp} {vs:List V} {a:τ} {n:Nat} (sb:Same F H) (nt:NT F) (tg:TbG H) (h:ra.rel F vs a) (hn:N.length - vs.length=n):SR ⟨H,F,F⟩ F (ra.slots a++List.replicate n .any) (start N vs) H:=by
 refine oq02 (ra.ok h) fun l g=>?_
 have noown:∀ (i:Nat) s,(ra.slots a++List.replicate n .any)[i]?=some s→s.own=false:=fun i s h=>by
  by_cases hi:i<(ra.slots a).length
  ·rw [List.getElem?_append_left hi] at h; exact (g i s h).1
  ·rw [List.getElem?_append_right (by exact Nat.not_lt.mp hi)] at h
   have:=List.mem_of_getElem? h
   rw [List.mem_replicate] at this
   rw [this.2]; rfl
 refine ⟨⟨Sm.refl _,Same.refl _,sb,fun b o h=>.inl h,nt,tg⟩,?_,fun i s hs=>?_,fun i j s t p h1 h2 o1 o2 _ _=>?_⟩
 ·unfold start
  rw [List.length_append,List.length_append,List.length_map,List.length_replicate,List.length_replicate,l,← hn,l]
 ·unfold start
  by_cases hi:i<(ra.slots a).length
  ·rw [List.getElem?_append_left hi] at hs
   refine oq02 (g i s hs) fun _ zz=>oq12 zz fun v g1 g2=>?_
   exact (oi12 (some v) (by rw [List.getElem?_append_left (by simp [l,hi]),List.getElem?_map,g1]; rfl) (g2 H H))
  ·rw [List.getElem?_append_right (by exact Nat.not_lt.mp hi)] at hs
   have hm:=List.mem_of_getElem? hs
   rw [List.mem_replicate] at hm
   have hlt:=(List.getElem?_eq_some_iff.mp hs).1
   rw [List.length_replicate] at hlt
   rw [hm.2]
   exact (oi12 none (by rw [List.getElem?_append_right (by simp; exact nz4 (nz3 l) (Nat.not_lt.mp hi)),List.length_map,List.getElem?_replicate,if_pos (by omega)]) trivial)
 ·rw [noown i s h1] at o1; cases o1
noncomputable abbrev eG (P:Program) (w:World) (K:PySem.W.Frag) (mg:Str→Option Value) (base:Heap) (x:Str) (st:Stmt) (N:List Str) (k:Nat) (G:TS→Prop):Prop :=
 ∀ (f:Addr) (cdv:Value) (A:Around) (outer:List Env) (s:Shared) (H:Hp) (E:XK),Room k (A.deeper (envOfC x (ae st) s.heap.objs.size f cdv))→∃ t,PSs (cxOf CX0 P w K mg base N x (ae st) f cdv A outer s H E).nox (aO st) t∧G t
theorem au.pV {f:τ→Option γ} {n:Nat} (D:au K mg x st ps) (S:FnScope N ps (ae st)) (hl:∀ a,(ra.slots a).length=ps.length) (hn:N.length - ps.length=n)
  (h:eG P w K mg base x st N k fun t=>∀ a,BV (ra.slots a++List.replicate n .any) t (f a) (finV r)):Has P w K mg base (k+1) x ps (spV ra r f):=by
 refine D.has S (fun vs H Q E h=>?_) fun fa cdv A outer s H vs Q E hr hsp=>?_
 ·refine oq35 h fun F a c _ _ _ h1 _=>?_; rw [(ra.ok h1).1,hl]
 ·refine oq12 (h fa cdv A outer s H E hr) fun t h1 h2=>?_
  refine oq36 hsp fun F a c sb nt tg hr' hf q=>?_
  refine (oi12 t h1 (h2 a _ F _ H _ c (SR.begin_ sb nt tg hr' (by rw [(ra.ok hr').1,hl]; exact hn)) hf ?_))
  exact fun v F' H' fr rv=>q v F' H' ⟨fr.keep,fr.low,fr.sub,fr.base,fun _=>fr.nt⟩ rv
theorem au.pL {f:τ→Option (List γ)} {n:Nat} (D:au K mg x st ps) (S:FnScope N ps (ae st)) (hl:∀ a,(ra.slots a).length=ps.length) (hn:N.length - ps.length=n)
  (h:eG P w K mg base x st N k fun t=>∀ a,BV (ra.slots a++List.replicate n .any) t (f a) (finL r)):Has P w K mg base (k+1) x ps (spL ra r f):=by
 refine D.has S (fun vs H Q E h=>?_) fun fa cdv A outer s H vs Q E hr hsp=>?_
 ·refine oq35 h fun F a c _ _ _ h1 _=>?_; rw [(ra.ok h1).1,hl]
 ·refine oq12 (h fa cdv A outer s H E hr) fun t h1 h2=>?_
  refine oq36 hsp fun F a c sb nt tg hr' hf q=>?_
  refine (oi12 t h1 (h2 a _ F _ H _ c (SR.begin_ sb nt tg hr' (by rw [(ra.ok hr').1,hl]; exact hn)) hf ?_))
  exact fun p vs F' H' fr hp rv=>q p vs F' H' ⟨fr.keep,fr.low,fr.sub,fr.base,fun _=>fr.nt⟩ hp rv
theorem au.pD {f:τ→Option (List (Int × γ))} {n:Nat} (D:au K mg x st ps) (S:FnScope N ps (ae st)) (hl:∀ a,(ra.slots a).length=ps.length) (hn:N.length - ps.length=n)
  (h:eG P w K mg base x st N k fun t=>∀ a,BV (ra.slots a++List.replicate n .any) t (f a) (finD r)):Has P w K mg base (k+1) x ps (spD ra r f):=by
 refine D.has S (fun vs H Q E h=>?_) fun fa cdv A outer s H vs Q E hr hsp=>?_
 ·refine oq35 h fun F a c _ _ _ h1 _=>?_; rw [(ra.ok h1).1,hl]
 ·refine oq12 (h fa cdv A outer s H E hr) fun t h1 h2=>?_
  refine oq36 hsp fun F a c sb nt tg hr' hf q=>?_
  refine (oi12 t h1 (h2 a _ F _ H _ c (SR.begin_ sb nt tg hr' (by rw [(ra.ok hr').1,hl]; exact hn)) hf ?_))
  exact fun p vs F' H' fr hp rv=>q p vs F' H' ⟨fr.keep,fr.low,fr.sub,fr.base,fun _=>fr.nt⟩ hp rv
end
end L2
namespace L2
open PySem PySem.Spec PyProof.Rows
structure Dt {α:Type} [DecidableEq α] (r:Rp α) where
 dat:α→PyData
 n:Nat
 ok:∀ {K:PySem.W.Frag} {H v a},r.rel H v a→DatV K H (dat a) v
 lay:∀ a,(dat a).canLay0=true
 dep:∀ a,(dat a).depth≤n
 eqv:∀ a b,PyData.eqv (dat a) (dat b)=decide (a=b)
noncomputable def dInt:Dt rInt:=⟨.int,0,fun h=>by unfold DatV; exact h,fun _=>by rw [PyData.canLay0],fun _=>by rw [PyData.depth]; exact nz6 _,fun a b=>by rw [PyData.eqv,Bool.eq_iff_iff]; simp⟩
section
variable {α β γ:Type} [DecidableEq α] [DecidableEq β] [DecidableEq γ] {r:Rp α} {s:Rp β} {q:Rp γ}
theorem mP {K:PySem.W.Frag} {H:Hp} (d:Dt r):∀ {vs:List V} {xs:List α},Paired (r.rel H) vs xs→bP K H (xs.map d.dat) vs
 | _,_,.nil=>by unfold bP; rfl
 | _,_,.cons h t=>by rw [List.map_cons]; unfold bP; exact (oi23 _ _ rfl (d.ok h) (mP d t))
theorem layAll (d:Dt r):∀ xs:List α,PyData.canLayAll0 (xs.map d.dat)=true
 | []=>by simp [PyData.canLayAll0]
 | x :: xs=>by rw [List.map_cons,PyData.canLayAll0,layAll d xs,d.lay]; rfl
theorem depAll (d:Dt r):∀ xs:List α,PyData.depthAll (xs.map d.dat)≤d.n
 | []=>by simp [PyData.depthAll]
 | x :: xs=>by
  rw [List.map_cons,PyData.depthAll]
  have:=depAll d xs
  have:=d.dep x
  omega
theorem kE (d:Dt r):∀ xs ys:List α,PyData.eqvAll (xs.map d.dat) (ys.map d.dat)=decide (xs=ys)
 | [],[]=>by simp [PyData.eqvAll]
 | [],_ :: _=>by simp [PyData.eqvAll]
 | _ :: _,[]=>by simp [PyData.eqvAll]
 | x :: xs,y :: ys=>by
  rw [List.map_cons,List.map_cons,PyData.eqvAll,kE d xs ys,d.eqv]
  by_cases h:x=y <;> by_cases h':xs=ys <;> simp [h,h']
noncomputable def dL (d:Dt r):Dt (rL r):=⟨fun xs=>.list (xs.map d.dat),d.n+1,fun {K H v a} h=>by
  refine oq23 h fun p vs eq2_ h1 h2=>?_; subst eq2_
  unfold DatV; exact (oi23 p vs rfl (.inl h1) (mP d h2)),
 fun a=>by rw [PyData.canLay0]; exact layAll d a,fun a=>by rw [PyData.depth]; have:=depAll d a; exact nz2 this (Nat.lt_succ_self _),fun a b=>by rw [PyData.eqv]; exact kE d a b⟩
noncomputable def dT3 (d:Dt r) (e:Dt s) (f:Dt q):Dt (rT3 r s q):=⟨fun x=>.tuple [d.dat x.1,e.dat x.2.1,f.dat x.2.2],max d.n (max e.n f.n)+1,fun {K H v a} h=>by
  refine oq45 h fun p x y z eq4_ h1 h2 h3 h4=>?_; subst eq4_
  unfold DatV; refine (oi23 p _ rfl (SqT.of h1) ?_)
  unfold bP; refine (oi23 _ _ rfl (d.ok h2) ?_)
  unfold bP; refine (oi23 _ _ rfl (e.ok h3) ?_)
  unfold bP; refine (oi23 _ _ rfl (f.ok h4) ?_)
  unfold bP; rfl,
 fun a=>by simp [PyData.canLay0,PyData.canLayAll0,d.lay,e.lay,f.lay],fun a=>by have:=d.dep a.1; have:=e.dep a.2.1; have:=f.dep a.2.2; simp [PyData.depth,PyData.depthAll]; omega,fun a b=>by
  rw [PyData.eqv,PyData.eqvAll,PyData.eqvAll,PyData.eqvAll,PyData.eqvAll,d.eqv,e.eqv,f.eqv,Bool.eq_iff_iff]
  obtain ⟨a1,a2,a3⟩:=a; obtain ⟨b1,b2,b3⟩:=b
  simp⟩
theorem o8 [Kon] {Γ:List Slot} {K:PySem.W.Frag} {ta tb:TE} {oa ob:Option α} (d:Dt r) (ha:EV Γ ta oa r) (hb:EV Γ tb ob r) (hn:d.n≤60:=by decide):EV Γ (tOp (rEqD K) ta tb) (oa.bind fun a=>ob.bind fun b=>some (decide (a=b))) aG :=
 fZ (r:=r) (s:=r) (fun F H x y a b c Q sb r1 r2 e k=>by
  cases e
  refine ⟨_,_,d.ok (r.mono sb r1),d.ok (r.mono sb r2),d.lay _,d.lay _,?_,?_⟩
  ·have:=d.dep a; omega
  ·rw [d.eqv]; exact k _ rfl) ha hb
theorem lH [Kon] {Γ:List Slot} {K:PySem.W.Frag} {ta tb:TE} {oa ob:Option α} (d:Dt r) (ha:EV Γ ta oa r) (hb:EV Γ tb ob r) (hn:d.n≤60:=by decide):EV Γ (tOp (rNeD K) ta tb) (oa.bind fun a=>ob.bind fun b=>some (!decide (a=b))) aG :=
 fZ (r:=r) (s:=r) (fun F H x y a b c Q sb r1 r2 e k=>by
  cases e
  refine ⟨_,_,d.ok (r.mono sb r1),d.ok (r.mono sb r2),d.lay _,d.lay _,?_,?_⟩
  ·have:=d.dep a; omega
  ·rw [d.eqv]; exact k _ rfl) ha hb
end
end L2
namespace L2
open PySem PySem.Spec PyProof.Rows
variable [Kon]
section
variable {Γ:List Slot} {α β γ:Type} {r:Rp α} {ta tb tc:TE} {K:PySem.W.Frag} {ox oy:Option Int} {n m v:Int}
theorem ck (ha:EV Γ ta ox rInt) (hb:EV Γ tb (some n) rInt) (hn:0<n):EV Γ (tOp (rI (fun _ j=>0<j) fun i j=>.int (i % j)) ta tb) (ox.bind fun a=>some (a % n)) rInt :=
 (gj ha hb).cast (by unfold Pu.fmod; simp [hn])
theorem fe (ha:EV Γ ta ox rInt) (hb:EV Γ tb (some n) rInt) (hn:0<n∧n<2 ^ 64):EV Γ (tOp (rI (fun _ j=>0<j∧j<2 ^ 64) fun i j=>.int (i / j)) ta tb) (ox.bind fun a=>some (a / n)) rInt :=
 (iN ha hb).cast (by unfold Pu.fdiv; simp only [nza,if_pos hn])
theorem ev_mulT (ha:EV Γ ta ox rInt) (hb:EV Γ tb (some n) rInt) (hn:-(2 ^ 64)<n∧n<2 ^ 64):EV Γ (tOp (rI CMul fun i j=>.int (i * j)) ta tb) (ox.bind fun a=>some (a * n)) rInt :=
 (hV ha hb).cast (by
  have e:∀ a,Pu.mul a n=some (a * n):=fun a=>if_pos (.inr hn)
  simp only [nza,e])
theorem iS (ha:EV Γ ta (some n) rInt) (hb:EV Γ tb (some m) rInt) (h:Pu.pow n m=some v):EV Γ (tOp (rI CPow fun i j=>.int (i ^ j.toNat)) ta tb) (some v) rInt :=
 (ev_pow ha hb).cast (by simp only [nza,h])
section
variable {t u:TT} {a b:Bool}
theorem lI (h:ET Γ t (some a)) (h':ET Γ u (some b)):ET Γ (tAnd t u) (some (a && b)):=by
 have:=ly h h'
 cases a <;> exact this
theorem lJ (h:ET Γ t (some a)) (h':ET Γ u (some b)):ET Γ (tOr t u) (some (a || b)):=by
 have:=dU h h'
 cases a <;> exact this
theorem ev_andT (h:EV Γ ta (some a) aG) (h':EV Γ tb (some b) aG):EV Γ (tAndV ta tb) (some (a && b)) aG:=by
 have:=ev_and h h'
 cases a <;> exact this
theorem ev_ifxT {x y:α} (ht:ET Γ t (some a)) (ha:EV Γ ta (some x) r) (hb:EV Γ tb (some y) r):EV Γ (tIf t ta tb) (some (if a=true then x else y)) r:=by
 have:=ev_ifx ht ha hb
 cases a <;> exact this
theorem i0 {g g':Int→Int→Bool} {x y z:Int} (ha:EV Γ ta (some x) rInt) (hb:EV Γ tb (some y) rInt) (hc:EV Γ tc (some z) rInt):EV Γ (kZ (rI0 fun i j=>.bl (g i j)) (rI0 fun i j=>.bl (g' i j)) ta tb tc) (some (g x y && g' y z)) aG :=
 (ev_chain ha hb hc).cast (by simp only [nza]; cases g x y <;> rfl)
end
end
noncomputable def o9 (K:PySem.W.Frag):Sp:=fun vs H Q _=>∃ (a:Addr) (ns:List Int),vs=[.ref a]∧Ints K H a ns∧ns.length≤63∧TbG H∧∀ H',Q (.bl true) H'
theorem paired_ints {H:Hp}:∀ ns:List Int,Paired (rInt.rel H) (ns.map V.int) ns
 | []=>.nil
 | _ :: ns=>.cons rfl (paired_ints ns)
noncomputable def ntF (H:Hp):Hp:=fun b=>match H b with
 | some (.tbl _)=>none
 | x=>x
theorem mQ {H:Hp} {b:Addr} {o:HO} (h:ntF H b=some o):H b=some o∧cQ o:=by
 unfold ntF at h
 split at h
 ·cases h
 ·rename_i x hx
  refine ⟨h,?_⟩
  cases o with
  | tbl ps=>exact absurd h (hx ps)
  | _=>trivial
theorem ntF_of {H:Hp} {b:Addr} {o:HO} (h:H b=some o) (n:cQ o):ntF H b=some o:=by
 unfold ntF
 split
 ·rename_i ps e; rw [h] at e; cases e; exact n.elim
 ·exact h
theorem ntF_seq {K:PySem.W.Frag} {H:Hp} {a:Addr} {xs:List V} (h:SqL K H a xs):SqL K (ntF H) a xs:=by
 rcases h with (h | ⟨o,h⟩) | h
 ·exact .inl (.inl (ntF_of h trivial))
 ·exact .inl (.inr ⟨o,ntF_of h trivial⟩)
 ·exact .inr h
theorem Fun.law {P:Program} {w:World} {K:PySem.W.Frag} {mg:Str→Option Value} {base:Heap} {st:Stmt} {N:List Str} {p:Str} {k n:Nat} {f:Addr} {fd:FuncData} {fl:List Int→Option Bool} (F:Fun K "law" "law" st f fd) (S:FnScope N [p] (ae st)) (hn:N.length - 1=n) (hl:∀ ns,ns.length≤63→fl ns=some true)
  (h:eG P w K mg base "law" st N k fun t=>∀ a,BV ((aOne (rScr K)).slots a++List.replicate n .any) t (fl a) (finV aG)):FnOk P w K mg base CX0 (k+1) f fd [p] (o9 K):=by
 refine F.ok S (fun vs H Q E h=>?_) (fun cdv A outer s H vs Q E hr hsp=>?_)
 ·refine oq22 h fun a ns eq2_ _=>?_; subst eq2_; rfl
 ·refine oq12 (h f cdv A outer s H E hr) fun t h1 h2=>?_
  refine oq25 hsp fun a ns eq2_ hS hlen tg q=>?_; subst eq2_
  refine (oi12 t h1 (h2 ns _ (ntF H) _ H _ true (SR.begin_ (ra:=aOne (rScr K)) (fun b o h=>(mQ h).1) (fun b ps h=>(mQ h).2) tg ⟨.ref a,rfl,a,_,rfl,ntF_seq hS,paired_ints ns⟩ hn) (hl ns hlen) ?_))
  intro v F' H' _ rv
  cases rv
  exact q H'
@[reducible] noncomputable def kon0:Kon:=⟨[],fun _=>""⟩
theorem tbg0 {H:Hp} (h:Only H):@TbG kon0 H:=@TbG.mk kon0 H (fun P hP=>nomatch hP) fun P ps e=>by
 rcases h P with z | ⟨o,xs,z⟩
 ·rw [z] at e; cases e
 ·rw [z] at e; cases e
end L2
namespace Pu
noncomputable def srtI (ns:List Int):List Int:=ns.mergeSort fun a b=>decide (a≤b)
theorem da (ns:List Int):(srtI ns).Perm ns:=List.mergeSort_perm _ _
theorem dG (ns:List Int):(srtI ns).Pairwise (·≤·):=by
 have h:=List.pairwise_mergeSort (le:=fun a b:Int=>decide (a≤b)) (fun a b c h1 h2=>by simp at *; exact Int.le_trans h1 h2) (fun a b=>by simp; omega) ns
 exact h.imp fun h=>by simpa using h
noncomputable def sortI (ns:List Int):Option (List Int):=if ns.length<64 then some (srtI ns) else none
noncomputable def lt2 (a b:Int × Int):Bool:=decide (a.1<b.1∨a.1=b.1∧a.2<b.2)
noncomputable def le2 (a b:Int × Int):Bool:=decide (a.1<b.1∨a.1=b.1∧a.2≤b.2)
noncomputable def srtP (ps:List (Int × Int)):List (Int × Int):=ps.mergeSort le2
noncomputable def sortP (ps:List (Int × Int)):Option (List (Int × Int)):=if ps.length<64∧ps.Nodup then some (srtP ps) else none
theorem i3 (ps:List (Int × Int)):(srtP ps).Perm ps:=List.mergeSort_perm _ _
theorem i4 (a b c:Int × Int) (h1:le2 a b=true) (h2:le2 b c=true):le2 a c=true:=by
 unfold le2 at *; simp only [decide_eq_true_eq] at *; omega
theorem i5 (a b:Int × Int):(le2 a b || le2 b a)=true:=by
 unfold le2; simp only [Bool.or_eq_true,decide_eq_true_eq]; omega
theorem fg (ps:List (Int × Int)):(srtP ps).Pairwise fun a b=>le2 a b=true:=List.pairwise_mergeSort i4 i5 ps
theorem mR {a b:Int × Int} (h1:le2 a b=true) (h2:le2 b a=true):a=b:=by
 unfold le2 at *; simp only [decide_eq_true_eq] at *
 obtain ⟨a1,a2⟩:=a; obtain ⟨b1,b2⟩:=b
 simp only at *
 have e1:a1=b1:=by omega
 have e2:a2=b2:=by omega
 rw [e1,e2]
theorem cu {α:Type} {le:α→α→Prop} (anti:∀ a b,le a b→le b a→a=b) {l m:List α} (hp:l.Perm m) (hl:l.Pairwise le) (hm:m.Pairwise le):l=m :=
 hp.eq_of_pairwise (fun a b _ _ h1 h2=>anti a b h1 h2) hl hm
end Pu
namespace L2
open PySem PySem.Spec PyProof.Rows
variable [Kon]
theorem eI {ns:List Int}:∀ {vs:List Value},Vals (ns.map V.int) vs→IntsAre vs ns:=by
 induction ns with
 | nil=>intro vs h; cases h; exact .nil
 | cons n ns ih =>
  intro vs h
  cases h with
  | cons r t=>refine oq11 r fun k eq1_=>?_; subst eq1_; exact .cons n k (ih t)
section
variable {X:Cx} {K:PySem.W.Frag}
noncomputable def rSortI (K:PySem.W.Frag):List V→Hp→VK→Prop:=fun xs H Q=>∃ p ns,xs=[.ref p]∧SqL K H p (ns.map V.int)∧ns.length<64∧∀ q,H q=none→Q (.ref q) (upd H q (.lst ((Pu.srtI ns).map V.int)))
theorem iT (h:X.K=K) (hu:X.A.units+64<cLine):OpR X (compareOp .NotEq) (rNeD K):=by
 subst h
 intro pins s σ H x y v u Q I rx ry h
 refine oq26 h fun dx dy h1 h2 c1 c2 dp q=>?_
 refine oq11 (DatV.reads I h1 rx) fun as ra=>?_
 refine oq11 (DatV.reads I h2 ry) fun bs rb=>?_
 exact SeqAt.compareNe_reads ra rb c1 c2 (by omega) ⟨.bl _,H,I,rfl,q⟩
theorem og (h:X.K=K):cA X (.builtin "sorted") (rSortI K):=by
 subst h
 intro pins s σ H xs us Q I r hh
 refine oq24 hh fun p ns eq2_ hS h64 q=>?_; subst eq2_
 refine oq12 (vals1 r) fun u eq1_ ru=>?_; subst eq1_
 cases ru
 refine oq13 (I.list hS) fun its rv ht hz=>?_
 have hl:=rv.length
 rw [List.length_map] at hl
 refine sorted_ints ht.isList (eI rv) (by exact nz2 (nz3 hl.symm) h64) fun out ns' a1 a2 a3=>?_
 have e:ns'=Pu.srtI ns:=PySem.W.ksm_same (a2.trans (Pu.da ns).symm) a3 (Pu.dG ns)
 subst e
 refine oq11 (sortedAll_at s.heap its out) fun ep hat=>?_
 refine ⟨.ref _,_,I.laid (t':=s.toks) (o:=.lst ((Pu.srtI ns).map V.int)) (fun b ob q=>sortedAll_old q) (Nat.le_succ _) ⟨?_,out.toList,ep,dQ a1,?_⟩,rfl,q _ (I.hok.fresh (Nat.le_succ _))⟩
 ·rw [List.length_map,(Pu.da ns).length_eq,sizeLine_eq]; exact nz5 (nz8 h64 (by decide))
 ·rw [hat]
end
section
variable {prog:Program} {w:World} {A:Around} {E:Value→Shared→Prop} {s:Shared} {κ:SortKind} {c:Nat→Nat→Bool} {vs:List Value}
open PySem.W
noncomputable def cT (vs:List Value) (p:Array Nat):Array Value:=List.toArray (p.toList.map fun i=>vs.getD i Value.none)
theorem jw (p:Array Nat):(cT vs p).size=p.size:=by unfold cT; simp
theorem jY {a:Addr} {n:Nat} {P:PySem.Fin→Shared→Prop} (ho:s.heap.get? a=some (seqObj "list" vs.toArray n)) (h64:vs.length<64) (L:Srt.Lin c vs.length)
  (hk:2≤vs.length→∀ h':Heap,(∀ b o,b≠a→s.heap.get? b=some o→h'.get? b=some o)→∀ Q':SortKind→Shared→Prop,Q' κ { s with heap:=h' }→wpAny (model prog w) A (keyKind' vs.toArray) Q' E { s with heap:=h' })
  (hc:∀ h':Heap,(∀ b o,b≠a→s.heap.get? b=some o→h'.get? b=some o)→∀ i j C,i<vs.length→j<vs.length→C (c i j) { s with heap:=h' }→kas_ask prog w A κ vs i j C { s with heap:=h' })
  (h:∀ p,Srt.Arr vs.length p→Srt.Up c p vs.length→P (.done (.ret .none)) { s with heap:=sortedHeap s.heap a vs (cT vs p) }) :
  wpAny (model prog w) A (Builtin.«list.sort» ⟨[.ref a],[]⟩) P E s:=by
 have ha:a<s.heap.objs.size:=Heap.lt_size ho
 obtain ⟨e1,ho1⟩:∃ e1,(s.heap.update a (Obj.mapSeq fun _=>(#[]:Array Value))).get? a=some (seqObj "list" #[] e1):=⟨_,get?_update_seq ho (fun _=>#[])⟩
 generalize hh3:((s.heap.update a (Obj.mapSeq fun _=>(#[]:Array Value))).push (seqObj "tuple" vs.toArray 0)).push (seqObj "list" #[] 0)=h3
 have ho6:h3.get? a=some (seqObj "list" #[] e1):=by
  rw [← hh3]; exact Heap.get?_push_of_some _ (Heap.get?_push_of_some _ ho1)
 have keep:∀ b o,b≠a→s.heap.get? b=some o→h3.get? b=some o:=fun b o nb q=>by
  rw [← hh3]
  refine Heap.get?_push_of_some _ (Heap.get?_push_of_some _ ?_)
  rw [Heap.get?_update_ne _ _ _ _ nb]; exact q
 have fin:∀ p,Srt.Arr vs.length p→Srt.Up c p vs.length→P (.done (.ret .none)) { s with heap:=h3.update a (Obj.mapSeq fun _=>cT vs p) }:=fun p a1 a2=>by
  rw [← hh3]; exact h p a1 a2
 rw [list_sort_plain]
 refine wpAny_bind (listItems_at ho rfl ?_)
 refine wpAny_bind (listUpdate_at ho rfl ?_ (by rw [List.size_toArray,sizeLine_eq]; exact nz5 (nz8 h64 (by decide))) (Nat.zero_le _))
 refine wpAny_bind (seqEpoch_at ho1 rfl ?_)
 refine wpAny_bind (wpAny_newTuple ?_ (by show vs.length≤_; rw [sizeLine_eq]; exact nz5 (nz8 h64 (by decide))))
 refine wpAny_bind (wpAny_newList ?_ (Nat.zero_le _))
 refine wpAny_holding ?_
 show wpAny (model prog w) A _ P E { s with heap:=((s.heap.update a (Obj.mapSeq fun _=>(#[]:Array Value))).push (seqObj "tuple" vs.toArray 0)).push (seqObj "list" #[] 0) }
 rw [hh3]
 dsimp only
 have hsz:vs.toArray.size=vs.length:=by simp
 by_cases h2:vs.toArray.size<2
 ·rw [if_pos h2,if_pos h2]
  refine wpAny_bind (wpAny_pure ?_)
  rw [StateT.run_pure]
  refine wpAny_bind (wpAny_pure ?_)
  dsimp only
  refine wpAny_bind (seqEpoch_at ho6 rfl ?_)
  refine wpAny_bind (listUpdate_at ho6 rfl ?_ (Nat.zero_le _) (by rw [Array.size_map]; show (pairsOf vs).size≤_; rw [pairsOf_size,sizeLine_eq]; exact Nat.le_succ_of_le (nz5 (nz8 h64 (by decide)))))
  simp only [bne_self_eq_false,Bool.false_eq_true,if_false]
  have ep:(arrOf (SortSt.mk' general' (vs.toArray.zip vs.toArray) #[] 7 none)).map (·.2)=cT vs (List.toArray (List.range vs.length)):=by
   have e:=kas_range (pairsOf vs)
   rw [pairsOf_size] at e
   show (pairsOf vs).map (·.2)=_
   conv=>lhs; rw [← e]
   unfold cT
   apply Array.toList_inj.mp
   rw [Array.map_map,Array.toList_map]
   exact List.map_congr_left fun i _=>by show (kas_item (pairsOf vs) i).2=_; rw [kas_item_eq]
  refine wpAny_pure ?_
  rw [ep]
  exact fin _ ⟨by simp,by simp⟩ fun i j hij hj=>by omega
 ·rw [if_neg h2,if_neg h2]
  have h2':2≤vs.length:=by exact nz4 (Nat.not_lt.mp h2) (nz3 hsz)
  refine wpAny_bind (hk h2' h3 keep _ ?_)
  have ok:=Srt.ok_sort (c:=c) (n:=vs.length) L (by omega)
  refine wpAny_bind (wpAny_mono (kat_run (κ:=κ) (Q:=fun st' s'=>s'={ s with heap:=h3 }∧∃ p:Array Nat,Srt.Arr vs.length p∧Srt.Up c p vs.length∧arrOf st'=p.map (kas_item (vs.toArray.zip vs.toArray))∧failedOf st'=none)
   (G:=fun p s'=>s'={ s with heap:=h3 }∧Srt.Arr vs.length p∧Srt.Up c p vs.length) rfl h2' h64 (fun p st' s' _ b2 b3 b4=>⟨b4.1,p,b4.2.1,b4.2.2,b2,b3⟩) (Srt.Ok.wp (hc h3 keep) (fun p hp=>⟨rfl,hp⟩) ok)) ?_ fun _ _ e=>e)
  rintro ⟨⟨⟩,st'⟩ s' ⟨rfl,p,b1,b2,b3,b4⟩
  dsimp only
  have hout:(arrOf st').map (·.2)=cT vs p:=kat_snds rfl b3
  rw [hout]
  refine wpAny_bind (seqEpoch_at ho6 rfl ?_)
  refine wpAny_bind (listUpdate_at ho6 rfl ?_ (Nat.zero_le _) (by rw [jw,b1.sz,sizeLine_eq]; exact Nat.le_succ_of_le (nz5 (nz8 h64 (by decide)))))
  rw [b4]
  simp only [bne_self_eq_false,Bool.false_eq_true,if_false]
  exact wpAny_pure (fin p b1 b2)
theorem om {l:Addr} {Q:Value→Shared→Prop} (hl:s.heap.IsList l vs.toArray) (h64:vs.length<64) (L:Srt.Lin c vs.length)
  (hk:2≤vs.length→∀ h':Heap,(∀ b o,s.heap.get? b=some o→h'.get? b=some o)→∀ Q':SortKind→Shared→Prop,Q' κ { s with heap:=h' }→wpAny (model prog w) A.in1.in1 (keyKind' vs.toArray) Q' E { s with heap:=h' })
  (hc:∀ h':Heap,(∀ b o,s.heap.get? b=some o→h'.get? b=some o)→∀ i j C,i<vs.length→j<vs.length→C (c i j) { s with heap:=h' }→kas_ask prog w A.in1.in1 κ vs i j C { s with heap:=h' })
  (h:∀ p,Srt.Arr vs.length p→Srt.Up c p vs.length→Q (.ref (s.heap.objs.size+1)) { s with heap:=sortedAll s.heap vs (cT vs p) }) :
  wpAny (model prog w) A (call (.builtin "sorted") [.ref l]) Q E s:=by
 refine Calls.call_function_entry kind_sorted plain_sorted entry_sorted (args_sorted1 _) ?_
 unfold Builtin.«sorted»
 refine wpAny_bind (m:=checkCount "sorted" 1 1 _) (wpAny_pure ?_)
 refine wpAny_bind (collect_list hl ?_ (by rw [sizeLine_eq]; exact nz5 (nz8 h64 (by decide))))
 refine wpAny_bind (wpAny_newList ?_ (by rw [sizeLine_eq]; exact nz5 (nz8 h64 (by decide))))
 have hsz:((s.heap.push (seqObj "list" #[] 0)).update s.heap.objs.size (Obj.mapSeq (·++vs.toArray))).objs.size=s.heap.objs.size+1:=by
  rw [Heap.size_update,size_push']
 have hoL:(((s.heap.push (seqObj "list" #[] 0)).update s.heap.objs.size (Obj.mapSeq (·++vs.toArray))).push (seqObj "list" vs.toArray 0)).get? (s.heap.objs.size+1)=some (seqObj "list" vs.toArray 0):=by
  rw [← hsz]; exact Heap.get?_push_size _ rfl
 have keep:∀ b o,s.heap.get? b=some o→b≠s.heap.objs.size+1∧(((s.heap.push (seqObj "list" #[] 0)).update s.heap.objs.size (Obj.mapSeq (·++vs.toArray))).push (seqObj "list" vs.toArray 0)).get? b=some o:=fun b o q=>by
  have hlt:b<s.heap.objs.size:=Heap.lt_size q
  refine ⟨nz7 (Nat.lt_succ_of_lt hlt),Heap.get?_push_of_some _ ?_⟩
  rw [Heap.get?_update_ne _ _ _ _ (nz7 hlt)]
  exact Heap.get?_push_of_some _ q
 show wpAny _ _ _ _ _ { s with heap:=((s.heap.push (seqObj "list" #[] 0)).update s.heap.objs.size (Obj.mapSeq (·++vs.toArray))).push (seqObj "list" vs.toArray 0) }
 rw [hsz]
 refine wpAny_bind (wpAny_holding (wpAny_call_entry slot_list_sort ⟨_,hoL,rfl⟩ entry_list_sort
  (jY (s:={ s with heap:=((s.heap.push (seqObj "list" #[] 0)).update s.heap.objs.size (Obj.mapSeq (·++vs.toArray))).push (seqObj "list" vs.toArray 0) }) hoL h64 L
   (fun h2 h' k=>hk h2 h' fun b o q=>k b o (keep b o q).1 (keep b o q).2) (fun h' k=>hc h' fun b o q=>k b o (keep b o q).1 (keep b o q).2) fun p a1 a2=>(oi12 _ rfl ?_)) (args_list_sort _)))
 exact wpAny_pure (oi12 _ rfl (h p a1 a2))
end
section
variable {X:Cx} {K:PySem.W.Frag}
open PySem.W
theorem mS (a b:Int × Int):HT.lexLt [a.1,a.2] [b.1,b.2]=Pu.lt2 a b:=by
 unfold Pu.lt2 HT.lexLt HT.lexLt HT.lexLt
 by_cases h:a.1=b.1
 ·rw [if_pos h]
  by_cases h':a.2=b.2
  ·rw [if_pos h',Bool.eq_iff_iff]; simp; omega
  ·rw [if_neg h',Bool.eq_iff_iff]; simp; omega
 ·rw [if_neg h,Bool.eq_iff_iff]; simp; omega
noncomputable def dH (h:Heap) (vs:List Value) (ps:List (Int × Int)):Prop:=Paired (fun v p=>∃ a o xs n t u,v=Value.ref a∧h.get? a=some o∧o.cls=.type "tuple"∧o.data=.seq xs n∧xs=#[Value.int p.1 t,Value.int p.2 u]) vs ps
theorem dH.kept {h h':Heap} {vs:List Value} {ps:List (Int × Int)} (p:dH h vs ps) (k:∀ b o,h.get? b=some o→h'.get? b=some o):dH h' vs ps:=Paired.imp2 (fun _ _ zq=>oq63 zq fun a o xs n t u e1 e2 e3=>(oi63 a o xs n t u e1 (k _ _ e2) e3)) p
theorem dH.tups {h:Heap}:∀ {vs:List Value} {ps:List (Int × Int)},dH h vs ps→∃ fs,KatTups h vs fs∧fs.length=ps.length∧∀ v∈fs,∃ i t,v=Value.int i t
 | _,_,.nil=>(oi13 ([]) trivial rfl (fun _ h=>nomatch h))
 | _,_,.cons z r=>by
  refine oq65 z fun a o xs n t u e1 e2 e3 e4 e5=>?_
  refine oq13 (dH.tups r) fun fs g1 g2 g3=>?_
  subst e1 e5
  refine (oi13 (_ :: fs) (KatTups.cons e2 e3 e4 rfl g1) (by simp [g2]) (fun v hv=>?_))
  rcases List.mem_cons.mp hv with rfl | hv
  ·exact (oi21 _ _ rfl)
  ·exact g3 v hv
theorem kF {prog:Program} {w:World} {A:Around} {s:Shared} {vs:List Value} {ps:List (Int × Int)} (p:dH s.heap vs ps) {i j:Nat} {C:Bool→Shared→Prop} (hi:i<vs.length) (hj:j<vs.length) (h:C (Pu.lt2 (ps.getD i (0,0)) (ps.getD j (0,0))) s) :
  kas_ask prog w A (tuples' true) vs i j C s:=by
 have hl:vs.length=ps.length:=Paired.length p
 have at':∀ k,k<vs.length→∃ a o xs n t u,vs.getD k Value.none=Value.ref a∧s.heap.get? a=some o∧o.data=.seq xs n∧xs=#[Value.int (ps.getD k (0,0)).1 t,Value.int (ps.getD k (0,0)).2 u]:=fun k hk=>by
  obtain ⟨y,e,a,o,xs,n,t,u,e1,e2,e3,e4,e5⟩:=eY p (List.getElem?_eq_getElem hk)
  have h1:vs.getD k Value.none=vs[k]:=by simp [hk]
  have h2:ps.getD k (0,0)=y:=by simp [e]
  rw [h1,h2]
  exact (oi64 a o xs n t u e1 e2 e4 e5)
 refine oq64 (at' i hi) fun a o xs n t u e1 e2 e3 e4=>?_
 refine oq64 (at' j hj) fun a' o' xs' n' t' u' f1 f2 f3 f4=>?_
 unfold kas_ask
 rw [e1,f1]
 generalize ps.getD i (0,0)=x at *
 generalize ps.getD j (0,0)=y at *
 subst e4 f4
 refine kat_lt e2 e3 f2 f3 ?_
 refine kat_cons (wpAny_eqBool_int ?_)
 have second:x.1=y.1→KatLex prog w A true (decide ((#[Value.int x.1 t,Value.int x.2 u]:Array Value).size<(#[Value.int y.1 t',Value.int y.2 u']:Array Value).size)) C [(Value.int x.2 u,Value.int y.2 u')] 1 s:=fun h1=>by
  refine kat_cons (wpAny_eqBool_int ?_)
  by_cases h2:x.2=y.2
  ·rw [show (x.2 == y.2)=true by simpa using h2]
   refine kat_yes (kat_nil ?_)
   have e:Pu.lt2 x y=false:=by unfold Pu.lt2; rw [decide_eq_false_iff_not]; omega
   rw [e] at h
   exact h
  ·rw [show (x.2 == y.2)=false by simpa using h2]
   refine kat_no (kat_one _ _ ?_)
   refine lt_int ?_
   have e:Pu.lt2 x y=decide (x.2<y.2):=by unfold Pu.lt2; rw [Bool.eq_iff_iff]; simp; omega
   rw [e] at h
   exact h
 by_cases h1:x.1=y.1
 ·rw [show (x.1 == y.1)=true by simpa using h1]
  exact kat_yes (second h1)
 ·rw [show (x.1 == y.1)=false by simpa using h1]
  refine kat_no ?_
  refine oneLt_int ?_
  have e:Pu.lt2 x y=decide (x.1<y.1):=by unfold Pu.lt2; rw [Bool.eq_iff_iff]; simp; omega
  rw [e] at h
  exact h
theorem kG {ps:List (Int × Int)} (hn:ps.Nodup):Srt.Lin (fun i j=>Pu.lt2 (ps.getD i (0,0)) (ps.getD j (0,0))) ps.length:=by
 refine ⟨fun i _=>?_,fun i j k _ _ _ h1 h2=>?_,fun i j hi hj hne h=>?_⟩
 ·unfold Pu.lt2; rw [decide_eq_false_iff_not]; omega
 ·unfold Pu.lt2 at *; rw [decide_eq_true_eq] at *; omega
 ·have ne:ps.getD i (0,0)≠ps.getD j (0,0):=by
   intro e
   have e1:ps.getD i (0,0)=ps[i]:=by simp [hi]
   have e2:ps.getD j (0,0)=ps[j]:=by simp [hj]
   rw [e1,e2] at e
   exact hne ((List.getElem_inj hn).mp e)
  generalize ps.getD i (0,0)=x at *
  generalize ps.getD j (0,0)=y at *
  unfold Pu.lt2 at *
  rw [decide_eq_false_iff_not] at h
  rw [decide_eq_true_eq]
  obtain ⟨x1,x2⟩:=x; obtain ⟨y1,y2⟩:=y
  have:¬ (x1=y1∧x2=y2):=fun z=>ne (by rw [z.1,z.2])
  simp only at *
  omega
noncomputable def rSortP (K:PySem.W.Frag):List V→Hp→VK→Prop:=fun xs H Q=>∃ p vs ps,xs=[.ref p]∧SqL K H p vs∧Paired ((rT2 rInt rInt).rel H) vs ps∧ps.length<64∧ps.Nodup∧∀ q (ix:List Nat),H q=none→(∀ i∈ix,i<vs.length)→ix.map (fun i=>ps.getD i (0,0))=Pu.srtP ps→Q (.ref q) (upd H q (.lst (ix.map fun i=>vs.getD i .non)))
theorem Vals.pairs {X:Cx} {pins:List (Addr × Obj)} {σ:St} {H:Hp} {s:Shared} (I:Inv X pins σ H s):∀ {vs:List V} {its:List Value} {ps:List (Int × Int)},Vals vs its→Paired ((rT2 rInt rInt).rel H) vs ps→dH s.heap its ps
 | _,_,_,.nil,.nil=>.nil
 | _,_,_,.cons r t,.cons z q=>by
  refine .cons ?_ (Vals.pairs I t q)
  refine oq34 z fun p a b e1 e2 e3 e4=>?_
  subst e1
  cases r
  cases e3
  cases e4
  refine oq02 ((show bb X.prog X.w H s.heap p (.tup [.int _,.int _]) from I.hok p _ e2)) fun _ zz=>oq12 zz fun its' rv zz=>oq13 zz fun o h1 h2 zz=>oq11 zz fun n h3=>?_
  cases rv with
  | cons r1 rv =>
   cases rv with
   | cons r2 rv =>
    cases rv
    refine oq11 r1 fun t1 eq1_=>?_; subst eq1_
    refine oq11 r2 fun t2 eq1_=>?_; subst eq1_
    exact (oi65 p o _ n t1 t2 rfl h1 h2 h3 rfl)
theorem up_srt {ps:List (Int × Int)} (hn:ps.Nodup) {p:Array Nat} (a:Srt.Arr ps.length p) (u:Srt.Up (fun i j=>Pu.lt2 (ps.getD i (0,0)) (ps.getD j (0,0))) p ps.length):p.toList.map (fun i=>ps.getD i (0,0))=Pu.srtP ps:=by
 have e0:ps=(List.range ps.length).map fun i=>ps.getD i (0,0):=by
  apply List.ext_getElem
  ·simp
  ·intro i h1 h2; simp [h1]
 refine Pu.cu (le:=fun a b=>Pu.le2 a b=true) (fun a b=>Pu.mR) ?_ ?_ (Pu.fg ps)
 ·refine List.Perm.trans ?_ (Pu.i3 ps).symm
  have:=a.pm.map fun i=>ps.getD i (0,0)
  rw [← e0] at this
  exact this
 ·rw [List.pairwise_iff_getElem]
  intro i j hi hj hij
  have hsz:p.toList.length=ps.length:=by rw [Array.length_toList]; exact a.sz
  rw [List.length_map] at hi hj
  have h:=u i j hij (by exact nz1 hj (nz3 hsz))
  have g:∀ k (hk:k<p.toList.length),Srt.at' p k=p.toList[k]:=fun k hk=>by
   unfold Srt.at'
   simp at hk
   simp [hk]
  rw [g i hi,g j hj] at h
  rw [List.getElem_map,List.getElem_map]
  unfold Pu.lt2 at h
  unfold Pu.le2
  rw [decide_eq_true_eq] at *
  omega
end
section
variable {X:Cx} {K:PySem.W.Frag}
open PySem.W
theorem lK {α β:Type} {F:α→β→Prop} {l:List α} {m:List β} {x:α} {y:β} (p:Paired F l m) {i:Nat} (hi:i<l.length):F (l.getD i x) (m.getD i y):=by
 obtain ⟨b,e1,e2⟩:=eY p (List.getElem?_eq_getElem hi)
 have h1:l.getD i x=l[i]:=by simp [hi]
 have h2:m.getD i y=b:=by simp [e1]
 rw [h1,h2]; exact e2
theorem cU {α β γ:Type} {F:β→γ→Prop} {f:α→β} {g:α→γ}:∀ {l:List α},(∀ a∈l,F (f a) (g a))→Paired F (l.map f) (l.map g)
 | [],_=>.nil
 | a :: l,h=>.cons (h a (List.mem_cons.mpr (.inl rfl))) (cU fun b hb=>h b (List.mem_cons.mpr (.inr hb)))
theorem oo (h:X.K=K):cA X (.builtin "sorted") (rSortP K):=by
 subst h
 intro pins s σ H xs us Q I r hh
 refine oq36 hh fun p vs ps eq3_ hS hP h64 hnd q=>?_; subst eq3_
 refine oq12 (vals1 r) fun u eq1_ ru=>?_; subst eq1_
 cases ru
 refine oq13 (I.list hS) fun its rv ht hz=>?_
 have hl:=rv.length
 have hl2:=hP.length
 have pa:=Vals.pairs I rv hP
 have el:its.length=ps.length:=by exact Nat.le_antisymm (nz4 (nz3 hl.symm) (nz3 hl2)) (nz4 (nz3 hl2.symm) (nz3 hl))
 refine om (κ:=tuples' true) (c:=fun i j=>Pu.lt2 (ps.getD i (0,0)) (ps.getD j (0,0))) ht.isList (by exact nz2 (nz3 el) h64) (by rw [el]; exact kG hnd) (fun h2 h' k Q' hq=>?_) (fun h' k i j C hi hj hC=>kF (s:={ s with heap:=h' }) (pa.kept k) hi hj hC) fun p1 a1 u1=>?_
 ·refine oq13 ((pa.kept k).tups) fun fs g1 g2 g3=>?_
  refine kat_kind (s:={ s with heap:=h' }) (T:=.type "int") g1 (by omega) (fun v hv=>?_) rfl hq
  refine oq21 (g3 v hv) fun i t eq2_=>?_; subst eq2_
  exact .now
 ·rw [el] at a1 u1
  have eu:=up_srt hnd a1 u1
  refine oq11 (sortedAll_at s.heap its (cT its p1)) fun ep hat=>?_
  have hlt:∀ i∈p1.toList,i<ps.length:=fun i hi=>by
   have:=a1.pm.subset hi
   simpa using this
  refine ⟨.ref _,_,I.laid (t':=s.toks) (o:=.lst (p1.toList.map fun i=>vs.getD i .non)) (fun b ob q=>sortedAll_old q) (Nat.le_succ _) ⟨?_,p1.toList.map fun i=>its.getD i Value.none,ep,?_,hat⟩,rfl,q _ _ (I.hok.fresh (Nat.le_succ _)) (fun i hi=>by have:=hlt i hi; exact nz1 this (nz3 hl2.symm)) eu⟩
  ·rw [List.length_map,Array.length_toList,a1.sz,sizeLine_eq]; exact nz5 (nz8 h64 (by decide))
  ·exact cU fun i hi=>lK rv (by have:=hlt i hi; exact nz1 this (nz3 hl2.symm))
noncomputable def rSortD:List V→Hp→VK→Prop:=fun xs H Q=>∃ p ws ks,xs=[.ref p]∧H p=some (.dK ws)∧ws.map (·.1)=ks.map Sum.inl∧ks.length<64∧∀ q,H q=none→Q (.ref q) (upd H q (.lst ((Pu.srtI ks).map V.int)))
theorem oq (hc:X.calm=true):cA X (.builtin "sorted") rSortD:=by
 intro pins s σ H xs us Q I r hh
 refine oq35 hh fun p ws ks eq3_ hD hK h64 q=>?_; subst eq3_
 refine oq12 (vals1 r) fun u eq1_ ru=>?_; subst eq1_
 cases ru
 refine oq03 (dk_of I.hok hD) fun hz lo zz=>oq12 zz fun kvs hkv hdo=>?_
 refine oq11 hdo.dictAt fun ep hat=>?_
 have hl:=hkv.length
 have hl2:ws.length=ks.length:=by have:=congrArg List.length hK; simpa using this
 refine Calls.call_function_entry kind_sorted plain_sorted entry_sorted (args_sorted1 _) ?_
 unfold Builtin.«sorted»
 refine wpAny_bind (m:=checkCount "sorted" 1 1 _) (wpAny_pure ?_)
 refine wpAny_bind (kdu_collect (A:=X.A.in1) (kdl_dict (knd:=aS X.prog X.w) (kvs:=kvs) (ep:=ep) lo) (I.ok.hd hc) hat (by exact nz4 (nz3 hl.symm) hz) fun h' tk acc hk hacc=>?_)
 have I1:=I.kept (t':=tk) hk
 have hlen:acc.toList.length=ks.length:=by
  rw [Array.length_toList,hacc.1]; exact Nat.le_antisymm (nz4 (nz3 hl.symm) (nz3 hl2)) (nz4 (nz3 hl2.symm) (nz3 hl))
 have hI:IntsAre acc.toList ks:=by
  have key:∀ (l:List Value) (m:List Int),l.length=m.length→(∀ (i:Nat) v,l[i]?=some v→∃ n t,m[i]?=some n∧v=Value.int n t)→IntsAre l m:=by
   intro l
   induction l with
   | nil=>intro m e _; cases m with
    | nil=>exact .nil
    | cons _ _=>simp at e
   | cons v l ih=>intro m e h; cases m with
    | nil=>simp at e
    | cons n m =>
     refine oq22 (h 0 v rfl) fun n' t e1 eq3_=>?_; subst eq3_
     cases e1
     exact .cons n t (ih m (by simpa using e) fun i v hv=>h (i+1) v (by simpa using hv))
  refine key _ _ hlen fun i v hv=>?_
  obtain ⟨k,x,h1,h2⟩:=hacc.2 i v (by rw [← Array.getElem?_toList]; exact hv)
  obtain ⟨y,e1,e2,e3⟩:=cq hkv h1
  have e4:(ws.map (·.1))[i]?=some y.1:=by rw [List.getElem?_map,e1]; rfl
  rw [hK,List.getElem?_map] at e4
  cases q:ks[i]? with
  | none=>rw [q] at e4; cases e4
  | some n =>
   rw [q] at e4
   have e5:y.1=Sum.inl n:=(Option.some.inj e4).symm
   have e6:k=Sum.inl n:=e2.symm.trans e5
   subst e6
   refine oq11 (Value.isInt_shape (k:=n) (v:=v) h2) fun t e7=>?_
   exact (oi22 n t rfl e7)
 refine wpAny_bind (wpAny_newList ?_ (by rw [hlen,sizeLine_eq]; exact nz5 (nz8 h64 (by decide))))
 have hoL:(h'.push (seqObj "list" acc.toList.toArray 0)).get? h'.objs.size=some (seqObj "list" acc.toList.toArray 0):=Heap.get?_push_size _ rfl
 refine wpAny_bind (wpAny_holding (wpAny_call_entry slot_list_sort ⟨_,hoL,rfl⟩ entry_list_sort
  (list_sort_tree (s:={ s with heap:=h'.push (seqObj "list" acc.toList.toArray 0),toks:=tk }) hoL hI (by exact nz2 (nz3 hlen) h64) fun out ns' a1 a2 a3=>(oi12 _ rfl ?_)) (args_list_sort _)))
 have e:ns'=Pu.srtI ks:=PySem.W.ksm_same (a2.trans (Pu.da ks).symm) a3 (Pu.dG ks)
 subst e
 refine oq11 (sortedHeap_at (out:=out) hoL) fun e1 hat1=>?_
 refine wpAny_pure ⟨_,rfl,.ref _,_,I1.laid (t':=tk) (o:=.lst ((Pu.srtI ks).map V.int)) (fun b ob q=>?_) (nz6 _) ⟨?_,out.toList,e1,dQ a1,hat1⟩,rfl,q _ (I1.hok.fresh (nz6 _))⟩
 ·have hlt:b<h'.objs.size:=Heap.lt_size q
  rw [sortedHeap_old (nz7 hlt) (by rw [size_push']; exact Nat.lt_succ_of_lt hlt)]
  exact Heap.get?_push_of_some _ q
 ·rw [List.length_map,(Pu.da ks).length_eq,sizeLine_eq]; exact nz5 (nz8 h64 (by decide))
end
section
variable {Γ:List Slot} {α β:Type} {ta tb:TE} {K:PySem.W.Frag}
theorem evl_sortP {o:Option (List (Int × Int))} (h:EV Γ ta o (rL (rT2 rInt rInt))):EVL Γ (tCB (rSortP K) (aK ta tNil)) (o.bind fun ps=>Pu.sortP ps) (rT2 rInt rInt):=by
 intro C F σ H Q xs S e k
 refine oq12 (a9 e) fun ps e1 e=>?_
 unfold Pu.sortP at e
 split at e
 ·rename_i h64
  cases e
  refine h C F σ H _ ps S e1 fun v F' H' x1 zq=>oq23 zq fun p vs e2 h1 h2=>?_
  refine ⟨p,vs,ps,by rw [e2],.inl (x1.sub.rd h1),Paired.imp2 (fun _ _ z=>Rp.mono _ x1.sub z) h2,h64.1,h64.2,fun q ix hq hi hx=>?_⟩
  refine k q _ F' H' x1 hq ?_
  rw [← hx]
  exact cU fun i h=>lK h2 (hi i h)
 ·cases e
theorem bx {F:Hp}:∀ {vs:List V} {ns:List Int},Paired (rInt.rel F) vs ns→vs=ns.map V.int
 | _,_,.nil=>rfl
 | _,_,.cons h t=>by rw [List.map_cons,← bx t]; cases h; rfl
theorem evl_sortI {o:Option (List Int)} (h:EV Γ ta o (rL rInt)):EVL Γ (tCB (rSortI K) (aK ta tNil)) (o.bind fun ns=>Pu.sortI ns) rInt:=by
 intro C F σ H Q xs S e k
 refine oq12 (a9 e) fun ns e1 e=>?_
 unfold Pu.sortI at e
 split at e
 ·rename_i h64
  cases e
  refine h C F σ H _ ns S e1 fun v F' H' x1 zq=>oq23 zq fun p vs e2 h1 h2=>⟨p,ns,by rw [e2],?_,h64,fun q hq=>k q _ F' H' x1 hq (paired_ints _)⟩
  rw [← bx h2]; exact .inl (x1.sub.rd h1)
 ·cases e
end
end L2
namespace Pu
variable {α:Type}
noncomputable def index (xs:List Int) (k:Int):Option Int:=if k∈xs∧xs.length≤16777216 then some (xs.idxOf k:Int) else none
noncomputable def dedS (σ:List Int) (k:Int):List Int:=if σ.any (· == k) then σ else σ++[k]
noncomputable def ded (ns:List Int):List Int:=ns.foldl dedS []
noncomputable def pop0 {α T:Type} (xs:List α) (f:α→List α→Option T):Option T:=match xs with
 | []=>none
 | a :: ys=>f a ys
noncomputable def mset (ns:List Int):Option (List Int):=if ns.length+1<4096 then some (ded ns) else none
end Pu
namespace L2
open PySem PySem.Spec PyProof.Rows
variable [Kon]
section
variable {X:Cx} {K:PySem.W.Frag}
noncomputable def rIndex (K:PySem.W.Frag):V→List V→Hp→VK→Prop:=fun x vs H Q=>∃ (l:Addr) (ns:List Int) (k:Int),x=.ref l∧vs=[.int k]∧SqL K H l (ns.map V.int)∧k∈ns∧Q (.int (ns.idxOf k:Nat)) H
theorem mt_index (h:X.K=K):MtM X "list.index" (rIndex K):=by
 subst h
 intro pins s σ H x vs v us Q I rx rv hh
 refine oq35 hh fun l ns k eq3_ eq4_ hS hk q=>?_; subst eq3_; subst eq4_
 cases rx
 refine oq12 rv.one fun u eq1_ zz=>oq11 zz fun t eq3_=>?_; subst eq1_; subst eq3_
 refine oq13 (I.list hS) fun its r ht hz=>?_
 have hi:=eI r
 rw [List.length_map] at hz
 have hlen:=hi.length
 have hj:ns.idxOf k<ns.length:=List.idxOf_lt_length_iff.mpr hk
 refine oq13 ht.isList fun nn1 ho hc zz=>oq11 zz fun n hd=>?_; obtain ⟨cls,dd,data,sl⟩:=nn1
 simp only at hc hd
 subst hc hd
 rw [sizeLine_eq] at hz
 refine call_meets PySem.F.slot_list_index ⟨_,ho,rfl⟩ PySem.F.entry_list_index (PySem.F.args_list_index_2 _ _)
  (SeqAt.list_indexAt l its.toArray n dd sl (.int k t) (isInt k) (ns.idxOf k) (by simpa [hlen] using hj) (by omega) ?_ ?_) (oi03 ho (fun y hy=>(eq_isInt k t hi y (by simpa using hy)).at _ _) ⟨.int _,H,I.tok _,⟨_,rfl⟩,q⟩)
 ·show isInt k its[ns.idxOf k]=true
  rw [isInt_at k hi _ (by exact nz1 hj (nz3 hlen.symm)) hj]
  simpa using List.getElem_idxOf hj
 ·intro j hjs hlt
  show isInt k its[j]=false
  rw [isInt_at k hi j (by simpa using hjs) (by exact nz8 hlt hj)]
  exact ne_of_lt_idxOf hlt _
noncomputable def rMkSet (K:PySem.W.Frag):List V→Hp→VK→Prop:=fun xs H Q=>∃ p ns,xs=[.ref p]∧SqL K H p (ns.map V.int)∧ns.length+1<4096∧∀ q S,H q=none→(∀ k,S k=(Pu.ded ns).any (· == k))→Q (.ref q) (upd H q (.set S (Pu.ded ns).length))
theorem ot (h:X.K=K) (hc:X.calm=true):cA X (.type "set") (rMkSet K):=by
 subst h
 intro pins s σ H xs us Q I r hh
 refine oq24 hh fun p ns eq2_ hS hb q=>?_; subst eq2_
 refine oq12 (vals1 r) fun u eq1_ ru=>?_; subst eq1_
 cases ru
 refine oq13 (I.list hS) fun its rv ht hz=>?_
 have hl:=rv.length
 rw [List.length_map] at hl
 have ed:firstMet (fun i=>ns.getD i 0) its.toArray.size=Pu.ded ns:=by
  unfold firstMet
  have:(List.range its.toArray.size).map (fun i=>ns.getD i 0)=ns:=by
   apply List.ext_getElem
   ·simp [hl]
   ·intro i h1 h2; simp [h2]
  rw [this]; rfl
 refine call_set_list (I.ok.hd hc) ht.isList (by simpa using eI rv) (by simp; have:scanBound=4096:=rfl; omega) fun h' tk hset hk=>?_
 rw [ed] at hset
 exact ⟨.ref _,_,I.laid (t':=tk) (o:=.set _ _) (fun b ob q=>hk b ob (Heap.lt_size q) q) (nz6 _) hset,rfl,q _ _ (I.hok.fresh (nz6 _)) fun _=>rfl⟩
theorem call_lenZ:cA X (.builtin "len") (fun xs H Q=>∃ a S n,xs=[V.ref a]∧H a=some (.set S n)∧Q (.int (n:Nat)) H):=by
 intro pins s σ H xs us Q I r hh
 refine oq33 hh fun a S n eq3_ hH q=>?_; subst eq3_
 refine oq12 (vals1 r) fun u eq1_ ru=>?_; subst eq1_
 cases ru
 refine oq48 ((show bb X.prog X.w H s.heap a (.set S n) from I.hok a _ hH)) fun o es ep t h1 h2 h3 h4 h5 h6 h7 h8=>?_
 subst h8
 have:scanBound=4096:=rfl
 exact call_len_set h1 h2 h3 h7 (by omega) ⟨.int _,H,I.tok _,⟨_,rfl⟩,q⟩
end
noncomputable def rZ:Rp (List Int):=⟨fun H v xs=>∃ p S,v=.ref p∧H p=some (.set S xs.length)∧∀ k,S k=xs.any (· == k),fun e zq=>oq23 zq fun p S h1 h2 h3=>(oi23 p S h1 (e _ _ h2) h3)⟩
section
variable {Γ:List Slot} {α β T S:Type} {r:Rp α} {ta tb te:TE} {K:PySem.W.Frag} {o:Option (List Int)} {oi:Option Int}
theorem ev_index (h:EV Γ ta o (rL rInt)) (h':EV Γ tb oi rInt):EV Γ (tBM K "list" (rIndex K) ta (aK tb tNil)) (o.bind fun xs=>oi.bind fun k=>Pu.index xs k) rInt:=by
 intro C F σ H Q c S e k
 refine oq12 (a9 e) fun xs e1 e=>?_
 refine oq12 (a9 e) fun i e2 e=>?_
 unfold Pu.index at e
 split at e
 ·rename_i hh
  cases e
  refine h C F σ H _ xs S e1 fun v F' H' x1 zq=>oq23 zq fun p vs e3 h1 h2=>?_
  subst e3
  refine ⟨.inl ⟨rfl,vs,.inl (x1.sub.rd h1)⟩,h' C F' σ H' _ i (S.grow x1) e2 fun w F2 H2 x2 r2=>⟨p,xs,i,rfl,by rw [r2],?_,hh.1,k _ F2 H2 (x1.trans x2) rfl⟩⟩
  rw [← bx h2]; exact .inl (x2.sub.rd (x2.ff.rd h1))
 ·cases e
theorem ev_mset (h:EV Γ ta o (rL rInt)):EV Γ (tCB (rMkSet K) (aK ta tNil)) (o.bind fun xs=>Pu.mset xs) rZ:=by
 intro C F σ H Q c S e k
 refine oq12 (a9 e) fun xs e1 e=>?_
 unfold Pu.mset at e
 split at e
 ·rename_i hh
  cases e
  refine h C F σ H _ xs S e1 fun v F' H' x1 zq=>oq23 zq fun p vs e3 h1 h2=>⟨p,xs,by rw [e3],?_,hh,fun q S hq hS=>k _ _ _ (x1.trans (Ext.new x1.sub hq)) ⟨q,S,rfl,af,hS⟩⟩
  rw [← bx h2]; exact .inl (x1.sub.rd h1)
 ·cases e
theorem ev_lenZ (h:EV Γ ta o rZ):EV Γ (tCB (fun xs H Q=>∃ a S n,xs=[V.ref a]∧H a=some (.set S n)∧Q (.int (n:Nat)) H) (aK ta tNil)) (o.bind fun xs=>some (Pu.ln xs)) rInt:=by
 intro C F σ H Q c S e k
 refine oq12 (a9 e) fun xs e1 e=>?_
 cases e
 exact h C F σ H _ xs S e1 fun v F' H' x1 zq=>oq23 zq fun p S e3 h1 h2=>⟨p,S,_,by rw [e3],x1.sub _ _ h1,k _ F' H' x1 rfl⟩
theorem ev_ltT2 {o o':Option (Int × Int)} (h:EV Γ ta o (rT2 rInt rInt)) (h':EV Γ tb o' (rT2 rInt rInt)):EV Γ (tOp (rLtT K) ta tb) (o.bind fun a=>o'.bind fun b=>some (Pu.lt2 a b)) aG :=
 fZ (r:=rT2 rInt rInt) (s:=rT2 rInt rInt) (fun F H x y a b c Q sb ⟨p,u,v,e1,h1,h2,h3⟩ ⟨p',u',v',e2,h4,h5,h6⟩ e k=>by
  cases e
  cases h2; cases h3; cases h5; cases h6
  exact ⟨p,p',[a.1,a.2],[b.1,b.2],e1,e2,SqT.of (sb _ _ h1),SqT.of (sb _ _ h4),by rw [mS]; exact k _ rfl⟩) h h'
theorem keys_of {F:Hp}:∀ {ws:List (Key × V)} {d:List (Int × α)},Paired (dRel r F) ws d→ws.map (·.1)=(d.map (·.1)).map Sum.inl
 | _,_,.nil=>rfl
 | _,_,.cons hh t=>by rw [List.map_cons,List.map_cons,List.map_cons,keys_of t,hh.1]
theorem evl_sortD {o:Option (List (Int × α))} (h:EV Γ ta o (rD r)):EVL Γ (tCB rSortD (aK ta tNil)) (o.bind fun d=>Pu.sortI (d.map (·.1))) rInt:=by
 intro C F σ H Q xs S e k
 refine oq12 (a9 e) fun d e1 e=>?_
 unfold Pu.sortI at e
 split at e
 ·rename_i h64
  cases e
  refine h C F σ H _ d S e1 fun v F' H' x1 zq=>oq23 zq fun p ws e2 h1 h2=>⟨p,ws,d.map (·.1),by rw [e2],x1.sub _ _ h1,?_,h64,fun q hq=>k q _ F' H' x1 hq (paired_ints _)⟩
  exact keys_of h2
 ·cases e
end
section
variable {Γ:List Slot} {α β T S R:Type} {r:Rp α} {rb:Rp β} {ta tb te:TE} {K:PySem.W.Frag} {u tl:TS} {fin:Fc→T→Ends→Prop} {φ:Addr→Prop} {xs:List α}
theorem mT {F:V→α→Prop} {vs:List V} {xs:List α} {a:α} (p:Paired F vs xs) (h:xs.getLast?=some a):∃ v,vs[vs.length - 1]?=some v∧F v a∧Paired F vs.dropLast xs.dropLast:=by
 rw [List.getLast?_eq_getElem?] at h
 refine oq12 (cq p h) fun v h1 h2=>?_
 refine (oi13 v (by rw [p.length]; exact h1) h2 ?_)
 rw [List.dropLast_eq_take,List.dropLast_eq_take,p.length]
 exact Paired.takeB _ p
theorem bv_popF {f:α→List α→Option T} (i j:Nat) (hi:Γ[i]?=some (.ol r φ xs)) (hij:i≠j) (h:∀ a ys,BV ((Γ.set i (.ol r φ ys)).set j (.fr r a)) u (f a ys) fin):BV Γ (tSeq (tAsg (tBM K "list" nU (tVar i) (aK (tC (.int 0)) tNil)) (d4 j)) u) (Pu.pop0 xs f) fin:=bv_pop0 i j hi hij h
theorem bv_forSp {xss:List (List β)} {ws:List Int} {g:TG} {Γf:S→List Slot} {Γt:S→β→List Slot} {m:Nat} {body:S→β→Option S} {f:S→Option T} (st:List Int→S) (b i:Nat) (hb':Γ[b]?=some (.fr (rL (rL rb)) xss)) (hi:Γ[i]?=some (.ol rInt φ ws)) (hs:∀ ys,SubL (Γ.set i (.ol rInt φ ys)) (Γf (st ys))) (hg:∀ s,GV (Γf s) m g rb (Γt s))
  (hb:∀ s x,BV (Γt s x) tl (body s x) (finS Γf)) (h:∀ s,BV (Γf s) u (f s) fin):BV Γ (tSeq (tFor (iList K (tOp (rIxL K) (tVar b) (tBM0 K "list" rPop (tVar i)))) g tl) u) (ws.getLast?.bind fun k=>(Pu.at_ xss k).bind fun xs=>(Pu.forS body xs (st ws.dropLast)).bind f) fin:=by
 intro C F σ H D x S0 e0 k
 refine oq12 (a9 e0) fun a e1 e0=>?_
 refine oq12 (a9 e0) fun xs e2 e0=>?_
 refine oq12 (S0.at_ i _ hi) fun o h1 zz=>oq26 zz fun p vs eq4_ h2 h3 h4 h5 h6=>?_; subst eq4_
 refine oq13 (mT h6 e1) fun v g1 g2 g3=>?_
 refine oq12 (S0.fr hb') fun vb q1 zz=>oq23 zz fun pb vbs eq4_ q2 q3=>?_; subst eq4_
 refine oq12 (jr q3 e2) fun w q4 q5=>?_
 have S1:SR C F (Γ.set i (.ol rInt φ ws.dropLast)) σ (upd H p (.lst vs.dropLast)):=S0.chg (s':=.ol rInt φ ws.dropLast) hi rfl h1 h3 h4 rfl ⟨p,_,rfl,h2,h3,h4,af,g3⟩
 refine oq23 q5 fun pw ws' eq2_ q6 q7=>?_; subst eq2_
 cases g2
 refine ⟨.ref pb,q1,.ref p,h1,.inl ⟨rfl,_,SqL.of h5⟩,p,vs,_,rfl,rfl,h5,g1,pb,vbs,a,_,rfl,rfl,.inl (S1.sub.rd q2),q4,pw,rfl,⟨ws',.inl (S1.sub.rd q6)⟩,?_⟩
 have W:Walks (Itl K pw) F rb xs:=⟨fun i H2 sb hi=>⟨ws',ws'[i]'(by rw [q7.length]; exact hi),.inl (sb.rd q6),by simp⟩,fun H2 sb=>⟨ws',.inl (sb.rd q6),by rw [q7.length]; exact nz6 _⟩,fun i H2 x H3 F1 sb hi ⟨e3,y⟩ s1 s2=>by
  subst e3
  obtain ⟨w,g1,g2⟩:=cq q7 (List.getElem?_eq_getElem hi)
  have ex:x=w:=Option.some.inj ((y ws' (.inl (sb.rd q6))).symm.trans g1)
  subst ex
  exact ⟨F1,xs[i],List.getElem?_eq_getElem hi,Ext.refl s2,rb.mono s1 g2⟩⟩
 refine oq12 (S1.weak (hs _)) fun F2 f2 S2=>?_
 have L1:Same C.L F2:=S2.low
 refine ⟨fun i m σ H=>∃ F3 s',m=xs.length - i∧i≤xs.length∧SR { C with L:=F2 } F3 (Γf s') σ H∧(Pu.forS body (xs.drop i) s').bind f=some x,⟨xs.length,F2,st _,by simp,Nat.zero_le _,S2.lower,by rw [List.drop_zero]; exact e0⟩,?_⟩
 intro i m σ H zq; refine oq24 zq fun F3 s' eq2_ hil S3 e3=>?_; subst eq2_
 by_cases hlt:i<xs.length
 ·refine .inr ⟨W.go i H (f2.trans (S3.low.trans S3.sub)) hlt,fun σ' H'=>∃ F3 s',i+1≤xs.length∧SR { C with L:=F2 } F3 (Γf s') σ' H'∧(Pu.forS body (xs.drop (i+1)) s').bind f=some x,
   fun σ' H' zq=>oq23 zq fun F3 s' h1 h2 h3=>⟨xs.length - (i+1),by omega,F3,s',rfl,h1,h2,h3⟩,fun v H' y=>?_⟩
  refine oq23 (W.yld i H v H' F3 (f2.trans (S3.low.trans S3.sub)) hlt y (f2.trans S3.low) S3.sub) fun F4 a ha x4 ra=>?_
  have ea:xs[i]=a:=(List.getElem?_eq_some_iff.mp ha).2
  rw [← List.getElem_cons_drop (h:=hlt),ea,Pu.forS] at e3
  refine oq12 (a9 e3) fun c1 e4 e5=>?_
  refine oq12 (a9 e4) fun c e6 e7=>?_
  refine hg s' _ F4 σ H' v a _ (S3.grow x4) ra fun σ' S4 _=>?_
  refine hb s' a _ F4 σ' H' _ c S4 e6 ?_
  exact fun F5 σ5 H5 S5=>⟨⟨F5,c,hlt,S5,by rw [e7]; exact e5⟩,⟨F5,c,hlt,S5,by rw [e7]; exact e5⟩⟩
 ·have ei:i=xs.length:=by exact Nat.le_antisymm hil (Nat.not_lt.mp hlt)
  subst ei
  rw [List.drop_length,Pu.forS] at e3
  exact .inl ⟨W.stop H (f2.trans (S3.low.trans S3.sub)),h s' C F3 σ H D x (S3.raise L1) e3 k⟩
end
end L2
namespace L2
open PySem PySem.Spec PyProof.Rows
variable [Kon]
section
variable {prog:Program} {w:World} {A:Around} {E:Value→Shared→Prop} {s:Shared} {vs ks:List Value} {a kS:Addr}
open PySem.W
noncomputable def fh (prog:Program) (w:World) (A:Around) (f:Value) (kS:Addr) (Fi:List Value→Shared→Prop):List Value→List Value→Shared→Prop
 | [],ks,s=>Fi ks s
 | x :: r,ks,s=>wpAny (model prog w) A (call f [x]) (fun k s1=>(∃ e,s1.heap.get? kS=some (seqObj "list" (List.toArray ks) e)) ∧
   fh prog w A f kS Fi r (ks++[k]) { s1 with heap:=s1.heap.update kS (Obj.mapSeq (·.push k)) }) (fun _ _=>False) s
noncomputable def eJ (prog:Program) (w:World) (A:Around) (a:Addr) (e1:Nat) (kS:Addr) (vs:List Value) (P:PySem.Fin→Shared→Prop) (ks:List Value) (s:Shared):Prop :=
 s.heap.get? a=some (seqObj "list" #[] e1)∧∃ (κ:SortKind) (c:Nat→Nat→Bool),Srt.Lin c vs.length∧(2≤vs.length→∀ Q':SortKind→Shared→Prop,Q' κ s→wpAny (model prog w) A (keyKind' (List.toArray ks)) Q' (fun _ _=>False) s) ∧
  (∀ i j C,i<vs.length→j<vs.length→C (c i j) s→kas_ask prog w A κ ks i j C s) ∧
  ∀ p,Srt.Arr vs.length p→Srt.Up c p vs.length→P (.done (.ret .none)) { s with heap:=(s.heap.update kS (Obj.mapSeq fun _=>#[])).update a (Obj.mapSeq fun _=>cT vs p) }
theorem kI {st:SortSt} {e e1:Nat} {p:Array Nat} {P:PySem.Fin→Shared→Prop} (hka:kS≠a) (hk:s.heap.get? kS=some (seqObj "list" (List.toArray ks) e)) (ha:s.heap.get? a=some (seqObj "list" #[] e1)) (hz:ks.length<64)
  (ho:(arrOf st).map (·.2)=cT vs p) (hf:failedOf st=none) (hp:p.size<64) (h:P (.done (.ret .none)) { s with heap:=(s.heap.update kS (Obj.mapSeq fun _=>#[])).update a (Obj.mapSeq fun _=>cT vs p) }) :
  wpAny (model prog w) A (ksk_tail a false e1 (.ref kS) st) P E s:=by
 have ha':(s.heap.update kS (Obj.mapSeq fun _=>(#[]:Array Value))).get? a=some (seqObj "list" #[] e1):=by rw [Heap.get?_update_ne _ _ _ _ (Ne.symm hka)]; exact ha
 unfold ksk_tail
 rw [ho]
 simp only [Bool.false_eq_true,if_false]
 refine wpAny_bind (listUpdate_at hk rfl ?_ (by rw [List.size_toArray,sizeLine_eq]; exact nz5 (nz8 hz (by decide))) (Nat.zero_le _))
 refine wpAny_bind (wpAny_letGo ?_)
 refine wpAny_bind (seqEpoch_at ha' rfl ?_)
 refine wpAny_bind (listUpdate_at ha' rfl ?_ (Nat.zero_le _) (by rw [jw,sizeLine_eq]; exact Nat.le_succ_of_le (nz5 (nz8 hp (by decide)))))
 rw [hf]
 simp only [bne_self_eq_false,Bool.false_eq_true,if_false]
 exact wpAny_pure h
theorem keys_end {e e1:Nat} {P:PySem.Fin→Shared→Prop} (hka:kS≠a) (hk:s.heap.get? kS=some (seqObj "list" (List.toArray ks) e)) (hl:ks.length=vs.length) (h64:vs.length<64) (h:eJ prog w A a e1 kS vs P ks s) :
  wpAny (model prog w) A (ksk_end a false vs.toArray e1 (.ref kS) (List.toArray ks)) P E s:=by
 refine oq02 h fun ha zz=>oq24 zz fun κ c L hkd hc fin=>?_
 unfold ksk_end
 simp only [Bool.false_eq_true,if_false]
 by_cases h2:vs.toArray.size<2
 ·rw [if_pos h2,if_pos h2]
  refine wpAny_bind (wpAny_pure ?_)
  rw [StateT.run_pure]
  refine wpAny_bind (wpAny_pure ?_)
  have sz:vs.length<2:=by simpa using h2
  refine kI (p:=List.toArray (List.range vs.length)) hka hk ha (by exact nz2 (nz3 hl) h64) ?_ rfl (by simp; exact h64) (fin _ ⟨by simp,by simp⟩ fun i j hij hj=>by omega)
  have e2:=kas_range (ks.toArray.zip vs.toArray)
  rw [show (ks.toArray.zip vs.toArray).size=vs.length by simp [hl]] at e2
  exact kat_snds (st:=SortSt.mk' general' (ks.toArray.zip vs.toArray) #[] 7 none) hl e2.symm
 ·rw [if_neg h2,if_neg h2]
  have h2':2≤vs.length:=by simpa using Nat.not_lt.mp h2
  refine wpAny_bind (wpAny_mono (hkd h2' (fun κ' s'=>κ'=κ∧s'=s) ⟨rfl,rfl⟩) ?_ fun _ _ z=>z.elim)
  intro κ' s' zq; refine oq02 zq fun eq0_ eq1_=>?_; subst eq0_; subst eq1_
  have ok:=Srt.ok_sort (c:=c) (n:=vs.length) L (by omega)
  refine wpAny_bind (wpAny_mono (kat_run (κ:=κ') (Q:=fun st' s2=>s2=s'∧∃ p:Array Nat,Srt.Arr vs.length p∧Srt.Up c p vs.length∧arrOf st'=p.map (kas_item (ks.toArray.zip vs.toArray))∧failedOf st'=none)
   (G:=fun p s2=>s2=s'∧Srt.Arr vs.length p∧Srt.Up c p vs.length) hl h2' h64 (fun p st' s2 _ b2 b3 b4=>⟨b4.1,p,b4.2.1,b4.2.2,b2,b3⟩) (Srt.Ok.wp hc (fun p hp=>⟨rfl,hp⟩) ok)) ?_ fun _ _ z=>z)
  rintro ⟨⟨⟩,st'⟩ s2 ⟨rfl,p,b1,b2,b3,b4⟩
  exact kI hka hk ha (by exact nz2 (nz3 hl) h64) (kat_snds hl b3) b4 (by rw [b1.sz]; exact h64) (fin p b1 b2)
theorem kJ {f:Value} {Fi:List Value→Shared→Prop} {n:Nat} {body:Value→PUnit→Sem (ForInStep PUnit)} (hn:n<64)
  (hb:∀ x l (s1:Shared) (C:Value→Shared→Prop),List.length l<64→wpAny (model prog w) A (call f [x]) (fun k s2=>(∃ e,s2.heap.get? kS=some (seqObj "list" (List.toArray l) e))∧C k { s2 with heap:=s2.heap.update kS (Obj.mapSeq (·.push k)) }) (fun _ _=>False) s1 →
   wpAny (model prog w) A (body x ⟨⟩) (fun r s2=>r=.yield ⟨⟩∧∃ k,(∃ e,s2.heap.get? kS=some (seqObj "list" (List.toArray (l++[k])) e))∧C k s2) E s1):∀ (r l:List Value) (s1:Shared),l.length+r.length=n →
   (∃ e,s1.heap.get? kS=some (seqObj "list" (List.toArray l) e))→fh prog w A f kS Fi r l s1 →
   wpAny (model prog w) A (forIn r PUnit.unit body) (fun _ s2=>∃ l,(∃ e,s2.heap.get? kS=some (seqObj "list" (List.toArray l) e))∧l.length=n∧Fi l s2) E s1
 | [],l,s1,hl,hk,h=>by
  rw [List.forIn_nil]
  exact wpAny_pure (oi13 l hk (by simpa using hl) h)
 | x :: r,l,s1,hl,hk,h=>by
  rw [List.length_cons] at hl
  rw [List.forIn_cons]
  refine wpAny_bind (wpAny_mono (hb x l s1 _ (by omega) h) ?_ fun _ _ z=>z)
  intro q s2 zq; refine oq02 zq fun eq0_ zz=>oq12 zz fun k hk' h2=>?_; subst eq0_
  exact kJ hn hb r (l++[k]) s2 (by rw [List.length_append,List.length_singleton]; omega) hk' h2
theorem keys_rest {f:Value} {e1:Nat} {P:PySem.Fin→Shared→Prop} (hka:kS≠a) (hk:s.heap.get? kS=some (seqObj "list" #[] 0)) (h64:vs.length<64) (h:fh prog w A f kS (eJ prog w A a e1 kS vs P) vs [] s) :
  wpAny (model prog w) A (ksk_rest a f false vs.toArray e1 (.ref kS)) P E s:=by
 unfold ksk_rest
 refine wpAny_bind (wpAny_rule ?_)
 first
  | rw [List.forIn_toArray]
  | rw [← Array.forIn_toList]
 refine wpAny_bind (wpAny_mono (kJ (kS:=kS) h64 (fun x l s1 C hz hx=>?_) vs [] s (by simp) ⟨0,hk⟩ h) ?_ fun _ _ z=>z)
 ·refine wpAny_bind (wpAny_attempt (wpAny_mono hx ?_ fun _ _ z=>z.elim))
  rintro k s2 ⟨⟨e,he⟩,hC⟩
  have ea:(List.toArray l).push k=List.toArray (l++[k]):=by simp
  have hn:∃ e2,(s2.heap.update kS (Obj.mapSeq (·.push k))).get? kS=some (seqObj "list" (List.toArray (l++[k])) e2):=⟨_,by rw [← ea]; exact get?_update_seq he (·.push k)⟩
  refine wpAny_bind (listUpdate_at he rfl ?_ (by rw [List.size_toArray,sizeLine_eq]; exact nz5 (nz8 hz (by decide))) (by rw [Array.size_push,List.size_toArray,sizeLine_eq]; omega))
  exact wpAny_pure ⟨rfl,k,hn,hC⟩
 ·rintro _ s2 ⟨l,⟨e,he⟩,hl,fin⟩
  refine wpAny_bind (listItems_at he rfl ?_)
  exact keys_end hka he hl h64 fin
theorem jZ {f:Value} {n:Nat} {P:PySem.Fin→Shared→Prop} (ho:s.heap.get? a=some (seqObj "list" vs.toArray n)) (h64:vs.length<64)
  (h:∀ (e1:Nat) (kS:Addr) (h':Heap),(∀ b o,b≠a→s.heap.get? b=some o→h'.get? b=some o)→h'.get? a=some (seqObj "list" #[] e1)→h'.get? kS=some (seqObj "list" #[] 0)→s.heap.objs.size≤kS→kS<h'.objs.size →
   fh prog w A f kS (eJ prog w A a e1 kS vs P) vs [] { s with heap:=h' }):wpAny (model prog w) A (ksk_tree a f false) P E s:=by
 have ha:a<s.heap.objs.size:=Heap.lt_size ho
 obtain ⟨e1,ho1⟩:∃ e1,(s.heap.update a (Obj.mapSeq fun _=>(#[]:Array Value))).get? a=some (seqObj "list" #[] e1):=⟨_,get?_update_seq ho (fun _=>#[])⟩
 have hz:((s.heap.update a (Obj.mapSeq fun _=>(#[]:Array Value))).push (seqObj "tuple" vs.toArray 0)).objs.size=s.heap.objs.size+1:=by rw [size_push',Heap.size_update]
 unfold ksk_tree
 refine wpAny_bind (listItems_at ho rfl ?_)
 refine wpAny_bind (listUpdate_at ho rfl ?_ (by rw [List.size_toArray,sizeLine_eq]; exact nz5 (nz8 h64 (by decide))) (Nat.zero_le _))
 refine wpAny_bind (seqEpoch_at ho1 rfl ?_)
 refine wpAny_bind (wpAny_newTuple ?_ (by show vs.length≤_; rw [sizeLine_eq]; exact nz5 (nz8 h64 (by decide))))
 refine wpAny_bind (wpAny_newList ?_ (Nat.zero_le _))
 refine wpAny_holding ?_
 have hkS:(((s.heap.update a (Obj.mapSeq fun _=>(#[]:Array Value))).push (seqObj "tuple" vs.toArray 0)).push (seqObj "list" #[] 0)).get? ((s.heap.update a (Obj.mapSeq fun _=>(#[]:Array Value))).push (seqObj "tuple" vs.toArray 0)).objs.size=some (seqObj "list" #[] 0):=Heap.get?_push_size _ rfl
 refine keys_rest (s:={ s with heap:=((s.heap.update a (Obj.mapSeq fun _=>(#[]:Array Value))).push (seqObj "tuple" vs.toArray 0)).push (seqObj "list" #[] 0) }) (by rw [hz]; exact Nat.ne_of_gt (Nat.lt_succ_of_lt ha)) hkS h64 (h e1 _ _ (fun b o nb q=>?_) ?_ hkS (by rw [hz]; exact Nat.le_succ _) (Heap.lt_size hkS))
 ·refine Heap.get?_push_of_some _ (Heap.get?_push_of_some _ ?_)
  rw [Heap.get?_update_ne _ _ _ _ nb]; exact q
 ·exact Heap.get?_push_of_some _ (Heap.get?_push_of_some _ ho1)
theorem ow {l q:Addr} {Q:Value→Shared→Prop} (hl:s.heap.IsList l vs.toArray) (h64:vs.length<64)
  (h:∀ (D:Addr) (e1:Nat) (kS:Addr) (h':Heap),(∀ b o,s.heap.get? b=some o→h'.get? b=some o)→h'.get? D=some (seqObj "list" #[] e1)→h'.get? kS=some (seqObj "list" #[] 0)→s.heap.objs.size≤D→D<kS→kS<h'.objs.size →
   fh prog w A.in1.in1 (.ref q) kS (eJ prog w A.in1.in1 D e1 kS vs fun f s'=>Q (.ref D) s') vs [] { s with heap:=h' }) :
  wpAny (model prog w) A (call (.builtin "sorted") [.ref l] [(Str.ofString "key",.ref q)]) Q E s:=by
 refine call_function_entry_kw kind_sorted plain_sorted entry_sorted (ksk_s1 _ _) ?_
 unfold Builtin.«sorted»
 refine wpAny_bind (m:=checkCount "sorted" 1 1 _) (wpAny_pure ?_)
 refine wpAny_bind (collect_list hl ?_ (by rw [sizeLine_eq]; exact nz5 (nz8 h64 (by decide))))
 refine wpAny_bind (wpAny_newList ?_ (by rw [sizeLine_eq]; exact nz5 (nz8 h64 (by decide))))
 have hsz:((s.heap.push (seqObj "list" #[] 0)).update s.heap.objs.size (Obj.mapSeq (·++vs.toArray))).objs.size=s.heap.objs.size+1:=by
  rw [Heap.size_update,size_push']
 have hoL:(((s.heap.push (seqObj "list" #[] 0)).update s.heap.objs.size (Obj.mapSeq (·++vs.toArray))).push (seqObj "list" vs.toArray 0)).get? (s.heap.objs.size+1)=some (seqObj "list" vs.toArray 0):=by
  rw [← hsz]; exact Heap.get?_push_size _ rfl
 have keep:∀ b o,s.heap.get? b=some o→b≠s.heap.objs.size+1∧(((s.heap.push (seqObj "list" #[] 0)).update s.heap.objs.size (Obj.mapSeq (·++vs.toArray))).push (seqObj "list" vs.toArray 0)).get? b=some o:=fun b o q=>by
  have hlt:b<s.heap.objs.size:=Heap.lt_size q
  refine ⟨nz7 (Nat.lt_succ_of_lt hlt),Heap.get?_push_of_some _ ?_⟩
  rw [Heap.get?_update_ne _ _ _ _ (nz7 hlt)]
  exact Heap.get?_push_of_some _ q
 show wpAny _ _ _ _ _ { s with heap:=((s.heap.push (seqObj "list" #[] 0)).update s.heap.objs.size (Obj.mapSeq (·++vs.toArray))).push (seqObj "list" vs.toArray 0) }
 rw [hsz]
 refine wpAny_bind (wpAny_holding (wpAny_call_entry_kw slot_list_sort ⟨_,hoL,rfl⟩ entry_list_sort ?_ (ksk_l1 _ _)))
 rw [ksk_t1]
 refine jZ (s:={ s with heap:=((s.heap.push (seqObj "list" #[] 0)).update s.heap.objs.size (Obj.mapSeq (·++vs.toArray))).push (seqObj "list" vs.toArray 0) }) hoL h64 fun e1 kS h' k1 k2 k3 k4 k5=>?_
 have hDk:s.heap.objs.size+1<kS:=by
  have:(((s.heap.push (seqObj "list" #[] 0)).update s.heap.objs.size (Obj.mapSeq (·++vs.toArray))).push (seqObj "list" vs.toArray 0)).objs.size=s.heap.objs.size+2:=by rw [size_push',hsz]
  have k4':s.heap.objs.size+2≤kS:=by rw [← this]; exact k4
  (clear k5 k4 k3 k2 k1 keep hoL hsz h h64 hl; omega)
 have hh:=h (s.heap.objs.size+1) e1 kS h' (fun b o q=>k1 b o (keep b o q).1 (keep b o q).2) k2 k3 (Nat.le_succ _) hDk k5
 have mono:∀ (r l:List Value) (s1:Shared),fh prog w A.in1.in1 (.ref q) kS (eJ prog w A.in1.in1 (s.heap.objs.size+1) e1 kS vs fun f s'=>Q (.ref (s.heap.objs.size+1)) s') r l s1 →
   fh prog w A.in1.in1 (.ref q) kS (eJ prog w A.in1.in1 (s.heap.objs.size+1) e1 kS vs fun fin s'=>∃ v,fin=.done (.ret v)∧wpAny (model prog w) A.in1 (ret (.ref (s.heap.objs.size+1))) (fun fin s'=>∃ v,fin=.done (.ret v)∧Q v s') E s') r l s1:=by
  intro r
  induction r with
  | nil=>exact fun l s1 zq=>oq02 zq fun z0 zz=>oq24 zz fun κ c z1 z2 z3 z4=>⟨z0,κ,c,z1,z2,z3,fun p a1 a2=>(oi12 _ rfl (wpAny_pure (oi12 _ rfl (z4 p a1 a2))))⟩
  | cons x r ih=>exact fun l s1 z=>wpAny_mono z (fun k s2 z2=>⟨z2.1,ih _ _ z2.2⟩) fun _ _ z=>z
 exact mono _ _ _ hh
end
end L2
namespace L2
open PySem PySem.Spec PyProof.Rows
variable [Kon]
noncomputable def iA (X:Cx) (A:Around) (N':List Str) (qual:Str) (scope:Scope) (f:Addr) (cd:Value) (cl:List (Str × Addr)) (s:Shared) (H:Hp):Cx where
 prog:=X.prog
 w:=X.w
 K:=X.K
 mg:=X.mg
 base:=X.base
 A:=A.deeper (PySem.W.envX qual scope s.heap.objs.size f cd cl)
 N:=N'
 s₀:=s
 H₀:=H
 env:=PySem.W.envX qual scope s.heap.objs.size f cd cl
 outer:=X.stack
 stack:=PySem.W.envX qual scope s.heap.objs.size f cd cl :: X.stack
 ex:=[]
 fn:=fun _=>false
 calm:=true
 pn:=[]
 xe:=fun _ _=>False
structure LamScope (X:Cx) (x:Str) (cap:List (Str × Nat)) (scope:Scope):Prop where
 kind:scope.kind=.function
 co:scope.isCoroutine=false
 gen:scope.isGenerator=false
 nocell:∀ y∈scope.names,y.2≠.cell
 par:scope.names.lookup x=some .local
 free0:freeOk scope.names X.env.scope.names=true
 cap:kz X scope cap
noncomputable def dY (v:V) (cap:List (Str × Nat)) (σ:St):St:=some v :: cap.map fun p=>(σ[p.2]?).join
structure LamCl (X:Cx) (scope:Scope) (cl:List (Str × Addr)):Prop where
 of:∀ x c,cl.lookup x=some c→X.env.cells.lookup x=some c
 has:∀ y∈scope.names,y.2=.free→∃ c,cl.lookup y.1=some c
section
variable {X:Cx} {A:Around} {pins:List (Addr × Obj)} {σ:St} {H:Hp} {s:Shared} {x:Str} {cap:List (Str × Nat)} {scope:Scope} {cl:List (Str × Addr)} {qual:Str} {f:Addr} {cd:Value}
theorem inv_lam {h1:Heap} {t':Nat} {v:V} {u:Value} (S:LamScope X x cap scope) (C:LamCl X scope cl) (I:Inv X pins σ H s) (hA:A.frames=some X.stack) (hh:A.handled=none) (r:RelV v u)
  (hns:h1.Ns s.heap.objs.size (fun y=>[(x,u)].reverse.lookup y)) (hk:∀ b o,s.heap.get? b=some o→h1.get? b=some o) :
  Inv (iA X A (x :: cap.map (·.1)) qual scope f cd cl s H) [] (dY v cap σ) H { s with heap:=h1,toks:=t' }:=by
 have noA:∀ b:Addr,b ∉ (iA X A (x :: cap.map (·.1)) qual scope f cd cl s H).ex:=fun b z=>absurd (show b∈([]:List Addr) from z) (by simp)
 refine ⟨⟨I.ok.mod,S.kind,rfl,rfl,nz6 _,fun y z c h1 h2=>I.ok.inj y z c (C.of y c h1) (C.of z c h2),fun y hy=>?_,fun y c h _=>absurd (show (false=true) from h) (by decide),fun _=>hh,Around.frames_deeper hA,.inr ⟨rfl,rfl⟩,fun b z=>absurd z (noA b),I.bs,
   nz4 I.ok.bsz I.sz,fun b _ _=>noA b,fun b z=>absurd z (noA b),I.stack,I.stkFree⟩,
  rfl,I.bare,Un.kept hk,(oi12 _ hns (fun i y z e1 e2 e3=>?_)),fun y c e=>?_,I.hok.fresh (nz6 _),fun y c e=>I.freeC y c (C.of y c e),fun p hp=>absurd (show p∈([]:List (Addr × Obj)) from hp) (by simp),I.hok.kept hk,by simp [iA,dY]⟩
 ·have hy:scope.names.lookup y=some .cell∨scope.names.lookup y=some .free:=hy
  rcases hy with hy | hy
  ·exact absurd rfl (S.nocell _ (PySem.mem_of_lookup hy))
  ·exact C.has _ (PySem.mem_of_lookup hy) rfl
 ·cases i with
  | zero =>
   have e1:some x=some y:=e1
   have e2:some (some v)=some (some z):=e2
   cases e1; cases e2
   exact (oi12 u r (.inl ⟨S.par,by simp⟩))
  | succ i =>
   have e1:(cap.map (·.1))[i]?=some y:=e1
   have e2:(cap.map fun p=>(σ[p.2]?).join)[i]?=some (some z):=e2
   rw [List.getElem?_map] at e1 e2
   cases q:cap[i]? with
   | none=>rw [q] at e1; cases e1
   | some p =>
    rw [q] at e1 e2
    have e1:p.1=y:=Option.some.inj e1
    have e2:(σ[p.2]?).join=some z:=Option.some.inj e2
    subst e1
    have e4:σ[p.2]?=some (some z):=by
     cases q2:σ[p.2]? with
     | none=>rw [q2] at e2; cases e2
     | some o=>rw [q2] at e2; exact congrArg some e2
    refine oq03 (S.cap.get p (List.mem_of_getElem? q)) fun c1 c2 c3=>?_
    refine oq12 I.loc fun m _ hl=>?_
    have vis:Vis X.env.scope p.1:=by
     rcases c3 with k | k
     ·exact .inr (.inl k)
     ·exact .inr (.inr k)
    refine oq12 (hl p.2 p.1 z c1 e4 vis) fun u' r' l=>?_
    refine (oi12 u' r' (.inr ⟨.inr c2,?_⟩))
    rcases l with ⟨k,_⟩ | ⟨_,c,e,hc⟩
    ·rcases c3 with z | z
     ·rw [k] at z; cases z
     ·rw [k] at z; cases z
    ·refine oq11 (C.has (p.1,.free) (PySem.mem_of_lookup c2) rfl) fun c' hc'=>?_
     have:c'=c:=Option.some.inj ((C.of _ _ hc').symm.trans e)
     subst this
     refine oq12 hc fun o ho hd=>?_
     exact ⟨c',hc',o,hk _ o ho,hd⟩
 ·refine oq22 (I.cell y c (C.of y c e)) fun v o ho hd=>?_
  exact ⟨v,o,hk _ o ho,hd⟩
open PySem.W in
theorem lL {params:Arguments} {body:Expr} {pm ctv:Value} {c':Addr} {tb:TE} {v:V} {u:Value} {Q:VK} (S:LamScope X x cap scope) (C:LamCl X scope cl) (I:Inv X pins σ H s) (ho:s.heap.get? f=some (kla_obj "<lambda>" qual params body scope cl pm c' ctv))
  (hA:A.frames=some X.stack) (hh:A.handled=none) (hd:A.depth<recursionLimit) (hc:H c'=some (.ext (be c' qual))) (hb:∀ cl pm cd ct u,bindArgs (kla_fn "<lambda>" qual params body scope cl pm cd ct) ⟨[u],[]⟩=pure [(x,u)])
  (hp:PE (iA X A (x :: cap.map (·.1)) qual scope f (.ref c') cl s H) body tb) (r:RelV v u) (h:tb (dY v cap σ) H Q):wpAny (model X.prog X.w) A (call (.ref f) [u]) (EP X pins σ Q) (fun _ _=>False) s:=by
 have hcd:s.heap.CodeRec (.ref c') qual:=(show bb X.prog X.w H s.heap c' (.ext (be c' qual)) from I.hok c' _ hc).1
 refine wpAny_call (codeAny_mono (R:=fun r s'=>match r with | .ok (.ret u')=>EP X pins σ Q u' s' | _=>False) (kla_callFunE hd ho rfl S.co S.gen rfl hcd ?_) fun r s' hr=>?_)
 ·rw [hb]
  refine wpAny_pure (wpAny_newFunctionEnv S.nocell (fun y hy=>?_) (fun h₁ hns hsb=>⟨I.nolimit.fresh _ hsb,?_⟩) S.kind)
  ·rw [List.mem_singleton.mp hy]; exact S.par
  have hk₁:∀ b o,s.heap.get? b=some o→h₁.get? b=some o:=fun b o e=>hsb.extBut b o (nz7 (Heap.lt_size e)) (Heap.get?_push_of_some _ e)
  refine kla_codeExpr (wpAny_mono (hp [] _ _ H Q (inv_lam (qual:=qual) (f:=f) (cd:=.ref c') S C I hA hh r hns hk₁) h) (fun u' s' he=>?_) fun _ _ z=>z.elim)
  refine oq23 he fun v' H' J rv q=>?_
  exact I.after ⟨v',H',J.os,J.bare,J.base,J.hok,rv,q⟩
 ·cases r with
  | error e=>exact hr.elim
  | ok fl =>
   cases fl with
   | ret u=>exact hr
   | next=>exact hr.elim
   | brk=>exact hr.elim
   | cont=>exact hr.elim
end
noncomputable def BM (mg:Str→Option Value) (base:Heap):Prop:=∃ bm ob,mg "__builtins__"=some (.ref bm)∧bm≠builtinsNs∧base.get? bm=some ob∧ob.cls=.type "module"∧ob.dict=some builtinsNs∧ob.data=.plain
noncomputable def TbSt (P:Addr) (H H':Hp):Prop:=H'=H∨∃ (ps:Array Value) (c:Addr) (pos:Pos),H P=some (.tbl ps)∧codeAmong pos ps.toList=none∧H c=none∧c≠P ∧
 H'=upd (upd H P (.tbl (ps++#[rawInt pos.line,rawInt pos.col,.ref c]))) c (.ext (be c (Kon.Q P)))
theorem k7 {pos pos':Pos} {c cv:Value} (l:List Value) (h:TriplesOk l) (hc:codeAmong pos' (l++[rawInt pos.line,rawInt pos.col,c])=some cv):codeAmong pos' l=some cv∨cv=c:=by
 fun_induction TriplesOk l with
 | case1 =>
  simp only [List.nil_append,rawInt,codeAmong] at hc
  split at hc
  ·cases hc; exact .inr rfl
  ·cases hc
 | case2 a t b u x rest ih =>
  simp only [List.cons_append,codeAmong] at hc ⊢
  split at hc
  ·rename_i z; rw [if_pos z]; exact .inl hc
  ·rename_i z; rw [if_neg z]; exact ih h hc
 | case3 l h1 h2=>exact h.elim
theorem TbSt.sm {P:Addr} {H H':Hp} (t:TbSt P H H'):Sm H H':=by
 rcases t with rfl | ⟨ps,c,pos,hP,hnf,hc,hcP,rfl⟩
 ·exact Sm.refl _
 have old:∀ b o,b≠P→H b=some o→upd (upd H P (.tbl (ps++#[rawInt pos.line,rawInt pos.col,.ref c]))) c (.ext (be c (Kon.Q P))) b=some o:=fun b o nb q=>by
  rw [ac (ah q hc),ac nb]; exact q
 have atP:upd (upd H P (.tbl (ps++#[rawInt pos.line,rawInt pos.col,.ref c]))) c (.ext (be c (Kon.Q P))) P=some (.tbl (ps++#[rawInt pos.line,rawInt pos.col,.ref c])):=by rw [ac (Ne.symm hcP),af]
 refine ⟨fun b o n q=>old b o (fun e=>?_) q,fun b qs q=>?_,fun g=>⟨fun P' hP'=>?_,fun P' qs q=>?_⟩⟩
 ·subst e; rw [hP] at q; cases q; exact n
 ·by_cases e:b=P
  ·subst e; rw [hP] at q; cases q; exact ⟨_,atP⟩
  ·exact ⟨#[],by rw [old b _ e q]; simp⟩
 ·refine oq11 (g.there P' hP') fun qs e=>?_
  by_cases e':P'=P
  ·subst e'; exact ⟨_,atP⟩
  ·exact ⟨qs,old _ _ e' e⟩
 ·by_cases e':P'=P
  ·subst e'
   rw [atP] at q
   cases q
   refine oq02 (g.good P' ps hP) fun g1 g2=>?_
   have el:(ps++#[rawInt pos.line,rawInt pos.col,Value.ref c]).toList=ps.toList++[rawInt pos.line,rawInt pos.col,Value.ref c]:=by simp
   rw [el]
   refine ⟨TriplesOk_snoc _ _ _ _ g1,fun pos' cv hcv=>?_⟩
   rcases k7 _ g1 hcv with z | z
   ·refine oq12 (g2 pos' cv z) fun c2 e1 e2=>?_
    exact (oi12 c2 e1 (old _ _ (fun e=>by rw [e,hP] at e2; cases e2) e2))
   ·exact (oi12 c z af)
  ·have nc:P'≠c:=by rintro rfl; rw [af] at q; cases q
   rw [ac nc,ac e'] at q
   refine oq02 (g.good P' qs q) fun g1 g2=>?_
   exact ⟨g1,fun pos' cv hcv=>by refine oq12 (g2 pos' cv hcv) fun c2 e1 e2=>?_; exact (oi12 c2 e1 (old _ _ (fun e=>by rw [e,hP] at e2; cases e2) e2))⟩
section
variable {X:Cx} {pins:List (Addr × Obj)} {σ:St} {H:Hp} {s:Shared} {x:Str} {cap:List (Str × Nat)} {scope:Scope} {c P:Addr} {params:Arguments} {body:Expr} {pos:Pos}
theorem Inv.addPin {f:Addr} {o:Obj} (I:Inv X pins σ H s) (h1:s.heap.get? f=some o) (h2:H f=none) (h3:f≠X.env.locals) (h4:f ∉ X.fs) (h5:∀ v,o.data≠.cell v):Inv X ((f,o) :: pins) σ H s :=
 I.pins_of fun p hp=>by
  rcases List.mem_cons.mp hp with rfl | hp
  ·exact (oi05 h1 h2 h3 h4 h5)
  ·exact I.pin p (List.mem_append_right _ hp)
open PySem.W in
theorem mk_lam {Q:Value→Shared→Prop} (I:Inv X pins σ H s) (S:LamScope X x cap scope) (tg:TbG H) (hT:P∈Kon.T) (hq:Kon.Q P=X.env.qual++"<lambda>") (hcode:X.env.code=.ref c) (hC:codeHdIn X.K c P=true) (bm:BM X.mg X.base) (hdef:defaultsOf params X.env=([],[]))
  (h:∀ f cl pm c' ctv H' s',Inv X ((f,kla_obj "<lambda>" (Kon.Q P) params body scope cl pm c' ctv) :: pins) σ H' s'→TbSt P H H'→H' c'=some (.ext (be c' (Kon.Q P)))→LamCl X scope cl→Q (.ref f) s') :
  wpAny (model X.prog X.w) X.A (eval (.Lambda params body scope pos) X.env) Q X.xe s:=by
 refine oq11 (tg.there P hT) fun ps hP=>?_
 refine oq02 (tg.good P ps hP) fun t1 t2=>?_
 have hPo:s.heap.get? P=some (tabObj ps):=(show bb X.prog X.w H s.heap P (.tbl ps) from I.hok P _ hP)
 refine oq13 (gf (scope:=scope) (env:=X.env) fun y hy hf=>I.ok.has y.1 (ji S.free0 y hy hf)) fun cl hcl hcl1 hcl2=>?_
 have CL:LamCl X scope cl:=⟨hcl1,hcl2⟩
 have hgs:=I.mod.glob.keeps I.bk
 refine oq26 bm fun b ob b1 b2 b3 b4 b5 b6=>?_
 have b3':=I.bk _ _ b3
 have hgP:mainGlobals≠P:=fun q=>by
  refine oq33 hgs fun o es ep e hd _=>?_
  rw [q,hPo] at e; cases e; cases hd
 have hbP:b≠P:=fun q=>by rw [q,hPo] at b3'; cases b3'; cases b4
 have hbG:b≠mainGlobals:=fun q=>by
  refine oq33 hgs fun o es ep e hd _=>?_
  rw [q,e] at b3'; cases b3'; rw [hd] at b6; cases b6
 have bat:s.heap.BuiltinsAt X.mg P:=⟨b,ob,b1,b2,hbG,hbP,b3',b4,b5,b6⟩
 have CD:=codeHd_of_K I.kIn hC
 refine kla_eval hdef ?_
 rw [← hq]
 cases hf:codeAmong pos ps.toList with
 | some cv =>
  refine oq12 (t2 pos cv hf) fun c' eq1_ e2=>?_; subst eq1_
  refine kla_makeFunctionHit (mg:=X.mg) hcl I.ok.glob hgs hcode CD hPo t1 hf bat fun ctv h' tk hk hsz=>?_
  have I1:Inv X pins σ H { s with heap:=h'.push (kla_obj "<lambda>" (Kon.Q P) params body scope cl ((X.mg "__name__").getD .none) c' ctv),toks:=tk }:=I.kept fun b u e=>Heap.get?_push_of_some _ (hk b u e)
  exact h h'.objs.size cl ((X.mg "__name__").getD .none) c' ctv H _ (I1.addPin (Heap.get?_push_size _ rfl) (I.hok.fresh hsz) (Nat.ne_of_gt (nz1 I.lt hsz)) (I.nofs hsz) fun v z=>nomatch z) (.inl rfl) e2 CL
 | none =>
  refine kla_makeFunction (mg:=X.mg) hcl I.ok.glob hgs hcode CD hPo t1 hf hgP bat fun c' ctv h' tk hx hge hlt hrec htb=>?_
  have hcn:H c'=none:=I.hok.fresh hge
  have hcP:c'≠P:=fun z=>by rw [z,hP] at hcn; cases hcn
  have hPL:P≠X.env.locals:=fun z=>by rw [z] at hP; rw [I.free] at hP; cases hP
  have hsz:s.heap.objs.size≤h'.objs.size:=nz5 (nz2 hge hlt)
  have unt:∀ b,H b=none→b≠P:=fun b n z=>by rw [z,hP] at n; cases n
  have kp:∀ b o,b≠P→s.heap.get? b=some o→(h'.push (kla_obj "<lambda>" (Kon.Q P) params body scope cl ((X.mg "__name__").getD .none) c' ctv)).get? b=some o:=fun b o nb e=>Heap.get?_push_of_some _ (hx b o nb e)
  have hP2:(h'.push (kla_obj "<lambda>" (Kon.Q P) params body scope cl ((X.mg "__name__").getD .none) c' ctv)).get? P=some (tabObj (ps++#[rawInt pos.line,rawInt pos.col,.ref c'])):=Heap.get?_push_of_some _ htb
  have lkO:∀ b o,b≠P→H b=some o→upd (upd H P (.tbl (ps++#[rawInt pos.line,rawInt pos.col,.ref c']))) c' (.ext (be c' (Kon.Q P))) b=some o:=fun b o nb q=>by
   rw [ac (ah q hcn),ac nb]; exact q
  have lkP:upd (upd H P (.tbl (ps++#[rawInt pos.line,rawInt pos.col,.ref c']))) c' (.ext (be c' (Kon.Q P))) P=some (.tbl (ps++#[rawInt pos.line,rawInt pos.col,.ref c'])):=by rw [ac (Ne.symm hcP),af]
  have I1:Inv X pins σ (upd (upd H P (.tbl (ps++#[rawInt pos.line,rawInt pos.col,.ref c']))) c' (.ext (be c' (Kon.Q P)))) { s with heap:=h'.push (kla_obj "<lambda>" (Kon.Q P) params body scope cl ((X.mg "__name__").getD .none) c' ctv),toks:=tk }:=by
   refine I.step (g':=s.gens) (d':=s.drawn) (ch:=[]) (fun _ z=>nomatch z) (fun b o _ _ _ e n=>kp b o (unt b n) e) (fun b o _ _ _ e n=>⟨o.slots,kp b o (unt b n) e⟩) (fun b o _ e n=>?_) (fun b o _ e=>?_) (fun b xs q=>?_) (fun b o u q=>?_) (fun b qs q=>?_) (fun m hm=>?_) (fun a o q=>?_) I.bare
   ·rw [ac (nz7 (nz1 (Heap.lt_size e) hge)),ac (unt b n)]; exact n
   ·by_cases z:b=P
    ·subst z; exact ⟨_,hP2⟩
    ·exact ⟨o,kp b o z e⟩
   ·exact lkO b _ (fun z=>by rw [z,hP] at q; cases q) q
   ·exact lkO b _ (fun z=>by rw [z,hP] at q; cases q) q
   ·by_cases z:b=P
    ·subst z; rw [hP] at q; cases q; exact ⟨_,lkP⟩
    ·exact ⟨#[],by rw [lkO b _ z q]; simp⟩
   ·exact (hm.extBut hx (Ne.symm hPL)).push _
   ·by_cases z:a=c'
    ·subst z
     rw [af] at q
     cases q
     refine oq44 hrec fun c2 oc vs t e2 hoc hd hv=>?_
     cases e2
     refine ⟨⟨a,oc,vs,t,rfl,Heap.get?_push_of_some _ hoc,hd,hv⟩,⟨oc,Heap.get?_push_of_some _ hoc⟩,fun h1 h2 ⟨c3,oc3,vs3,t3,e3,z1,z2,z3⟩ kk=>?_⟩
     cases e3
     exact ⟨a,oc3,vs3,t3,rfl,kk _ z1,z2,z3⟩
    ·by_cases z2:a=P
     ·subst z2; rw [lkP] at q; cases q; exact hP2
     ·rw [ac z,ac z2] at q
      refine (I.hok a o q).stay (fun b u hb e=>kp b u ?_ e) (fun b q=>lkO b _ (fun z=>by rw [z,hP] at q; cases q) q) fun b xs q=>lkO b _ (fun z=>by rw [z,hP] at q; cases q) q
      rcases hb with rfl | hb
      ·exact z2
      ·intro e; rw [e,hP] at hb; cases hb
  exact h h'.objs.size cl ((X.mg "__name__").getD .none) c' ctv _ _ (I1.addPin (Heap.get?_push_size _ rfl) (by rw [ac (Nat.ne_of_gt hlt),ac (fun z=>by rw [z] at hsz; exact absurd (nz1 (I.hok.lt hP) hsz) (Nat.lt_irrefl _))]; exact I.hok.fresh hsz) (Nat.ne_of_gt (nz1 I.lt hsz)) (I.nofs hsz) fun v z=>nomatch z)
   (.inr (oi35 ps c' pos hP hf hcn hcP rfl)) af CL
end
end L2
namespace Pu
theorem getD_at {α:Type} {l:List α} {i:Nat} {d:α} (h:i<l.length):l.getD i d=l[i]:=by simp [h]
noncomputable def keysOf (g:Int→Option (Int × Int)):List Int→Option (List (Int × Int))
 | []=>some []
 | x :: xs=>(g x).bind fun k=>(keysOf g xs).bind fun ks=>some (k :: ks)
noncomputable def srtK (ns:List Int) (ps:List (Int × Int)):List Int:=((ps.zip ns).mergeSort fun a b=>le2 a.1 b.1).map (·.2)
noncomputable def sortK (g:Int→Option (Int × Int)) (ns:List Int):Option (List Int):=(keysOf g ns).bind fun ps=>if ns.length<64∧ps.Nodup then some (srtK ns ps) else none
theorem jx {g:Int→Option (Int × Int)}:∀ {ns:List Int} {ps:List (Int × Int)},keysOf g ns=some ps→ps.length=ns.length
 | [],ps,h=>by cases h; rfl
 | n :: ns,ps,h=>by
  unfold keysOf at h
  refine oq12 (L2.a9 h) fun k _ h=>?_
  refine oq12 (L2.a9 h) fun ks e h=>?_
  cases h
  rw [List.length_cons,List.length_cons,jx e]
theorem srtK_of {ns:List Int} {ps:List (Int × Int)} (hl:ps.length=ns.length) (hn:ps.Nodup) {ix:List Nat} (hi:∀ i∈ix,i<ns.length) (h:ix.map (fun i=>ps.getD i (0,0))=srtP ps):ix.map (fun i=>ns.getD i 0)=srtK ns ps:=by
 have hz:ix.map (fun i=>(ps.zip ns).getD i ((0,0),0))=(ps.zip ns).mergeSort fun a b=>le2 a.1 b.1:=by
  have key:((ps.zip ns).mergeSort fun a b=>le2 a.1 b.1).map (·.1)=srtP ps:=by
   refine cu (le:=fun a b=>le2 a b=true) (fun a b=>mR) ?_ ?_ (fg ps)
   ·refine List.Perm.trans ((List.mergeSort_perm _ _).map _) ?_
    rw [show (ps.zip ns).map (·.1)=ps by rw [List.map_fst_zip]; exact nz3 hl]
    exact (i3 ps).symm
   ·rw [List.pairwise_map]
    exact List.pairwise_mergeSort (fun a b c=>i4 a.1 b.1 c.1) (fun a b=>i5 a.1 b.1) (ps.zip ns)
  have inj:∀ a∈ps.zip ns,∀ b∈ps.zip ns,a.1=b.1→a=b:=by
   intro a ha b hb e
   obtain ⟨i,hi,rfl⟩:=List.mem_iff_getElem.mp ha
   obtain ⟨j,hj,rfl⟩:=List.mem_iff_getElem.mp hb
   simp only [List.getElem_zip] at e ⊢
   have:i=j:=(List.getElem_inj hn).mp e
   subst this
   rfl
  have e1:(ix.map fun i=>(ps.zip ns).getD i ((0,0),0)).map (·.1)=((ps.zip ns).mergeSort fun a b=>le2 a.1 b.1).map (·.1):=by
   rw [key,← h,List.map_map]
   apply List.map_congr_left
   intro i hi'
   have h1:=hi i hi'
   show ((ps.zip ns).getD i ((0,0),0)).1=ps.getD i (0,0)
   rw [getD_at (by simp; omega),getD_at (by exact nz1 h1 (nz3 hl.symm))]
   simp
  have lm:∀ (l m:List ((Int × Int) × Int)),(∀ a∈l,a∈ps.zip ns)→(∀ a∈m,a∈ps.zip ns)→l.map (·.1)=m.map (·.1)→l=m:=by
   intro l
   induction l with
   | nil=>intro m _ _ e; cases m with
    | nil=>rfl
    | cons _ _=>cases e
   | cons a l ih=>intro m h1 h2 e; cases m with
    | nil=>cases e
    | cons b m =>
     rw [List.map_cons,List.map_cons] at e
     injection e with e3 e4
     rw [inj a (h1 a (by simp)) b (h2 b (by simp)) e3,ih m (fun x hx=>h1 x (by simp [hx])) (fun x hx=>h2 x (by simp [hx])) e4]
  refine lm _ _ (fun a ha=>?_) (fun a ha=>(List.mergeSort_perm _ _).subset ha) e1
  refine oq12 (List.mem_map.mp ha) fun i hi' eq2_=>?_; subst eq2_
  have h1:=hi i hi'
  rw [getD_at (by simp; omega)]
  exact List.getElem_mem _
 unfold srtK
 rw [← hz,List.map_map]
 apply List.map_congr_left
 intro i hi'
 have h1:=hi i hi'
 show ns.getD i 0=((ps.zip ns).getD i ((0,0),0)).2
 rw [getD_at (l:=ps.zip ns) (by simp; omega),getD_at h1]
 simp
end Pu
namespace L2
open PySem PySem.Spec PyProof.Rows
variable [Kon]
noncomputable def jy (tb:TE) (st:V→St) (fin:List V→Hp→Prop):List V→List V→Hp→Prop
 | [],ks,H=>fin ks H
 | x :: r,ks,H=>tb (st x) H fun k H'=>jy tb st fin r (ks++[k]) H'
noncomputable def oA (vs:List V) (Q:VK) (ks:List V) (H:Hp):Prop:=∃ ps:List (Int × Int),Paired ((rT2 rInt rInt).rel H) ks ps∧ks.length=vs.length∧ps.Nodup ∧
 ∀ q (ix:List Nat),H q=none→(∀ i∈ix,i<vs.length)→ix.map (fun i=>ps.getD i (0,0))=Pu.srtP ps→Q (.ref q) (upd H q (.lst (ix.map fun i=>vs.getD i .non)))
noncomputable def tSortK (K:PySem.W.Frag) (P:Addr) (cap:List (Str × Nat)) (te tb:TE):TE:=fun σ H Q=>te σ H fun v H1=>∃ p vs,v=.ref p∧SqL K H1 p vs∧vs.length<64∧TbG H1 ∧
 ∀ H2 c,TbSt P H1 H2→H2 c=some (.ext (be c (Kon.Q P)))→jy (fun σ H Q=>H c=some (.ext (be c (Kon.Q P)))∧tb σ H Q) (fun x=>dY x cap σ) (oA vs Q) vs [] H2
theorem Sm.seq {K:PySem.W.Frag} {H H':Hp} {a:Addr} {xs:List V} (e:Sm H H') (h:SqL K H a xs):SqL K H' a xs:=by
 rcases h with (h | ⟨o,h⟩) | h
 ·exact .inl (.inl (e.kp _ _ trivial h))
 ·exact .inl (.inr ⟨o,e.kp _ _ trivial h⟩)
 ·exact .inr h
section
variable {X:Cx} {A:Around} {pins:List (Addr × Obj)} {σ:St} {H:Hp} {s:Shared} {x:Str} {cap:List (Str × Nat)} {scope:Scope} {cl:List (Str × Addr)} {f:Addr} {cd:Value}
theorem Inv.relist {kS:Addr} {o o':Obj} {h':Heap} (I:Inv X ((kS,o) :: pins) σ H s) (hz:X.s₀.heap.objs.size≤kS) (hp:∀ p∈X.pn++pins,p.1≠kS) (hc:∀ v,o'.data≠.cell v) (k:∀ b ob,b≠kS→s.heap.get? b=some ob→h'.get? b=some ob) (h:h'.get? kS=some o') :
  Inv X ((kS,o') :: pins) σ H { s with heap:=h' }:=by
 refine oq05 (I.pin (kS,o) (List.mem_append_right _ (List.mem_cons.mpr (.inl rfl)))) fun p1 p2 p3 p4 p5=>?_
 have I0:Inv X pins σ H s:=I.pins_of fun p hp=>I.pin p (List.mem_append_right _ (List.mem_cons.mpr (.inr hp)))
 have I1:Inv X pins σ H { s with heap:=h' }:=I0.turned (t':=s.toks) k p2 p3 (.inr hz) (fun y c e z=>by
  refine oq22 (I.cell y c e) fun v ob ho hd=>?_
  rw [z] at ho
  have:some ob=some o:=ho.symm.trans p1
  cases this
  exact p5 v hd) hp
 exact I1.addPin h p2 p3 p4 hc
open PySem.W in
theorem mU {params:Arguments} {body:Expr} {pm ctv:Value} {c':Addr} {qual:Str} {tb:TE} {D kS:Addr} {oD:Obj} {Fi:List Value→Shared→Prop} {fin:List V→Hp→Prop} (S:LamScope X x cap scope) (C:LamCl X scope cl)
  (hA:A.frames=some X.stack) (hh:A.handled=none) (hd:A.depth<recursionLimit) (hb:∀ cl pm cd ct u,bindArgs (kla_fn "<lambda>" qual params body scope cl pm cd ct) ⟨[u],[]⟩=pure [(x,u)])
  (hp:∀ f cd cl s H,PE (iA X A (x :: cap.map (·.1)) qual scope f cd cl s H) body tb) (hz:X.s₀.heap.objs.size≤kS) (hpn:∀ p∈X.pn++((D,oD) :: (f,kla_obj "<lambda>" qual params body scope cl pm c' ctv) :: pins),p.1≠kS)
  (hfin:∀ (e:Nat) ks kvs H s,Inv X ((kS,seqObj "list" (List.toArray kvs) e) :: (D,oD) :: (f,kla_obj "<lambda>" qual params body scope cl pm c' ctv) :: pins) σ H s→Vals ks kvs→fin ks H→Fi kvs s) :
  ∀ (r:List V) (its:List Value) (ks:List V) (kvs:List Value) (e:Nat) (H:Hp) (s:Shared),Inv X ((kS,seqObj "list" (List.toArray kvs) e) :: (D,oD) :: (f,kla_obj "<lambda>" qual params body scope cl pm c' ctv) :: pins) σ H s →
   Vals r its→Vals ks kvs→(jy (fun σ H Q=>H c'=some (.ext (be c' qual))∧tb σ H Q) (fun v=>dY v cap σ) fin r ks H)→fh X.prog X.w A (.ref f) kS Fi its kvs s
 | _,_,ks,kvs,e,H,s,I,.nil,rk,h=>hfin e ks kvs H s I rk h
 | _,_,ks,kvs,e,H,s,I,.cons (a:=v) (b:=u) r t,rk,h=>by
  refine oq02 h fun h0 h=>?_
  have po:=I.pin (f,kla_obj "<lambda>" qual params body scope cl pm c' ctv) (by simp)
  refine wpAny_mono (lL S C I po.1 hA hh hd h0 hb (hp _ _ _ _ _) r h) (fun k s1 he=>?_) fun _ _ z=>z
  refine oq23 he fun kv H1 I1 rv q=>?_
  have pk:=I1.pin (kS,seqObj "list" (List.toArray kvs) e) (by simp)
  refine ⟨⟨e,pk.1⟩,?_⟩
  have ea:(List.toArray kvs).push k=List.toArray (kvs++[k]):=by simp
  obtain ⟨e2,hn⟩:∃ e2,(s1.heap.update kS (Obj.mapSeq (·.push k))).get? kS=some (seqObj "list" (List.toArray (kvs++[k])) e2):=⟨_,by rw [← ea]; exact get?_update_seq pk.1 (·.push k)⟩
  exact mU S C hA hh hd hb hp hz hpn hfin _ _ _ _ e2 H1 _ (I1.relist hz hpn (fun v z=>nomatch z) (fun b ob nb q=>by rw [Heap.get?_update_ne _ _ _ _ nb]; exact q) hn) t (rk.append (.cons rv .nil)) q
theorem keys_done {D kS:Addr} {e e1:Nat} {ks vs:List V} {kvs its:List Value} {Q:VK} {P':List (Addr × Obj)} (I:Inv X ((kS,seqObj "list" (List.toArray kvs) e) :: (D,seqObj "list" #[] e1) :: pins) σ H s) (hDk:D<kS) (hz:X.s₀.heap.objs.size≤D)
  (hpn:∀ p∈X.pn++pins,p.1≠kS∧p.1≠D) (h64:vs.length<64) (rk:Vals ks kvs) (rv:Vals vs its) (h:oA vs Q ks H):eJ X.prog X.w A D e1 kS its (fun _ s'=>EP X pins σ Q (.ref D) s') kvs s:=by
 refine oq14 h fun ps hP hl hnd q=>?_
 have pk:=I.pin (kS,seqObj "list" (List.toArray kvs) e) (by simp)
 have pd:=I.pin (D,seqObj "list" #[] e1) (by simp)
 have l1:=rk.length
 have l2:=rv.length
 have l3:=hP.length
 have pa:=Vals.pairs I rk hP
 have el:its.length=ps.length:=by exact Nat.le_antisymm (nz4 (nz3 l2.symm) (nz4 (nz3 hl.symm) (nz3 l3))) (nz4 (nz3 l3.symm) (nz4 (nz3 hl) (nz3 l2)))
 refine ⟨pd.1,tuples' true,fun i j=>Pu.lt2 (ps.getD i (0,0)) (ps.getD j (0,0)),by rw [el]; exact kG hnd,fun h2 Q' hq=>?_,fun i j C hi hj hC=>kF pa (by exact nz1 hi (nz4 (nz3 l2.symm) (nz4 (nz3 hl.symm) (nz3 l1)))) (by exact nz1 hj (nz4 (nz3 l2.symm) (nz4 (nz3 hl.symm) (nz3 l1)))) hC,fun p1 a1 u1=>?_⟩
 ·refine oq13 pa.tups fun fs g1 g2 g3=>?_
  refine PySem.W.kat_kind (T:=.type "int") g1 (by omega) (fun v hv=>?_) rfl hq
  refine oq21 (g3 v hv) fun i t eq2_=>?_; subst eq2_
  exact .now
 ·rw [el] at a1 u1
  have eu:=up_srt hnd a1 u1
  have hlt:∀ i∈p1.toList,i<ps.length:=fun i hi=>by
   have:=a1.pm.subset hi
   simpa using this
  have neD:∀ b o,b≠kS→b≠D→s.heap.get? b=some o→((s.heap.update kS (Obj.mapSeq fun _=>#[])).update D (Obj.mapSeq fun _=>cT its p1)).get? b=some o:=fun b o n1 n2 e=>by
   rw [Heap.get?_update_ne _ _ _ _ n2,Heap.get?_update_ne _ _ _ _ n1]; exact e
  have hD1:(s.heap.update kS (Obj.mapSeq fun _=>(#[]:Array Value))).get? D=some (seqObj "list" #[] e1):=by rw [Heap.get?_update_ne _ _ _ _ (nz7 hDk)]; exact pd.1
  obtain ⟨e2,hD2⟩:∃ e2,((s.heap.update kS (Obj.mapSeq fun _=>#[])).update D (Obj.mapSeq fun _=>cT its p1)).get? D=some (seqObj "list" (cT its p1) e2):=⟨_,get?_update_seq hD1 fun _=>cT its p1⟩
  have unt:∀ b o,H b=some o→b≠kS∧b≠D:=fun b o z=>⟨ah z pk.2.1,ah z pd.2.1⟩
  have noc:∀ y c,X.env.cells.lookup y=some c→c≠kS∧c≠D:=fun y c z=>by
   refine oq22 (I.cell y c z) fun v ob ho hd=>?_
   refine ⟨fun w=>?_,fun w=>?_⟩
   ·rw [w] at ho; exact pk.2.2.2.2 v (by rw [← Option.some.inj (ho.symm.trans pk.1)]; exact hd)
   ·rw [w] at ho; exact pd.2.2.2.2 v (by rw [← Option.some.inj (ho.symm.trans pd.1)]; exact hd)
  have I0:Inv X pins σ H s:=I.pins_of fun p hp=>I.pin p (List.mem_append_right _ (List.mem_cons.mpr (.inr (List.mem_cons.mpr (.inr hp)))))
  have I1:Inv X pins σ (upd H D (.lst (p1.toList.map fun i=>vs.getD i .non))) { s with heap:=(s.heap.update kS (Obj.mapSeq fun _=>#[])).update D (Obj.mapSeq fun _=>cT its p1) }:=by
   refine I0.step (g':=s.gens) (d':=s.drawn) (t':=s.toks) (ch:=[kS,D]) (fun b hb=>?_) (fun b o _ _ hc e _=>neD b o (fun z=>hc (by simp [z])) (fun z=>hc (by simp [z])) e) (fun b o _ _ hc e _=>⟨o.slots,neD b o (fun z=>hc (by simp [z])) (fun z=>hc (by simp [z])) e⟩)
    (fun b o hc _ n=>by rw [ac fun z=>hc (by simp [z])]; exact n) (fun b o hc e=>⟨o,neD b o (fun z=>hc (by simp [z])) (fun z=>hc (by simp [z])) e⟩) (fun b xs z=>by rw [ac (unt b _ z).2]; exact z) (fun b o u z=>by rw [ac (unt b _ z).2]; exact z) (fun b ps z=>⟨#[],by rw [ac (unt b _ z).2,z]; simp⟩) (fun m hm=>?_) (fun a o z=>?_) I.bare
   ·have hb:b=kS∨b=D:=by simpa using hb
    rcases hb with rfl | rfl
    ·exact (oi04 (.inr (nz4 hz (nz5 hDk))) pk.2.2.1 (fun y c z=>(noc y c z).1) (fun p hp=>(hpn p hp).1))
    ·exact (oi04 (.inr hz) pd.2.2.1 (fun y c z=>(noc y c z).2) (fun p hp=>(hpn p hp).2))
   ·refine oq32 hm fun o es ep ho r=>?_
    exact ⟨o,es,ep,neD _ o (Ne.symm pk.2.2.1) (Ne.symm pd.2.2.1) ho,r⟩
   ·by_cases w:a=D
    ·subst w
     rw [af] at z
     cases z
     refine ⟨by rw [List.length_map,Array.length_toList,a1.sz,sizeLine_eq]; exact nz5 (nz2 (nz3 l3.symm) (nz2 (nz3 hl) (nz8 h64 (by decide)))),p1.toList.map fun i=>its.getD i Value.none,e2,cU fun i hi=>lK rv (by have:=hlt i hi; exact nz1 this (nz4 (nz3 l3.symm) (nz3 hl))),hD2⟩
    ·rw [ac w] at z
     refine (I.hok a o z).stay (fun b u hb e=>?_) (fun b z=>by rw [ac (unt b _ z).2]; exact z) fun b xs z=>by rw [ac (unt b _ z).2]; exact z
     rcases hb with rfl | hb
     ·exact neD _ _ (unt _ _ z).1 (unt _ _ z).2 e
     ·exact neD _ _ (unt _ _ hb).1 (unt _ _ hb).2 e
  exact ⟨.ref D,_,I1,rfl,q D _ pd.2.1 (fun i hi=>by have:=hlt i hi; exact nz1 this (nz4 (nz3 l3.symm) (nz3 hl))) eu⟩
open PySem.W in
theorem pe_sortK {P c:Addr} {params:Arguments} {body e:Expr} {p pos kpos lpos:Pos} {te tb:TE} (he:PE X e te) (hr:Room 3 X.A) (hm:X.mg "sorted"=none) (bm:BM X.mg X.base) (hC:codeHdIn X.K c P=true) (hT:P∈Kon.T) (hq:Kon.Q P=X.env.qual++"<lambda>") (hcode:X.env.code=.ref c)
  (S:LamScope X x cap scope) (hb:∀ cl pm cd ct u,bindArgs (kla_fn "<lambda>" (Kon.Q P) params body scope cl pm cd ct) ⟨[u],[]⟩=pure [(x,u)])
  (hp:∀ f cd cl s H,PE (iA X X.A.in1.in1 (x :: cap.map (·.1)) (Kon.Q P) scope f cd cl s H) body tb) (hg:Gl X "sorted":=by rfl) (hdef:defaultsOf params X.env=([],[]):=by rfl)
  (hst:starEach [e] X.env=(false,eval e X.env) :: starEach [] X.env:=by rfl) (hpl:(backTo pos (starEach [e] X.env)).any (·.1)=false:=by rfl) :
  PE X (.Call (.Name "sorted" p) [e] [⟨some "key",.Lambda params body scope lpos,kpos⟩] pos) (tSortK X.K P cap te tb):=by
 intro pins s σ H Q I h
 refine wpAny_Call_Name_kw (dJ I hg hm fH ?_)
 refine PyProof.Rows.callWith_kw ?_ (by rw [hst]; rfl) hpl
 have h1:(aK te tNil) σ H fun xs H1=>match xs with
  | [v]=>∃ p vs,v=.ref p∧SqL X.K H1 p vs∧vs.length<64∧TbG H1∧∀ H2 c,TbSt P H1 H2→H2 c=some (.ext (be c (Kon.Q P)))→jy (fun σ H Q=>H c=some (.ext (be c (Kon.Q P)))∧tb σ H Q) (fun x=>dY x cap σ) (oA vs Q) vs [] H2
  | _=>False:=h
 refine thn (a8 he aa hst pos pins s σ H _ I h1) ?_
 intro us s1 zq; refine oq23 zq fun vv H1 I1 r q=>?_
 show wpAny _ _ (evalAll ((do let v ← eval (.Lambda params body scope lpos) X.env; standAt pos; pure v) :: [])) _ _ s1
 match vv,q with
 | [v],q =>
  obtain ⟨l,vs,rfl,hS,h64,tg,q⟩:=q
  obtain ⟨u,rfl,ru⟩:=vals1 r
  cases ru
  refine wpAny_evalAll_cons (wpAny_bind (mk_lam (P:=P) I1 S tg hT hq hcode hC bm hdef fun f cl pm c' ctv H2 s2 I2 ts hc' CL=>wpAny_bind (wpAny_standAt (wpAny_pure (wpAny_evalAll_nil ?_)))))
  show wpAny _ _ (call (.builtin "sorted") [.ref l] [(Str.ofString "key",.ref f)]) _ _ s2
  obtain ⟨its,rv,ht,hz⟩:=I2.list (ts.sm.seq hS)
  have lv:=rv.length
  refine ow ht.isList (by exact nz2 (nz3 lv.symm) h64) fun D e1 kS h' k1 k2 k3 k4 k5 k6=>?_
  have I3:Inv X ((f,kla_obj "<lambda>" (Kon.Q P) params body scope cl pm c' ctv) :: pins) σ H2 { s2 with heap:=h' }:=I2.kept (t':=s2.toks) k1
  have big:∀ b,s2.heap.objs.size≤b→H2 b=none∧b≠X.env.locals∧b ∉ X.fs:=fun b hb=>(oi03 (I2.hok.fresh hb) (Nat.ne_of_gt (nz1 I2.lt hb)) (I2.nofs hb))
  have I4:=I3.addPin (f:=D) (o:=seqObj "list" #[] e1) k2 (big D k4).1 (big D k4).2.1 (big D k4).2.2 fun v z=>nomatch z
  have k4':s2.heap.objs.size≤kS:=nz4 k4 (nz5 k5)
  have I5:=I4.addPin (f:=kS) (o:=seqObj "list" #[] 0) k3 (big kS k4').1 (big kS k4').2.1 (big kS k4').2.2 fun v z=>nomatch z
  have old:∀ p∈X.pn++((f,kla_obj "<lambda>" (Kon.Q P) params body scope cl pm c' ctv) :: pins),p.1<s2.heap.objs.size:=fun p hp=>Heap.lt_size (I2.pin p hp).1
  have hpn:∀ p∈X.pn++((D,seqObj "list" #[] e1) :: (f,kla_obj "<lambda>" (Kon.Q P) params body scope cl pm c' ctv) :: pins),p.1≠kS:=fun p hp=>by
   rcases List.mem_append.mp hp with hp | hp
   ·exact nz7 (nz1 (old p (List.mem_append_left _ hp)) k4')
   ·rcases List.mem_cons.mp hp with rfl | hp
    ·exact nz7 k5
    ·exact nz7 (nz1 (old p (List.mem_append_right _ hp)) k4')
  refine mU (A:=X.A.in1.in1) (oD:=seqObj "list" #[] e1) S CL I.ok.frames hr.hd (by have:=hr.dp; show X.A.depth<_; omega) hb hp (nz4 I2.sz k4') hpn (fun e2 ks kvs H3 s3 J rk hk=>?_) vs its [] [] 0 H2 _ I5 rv .nil (q H2 c' ts hc')
  have K:=keys_done (A:=X.A.in1.in1) (pins:=(f,kla_obj "<lambda>" (Kon.Q P) params body scope cl pm c' ctv) :: pins) (P':=pins) J k5 (nz4 I2.sz k4) (fun p hp=>⟨nz7 (nz1 (old p hp) k4'),nz7 (nz1 (old p hp) k4)⟩) h64 rk rv hk
  refine oq02 K fun z0 zz=>oq24 zz fun κ cc z1 z2 z3 z4=>?_
  refine ⟨z0,κ,cc,z1,z2,z3,fun p a1 a2=>?_⟩
  refine oq23 (z4 p a1 a2) fun v9 H9 I9 r9 q9=>?_
  exact ⟨v9,H9,I9.pins_of fun p hp=>I9.pin p (List.mem_append_right _ (List.mem_cons.mpr (.inr hp))),r9,q9⟩
end
end L2
namespace L2
open PySem PySem.Spec PyProof.Rows
variable [Kon]
theorem TbSt.ext {P:Addr} {F H H':Hp} (t:TbSt P H H') (sb:Same F H) (nt:NT F):Ext F H F H':=⟨t.sm,Same.refl _,fun b o h=>t.sm.kp b o (by
 cases o with
 | tbl ps=>exact absurd h (nt b ps)
 | _=>trivial) (sb b o h),fun _ _ h=>.inl h,fun z=>z⟩
section
variable {Γ:List Slot} {te tb:TE} {K:PySem.W.Frag} {P:Addr} {cap:List (Str × Nat)}
theorem key_ev {C:Fc} {F0 H0:Hp} {σ:St} {c:Addr} {q:Str} {x:Str} {g:Int→Option (Int × Int)} {fin:List V→Hp→Prop} {ps:List (Int × Int)} (hc:(cap.map (·.2)).Nodup) (hb:∀ a,EV ((csl [x] cap Γ).set 0 (.fr rInt a)) tb (g a) (rT2 rInt rInt))
  (hfin:∀ F H ks,Ext F0 H0 F H→Paired ((rT2 rInt rInt).rel F) ks ps→fin ks H):∀ (r:List Int) (ks:List V) (kp pr:List (Int × Int)) (F H:Hp),SR C F Γ σ H→Ext F0 H0 F H→H c=some (.ext (be c q))→Paired ((rT2 rInt rInt).rel F) ks kp→Pu.keysOf g r=some pr→kp++pr=ps →
   jy (fun σ H Q=>H c=some (.ext (be c q))∧tb σ H Q) (fun v=>dY v cap σ) fin (r.map V.int) ks H
 | [],ks,kp,pr,F,H,S,x0,h0,hk,e,ep=>by
  cases e
  rw [List.append_nil] at ep
  subst ep
  exact hfin F H ks x0 hk
 | a :: r,ks,kp,pr,F,H,S,x0,h0,hk,e,ep=>by
  unfold Pu.keysOf at e
  refine oq12 (a9 e) fun k e1 e=>?_
  refine oq12 (a9 e) fun ks' e2 e=>?_
  cases e
  refine ⟨h0,hb a C F _ H _ k ((S.comp (loc:=[x]) hc).setF 0 (r:=rInt) (a:=a) (v:=.int a) rfl) e1 fun v F' H' x1 rv=>?_⟩
  exact key_ev hc hb hfin r _ (kp++[k]) ks' F' H' (S.grow x1) (x0.trans x1) (x1.hh.kp _ _ trivial h0) (Paired.app (Paired.imp2 (fun _ _ z=>Rp.mono _ x1.ff z) hk) (.cons rv .nil)) e2 (by rw [List.append_assoc]; exact ep)
theorem evl_sortK {o:Option (List Int)} {g:Int→Option (Int × Int)} {x:Str} (hc:(cap.map (·.2)).Nodup) (h:EV Γ te o (rL rInt)) (hb:∀ a,EV ((csl [x] cap Γ).set 0 (.fr rInt a)) tb (g a) (rT2 rInt rInt)):EVL Γ (tSortK K P cap te tb) (o.bind fun xs=>Pu.sortK g xs) rInt:=by
 intro C F σ H Q xs S e k
 refine oq12 (a9 e) fun ns e1 e=>?_
 unfold Pu.sortK at e
 refine oq12 (a9 e) fun ps e2 e=>?_
 split at e
 ·rename_i hh
  refine oq02 hh fun h64 hnd=>?_
  cases e
  have hl:=Pu.jx e2
  refine h C F σ H _ ns S e1 fun v F1 H1 x1 zq=>oq23 zq fun p vs e3 h1 h2=>?_
  have ev:=bx h2
  subst ev
  refine (oi25 p _ e3 (.inl (x1.sub.rd h1)) (by rw [List.length_map]; exact h64) ((S.grow x1).tg) (fun H2 c ts h0=>?_))
  have x2:=ts.ext (S.grow x1).sub (S.grow x1).nt
  refine key_ev (ps:=ps) hc hb (fun F' H' ks x3 hk=>?_) ns [] [] ps F1 H2 ((S.grow x1).grow x2) (x1.trans x2) h0 .nil e2 rfl
  refine ⟨ps,Paired.imp2 (fun _ _ z=>Rp.mono _ x3.sub z) hk,by rw [hk.length,List.length_map,hl],hnd,fun q ix hq hi hx=>?_⟩
  rw [List.length_map] at hi
  refine k q _ F' H' x3 hq ?_
  rw [← Pu.srtK_of hl hnd hi hx]
  refine cU fun i hi'=>?_
  have:=hi i hi'
  show (ns.map V.int).getD i .non=.int (ns.getD i 0)
  simp [this]
 ·cases e
end
noncomputable def di (K:PySem.W.Frag) (mg:Str→Option Value) (x:Str) (st:Stmt) (ps:List Str) (c:Addr):Prop:=∃ f fd,Fun K x x st f fd∧Binds K fd ps []∧mg x=some (.ref f)∧fd.code=.ref c
theorem def_mkC {K:PySem.W.Frag} {mg:Str→Option Value} {h:Heap} {x:Str} {st:Stmt} {ps:List Str} {f c:Addr} {oc:Value} {od an:Option Addr} {osl:Array (Option Value)} {kV doc pm cdv ct:Value} (X:K.In h) (G:h.Ns mainGlobals mg)
  (a:PySem.W.nsIn K mainGlobals x=some (some (.ref f))) (l:K.lookup f=some ⟨oc,od,.func (PySem.W.fnOf x x (bz st) (aO st) (ae st) .none kV doc pm an cdv ct),osl⟩) (hcd:PySem.W.codeIn K cdv x=true) (k:PySem.W.keepIn K (.ref f)=true) (hc:cdv=.ref c)
  (hb:∀ (kV doc pm:Value) (an:Option Addr) (cdv ct:Value) (us:List Value),us.length=ps.length→bindArgs (PySem.W.fnOf x x (bz st) (aO st) (ae st) .none kV doc pm an cdv ct) ⟨us,[]⟩=pure (ps.zip us)):di K mg x st ps c :=
 ⟨f,_,eD (st:=st) l hcd k,(eD (st:=st) l hcd k).binds hb,PySem.W.mg_of X G a,hc⟩
section
variable {P:Program} {w:World} {K:PySem.W.Frag} {mg:Str→Option Value} {base:Heap} {x:Str} {st:Stmt} {N ps:List Str} {k:Nat} {c:Addr} {τ γ:Type} {ra:RpA τ} {r:Rp γ}
theorem di.has {sp:Sp} (D:di K mg x st ps c) (S:FnScope N ps (ae st)) (len:∀ vs H Q E,sp vs H Q E→vs.length=ps.length)
  (hbody:∀ (f:Addr) (A:Around) (outer:List Env) (s:Shared) (H:Hp) (vs:List V) (Q:VK) (E:XK),Room k (A.deeper (envOfC x (ae st) s.heap.objs.size f (.ref c)))→sp vs H Q E →
   ∃ t,PSs (cxOf CX0 P w K mg base N x (ae st) f (.ref c) A outer s H E).nox (aO st) t∧t { nx:=fun _ H'=>Q .non H',rt:=Q } (start N vs) H):Has P w K mg base (k+1) x ps sp:=by
 refine oq24 D fun f fd F b hm hc=>?_
 refine ⟨f,fd,?_,hm,F.kp,b⟩
 refine oq71 F.ex fun oc od kV doc pm an cdv zz=>oq23 zz fun ct osl e lk hcd=>?_
 subst e
 obtain rfl:cdv=.ref c:=hc
 refine fn_of lk hcd S len fun A outer s H vs Q E hr hsp=>?_
 refine oq12 (hbody f A outer s H vs Q E hr hsp) fun t h q=>?_
 exact (oi12 t h.nox q)
noncomputable abbrev BodyAtC (P:Program) (w:World) (K:PySem.W.Frag) (mg:Str→Option Value) (base:Heap) (x:Str) (st:Stmt) (N:List Str) (k:Nat) (c:Addr) (G:TS→Prop):Prop :=
 ∀ (f:Addr) (A:Around) (outer:List Env) (s:Shared) (H:Hp) (E:XK),Room k (A.deeper (envOfC x (ae st) s.heap.objs.size f (.ref c)))→∃ t,PSs (cxOf CX0 P w K mg base N x (ae st) f (.ref c) A outer s H E).nox (aO st) t∧G t
theorem di.pV {f:τ→Option γ} {n:Nat} (D:di K mg x st ps c) (S:FnScope N ps (ae st)) (hl:∀ a,(ra.slots a).length=ps.length) (hn:N.length - ps.length=n)
  (h:BodyAtC P w K mg base x st N k c fun t=>∀ a,BV (ra.slots a++List.replicate n .any) t (f a) (finV r)):Has P w K mg base (k+1) x ps (spV ra r f):=by
 refine D.has S (fun vs H Q E h=>?_) fun fa A outer s H vs Q E hr hsp=>?_
 ·refine oq35 h fun F a c _ _ _ h1 _=>?_; rw [(ra.ok h1).1,hl]
 ·refine oq12 (h fa A outer s H E hr) fun t h1 h2=>?_
  refine oq36 hsp fun F a c sb nt tg hr' hf q=>?_
  refine (oi12 t h1 (h2 a _ F _ H _ c (SR.begin_ sb nt tg hr' (by rw [(ra.ok hr').1,hl]; exact hn)) hf ?_))
  exact fun v F' H' fr rv=>q v F' H' ⟨fr.keep,fr.low,fr.sub,fr.base,fun _=>fr.nt⟩ rv
theorem di.pL {f:τ→Option (List γ)} {n:Nat} (D:di K mg x st ps c) (S:FnScope N ps (ae st)) (hl:∀ a,(ra.slots a).length=ps.length) (hn:N.length - ps.length=n)
  (h:BodyAtC P w K mg base x st N k c fun t=>∀ a,BV (ra.slots a++List.replicate n .any) t (f a) (finL r)):Has P w K mg base (k+1) x ps (spL ra r f):=by
 refine D.has S (fun vs H Q E h=>?_) fun fa A outer s H vs Q E hr hsp=>?_
 ·refine oq35 h fun F a c _ _ _ h1 _=>?_; rw [(ra.ok h1).1,hl]
 ·refine oq12 (h fa A outer s H E hr) fun t h1 h2=>?_
  refine oq36 hsp fun F a c sb nt tg hr' hf q=>?_
  refine (oi12 t h1 (h2 a _ F _ H _ c (SR.begin_ sb nt tg hr' (by rw [(ra.ok hr').1,hl]; exact hn)) hf ?_))
  exact fun p vs F' H' fr hp rv=>q p vs F' H' ⟨fr.keep,fr.low,fr.sub,fr.base,fun _=>fr.nt⟩ hp rv
end
end L2
namespace L2
open PySem PySem.Spec PyProof.Rows
@[reducible] noncomputable def konL (l:List (Addr × Str)):Kon:=⟨l.map (·.1),fun b=>((l.find? fun p=>p.1 == b).map (·.2)).getD ""⟩
noncomputable def iU (K:PySem.W.Frag) (T:List Addr) (a:Addr) (H:Hp):Prop:=∀ b u,H b=some u→(b=a∧K.lookup a=none∧∃ o xs,u=.frz o (.lst xs))∨(b∈T∧u=.tbl #[])
theorem law_callT [Kon] {P:Program} {w:World} {K:PySem.W.Frag} {mg mb:Str→Option Value} {CX:CXT} {k:Nat} {fa a:Addr} {fd:FuncData} {x:Str} {sp:Sp} {s₁:Shared} {vs:List Value} {ns:List Int}
  (KX:K.In s₁.heap) (hns:s₁.heap.Ns mainGlobals mg) (hb:s₁.heap.Ns builtinsNs mb) (hbb:∀ x:Str,x≠"__name__"→mb x=bootBuiltins x) (hlim:s₁.heap.NoLimit) (hbm:BM mg s₁.heap) (hg:s₁.gens=#[])
  (ha:s₁.heap.get? a=some { cls:=.type "list",data:=.seq vs.toArray }) (hi:IntsAre vs ns) (hl:ns.length≤sizeLine) (hr:Room k callerA)
  (hT:∀ P∈Kon.T,s₁.heap.get? P=some (PySem.W.tabObj #[])∧(∃ c,PySem.W.codeHdIn K c P=true)∧K.lookup P=none)
  (F:∀ base:Heap,K.In base→base.Ns mainGlobals mg→BM mg base→FnOk P w K mg base CX k fa fd [x] sp) (hbind:∀ (s:Shared) (u:Value),BindsTo s fd ⟨[u],[]⟩ [(x,u)])
  (hsp:∀ H:Hp,TbG H→SqL K H a (ns.map V.int)→sp [.ref a] H (fun v _=>v=.bl true) fun _ _ _=>False)
  (hCX:∀ H e s',CX [] H s₁ (fun _ _ _=>False) e s'→False) :
  codeAny (model P w) callerA (.call (.ref fa) ⟨[.ref a],[]⟩) (fun r s'=>r=.ok (.ret (.bool true))∧OldK s₁.heap s'.heap∧s'.os=s₁.os∧AllBare s'.gens) s₁:=by
 have rv:=dQ hi
 have lenV:=hi.length
 have aT:a ∉ Kon.T:=fun z=>by
  have:=(hT a z).1
  rw [ha] at this; cases this
 have core:∀ H:Hp,iU K Kon.T a H→TbG H→SqL K H a (ns.map V.int)→HOk P w H s₁.heap →
   codeAny (model P w) callerA (.call (.ref fa) ⟨[.ref a],[]⟩) (fun r s'=>r=.ok (.ret (.bool true))∧OldK s₁.heap s'.heap∧s'.os=s₁.os∧AllBare s'.gens) s₁:=by
  intro H hA tg hS hok
  have free:∀ {b:Addr} {o:Obj},s₁.heap.get? b=some o→(∀ xs n,o.data≠.seq xs n)→(∀ xs,o.data≠.fields xs)→H b=none:=fun {b o} e d1 d2=>by
   cases q:H b with
   | none=>rfl
   | some u =>
    rcases hA b u q with ⟨z,_⟩ | ⟨z,_⟩
    ·rw [z,ha] at e; cases e; exact absurd rfl (d1 _ _)
    ·rw [(hT b z).1] at e; cases e; exact absurd rfl (d2 _)
  have nsK:∀ {b:Addr} {m:Str→Option Value},s₁.heap.Ns b m→(hidT s₁.heap H).Ns b m:=fun {b m} ⟨o,es,ep,e,d,r⟩=>⟨o,es,ep,iX e (free e (fun _ _ z=>by rw [d] at z; cases z) fun _ z=>by rw [d] at z; cases z),d,r⟩
  have hKb:K.In (hidT s₁.heap H):=fun b o e=>iX (KX b o e) (by
   cases q:H b with
   | none=>rfl
   | some u =>
    rcases hA b u q with ⟨z,z2,_⟩ | ⟨z,_⟩
    ·rw [z,z2] at e; cases e
    ·rw [(hT b z).2.2] at e; cases e)
  have hM:Mod K mg (hidT s₁.heap H):=⟨hKb,nsK hns,(oi12 mb (nsK hb) hbb),oq12 hlim fun mc h1 h2=>⟨mc,nsK h1,h2⟩⟩
  have hB:BM mg (hidT s₁.heap H):=by
   refine oq26 hbm fun bm ob b1 b2 b3 b4 b5 b6=>?_
   exact ⟨bm,ob,b1,b2,iX b3 (free b3 (fun _ _ z=>by rw [b6] at z; cases z) fun _ z=>by rw [b6] at z; cases z),b4,b5,b6⟩
  have e0:Env0 P w K mg (hidT s₁.heap H) callerA [] s₁ H:=⟨rfl,hM,fun b o e=>of_hidT e,nz3 (hidT_size _ _),trivial,fun b hb=>absurd (show b∈([]:List Addr) from hb) (by simp),hok,.of_eq hg⟩
  refine codeAny_mono ((F _ hKb (nsK hns) hB).run callerA [] s₁ H ⟨[.ref a],[]⟩ [.ref a] [.ref a] _ _ hr e0 (hbind s₁ (.ref a)) (.cons rfl .nil) (hsp H tg hS)) fun r s' h=>?_
  cases r with
  | error e=>exact (hCX H e s' h).elim
  | ok fl =>
   cases fl with
   | next=>exact False.elim h
   | brk=>exact False.elim h
   | cont=>exact False.elim h
   | ret u =>
    refine oq26 h fun v H' os bare un hok' r' q=>?_
    have q':v=.bl true:=q
    subst q'
    obtain rfl:u=Value.bool true:=r'
    have nof:∀ b:Addr,b ∉ frs ([]:List Env):=fun b z=>absurd (show b∈([]:List Addr) from z) (by simp)
    refine (oi04 rfl ⟨fun b o e=>?_,fun b o e=>un.there b o e (by simp)⟩ os bare)
    cases q:H b with
    | none=>exact .inl (un.keep b o e q (nof b) (by simp))
    | some u =>
     rcases hA b u q with ⟨_,_,ob,xs,z⟩ | ⟨z,z2⟩
     ·subst z
      have z2:=un.frzs b ob _ q
      refine oq02 (hok b _ q) fun e1 _=>?_
      refine oq02 (hok' b _ z2) fun e2 _=>?_
      rw [e] at e1; cases e1
      exact .inl e2
     ·subst z2
      refine oq11 (un.tbls b #[] q) fun more z3=>?_
      have z4:s'.heap.get? b=some (PySem.W.tabObj (#[]++more)):=(show bb P w H' s'.heap b (.tbl (#[]++more)) from hok' b _ z3)
      refine oq03 (hT b z) fun t1 nn1 _=>?_; refine oq11 nn1 fun c t2=>?_
      rw [t1] at e
      cases e
      exact .inr (.inl ⟨((PySem.W.codeHd_of_K KX t2).tab t1).isCodeTable,rfl,#[],more,rfl,z4⟩)
 classical
 have tgOf:∀ H:Hp,(∀ P∈Kon.T,H P=some (.tbl #[]))→iU K Kon.T a H→TbG H:=fun H h1 h2=>⟨fun P hP=>⟨#[],h1 P hP⟩,fun P ps e=>by
  rcases h2 P _ e with ⟨_,_,o,xs,z⟩ | ⟨_,z⟩
  ·cases z
  ·cases z; exact ⟨trivial,fun pos cv h=>by simp [codeAmong] at h⟩⟩
 cases hk:K.lookup a with
 | some o =>
  have e:=KX a o hk
  rw [ha] at e
  cases e
  have s1:iU K Kon.T a (fun b=>if b∈Kon.T then some (.tbl #[]) else none):=fun b u z=>by
   by_cases hb:b∈Kon.T
   ·exact .inr ⟨hb,(Option.some.inj ((if_pos hb).symm.trans z)).symm⟩
   ·exact nomatch (if_neg hb).symm.trans z
  refine core (fun b=>if b∈Kon.T then some (.tbl #[]) else none) s1 (tgOf _ (fun P hP=>if_pos hP) s1) (.inr (oi36 _ vs.toArray _ hk rfl rfl rfl (by rw [List.size_toArray,lenV]; exact hl) (by simpa using rv))) fun b u z=>?_
  rcases s1 b u z with ⟨_,z2,_⟩ | ⟨z1,z2⟩
  ·rw [hk] at z2; cases z2
  ·subst z2; exact (hT b z1).1
 | none =>
  have s1:iU K Kon.T a (fun b=>if b=a then some (.frz { cls:=.type "list",data:=.seq vs.toArray } (.lst (ns.map V.int))) else if b∈Kon.T then some (.tbl #[]) else none):=fun b u z=>by
   by_cases hb:b=a
   ·exact .inl ⟨hb,hk,_,_,(Option.some.inj ((if_pos hb).symm.trans z)).symm⟩
   ·have z:=(if_neg hb).symm.trans z
    by_cases hb:b∈Kon.T
    ·exact .inr ⟨hb,(Option.some.inj ((if_pos hb).symm.trans z)).symm⟩
    ·exact nomatch (if_neg hb).symm.trans z
  refine core _ s1 (tgOf _ (fun P hP=>(if_neg fun z:P=a=>aT (z ▸ hP)).trans (if_pos hP)) s1) (.inl (.inr ⟨{ cls:=.type "list",data:=.seq vs.toArray },if_pos rfl⟩)) fun b u z=>?_
  by_cases hb:b=a
  ·have z':=(if_pos hb).symm.trans z
   cases z'
   subst hb
   exact ⟨ha,by rw [List.length_map]; exact hl,vs,_,rv,ha⟩
  ·have z':=(if_neg hb).symm.trans z
   by_cases hb:b∈Kon.T
   ·have z':=(if_pos hb).symm.trans z'
    cases z'
    exact (hT b hb).1
   ·exact nomatch (if_neg hb).symm.trans z'
theorem walk_ofT [Kon] {l:PySem.W.OpenLaw} {n k:Nat} {q:Program} {loose:List Str} {XP:(Str→Option Value)→Heap→Prop} {YP:World→Heap→Prop} {d:DefRec} {K:Params→PySem.W.Frag} {sp:World→Sp} {x:Str}
  (hn:l.most=some n) (hn2:n≤sizeLine) (hdf:d.params.defaults=[]) (hr:Room k callerA)
  (hY:∀ (w:World) (h:Heap),YP w h→(K w.params).In h∧∀ P∈Kon.T,h.get? P=some (PySem.W.tabObj #[]))
  (hC:∀ (w:World),∀ P∈Kon.T,(K w.params).lookup P=none)
  (F:∀ (w:World) (mg:Str→Option Value) (fa:Addr) (h:Heap),(K w.params).In h→h.Ns mainGlobals mg→mg d.name=some (.ref fa) →
   ∃ fd:FuncData,(∀ (s:Shared) (u:Value),BindsTo s fd ⟨[u],[]⟩ [(x,u)])∧(∀ P∈Kon.T,∃ c,PySem.W.codeHdIn (K w.params) c P=true) ∧
    ∀ base:Heap,(K w.params).In base→base.Ns mainGlobals mg→BM mg base→FnOk l.prog w (K w.params) mg base CX0 k fa fd [x] (sp w))
  (hsp:∀ (w:World) (H:Hp) (a:Addr) (ns:List Int),ns.length≤n→TbG H→SqL (K w.params) H a (ns.map V.int)→sp w [.ref a] H (fun v _=>v=.bl true) fun _ _ _=>False) :
  PySem.W.WalkO q loose XP YP l.row.toRowW d [] (fun f vs=>PySem.call f vs):=by
 refine Att.mE hn hdf fun w s₀ s₁ mg mb fa o pm cd doc a vs ns G Y ho hd _ hmg hobj hints hlen hg=>?_
 refine oq02 (hY w _ Y) fun KX KT=>?_
 refine oq13 (F w mg fa _ KX G.T.g hmg) fun fd hb hcd hF=>?_
 exact law_callT KX G.T.g G.T.b G.T.builtins G.T.nolimit G.T.bmain hg hobj hints (nz4 hlen hn2) hr (fun P hP=>(oi03 (KT P hP) (hcd P hP) (hC w P hP))) hF hb (fun H tg hS=>hsp w H a ns hlen tg hS) fun H e s' z=>z
end L2
namespace Pu
noncomputable def lrng (j:Int):Option (List Int):=if -(2 ^ 62)≤j∧j<2 ^ 62∧j.toNat≤16777216 then some (nats j.toNat) else none
end Pu
namespace L2
open PySem PySem.Spec PyProof.Rows
variable [Kon]
structure LamAt (K:PySem.W.Frag) (mg:Str→Option Value) (base:Heap) (c P:Addr) (x:Str):Prop where
 bm:BM mg base
 hd:PySem.W.codeHdIn K c P=true
 mem:P∈Kon.T
 nm:Kon.Q P=(x++".<locals>.")++"<lambda>"
section
variable {X:Cx} {a:Expr} {te:TE} {p p2 pos pos2:Pos}
noncomputable def tRng (te:TE):TE:=fun σ H Q=>te σ H fun v H1=>∃ j:Int,v=.int j∧-(2 ^ 62)≤j∧j<2 ^ 62∧∀ q,H1 q=none→Q (.ref q) (upd H1 q (.rng 0 j))
theorem pe_rng (he:PE X a te) (hg:Gl X "range") (hm:X.mg "range"=none) (hs:starEach [a] X.env=[(false,eval a X.env)]:=by rfl):PE X (.Call (.Name "range" p) [a] [] pos) (tRng te):=by
 intro pins s σ H Q I h
 have h1:(aK te tNil) σ H fun xs H1=>∃ j:Int,xs=[.int j]∧-(2 ^ 62)≤j∧j<2 ^ 62∧∀ q,H1 q=none→Q (.ref q) (upd H1 q (.rng 0 j)):=by
  show te σ H fun x H1=>∃ j:Int,[x]=[.int j]∧-(2 ^ 62)≤j∧j<2 ^ 62∧∀ q,H1 q=none→Q (.ref q) (upd H1 q (.rng 0 j))
  have e:(fun (x:V) H1=>∃ j:Int,[x]=[.int j]∧-(2 ^ 62)≤j∧j<2 ^ 62∧∀ q,H1 q=none→Q (.ref q) (upd H1 q (.rng 0 j)))=fun x H1=>∃ j:Int,x=.int j∧-(2 ^ 62)≤j∧j<2 ^ 62∧∀ q,H1 q=none→Q (.ref q) (upd H1 q (.rng 0 j)):=by
   funext x H1; simp
  rw [e]; exact h
 refine wpAny_Call_Name_kw (dJ I hg hm boot_range (PyProof.Rows.callWith_type1 (thn (a8 he aa hs pos pins s σ H _ I h1) fun us s1 zq=>oq23 zq fun vs H1 I1 r1 q1=>?_) hs rfl))
 refine oq14 q1 fun j e q1 q2 q=>?_
 subst e
 cases r1 with
 | cons r rr =>
  cases rr
  refine oq11 r fun t eq1_=>?_; subst eq1_
  exact call_range_1 ⟨.ref _,_,I1.laid (o:=.rng 0 j) (fun b o e=>Heap.get?_push_of_some _ e) (nz6 _) ⟨_,_,_,Heap.get?_push_size _ rfl⟩,rfl,q _ (I1.hok.fresh (nz6 _))⟩
noncomputable def rListR:List V→Hp→VK→Prop:=fun xs H Q=>∃ r j,xs=[.ref r]∧H r=some (.rng 0 j)∧-(2 ^ 62)≤j∧j<2 ^ 62∧j.toNat≤16777216∧∀ q,H q=none→Q (.ref q) (upd H q (.lst ((Pu.nats j.toNat).map V.int)))
theorem oB (hc:X.calm=true):cA X (.type "list") rListR:=by
 intro pins s σ H xs us Q I r hh
 refine oq26 hh fun l j eq2_ hR h1 h2 h3 q=>?_; subst eq2_
 refine oq12 (vals1 r) fun u eq1_ ru=>?_; subst eq1_
 cases ru
 refine oq31 ((show bb X.prog X.w H s.heap l (.rng 0 j) from I.hok l _ hR)) fun t u v ho=>?_
 refine call_list_range (n:=j.toNat) (I.ok.hd hc) ho (small_one (by omega) (by omega) h1 h2) (by rw [rangeSize_one]; split <;> omega) (by omega) fun h' tk acc c' hk hD hacc=>?_
 have hl:acc.toList.length=j.toNat:=by rw [Array.length_toList]; exact hacc.1
 refine ⟨.ref _,_,I.laid (t':=tk) (o:=.lst ((Pu.nats j.toNat).map V.int)) hk (nz6 _) ⟨?_,acc.toList,c',?_,by rw [hD]⟩,rfl,q _ (I.hok.fresh (nz6 _))⟩
 ·rw [sizeLine_eq]; simp [Pu.nats]; omega
 ·refine dQ ?_
  have key:∀ (l:List Value) (k:Nat),(∀ (i:Nat) v,l[i]?=some v→∃ t,v=Value.int ((k+i:Nat):Int) t)→IntsAre l ((List.range' k l.length).map fun (i:Nat)=>(i:Int)):=by
   intro l
   induction l with
   | nil=>exact fun k _=>.nil
   | cons x l ih =>
    intro k hx
    refine oq11 (hx 0 x rfl) fun t e=>?_
    subst e
    rw [List.length_cons,List.range'_succ,List.map_cons]
    refine .cons _ t (ih (k+1) fun i v e=>?_)
    refine oq11 (hx (i+1) v (by simpa using e)) fun t e2=>?_
    exact ⟨t,by rw [e2]; congr 2; try omega⟩
  have:=key acc.toList 0 fun i v e=>by
   obtain ⟨t,e2⟩:=hacc.2 i v (by rw [← Array.getElem?_toList]; exact e)
   exact ⟨t,by rw [e2]; congr 1; try omega⟩
  rw [hl] at this
  unfold Pu.nats
  rw [List.range_eq_range']
  exact this
end
theorem mV {Γ:List Slot} {te:TE} {oi:Option Int} (h:EV Γ te oi rInt):EVL Γ (tCB rListR (aK (tRng te) tNil)) (oi.bind fun j=>Pu.lrng j) rInt:=by
 intro C F σ H Q xs S e k
 refine oq12 (a9 e) fun j e1 e=>?_
 unfold Pu.lrng at e
 split at e
 ·rename_i hh
  cases e
  refine h C F σ H _ j S e1 fun v F' H' x1 r1=>(oi14 j r1 hh.1 hh.2.1 (fun q hq=>⟨q,j,rfl,af,hh.1,hh.2.1,hh.2.2,fun l hl=>k l _ F' _ (x1.trans (Ext.newH x1.sub hq)) hl (paired_ints _)⟩))
 ·cases e
end L2
namespace Pu
noncomputable def iB (g:Int→Option (Int × Int)):List Int→Int→Int × Int→Option Int
 | [],b,_=>some b
 | x :: xs,b,kb=>(g x).bind fun k=>if lt2 k kb=true then iB g xs x k else iB g xs b kb
noncomputable def minK (g:Int→Option (Int × Int)):List Int→Option Int
 | []=>none
 | x :: xs=>(g x).bind fun k=>iB g xs x k
end Pu
namespace L2
open PySem PySem.Spec PyProof.Rows
variable [Kon]
noncomputable def i6 (tb:TE) (st:V→St) (sq:Hp→Prop) (Q:VK):List V→V→V→Hp→Prop
 | [],b,_,H=>sq H∧Q b H
 | x :: r,b,kb,H=>sq H∧tb (st x) H fun k H'=>∃ pk pb,(rT2 rInt rInt).rel H' k pk∧(rT2 rInt rInt).rel H' kb pb∧(if Pu.lt2 pk pb=true then i6 tb st sq Q r x k H' else i6 tb st sq Q r b kb H')
noncomputable def tMinK (K:PySem.W.Frag) (P:Addr) (cap:List (Str × Nat)) (te tb:TE):TE:=fun σ H Q=>te σ H fun v H1=>∃ p x r,v=.ref p∧SqL K H1 p (x :: r)∧TbG H1 ∧
 ∀ H2 c,TbSt P H1 H2→H2 c=some (.ext (be c (Kon.Q P)))→H2 c=some (.ext (be c (Kon.Q P)))∧tb (dY x cap σ) H2 fun k H'=>i6 (fun σ H Q=>H c=some (.ext (be c (Kon.Q P)))∧tb σ H Q) (fun x=>dY x cap σ) (fun H=>SqL K H p (x :: r)) Q r x k H'
section
variable {X:Cx} {pins:List (Addr × Obj)} {σ:St} {H:Hp} {s:Shared} {x:Str} {cap:List (Str × Nat)} {scope:Scope} {cl:List (Str × Addr)} {f:Addr} {cd:Value}
theorem Inv.swap {a b:Addr × Obj} (I:Inv X (a :: b :: pins) σ H s):Inv X (b :: a :: pins) σ H s:=I.pins_of fun p hp=>I.pin p (List.mem_append_right _ (by
 simp only [List.mem_cons] at hp ⊢
 rcases hp with h | h | h
 ·exact .inr (.inl h)
 ·exact .inl h
 ·exact .inr (.inr h)))
theorem Inv.drop1 {a:Addr × Obj} (I:Inv X (a :: pins) σ H s):Inv X pins σ H s:=I.pins_of fun p hp=>I.pin p (List.mem_append_right _ (List.mem_cons.mpr (.inr hp)))
theorem Inv.relistT {kS:Addr} {o o':Obj} {h':Heap} {t':Nat} (I:Inv X ((kS,o) :: pins) σ H s) (hz:X.s₀.heap.objs.size≤kS) (hp:∀ p∈X.pn++pins,p.1≠kS) (hc:∀ v,o'.data≠.cell v) (k:∀ b ob,b≠kS→s.heap.get? b=some ob→h'.get? b=some ob) (h:h'.get? kS=some o') :
  Inv X ((kS,o') :: pins) σ H { s with heap:=h',toks:=t' }:=by
 have I1:=(I.relist hz hp hc k h).tok t'
 exact I1
theorem pair_lt {a b:V} {u v:Value} {pa pb:Int × Int} {A:Around} {E:Value→Shared→Prop} {Q:Value→Shared→Prop} (I:Inv X pins σ H s) (ra:RelV a u) (rb:RelV b v) (ha:(rT2 rInt rInt).rel H a pa) (hb:(rT2 rInt rInt).rel H b pb) (hu:A.units<cLine) (h:Q (.bool (Pu.lt2 pa pb)) s) :
  wpAny (model X.prog X.w) A (compareOp .Lt u v) Q E s:=by
 refine oq34 ha fun p a1 a2 eq3_ h1 h2 h3=>?_; subst eq3_
 refine oq34 hb fun p' b1 b2 eq3_ h4 h5 h6=>?_; subst eq3_
 cases ra; cases rb
 cases h2; cases h3; cases h5; cases h6
 refine oq13 (I.tuple (SqT.of (K:=X.K) h1)) fun its r1 p1 _=>?_
 refine oq13 (I.tuple (SqT.of (K:=X.K) h4)) fun its2 r2 p2 _=>?_
 have i1:IntsAre its.toArray.toList [pa.1,pa.2]:=intsAre_of (by simpa using r1)
 have i2:IntsAre its2.toArray.toList [pb.1,pb.2]:=intsAre_of (by simpa using r2)
 refine HT.j9 p1 p2 i1 i2 hu ?_
 rw [mS]; exact h
open PySem.W in
theorem lM {params:Arguments} {body:Expr} {pm ctv:Value} {c':Addr} {qual:Str} {tb:TE} {I9 S9 l:Addr} {vs:List V} {Q:VK} (S:LamScope X x cap scope) (C:LamCl X scope cl)
  (hA:X.A.frames=some X.stack) (hh:X.A.handled=none) (hd:X.A.depth<recursionLimit) (hu:X.A.in1.units<cLine) (hb:∀ cl pm cd ct u,bindArgs (kla_fn "<lambda>" qual params body scope cl pm cd ct) ⟨[u],[]⟩=pure [(x,u)])
  (hp:∀ f cd cl s H,PE (iA X X.A.in1 (x :: cap.map (·.1)) qual scope f cd cl s H) body tb) (hzI:X.s₀.heap.objs.size≤I9) (hzS:X.s₀.heap.objs.size≤S9) (hIS:I9<S9)
  (hpn:∀ p∈X.pn++((f,kla_obj "<lambda>" qual params body scope cl pm c' ctv) :: pins),p.1<I9) :
  ∀ (r:List V) (j:Nat) (bV kV:V) (vb kb:Value) (c:Nat) (oI:Obj) (H:Hp) (s:Shared),vs.drop j=r→j≤vs.length →
   Inv X ((S9,seqObj "list" #[vb,kb] c) :: (I9,oI) :: (f,kla_obj "<lambda>" qual params body scope cl pm c' ctv) :: pins) σ H s→s.heap.IsListIter I9 l j→RelV bV vb→RelV kV kb →
   i6 (fun σ H Q=>H c'=some (.ext (be c' qual))∧tb σ H Q) (fun v=>dY v cap σ) (fun H=>SqL X.K H l vs) Q r bV kV H →
   codeAny (model X.prog X.w) X.A (.builtin "min.loop" ⟨[.ref I9,.ref f,.ref S9],[]⟩) (fun r s'=>match r with | .ok (.ret u)=>EP X ((f,kla_obj "<lambda>" qual params body scope cl pm c' ctv) :: pins) σ Q u s' | _=>False) s
 | [],j,bV,kV,vb,kb,c,oI,H,s,er,hj,I,hit,rb,rk,h=>by
  refine oq02 h fun hS hq=>?_
  have hjl:j=vs.length:=by
   have:=congrArg List.length er
   simp at this; (clear hq hS rk rb hit I er hpn hIS hzS hzI hp hb hu hd hh hA C S; omega)
  subst hjl
  have pS:=I.pin (S9,seqObj "list" #[vb,kb] c) (by simp)
  have pI:=I.pin (I9,oI) (by simp)
  refine oq13 (I.list hS) fun its rv ht hz=>?_
  have hlI:l≠I9:=fun z=>by
   refine oq13 ht.isList fun o ho hc _=>?_
   refine oq13 hit fun o2 ho2 hc2 _=>?_
   rw [z,ho2] at ho; cases ho; rw [hc2] at hc; simp at hc
  have W:=Walks.list (prog:=X.prog) (w:=X.w) (A:=X.A.in1) hh I9 l hlI its.toArray
  have hsz:its.toArray.size=vs.length:=by rw [List.size_toArray,← rv.length]
  refine codeAny_builtin PySem.F.entry_min_loop ?_
  rw [Around.under_plainId PySem.F.plain_min_loop _]
  show wpAny _ X.A.in1 (seqItems? (.ref S9) >>= _) _ _ _
  refine wpAny_bind (wpAny_seqItems pS.1 rfl ?_)
  show wpAny _ X.A.in1 (tryCatch (pyNext (.ref I9)) _ >>= _) _ _ _
  refine wpAny_bind (wpAny_tryCatch (W.done _ _ _ ⟨by rw [hsz]; exact hit,ht.isList⟩ fun h' tk' hk'=>?_))
  have hk2:∀ b o,b≠I9→s.heap.get? b=some o→h'.get? b=some o:=fun b o nb e=>hk' b o (by simpa using nb) e
  have hS':=hk2 S9 _ (Nat.ne_of_gt hIS) pS.1
  show wpAny _ X.A.in1 (updateSeq S9 (fun _=>#[]) >>= _) _ _ _
  refine wpAny_bind ?_
  refine wpAny_updateSeq hS' rfl (wpAny_bind (wpAny_letGo (wpAny_pure ?_)))
  have I0:Inv X ((f,kla_obj "<lambda>" qual params body scope cl pm c' ctv) :: pins) σ H s:=I.drop1.drop1
  have noc:∀ a o,(a,o)∈X.pn++((S9,seqObj "list" #[vb,kb] c) :: (I9,oI) :: (f,kla_obj "<lambda>" qual params body scope cl pm c' ctv) :: pins)→∀ y c,X.env.cells.lookup y=some c→c≠a:=fun a o hm y c e z=>by
   refine oq22 (I.cell y c e) fun v ob ho hd=>?_
   refine oq05 (I.pin (a,o) hm) fun q1 _ _ _ q5=>?_
   rw [z] at ho
   have:some ob=some o:=ho.symm.trans q1
   cases this
   exact q5 v hd
  have I1:=I0.turned (t':=tk') hk2 pI.2.1 pI.2.2.1 (.inr hzI) (noc I9 oI (by simp)) fun p hp=>nz7 (hpn p hp)
  have I2:=I1.turned (h':=h'.update S9 (Obj.mapSeq fun _=>#[])) (t':=tk') (it:=S9) (fun b o nb e=>by rw [Heap.get?_update_ne _ _ _ _ nb]; exact e) pS.2.1 pS.2.2.1 (.inr hzS) (noc S9 _ (by simp; exact .inr (.inl rfl))) fun p hp=>nz7 (nz8 (hpn p hp) hIS)
  exact ⟨bV,H,I2,rb,hq⟩
 | y :: r,j,bV,kV,vb,kb,c,oI,H,s,er,hj,I,hit,rb,rk,h=>by
  refine oq03 h fun hS h0 h=>?_
  have hjl:j<vs.length:=by
   have:=congrArg List.length er
   simp at this; omega
  have ey:vs[j]?=some y:=by
   have:(vs.drop j)[0]?=some y:=by rw [er]; rfl
   rw [List.getElem?_drop] at this; simpa using this
  have er':vs.drop (j+1)=r:=by
   have:(vs.drop j).drop 1=r:=by rw [er]; rfl
   rw [List.drop_drop] at this; exact this
  have pS:=I.pin (S9,seqObj "list" #[vb,kb] c) (by simp)
  have pI:=I.pin (I9,oI) (by simp)
  refine oq13 (I.list hS) fun its rv ht hz=>?_
  have hlI:l≠I9:=fun z=>by
   refine oq13 ht.isList fun o ho hc _=>?_
   refine oq13 hit fun o2 ho2 hc2 _=>?_
   rw [z,ho2] at ho; cases ho; rw [hc2] at hc; simp at hc
  have W:=Walks.list (prog:=X.prog) (w:=X.w) (A:=X.A.in1) hh I9 l hlI its.toArray
  have hsz:its.toArray.size=vs.length:=by rw [List.size_toArray,← rv.length]
  refine codeAny_builtin PySem.F.entry_min_loop ?_
  rw [Around.under_plainId PySem.F.plain_min_loop _]
  show wpAny _ X.A.in1 (seqItems? (.ref S9) >>= _) _ _ _
  refine wpAny_bind (wpAny_seqItems pS.1 rfl ?_)
  show wpAny _ X.A.in1 (tryCatch (pyNext (.ref I9)) _ >>= _) _ _ _
  refine wpAny_bind (wpAny_tryCatch (W.item j _ _ _ (by rw [hsz]; exact hjl) ⟨hit,ht.isList⟩ fun v h' tk' hP hst' hk'=>?_))
  have hv:its[j]?=some v:=by simpa using hP
  refine oq12 (rv.get ey) fun u9 hu9 ru=>?_
  have:u9=v:=Option.some.inj (hu9.symm.trans hv)
  subst this
  have hk2:∀ b o,b≠I9→s.heap.get? b=some o→h'.get? b=some o:=fun b o nb e=>hk' b o (by simpa using nb) e
  refine oq13 (id hst'.1) fun oI' hoI' hoc hod=>?_
  have neI:∀ p∈X.pn++((S9,seqObj "list" #[vb,kb] c) :: (f,kla_obj "<lambda>" qual params body scope cl pm c' ctv) :: pins),p.1≠I9:=fun p hp=>by
   simp only [List.mem_append,List.mem_cons] at hp
   rcases hp with hp | rfl | hp
   ·exact nz7 (hpn p (by simp [hp]))
   ·exact Nat.ne_of_gt hIS
   ·exact nz7 (hpn p (by simp only [List.mem_append,List.mem_cons]; exact .inr hp))
  have neS:∀ p∈X.pn++((I9,oI') :: (f,kla_obj "<lambda>" qual params body scope cl pm c' ctv) :: pins),p.1≠S9:=fun p hp=>by
   simp only [List.mem_append,List.mem_cons] at hp
   rcases hp with hp | rfl | hp
   ·exact nz7 (nz8 (hpn p (by simp [hp])) hIS)
   ·exact nz7 hIS
   ·exact nz7 (nz8 (hpn p (by simp only [List.mem_append,List.mem_cons]; exact .inr hp)) hIS)
  have I1:=(I.swap.relistT (t':=tk') hzI neI (fun w z=>by rw [hod] at z; cases z) hk2 hoI').swap
  show wpAny _ X.A.in1 (tryCatch (holding [u9] (call (.ref f) [u9])) _ >>= _) _ _ _
  have po:=I1.pin (f,kla_obj "<lambda>" qual params body scope cl pm c' ctv) (by simp)
  refine wpAny_bind (wpAny_tryCatch (wpAny_holding (wpAny_mono (lL (A:=X.A.in1) S C I1 po.1 hA hh hd h0 hb (hp _ _ _ _ _) ru h) (fun k s2 he=>?_) fun _ _ z=>z.elim)))
  refine oq23 he fun kv H2 I2 rkv zz=>oq23 zz fun pk pb g1 g2 g3=>?_
  have pS2:=I2.pin (S9,seqObj "list" #[vb,kb] c) (by simp)
  have pI2:=I2.pin (I9,oI') (by simp)
  have hit2:s2.heap.IsListIter I9 l (j+1):=⟨oI',pI2.1,hoc,hod⟩
  show wpAny _ X.A.in1 (tryCatch (holding [u9,k] (richCompare .Lt k kb >>= _)) _ >>= _) _ _ _
  refine wpAny_bind (wpAny_tryCatch (wpAny_holding (wpAny_bind (pair_lt (A:=X.A.in1) I2 rkv rk g1 g2 hu ?_))))
  refine wpAny_bind (wpAny_holding (wpAny_truthy_bool ?_))
  refine wpAny_bind (wpAny_letGo (wpAny_pure ?_))
  cases hb':Pu.lt2 pk pb with
  | true =>
   rw [hb',if_pos rfl] at g3
   obtain ⟨c2,hc2⟩:∃ c2,(s2.heap.update S9 (Obj.mapSeq fun _=>#[u9,k])).get? S9=some (seqObj "list" #[u9,k] c2):=⟨_,get?_update_seq pS2.1 fun _=>#[u9,k]⟩
   simp only [if_true]
   refine wpAny_bind ?_
   refine wpAny_updateSeq pS2.1 rfl (wpAny_bind (wpAny_letGo ?_))
   have I3:=I2.relist (o':=seqObj "list" #[u9,k] c2) (h':=s2.heap.update S9 (Obj.mapSeq fun _=>#[u9,k])) hzS neS (fun w z=>nomatch z) (fun b o nb e=>by rw [Heap.get?_update_ne _ _ _ _ nb]; exact e) hc2
   have hit3:(s2.heap.update S9 (Obj.mapSeq fun _=>#[u9,k])).IsListIter I9 l (j+1):=⟨oI',by rw [Heap.get?_update_ne _ _ _ _ (nz7 hIS)]; exact pI2.1,hoc,hod⟩
   exact wpAny_pure ⟨plainId_quiet PySem.F.plain_min_loop _,lM S C hA hh hd hu hb hp hzI hzS hIS hpn r (j+1) y kv u9 k c2 oI' H2 _ er' (by exact hjl) I3 hit3 ru rkv g3⟩
  | false =>
   rw [hb',if_neg Bool.false_ne_true] at g3
   simp only [Bool.false_eq_true,if_false]
   refine wpAny_bind (wpAny_letGo ?_)
   exact wpAny_pure ⟨plainId_quiet PySem.F.plain_min_loop _,lM S C hA hh hd hu hb hp hzI hzS hIS hpn r (j+1) bV kV vb kb c oI' H2 _ er' (by exact hjl) I2 hit2 rb rk g3⟩
open PySem.W in
theorem pe_minK {P c:Addr} {params:Arguments} {body e:Expr} {p pos kpos lpos:Pos} {te tb:TE} (he:PE X e te) (hr:Room 3 X.A) (hm:X.mg "min"=none) (bm:BM X.mg X.base) (hC:codeHdIn X.K c P=true) (hT:P∈Kon.T) (hq:Kon.Q P=X.env.qual++"<lambda>") (hcode:X.env.code=.ref c)
  (S:LamScope X x cap scope) (hb:∀ cl pm cd ct u,bindArgs (kla_fn "<lambda>" (Kon.Q P) params body scope cl pm cd ct) ⟨[u],[]⟩=pure [(x,u)])
  (hp:∀ f cd cl s H,PE (iA X X.A.in1 (x :: cap.map (·.1)) (Kon.Q P) scope f cd cl s H) body tb) (hg:Gl X "min":=by rfl) (hdef:defaultsOf params X.env=([],[]):=by rfl)
  (hst:starEach [e] X.env=(false,eval e X.env) :: starEach [] X.env:=by rfl) (hpl:(backTo pos (starEach [e] X.env)).any (·.1)=false:=by rfl) :
  PE X (.Call (.Name "min" p) [e] [⟨some "key",.Lambda params body scope lpos,kpos⟩] pos) (tMinK X.K P cap te tb):=by
 intro pins s σ H Q I h
 refine wpAny_Call_Name_kw (dJ I hg hm jk ?_)
 refine PyProof.Rows.callWith_kw ?_ (by rw [hst]; rfl) hpl
 have h1:(aK te tNil) σ H fun xs H1=>match xs with
  | [v]=>∃ p x r,v=.ref p∧SqL X.K H1 p (x :: r)∧TbG H1∧∀ H2 c,TbSt P H1 H2→H2 c=some (.ext (be c (Kon.Q P)))→H2 c=some (.ext (be c (Kon.Q P)))∧tb (dY x cap σ) H2 fun k H'=>i6 (fun σ H Q=>H c=some (.ext (be c (Kon.Q P)))∧tb σ H Q) (fun x=>dY x cap σ) (fun H=>SqL X.K H p (x :: r)) Q r x k H'
  | _=>False:=h
 refine thn (a8 he aa hst pos pins s σ H _ I h1) ?_
 intro us s1 zq; refine oq23 zq fun vv H1 I1 r q=>?_
 show wpAny _ _ (evalAll ((do let v ← eval (.Lambda params body scope lpos) X.env; standAt pos; pure v) :: [])) _ _ s1
 match vv,q with
 | [v],q =>
  obtain ⟨l,y,rest,rfl,hS,tg,q⟩:=q
  obtain ⟨u,rfl,ru⟩:=vals1 r
  cases ru
  refine wpAny_evalAll_cons (wpAny_bind (mk_lam (P:=P) I1 S tg hT hq hcode hC bm hdef fun f cl pm c' ctv H2 s2 I2 ts hc' CL=>wpAny_bind (wpAny_standAt (wpAny_pure (wpAny_evalAll_nil ?_)))))
  show wpAny _ _ (call (.builtin "min") [.ref l] [(Str.ofString "key",.ref f)]) _ _ s2
  obtain ⟨h0,q⟩:=q H2 c' ts hc'
  have hS2:=ts.sm.seq hS
  refine oq13 (I2.list hS2) fun its rv ht hz=>?_
  have hname:(toString "min"++toString ".loop":String)="min.loop":=by decide
  refine kmk_tree PySem.F.kind_min PySem.F.plain_min PySem.F.entry_min (kmk_min_key _ _) ?_
  show wpAny _ X.A.in1 (Builtin.Builtins.bindParams "min" ["key","default"] 0 ⟨[],[(Str.ofString "key",.ref f)]⟩ >>= _) _ _ s2
  refine wpAny_bind (wpAny_of_eq (show Builtin.Builtins.bindParams "min" ["key","default"] 0 ⟨[],[(Str.ofString "key",.ref f)]⟩=pure [some (.ref f),none] from rfl) ?_)
  refine wpAny_bind (wpAny_pure ?_)
  refine wpAny_bind (wpAny_pyIter_list ht.isList ?_)
  refine wpAny_bind (wpAny_newList ?_ (Nat.zero_le _))
  rw [hname]
  generalize hI9:s2.heap.objs.size=I9
  have hS9:(s2.heap.push { cls:=.type "list_iterator",data:=.fields #[.ref l,.int 0 0] }).objs.size=I9+1:=by rw [← hI9]; exact size_push' ..
  have gI:((s2.heap.push { cls:=.type "list_iterator",data:=.fields #[.ref l,.int 0 0] }).push (seqObj "list" #[] 0)).get? I9=some { cls:=.type "list_iterator",data:=.fields #[.ref l,.int 0 0] }:=by
   rw [← hI9]; exact Heap.get?_push_of_some _ (Heap.get?_push_size _ rfl)
  have gS:((s2.heap.push { cls:=.type "list_iterator",data:=.fields #[.ref l,.int 0 0] }).push (seqObj "list" #[] 0)).get? (I9+1)=some (seqObj "list" #[] 0):=by rw [← hS9]; exact Heap.get?_push_size _ rfl
  refine wpAny_pure ⟨plainId_quiet PySem.F.plain_min_loop _,?_⟩
  rw [hS9]
  have big:∀ b,I9≤b→H2 b=none∧b≠X.env.locals∧b ∉ X.fs:=fun b hb=>(oi03 (I2.hok.fresh (by exact nz4 (nz3 hI9) hb)) (Nat.ne_of_gt (nz1 I2.lt (by exact nz4 (nz3 hI9) hb))) (I2.nofs (by exact nz4 (nz3 hI9) hb)))
  have I3:Inv X ((f,kla_obj "<lambda>" (Kon.Q P) params body scope cl pm c' ctv) :: pins) σ H2 { s2 with heap:=(s2.heap.push { cls:=.type "list_iterator",data:=.fields #[.ref l,.int 0 0] }).push (seqObj "list" #[] 0) }:=I2.kept (t':=s2.toks) fun b o e=>Heap.get?_push_of_some _ (Heap.get?_push_of_some _ e)
  have I4:=I3.addPin (f:=I9) gI (big I9 (nz6 _)).1 (big I9 (nz6 _)).2.1 (big I9 (nz6 _)).2.2 fun v z=>nomatch z
  have I5:=I4.addPin (f:=I9+1) (o:=seqObj "list" #[] 0) gS (big (I9+1) (Nat.le_succ _)).1 (big (I9+1) (Nat.le_succ _)).2.1 (big (I9+1) (Nat.le_succ _)).2.2 fun v z=>nomatch z
  have old:∀ p∈X.pn++((f,kla_obj "<lambda>" (Kon.Q P) params body scope cl pm c' ctv) :: pins),p.1<I9:=fun p hp=>by rw [← hI9]; exact Heap.lt_size (I2.pin p hp).1
  have hzI:X.s₀.heap.objs.size≤I9:=by rw [← hI9]; exact I2.sz
  refine oq13 (I5.list hS2) fun its3 rv3 ht3 _=>?_
  have hlI:l≠I9:=nz7 (by refine oq12 ht.isList fun o ho _=>?_; rw [← hI9]; exact Heap.lt_size ho)
  have W:=Walks.list (prog:=X.prog) (w:=X.w) (A:=X.A.in1) hr.hd I9 l hlI its3.toArray
  have hsz:0<its3.toArray.size:=by rw [List.size_toArray,← rv3.length]; simp
  have hun:X.A.in1.units<cLine:=by have:=hr.un; show X.A.units+1<_; omega
  have hdp:X.A.depth<recursionLimit:=by have:=hr.dp; (clear hun hsz W hlI ht3 rv3 hzI old I5 I4 I3 big gS gI hS9 hI9 hname hz ht rv hS2 q h0 CL hc' ts I2 r tg hS I1 h1 h I hpl hst hdef hg hp hb S hcode hq hT hC bm hm hr he; omega)
  have res:codeAny (model X.prog X.w) X.A (.builtin "min.loop" ⟨[.ref I9,.ref f,.ref (I9+1)],[]⟩) (fun r s'=>match r with | .ok (.ret u)=>EP X ((f,kla_obj "<lambda>" (Kon.Q P) params body scope cl pm c' ctv) :: pins) σ Q u s' | _=>False)
    { s2 with heap:=(s2.heap.push { cls:=.type "list_iterator",data:=.fields #[.ref l,.int 0 0] }).push (seqObj "list" #[] 0) }:=by
   refine codeAny_builtin PySem.F.entry_min_loop ?_
   rw [Around.under_plainId PySem.F.plain_min_loop _]
   show wpAny _ X.A.in1 (seqItems? (.ref (I9+1)) >>= _) _ _ _
   refine wpAny_bind (wpAny_seqItems gS rfl ?_)
   show wpAny _ X.A.in1 (tryCatch (pyNext (.ref I9)) _ >>= _) _ _ _
   refine wpAny_bind (wpAny_tryCatch (W.item 0 _ _ _ hsz ⟨⟨_,gI,rfl,rfl⟩,ht3.isList⟩ fun v h' tk' hP hst' hk'=>?_))
   have hv:its3[0]?=some v:=by simpa using hP
   refine oq12 (rv3.get (i:=0) (x:=y) rfl) fun u9 hu9 ru=>?_
   have:u9=v:=Option.some.inj (hu9.symm.trans hv)
   subst this
   have hk2:∀ b o,b≠I9→((s2.heap.push { cls:=.type "list_iterator",data:=.fields #[.ref l,.int 0 0] }).push (seqObj "list" #[] 0)).get? b=some o→h'.get? b=some o:=fun b o nb e=>hk' b o (by simpa using nb) e
   refine oq13 (id hst'.1) fun oI' hoI' hoc hod=>?_
   have neI:∀ p∈X.pn++((I9+1,seqObj "list" #[] 0) :: (f,kla_obj "<lambda>" (Kon.Q P) params body scope cl pm c' ctv) :: pins),p.1≠I9:=fun p hp=>by
    simp only [List.mem_append,List.mem_cons] at hp
    rcases hp with hp | rfl | hp
    ·exact nz7 (old p (by simp [hp]))
    ·exact Nat.ne_of_gt (Nat.lt_succ_self _)
    ·exact nz7 (old p (by simp only [List.mem_append,List.mem_cons]; exact .inr hp))
   have neS:∀ p∈X.pn++((I9,oI') :: (f,kla_obj "<lambda>" (Kon.Q P) params body scope cl pm c' ctv) :: pins),p.1≠I9+1:=fun p hp=>by
    simp only [List.mem_append,List.mem_cons] at hp
    rcases hp with hp | rfl | hp
    ·exact nz7 (Nat.lt_succ_of_lt (old p (by simp [hp])))
    ·exact nz7 (Nat.lt_succ_self _)
    ·exact nz7 (Nat.lt_succ_of_lt (old p (by simp only [List.mem_append,List.mem_cons]; exact .inr hp)))
   have I6:=(I5.swap.relistT (t':=tk') hzI neI (fun w z=>by rw [hod] at z; cases z) hk2 hoI').swap
   show wpAny _ X.A.in1 (tryCatch (holding [u9] (call (.ref f) [u9])) _ >>= _) _ _ _
   have po:=I6.pin (f,kla_obj "<lambda>" (Kon.Q P) params body scope cl pm c' ctv) (by simp)
   refine wpAny_bind (wpAny_tryCatch (wpAny_holding (wpAny_mono (lL (A:=X.A.in1) S CL I6 po.1 I.ok.frames hr.hd hdp h0 hb (hp _ _ _ _ _) ru q) (fun k s3 he=>?_) fun _ _ z=>z.elim)))
   refine oq23 he fun kv H3 I7 rkv g3=>?_
   have pS2:=I7.pin (I9+1,seqObj "list" #[] 0) (by simp)
   have pI2:=I7.pin (I9,oI') (by simp)
   obtain ⟨c2,hc2⟩:∃ c2,(s3.heap.update (I9+1) (Obj.mapSeq fun _=>#[u9,k])).get? (I9+1)=some (seqObj "list" #[u9,k] c2):=⟨_,get?_update_seq pS2.1 fun _=>#[u9,k]⟩
   show wpAny _ X.A.in1 (updateSeq (I9+1) (fun _=>#[u9,k]) >>= _) _ _ _
   refine wpAny_bind ?_
   refine wpAny_updateSeq pS2.1 rfl ?_
   rw [hname]
   have I8:=I7.relist (o':=seqObj "list" #[u9,k] c2) (h':=s3.heap.update (I9+1) (Obj.mapSeq fun _=>#[u9,k])) (Nat.le_succ_of_le hzI) neS (fun w z=>nomatch z) (fun b o nb e=>by rw [Heap.get?_update_ne _ _ _ _ nb]; exact e) hc2
   exact wpAny_pure ⟨plainId_quiet PySem.F.plain_min_loop _,lM (vs:=y :: rest) S CL I.ok.frames hr.hd hdp hun hb hp hzI (Nat.le_succ_of_le hzI) (Nat.lt_succ_self _) old rest 1 y kv u9 k c2 oI' H3 _ rfl (by simp) I8 ⟨oI',by rw [Heap.get?_update_ne _ _ _ _ (nz7 (Nat.lt_succ_self _))]; exact pI2.1,hoc,hod⟩ ru rkv g3⟩
  refine codeAny_mono res fun r s' hr'=>?_
  cases r with
  | error e=>exact hr'.elim
  | ok fl =>
   cases fl with
   | ret u =>
    refine oq23 ((show EP X ((f,kla_obj "<lambda>" (Kon.Q P) params body scope cl pm c' ctv) :: pins) σ Q u s' from hr')) fun v9 H9 I9' r9 q9=>?_
    exact ⟨v9,H9,I9'.drop1,r9,q9⟩
   | next=>exact hr'.elim
   | brk=>exact hr'.elim
   | cont=>exact hr'.elim
end
section
variable {Γ:List Slot} {te tb:TE} {K:PySem.W.Frag} {P:Addr} {cap:List (Str × Nat)}
theorem oC {C:Fc} {F0 H0:Hp} {σ:St} {c l:Addr} {q:Str} {x:Str} {g:Int→Option (Int × Int)} {vs:List V} {Q:VK} {res:Int} (hc:(cap.map (·.2)).Nodup) (hb:∀ a,EV ((csl [x] cap Γ).set 0 (.fr rInt a)) tb (g a) (rT2 rInt rInt))
  (hfin:∀ F H,Ext F0 H0 F H→Q (.int res) H):∀ (r:List Int) (b:Int) (kV:V) (kb:Int × Int) (F H:Hp),SR C F Γ σ H→Ext F0 H0 F H→H c=some (.ext (be c q))→Rd F l (.lst vs)→(rT2 rInt rInt).rel F kV kb→Pu.iB g r b kb=some res →
   i6 (fun σ H Q=>H c=some (.ext (be c q))∧tb σ H Q) (fun v=>dY v cap σ) (fun H=>SqL K H l vs) Q (r.map V.int) (.int b) kV H
 | [],b,kV,kb,F,H,S,x0,h0,hl,hk,e=>by
  cases e
  exact ⟨.inl (S.sub.rd hl),hfin F H x0⟩
 | a :: r,b,kV,kb,F,H,S,x0,h0,hl,hk,e=>by
  unfold Pu.iB at e
  refine oq12 (a9 e) fun k e1 e=>?_
  refine ⟨.inl (S.sub.rd hl),h0,hb a C F _ H _ k ((S.comp (loc:=[x]) hc).setF 0 (r:=rInt) (a:=a) (v:=.int a) rfl) e1 fun v F' H' x1 rv=>(oi23 k kb (Rp.mono _ x1.sub rv) (Rp.mono _ (x1.ff.trans x1.sub) hk) ?_)⟩
  cases hlt:Pu.lt2 k kb with
  | true =>
   rw [hlt,if_pos rfl] at e
   rw [if_pos rfl]
   exact oC hc hb hfin r a v k F' H' (S.grow x1) (x0.trans x1) (x1.hh.kp _ _ trivial h0) (x1.ff.rd hl) rv e
  | false =>
   rw [hlt,if_neg Bool.false_ne_true] at e
   rw [if_neg Bool.false_ne_true]
   exact oC hc hb hfin r b kV kb F' H' (S.grow x1) (x0.trans x1) (x1.hh.kp _ _ trivial h0) (x1.ff.rd hl) (Rp.mono _ x1.ff hk) e
theorem ev_minK {o:Option (List Int)} {g:Int→Option (Int × Int)} {x:Str} (hc:(cap.map (·.2)).Nodup) (h:EV Γ te o (rL rInt)) (hb:∀ a,EV ((csl [x] cap Γ).set 0 (.fr rInt a)) tb (g a) (rT2 rInt rInt)):EV Γ (tMinK K P cap te tb) (o.bind fun xs=>Pu.minK g xs) rInt:=by
 intro C F σ H Q res S e k
 refine oq12 (a9 e) fun ns e1 e=>?_
 refine h C F σ H _ ns S e1 fun v F1 H1 x1 zq=>oq23 zq fun p vs e3 h1 h2=>?_
 have ev:=bx h2
 subst ev
 cases ns with
 | nil=>cases e
 | cons a r =>
  unfold Pu.minK at e
  refine oq12 (a9 e) fun ka e2 e=>?_
  refine (oi34 p (.int a) (r.map V.int) e3 (.inl (x1.sub.rd h1)) ((S.grow x1).tg) (fun H2 c ts h0=>⟨h0,?_⟩))
  have x2:=ts.ext (S.grow x1).sub (S.grow x1).nt
  have S2:=(S.grow x1).grow x2
  refine hb a C F1 _ H2 _ ka ((S2.comp (loc:=[x]) hc).setF 0 (r:=rInt) (a:=a) (v:=.int a) rfl) e2 fun v F' H' x3 rv=>?_
  exact oC hc hb (fun F H x4=>k _ F H x4 rfl) r a v ka F' H' (S2.grow x3) ((x1.trans x2).trans x3) (x3.hh.kp _ _ trivial h0) (x3.ff.rd h1) rv e
end
end L2
namespace L2
open PySem PySem.Spec PyProof.Rows
noncomputable abbrev rP:Rp (Option Int × Option Int):=rT2 (rOp rInt) (rOp rInt)
noncomputable abbrev rF:Rp (List (List Int)):=rL (rL rInt)
noncomputable abbrev End_:=List (Int × (Option Int × Option Int))
noncomputable def rM0 (CM:Addr):Rp (List (List Int) × Addr):=⟨fun H v x=>∃ m dm vf,v=.ref m∧H m=some (.ins CM dm [("floor",vf),("ended",.ref x.2)])∧rF.rel H vf x.1,
 fun e zq=>oq33 zq fun m dm vf h1 h2 h3=>(oi33 m dm vf h1 (e _ _ h2) (rF.mono e h3))⟩
noncomputable def rM (CM:Addr):Rp (List (List Int) × End_):=⟨fun H v x=>∃ p ws,(rM0 CM).rel H v (x.1,p)∧H p=some (.dK ws)∧Paired (dRel rP H) ws x.2,
 fun e zq=>oq23 zq fun p ws h1 h2 h3=>(oi23 p ws ((rM0 CM).mono e h1) (e _ _ h2) (Paired.imp2 (fun _ _ q=>⟨q.1,rP.mono e q.2⟩) h3))⟩
noncomputable def rW0 (CM CW:Addr):Rp (List (List Int) × Int × Addr × Addr):=⟨fun H v x=>∃ w dw vf m,v=.ref w∧H w=some (.ins CW dw [("floor",vf),("reach",.int x.2.1),("homes",.ref x.2.2.1),("meetings",.ref m)])∧rF.rel H vf x.1∧(rM0 CM).rel H (.ref m) (x.1,x.2.2.2),
 fun e zq=>oq44 zq fun w dw vf m h1 h2 h3 h4=>(oi44 w dw vf m h1 (e _ _ h2) (rF.mono e h3) ((rM0 CM).mono e h4))⟩
noncomputable def rW (CM CW:Addr):Rp (List (List Int) × Int × List (Option Int) × End_):=⟨fun H v x=>∃ h p vs ws,(rW0 CM CW).rel H v (x.1,x.2.1,h,p)∧H h=some (.lst vs)∧Paired ((rOp rInt).rel H) vs x.2.2.1∧H p=some (.dK ws)∧Paired (dRel rP H) ws x.2.2.2,
 fun e zq=>oq45 zq fun h p vs ws h1 h2 h3 h4 h5=>(oi45 h p vs ws ((rW0 CM CW).mono e h1) (e _ _ h2) (Paired.imp2 (fun _ _ q=>(rOp rInt).mono e q) h3) (e _ _ h4) (Paired.imp2 (fun _ _ q=>⟨q.1,rP.mono e q.2⟩) h5))⟩
structure MK (K:PySem.W.Frag) (CM:Addr):Prop where
 c:Cls K CM
 floor:bn K CM "floor"
 ended:bn K CM "ended"
structure WK (K:PySem.W.Frag) (CW:Addr):Prop where
 c:Cls K CW
 floor:bn K CW "floor"
 reach:bn K CW "reach"
 homes:bn K CW "homes"
 meetings:bn K CW "meetings"
variable [Kon]
section
variable {Γ:List Slot} {ta:TE} {K:PySem.W.Frag} {CM CW:Addr}
theorem i7 {α γ:Type} {r:Rp α} {s:Rp γ} {o:Option α} {f:Str} {g:α→γ} (h:EV Γ ta o r) (hf:∀ H v x,r.rel H v x→∃ a C dx fs u,v=.ref a∧H a=some (.ins C dx fs)∧Cls K C∧bn K C f∧fs.lookup f=some u∧s.rel H u (g x)):EV Γ (tFld K ta f) (o.bind fun x=>some (g x)) s:=by
 intro C F σ H Q c S e k
 refine oq12 (a9 e) fun x e1 e=>?_
 cases e
 refine h C F σ H _ x S e1 fun v F' H' x1 r1=>?_
 refine oq56 (hf F' v x r1) fun a C' dx fs u h1 h2 h3 h4 h5 h6=>?_
 exact (oi56 a C' dx fs u h1 (x1.sub _ _ h2) h3 h4 h5 (k u F' H' x1 h6))
theorem oE (k:MK K CM) {o:Option (List (List Int) × Addr)} (h:EV Γ ta o (rM0 CM)):EV Γ (tFld K ta "floor") (o.bind fun x=>some x.1) rF:=i7 h fun H v x zq=>oq33 zq fun m dm vf h1 h2 h3=>(oi56 m CM dm _ vf h1 h2 k.c k.floor rfl h3)
theorem kK (k:MK K CM) {o:Option (List (List Int) × End_)} (h:EV Γ ta o (rM CM)):EV Γ (tFld K ta "ended") (o.bind fun x=>some x.2) (rD rP):=i7 h fun H v x zq=>oq23 zq fun p ws nm2 h4 h5=>oq33 nm2 fun m dm vf h1 h2 h3=>⟨m,CM,dm,_,.ref p,h1,h2,k.c,k.ended,by rfl,p,ws,rfl,h4,h5⟩
theorem ev_wFloor (k:WK K CW) {o:Option (List (List Int) × Int × List (Option Int) × End_)} (h:EV Γ ta o (rW CM CW)):EV Γ (tFld K ta "floor") (o.bind fun x=>some x.1) rF:=i7 h fun H v x zq=>oq42 zq fun _ _ _ _ nm3 _=>oq44 nm3 fun m dm vf mm h1 h2 h3 _=>⟨m,CW,dm,_,vf,h1,h2,k.c,k.floor,rfl,h3⟩
theorem ev_wReach (k:WK K CW) {o:Option (List (List Int) × Int × List (Option Int) × End_)} (h:EV Γ ta o (rW CM CW)):EV Γ (tFld K ta "reach") (o.bind fun x=>some x.2.1) rInt:=i7 h fun H v x zq=>oq42 zq fun _ _ _ _ nm4 _=>oq44 nm4 fun m dm vf mm h1 h2 h3 _=>⟨m,CW,dm,_,.int x.2.1,h1,h2,k.c,k.reach,by rfl,rfl⟩
theorem i8 (k:WK K CW) {o:Option (List (List Int) × Int × List (Option Int) × End_)} (h:EV Γ ta o (rW CM CW)):EV Γ (tFld K ta "homes") (o.bind fun x=>some x.2.2.1) (rL (rOp rInt)) :=
 i7 h fun H v x zq=>oq44 zq fun hh p vs ws nm5 h4 h5 _=>oq44 nm5 fun m dm vf mm h1 h2 h3 _=>⟨m,CW,dm,_,.ref hh,h1,h2,k.c,k.homes,by rfl,hh,vs,rfl,.inl h4,h5⟩
theorem ev_wMeet (k:WK K CW) {o:Option (List (List Int) × Int × List (Option Int) × End_)} (h:EV Γ ta o (rW CM CW)):EV Γ (tFld K ta "meetings") (o.bind fun x=>some (x.1,x.2.2.2)) (rM CM) :=
 i7 h fun H v x zq=>oq45 zq fun hh p vs ws nm6 h4 h5 h7 h8=>oq44 nm6 fun m dm vf mm h1 h2 h3 h6=>⟨m,CW,dm,_,.ref mm,h1,h2,k.c,k.meetings,by rfl,p,ws,h6,h7,h8⟩
noncomputable def Ob {α:Type} (r:Rp α) (C:Addr) (m:Str):Prop:=∀ H v x,r.rel H v x→∃ a dx fs,v=.ref a∧H a=some (.ins C dx fs)∧fs.lookup m=none
theorem ob_m {m:Str} (h1:("floor" == m)=false:=by decide) (h2:(m == "floor")=false:=by decide) (h3:(m == "ended")=false:=by decide):Ob (rM CM) CM m:=fun H v x zq=>oq22 zq fun p ws nm7 _=>oq33 nm7 fun a dm vf e1 e2 e3=>⟨a,dm,_,e1,e2,by simp [List.lookup,h2,h3]⟩
theorem ob_w {m:Str} (h2:(m == "floor")=false:=by decide) (h3:(m == "reach")=false:=by decide) (h4:(m == "homes")=false:=by decide) (h5:(m == "meetings")=false:=by decide):Ob (rW CM CW) CW m:=fun H v x zq=>oq42 zq fun _ _ _ _ nm8 _=>oq43 nm8 fun a dm vf _ e1 e2 e3=>⟨a,dm,_,e1,e2,by simp [List.lookup,h2,h3,h4,h5]⟩
theorem ob_w0 {m:Str} (h2:(m == "floor")=false:=by decide) (h3:(m == "reach")=false:=by decide) (h4:(m == "homes")=false:=by decide) (h5:(m == "meetings")=false:=by decide):Ob (rW0 CM CW) CW m:=fun H v x zq=>oq43 zq fun a dm vf _ e1 e2 e3=>(oi33 a dm _ e1 e2 (by simp [List.lookup,h2,h3,h4,h5]))
section
variable {α γ τ:Type} {r:Rp α} {q:Rp γ} {ra:RpA τ} {t:TA} {C:Addr} {m:Str} {o:Option α} {oτ:Option τ}
theorem iV {f:α × τ→Option γ} (ob:Ob r C m) (h:EV Γ ta o r) (ha:EA Γ t oτ ra):EV Γ (ki C m (spV (ak r ra) q f) [] E0 ta t) (o.bind fun x=>oτ.bind fun a=>f (x,a)) q:=by
 intro C F σ H Q c S e k
 refine oq12 (a9 e) fun x e1 e=>?_
 refine oq12 (a9 e) fun a e2 e=>?_
 refine h C F σ H _ x S e1 fun v F' H' x1 r1=>?_
 refine oq33 (ob F' v x r1) fun ad dx fs h1 h2 h3=>?_
 refine (oi34 ad dx fs h1 (x1.sub _ _ h2) h3 (ha C F' σ H' _ a (S.grow x1) e2 fun vs F2 H2 x2 r2=>⟨F2,(x,a),c,x2.sub,x2.nt (x1.nt S.nt),x2.hh.tg (x1.hh.tg S.tg),⟨v,vs,by rw [List.append_nil],r.mono x2.ff r1,r2⟩,e,fun w F3 H3 x3 r3=>k w F3 H3 ((x1.trans x2).trans x3) r3⟩))
theorem evl_meth {f:α × τ→Option (List γ)} (ob:Ob r C m) (h:EV Γ ta o r) (ha:EA Γ t oτ ra):EVL Γ (ki C m (spL (ak r ra) q f) [] E0 ta t) (o.bind fun x=>oτ.bind fun a=>f (x,a)) q:=by
 intro C F σ H Q c S e k
 refine oq12 (a9 e) fun x e1 e=>?_
 refine oq12 (a9 e) fun a e2 e=>?_
 refine h C F σ H _ x S e1 fun v F' H' x1 r1=>?_
 refine oq33 (ob F' v x r1) fun ad dx fs h1 h2 h3=>?_
 refine (oi34 ad dx fs h1 (x1.sub _ _ h2) h3 (ha C F' σ H' _ a (S.grow x1) e2 fun vs F2 H2 x2 r2=>⟨F2,(x,a),c,x2.sub,x2.nt (x1.nt S.nt),x2.hh.tg (x1.hh.tg S.tg),⟨v,vs,by rw [List.append_nil],r.mono x2.ff r1,r2⟩,e,fun p ws F3 H3 x3 hp r3=>k p ws F3 H3 ((x1.trans x2).trans x3) hp r3⟩))
end
end
end L2
namespace L2
open PySem PySem.Spec PyProof.Rows
variable [Kon]
theorem set_same {σ:St} {i:Nat} {v:Option V} (h:σ[i]?=some v):σ.set i v=σ:=by
 apply List.ext_getElem?
 intro j
 rw [List.getElem?_set]
 split
 ·rename_i e
  split
  ·rw [← e]; exact h.symm
  ·rename_i q; rw [← e]; rw [(List.getElem?_eq_none_iff).mpr (by exact Nat.not_lt.mp q)]
 ·rfl
section
variable {X:Cx} {pins:List (Addr × Obj)} {σ:St} {H:Hp} {s:Shared}
theorem Inv.ghost {g:Nat} {x:Str} {v:V} (I:Inv X pins σ H s) (hx:X.N[g]?=some x) (nv:¬ Vis X.env.scope x):Inv X pins (σ.set g (some v)) H s :=
 ⟨I.ok,I.os,I.bare,I.base,oq12 I.loc fun m hn hl=>(oi12 m hn (fun i y u e1 e2 e3=>by
  by_cases e:g=i
  ·subst e
   rw [hx] at e1
   cases e1
   exact absurd e3 nv
  ·rw [List.getElem?_set,if_neg e] at e2
   exact hl i y u e1 e2 e3)),I.cell,I.free,I.freeC,I.pin,I.hok,by rw [List.length_set]; exact I.len⟩
theorem fO {ss:List Stmt} {t:TS} {g:Nat} {x:Str} (h:PSs X ss t) (hx:X.N[g]?=some x) (nv:¬ Vis X.env.scope x):PSs X ss fun D σ H=>∃ v,t D (σ.set g (some v)) H :=
 fun pins s σ H D I zq=>oq11 zq fun v q=>h pins s _ H D (I.ghost hx nv) q
end
noncomputable def eQ (sc:Scope) (x:Str):Bool:=match sc.names.lookup x with
 | some .local=>false
 | some .cell=>false
 | some .free=>false
 | _=>true
theorem gK {sc:Scope} {x:Str} (h:eQ sc x=true):¬ Vis sc x:=by
 unfold eQ at h
 rintro (z | z | z) <;> rw [z] at h <;> cases h
section
variable {C:Fc} {F H:Hp} {Γ:List Slot} {σ:St}
theorem SR.less {p:Addr} {u:HO} (S:SR C F Γ σ H) (no:∀ (j:Nat) t,Γ[j]?=some t→t.own=false) (hp:C.H0 p=some u) (ou:Own u):SR { C with H0:=del C.H0 p } F Γ σ H:=by
 have sm:Sm (del C.H0 p) H:=by
  refine ⟨fun b o n q=>S.keep.kp b o n (cS q).2,fun b ps q=>S.keep.tb b ps (cS q).2,fun _=>S.tg⟩
 refine ⟨⟨sm,S.low,S.sub,fun b o h=>?_,S.nt,S.tg⟩,S.len,fun i s h=>?_,fun i j s t q h1 h2 o1 o2 _ _=>?_⟩
 ·rcases S.base b o h with z | z
  ·exact .inl z
  ·refine .inr ?_
   show del C.H0 p b=none
   unfold del; split
   ·rfl
   ·exact z
 ·refine oq12 (S.at_ i s h) fun o h1 h2=>?_
  refine (oi12 o h1 ?_)
  have:=no i s h
  cases s with
  | any=>trivial
  | fr r a=>exact h2
  | ol r φ xs=>cases this
  | od r φ kvs=>cases this
 ·rw [no i s h1] at o1; cases o1
theorem SR.setG {p:Addr} {s:Slot} (g:Nat) (S:SR C F Γ σ H) (hs:s.own=true) (h:SlOk C.H0 F H s (some (.ref p))) (np:∀ (j:Nat) t,Γ[j]?=some t→t.own=true→σ[j]?≠some (some (.ref p))):SR C F (Γ.set g s) (σ.set g (some (.ref p))) H:=by
 refine ⟨S.toFr,by rw [List.length_set,List.length_set]; exact S.len,fun j t q=>?_,fun j k s' t p' q1 q2 o1 o2 e1 e2=>?_⟩
 ·rcases get_set q with ⟨rfl,rfl,hl⟩ | ⟨hne,q⟩
  ·exact (oi12 _ (dN (by rw [S.len]; exact hl)) h)
  ·refine oq12 (S.at_ j t q) fun o h1 h2=>?_
   exact (oi12 o (by rw [bi hne]; exact h1) h2)
 ·rcases get_set q1 with ⟨rfl,rfl,l1⟩ | ⟨n1,q1⟩
  ·rcases get_set q2 with ⟨rfl,rfl,_⟩ | ⟨n2,q2⟩
   ·rfl
   ·rw [dN (by rw [S.len]; exact l1)] at e1
    cases e1
    rw [bi n2] at e2
    exact absurd e2 (np k t q2 o2)
  ·rcases get_set q2 with ⟨rfl,rfl,l2⟩ | ⟨n2,q2⟩
   ·rw [dN (by rw [S.len]; exact l2)] at e2
    cases e2
    rw [bi n1] at e1
    exact absurd e1 (np j s' q1 o1)
   ·rw [bi n1] at e1
    rw [bi n2] at e2
    exact S.inj j k s' t p' q1 q2 o1 o2 e1 e2
theorem SR.mut {p:Addr} {u u':HO} {F' H':Hp} {s s':Slot} {g:Nat} (S:SR C F Γ σ H) (hg:Γ[g]?=some s) (hs:s.own=true) (hp:σ[g]?=some (some (.ref p))) (h0:C.H0 p=none) (hu:H p=some u) (fr:Fr ⟨del H p,F,F⟩ F' H') (hs':s'.own=true) (h:SlOk C.H0 F' H' s' (some (.ref p))) :
  SR C F' (Γ.set g s') σ H':=by
 have oth:∀ (j:Nat) t q,j≠g→Γ[j]?=some t→t.own=true→σ[j]?=some (some (.ref q))→q≠p:=fun j t q n q1 o1 e1 z=>by subst z; exact n (S.inj j g t s _ q1 hg o1 hs e1 hp)
 have kp:∀ b o,b≠p→cQ o→H b=some o→H' b=some o:=fun b o n nt q=>fr.keep.kp b o nt (by show del H p b=some o; rw [bf n]; exact q)
 have sm:Sm C.H0 H':=by
  refine ⟨fun b o n q=>kp b o (ah q h0) n (S.keep.kp b o n q),fun b ps q=>?_,fun _=>fr.tg⟩
  refine oq11 (S.keep.tb b ps q) fun m1 e1=>?_
  obtain ⟨m2,e2⟩:=fr.keep.tb b _ (show del H p b=_ by rw [bf (ah q h0)]; exact e1)
  exact ⟨m1++m2,by rw [e2,Array.append_assoc]⟩
 have fn:∀ q o,q≠p→F q=none→H q=some o→F' q=none:=fun q o n f e=>by
  cases z:F' q with
  | none=>rfl
  | some w =>
   rcases fr.base q w z with y | y
   ·exact nomatch f.symm.trans y
   ·have y:del H p q=none:=y
    rw [bf n,e] at y; cases y
 refine ⟨⟨sm,S.low.trans fr.low,fr.sub,fun b o q=>?_,fr.nt,fr.tg⟩,by rw [List.length_set]; exact S.len,fun j t q=>?_,fun j k a b p' q1 q2 o1 o2 e1 e2=>?_⟩
 ·rcases fr.base b o q with z | z
  ·exact S.base b o z
  ·by_cases e:b=p
   ·subst e; exact .inr h0
   ·have z:del H p b=none:=z
    rw [bf e] at z
    exact .inr (S.keep.free z)
 ·rcases get_set q with ⟨rfl,rfl,hl⟩ | ⟨hne,q⟩
  ·exact (oi12 _ hp h)
  ·refine oq12 (S.at_ j t q) fun o h1 h2=>?_
   refine (oi12 o h1 ?_)
   cases t with
   | any=>trivial
   | fr r a=>refine oq12 h2 fun v z1 z2=>?_; exact ⟨v,z1,r.mono fr.low z2⟩
   | ol r φ xs =>
    refine oq26 h2 fun p' vs h3 h4 h5 h6 h7 h8=>?_
    subst h3
    have n:=oth j _ p' (Ne.symm hne) q rfl h1
    exact ⟨p',vs,rfl,h4,h5,fn p' _ n h6 h7,kp p' _ n trivial h7,Paired.imp2 (fun _ _ z=>r.mono fr.low z) h8⟩
   | od r φ kvs =>
    refine oq26 h2 fun p' vs h3 h4 h5 h6 h7 h8=>?_
    subst h3
    have n:=oth j _ p' (Ne.symm hne) q rfl h1
    exact ⟨p',vs,rfl,h4,h5,fn p' _ n h6 h7,kp p' _ n trivial h7,Paired.imp2 (fun _ _ z=>⟨z.1,r.mono fr.low z.2⟩) h8⟩
 ·have own':∀ (j:Nat) x,(Γ.set g s')[j]?=some x→x.own=true→∃ y,Γ[j]?=some y∧y.own=true:=fun j x q o=>by
   rcases get_set q with ⟨rfl,rfl,_⟩ | ⟨_,q⟩
   ·exact ⟨s,hg,hs⟩
   ·exact ⟨x,q,o⟩
  obtain ⟨a',r1,r2⟩:=own' j a q1 o1
  obtain ⟨b',r3,r4⟩:=own' k b q2 o2
  exact S.inj j k a' b' p' r1 r3 r2 r4 e1 e2
end
section
variable {Γ:List Slot} {C:Fc} {F H:Hp} {σ:St} {CM CW p hh:Addr} {i g g1 g2:Nat} {rows:List (List Int)} {reach:Int} {ended:End_} {homes:List (Option Int)}
theorem SR.borM (S:SR C F Γ σ H) (hi:Γ[i]?=some (.fr (rM0 CM) (rows,p))) (hg:Γ[g]?=some (.od rP (fun b=>b=p) ended)):∃ ws,F p=none∧H p=some (.dK ws)∧SR C (upd F p (.dK ws)) ((Γ.set g .any).set i (.fr (rM CM) (rows,ended))) σ H:=by
 refine oq12 (S.at_ g _ hg) fun o h1 zz=>oq26 zz fun p' ws eq4_ eq5_ h3 h4 h5 h6=>?_; subst eq4_; subst eq5_
 refine oq12 (S.fr hi) fun v q1 q2=>?_
 refine (oi13 ws h4 h5 ?_)
 have S1:=S.freeze hg p' _ .any rfl rfl h1 h3 h4 h5 trivial trivial
 have S2:=S1.setF (r:=rM CM) (a:=(rows,ended)) (v:=v) i ⟨p',ws,(rM0 CM).mono (aC h4) q2,af,Paired.imp2 (fun _ _ z=>⟨z.1,rP.mono (aC h4) z.2⟩) h6⟩
 rw [set_same q1] at S2
 exact S2
theorem SR.borW (S:SR C F Γ σ H) (hi:Γ[i]?=some (.fr (rW0 CM CW) (rows,reach,hh,p))) (hg1:Γ[g1]?=some (.ol (rOp rInt) (fun b=>b=hh) homes)) (hg2:Γ[g2]?=some (.od rP (fun b=>b=p) ended)) (hne:g1≠g2) :
  ∃ vs ws,F hh=none∧H hh=some (.lst vs)∧F p=none∧H p=some (.dK ws)∧p≠hh∧SR C (upd (upd F hh (.lst vs)) p (.dK ws)) (((Γ.set g1 .any).set g2 .any).set i (.fr (rW CM CW) (rows,reach,homes,ended))) σ H:=by
 refine oq12 (S.at_ g1 _ hg1) fun o h1 zz=>oq26 zz fun p1 vs eq4_ eq5_ h3 h4 h5 h6=>?_; subst eq4_; subst eq5_
 refine oq12 (S.fr hi) fun v q1 q2=>?_
 refine oq12 (S.at_ g2 _ hg2) fun o' k1 zz=>oq26 zz fun p2 ws eq4_ eq5_ k3 k4 k5 k6=>?_; subst eq4_; subst eq5_
 have ne:p2≠p1:=by rintro rfl; rw [h5] at k5; cases k5
 have S1:=S.freeze hg1 p1 _ .any rfl rfl h1 h3 h4 h5 trivial trivial
 have hg2':(Γ.set g1 .any)[g2]?=some (.od rP (fun b=>b=p2) ended):=by rw [bi hne]; exact hg2
 have F2:upd F p1 (.lst vs) p2=none:=by rw [ac ne]; exact k4
 have S2:=S1.freeze hg2' p2 _ .any rfl rfl k1 k3 F2 k5 trivial trivial
 have e1:Same F (upd F p1 (.lst vs)):=aC h4
 have e2:Same (upd F p1 (.lst vs)) (upd (upd F p1 (.lst vs)) p2 (.dK ws)):=aC F2
 refine (oi26 vs ws h4 h5 k4 k5 ne ?_)
 have S3:=S2.setF (r:=rW CM CW) (a:=(rows,reach,homes,ended)) (v:=v) i ⟨p1,p2,vs,ws,(rW0 CM CW).mono (e1.trans e2) q2,by rw [ac (Ne.symm ne)]; exact af,Paired.imp2 (fun _ _ z=>(rOp rInt).mono (e1.trans e2) z) h6,af,Paired.imp2 (fun _ _ z=>⟨z.1,rP.mono (e1.trans e2) z.2⟩) k6⟩
 rw [set_same q1] at S3
 exact S3
end
section
variable {Γ:List Slot} {α β:Type} {s:Rp β} {tb:TE} {ob:Option β} {CM CW p hh:Addr} {rows:List (List Int)} {reach:Int} {ended:End_} {homes:List (Option Int)}
noncomputable abbrev brwM (Γ:List Slot) (i g:Nat) (CM:Addr) (rows:List (List Int)) (ended:End_):List Slot:=(Γ.set g .any).set i (.fr (rM CM) (rows,ended))
noncomputable abbrev brwW (Γ:List Slot) (i g1 g2:Nat) (CM CW:Addr) (rows:List (List Int)) (reach:Int) (homes:List (Option Int)) (ended:End_):List Slot:=((Γ.set g1 .any).set g2 .any).set i (.fr (rW CM CW) (rows,reach,homes,ended))
theorem evl_borM {o:Option (List β)} (i g:Nat) (hi:Γ[i]?=some (.fr (rM0 CM) (rows,p))) (hg:Γ[g]?=some (.od rP (fun b=>b=p) ended)) (fl:Flat s) (h:EVL (brwM Γ i g CM rows ended) tb o s):EVL Γ tb o s:=by
 intro C F σ H Q b S e k
 refine oq13 (S.borM hi hg) fun ws h1 h2 S'=>?_
 refine h C _ σ H Q b S' e fun v vs F' H' x1 hv r1=>?_
 refine oq02 (dD h1 h2 x1) fun x2 h3=>?_
 exact k v vs _ H' x2 hv (Paired.imp2 (fun _ _ z=>fl h3 trivial z) r1)
theorem fi {F H F' H':Hp} {p q:Addr} {u v:HO} (hF:F p=none) (hH:H p=some u) (hF2:F q=none) (hH2:H q=some v) (ne:q≠p) (e:Ext (upd (upd F p u) q v) H F' H') (nu:cQ u:=by trivial) (nv:cQ v:=by trivial):Ext F H (del (del F' q) p) H'∧F' q=some v∧del F' q p=some u:=by
 refine oq02 (dD (F:=upd F p u) (p:=q) (by rw [ac ne]; exact hF2) hH2 e nv) fun x1 h1=>?_
 refine oq02 (dD hF hH x1 nu) fun x2 h2=>?_
 exact (oi03 x2 h1 h2)
theorem ev_borW (i g1 g2:Nat) (hi:Γ[i]?=some (.fr (rW0 CM CW) (rows,reach,hh,p))) (hg1:Γ[g1]?=some (.ol (rOp rInt) (fun b=>b=hh) homes)) (hg2:Γ[g2]?=some (.od rP (fun b=>b=p) ended)) (hne:g1≠g2) (fl:Flat s) (h:EV (brwW Γ i g1 g2 CM CW rows reach homes ended) tb ob s):EV Γ tb ob s:=by
 intro C F σ H Q b S e k
 refine oq26 (S.borW hi hg1 hg2 hne) fun vs ws h1 h2 h3 h4 ne S'=>?_
 refine h C _ σ H Q b S' e fun v F' H' x1 r1=>?_
 refine oq03 (fi h1 h2 h3 h4 ne x1) fun x2 h5 h6=>?_
 exact k v _ H' x2 (fl h6 trivial (fl h5 trivial r1))
theorem evl_borW {o:Option (List β)} (i g1 g2:Nat) (hi:Γ[i]?=some (.fr (rW0 CM CW) (rows,reach,hh,p))) (hg1:Γ[g1]?=some (.ol (rOp rInt) (fun b=>b=hh) homes)) (hg2:Γ[g2]?=some (.od rP (fun b=>b=p) ended)) (hne:g1≠g2) (fl:Flat s) (h:EVL (brwW Γ i g1 g2 CM CW rows reach homes ended) tb o s):EVL Γ tb o s:=by
 intro C F σ H Q b S e k
 refine oq26 (S.borW hi hg1 hg2 hne) fun vs ws h1 h2 h3 h4 ne S'=>?_
 refine h C _ σ H Q b S' e fun v us F' H' x1 hv r1=>?_
 refine oq03 (fi h1 h2 h3 h4 ne x1) fun x2 h5 h6=>?_
 exact k v us _ H' x2 hv (Paired.imp2 (fun _ _ z=>fl h6 trivial (fl h5 trivial z)) r1)
theorem own_mE {K:PySem.W.Frag} (k:MK K CM) (i g:Nat) (hi:Γ[i]?=some (.fr (rM0 CM) (rows,p))) (hg:Γ[g]?=some (.od rP (fun b=>b=p) ended)):g8 Γ (tFld K (tVar i) "ended") g:=fun C F σ H Q v S hv q=>by
 refine oq12 (S.at_ g _ hg) fun o h1 zz=>oq26 zz fun p' ws eq4_ eq5_ h3 h4 h5 h6=>?_; subst eq4_; subst eq5_
 rw [hv] at h1
 cases h1
 refine oq12 (S.fr hi) fun w q1 zz=>oq33 zz fun m dm vf eq5_ h7 h8=>?_; subst eq5_
 exact ⟨.ref m,q1,m,CM,dm,_,.ref p',rfl,S.sub _ _ h7,k.c,k.ended,by rfl,q⟩
theorem own_wH {K:PySem.W.Frag} (k:WK K CW) (i g:Nat) (hi:Γ[i]?=some (.fr (rW0 CM CW) (rows,reach,hh,p))) (hg:Γ[g]?=some (.ol (rOp rInt) (fun b=>b=hh) homes)):g8 Γ (tFld K (tVar i) "homes") g:=fun C F σ H Q v S hv q=>by
 refine oq12 (S.at_ g _ hg) fun o h1 zz=>oq26 zz fun p' ws eq4_ eq5_ h3 h4 h5 h6=>?_; subst eq4_; subst eq5_
 rw [hv] at h1
 cases h1
 refine oq12 (S.fr hi) fun w q1 zz=>oq43 zz fun m dm vf mm eq6_ h7 h8=>?_; subst eq6_
 exact ⟨.ref m,q1,m,CW,dm,_,.ref p',rfl,S.sub _ _ h7,k.c,k.homes,by rfl,q⟩
end
end L2
namespace L2
open PySem PySem.Spec PyProof.Rows
variable [Kon]
noncomputable def bJ (K:PySem.W.Frag) (C:Addr) (m qual:Str) (st:Stmt) (ps:List Str):Prop:=∃ f fd,Fun K m qual st f fd∧Binds K fd ps []∧Meth K C m f
noncomputable def HasM (P:Program) (w:World) (K:PySem.W.Frag) (mg:Str→Option Value) (base:Heap) (k:Nat) (C:Addr) (m:Str) (ps:List Str) (sp:Sp):Prop :=
 ∃ f fd,FnOk P w K mg base CX0 k f fd ps sp∧Meth K C m f∧Binds K fd ps []
theorem gL {K:PySem.W.Frag} {C f:Addr} {m qual:Str} {st:Stmt} {ps:List Str} {oc:Value} {od an:Option Addr} {osl:Array (Option Value)} {kV doc pm cdv ct:Value}
  (a:PySem.W.findIn K (.ref C) m=some (some (.ref f))) (l:K.lookup f=some ⟨oc,od,.func (PySem.W.fnOf m qual (bz st) (aO st) (ae st) .none kV doc pm an cdv ct),osl⟩) (c:PySem.W.codeIn K cdv qual=true) (k:PySem.W.keepIn K (.ref f)=true) (hf:PySem.W.isFn K (.ref f)=true)
  (hb:∀ (kV doc pm:Value) (an:Option Addr) (cdv ct:Value) (us:List Value),us.length=ps.length→bindArgs (PySem.W.fnOf m qual (bz st) (aO st) (ae st) .none kV doc pm an cdv ct) ⟨us,[]⟩=pure (ps.zip us)):bJ K C m qual st ps :=
 ⟨f,_,eD (st:=st) l c k,(eD (st:=st) l c k).binds hb,⟨a,hf,k⟩⟩
section
variable {P:Program} {w:World} {K:PySem.W.Frag} {mg:Str→Option Value} {base:Heap} {m qual:Str} {st:Stmt} {N ps:List Str} {k:Nat} {C:Addr} {τ γ:Type} {ra:RpA τ} {r:Rp γ}
theorem bJ.has {sp:Sp} (D:bJ K C m qual st ps) (S:FnScope N ps (ae st)) (len:∀ vs H Q E,sp vs H Q E→vs.length=ps.length)
  (hbody:∀ (f:Addr) (cdv:Value) (A:Around) (outer:List Env) (s:Shared) (H:Hp) (vs:List V) (Q:VK) (E:XK),Room k (A.deeper (envOfC qual (ae st) s.heap.objs.size f cdv))→sp vs H Q E →
   ∃ t,PSs (cxOf CX0 P w K mg base N qual (ae st) f cdv A outer s H E).nox (aO st) t∧t { nx:=fun _ H'=>Q .non H',rt:=Q } (start N vs) H):HasM P w K mg base (k+1) C m ps sp:=by
 refine oq23 D fun f fd F b hm=>?_
 exact ⟨f,fd,F.ok S len fun cdv A outer s H vs Q E hr h=>hbody f cdv A outer s H vs Q E hr h,hm,b⟩
theorem bJ.pV {f:τ→Option γ} {n:Nat} (D:bJ K C m qual st ps) (S:FnScope N ps (ae st)) (hl:∀ a,(ra.slots a).length=ps.length) (hn:N.length - ps.length=n)
  (h:eG P w K mg base qual st N k fun t=>∀ a,BV (ra.slots a++List.replicate n .any) t (f a) (finV r)):HasM P w K mg base (k+1) C m ps (spV ra r f):=by
 refine D.has S (fun vs H Q E h=>?_) fun fa cdv A outer s H vs Q E hr hsp=>?_
 ·refine oq35 h fun F a c _ _ _ h1 _=>?_; rw [(ra.ok h1).1,hl]
 ·refine oq12 (h fa cdv A outer s H E hr) fun t h1 h2=>?_
  refine oq36 hsp fun F a c sb nt tg hr' hf q=>?_
  refine (oi12 t h1 (h2 a _ F _ H _ c (SR.begin_ sb nt tg hr' (by rw [(ra.ok hr').1,hl]; exact hn)) hf ?_))
  exact fun v F' H' fr rv=>q v F' H' ⟨fr.keep,fr.low,fr.sub,fr.base,fun _=>fr.nt⟩ rv
theorem bJ.pL {f:τ→Option (List γ)} {n:Nat} (D:bJ K C m qual st ps) (S:FnScope N ps (ae st)) (hl:∀ a,(ra.slots a).length=ps.length) (hn:N.length - ps.length=n)
  (h:eG P w K mg base qual st N k fun t=>∀ a,BV (ra.slots a++List.replicate n .any) t (f a) (finL r)):HasM P w K mg base (k+1) C m ps (spL ra r f):=by
 refine D.has S (fun vs H Q E h=>?_) fun fa cdv A outer s H vs Q E hr hsp=>?_
 ·refine oq35 h fun F a c _ _ _ h1 _=>?_; rw [(ra.ok h1).1,hl]
 ·refine oq12 (h fa cdv A outer s H E hr) fun t h1 h2=>?_
  refine oq36 hsp fun F a c sb nt tg hr' hf q=>?_
  refine (oi12 t h1 (h2 a _ F _ H _ c (SR.begin_ sb nt tg hr' (by rw [(ra.ok hr').1,hl]; exact hn)) hf ?_))
  exact fun p vs F' H' fr hp rv=>q p vs F' H' ⟨fr.keep,fr.low,fr.sub,fr.base,fun _=>fr.nt⟩ hp rv
theorem dj {X:Cx} {sp:Sp} {ta:TE} {t:TA} {o e:Expr} {es:List Expr} {apos pos:Pos} {pl:Sem Bool} (G:HasM X.prog X.w X.K X.mg X.base k C m ps sp) (he:PE X o ta) (c:Cls X.K C) (hr:Room k X.A) (ha:PA X (e :: es) t)
  (hst:starEach (e :: es) X.env=(false,eval e X.env) :: starEach es X.env:=by rfl) (hpl:(backTo pos (starEach es X.env)).any (·.1)=false:=by rfl)
  (ht:eval (.Call (.Attribute o m apos) (e :: es) [] pos) X.env=(do
   let ov ← eval o X.env
   standAt apos.atName
   let (f,first) ← holding [ov] (getMethod ov m pl)
   callWith pos f first (backTo pos (starEach (e :: es) X.env)) (backToKw pos (keywordEach [] X.env))):=by rfl) :
  PE X (.Call (.Attribute o m apos) (e :: es) [] pos) (ki C m sp [] E0 ta t):=by
 refine oq23 G fun f fd F hm hb=>?_
 exact pe_meth he c hm F hr hb .nil pass0 ha hst hpl ht
end
noncomputable def spM {τ γ:Type} (CM:Addr) (ra:RpA τ) (r:Rp γ) (f:(List (List Int) × End_) × τ→Option (γ × End_)):Sp:=fun vs H Q _=>∃ F v args rows p ws ended a c,vs=v :: args∧Same F H∧NT F∧TbG H∧(rM0 CM).rel F v (rows,p)∧F p=none∧H p=some (.dK ws) ∧
 Paired (dRel rP F) ws ended∧ra.rel F args a∧f ((rows,ended),a)=some c∧∀ v' ws' F' H',Fr ⟨del H p,F,F⟩ F' H'→F' p=none→H' p=some (.dK ws')→Paired (dRel rP F') ws' c.2→r.rel F' v' c.1→Q v' H'
noncomputable def finM {γ:Type} (r:Rp γ) (p:Addr):Fc→γ × End_→Ends→Prop:=fun C x D=>∀ v ws F' H',Fr C F' H'→F' p=none→H' p=some (.dK ws)→Paired (dRel rP F') ws x.2→r.rel F' v x.1→D.rt v H'
theorem set_mid {α:Type _} (l:List α) (a b:α) (n:Nat):(l++List.replicate (n+1) a).set l.length b=l++b :: List.replicate n a:=by
 rw [List.set_append_right _ _ (nz6 _),Nat.sub_self,List.replicate_succ]; rfl
theorem bv_retM {Γ:List Slot} {γ:Type} {r:Rp γ} {te:TE} {oa:Option γ} {p:Addr} {ended:End_} (g:Nat) (hg:Γ[g]?=some (.od rP (fun b=>b=p) ended)) (he:EV Γ te oa r):BV Γ (tRet te) (oa.bind fun a=>some (a,ended)) (finM r p):=fun C F σ H D x S e k=>by
 refine oq12 (a9 e) fun a e1 e=>?_
 cases e
 refine he C F σ H _ a S e1 fun v F' H' x1 r1=>?_
 have S':=S.grow x1
 refine oq12 (S'.at_ g _ hg) fun o h1 zz=>oq26 zz fun p' ws eq4_ eq5_ h3 h4 h5 h6=>?_; subst eq4_; subst eq5_
 exact k v ws F' H' S'.toFr h4 h5 h6 r1
section
variable {P:Program} {w:World} {K:PySem.W.Frag} {mg:Str→Option Value} {base:Heap} {m qual:Str} {st:Stmt} {N ps:List Str} {k:Nat} {CM:Addr} {τ γ:Type} {ra:RpA τ} {r:Rp γ}
theorem bJ.pM {f:(List (List Int) × End_) × τ→Option (γ × End_)} {n:Nat} {gx:Str} (D:bJ K CM m qual st ps) (S:FnScope N ps (ae st)) (hl:∀ a,(ra.slots a).length+1=ps.length) (hn:N.length - ps.length=n+1) (hx:N[ps.length]?=some gx) (nv:eQ (ae st) gx=true)
  (h:eG P w K mg base qual st N k fun t=>∀ rows p ended a,BV ((.fr (rM0 CM) (rows,p) :: ra.slots a)++.od rP (fun b=>b=p) ended :: List.replicate n .any) t (f ((rows,ended),a)) (finM r p)):HasM P w K mg base (k+1) CM m ps (spM CM ra r f):=by
 refine D.has S (fun vs H Q E h=>?_) fun fa cdv A outer s H vs Q E hr hsp=>?_
 ·refine oq71 h fun F v args rows p ws ended zz=>oq2a zz fun a c eq9_ _ _ _ _ _ _ _ h1 _=>?_; subst eq9_
  rw [List.length_cons,(ra.ok h1).1,hl]
 ·refine oq12 (h fa cdv A outer s H E hr) fun t h1 h2=>?_
  refine oq71 hsp fun F v args rows p ws ended zz=>oq2b zz fun a c eq9_ sb nt tg hm hp hH hw har hf q=>?_; subst eq9_
  refine ⟨_,fO (g:=ps.length) h1 hx (gK nv),.ref p,?_⟩
  have lenA:(v :: args).length=ps.length:=by rw [List.length_cons,(ra.ok har).1,hl]
  have S0:=SR.begin_ (ra:=ak (rM0 CM) ra) (N:=N) (a:=((rows,p),a)) (n:=n+1) sb nt tg ⟨v,args,rfl,hm,har⟩ (by rw [lenA]; exact hn)
  have hsl:((ak (rM0 CM) ra).slots ((rows,p),a)).length=ps.length:=by show (ra.slots a).length+1=_; exact hl a
  have no:∀ (j:Nat) t,((ak (rM0 CM) ra).slots ((rows,p),a)++List.replicate (n+1) Slot.any)[j]?=some t→t.own=false:=fun j t ht=>by
   by_cases hj:j<((ak (rM0 CM) ra).slots ((rows,p),a)).length
   ·rw [List.getElem?_append_left hj] at ht
    exact ((ak (rM0 CM) ra).ok (F:=F) (vs:=v :: args) ⟨v,args,rfl,hm,har⟩).2 j t ht |>.1
   ·rw [List.getElem?_append_right (by exact Nat.not_lt.mp hj)] at ht
    have:=List.mem_of_getElem? ht
    rw [List.mem_replicate] at this
    rw [this.2]; rfl
  have S1:=S0.less (p:=p) no hH trivial
  have S2:=S1.setG (p:=p) (s:=.od rP (fun b=>b=p) ended) ps.length rfl ⟨p,ws,rfl,rfl,cR,hp,hH,hw⟩ fun j t h1 h2=>by rw [no j t h1] at h2; cases h2
  rw [← hsl,set_mid,hsl] at S2
  refine h2 rows p ended a _ F _ H _ c S2 hf ?_
  exact fun v' ws' F' H' fr g1 g2 g3 g4=>q v' ws' F' H' fr g1 g2 g3 g4
end
noncomputable def EM {α:Type} (Γ:List Slot) (g:Nat) (p:Addr) (t:TE) (o:Option (α × End_)) (r:Rp α):Prop:=∀ C F σ H Q x,SR C F Γ σ H→o=some x→(∀ v F' H',SR C F' (Γ.set g (.od rP (fun b=>b=p) x.2)) σ H'→r.rel F' v x.1→Q v H')→t σ H Q
section
variable {Γ:List Slot} {α τ:Type} {r:Rp α} {ta tb:TE} {oa:Option α} {CM CW p hh:Addr} {rows:List (List Int)} {reach:Int} {ended:End_} {g:Nat} {K:PySem.W.Frag}
theorem set_get {α:Type _} {l:List α} {i:Nat} {x:α} (h:l[i]?=some x):l.set i x=l:=by
 apply List.ext_getElem?
 intro j
 rw [List.getElem?_set]
 split
 ·rename_i e
  split
  ·rw [← e]; exact h.symm
  ·rename_i q; rw [← e,(List.getElem?_eq_none_iff).mpr (by exact Nat.not_lt.mp q)]
 ·rfl
theorem em_pure (hg:Γ[g]?=some (.od rP (fun b=>b=p) ended)) (h:EV Γ ta oa r):EM Γ g p ta (oa.bind fun a=>some (a,ended)) r:=fun C F σ H Q x S e k=>by
 refine oq12 (a9 e) fun a e1 e=>?_
 cases e
 refine h C F σ H _ a S e1 fun v F' H' x1 r1=>k v F' H' ?_ r1
 rw [set_get hg]; exact S.grow x1
theorem em_if {tt:TT} {oc:Option Bool} {o o':Option (α × End_)} (hc:ET Γ tt oc) (h1:EM Γ g p ta o r) (h2:EM Γ g p tb o' r):EM Γ g p (tIf tt ta tb) (oc.bind fun b=>if b=true then o else o') r:=fun C F σ H Q x S e k=>by
 refine oq12 (a9 e) fun b e1 e=>?_
 refine hc C F σ H _ b S e1 fun F' H' x1=>?_
 cases b with
 | true=>exact h1 C F' σ H' Q x (S.grow x1) e k
 | false=>exact h2 C F' σ H' Q x (S.grow x1) e k
theorem em_meth {m:Str} {ra:RpA τ} {t:TA} {oτ:Option τ} {f:(List (List Int) × End_) × τ→Option (α × End_)} (k:WK K CW) (i:Nat) (hi:Γ[i]?=some (.fr (rW0 CM CW) (rows,reach,hh,p))) (hg:Γ[g]?=some (.od rP (fun b=>b=p) ended)) (ha:EA Γ t oτ ra)
  (h2:(m == "floor")=false:=by decide) (h3:(m == "ended")=false:=by decide):EM Γ g p (ki CM m (spM CM ra r f) [] E0 (tFld K (tVar i) "meetings") t) (oτ.bind fun a=>f ((rows,ended),a)) r:=fun C F σ H Q x S e kk=>by
 refine oq12 (a9 e) fun a e1 e=>?_
 refine oq12 (S.fr hi) fun w q1 zz=>oq44 zz fun ww dw vf mm eq6_ q2 q3 q4=>?_; subst eq6_
 refine oq33 (id q4) fun m1 dm vf2 em q5 q6=>?_
 cases em
 refine ⟨.ref ww,q1,ww,CW,dw,_,.ref mm,rfl,S.sub _ _ q2,k.c,k.meetings,by rfl,mm,dm,_,rfl,S.sub _ _ q5,by simp [List.lookup,h2,h3],?_⟩
 refine ha C F σ H _ a S e1 fun vs F' H' x1 r1=>?_
 have S':=S.grow x1
 refine oq12 (S'.at_ g _ hg) fun o h1 zz=>oq26 zz fun p' ws eq4_ eq5_ h3 h4 h5 h6=>?_; subst eq4_; subst eq5_
 refine ⟨F',.ref mm,vs,rows,p',ws,ended,a,x,by rw [List.append_nil],S'.sub,S'.nt,S'.tg,(rM0 CM).mono x1.ff q4,h4,h5,h6,r1,e,fun v' ws' F2 H2 fr g1 g2 g3 g4=>kk v' F2 H2 ?_ g4⟩
 exact S'.mut (u':=.dK ws') hg rfl h1 h3 h5 fr rfl ⟨p',ws',rfl,rfl,h3,g1,g2,g3⟩
theorem bv_setAtM {T:Type} {to tk te:TE} {u:TS} {fin:Fc→T→Ends→Prop} {oe:Option (α × End_)} {oi:Option Int} {xs:List α} {φ:Addr→Prop} {f:List α→End_→Option T} (i:Nat) (hgi:g≠i) (ho:∀ e,g8 (Γ.set g (.od rP (fun b=>b=p) e)) to i) (hi:Γ[i]?=some (.ol r φ xs)) (hk:∀ e,EV (Γ.set g (.od rP (fun b=>b=p) e)) tk oi rInt) (he:EM Γ g p te oe r)
  (h:∀ ys e,BV ((Γ.set g (.od rP (fun b=>b=p) e)).set i (.ol r φ ys)) u (f ys e) fin):BV Γ (tSeq (tAsg te (gSub to tk rSetL)) u) (oe.bind fun x=>oi.bind fun k=>(ixN xs.length k).bind fun j=>f (xs.set j x.1) x.2) fin:=by
 intro C F σ H D x S e k
 refine oq12 (a9 e) fun a e1 e=>?_
 refine oq12 (a9 e) fun n e2 e=>?_
 refine oq12 (a9 e) fun j e3 e=>?_
 refine he C F σ H _ a S e1 fun v F' H' S1 r1=>?_
 have hi':(Γ.set g (.od rP (fun b=>b=p) a.2))[i]?=some (.ol r φ xs):=by rw [bi hgi]; exact hi
 refine oq12 (S1.at_ i _ hi') fun o h1 zz=>oq22 zz fun p1 vs1 eq4_ _=>?_; subst eq4_
 refine ho a.2 C F' σ H' _ (.ref p1) S1 h1 (hk a.2 C F' σ H' _ n S1 e2 fun w F2 H2 x2 r2=>?_)
 have S':=S1.grow x2
 refine oq12 (S'.at_ i _ hi') fun o' q1 zz=>oq26 zz fun p' vs' eq4_ q2 q3 q4 q5 q6=>?_; subst eq4_
 rw [h1] at q1
 cases q1
 refine ⟨p1,vs',n,j,rfl,r2,q5,by rw [q6.length]; exact e3,?_⟩
 exact h _ _ C F2 σ _ D x (S'.chg hi' rfl h1 q3 q4 rfl ⟨p1,_,rfl,q2,q3,q4,af,Paired.setB (r.mono x2.ff r1) j q6⟩) e k
end
noncomputable abbrev Wa:=List (List Int) × Int × List (Option Int) × End_
noncomputable def spW {τ:Type} (CM CW:Addr) (ra:RpA τ) (f:Wa × τ→Option (List (Option Int) × End_)):Sp:=fun vs H Q _=>∃ F v args rows reach hh p hs ws homes ended a c,vs=v :: args∧Same F H∧NT F∧TbG H∧(rW0 CM CW).rel F v (rows,reach,hh,p)∧F hh=none∧H hh=some (.lst hs)∧Paired ((rOp rInt).rel F) hs homes ∧
 F p=none∧H p=some (.dK ws)∧Paired (dRel rP F) ws ended∧ra.rel F args a∧f ((rows,reach,homes,ended),a)=some c ∧
 ∀ hs' ws' F' H',Fr ⟨del (del H hh) p,F,F⟩ F' H'→F' hh=none→H' hh=some (.lst hs')→Paired ((rOp rInt).rel F') hs' c.1→F' p=none→H' p=some (.dK ws')→Paired (dRel rP F') ws' c.2→Q .non H'
noncomputable def finW (hh p:Addr):Fc→List (Option Int) × End_→Ends→Prop:=fun C c D=>∀ hs ws F σ H,Fr C F H→F hh=none→H hh=some (.lst hs)→Paired ((rOp rInt).rel F) hs c.1→F p=none→H p=some (.dK ws)→Paired (dRel rP F) ws c.2→D.nx σ H
theorem bv_endW {Γ:List Slot} {hh p:Addr} {homes:List (Option Int)} {ended:End_} (g1 g2:Nat) (hg1:Γ[g1]?=some (.ol (rOp rInt) (fun b=>b=hh) homes)) (hg2:Γ[g2]?=some (.od rP (fun b=>b=p) ended)):BV Γ j0 (some (homes,ended)) (finW hh p):=fun C F σ H D x S e k=>by
 cases e
 refine oq12 (S.at_ g1 _ hg1) fun o h1 zz=>oq26 zz fun p1 vs eq4_ eq5_ h3 h4 h5 h6=>?_; subst eq4_; subst eq5_
 refine oq12 (S.at_ g2 _ hg2) fun o' k1 zz=>oq26 zz fun p2 ws eq4_ eq5_ k3 k4 k5 k6=>?_; subst eq4_; subst eq5_
 exact k vs ws F σ H S.toFr h4 h5 h6 k4 k5 k6
end L2
namespace L2
open PySem PySem.Spec PyProof.Rows
variable [Kon]
noncomputable def tGh (g:Nat) (u:TS):TS:=fun D σ H=>∃ v,u D (σ.set g (some v)) H
theorem i9 {X:Cx} {ss:List Stmt} {t:TS} {x:Str} (g:Nat) (h:PSs X ss t) (hx:X.N[g]?=some x) (nv:eQ X.env.scope x=true):PSs X ss (tGh g t):=fO h hx (gK nv)
theorem set_mid2 {α:Type _} (l:List α) (a b c:α) (n:Nat):((l++List.replicate (n+2) a).set l.length b).set (l.length+1) c=l++b :: c :: List.replicate n a:=by
 rw [set_mid l a b (n+1),List.set_append_right _ _ (Nat.le_succ _)]
 have:l.length+1 - l.length=1:=by omega
 rw [this,List.replicate_succ]; rfl
section
variable {P:Program} {w:World} {K:PySem.W.Frag} {mg:Str→Option Value} {base:Heap} {m qual:Str} {st:Stmt} {N ps:List Str} {k:Nat} {CM CW:Addr} {τ:Type} {ra:RpA τ}
theorem bJ.pW {f:Wa × τ→Option (List (Option Int) × End_)} {n:Nat} {gx gy:Str} (D:bJ K CW m qual st ps) (S:FnScope N ps (ae st)) (hl:∀ a,(ra.slots a).length+1=ps.length) (hn:N.length - ps.length=n+2) (hx:N[ps.length]?=some gx) (nvx:eQ (ae st) gx=true) (hy:N[ps.length+1]?=some gy) (nvy:eQ (ae st) gy=true)
  (h:eG P w K mg base qual st N k fun t=>∀ rows reach hh p homes ended a,BV ((.fr (rW0 CM CW) (rows,reach,hh,p) :: ra.slots a)++.ol (rOp rInt) (fun b=>b=hh) homes :: .od rP (fun b=>b=p) ended :: List.replicate n .any) t (f ((rows,reach,homes,ended),a)) (finW hh p)):HasM P w K mg base (k+1) CW m ps (spW CM CW ra f):=by
 refine D.has S (fun vs H Q E h=>?_) fun fa cdv A outer s H vs Q E hr hsp=>?_
 ·refine oq71 h fun F v args rows reach hh p zz=>oq6d zz fun hs ws homes ended a c eq13_ _ _ _ _ _ _ _ _ _ _ h1 _=>?_; subst eq13_
  rw [List.length_cons,(ra.ok h1).1,hl]
 ·refine oq12 (h fa cdv A outer s H E hr) fun t h1 h2=>?_
  refine oq71 hsp fun F v args rows reach hh p zz=>oq6d zz fun hs ws homes ended a c eq13_ sb nt tg hm hF1 hH1 hw1 hp hH hw har zz=>oq02 zz fun hf q=>?_; subst eq13_
  refine ⟨_,fO (g:=ps.length) (fO (g:=ps.length+1) h1 hy (gK nvy)) hx (gK nvx),.ref hh,.ref p,?_⟩
  have ne:p≠hh:=by rintro rfl; rw [hH1] at hH; cases hH
  have lenA:(v :: args).length=ps.length:=by rw [List.length_cons,(ra.ok har).1,hl]
  have S0:=SR.begin_ (ra:=ak (rW0 CM CW) ra) (N:=N) (a:=((rows,reach,hh,p),a)) (n:=n+2) sb nt tg ⟨v,args,rfl,hm,har⟩ (by rw [lenA]; exact hn)
  have hsl:((ak (rW0 CM CW) ra).slots ((rows,reach,hh,p),a)).length=ps.length:=by show (ra.slots a).length+1=_; exact hl a
  have no:∀ (j:Nat) t,((ak (rW0 CM CW) ra).slots ((rows,reach,hh,p),a)++List.replicate (n+2) Slot.any)[j]?=some t→t.own=false:=fun j t ht=>by
   by_cases hj:j<((ak (rW0 CM CW) ra).slots ((rows,reach,hh,p),a)).length
   ·rw [List.getElem?_append_left hj] at ht
    exact ((ak (rW0 CM CW) ra).ok (F:=F) (vs:=v :: args) ⟨v,args,rfl,hm,har⟩).2 j t ht |>.1
   ·rw [List.getElem?_append_right (by exact Nat.not_lt.mp hj)] at ht
    have:=List.mem_of_getElem? ht
    rw [List.mem_replicate] at this
    rw [this.2]; rfl
  have S1:=S0.less (p:=hh) no hH1 trivial
  have S1':=S1.less (p:=p) no (show del H hh p=some (.dK ws) by rw [bf ne]; exact hH) trivial
  have S2:=S1'.setG (p:=hh) (s:=.ol (rOp rInt) (fun b=>b=hh) homes) ps.length rfl ⟨hh,hs,rfl,rfl,by show del (del H hh) p hh=none; rw [bf (Ne.symm ne)]; exact cR,hF1,hH1,hw1⟩ fun j t h1 h2=>by rw [no j t h1] at h2; cases h2
  have S3:=S2.setG (p:=p) (s:=.od rP (fun b=>b=p) ended) (ps.length+1) rfl ⟨p,ws,rfl,rfl,cR,hp,hH,hw⟩ fun j t h1 h2 h3=>by
   rcases get_set h1 with ⟨rfl,rfl,hl1⟩ | ⟨_,h1⟩
   ·rw [dN (by rw [S1'.len]; exact hl1)] at h3
    cases h3
    exact ne rfl
   ·rw [no j t h1] at h2; cases h2
  rw [← hsl,set_mid2,hsl] at S3
  refine h2 rows reach hh p homes ended a _ F _ H _ c S3 hf ?_
  exact fun hs' ws' F' _ H' fr g1 g2 g3 g4 g5 g6=>q hs' ws' F' H' fr g1 g2 g3 g4 g5 g6
end
theorem SR.mut2 {C:Fc} {F H:Hp} {Γ:List Slot} {σ:St} {hh p:Addr} {u v:HO} {F' H':Hp} {s1 s2 t1 t2:Slot} {g1 g2:Nat} (S:SR C F Γ σ H) (hne:g1≠g2) (hg1:Γ[g1]?=some s1) (hs1:s1.own=true) (hp1:σ[g1]?=some (some (.ref hh))) (h01:C.H0 hh=none) (hu:H hh=some u)
  (hg2:Γ[g2]?=some s2) (hs2:s2.own=true) (hp2:σ[g2]?=some (some (.ref p))) (h02:C.H0 p=none) (hv:H p=some v) (fr:Fr ⟨del (del H hh) p,F,F⟩ F' H') (ht1:t1.own=true) (h1:SlOk C.H0 F' H' t1 (some (.ref hh))) (ht2:t2.own=true) (h2:SlOk C.H0 F' H' t2 (some (.ref p))) :
  SR C F' ((Γ.set g1 t1).set g2 t2) σ H':=by
 have oth:∀ (j:Nat) t q,j≠g1→j≠g2→Γ[j]?=some t→t.own=true→σ[j]?=some (some (.ref q))→q≠hh∧q≠p:=fun j t q n1 n2 q1 o1 e1=>⟨fun z=>by subst z; exact n1 (S.inj j g1 t s1 _ q1 hg1 o1 hs1 e1 hp1),fun z=>by subst z; exact n2 (S.inj j g2 t s2 _ q1 hg2 o1 hs2 e1 hp2)⟩
 have kp:∀ b o,b≠hh→b≠p→cQ o→H b=some o→H' b=some o:=fun b o n1 n2 nt q=>fr.keep.kp b o nt (by show del (del H hh) p b=some o; rw [bf n2,bf n1]; exact q)
 have sm:Sm C.H0 H':=by
  refine ⟨fun b o n q=>kp b o (ah q h01) (ah q h02) n (S.keep.kp b o n q),fun b ps q=>?_,fun _=>fr.tg⟩
  refine oq11 (S.keep.tb b ps q) fun m1 e1=>?_
  obtain ⟨m2,e2⟩:=fr.keep.tb b _ (show del (del H hh) p b=_ by rw [bf (ah q h02),bf (ah q h01)]; exact e1)
  exact ⟨m1++m2,by rw [e2,Array.append_assoc]⟩
 have fn:∀ q o,q≠hh→q≠p→F q=none→H q=some o→F' q=none:=fun q o n1 n2 f e=>by
  cases z:F' q with
  | none=>rfl
  | some w =>
   rcases fr.base q w z with y | y
   ·exact nomatch f.symm.trans y
   ·have y:del (del H hh) p q=none:=y
    rw [bf n2,bf n1,e] at y; cases y
 refine ⟨⟨sm,S.low.trans fr.low,fr.sub,fun b o q=>?_,fr.nt,fr.tg⟩,by rw [List.length_set,List.length_set]; exact S.len,fun j t q=>?_,fun j k a b p' q1 q2 o1 o2 e1 e2=>?_⟩
 ·rcases fr.base b o q with z | z
  ·exact S.base b o z
  ·by_cases e:b=hh
   ·subst e; exact .inr h01
   ·by_cases e':b=p
    ·subst e'; exact .inr h02
    ·have z:del (del H hh) p b=none:=z
     rw [bf e',bf e] at z
     exact .inr (S.keep.free z)
 ·rcases get_set q with ⟨rfl,rfl,hl⟩ | ⟨hne2,q⟩
  ·exact (oi12 _ hp2 h2)
  ·rcases get_set q with ⟨rfl,rfl,hl⟩ | ⟨hne1,q⟩
   ·exact (oi12 _ hp1 h1)
   ·refine oq12 (S.at_ j t q) fun o z1 z2=>?_
    refine (oi12 o z1 ?_)
    cases t with
    | any=>trivial
    | fr r a=>refine oq12 z2 fun v y1 y2=>?_; exact ⟨v,y1,r.mono fr.low y2⟩
    | ol r φ xs =>
     refine oq26 z2 fun p' vs h3 h4 h5 h6 h7 h8=>?_
     subst h3
     refine oq02 (oth j _ p' (Ne.symm hne1) (Ne.symm hne2) q rfl z1) fun n1 n2=>?_
     exact ⟨p',vs,rfl,h4,h5,fn p' _ n1 n2 h6 h7,kp p' _ n1 n2 trivial h7,Paired.imp2 (fun _ _ z=>r.mono fr.low z) h8⟩
    | od r φ kvs =>
     refine oq26 z2 fun p' vs h3 h4 h5 h6 h7 h8=>?_
     subst h3
     refine oq02 (oth j _ p' (Ne.symm hne1) (Ne.symm hne2) q rfl z1) fun n1 n2=>?_
     exact ⟨p',vs,rfl,h4,h5,fn p' _ n1 n2 h6 h7,kp p' _ n1 n2 trivial h7,Paired.imp2 (fun _ _ z=>⟨z.1,r.mono fr.low z.2⟩) h8⟩
 ·have own':∀ (j:Nat) x,((Γ.set g1 t1).set g2 t2)[j]?=some x→x.own=true→∃ y,Γ[j]?=some y∧y.own=true:=fun j x q o=>by
   rcases get_set q with ⟨rfl,rfl,_⟩ | ⟨_,q⟩
   ·exact ⟨s2,hg2,hs2⟩
   ·rcases get_set q with ⟨rfl,rfl,_⟩ | ⟨_,q⟩
    ·exact ⟨s1,hg1,hs1⟩
    ·exact ⟨x,q,o⟩
  obtain ⟨a',r1,r2⟩:=own' j a q1 o1
  obtain ⟨b',r3,r4⟩:=own' k b q2 o2
  exact S.inj j k a' b' p' r1 r3 r2 r4 e1 e2
section
variable {Γ:List Slot} {T τ:Type} {CM CW hh p:Addr} {rows:List (List Int)} {reach:Int} {homes:List (Option Int)} {ended:End_} {u:TS} {fin:Fc→T→Ends→Prop} {K:PySem.W.Frag}
theorem bv_come {m:Str} {ra:RpA τ} {t:TA} {oτ:Option τ} {f:Wa × τ→Option (List (Option Int) × End_)} {gg:List (Option Int)→End_→Option T} (i g1 g2:Nat) (hne:g1≠g2) (hi:Γ[i]?=some (.fr (rW0 CM CW) (rows,reach,hh,p))) (hg1:Γ[g1]?=some (.ol (rOp rInt) (fun b=>b=hh) homes)) (hg2:Γ[g2]?=some (.od rP (fun b=>b=p) ended)) (ha:EA Γ t oτ ra)
  (h:∀ hs es,BV ((Γ.set g1 (.ol (rOp rInt) (fun b=>b=hh) hs)).set g2 (.od rP (fun b=>b=p) es)) u (gg hs es) fin) (ob:Ob (rW0 CM CW) CW m):BV Γ (tSeq (mo (ki CW m (spW CM CW ra f) [] E0 (tVar i) t)) u) (oτ.bind fun a=>(f ((rows,reach,homes,ended),a)).bind fun c=>gg c.1 c.2) fin:=by
 intro C F σ H D x S e k
 refine oq12 (a9 e) fun a e1 e=>?_
 refine oq12 (a9 e) fun c e2 e=>?_
 refine oq12 (S.fr hi) fun w q1 q2=>?_
 refine oq33 (ob F w _ q2) fun ad dx fs z1 z2 z3=>?_
 refine ⟨w,q1,ad,dx,fs,z1,S.sub _ _ z2,z3,ha C F σ H _ a S e1 fun vs F' H' x1 r1=>?_⟩
 have S':=S.grow x1
 refine oq12 (S'.at_ g1 _ hg1) fun o h1 zz=>oq26 zz fun p1 hs eq4_ eq5_ h3 h4 h5 h6=>?_; subst eq4_; subst eq5_
 refine oq12 (S'.at_ g2 _ hg2) fun o' k1 zz=>oq26 zz fun p2 ws eq4_ eq5_ k3 k4 k5 k6=>?_; subst eq4_; subst eq5_
 refine ⟨F',w,vs,rows,reach,p1,p2,hs,ws,homes,ended,a,c,by rw [List.append_nil],S'.sub,S'.nt,S'.tg,(rW0 CM CW).mono x1.ff q2,h4,h5,h6,k4,k5,k6,r1,e2,fun hs' ws' F2 H2 fr m1 m2 m3 m4 m5 m6=>?_⟩
 exact h c.1 c.2 C F2 σ H2 D x (S'.mut2 (u:=.lst hs) (v:=.dK ws) hne hg1 rfl h1 h3 h5 hg2 rfl k1 k3 k5 fr rfl ⟨p1,hs',rfl,rfl,h3,m1,m2,m3⟩ rfl ⟨p2,ws',rfl,rfl,k3,m4,m5,m6⟩) e k
end
noncomputable def spIM (CM:Addr):Sp:=fun vs H Q _=>∃ x dx vf,vs=[.ref x,vf]∧H x=some (.ins CM dx [])∧∀ p,H p=none→Q .non (upd (upd (upd H x (.ins CM dx [("floor",vf)])) p (.dK [])) x (.ins CM dx [("floor",vf),("ended",.ref p)]))
theorem init_M {K:PySem.W.Frag} {CM:Addr} (k:MK K CM) {vs:List V} {H:Hp} {Q:VK} {E:XK} {N:List Str} (hN:N.length=2) (h:spIM CM vs H Q E):(tSeq (sFld K (tVar 0) (tVar 1) "floor") (sFld K (tVar 0) tDNewK "ended")) { nx:=fun _ H'=>Q .non H',rt:=Q } (start N vs) H:=by
 refine oq33 h fun x dx vf eq3_ hx q=>?_; subst eq3_
 have es:start N [.ref x,vf]=[some (.ref x),some vf]:=by unfold start; simp [hN]
 rw [es]
 refine ⟨vf,rfl,.ref x,rfl,x,CM,dx,[],rfl,hx,k.c,k.floor,by simp,?_⟩
 intro p hp
 have np:p≠x:=by rintro rfl; rw [af] at hp; cases hp
 rw [ac np] at hp
 refine ⟨.ref x,rfl,x,CM,dx,[("floor",vf)],rfl,by rw [ac (Ne.symm np),af]; rfl,k.c,k.ended,by simp,?_⟩
 exact q p hp
end L2
namespace L2
open PySem PySem.Spec PyProof.Rows
variable [Kon]
theorem TbG.poke {H:Hp} {x:Addr} {o:HO} (g:TbG H) (n:cQ o) (h1:∀ φ,H x≠some (.ext φ)) (h2:∀ ps,H x≠some (.tbl ps)):TbG (upd H x o):=by
 refine ⟨fun P hP=>?_,fun P ps q=>?_⟩
 ·refine oq11 (g.there P hP) fun ps e=>?_
  exact ⟨ps,by rw [ac (fun z=>by rw [z] at e; exact h2 ps e)]; exact e⟩
 ·by_cases e:P=x
  ·subst e; rw [af] at q; cases q; exact n.elim
  ·rw [ac e] at q
   refine oq02 (g.good P ps q) fun g1 g2=>?_
   exact ⟨g1,fun pos cv hc=>by refine oq12 (g2 pos cv hc) fun c e3 e4=>?_; exact (oi12 c e3 (by rw [ac (fun z=>by rw [z] at e4; exact h1 _ e4)]; exact e4))⟩
noncomputable def spIW (CM CW:Addr) (f:List (List Int)→Option (List (Option Int))):Sp:=fun vs H Q _=>∃ F x dx vf rows reach homes,vs=[.ref x,vf,.int reach]∧Same F H∧NT F∧TbG H∧F x=none∧H x=some (.ins CW dx [])∧rF.rel F vf rows∧f rows=some homes ∧
 ∀ h hs m dm p F' H',Fr ⟨del H x,F,F⟩ F' H'→(F' x=none∧F' h=none∧F' m=none∧F' p=none)→(H h=none∧H m=none∧H p=none)→H' x=some (.ins CW dx [("floor",vf),("reach",.int reach),("homes",.ref h),("meetings",.ref m)])→H' h=some (.lst hs) →
  Paired ((rOp rInt).rel F') hs homes→H' m=some (.ins CM dm [("floor",vf),("ended",.ref p)])→H' p=some (.dK [])→Q .non H'
theorem TbG.pokN {H:Hp} {x:Addr} {o:HO} (g:TbG H) (n:cQ o) (h:H x=none):TbG (upd H x o):=g.poke n (fun _ z=>nomatch h.symm.trans z) fun _ z=>nomatch h.symm.trans z
theorem TbG.pokI {H:Hp} {x C d:Addr} {fs:List (Str × V)} {o:HO} (g:TbG H) (n:cQ o) (h:H x=some (.ins C d fs)):TbG (upd H x o):=g.poke n (fun _ z=>nomatch h.symm.trans z) fun _ z=>nomatch h.symm.trans z
theorem ne_ob {H:Hp} {a b:Addr} {o o':HO} (h:H a=some o) (k:H b=some o') (n:o≠o'):a≠b:=fun e=>n (Option.some.inj (h.symm.trans (e ▸ k)))
theorem init_W {K:PySem.W.Frag} {CM CW:Addr} (k:WK K CW) {f:List (List Int)→Option (List (Option Int))} {tc:TE} (hc:∀ rows reach,EVL [.any,.fr rF rows,.fr rInt reach] tc (f rows) (rOp rInt)) {vs:List V} {H:Hp} {Q:VK} {E:XK} {N:List Str} (hN:N.length=3) (h:spIW CM CW f vs H Q E) :
  (tSeq (sFld K (tVar 0) (tVar 1) "floor") (tSeq (sFld K (tVar 0) (tVar 2) "reach") (tSeq (sFld K (tVar 0) tc "homes") (sFld K (tVar 0) (tMake CM (spIM CM) [] E0 (aK (tVar 1) tNil)) "meetings")))) { nx:=fun _ H'=>Q .non H',rt:=Q } (start N vs) H:=by
 refine oq79 h fun F x dx vf rows reach homes eq7_ sb nt tg hFx hx hvf hf q=>?_; subst eq7_
 have es:start N [.ref x,vf,.int reach]=[some (.ref x),some vf,some (.int reach)]:=by unfold start; simp [hN]
 rw [es]
 refine ⟨vf,rfl,.ref x,rfl,x,CW,dx,[],rfl,hx,k.c,k.floor,by simp,?_⟩
 refine ⟨.int reach,rfl,.ref x,rfl,x,CW,dx,[("floor",vf)],rfl,by rw [af]; rfl,k.c,k.reach,by simp,?_⟩
 rw [upd_upd]
 have sb2:Same F (upd H x (.ins CW dx (putF "reach" (.int reach) [("floor",vf)]))):=fun b o e=>by rw [ac (ah e hFx)]; exact sb b o e
 have tg2:TbG (upd H x (.ins CW dx (putF "reach" (.int reach) [("floor",vf)]))):=tg.pokI trivial hx
 generalize eH2:upd H x (.ins CW dx (putF "reach" (.int reach) [("floor",vf)]))=H2 at sb2 tg2
 have h2x:H2 x=some (.ins CW dx [("floor",vf),("reach",.int reach)]):=by rw [← eH2,af]; rfl
 have h2o:∀ b,b≠x→H2 b=H b:=fun b n=>by rw [← eH2,ac n]
 have SS:SR ⟨H2,F,F⟩ F [.any,.fr rF rows,.fr rInt reach] [some (.ref x),some vf,some (.int reach)] H2:=by
  refine ⟨⟨Sm.refl _,Same.refl _,sb2,fun b o h=>.inl h,nt,tg2⟩,rfl,fun i s hs=>?_,fun i j s t p h1 h2 o1 o2 _ _=>?_⟩
  ·match i,hs with
   | 0,hs=>cases hs; exact (oi12 _ rfl trivial)
   | 1,hs=>cases hs; exact ⟨_,rfl,vf,rfl,hvf⟩
   | 2,hs=>cases hs; exact ⟨_,rfl,_,rfl,rfl⟩
  ·match i,h1 with
   | 0,h1=>cases h1; cases o1
   | 1,h1=>cases h1; cases o1
   | 2,h1=>cases h1; cases o1
 refine hc rows reach _ F _ H2 _ homes SS hf fun hh hs F' H3 x1 hp rh=>?_
 have h3x:H3 x=some (.ins CW dx [("floor",vf),("reach",.int reach)]):=x1.hh.kp _ _ trivial h2x
 have nhx:x≠hh:=ah h3x hp
 have F'x:F' x=none:=by
  cases z:F' x with
  | none=>rfl
  | some w =>
   rcases x1.nw x w z with y | y
   ·exact nomatch hFx.symm.trans y
   ·rw [h2x] at y; cases y
 have F'h:F' hh=none:=x1.sub.free hp
 have H2h:H2 hh=none:=x1.hh.free hp
 refine ⟨.ref x,rfl,x,CW,dx,[("floor",vf),("reach",.int reach)],rfl,by rw [ac nhx]; exact h3x,k.c,k.homes,by simp,?_⟩
 have tg3:TbG H3:=x1.hh.tg tg2
 have tg4:TbG (upd (upd H3 hh (.lst hs)) x (.ins CW dx (putF "homes" (.ref hh) [("floor",vf),("reach",.int reach)]))):=by
  exact (tg3.pokN (x:=hh) (o:=.lst hs) trivial hp).pokI trivial ((ac nhx).trans h3x)
 have h4x':upd (upd H3 hh (.lst hs)) x (.ins CW dx (putF "homes" (.ref hh) [("floor",vf),("reach",.int reach)])) x=some (.ins CW dx [("floor",vf),("reach",.int reach),("homes",.ref hh)]):=by rw [af]; rfl
 have h4h':upd (upd H3 hh (.lst hs)) x (.ins CW dx (putF "homes" (.ref hh) [("floor",vf),("reach",.int reach)])) hh=some (.lst hs):=by rw [ac (Ne.symm nhx),af]
 have h4o':∀ b,b≠x→b≠hh→upd (upd H3 hh (.lst hs)) x (.ins CW dx (putF "homes" (.ref hh) [("floor",vf),("reach",.int reach)])) b=H3 b:=fun b n1 n2=>by rw [ac n1,ac n2]
 generalize upd (upd H3 hh (.lst hs)) x (.ins CW dx (putF "homes" (.ref hh) [("floor",vf),("reach",.int reach)]))=H4 at tg4 h4x' h4h' h4o'
 refine ⟨vf,rfl,fun m dm hm hdm hne=>⟨m,dm,vf,rfl,af,fun p hp5=>⟨rfl,?_⟩⟩⟩
 have mx:m≠x:=(ah h4x' hm).symm
 have mh:m≠hh:=(ah h4h' hm).symm
 have dmx:dm≠x:=(ah h4x' hdm).symm
 have dmh:dm≠hh:=(ah h4h' hdm).symm
 have pm:p≠m:=(ah af hp5).symm
 rw [ac pm] at hp5
 have pdm:p≠dm:=(ah af hp5).symm
 rw [ac pdm] at hp5
 have px:p≠x:=(ah h4x' hp5).symm
 have ph:p≠hh:=(ah h4h' hp5).symm
 have tg5:TbG (upd (upd (upd (upd (upd H4 dm (.own m)) m (.ins CM dm [])) m (.ins CM dm [("floor",vf)])) p (.dK [])) m (.ins CM dm [("floor",vf),("ended",.ref p)])):=by
  exact ((((tg4.pokN (x:=dm) (o:=.own m) trivial hdm).pokN (x:=m) (o:=.ins CM dm []) trivial ((ac (Ne.symm hne)).trans hm)).pokI (x:=m) (o:=.ins CM dm [("floor",vf)]) trivial af).pokN (x:=p) (o:=.dK []) trivial ((ac pm).trans ((ac pm).trans ((ac pdm).trans hp5)))).pokI (x:=m) (o:=.ins CM dm [("floor",vf),("ended",.ref p)]) trivial ((ac (Ne.symm pm)).trans af)
 have h5o:∀ b,b≠m→b≠dm→b≠p→upd (upd (upd (upd (upd H4 dm (.own m)) m (.ins CM dm [])) m (.ins CM dm [("floor",vf)])) p (.dK [])) m (.ins CM dm [("floor",vf),("ended",.ref p)]) b=H4 b:=fun b n1 n2 n3=>by rw [ac n1,ac n3,ac n1,ac n1,ac n2]
 have h5m:upd (upd (upd (upd (upd H4 dm (.own m)) m (.ins CM dm [])) m (.ins CM dm [("floor",vf)])) p (.dK [])) m (.ins CM dm [("floor",vf),("ended",.ref p)]) m=some (.ins CM dm [("floor",vf),("ended",.ref p)]):=af
 have h5p:upd (upd (upd (upd (upd H4 dm (.own m)) m (.ins CM dm [])) m (.ins CM dm [("floor",vf)])) p (.dK [])) m (.ins CM dm [("floor",vf),("ended",.ref p)]) p=some (.dK []):=by rw [ac pm,af]
 generalize upd (upd (upd (upd (upd H4 dm (.own m)) m (.ins CM dm [])) m (.ins CM dm [("floor",vf)])) p (.dK [])) m (.ins CM dm [("floor",vf),("ended",.ref p)])=H5 at tg5 h5o h5m h5p
 have h5x:H5 x=some (.ins CW dx [("floor",vf),("reach",.int reach),("homes",.ref hh)]):=by rw [h5o x (Ne.symm mx) (Ne.symm dmx) (Ne.symm px)]; exact h4x'
 have h5h:H5 hh=some (.lst hs):=by rw [h5o hh (Ne.symm mh) (Ne.symm dmh) (Ne.symm ph)]; exact h4h'
 refine ⟨.ref x,rfl,x,CW,dx,_,rfl,h5x,k.c,k.meetings,by simp,?_⟩
 have tg6:TbG (upd H5 x (.ins CW dx (putF "meetings" (.ref m) [("floor",vf),("reach",.int reach),("homes",.ref hh)]))):=tg5.pokI trivial h5x
 have old:∀ b o,b≠x→H3 b=some o→upd H5 x (.ins CW dx (putF "meetings" (.ref m) [("floor",vf),("reach",.int reach),("homes",.ref hh)])) b=some o:=fun b o n e=>by
  have nh:b≠hh:=ah e hp
  have e4:H4 b=some o:=by rw [h4o' b n nh]; exact e
  rw [ac n,h5o b (ah e4 hm) (ah e4 hdm) (ah e4 hp5)]; exact e4
 have F'm:F' m=none:=by
  cases z:F' m with
  | none=>rfl
  | some w =>
   have:=x1.sub _ _ z
   rw [← h4o' m mx mh,hm] at this; cases this
 have F'p:F' p=none:=by
  cases z:F' p with
  | none=>rfl
  | some w =>
   have:=x1.sub _ _ z
   rw [← h4o' p px ph,hp5] at this; cases this
 have freeH:∀ b,b≠x→b≠hh→H4 b=none→H b=none:=fun b n1 n2 e=>by
  rw [h4o' b n1 n2] at e
  rw [← h2o b n1]; exact x1.hh.free e
 refine q hh hs m dm p F' _ ⟨⟨fun b o n e=>?_,fun b ps e=>?_,fun _=>tg6⟩,x1.ff,fun b o e=>?_,fun b o e=>?_,x1.nt nt,tg6⟩ (oi04 F'x F'h F'm F'p) (oi03 (by rw [← h2o hh (Ne.symm nhx)]; exact H2h) (freeH m mx mh hm) (freeH p px ph hp5)) ?_ (by rw [ac (Ne.symm nhx)]; exact h5h) rh (by rw [ac mx]; exact h5m) (by rw [ac px]; exact h5p)
 ·refine oq02 (cS e) fun n1 e=>?_
  exact old b o n1 (x1.hh.kp b o n (by rw [h2o b n1]; exact e))
 ·refine oq02 (cS e) fun n1 e=>?_
  refine oq11 (x1.hh.tb b ps (by rw [h2o b n1]; exact e)) fun more e3=>?_
  exact ⟨more,old b _ n1 e3⟩
 ·exact old b o (ah e F'x) (x1.sub b o e)
 ·rcases x1.nw b o e with z | z
  ·exact .inl z
  ·refine .inr ?_
   show del H x b=none
   by_cases y:b=x
   ·rw [y]; exact cR
   ·rw [bf y,← h2o b y]; exact z
 ·rw [af]; rfl
section
variable {Γ:List Slot} {T:Type} {CM CW:Addr} {u:TS} {fin:Fc→T→Ends→Prop} {f:List (List Int)→Option (List (Option Int))}
theorem bv_make {t:TA} {oa:Option (List (List Int) × Int)} {gg:List (List Int)→Int→List (Option Int)→Option T} (i g1 g2:Nat) (hne:i≠g1∧i≠g2∧g1≠g2∧g1<Γ.length∧g2<Γ.length) (ha:EA Γ t oa (ak rF (aOne rInt)))
  (h:∀ rows reach hh p homes,BV (((Γ.set i (.fr (rW0 CM CW) (rows,reach,hh,p))).set g1 (.ol (rOp rInt) (fun b=>b=hh) homes)).set g2 (.od rP (fun b=>b=p) [])) u (gg rows reach homes) fin) :
  BV Γ (tSeq (tAsg (tMake CW (spIW CM CW f) [] E0 t) (d4 i)) (tGh g1 (tGh g2 u))) (oa.bind fun a=>(f a.1).bind fun homes=>gg a.1 a.2 homes) fin:=by
 intro C F σ H D x S e k
 refine oq12 (a9 e) fun a e1 e=>?_
 refine oq12 (a9 e) fun homes e2 e=>?_
 refine ha C F σ H _ a S e1 fun vs F1 H1 x1 r1=>?_
 refine oq23 r1 fun vf us eq2_ r2 zz=>oq12 zz fun v2 eq5_ r3=>?_; subst eq2_; subst eq5_
 cases r3
 have S1:=S.grow x1
 intro w dx hw hdx nd
 have Fw:F1 w=none:=S1.sub.free hw
 have Fd:F1 dx=none:=S1.sub.free hdx
 refine ⟨F1,w,dx,vf,a.1,a.2,homes,rfl,fun b o z=>by rw [ac (ah z Fw),ac (ah z Fd)]; exact S1.sub b o z,S1.nt,?_,Fw,af,r2,e2,fun hh hs m dm p F' H' fr ⟨f1,f2,f3,f4⟩ ⟨n1,n2,n3⟩ q1 q2 q3 q4 q5=>⟨rfl,?_⟩⟩
 ·exact (S1.tg.pokN (x:=dx) (o:=.own w) trivial hdx).pokN trivial ((ac (Ne.symm nd)).trans hw)
 have frH:∀ b,upd (upd H1 dx (.own w)) w (.ins CW dx []) b=none→H1 b=none∧b≠w:=fun b z=>by
  have bw:b≠w:=(ah af z).symm
  rw [ac bw] at z
  have bd:b≠dx:=(ah af z).symm
  rw [ac bd] at z
  exact ⟨z,bw⟩
 refine oq02 (frH hh n1) fun n1 hw1=>?_
 refine oq02 (frH m n2) fun n2 hw2=>?_
 refine oq02 (frH p n3) fun n3 hw3=>?_
 have hm:hh≠m:=ne_ob q2 q4 nofun
 have pm:p≠m:=ne_ob q5 q4 nofun
 have ph:p≠hh:=ne_ob q5 q2 nofun
 have kH:∀ b o,H1 b=some o→del (upd (upd H1 dx (.own w)) w (.ins CW dx [])) w b=some o:=fun b o z=>by
  rw [bf (ah z hw),ac (ah z hw),ac (ah z hdx)]; exact z
 have ext:Ext F1 H1 (upd (upd F' w (.ins CW dx [("floor",vf),("reach",.int a.2),("homes",.ref hh),("meetings",.ref m)])) m (.ins CM dm [("floor",vf),("ended",.ref p)])) H':=by
  refine ⟨⟨fun b o n z=>fr.keep.kp b o n (kH b o z),fun b ps z=>fr.keep.tb b ps (kH b _ z),fun _=>fr.tg⟩,fun b o z=>?_,fun b o z=>?_,fun b o z=>?_,fun z=>gi (gi fr.nt trivial) trivial⟩
  ·have z':=fr.low b o z
   rw [ac (ah z' f3),ac (ah z' f1)]; exact z'
  ·by_cases bm:b=m
   ·subst bm; rw [af] at z; rw [← z]; exact q4
   ·rw [ac bm] at z
    by_cases bw:b=w
    ·subst bw; rw [af] at z; rw [← z]; exact q1
    ·rw [ac bw] at z; exact fr.sub b o z
  ·by_cases bm:b=m
   ·subst bm; exact .inr n2
   ·rw [ac bm] at z
    by_cases bw:b=w
    ·subst bw; exact .inr hw
    ·rw [ac bw] at z
     rcases fr.base b o z with y | y
     ·exact .inl y
     ·have y:del (upd (upd H1 dx (.own w)) w (.ins CW dx [])) w b=none:=y
      rw [bf bw] at y
      exact .inr (frH b y).1
 have S2:=S1.grow ext
 have e3:Same F' (upd (upd F' w (.ins CW dx [("floor",vf),("reach",.int a.2),("homes",.ref hh),("meetings",.ref m)])) m (.ins CM dm [("floor",vf),("ended",.ref p)])):=fun b o z=>by
  rw [ac (ah z f3),ac (ah z f1)]; exact z
 have rf:rF.rel (upd (upd F' w (.ins CW dx [("floor",vf),("reach",.int a.2),("homes",.ref hh),("meetings",.ref m)])) m (.ins CM dm [("floor",vf),("ended",.ref p)])) vf a.1:=rF.mono e3 (rF.mono fr.low r2)
 have S3:=S2.setF (r:=rW0 CM CW) (a:=(a.1,a.2,hh,p)) (v:=.ref w) i ⟨w,dx,vf,m,rfl,by rw [ac (Ne.symm hw2)]; exact af,rf,m,dm,vf,rfl,af,rf⟩
 have own:∀ (Γ':List Slot) (σ':St),SR C (upd (upd F' w (.ins CW dx [("floor",vf),("reach",.int a.2),("homes",.ref hh),("meetings",.ref m)])) m (.ins CM dm [("floor",vf),("ended",.ref p)])) Γ' σ' H'→True:=fun _ _ _=>trivial
 have noown:∀ b,H1 b=none→∀ (j:Nat) t,(Γ.set i (.fr (rW0 CM CW) (a.1,a.2,hh,p)))[j]?=some t→t.own=true→(σ.set i (some (.ref w)))[j]?≠some (some (.ref b)):=fun b nb j t z1 z2 z3=>by
  rcases get_set z1 with ⟨rfl,rfl,_⟩ | ⟨nj,z1⟩
  ·cases z2
  ·rw [bi nj] at z3
   refine oq12 (S1.at_ j t z1) fun o y1 y2=>?_
   rw [z3] at y1
   cases y1
   refine oq12 (jo z2 y2) fun w9 y3 _=>?_
   rw [nb] at y3; cases y3
 have S4:=S3.setG (p:=hh) (s:=.ol (rOp rInt) (fun b=>b=hh) homes) g1 rfl ⟨hh,hs,rfl,rfl,S1.keep.free n1,by rw [ac hm,ac hw1]; exact f2,q2,Paired.imp2 (fun _ _ z=>Rp.mono _ e3 z) q3⟩ (noown hh n1)
 have S5:=S4.setG (p:=p) (s:=.od rP (fun b=>b=p) []) g2 rfl ⟨p,[],rfl,rfl,S1.keep.free n3,by rw [ac pm,ac hw3]; exact f4,q5,.nil⟩ fun j t z1 z2 z3=>by
  rcases get_set z1 with ⟨rfl,rfl,hl⟩ | ⟨nj,z1⟩
  ·rw [dN (by rw [S3.len]; exact hl)] at z3
   cases z3
   exact ph rfl
  ·rw [bi nj] at z3
   exact noown p n3 j t z1 z2 z3
 exact ⟨.ref hh,.ref p,h a.1 a.2 hh p homes C _ _ H' D x S5 e k⟩
end
end L2
namespace L2
open PySem PySem.Spec PyProof.Rows
variable [Kon]
noncomputable def gm (K:PySem.W.Frag) (mg:Str→Option Value) (x:Str) (C:Addr) (qual:Str) (st:Stmt) (ps:List Str):Prop:=∃ f fd,Fun K "__init__" qual st f fd∧Binds K fd ps []∧Mk K C f∧mg x=some (.ref C)
noncomputable def HasI (P:Program) (w:World) (K:PySem.W.Frag) (mg:Str→Option Value) (base:Heap) (k:Nat) (x:Str) (C:Addr) (ps:List Str) (sp:Sp):Prop :=
 ∃ f fd,FnOk P w K mg base CX0 k f fd ps sp∧Mk K C f∧Binds K fd ps []∧mg x=some (.ref C)
theorem init_mk {K:PySem.W.Frag} {mg:Str→Option Value} {h:Heap} {x qual:Str} {C f:Addr} {st:Stmt} {ps:List Str} {oc:Value} {od an:Option Addr} {osl:Array (Option Value)} {kV doc pm cdv ct:Value} (X:K.In h) (G:h.Ns mainGlobals mg)
  (a:PySem.W.nsIn K mainGlobals x=some (some (.ref C))) (i:PySem.W.findIn K (.ref C) "__init__"=some (some (.ref f))) (l:K.lookup f=some ⟨oc,od,.func (PySem.W.fnOf "__init__" qual (bz st) (aO st) (ae st) .none kV doc pm an cdv ct),osl⟩) (c:PySem.W.codeIn K cdv qual=true) (k:PySem.W.keepIn K (.ref f)=true) (hf:PySem.W.isFn K (.ref f)=true)
  (mk:PySem.W.makesIn K C=true) (kc:PySem.W.keepIn K (.ref C)=true)
  (hb:∀ (kV doc pm:Value) (an:Option Addr) (cdv ct:Value) (us:List Value),us.length=ps.length→bindArgs (PySem.W.fnOf "__init__" qual (bz st) (aO st) (ae st) .none kV doc pm an cdv ct) ⟨us,[]⟩=pure (ps.zip us)):gm K mg x C qual st ps :=
 ⟨f,_,eD (st:=st) l c k,(eD (st:=st) l c k).binds hb,⟨mk,i,hf,kc⟩,PySem.W.mg_of X G a⟩
section
variable {P:Program} {w:World} {K:PySem.W.Frag} {mg:Str→Option Value} {base:Heap} {x qual:Str} {st:Stmt} {N ps:List Str} {k:Nat} {C:Addr}
theorem gm.has {sp:Sp} (D:gm K mg x C qual st ps) (S:FnScope N ps (ae st)) (len:∀ vs H Q E,sp vs H Q E→vs.length=ps.length)
  (hbody:∀ (f:Addr) (cdv:Value) (A:Around) (outer:List Env) (s:Shared) (H:Hp) (vs:List V) (Q:VK) (E:XK),Room k (A.deeper (envOfC qual (ae st) s.heap.objs.size f cdv))→sp vs H Q E →
   ∃ t,PSs (cxOf CX0 P w K mg base N qual (ae st) f cdv A outer s H E).nox (aO st) t∧t { nx:=fun _ H'=>Q .non H',rt:=Q } (start N vs) H):HasI P w K mg base (k+1) x C ps sp:=by
 refine oq24 D fun f fd F b hm hg=>?_
 exact ⟨f,fd,F.ok S len fun cdv A outer s H vs Q E hr h=>hbody f cdv A outer s H vs Q E hr h,hm,b,hg⟩
theorem mX {X:Cx} {sp:Sp} {t:TA} {e:Expr} {es:List Expr} {p pos:Pos} (G:HasI X.prog X.w X.K X.mg X.base k x C ps sp) (hr:Room (k+1) X.A) (hg:Gl X x) (ha:PA X (e :: es) t) (hdb:(x == ("__debug__":Str))=false:=by decide)
  (he:starEach (e :: es) X.env=(false,eval e X.env) :: starEach es X.env:=by rfl) (hpl:(backTo pos (starEach es X.env)).any (·.1)=false:=by rfl):PE X (.Call (.Name x p) (e :: es) [] pos) (tMake C sp [] E0 t):=by
 refine oq24 G fun f fd F hm hb hg'=>?_
 exact pe_make hm F hr hg hg' hb .nil pass0 ha hdb he hpl
end
end L2
namespace L2
open PySem PySem.Spec PyProof.Rows
section
variable {X:Cx} {K:PySem.W.Frag}
theorem cm {e:Expr} {f:Str} {pos:Pos} {ta:TE} (h:X.K=K) (he:PE X e ta) (hb:attributeBase e f X.env (eval e X.env)=eval e X.env):PE X (.Attribute e f pos) (tFld K ta f):=by subst h; exact pe_fld he hb
end
variable [Kon]
section
variable {Γ:List Slot} {K:PySem.W.Frag} {ta tb:TE}
theorem EVL.cast {α:Type} {r:Rp α} {o o':Option (List α)} (h:EVL Γ ta o r) (e:o'=o):EVL Γ ta o' r:=e ▸ h
theorem em_some {g:Nat} {p:Addr} {α:Type} {r:Rp α} {o:Option (α × End_)} (h:EM Γ g p ta o r):EM Γ g p ta (o.bind fun x=>some (some x.1,x.2)) (rOp r):=fun C F σ H Q x S e k=>by
 refine oq12 (a9 e) fun y e1 e=>?_
 cases e
 exact h C F σ H Q y S e1 fun v F' H' S' r1=>k v F' H' S' r1
end
section
variable {Γ:List Slot} {α β S T R:Type} {r:Rp α} {s:Rp β} {tb:TE} {K:PySem.W.Frag} {u tl:TS} {fin:Fc→T→Ends→Prop}
end
end L2
namespace Pu
noncomputable def maxL (ns:List Int):Option Int:=ns.max?
theorem maxL_of {ns:List Int} {a b:Int} (h:maxL ns=some a) (hb:b∈ns) (hm:∀ x,x∈ns→x≤b):b=a:=by
 have:=List.max?_eq_some_iff.mp h
 have h1:=hm a this.1
 have h2:=this.2 b hb
 exact Int.le_antisymm h2 h1
end Pu
namespace L2
open PySem PySem.Spec PyProof.Rows
section
variable {X:Cx} {K:PySem.W.Frag}
noncomputable def rMaxL (K:PySem.W.Frag):List V→Hp→VK→Prop:=fun xs H Q=>∃ p ns M,xs=[.ref p]∧SqL K H p (ns.map V.int)∧Pu.maxL ns=some M∧Q (.int M) H
theorem call_maxL (h:X.K=K) (hc:X.calm=true):cA X (.builtin "max") (rMaxL K):=by
 subst h
 intro pins s σ H xs us Q I r h
 refine oq34 h fun p ns M eq3_ hS hM q=>?_; subst eq3_
 refine oq12 (vals1 r) fun u eq1_ ru=>?_; subst eq1_
 cases ru
 refine oq13 (I.list hS) fun its rv ht hz=>?_
 have hi:IntsAre its ns:=intsAre_of rv
 have hl:=ht.isList
 refine oq11 hi.allInts.items fun ys ey=>?_
 have en:ns=ys.toList.map (·.1):=by
  have h1:=hi.numsOf
  have h2:=nums_intItems ys
  rw [← ey] at h2
  exact h1.symm.trans h2
 rw [ey] at hl
 have hsz:0<ys.size:=by
  cases hns:ns with
  | nil=>rw [hns] at hM; cases hM
  | cons a l =>
   rw [hns] at en
   have:=congrArg List.length en
   rw [List.length_map,Array.length_toList] at this
   simp at this; omega
 refine max_intList (I.ok.hd hc) hl hsz fun v h' tk hv hk=>?_
 refine oq11 (intItems_at hv) fun t eq1_=>?_; subst eq1_
 refine oq02 (argBest_gt (numAt ys) (ys.size - 1)) fun h1 h2=>?_
 refine ⟨.int M,H,I.kept hk,?_,q⟩
 have e:numAt ys (argBest (fun i j=>decide (numAt ys i > numAt ys j)) (ys.size - 1))=M:=by
  refine Pu.maxL_of hM ?_ fun a ha=>?_
  ·rw [en,numAt_eq]; exact getD_mem (by rw [List.length_map,Array.length_toList]; omega)
  ·rw [en] at ha
   refine oq12 (mem_getD ha) fun j hj eq2_=>?_; subst eq2_
   rw [List.length_map,Array.length_toList] at hj
   rw [← numAt_eq]; exact h2 j (by omega)
 exact ⟨t,by rw [e]⟩
end
section
variable [Kon] {Γ:List Slot} {α:Type} {r:Rp α} {ta:TE} {K:PySem.W.Frag}
theorem ev_maxL {o:Option (List Int)} (h:EV Γ ta o (rL rInt)):EV Γ (tCB (rMaxL K) (aK ta tNil)) (o.bind fun ns=>Pu.maxL ns) rInt:=by
 intro C F σ H Q M S e k
 refine oq12 (a9 e) fun ns e1 e=>?_
 refine h C F σ H _ ns S e1 fun v F' H' x1 zq=>oq23 zq fun p vs e2 h1 h2=>⟨p,ns,M,by rw [e2],?_,e,k _ F' H' x1 rfl⟩
 rw [← bx h2]; exact .inl (x1.sub.rd h1)
theorem ev_lenT3 {β γ:Type} {s:Rp β} {q:Rp γ} {o:Option (α × β × γ)} (h:EV Γ ta o (rT3 r s q)):EV Γ (tCB (rLen K) (aK ta tNil)) (o.bind fun _=>some (3:Int)) rInt:=fun C F σ H Q xs S e k=>by
 refine oq12 (a9 e) fun x e1 e=>?_
 cases e
 refine h C F σ H _ x S e1 fun v F' H' x1 hv=>?_
 refine oq45 hv fun p a b c e2 h1 h2 h3 h4=>?_
 exact ⟨p,[a,b,c],by rw [e2],.inr (SqT.of (x1.sub _ _ h1)),k _ F' H' x1 rfl⟩
end
end L2
namespace Pu
noncomputable def mY {α:Type} (d:List (Int × α)) (k:Option Int):Option α:=k.bind fun i=>find d i
end Pu
namespace L2
open PySem PySem.Spec PyProof.Rows
section
variable {prog:Program} {w:World} {A:Around} {E:Value→Shared→Prop} {s:Shared}
theorem mZ {Q:Int→Shared→Prop} (h:Q 4238894112 { s with toks:=s.toks+1 }):wpAny (model prog w) A (pyHash .none) Q E s:=by
 have hT:s.TypeIs .none "NoneType":=rfl
 show wpAny _ _ (pyHashByItsType .none) Q E s
 unfold pyHashByItsType
 have hv:[Value.none].any Value.onHeap=false:=rfl
 refine wpAny_bind ?_
 rw [cRoomFor,if_neg (by rw [hv]; exact Bool.false_ne_true)]; refine wpAny_pure ?_
 refine wpAny_bind (wpAny_specialOf hT PySem.F.slot_NoneType_hash.lookup ?_)
 show wpAny _ _ (if (some (Value.builtin "NoneType.__hash__") == some Value.none)=true then _ else _) Q E s
 rw [if_neg (by rw [beq_builtin_none]; exact Bool.false_ne_true)]
 refine wpAny_bind (wpAny_specialOf hT PySem.F.slot_NoneType_hash.lookup ?_)
 show wpAny _ _ (callSpecialIfBoundUnlessNone? .none "__hash__" _ >>= _) Q E s
 refine wpAny_bind (wpAny_callSpecialIfBoundUnlessNone?_slot hT PySem.F.slot_NoneType_hash
  (wpAny_call_entry PySem.F.slot_NoneType_hash hT PySem.F.entry_NoneType_hash
   (show wpAny _ _ (do ret (← mkInt 4238894112)) _ _ s from wpAny_ret_mkInt ?_) (PySem.F.args_NoneType_hash_1 _)))
 show wpAny _ _ (if (decide (-(2:Int) ^ 63≤4238894112) && decide ((4238894112:Int)<2 ^ 63))=true then _ else _) Q E _
 rw [if_pos (by decide)]
 exact wpAny_pure h
end
noncomputable def optIs:Option Key→Value→Bool
 | none,.none=>true
 | none,_=>false
 | some k,v=>eU k v
theorem dq {v:Value} (h:optIs none v=true):v=.none:=by
 cases v <;> first | rfl | cases h
theorem ia {k:Key} {v:Value} (h:eU k v=true):optIs none v=false:=by
 rcases aY h with ⟨i,t,rfl,rfl⟩ | ⟨x,t,rfl,rfl⟩ <;> rfl
noncomputable def optKind (prog:Program) (w:World):PySem.KeyKind prog w (Option Key) where
 is:=optIs
 hash:=fun k=>match k with | none=>4238894112 | some k=>keyH w k
 inj:=fun v a b ha hb=>by
  cases a with
  | none=>cases b with
   | none=>rfl
   | some b=>rw [ia (show eU b v=true from hb)] at ha; cases ha
  | some a=>cases b with
   | none=>rw [ia (show eU a v=true from ha)] at hb; cases hb
   | some b=>rw [(aS prog w).inj v a b ha hb]
 byValue:=fun k v h=>by
  cases k with
  | none=>rw [dq h]; rfl
  | some k=>exact (aS prog w).byValue k v h
 pyHash:=fun {A E s k v Q} hv h=>by
  cases k with
  | none=>rw [dq hv]; exact mZ h
  | some k=>exact (aS prog w).pyHash (k:=k) hv h
 eqBool:=fun {A E s a b u v Q} hu hv h=>by
  cases a with
  | none =>
   rw [dq hu]
   cases b with
   | none=>rw [dq hv]; exact SeqAt.EqAt.same _ _ _ _ _ (by simpa using h)
   | some b =>
    rcases aY hv with ⟨i,t,rfl,rfl⟩ | ⟨x,t,rfl,rfl⟩
    ·exact SeqAt.EqAt.none_int i t _ _ _ _ (by simpa using h)
    ·exact SeqAt.EqAt.none_str x t _ _ _ _ (by simpa using h)
  | some a =>
   cases b with
   | none =>
    rw [dq hv]
    rcases aY hu with ⟨i,t,rfl,rfl⟩ | ⟨x,t,rfl,rfl⟩
    ·exact SeqAt.EqAt.int_none i t _ _ _ _ (by simpa using h)
    ·exact SeqAt.EqAt.str_none x t _ _ _ _ (by simpa using h)
   | some b =>
    refine (aS prog w).eqBool (a:=a) (b:=b) hu hv ?_
    have:decide (some a=some b)=decide (a=b):=by simp
    rw [this] at h; exact h
 «strs»:=fun k x t v h=>by
  cases k with
  | none=>cases h
  | some k=>exact (aS prog w).strs k x t v h
theorem mapOf_opt {P:Program} {w:World} {h:Heap} {a:Addr} {f:Key→Option Value} (m:h.MapOf (aS P w) a f):h.MapOf (optKind P w) a (fun k=>k.bind f):=by
 refine oq35 m fun o es ep h1 h2 h3 h4 h5=>?_
 refine ⟨o,es,ep,h1,h2,h3,fun e he=>?_,fun k=>?_⟩
 ·refine oq12 (h4 e he) fun k g1 g2=>?_
  exact (oi12 (some k) g1 g2)
 ·cases k with
  | some k=>exact h5 k
  | none =>
   show findBy optIs es none=none
   unfold findBy
   rw [Option.map_eq_none_iff,Array.find?_eq_none]
   intro e he
   refine oq12 (h4 e he) fun k g1 _=>?_
   rw [ia (show eU k e.key=true from g1)]
   exact Bool.false_ne_true
section
variable {X:Cx} {pins:List (Addr × Obj)} {σ:St} {H:Hp} {s:Shared} {a:Addr} {A:Around} {E:Value→Shared→Prop} {u:Value}
theorem d_inN {kvs:List (Key × V)} {Q:Value→Shared→Prop} (I:Inv X pins σ H s) (e:H a=some (.dK kvs)) (h:∀ s',Inv X pins σ H s'→Q (.bool false) s'):wpAny (model X.prog X.w) A (compareOp .In .none (.ref a)) Q E s:=by
 refine oq03 (dk_of I.hok e) fun z hd zz=>oq12 zz fun vs rel dd=>?_
 exact wpAny_in_of (knd:=optKind X.prog X.w) (k:=none) rfl hd (mapOf_opt dd.mapOf) (h _ (I.tok _))
noncomputable def tDInO (ty td:TE):TE:=fun σ H Q=>ty σ H fun y H1=>td σ H1 fun x H2=>∃ a kvs,x=.ref a∧H2 a=some (.dK kvs)∧((y=.non∧Q (.bl false) H2)∨∃ k,y=kV k∧Q (.bl (valV kvs k).isSome) H2)
theorem pc_dinO {i o:Expr} {ty td:TE} (hu:X.A.units+1<cLine) (hi:PE X i ty) (ho:PE X o td):PC X .In i o (tDInO ty td):=by
 intro pins s σ H Q I h
 refine thn (hi pins s σ H _ I h) fun iv s1 zq=>oq23 zq fun y H1 I1 ry q1=>thn (ho pins s1 σ H1 _ I1 q1) fun u s2 zq=>oq23 zq fun x H2 I2 rx zz=>oq23 zz fun a kvs ex g q2=>?_
 subst ex
 obtain rfl:u=Value.ref a:=rx
 rcases q2 with ⟨rfl,q2⟩ | ⟨k,rfl,q2⟩
 ·obtain rfl:iv=Value.none:=ry
  exact d_inN I2 g fun s3 I3=>⟨.bl false,H2,I3,rfl,q2⟩
 ·exact d_in hu I2 (DGet.k (k:=k) g) ry fun s3 I3=>⟨.bl (valV kvs k).isSome,H2,I3,rfl,q2⟩
end
section
variable [Kon] {Γ:List Slot} {α:Type} {r:Rp α} {ta tb:TE} {K:PySem.W.Frag}
theorem ev_inDO {oi:Option (Option Int)} {o:Option (List (Int × α))} (hi:EV Γ ta oi (rOp rInt)) (hd:EV Γ tb o (rD r)):EV Γ (tDInO ta tb) (oi.bind fun k=>o.bind fun d=>some ((Pu.mY d k).isSome)) aG:=by
 intro C F σ H Q b S e k
 refine oq12 (a9 e) fun i e1 e=>?_
 refine oq12 (a9 e) fun d e2 e=>?_
 cases e
 refine hi C F σ H _ i S e1 fun v F' H' x1 r1=>hd C F' σ H' _ d (S.grow x1) e2 fun w F2 H2 x2 zq=>oq23 zq fun p ws e4 h1 h2=>(oi23 p ws e4 (x2.sub _ _ h1) ?_)
 cases i with
 | none=>exact .inl ⟨r1,k _ F2 H2 (x1.trans x2) rfl⟩
 | some i =>
  have r1:v=.int i:=r1
  refine .inr (oi12 (.inl i) r1 ?_)
  refine oq02 (dB (k:=i) h2) fun g1 g2=>?_
  have eb:(valV ws (.inl i)).isSome=(Pu.mY d (some i)).isSome:=by
   show _=(Pu.find d i).isSome
   cases q:Pu.find d i with
   | none=>rw [g2 q]; rfl
   | some x=>refine oq12 (g1 x q) fun v h3 h4=>?_; rw [h3]; rfl
  rw [eb]
  exact k _ F2 H2 (x1.trans x2) rfl
end
end L2
namespace Pu
end Pu
namespace L2
open PySem PySem.Spec PyProof.Rows
variable [Kon]
section
variable {X:Cx} {pins:List (Addr × Obj)} {σ:St} {H:Hp} {s:Shared} {x:Str} {cap:List (Str × Nat)} {scope:Scope} {cl:List (Str × Addr)} {f:Addr} {cd:Value}
open PySem.W in
open PySem.W in
end
section
variable {Γ:List Slot} {te tb:TE} {K:PySem.W.Frag} {P:Addr} {cap:List (Str × Nat)}
end
end L2
namespace L2
open PySem PySem.Spec PyProof.Rows
variable [Kon]
noncomputable def EVG {α:Type} (Γ:List Slot) (t:TE) (o:Option α) (r:Rp α):Prop:=∀ C F σ H Q x,SR C F Γ σ H→o=some x→(∀ v G F' H',Ext F H F' H'→Same G F'→(∀ b u,G b=some u→H b=none)→r.rel G v x→Q v H')→t σ H Q
theorem EVG.ev {α:Type} {Γ:List Slot} {t:TE} {o:Option α} {r:Rp α} (h:EVG Γ t o r):EV Γ t o r:=fun C F σ H Q x S e k=>h C F σ H Q x S e fun v _ F' H' x1 s _ q=>k v F' H' x1 (r.mono s q)
noncomputable def nil_:Hp:=fun _=>none
noncomputable def rLn {α:Type} (r:Rp α):Rp (List α):=⟨fun H v xs=>∃ p vs,v=.ref p∧H p=some (.lst vs)∧Paired (r.rel H) vs xs,fun e zq=>oq23 zq fun p vs h1 h2 h3=>(oi23 p vs h1 (e _ _ h2) (Paired.imp2 (fun _ _ q=>r.mono e q) h3))⟩
noncomputable def Le {α:Type} (r s:Rp α):Prop:=∀ {H:Hp} {v:V} {a:α},r.rel H v a→s.rel H v a
theorem le_ln {α:Type} {r s:Rp α} (h:Le r s):Le (rLn r) (rL s):=fun zq=>oq23 zq fun p vs h1 h2 h3=>⟨p,vs,h1,Rd.of h2,Paired.imp2 (fun _ _ q=>h q) h3⟩
theorem le_rfl {α:Type} {r:Rp α}:Le r r:=fun h=>h
theorem ev_leR {α:Type} {Γ:List Slot} {t:TE} {o:Option α} {r s:Rp α} (l:Le r s) (h:EV Γ t o r):EV Γ t o s:=fun C F σ H Q x S e k=>h C F σ H Q x S e fun v F' H' x1 q=>k v F' H' x1 (l q)
section
variable {Γ:List Slot} {α β:Type} {r:Rp α} {rb:Rp β} {te:TE}
end
end L2
namespace Pu
end Pu
namespace L2
open PySem PySem.Spec PyProof.Rows
variable [Kon]
section
variable {Γ:List Slot} {C:Fc} {F H:Hp} {σ:St} {q:Addr} {i g:Nat} {row:List Int} {tail:List (List Int)}
end
section
variable {Γ:List Slot} {α β:Type} {s:Rp β} {tb:TE} {ob:Option β} {q:Addr} {row:List Int} {tail:List (List Int)}
end
section
variable {Γ:List Slot} {T:Type} {te:TE} {u:TS} {fin:Fc→T→Ends→Prop} {K:PySem.W.Frag}
theorem bv_clearG {α:Type} {r:Rp α} {φ:Addr→Prop} {xs:List α} {to:TE} {f:List α→Option T} (i:Nat) (ho:g8 Γ to i) (hi:Γ[i]?=some (.ol r φ xs)) (h:∀ ys,BV (Γ.set i (.ol r φ ys)) u (f ys) fin):BV Γ (tSeq (mo (tBM0 K "list" rClear to)) u) (f []) fin:=by
 intro C F σ H D x S e k
 refine oq12 (S.at_ i _ hi) fun o h1 zz=>oq26 zz fun p vs eq4_ h2 h3 h4 h5 h6=>?_; subst eq4_
 exact ho C F σ H _ (.ref p) S h1 ⟨.inl ⟨rfl,vs,SqL.of h5⟩,p,vs,rfl,rfl,h5,h [] C F σ _ D x (S.chg hi rfl h1 h3 h4 rfl ⟨p,_,rfl,h2,h3,h4,af,.nil⟩) e k⟩
end
section
variable {Γ:List Slot} {α β:Type} {r:Rp α} {s:Rp β} {ta tb:TE} {oa:Option α} {ob:Option β} {K:PySem.W.Frag}
end
section
variable {prog:Program} {w:World} {A:Around} {E:Value→Shared→Prop} {s:Shared}
end
section
variable {Γ:List Slot} {α β:Type} {r:Rp α} {s:Rp β} {K:PySem.W.Frag}
end
end L2
namespace L2
open PySem PySem.Spec PyProof.Rows
section
variable {α:Type}
theorem len1:∀ {us:List α},us.length=1→∃ a,us=[a]
 | [a],_=>⟨a,rfl⟩
theorem len2 {us:List α} (h:us.length=2):∃ a1 a2,us=[a1,a2]:=by
 cases us with
 | nil=>cases h
 | cons a us =>
  refine oq11 (len1 (Nat.succ.inj h)) fun a2 eq1_=>?_; subst eq1_
  exact (oi21 a a2 rfl)
theorem len3 {us:List α} (h:us.length=3):∃ a1 a2 a3,us=[a1,a2,a3]:=by
 cases us with
 | nil=>cases h
 | cons a us =>
  refine oq21 (len2 (Nat.succ.inj h)) fun a2 a3 eq2_=>?_; subst eq2_
  exact (oi31 a a2 a3 rfl)
theorem len4 {us:List α} (h:us.length=4):∃ a1 a2 a3 a4,us=[a1,a2,a3,a4]:=by
 cases us with
 | nil=>cases h
 | cons a us =>
  refine oq31 (len3 (Nat.succ.inj h)) fun a2 a3 a4 eq3_=>?_; subst eq3_
  exact (oi41 a a2 a3 a4 rfl)
theorem len5 {us:List α} (h:us.length=5):∃ a1 a2 a3 a4 a5,us=[a1,a2,a3,a4,a5]:=by
 cases us with
 | nil=>cases h
 | cons a us =>
  refine oq41 (len4 (Nat.succ.inj h)) fun a2 a3 a4 a5 eq4_=>?_; subst eq4_
  exact (oi51 a a2 a3 a4 a5 rfl)
theorem len6 {us:List α} (h:us.length=6):∃ a1 a2 a3 a4 a5 a6,us=[a1,a2,a3,a4,a5,a6]:=by
 cases us with
 | nil=>cases h
 | cons a us =>
  refine oq51 (len5 (Nat.succ.inj h)) fun a2 a3 a4 a5 a6 eq5_=>?_; subst eq5_
  exact (oi61 a a2 a3 a4 a5 a6 rfl)
end
variable [Kon]
section
variable {τ:Type} {ra:RpA τ} {CM CW:Addr}
section
variable {P:Program} {w:World} {K:PySem.W.Frag} {mg:Str→Option Value} {base:Heap} {x:Str} {st:Stmt} {N ps:List Str} {k:Nat}
end
section
variable {Γ:List Slot} {t:TA} {oτ:Option τ} {K:PySem.W.Frag}
end
end
end L2
namespace L2
open PySem PySem.Spec PyProof.Rows
variable [Kon]
section
variable (q:Addr) (row:List Int) (tail:List (List Int))
end
section
variable {q:Addr} {row:List Int} {tail:List (List Int)} {π:Nat→V}
variable {C:Fc} {F H:Hp} {σ:St} {Γ Δ:List Slot} {i g:Nat}
end
end L2
namespace Tab
open PySem
section
variable {prog:Program} {w:World} {A:Around} {E:Value→Shared→Prop} {s:Shared} {a:Addr} {ks:List Int} {v:Int} {u:Tok}
end
section
variable {prog:Program} {w:World} {A:Around} {E:Value→Shared→Prop} {s:Shared} {a I:Addr} {ks:List Int} {o:Obj} {es:Array (Int × Value)} {ep i n:Nat} {t:SetTable} {f0:Value}
end
section
variable {prog:Program} {w:World} {A:Around} {E:Value→Shared→Prop} {s:Shared} {a I:Addr} {ks:List Int} {o:Obj} {es:Array (Int × Value)} {ep i n:Nat} {t:SetTable} {f0:Value}
end
section
variable {prog:Program} {w:World} {A:Around} {E:Value→Shared→Prop} {s:Shared} {a I:Addr} {ks:List Int}
end
open PyProof.Rows
section
variable {prog:Program} {w:World} {A:Around} {E:Value→Shared→Prop} {s:Shared} {a l:Addr} {ks:List Int}
end
end Tab
namespace L2
open PySem PySem.Spec PyProof.Rows
variable [Kon]
section
variable {X:Cx} {K:PySem.W.Frag}
end
section
variable {Γ:List Slot} {ta:TE} {K:PySem.W.Frag} {P:Program} {w:World} {o:Option (List Int)}
end
end L2
namespace L2
open PySem PySem.Spec PyProof.Rows
section
variable {X:Cx} {pins:List (Addr × Obj)} {σ:St} {H:Hp} {s:Shared} {a:Addr} {u u':HO}
end
end L2
namespace L2
open PySem PySem.Spec PyProof.Rows
noncomputable abbrev Rd_:=List (Int × Int)
noncomputable abbrev Dr_:=List (Int × Option Int)
variable [Kon]
section
variable {Γ:List Slot} {ta:TE} {K:PySem.W.Frag} {CR:Addr}
end
section
variable {C:Fc} {F H F' H':Hp} {Γ:List Slot} {σ:St} {p:Addr} {i g:Nat}
section
variable {α β γ δ:Type} {r0:Rp α} {a0:α} {s:Rp β} {y:β} {r:Rp γ} {kvs:List (Int × γ)} {q:Rp δ} {tb:TE}
end
end
end L2
namespace L2
open PySem PySem.Spec PyProof.Rows
variable [Kon]
section
variable {P:Program} {w:World} {K:PySem.W.Frag} {mg:Str→Option Value} {base:Heap} {m qual:Str} {st:Stmt} {N ps:List Str} {k:Nat} {CR:Addr} {τ γ:Type} {ra:RpA τ} {r:Rp γ}
end
section
variable {P:Program} {w:World} {K:PySem.W.Frag} {mg:Str→Option Value} {base:Heap} {m qual:Str} {st:Stmt} {N ps:List Str} {k:Nat} {CR:Addr} {τ:Type} {ra:RpA τ}
end
section
variable {Γ:List Slot} {T τ:Type} {CR pa pb:Addr} {rows:List (List Int)} {reach:Int} {rd:Rd_} {dr:Dr_} {u:TS} {fin:Fc→T→Ends→Prop} {K:PySem.W.Frag}
end
end L2
namespace L2
open PySem PySem.Spec PyProof.Rows
variable [Kon]
section
variable {Γ:List Slot} {T:Type} {CR:Addr} {u:TS} {fin:Fc→T→Ends→Prop} {f:List (List Int)→Option Dr_}
end
end L2
namespace Pu
end Pu
namespace L2
open PySem PySem.Spec PyProof.Rows
variable [Kon]
section
variable {Γ:List Slot} {T:Type} {te:TE} {u:TS} {fin:Fc→T→Ends→Prop} {K:PySem.W.Frag} {φ:Addr→Prop} {xs:List Int} {oi:Option Int}
end
end L2
namespace L2
open PySem PySem.Spec PyProof.Rows
variable [Kon]
noncomputable abbrev rTLL:Rp (Int × List Int × List Int):=rT3 rInt (rL rInt) (rL rInt)
noncomputable def rY (q1 q2:Addr):Rp Int:=⟨fun H v a=>∃ t,v=.ref t∧H t=some (.tup [.int a,.ref q1,.ref q2])∧q1≠q2,fun e zq=>oq13 zq fun t h1 h2 h3=>⟨t,h1,e _ _ h2,h3⟩⟩
section
variable {Γ:List Slot} {C:Fc} {F H:Hp} {σ:St} {q1 q2:Addr} {i g1 g2:Nat} {top:Int} {way ins:List Int}
theorem SR.borY (S:SR C F Γ σ H) (hi:Γ[i]?=some (.fr (rY q1 q2) top)) (hg1:Γ[g1]?=some (.ol rInt (fun b=>b=q1) way)) (hg2:Γ[g2]?=some (.ol rInt (fun b=>b=q2) ins)) (hne:g1≠g2) :
  ∃ vs ws,F q1=none∧H q1=some (.lst vs)∧F q2=none∧H q2=some (.lst ws)∧q2≠q1∧SR C (upd (upd F q1 (.lst vs)) q2 (.lst ws)) (((Γ.set g1 .any).set g2 .any).set i (.fr rTLL (top,way,ins))) σ H:=by
 refine oq12 (S.at_ g1 _ hg1) fun o h1 zz=>oq26 zz fun p1 vs eq4_ eq5_ h3 h4 h5 h6=>?_; subst eq4_; subst eq5_
 refine oq12 (S.fr hi) fun v w1 w2=>?_
 refine oq12 (S.at_ g2 _ hg2) fun o' k1 zz=>oq26 zz fun p2 ws eq4_ eq5_ k3 k4 k5 k6=>?_; subst eq4_; subst eq5_
 refine oq13 w2 fun t et ht ne=>?_
 have ne':p2≠p1:=Ne.symm ne
 have S1:=S.freeze hg1 p1 _ .any rfl rfl h1 h3 h4 h5 trivial trivial
 have hg2':(Γ.set g1 .any)[g2]?=some (.ol rInt (fun b=>b=p2) ins):=by rw [bi hne]; exact hg2
 have F2:upd F p1 (.lst vs) p2=none:=(ac ne').trans k4
 have S2:=S1.freeze hg2' p2 _ .any rfl rfl k1 k3 F2 k5 trivial trivial
 have e1:Same F (upd F p1 (.lst vs)):=aC h4
 have e2:Same (upd F p1 (.lst vs)) (upd (upd F p1 (.lst vs)) p2 (.lst ws)):=aC F2
 refine oi26 vs ws h4 h5 k4 k5 ne' ?_
 have S3:=S2.setF (r:=rTLL) (a:=(top,way,ins)) (v:=v) i ⟨t,_,_,_,et,(e1.trans e2) _ _ ht,rfl,⟨p1,vs,rfl,Rd.of (e2 _ _ af),h6⟩,⟨p2,ws,rfl,Rd.of af,k6⟩⟩
 rw [set_same w1] at S3
 exact S3
end
section
variable {Γ:List Slot} {β:Type} {s:Rp β} {tb:TE} {ob:Option β} {q1 q2:Addr} {top:Int} {way ins:List Int}
noncomputable abbrev brwY (Γ:List Slot) (i g1 g2:Nat) (top:Int) (way ins:List Int):List Slot:=((Γ.set g1 .any).set g2 .any).set i (.fr rTLL (top,way,ins))
theorem ev_borY (i g1 g2:Nat) (hi:Γ[i]?=some (.fr (rY q1 q2) top)) (hg1:Γ[g1]?=some (.ol rInt (fun b=>b=q1) way)) (hg2:Γ[g2]?=some (.ol rInt (fun b=>b=q2) ins)) (hne:g1≠g2) (fl:Flat s) (h:EV (brwY Γ i g1 g2 top way ins) tb ob s):EV Γ tb ob s:=by
 intro C F σ H Q b S e k
 refine oq26 (S.borY hi hg1 hg2 hne) fun vs ws h1 h2 h3 h4 ne S'=>?_
 refine h C _ σ H Q b S' e fun v F' H' x1 r1=>?_
 refine oq03 (fi h1 h2 h3 h4 ne x1) fun x2 h5 h6=>?_
 exact k v _ H' x2 (fl h6 trivial (fl h5 trivial r1))
theorem et_borY {t:TT} {o:Option Bool} (i g1 g2:Nat) (hi:Γ[i]?=some (.fr (rY q1 q2) top)) (hg1:Γ[g1]?=some (.ol rInt (fun b=>b=q1) way)) (hg2:Γ[g2]?=some (.ol rInt (fun b=>b=q2) ins)) (hne:g1≠g2) (h:ET (brwY Γ i g1 g2 top way ins) t o):ET Γ t o:=by
 intro C F σ H Q b S e k
 refine oq26 (S.borY hi hg1 hg2 hne) fun vs ws h1 h2 h3 h4 ne S'=>?_
 refine h C _ σ H Q b S' e fun F' H' x1=>?_
 exact oq03 (fi h1 h2 h3 h4 ne x1) fun x2 _ _=>k _ H' x2
theorem evg_borY (i g1 g2:Nat) (hi:Γ[i]?=some (.fr (rY q1 q2) top)) (hg1:Γ[g1]?=some (.ol rInt (fun b=>b=q1) way)) (hg2:Γ[g2]?=some (.ol rInt (fun b=>b=q2) ins)) (hne:g1≠g2) (h:EVG (brwY Γ i g1 g2 top way ins) tb ob s):EVG Γ tb ob s:=by
 intro C F σ H Q b S e k
 refine oq26 (S.borY hi hg1 hg2 hne) fun vs ws h1 h2 h3 h4 ne S'=>?_
 refine h C _ σ H Q b S' e fun v G F' H' x1 sG fG r1=>?_
 refine oq03 (fi h1 h2 h3 h4 ne x1) fun x2 h5 h6=>k v G _ H' x2 (fun b u z=>?_) fG r1
 rw [bf (fun (y:b=q1)=>nomatch (y ▸ fG b u z).symm.trans h2),bf (fun (y:b=q2)=>nomatch (y ▸ fG b u z).symm.trans h4)]
 exact sG b u z
theorem own_y1 {K:PySem.W.Frag} (i g:Nat) (hi:Γ[i]?=some (.fr (rY q1 q2) top)) (hg:Γ[g]?=some (.ol rInt (fun b=>b=q1) way)):g8 Γ (tOp (rIxT K) (tVar i) (tC (.int 1))) g:=fun C F σ H Q v S hv k=>by
 refine oq12 (S.at_ g _ hg) fun o h1 zz=>oq22 zz fun p' ws eq4_ z=>?_; subst eq4_
 rw [hv] at h1
 cases h1
 cases z.1
 exact oq12 (S.fr hi) fun w w1 zz=>oq13 zz fun t et ht _=>⟨w,w1,t,_,1,_,et,rfl,SqT.of (S.sub _ _ ht),rfl,k⟩
theorem own_y2 {K:PySem.W.Frag} (i g:Nat) (hi:Γ[i]?=some (.fr (rY q1 q2) top)) (hg:Γ[g]?=some (.ol rInt (fun b=>b=q2) ins)):g8 Γ (tOp (rIxT K) (tVar i) (tC (.int 2))) g:=fun C F σ H Q v S hv k=>by
 refine oq12 (S.at_ g _ hg) fun o h1 zz=>oq22 zz fun p' ws eq4_ z=>?_; subst eq4_
 rw [hv] at h1
 cases h1
 cases z.1
 exact oq12 (S.fr hi) fun w w1 zz=>oq13 zz fun t et ht _=>⟨w,w1,t,_,2,_,et,rfl,SqT.of (S.sub _ _ ht),rfl,k⟩
end
noncomputable def spY {τ:Type} (ra:RpA τ) (f:τ→Option (Int × List Int × List Int)):Sp:=fun vs H Q _=>∃ F a c,Same F H∧NT F∧TbG H∧ra.rel F vs a∧f a=some c ∧
 ∀ v q1 q2 us ws F' H',Ext F H F' H'→(rY q1 q2).rel F' v c.1→H q1=none→H q2=none→F' q1=none→F' q2=none→H' q1=some (.lst us)→H' q2=some (.lst ws)→Paired (rInt.rel F') us c.2.1→Paired (rInt.rel F') ws c.2.2→Q v H'
noncomputable def finY:Fc→Int × List Int × List Int→Ends→Prop:=fun C c D=>∀ v q1 q2 us ws F H,Fr C F H→(rY q1 q2).rel F v c.1→C.H0 q1=none→C.H0 q2=none→F q1=none→F q2=none→H q1=some (.lst us)→H q2=some (.lst ws)→Paired (rInt.rel F) us c.2.1→Paired (rInt.rel F) ws c.2.2→D.rt v H
theorem bv_retY {Γ:List Slot} {t0 tl:TE} {o0:Option Int} {ol:Option (List Int)} {φ:Addr→Prop} {xs:List Int} (i:Nat) (hi:Γ[i]?=some (.ol rInt φ xs)) (h0:EV Γ t0 o0 rInt) (hl:EVL Γ tl ol rInt):BV Γ (tRet (tTup (aK t0 (aK (tVar i) (aK tl tNil))))) (o0.bind fun a=>ol.bind fun ys=>some (a,xs,ys)) finY:=fun C F σ H D x S e k=>by
 refine oq12 (a9 e) fun a e1 e=>?_
 refine oq12 (a9 e) fun ys e2 e=>?_
 cases e
 refine h0 C F σ H _ a S e1 fun v F1 H1 x1 r1=>?_
 have S1:=S.grow x1
 refine oq12 (S1.at_ i _ hi) fun o w1 zz=>oq22 zz fun p vs eq4_ _=>?_; subst eq4_
 refine ⟨.ref p,w1,hl C F1 σ H1 _ ys S1 e2 fun q ws F2 H2 x2 hq r2=>⟨by show 3≤sizeLine; decide,fun t ht=>?_⟩⟩
 have S2:=S1.grow x2
 refine oq12 (S2.at_ i _ hi) fun o w2 zz=>oq26 zz fun p' vs' eq4_ h2 h3 h4 h5 h6=>?_; subst eq4_
 rw [w1] at w2
 cases w2
 have pq:p≠q:=ah h5 hq
 have tq:t≠q:=(ah af ht).symm
 rw [ac tq] at ht
 have tp:t≠p:=(ah h5 ht).symm
 have F2q:F2 q=none:=x2.sub.free hq
 have xa:Ext F2 H2 F2 (upd H2 q (.lst ws)):=Ext.newH x2.sub hq
 have xb:Ext F2 (upd H2 q (.lst ws)) (upd F2 t (.tup [v,.ref p,.ref q])) (upd (upd H2 q (.lst ws)) t (.tup [v,.ref p,.ref q])):=Ext.new xa.sub ((ac tq).trans ht)
 have S4:=(S2.grow xa).grow xb
 cases r1
 exact k (.ref t) p q vs' ws _ _ S4.toFr ⟨t,rfl,af,pq⟩ h3 (S2.keep.free hq) ((ac (Ne.symm tp)).trans h4) ((ac (Ne.symm tq)).trans F2q) ((ac (Ne.symm tp)).trans ((ac pq).trans h5)) ((ac (Ne.symm tq)).trans af) h6 r2
section
variable {P:Program} {w:World} {K:PySem.W.Frag} {mg:Str→Option Value} {base:Heap} {x:Str} {st:Stmt} {N ps:List Str} {k:Nat} {τ:Type} {ra:RpA τ}
theorem au.pY {f:τ→Option (Int × List Int × List Int)} {n:Nat} (D:au K mg x st ps) (S:FnScope N ps (ae st)) (hl:∀ a,(ra.slots a).length=ps.length) (hn:N.length - ps.length=n)
  (h:eG P w K mg base x st N k fun t=>∀ a,BV (ra.slots a++List.replicate n .any) t (f a) finY):Has P w K mg base (k+1) x ps (spY ra f):=by
 refine D.has S (fun vs H Q E h=>?_) fun fa cdv A outer s H vs Q E hr hsp=>?_
 ·refine oq35 h fun F a c _ _ _ h1 _=>?_; rw [(ra.ok h1).1,hl]
 ·refine oq12 (h fa cdv A outer s H E hr) fun t h1 h2=>?_
  refine oq36 hsp fun F a c sb nt tg hr' hf q=>?_
  refine oi12 t h1 (h2 a _ F _ H _ c (SR.begin_ sb nt tg hr' (by rw [(ra.ok hr').1,hl]; exact hn)) hf ?_)
  exact fun v q1 q2 us ws F' H' fr ry z1 z2 z3 z4 z5 z6 z7 z8=>q v q1 q2 us ws F' H' ⟨fr.keep,fr.low,fr.sub,fr.base,fun _=>fr.nt⟩ ry z1 z2 z3 z4 z5 z6 z7 z8
end
section
variable {Γ:List Slot} {T τ:Type} {u:TS} {fin:Fc→T→Ends→Prop} {ra:RpA τ} {t:TA} {oτ:Option τ} {f:τ→Option (Int × List Int × List Int)}
theorem n0 (h:EA Γ t oτ ra):EV Γ (j5 (spY ra f) [] E0 t) (oτ.bind f) rTLL:=fun C F σ H Q c S e k=>by
 refine oq12 (a9 e) fun a e1 e=>?_
 refine h C F σ H _ a S e1 fun vs F1 H1 x1 r1=>⟨F1,a,c,x1.sub,x1.nt S.nt,x1.hh.tg S.tg,by rw [List.append_nil]; exact r1,e,fun v q1 q2 us ws F2 H2 x2 ry n1 n2 f1 f2 h1 h2 p1 p2=>?_⟩
 refine oq13 ry fun t et ht ne=>?_
 have fz:Same F2 (upd (upd F2 q1 (.lst us)) q2 (.lst ws)):=(aC f1).trans (aC ((ac (Ne.symm ne)).trans f2))
 have x3:Ext F1 H1 (upd (upd F2 q1 (.lst us)) q2 (.lst ws)) H2:=by
  refine ⟨x2.hh,x2.ff.trans fz,fun b o z=>?_,fun b o z=>?_,fun z=>gi (gi (x2.nt z) trivial) trivial⟩
  ·by_cases e2:b=q2
   ·subst e2; rw [af] at z; exact z ▸ h2
   ·rw [ac e2] at z
    by_cases e1:b=q1
    ·subst e1; rw [af] at z; exact z ▸ h1
    ·rw [ac e1] at z; exact x2.sub b o z
  ·by_cases e2:b=q2
   ·subst e2; exact .inr n2
   ·rw [ac e2] at z
    by_cases e1:b=q1
    ·subst e1; exact .inr n1
    ·rw [ac e1] at z; exact x2.nw b o z
 exact k v _ H2 (x1.trans x3) ⟨t,_,_,_,et,fz _ _ ht,rfl,⟨q1,us,rfl,Rd.of ((ac ne).trans af),p1⟩,⟨q2,ws,rfl,Rd.of af,p2⟩⟩
theorem bv_setY {gg:Int→List Int→List Int→Option T} (i g1 g2:Nat) (hne:i≠g1∧i≠g2∧g1≠g2) (ha:EA Γ t oτ ra)
  (h:∀ q1 q2 a b c,BV (((Γ.set i (.fr (rY q1 q2) a)).set g1 (.ol rInt (fun z=>z=q1) b)).set g2 (.ol rInt (fun z=>z=q2) c)) u (gg a b c) fin) :
  BV Γ (tSeq (tAsg (j5 (spY ra f) [] E0 t) (d4 i)) (tGh g1 (tGh g2 u))) (oτ.bind fun a=>(f a).bind fun x=>gg x.1 x.2.1 x.2.2) fin:=by
 intro C F σ H D x S e k
 refine oq12 (a9 e) fun a e1 e=>?_
 refine oq12 (a9 e) fun c e2 e=>?_
 refine ha C F σ H _ a S e1 fun vs F1 H1 x1 r1=>⟨F1,a,c,x1.sub,x1.nt S.nt,x1.hh.tg S.tg,by rw [List.append_nil]; exact r1,e2,fun v q1 q2 us ws F2 H2 x2 ry n1 n2 f1 f2 h1 h2 p1 p2=>?_⟩
 have S1:=S.grow x1
 have S2:=(S1.grow x2).setF (r:=rY q1 q2) (a:=c.1) (v:=v) i ry
 have ne:=oq13 ry fun _ _ _ z=>z
 have noown:∀ b,H1 b=none→∀ (j:Nat) s,(Γ.set i (.fr (rY q1 q2) c.1))[j]?=some s→s.own=true→(σ.set i (some v))[j]?≠some (some (.ref b)):=fun b nb j s z1 z2 z3=>by
  rcases get_set z1 with ⟨rfl,rfl,_⟩ | ⟨nj,z1⟩
  ·cases z2
  ·rw [bi nj] at z3
   refine oq12 (S1.at_ j s z1) fun o y1 y2=>?_
   rw [z3] at y1
   cases y1
   exact oq12 (jo z2 y2) fun w9 y3 _=>nomatch nb.symm.trans y3
 have S4:=S2.setG (p:=q1) (s:=.ol rInt (fun z=>z=q1) c.2.1) g1 rfl ⟨q1,us,rfl,rfl,S1.keep.free n1,f1,h1,p1⟩ (noown q1 n1)
 have S5:=S4.setG (p:=q2) (s:=.ol rInt (fun z=>z=q2) c.2.2) g2 rfl ⟨q2,ws,rfl,rfl,S1.keep.free n2,f2,h2,p2⟩ fun j s z1 z2 z3=>by
  rcases get_set z1 with ⟨rfl,rfl,hl⟩ | ⟨nj,z1⟩
  ·rw [dN (by rw [S2.len]; exact hl)] at z3
   cases z3
   exact ne rfl
  ·rw [bi nj] at z3
   exact noown q2 n2 j s z1 z2 z3
 exact ⟨.ref q1,.ref q2,h q1 q2 c.1 c.2.1 c.2.2 C _ _ H2 D x S5 e k⟩
end
theorem oF {Γ:List Slot} {α T:Type} {r:Rp α} {φ:Addr→Prop} {xs:List α} {to te:TE} {oa:Option α} {u:TS} {fin:Fc→T→Ends→Prop} {K:PySem.W.Frag} {f:List α→Option T} (i:Nat) (ho:g8 Γ to i) (hi:Γ[i]?=some (.ol r φ xs)) (he:EV Γ te oa r) (h:∀ ys,BV (Γ.set i (.ol r φ ys)) u (f ys) fin):BV Γ (tSeq (mo (tBM K "list" la to (aK te tNil))) u) (oa.bind fun a=>(Pu.app xs a).bind f) fin:=by
 intro C F σ H D x S e k
 refine oq12 (a9 e) fun a e1 e=>?_
 refine oq12 (a9 e) fun ys e2 e=>?_
 refine oq12 (S.at_ i _ hi) fun o h1 zz=>oq26 zz fun p vs eq4_ h2 h3 h4 h5 h6=>?_; subst eq4_
 refine ho C F σ H _ (.ref p) S h1 ⟨.inl ⟨rfl,vs,SqL.of h5⟩,he C F σ H _ a S e1 fun v F' H' x1 r1=>?_⟩
 have S':=S.grow x1
 refine oq12 (S'.at_ i _ hi) fun o' q1 zz=>oq26 zz fun p' vs' eq4_ q2 q3 q4 q5 q6=>?_; subst eq4_
 rw [h1] at q1
 cases q1
 unfold Pu.app at e2
 split at e2
 ·rename_i hl
  cases e2
  refine ⟨p,vs',v,rfl,rfl,q5,by rw [q6.length,sizeLine_eq]; exact hl,?_⟩
  exact h _ C F' σ _ D x (S'.chg hi rfl h1 q3 q4 rfl ⟨p,_,rfl,q2,q3,q4,af,Paired.app q6 (.cons r1 .nil)⟩) e k
 ·cases e2
noncomputable abbrev rTnn:Rp (Int × List Int × List Int):=rT3 rInt (rLn rInt) (rLn rInt)
theorem evg_tLL {Γ:List Slot} {ta tb tc:TE} {oa:Option Int} {ob oc:Option (List Int)} (ha:EV Γ ta oa rInt) (hb:EVL Γ tb ob rInt) (hc:EVL Γ tc oc rInt):EVG Γ (tTup (aK ta (aK tb (aK tc tNil)))) (oa.bind fun a=>ob.bind fun b=>oc.bind fun c=>some (a,b,c)) rTnn:=fun C F σ H Q x S e k=>by
 refine oq12 (a9 e) fun a e1 e=>?_
 refine oq12 (a9 e) fun b e2 e=>?_
 refine oq12 (a9 e) fun c e3 e=>?_
 cases e
 refine ha C F σ H _ a S e1 fun v F1 H1 x1 r1=>hb C F1 σ H1 _ b (S.grow x1) e2 fun p us F2 H2 x2 hp r2=>?_
 have x2':=x2.trans (Ext.new (o:=.lst us) x2.sub hp)
 refine hc C _ σ _ _ c ((S.grow x1).grow x2') e3 fun q ws F3 H3 x3 hq r3=>⟨by show 3≤sizeLine; decide,fun t ht=>?_⟩
 have tq:t≠q:=(ah af ht).symm
 rw [ac tq] at ht
 have h3p:H3 p=some (.lst us):=x3.hh.kp _ _ trivial af
 have pq:p≠q:=ah h3p hq
 have tp:t≠p:=(ah h3p ht).symm
 have x4:Ext F3 H3 (upd F3 q (.lst ws)) (upd H3 q (.lst ws)):=Ext.new x3.sub hq
 have x5:Ext (upd F3 q (.lst ws)) (upd H3 q (.lst ws)) (upd (upd F3 q (.lst ws)) t (.tup [v,.ref p,.ref q])) (upd (upd H3 q (.lst ws)) t (.tup [v,.ref p,.ref q])):=Ext.new x4.sub ((ac tq).trans ht)
 have fr:∀ {b:Addr},H3 b=none→H b=none:=fun z=>x1.hh.free (x2'.hh.free (x3.hh.free z))
 have frp:H p=none:=x1.hh.free (x2.hh.free hp)
 have F3p:F3 p=some (.lst us):=x3.ff _ _ af
 cases r1
 refine k (.ref t) (upd (upd (upd nil_ p (.lst us)) q (.lst ws)) t (.tup [.int a,.ref p,.ref q])) _ _ ((((x1.trans x2').trans x3).trans x4).trans x5) (fun b u z=>?_) (fun b u z=>?_) ⟨t,_,_,_,rfl,af,rfl,⟨p,us,rfl,(ac (Ne.symm tp)).trans ((ac pq).trans af),r2⟩,⟨q,ws,rfl,(ac (Ne.symm tq)).trans af,r3⟩⟩
 ·by_cases et:b=t
  ·subst et; rw [af] at z ⊢; exact z
  ·rw [ac et] at z ⊢
   by_cases eq:b=q
   ·subst eq; rw [af] at z ⊢; exact z
   ·rw [ac eq] at z ⊢
    by_cases ep:b=p
    ·subst ep; rw [af] at z; exact z ▸ F3p
    ·rw [ac ep] at z; cases z
 ·by_cases et:b=t
  ·subst et; exact fr ht
  ·rw [ac et] at z
   by_cases eq:b=q
   ·subst eq; exact fr hq
   ·rw [ac eq] at z
    by_cases ep:b=p
    ·subst ep; exact frp
    ·rw [ac ep] at z; cases z
theorem ev_tnn {Γ:List Slot} {te:TE} {o:Option (Int × List Int × List Int)} (h:EVG Γ te o rTnn):EV Γ te o rTLL:=ev_leR (fun zq=>oq45 zq fun p a b c h1 h2 h3 h4 h5=>oi45 p a b c h1 h2 h3 (le_ln le_rfl h4) (le_ln le_rfl h5)) h.ev
end L2
namespace Pf
open PySem L2
noncomputable def mixed (p_number:Int) (p_k:Int):Option (Int) :=
 ((((Pu.mul p_k p_k).bind fun x1=>some (x1 * 2503)).bind fun x2=>some (((p_number % 100000000000000000000) * 40503)+x2)).bind fun x3=>some (x3+11)).bind fun x4=>some (x4 % 2147483587)
noncomputable def bZ (p_size:(Int × Int)) (p_reach:Int) (p_cell:Int):Option (List (Int)) :=
 (Pu.fdiv p_cell p_size.2).bind fun row2=>(Pu.fmod p_cell p_size.2).bind fun column4=>(some (if (decide (p_reach=8))=true then 2 else 1)).bind fun most_steps6=>(Pu.rng2 (Pu.mx 0 (row2 - 1)) (Pu.mn p_size.1 (row2+2))).bind fun x17=>(Pu.forS (fun (s9:(List (Int))) (x8:Int)=>(Pu.rng2 (Pu.mx 0 (column4 - 1)) (Pu.mn p_size.2 (column4+2))).bind fun x16=>(Pu.forS (fun (s11:(List (Int))) (x10:Int)=>if (decide (0<(Pu.ab (x8 - row2))+(Pu.ab (x10 - column4))) && decide ((Pu.ab (x8 - row2))+(Pu.ab (x10 - column4))≤most_steps6))=true then ((Pu.mul x8 p_size.2).bind fun x12=>some (x12+x10)).bind fun x15=>(Pu.app s11 x15).bind fun found14=>some (found14) else some (s11)) x16 s9).bind fun (s11:(List (Int)))=>some (s11)) x17 ([])).bind fun (s9:(List (Int)))=>some (s9)
noncomputable def bU (p_script:List Int) (p_k:Int):Option (Int) :=
 if (decide (p_k<Pu.ln p_script))=true then Pu.at_ p_script p_k else some (0)
noncomputable def cp (p_number:Int) (p_k:Int) (p_way:Int):Option (Int) :=
 (Pf.mixed p_number p_k).bind fun part2=>if (decide (p_way=0))=true then some (part2 % 4) else if (decide (p_way=1))=true then some (part2 % 12) else if (decide (p_way=2))=true then some (p_number % (1000000000000000000+1)) else Pu.at_ ([part2 % 3,1000000000000000000 - (part2 % 3)]) ((part2 / 3) % 2)
noncomputable def folded (p_heights_here:List (Int)) (p_columns:Int):Option (List (List (Int))) :=
 (Pu.rng3 0 (((Pu.ln p_heights_here) - p_columns)+1) p_columns).bind fun x2=>Pu.comp (fun (y1:Int)=>some (Pu.cut p_heights_here (some y1) (some (y1+p_columns)))) x2
noncomputable def floor (p_script:List Int) (p_first:Int):Option (List (List (Int))) :=
 ((Pf.bU p_script p_first).bind fun x1=>some (x1 % 5)).bind fun way3=>(Pu.comp (fun (y4:(Int × Int))=>Pf.cp y4.2 y4.1 (way3 % 4)) (Pu.enum (Pu.cut p_script (some (p_first+1)) (some (p_first+61))))).bind fun heights_here6=>(if (decide (heights_here6=[]))=true then ((((Pf.bU p_script p_first).bind fun x8=>some (x8 / 5)).bind fun x9=>some (x9 % (1000000000000000000+1))).bind fun x10=>some ([x10])).bind fun heights_here12=>some (heights_here12) else some (heights_here6)).bind fun s7=>((((Pf.bU p_script p_first).bind fun x13=>some (x13 / 5)).bind fun x14=>Pu.fmod x14 (Pu.mn 12 (Pu.ln s7))).bind fun x15=>some (1+x15)).bind fun columns17=>(if (decide (way3=4))=true then (some (Pu.mx 1 (Pu.mn columns17 ((Pu.ln s7) / 3)))).bind fun columns20=>some (columns20) else some (columns17)).bind fun s18=>Pf.folded s7 (Pu.mx s18 (0 - ((0 - (Pu.ln s7)) / 12)))
noncomputable def reach (p_script:List Int) (p_first:Int):Option (Int) :=
 (((Pf.bU p_script p_first).bind fun x1=>Pf.mixed x1 7).bind fun x2=>some (x2 % 2)).bind fun x3=>Pu.at_ ([4,8]) x3
noncomputable def fP (p_floor_here:List (List (Int))):Option (List (Int)) :=
 (Pu.forS (fun (s3:(List (Int))) (x2:List (Int))=>(Pu.cat s3 x2).bind fun heights_here5=>some (heights_here5)) p_floor_here ([])).bind fun (s3:(List (Int)))=>some (s3)
noncomputable def cw (p_heights_here:List (Int)):Option (List (Int)) :=
 ((Pu.comp (fun (y1:(Int × Int))=>some ((y1.2,y1.1))) (Pu.enum p_heights_here)).bind fun x2=>Pu.sortP x2).bind fun x4=>Pu.comp (fun (y3:(Int × Int))=>some (y3.2)) x4
noncomputable def places (p_heights_here:List (Int)):Option (List (Int)) :=
 (Pu.comp (fun (y1:Int)=>some (0)) p_heights_here).bind fun places_here3=>((Pf.cw p_heights_here).bind fun x4=>some (Pu.enum x4)).bind fun x10=>(Pu.forS (fun (s6:(List (Int))) (x5:(Int × Int))=>(ixN (s6).length x5.2).bind fun j8=>(fun places_here9=>some (places_here9)) ((s6).set j8 (x5.1))) x10 places_here3).bind fun (s6:(List (Int)))=>some (s6)
noncomputable def next (p_size:(Int × Int)) (p_reach_here:Int) (p_cell:Int):Option (List (Int)) :=
 (some (p_size)).bind fun t2=>(Pu.forS (fun (s5:(List (Int))) (x4:Int)=>(Pu.forS (fun (s7:(List (Int))) (x6:Int)=>((Pu.fdiv p_cell t2.2).bind fun x8=>some (x8+x4)).bind fun row10=>((Pu.fmod p_cell t2.2).bind fun x11=>some (x11+x6)).bind fun column13=>(some ((decide (0≤row10) && decide (row10<t2.1)) && (decide (0≤column13) && decide (column13<t2.2)))).bind fun inside15=>if (inside15 && ((decide (((Pu.ab x4)+(Pu.ab x6))=1)) || ((decide (p_reach_here=8)) && (decide (((Pu.ab x4)+(Pu.ab x6))=2)))))=true then ((Pu.mul row10 t2.2).bind fun x17=>some (x17+column13)).bind fun x20=>(Pu.app s7 x20).bind fun found19=>some (found19) else some (s7)) ([-1,0,1]) s5).bind fun (s7:(List (Int)))=>some (s7)) ([-1,0,1]) ([])).bind fun (s5:(List (Int)))=>some (s5)
noncomputable def dZ (p_floor_here:List (List (Int))) (p_reach_here:Int):Option (List (List (Int))) :=
 (((Pu.at_ p_floor_here 0).bind fun x1=>some (Pu.ln x1)).bind fun x2=>some ((Pu.ln p_floor_here,x2))).bind fun size4=>((Pu.mul size4.1 size4.2).bind fun x5=>Pu.rng1 x5).bind fun x7=>Pu.comp (fun (y6:Int)=>Pf.next size4 p_reach_here y6) x7
noncomputable def size_of (p_floor:List (List (Int))):Option ((Int × Int)) :=
 (if (!p_floor.isEmpty)=true then (Pu.at_ p_floor 0).bind fun x1=>some (Pu.ln x1) else some (0)).bind fun columns3=>some ((Pu.ln p_floor,columns3))
noncomputable def db (p_floor:List (List (Int))) (p_cell:Int):Option (Int) :=
 ((Pf.size_of p_floor).bind fun x1=>some (x1.2)).bind fun columns3=>((Pu.fdiv p_cell columns3).bind fun x4=>Pu.at_ p_floor x4).bind fun x5=>(Pu.fmod p_cell columns3).bind fun x6=>Pu.at_ x5 x6
noncomputable def bj (p_floor:List (List (Int))) (p_cell:Int):Option ((Int × Int)) :=
 (Pf.db p_floor p_cell).bind fun x1=>some ((x1,p_cell))
noncomputable def aV (p_floor:List (List (Int))) (p_one:Int) (p_other:Int):Option (Bool) :=
 (Pf.bj p_floor p_one).bind fun x1=>(Pf.bj p_floor p_other).bind fun x2=>some (Pu.lt2 x1 x2)
noncomputable def cJ (p_floor:List (List (Int))) (p_reach:Int) (p_cell:Int) (p_last:Int):Option (List (Int × Option (Int))) :=
 (Pf.size_of p_floor).bind fun size2=>(Pu.whS (fun (s5:(List (Int × Option (Int))) × (List (Int)))=>some (!s5.2.isEmpty)) (fun (s5:(List (Int × Option (Int))) × (List (Int)))=>Pu.pop0 s5.2 fun here7 waiting8=>(Pf.bZ size2 p_reach here7).bind fun x18=>(Pu.forS (fun (s10:(List (Int × Option (Int))) × (List (Int))) (x9:Int)=>(if (!(Pu.find s10.1 x9).isSome)=true then (Pf.aV p_floor p_last x9).bind fun x11=>some (!x11) else some false).bind fun x17=>if x17=true then if (s10.1).length<16777216 then (fun back14=>(Pu.app s10.2 x9).bind fun waiting16=>some ((back14,waiting16))) (Pu.put s10.1 x9 (some (here7))) else none else some ((s10.1,s10.2))) x18 (s5.1,waiting8)).bind fun (s10:(List (Int × Option (Int))) × (List (Int)))=>some ((s10.1,s10.2))) 100000 ([(p_cell,none)],[p_cell])).bind fun (s5:(List (Int × Option (Int))) × (List (Int)))=>some (s5.1)
noncomputable def bQ (p_floor:List (List (Int))) (p_reach:Int) (p_cell:Int) (p_last:Int):Option (List (Int)) :=
 (Pf.aV p_floor p_last p_cell).bind fun x2=>if x2=true then some ([]) else (Pf.cJ p_floor p_reach p_cell p_last).bind fun x1=>Pu.sortI (x1.map (·.1))
noncomputable def joined (p_found:List (Int)) (p_beside:List (List (Int))) (p_cell:Int):Option (Bool) :=
 (Pu.whS (fun (s3:(List (Int × Bool)) × (List (Int)))=>some (!decide (s3.2=[]))) (fun (s3:(List (Int × Bool)) × (List (Int)))=>(s3.2).getLast?.bind fun k13=>(Pu.at_ p_beside k13).bind fun xs12=>(Pu.forS (fun (s5:(List (Int × Bool)) × (List (Int))) (x4:Int)=>if ((decide (x4∈p_found)) && (!(Pu.find s5.1 x4).isSome))=true then if (s5.1).length<16777216 then (fun there8=>(Pu.app s5.2 x4).bind fun left10=>some ((there8,left10))) (Pu.put s5.1 x4 (true)) else none else some ((s5.1,s5.2))) xs12 (s3.1,(s3.2).dropLast)).bind fun (s5:(List (Int × Bool)) × (List (Int)))=>some ((s5.1,s5.2))) 100000 ([(p_cell,true)],[p_cell])).bind fun (s3:(List (Int × Bool)) × (List (Int)))=>some (decide ((Pu.ln s3.1)=(Pu.ln p_found)))
noncomputable def cx (p_floor:List (List (Int))):Option (List (Int)) :=
 (Pf.size_of p_floor).bind fun size2=>(Pu.mul size2.1 size2.2).bind fun x3=>Pu.lrng x3
noncomputable def c0 (p_floor:List (List (Int))):Option (List (Int)) :=
 (Pf.cx p_floor).bind fun x2=>Pu.sortK (fun (c1:Int)=>Pf.bj p_floor c1) x2
noncomputable def fQ (p_floor:List (List Int)):Option (List (Option Int)) :=
 (Pf.cx p_floor).bind fun x1=>Pu.comp (fun (_y2:Int)=>some (none:Option Int)) x1
noncomputable def aR (p_self:Wa) (p_cell:Int):Option (List (Int)) :=
 ((Pf.size_of p_self.1).bind fun x1=>Pf.bZ x1 p_self.2.1 p_cell).bind fun around3=>Pu.f7 (fun (y4:Int)=>(Pu.at_ p_self.2.2.1 y4).bind fun x5=>some (x5.isSome)) (fun (y4:Int)=>(Pu.at_ p_self.2.2.1 y4).bind fun x6=>x6) around3
noncomputable def bB (p_self:List (List Int) × End_) (p_start:Int):Option (Int) :=
 (Pu.whS (fun (s2:Int)=>some ((Pu.find p_self.2 s2).isSome)) (fun (s2:Int)=>(((Pu.find p_self.2 s2).bind fun x3=>some (x3.2)).bind fun x5=>x5).bind fun here6=>some (here6)) 100000 p_start).bind fun (s2:Int)=>some (s2)
noncomputable def c6 (p_floor:List (List (Int))) (p_cells:List (Int)):Option (Int) :=
 Pu.minK (fun (c1:Int)=>Pf.bj p_floor c1) p_cells
noncomputable def bH (p_self:List (List Int) × End_) (p_starts:List Int) (p_meet:Int):Option (Int × End_) :=
 (Pu.comp (fun (y1:Int)=>Pf.bB p_self y1) p_starts).bind fun met2=>(Pf.c6 p_self.1 met2).bind fun elder3=>(Pu.forS (fun (s5:End_) (x4:Int)=>if (!decide (x4=elder3))=true then if s5.length<16777216 then some (Pu.put s5 x4 (some p_meet,some elder3)) else none else some s5) met2 p_self.2).bind fun s5=>some (elder3,s5)
noncomputable def c7 (p_self:Wa) (p_cell:Int):Option (List (Option Int) × End_) :=
 (Pf.aR p_self p_cell).bind fun homes1=>(if (!homes1.isEmpty)=true then Pf.bH (p_self.1,p_self.2.2.2) homes1 p_cell else some (p_cell,p_self.2.2.2)).bind fun x=>(ixN p_self.2.2.1.length p_cell).bind fun j=>some (p_self.2.2.1.set j (some x.1),x.2)
noncomputable def ee (p_heights_here:List (Int)):Option (List (Int)) :=
 (Pu.comp (fun (y1:Int)=>some (0:Int)) p_heights_here).bind fun places_here3=>((Pf.cw p_heights_here).bind fun x4=>some (Pu.enum x4)).bind fun x10=>(Pu.forS (fun (s6:(List (Int))) (x5:(Int × Int))=>(ixN (s6).length x5.2).bind fun j8=>(fun places_here9=>some (places_here9)) ((s6).set j8 (x5.1))) x10 places_here3).bind fun (s6:(List (Int)))=>some (s6)
noncomputable def ay (p_self:List (List Int) × End_) (p_start:Option (Int)):Option (Option (Int)) :=
 (Pu.whS (fun (s2:(Option (Int)))=>some ((Pu.mY p_self.2 s2).isSome)) (fun (s2:(Option (Int)))=>(((s2).bind fun x3=>Pu.find p_self.2 x3).bind fun x4=>some (x4.2)).bind fun here6=>some (here6)) 100000 p_start).bind fun (s2:(Option (Int)))=>some (s2)
noncomputable def aW (p_self:List (List Int) × End_) (p_starts:List Int) (p_meet:Int):Option (Int × End_) :=
 (Pu.comp (fun (y1:Int)=>(Pf.ay p_self (some y1)).bind fun x=>x) p_starts).bind fun met2=>(Pf.c6 p_self.1 met2).bind fun elder3=>(Pu.forS (fun (s5:End_) (x4:Int)=>if (!decide (x4=elder3))=true then if s5.length<16777216 then some (Pu.put s5 x4 (some p_meet,some elder3)) else none else some s5) met2 p_self.2).bind fun s5=>some (elder3,s5)
noncomputable def br (p_self:Wa) (p_cell:Int):Option (List (Option Int) × End_) :=
 (Pf.aR p_self p_cell).bind fun homes1=>(if (!homes1.isEmpty)=true then Pf.aW (p_self.1,p_self.2.2.2) homes1 p_cell else some (p_cell,p_self.2.2.2)).bind fun x=>(ixN p_self.2.2.1.length p_cell).bind fun j=>some (p_self.2.2.1.set j (some x.1),x.2)
noncomputable def aJ (p_self:Wa) (p_cell:Int):Option (Option (Int)) :=
 (Pu.at_ p_self.2.2.1 p_cell).bind fun x1=>Pf.ay (p_self.1,p_self.2.2.2) x1
noncomputable def cb (p_floor:List (List Int)) (p_reach:Int) (p_one:Int) (p_other:Int):Option (Option Int) :=
 (Pf.fQ p_floor).bind fun homes1=>(Pf.c0 p_floor).bind fun xs=>Pu.andThen (Pu.forC (fun (s3:List (Option Int) × End_) (x2:Int)=>(Pf.br (p_floor,p_reach,s3.1,s3.2) x2).bind fun c=>(Pf.aJ (p_floor,p_reach,c.1,c.2) p_one).bind fun st=>(if st.isSome=true then (Pf.aJ (p_floor,p_reach,c.1,c.2) p_other).bind fun o=>some (decide (st=o)) else some false).bind fun b=>if b=true then some (.rt (some x2)) else some (.nx (c.1,c.2))) xs (homes1,[])) (fun _=>some none) (fun x=>x)
noncomputable def dc (p_floor:List (List (Int))) (p_reach:Int) (p_one:Int) (p_other:Int) (p_last:Int):Option (List (Int)) :=
 (Pf.cJ p_floor p_reach p_other p_last).bind fun back2=>(Pu.whS (fun (s4:(List (Int)))=>(Pu.at_ s4 (-1)).bind fun x5=>some (!decide (x5=p_other))) (fun (s4:(List (Int)))=>(((Pu.at_ s4 (-1)).bind fun x6=>Pu.find back2 x6).bind fun x7=>x7).bind fun x10=>(Pu.app s4 x10).bind fun way9=>some (way9)) 100000 ([p_one])).bind fun (s4:(List (Int)))=>some (s4)
noncomputable def bt (p_floor:List (List (Int))) (p_reach:Int) (p_cell:Int) (p_later:Int):Option (List (Int)) :=
 ((Pf.aV p_floor p_cell p_later).bind fun x1=>some (!x1)).bind fun x7=>if x7=true then some ([]) else (Pf.c0 p_floor).bind fun order3=>(((Pu.index order3 p_later).bind fun x4=>some (x4 - 1)).bind fun x5=>Pu.at_ order3 x5).bind fun x6=>Pf.bQ p_floor p_reach p_cell x6
noncomputable def aP (p_floor:List (List (Int))) (p_reach:Int) (p_one:Int) (p_other:Int):Option ((Int × (List (Int)) × (List (Int)))) :=
 ((Pf.cb p_floor p_reach p_one p_other).bind fun x2=>x2).bind fun latest3=>(Pf.dc p_floor p_reach p_one p_other latest3).bind fun way5=>(Pf.bt p_floor p_reach p_one latest3).bind fun x6=>some ((latest3,way5,x6))
noncomputable def bK (p_found:List (Int)) (p_most:Int):Option (Bool) :=
 if (!true)=true then some (false) else Pu.andThen (Pu.forC (fun (s2:Unit) (x1:Int)=>if ((!true) || (false || ((decide (x1<0)) || (decide (p_most≤x1)))))=true then some (.rt (false)) else some (.nx ())) p_found ()) (fun (s2:Unit)=>some (true)) (fun x=>x)
noncomputable def ib (p_way_here:List (Int)) (p_beside:List (List (Int))) (p_one:Int) (p_other:Int):Option (Bool) :=
 (((Pf.bK p_way_here (Pu.ln p_beside)).bind fun x1=>some (!x1)).bind fun x5=>if x5=true then some true else if (decide ((Pu.ln p_way_here)=0))=true then some true else ((Pu.at_ p_way_here 0).bind fun x2=>some (!decide (x2=p_one))).bind fun x4=>if x4=true then some true else (Pu.at_ p_way_here (-1)).bind fun x3=>some (!decide (x3=p_other))).bind fun x15=>if x15=true then some (false) else (Pu.rng2 1 (Pu.ln p_way_here)).bind fun x14=>Pu.andThen (Pu.forC (fun (s7:Unit) (x6:Int)=>(((Pu.at_ p_way_here x6).bind fun x9=>((Pu.at_ p_way_here (x6 - 1)).bind fun x8=>Pu.at_ p_beside x8).bind fun x10=>some (!decide (x9∈x10))).bind fun x12=>if x12=true then some true else (Pu.at_ p_way_here x6).bind fun x11=>some (decide (x11∈Pu.cut p_way_here none (some x6)))).bind fun x13=>if x13=true then some (.rt (false)) else some (.nx ())) x14 ()) (fun (s7:Unit)=>some (true)) (fun x=>x)
noncomputable def de (p_inside_here:List (Int)) (p_beside:List (List (Int))) (p_places_here:List (Int)) (p_one:Int) (p_other:Int) (p_top:Int):Option (Bool) :=
 (((Pf.bK p_inside_here (Pu.ln p_beside)).bind fun x1=>some (!x1)).bind fun x6=>if x6=true then some true else ((Pu.sortI p_inside_here).bind fun x2=>some (!decide (p_inside_here=x2))).bind fun x5=>if x5=true then some true else ((Pu.mset p_inside_here).bind fun x3=>some (Pu.ln x3)).bind fun x4=>some (!decide (x4=(Pu.ln p_inside_here)))).bind fun x20=>if x20=true then some (false) else if (decide (p_one=p_top))=true then some (decide (p_inside_here=[])) else (if (!decide (p_one∈p_inside_here))=true then some true else if (decide (p_other∈p_inside_here))=true then some true else (Pf.joined p_inside_here p_beside p_one).bind fun x7=>some (!x7)).bind fun x19=>if x19=true then some (false) else Pu.andThen (Pu.forC (fun (s9:Unit) (x8:Int)=>((Pu.at_ p_places_here x8).bind fun x10=>(Pu.at_ p_places_here p_top).bind fun x11=>some (decide (x11≤x10))).bind fun x18=>if x18=true then some (.rt (false)) else (Pu.at_ p_beside x8).bind fun x17=>Pu.andThen (Pu.forC (fun (s13:Unit) (x12:Int)=>(if (!decide (x12∈p_inside_here))=true then (Pu.at_ p_places_here x12).bind fun x14=>(Pu.at_ p_places_here p_top).bind fun x15=>some (decide (x14<x15)) else some false).bind fun x16=>if x16=true then some (.rt (false)) else some (.nx ())) x17 ()) (fun (s13:Unit)=>some (.nx ())) Pu.Ctl.rt) p_inside_here ()) (fun (s9:Unit)=>some (true)) (fun x=>x)
noncomputable def cV (p_found:(Int × (List (Int)) × (List (Int)))) (p_beside:List (List (Int))) (p_places_here:List (Int)) (p_one:Int) (p_other:Int):Option (Bool) :=
 (if (!true)=true then some true else if (!decide ((3:Int)=3))=true then some true else (Pf.bK ([p_found.1]) (Pu.ln p_beside)).bind fun x1=>some (!x1)).bind fun x12=>if x12=true then some (false) else (some (p_found)).bind fun t3=>(((Pf.ib t3.2.1 p_beside p_one p_other).bind fun x4=>some (!x4)).bind fun x5=>if x5=true then some true else some (!decide (t3.1∈t3.2.1))).bind fun x11=>if x11=true then some (false) else (((Pu.comp (fun (y6:Int)=>Pu.at_ p_places_here y6) t3.2.1).bind fun x7=>Pu.maxL x7).bind fun x8=>(Pu.at_ p_places_here t3.1).bind fun x9=>some (!decide (x8=x9))).bind fun x10=>if x10=true then some (false) else Pf.de t3.2.2 p_beside p_places_here p_one p_other t3.1
noncomputable def iW (p_script:List Int):Option (Bool) :=
 (Pf.floor p_script 5).bind fun floor_here2=>(Pf.reach p_script 0).bind fun reach_here4=>(Pf.fP floor_here2).bind fun heights_here6=>(Pf.ee heights_here6).bind fun places_here8=>(Pf.dZ floor_here2 reach_here4).bind fun beside10=>(Pu.comp (fun (y11:List (Int))=>some (y11)) floor_here2).bind fun handed13=>((Pf.bU p_script 1).bind fun x14=>Pu.fmod x14 (Pu.ln heights_here6)).bind fun one16=>(Pu.rng2 2 5).bind fun x50=>Pu.andThen (Pu.forC (fun (s18:Int) (x17:Int)=>(((Pf.bU p_script x17).bind fun x19=>Pf.mixed x19 x17).bind fun x20=>Pu.fmod x20 (Pu.ln heights_here6)).bind fun other22=>(Pf.aP handed13 reach_here4 s18 other22).bind fun found23=>((Pf.cV (found23.1,found23.2.1,found23.2.2) beside10 places_here8 s18 other22).bind fun x29=>some (!x29)).bind fun x42=>if x42=true then some (.rt (false)) else (some (((found23.1,found23.2.1,found23.2.2).1,(found23.1,found23.2.1,found23.2.2).2.1,(found23.1,found23.2.1,found23.2.2).2.2))).bind fun kept31=>((((Pf.aP handed13 reach_here4 other22 s18).bind fun x32=>some (x32.1)).bind fun x33=>some (!decide (x33=kept31.1))).bind fun x34=>if x34=true then some true else some (!decide ((found23.1,found23.2.1,found23.2.2)=kept31))).bind fun x41=>if x41=true then some (.rt (false)) else (Pu.app found23.2.2 0).bind fun found37=>((Pf.aP handed13 reach_here4 s18 other22).bind fun x38=>some (!decide (x38=kept31))).bind fun x40=>if x40=true then some (.rt (false)) else some (.nx other22)) x50 one16) (fun (s18:Int)=>(Pf.aP handed13 reach_here4 s18 s18).bind fun found43=>(Pf.cV (found43.1,found43.2.1,found43.2.2) beside10 places_here8 s18 s18).bind fun x49=>if x49=true then some (decide (handed13=floor_here2)) else some false) (fun x=>x)
end Pf
namespace Pu
variable {S R T β α:Type}
theorem gM {f:S→β→Option S} (I:Nat→S→Prop):∀ {xs:List β} {s:S},I 0 s→(∀ i x s,xs[i]?=some x→I i s→∃ s',f s x=some s'∧I (i+1) s')→∃ s',forS f xs s=some s'∧I xs.length s'
 | [],s,h0,_=>(oi12 s rfl h0)
 | x :: xs,s,h0,h=>by
  refine oq12 (h 0 x s rfl h0) fun s1 e1 h1=>?_
  refine oq12 (gM (fun i=>I (i+1)) (xs:=xs) (s:=s1) h1 fun i y t hy ht=>h (i+1) y t (by simpa using hy) ht) fun s2 e2 h2=>?_
  exact (oi12 s2 (by rw [kC,e1]; exact e2) h2)
theorem jz {f:S→β→Option (Ctl S R)} (I:Nat→S→Prop):∀ {xs:List β} {s:S},I 0 s→(∀ i x s,xs[i]?=some x→I i s→∃ s',f s x=some (.nx s')∧I (i+1) s')→∃ s',forC f xs s=some (.nx s')∧I xs.length s'
 | [],s,h0,_=>(oi12 s rfl h0)
 | x :: xs,s,h0,h=>by
  refine oq12 (h 0 x s rfl h0) fun s1 e1 h1=>?_
  refine oq12 (jz (fun i=>I (i+1)) (xs:=xs) (s:=s1) h1 fun i y t hy ht=>h (i+1) y t (by simpa using hy) ht) fun s2 e2 h2=>?_
  exact (oi12 s2 (by rw [hU,e1]; exact e2) h2)
theorem forC_unit {f:Unit→β→Option (Ctl Unit R)} {xs:List β} (h:∀ x∈xs,f () x=some (.nx ())):forC f xs ()=some (.nx ()):=by
 refine oq12 (jz (f:=f) (fun _ _=>True) (xs:=xs) (s:=()) trivial fun i x s hx _=>(oi12 () (h x (List.mem_of_getElem? hx)) trivial)) fun s' e _=>?_
 exact e
theorem jA {k:S→Option T} {e:R→T} {o:Option (Ctl S R)} {s:S} (h:o=some (.nx s)):andThen o k e=k s:=by subst h; rfl
theorem d8 {f:Unit→β→Option (Ctl Unit R)} {xs:List β} {k:Unit→Option T} {e:R→T} (h:∀ x∈xs,f () x=some (.nx ())):andThen (forC f xs ()) k e=k ():=jA (forC_unit h)
theorem fR {f:S→β→Option S} {k:S→Option T} {o:Option T} (I:Nat→S→Prop) {xs:List β} {s:S} (h0:I 0 s) (h:∀ i x s,xs[i]?=some x→I i s→∃ s',f s x=some s'∧I (i+1) s') (hk:∀ s',I xs.length s'→k s'=o):(forS f xs s).bind k=o:=by
 refine oq12 (gM I h0 h) fun s' e q=>?_
 rw [e]; exact hk s' q
theorem forC_then {f:S→β→Option (Ctl S R)} {k:S→Option T} {e:R→T} {o:Option T} (I:Nat→S→Prop) {xs:List β} {s:S} (h0:I 0 s) (h:∀ i x s,xs[i]?=some x→I i s→∃ s',f s x=some (.nx s')∧I (i+1) s') (hk:∀ s',I xs.length s'→k s'=o):andThen (forC f xs s) k e=o:=by
 refine oq12 (jz I h0 h) fun s' e1 q=>?_
 rw [jA e1]; exact hk s' q
theorem lN {t:S→Option Bool} {f:S→Option S} (I:S→Prop) (μ:S→Nat) (h:∀ s,I s→∃ b,t s=some b∧(b=true→∃ s',f s=some s'∧I s'∧μ s'<μ s)):∀ {n:Nat} {s:S},I s→μ s<n→∃ s',whS t f n s=some s'∧I s'∧t s'=some false
 | 0,_,_,hn=>absurd hn (Nat.not_lt_zero _)
 | n+1,s,hI,hn=>by
  refine oq12 (h s hI) fun b e1 e2=>?_
  cases b with
  | false=>exact (oi13 s (by rw [mL,e1]; rfl) hI e1)
  | true =>
   refine oq13 (e2 rfl) fun s1 e3 h1 h2=>?_
   obtain ⟨s2,e4,h3,h4⟩:=lN I μ h h1 (show μ s1<n by exact nz1 h2 (Nat.le_of_lt_succ hn))
   exact (oi13 s2 (by rw [mL,e1,nza,if_pos rfl,e3]; exact e4) h3 h4)
theorem n4 {t:S→Option Bool} {f:S→Option S} {k:S→Option T} {o:Option T} (I:S→Prop) (μ:S→Nat) {n:Nat} {s:S} (h0:I s) (hn:μ s<n) (h:∀ s,I s→∃ b,t s=some b∧(b=true→∃ s',f s=some s'∧I s'∧μ s'<μ s)) (hk:∀ s',I s'→t s'=some false→k s'=o):(whS t f n s).bind k=o:=by
 refine oq13 (lN I μ h h0 hn) fun s' e h1 h2=>?_
 rw [e]; exact hk s' h1 h2
theorem whS_ex {t:S→Option Bool} {f:S→Option S} {k:S→Option T} {P:T→Prop} (I:S→Prop) (μ:S→Nat) {n:Nat} {s:S} (h0:I s) (hn:μ s<n) (h:∀ s,I s→∃ b,t s=some b∧(b=true→∃ s',f s=some s'∧I s'∧μ s'<μ s)) (hk:∀ s',I s'→t s'=some false→∃ o,k s'=some o∧P o):∃ o,(whS t f n s).bind k=some o∧P o:=by
 refine oq13 (lN I μ h h0 hn) fun s' e h1 h2=>?_
 rw [e]; exact hk s' h1 h2
theorem forS_ex {f:S→β→Option S} {k:S→Option T} {P:T→Prop} (I:Nat→S→Prop) {xs:List β} {s:S} (h0:I 0 s) (h:∀ i x s,xs[i]?=some x→I i s→∃ s',f s x=some s'∧I (i+1) s') (hk:∀ s',I xs.length s'→∃ o,k s'=some o∧P o):∃ o,(forS f xs s).bind k=some o∧P o:=by
 refine oq12 (gM I h0 h) fun s' e q=>?_
 rw [e]; exact hk s' q
theorem nats_len (n:Nat):(nats n).length=n:=by unfold nats; simp
theorem nats_mem {n:Nat} {x:Int}:x∈nats n↔∃ i:Nat,i<n∧x=(i:Int):=by
 unfold nats
 simp only [List.mem_map,List.mem_range]
 constructor
 ·intro zq; refine oq12 zq fun i h eq2_=>?_; subst eq2_; exact (oi12 i h rfl)
 ·intro zq; refine oq12 zq fun i h eq2_=>?_; subst eq2_; exact (oi12 i h rfl)
theorem rng1_nat {n:Nat} (h:n≤1000000):rng1 (n:Int)=some (nats n):=by
 unfold rng1
 rw [if_pos ⟨by omega,by omega⟩,Int.toNat_natCast]
theorem rng2_ok {i j:Int} (h1:-1000000≤i) (h2:i≤1000000) (h3:-1000000≤j) (h4:j≤1000000):rng2 i j=some ((List.range (j - i).toNat).map fun (k:Nat)=>i+(k:Int)):=by
 unfold rng2
 rw [if_pos (oi04 (by omega) (by omega) (by omega) (by omega))]
theorem mod_nat (a:Int) {k:Int} (h:0<k):∃ r:Nat,a % k=(r:Int)∧(r:Int)<k:=by
 refine oq11 (Int.eq_ofNat_of_zero_le (Int.emod_nonneg a (Int.ne_of_gt h))) fun r hr=>?_
 exact (oi12 r hr (hr ▸ Int.emod_lt_of_pos a h))
theorem ic {xs:List α} {a:α} (h:xs.length≤1000000):app xs a=some (xs++[a]):=by
 unfold app
 rw [if_pos (by exact nz2 h (by decide))]
theorem cat_ok {xs ys:List α} (h:xs.length+ys.length≤1000000):cat xs ys=some (xs++ys):=by
 unfold cat
 rw [if_pos (by exact nz5 (nz2 h (by decide)))]
theorem oG {i j:Int} (h:-(2 ^ 64)<i∧i<2 ^ 64):mul i j=some (i * j):=by
 unfold mul
 rw [if_pos (.inl h)]
theorem mul_okR {i j:Int} (h:-(2 ^ 64)<j∧j<2 ^ 64):mul i j=some (i * j):=by
 unfold mul
 rw [if_pos (.inr h)]
theorem lO {i j:Int} (h:0<j∧j<2 ^ 64):fdiv i j=some (i / j):=by
 unfold fdiv
 rw [if_pos h]
theorem fS {i j:Int} (h:0<j):fmod i j=some (i % j):=by
 unfold fmod
 rw [if_pos h]
theorem cO {f:β→Option α} {g:β→α} {xs:List β} (hl:xs.length≤1000000) (h:∀ x∈xs,f x=some (g x)):comp f xs=some (xs.map g):=by
 unfold comp
 rw [if_pos (by exact nz5 (nz2 hl (by decide)))]
 clear hl
 induction xs with
 | nil=>rfl
 | cons x xs ih =>
  rw [nZ,h x (List.mem_cons.mpr (.inl rfl)),nza,ih fun y hy=>h y (List.mem_cons.mpr (.inr hy))]
  rfl
theorem compIf_ok {t:β→Option Bool} {f:β→Option α} {p:β→Bool} {g:β→α} {xs:List β} (hl:xs.length≤1000000) (ht:∀ x∈xs,t x=some (p x)) (h:∀ x∈xs,p x=true→f x=some (g x)):f7 t f xs=some ((xs.filter p).map g):=by
 unfold f7
 rw [if_pos (by exact nz5 (nz2 hl (by decide)))]
 clear hl
 induction xs with
 | nil=>rfl
 | cons x xs ih =>
  rw [bN,ht x (List.mem_cons.mpr (.inl rfl)),nza,ih (fun y hy=>ht y (List.mem_cons.mpr (.inr hy))) fun y hy=>h y (List.mem_cons.mpr (.inr hy))]
  cases q:p x with
  | false=>rw [if_neg Bool.false_ne_true,List.filter_cons_of_neg (by simp [q])]
  | true =>
   rw [if_pos rfl,h x (List.mem_cons.mpr (.inl rfl)) q,List.filter_cons_of_pos q]
   rfl
theorem cf {xs:List α} {i:Nat}:at_ xs (i:Int)=xs[i]?:=by
 unfold at_ L2.atI L2.ixN
 rw [if_pos (by exact Int.ofNat_le.mpr (Nat.zero_le _))]
 by_cases h:i<xs.length
 ·rw [if_pos (by exact Int.ofNat_lt.mpr h)]; simp
 ·rw [if_neg (by exact Int.not_lt.mpr (Int.ofNat_le.mpr (Nat.not_lt.mp h)))]; simp; exact Nat.not_lt.mp h
theorem n5 {xs:List α} {i:Nat} {x:Int × α} (h:(enum xs)[i]?=some x):∃ a,xs[i]?=some a∧x=((i:Int),a):=by
 unfold enum at h
 rw [List.getElem?_map,List.getElem?_zipIdx] at h
 cases q:xs[i]? with
 | none=>rw [q] at h; cases h
 | some a=>rw [q] at h; simp at h; exact (oi12 a rfl h.symm)
theorem enum_mem {xs:List α} {x:Int × α} (h:x∈enum xs):∃ (i:Nat) (a:α),xs[i]?=some a∧x=((i:Int),a):=by
 refine oq11 (List.mem_iff_getElem?.mp h) fun i hi=>?_
 refine oq12 (n5 hi) fun a h1 h2=>?_
 exact (oi22 i a h1 h2)
theorem jB (xs:List α):(enum xs).length=xs.length:=by unfold enum; simp
theorem cut_to {xs:List α} {j:Nat}:cut xs none (some (j:Int))=xs.take j:=by
 unfold cut
 rw [HT.sIx_none,HT.l0,List.drop_zero,Nat.sub_zero]
 by_cases h:j≤xs.length
 ·rw [Nat.min_eq_left h]
 ·rw [Nat.min_eq_right (by exact nz5 (Nat.not_le.mp h)),List.take_of_length_le (nz6 _),List.take_of_length_le (by exact nz5 (Nat.not_le.mp h))]
theorem cut_nat {xs:List α} {i j:Nat}:cut xs (some (i:Int)) (some (j:Int))=(xs.drop i).take (j - i):=by
 unfold cut
 rw [HT.l0,HT.l0]
 by_cases h:i≤xs.length
 ·rw [Nat.min_eq_left h]
  by_cases h2:j≤xs.length
  ·rw [Nat.min_eq_left h2]
  ·rw [Nat.min_eq_right (by exact nz5 (Nat.not_le.mp h2)),List.take_of_length_le (by simp),List.take_of_length_le (by simp; omega)]
 ·rw [Nat.min_eq_right (a:=i) (by exact nz5 (Nat.not_le.mp h)),List.drop_of_length_le (nz6 _),List.drop_of_length_le (by exact nz5 (Nat.not_le.mp h))]
  simp
end Pu
namespace Fl
noncomputable abbrev cl (l:List Nat):List Int:=l.map fun (o:Nat)=>(o:Int)
theorem bq (l:List Nat):(cl l).length=l.length:=by simp
theorem eK {l:List Nat} {x:Int}:x∈cl l↔∃ o,o∈l∧x=(o:Int):=by
 simp only [List.mem_map]
 constructor
 ·intro zq; refine oq12 zq fun o h eq2_=>?_; subst eq2_; exact (oi12 o h rfl)
 ·intro zq; refine oq12 zq fun o h eq2_=>?_; subst eq2_; exact (oi12 o h rfl)
theorem aN {l:List Nat} {x:Nat}:(x:Int)∈cl l↔x∈l:=by
 rw [eK]
 constructor
 ·intro zq; refine oq12 zq fun o h e=>?_
  have:x=o:=by omega
  rw [this]; exact h
 ·exact fun h=>(oi12 x h rfl)
theorem oH (a b:Int):Pu.ab (a - b)=dif a b:=rfl
end Fl
namespace Pf
open Fl Pu
theorem jC {n k:Int} (h1:-(2 ^ 31)<k) (h2:k<2 ^ 31):Pf.mixed n k=some (Fl.mixed n k):=by
 unfold Pf.mixed
 rw [oG ⟨by omega,by omega⟩]
 rfl
theorem jD {i j:Nat} (hi:i≤1000) (hj:j≤1000):rng2 (i:Int) (j:Int)=some ((List.range (j - i)).map fun (k:Nat)=>((i+k:Nat):Int)):=by
 rw [rng2_ok (by omega) (by exact Int.ofNat_le.mpr (nz5 (nz2 hi (by decide)))) (by omega) (by exact Int.ofNat_le.mpr (nz5 (nz2 hj (by decide)))),Int.toNat_sub]
 simp only [Int.natCast_add]
theorem mx_dn (R:Nat):Pu.mx 0 ((R:Int) - 1)=((R - 1:Nat):Int):=by unfold Pu.mx; split <;> omega
theorem mn_up (m R:Nat):Pu.mn (m:Int) ((R:Int)+2)=((min m (R+2):Nat):Int):=by unfold Pu.mn; split <;> omega
theorem n6 {a b:Nat} (h1:a≤b+1) (h2:b≤a+1):0≤dif a b∧dif a b≤1:=by unfold dif; split <;> omega
theorem near_iff {p q ms reach:Int} (b1:0≤p∧p≤1) (b2:0≤q∧q≤1) (e:ms=(if reach=8 then 2 else 1)):(p+q=1∨(reach=8∧p=1∧q=1))↔(0<p+q∧p+q≤ms):=by
 subst e; split <;> omega
theorem rng_get {α:Type} {f:Nat→α} {n j:Nat} {y:α} (h:((List.range n).map f)[j]?=some y):j<n∧y=f j:=by
 rw [List.getElem?_map] at h
 refine oq12 (Option.map_eq_some_iff.mp h) fun k hk eq2_=>?_; subst eq2_
 obtain ⟨h1,h2⟩:=List.getElem?_eq_some_iff.mp hk
 rw [List.length_range] at h1
 rw [List.getElem_range] at h2
 exact ⟨h1,by rw [h2]⟩
theorem n8 {R m:Nat} (h:R<m):R - 1+(min m (R+2) - (R - 1))=min m (R+2):=Nat.add_sub_cancel' (Nat.le_min.mpr ⟨nz4 (Nat.sub_le _ _) (nz5 h),nz4 (Nat.sub_le _ _) (Nat.le_add_right _ _)⟩)
theorem span_at {R m i:Nat} (h:i<min m (R+2) - (R - 1)):R - 1+i<m∧R - 1+i≤R+1∧R≤R - 1+i+1 :=
 have q:=Nat.lt_min.mp (Nat.add_lt_of_lt_sub' h)
 ⟨q.1,Nat.le_of_lt_succ q.2,Nat.le_add_of_sub_le (Nat.le_add_right _ _)⟩
theorem ng {R m v:Nat} (h:min m (R+2)≤v) (h2:v<m):R+1<v:=by omega
theorem g9 {m c x:Nat} {reach:Int} (hc0:0<c) (hcm:c≤1000) (hmm:m≤1000) (hx:x<m * c):Pf.bZ ((m:Int),(c:Int)) reach (x:Int)=some (cl (nbL m c reach x)):=by
 have hxr:x / c<m:=Nat.div_lt_of_lt_mul (by rw [Nat.mul_comm]; exact hx)
 have hxc:x % c<c:=Nat.mod_lt _ hc0
 have d1:((x:Nat):Int) / ((c:Nat):Int)=((x / c:Nat):Int):=(Int.natCast_ediv x c).symm
 have d2:((x:Nat):Int) % ((c:Nat):Int)=((x % c:Nat):Int):=(Int.natCast_emod x c).symm
 have c1:(0:Int)<(c:Int):=Int.ofNat_lt.mpr hc0
 have c2:((c:Nat):Int)<2 ^ 64:=Int.lt_of_le_of_lt (Int.ofNat_le.mpr hcm) (by decide)
 unfold Pf.bZ
 simp only
 rw [lO ⟨c1,c2⟩,nza,fS c1,nza,d1,d2,nza]
 generalize hR:x / c=R at hxr
 generalize hC:x % c=C at hxc
 generalize hms:(if (decide (reach=8))=true then (2:Int) else 1)=ms
 have ems:ms=(if reach=8 then 2 else 1):=by rw [← hms]; simp
 have lR:R - 1≤1000:=nz4 (Nat.sub_le _ _) (nz4 (nz5 hxr) hmm)
 have lC:C - 1≤1000:=nz4 (Nat.sub_le _ _) (nz4 (nz5 hxc) hcm)
 rw [mx_dn,mn_up,mx_dn,mn_up,jD lR (nz4 (Nat.min_le_left _ _) hmm),nza]
 have key:∀ (s:List Int) (r:Nat),r<m→r≤R+1→R≤r+1→s=cl ((List.range (r * c)).filter (adj c reach x)) →
   ∃ s',((rng2 ((C - 1:Nat):Int) ((min c (C+2):Nat):Int)).bind fun x16=>(Pu.forS (fun (s11:List Int) (x10:Int)=>if (decide (0<(Pu.ab ((r:Int) - (R:Int)))+(Pu.ab (x10 - (C:Int)))) && decide ((Pu.ab ((r:Int) - (R:Int)))+(Pu.ab (x10 - (C:Int)))≤ms))=true then ((Pu.mul (r:Int) (c:Int)).bind fun x12=>some (x12+x10)).bind fun x15=>(Pu.app s11 x15).bind fun found14=>some (found14) else some (s11)) x16 s).bind fun s11=>some s11)=some s'∧s'=cl ((List.range ((r+1) * c)).filter (adj c reach x)):=by
  intro s r hr1 hr2 hr3 es
  have hrc:r * c+c≤m * c:=by rw [← Nat.succ_mul]; exact Nat.mul_le_mul_right c hr1
  have hmc:m * c≤1000000:=Nat.mul_le_mul hmm hcm
  rw [jD lC (nz4 (Nat.min_le_left _ _) hcm),nza]
  refine (oi12 _ (fR (fun j s=>s=cl ((List.range (r * c+(C - 1+j))).filter (adj c reach x))) ?_ ?_ ?_) rfl)
  rotate_left 2
  ·rintro s' e2
   show some s'=some _
   congr 1
   rw [e2,Nat.add_mul,Nat.one_mul,List.length_map,List.length_range,n8 hxc,dR _ (r * c+min c (C+2)) (r * c+c) (Nat.add_le_add_left (Nat.min_le_left _ _) _) fun o h1 h2=>?_]
   refine oq11 (show ∃ k,o=r * c+k from ⟨o - r * c,(Nat.add_sub_cancel' (nz4 (Nat.le_add_right _ _) h1)).symm⟩) fun k eq1_=>?_; subst eq1_
   have hk:=Nat.lt_of_add_lt_add_left h2
   refine iz (.inr ?_)
   rw [(gB (i:=r) hk).2,hC]
   exact ng (Nat.le_of_add_le_add_left h1) hk
  ·rw [es,Nat.add_zero,dR _ (r * c) _ (Nat.le_add_right _ _) fun o h1 h2=>?_]
   refine oq11 (show ∃ k,o=r * c+k from ⟨o - r * c,(Nat.add_sub_cancel' h1).symm⟩) fun k eq1_=>?_; subst eq1_
   have hk:=Nat.lt_of_add_lt_add_left h2
   refine iz (.inl ?_)
   rw [(gB (i:=r) (nz8 (nz1 hk (Nat.sub_le _ _)) hxc)).2,hC]
   exact Nat.add_lt_of_lt_sub hk
  ·intro j y s hy es
   refine oq02 (rng_get hy) fun hj eq1_=>?_; subst eq1_
   refine oq03 (span_at hj) fun k1 k2 k3=>?_
   rw [show r * c+(C - 1+(j+1))=r * c+(C - 1+j)+1 from rfl,ky,adj_at k1]
   generalize C - 1+j=k at k1 k2 k3 es
   rw [oH,oH,hR,hC]
   have l2:s.length≤1000000:=by
    rw [es,bq]
    refine nz4 (List.length_filter_le _ _) ?_
    rw [List.length_range]
    exact nz4 (Nat.add_le_add_left (nz5 k1) _) (nz4 hrc hmc)
   have iff:=near_iff (n6 hr2 hr3) (n6 k2 k3) ems
   by_cases hcond:0<dif (r:Nat) (R:Nat)+dif (k:Nat) (C:Nat)∧dif (r:Nat) (R:Nat)+dif (k:Nat) (C:Nat)≤ms
   ·refine (oi12 (s++[((r * c+k:Nat):Int)]) ?_ ?_)
    ·rw [if_pos (by simpa using hcond),mul_okR ⟨Int.lt_trans (by decide) c1,c2⟩,nza,nza,ic l2,nza,Int.natCast_add,Int.natCast_mul]
    ·rw [decide_eq_true (iff.mpr hcond),if_pos rfl,es]; unfold cl; rw [List.map_append]; rfl
   ·refine (oi12 s ?_ ?_)
    ·rw [if_neg (by simpa using hcond)]
    ·rw [decide_eq_false fun h=>hcond (iff.mp h),if_neg Bool.false_ne_true,List.append_nil]; exact es
 refine fR (fun i s=>s=cl ((List.range ((R - 1+i) * c)).filter (adj c reach x))) ?_ ?_ ?_
 rotate_left 2
 ·rintro s' e2
  rw [e2]
  congr 2
  unfold nbL
  rw [List.length_map,List.length_range,n8 hxr,dR _ (min m (R+2) * c) (m * c) (Nat.mul_le_mul_right c (Nat.min_le_left _ _)) fun o h1 h2=>?_]
  refine iy hc0 (.inr ?_)
  rw [hR]
  exact ng ((Nat.le_div_iff_mul_le hc0).mpr h1) ((Nat.div_lt_iff_lt_mul hc0).mpr h2)
 ·rw [Nat.add_zero,dR _ 0 _ (Nat.zero_le _) fun o _ ho=>?_]
  ·rfl
  ·refine iy hc0 (.inl ?_)
   rw [hR]
   exact Nat.add_lt_of_lt_sub ((Nat.div_lt_iff_lt_mul hc0).mpr ho)
 ·intro i y s hy es
  refine oq02 (rng_get hy) fun hi eq1_=>?_; subst eq1_
  refine oq03 (span_at hi) fun k1 k2 k3=>?_
  exact key s (R - 1+i) k1 k2 k3 es
end Pf
namespace Pf
open Fl Pu
theorem eL (ns:List Int) (k:Nat):Pf.bU ns (k:Int)=some (cellAt ns k):=by
 unfold Pf.bU cellAt Pu.ln
 by_cases h:k<ns.length
 ·rw [if_pos (by simpa using h),cf]; simp [h]
 ·rw [if_neg (by simpa using h)]; simp [h]
theorem height_eq {n k way:Int} (h1:-(2 ^ 31)<k) (h2:k<2 ^ 31):Pf.cp n k way=some (Fl.cp n k way):=by
 have hm:=je n k
 unfold Pf.cp Fl.cp
 rw [Pf.jC h1 h2,nza]
 by_cases e0:way=0
 ·rw [if_pos (by simpa using e0),if_pos e0]
 rw [if_neg (by simpa using e0),if_neg e0]
 by_cases e1:way=1
 ·rw [if_pos (by simpa using e1),if_pos e1]
 rw [if_neg (by simpa using e1),if_neg e1]
 by_cases e2:way=2
 ·rw [if_pos (by simpa using e2),if_pos e2]
  rfl
 rw [if_neg (by simpa using e2),if_neg e2]
 generalize Fl.mixed n k=p at *
 have hz:p / 3 % 2=0∨p / 3 % 2=1:=by omega
 rcases hz with z | z
 ·rw [z,if_pos rfl]; rfl
 ·rw [z,if_neg (by omega)]; rfl
theorem folded_eq {hs:List Int} {c:Nat} (hc:0<c) (hcn:c≤hs.length) (hn:hs.length≤1000):Pf.folded hs (c:Int)=some (Fl.folded hs c):=by
 have e:jd 0 ((hs.length:Int) - c+1) c=hs.length / c:=jf hc hcn
 have hd:hs.length / c≤hs.length:=Nat.div_le_self _ _
 unfold Pf.folded Pu.rng3 Pu.ln Fl.folded
 rw [if_pos (oi06 (by omega) (by omega) (by omega) (by omega) (by exact Int.ofNat_lt.mpr hc) (by exact Int.ofNat_lt.mpr (nz2 hcn (nz2 hn (by decide))))),nza,cO (g:=fun y=>Pu.cut hs (some y) (some (y+(c:Int)))) (by rw [List.length_map,List.length_range,e]; exact nz5 (nz2 hd (nz2 hn (by decide)))) fun _ _=>rfl,List.map_map]
 congr 1
 refine List.map_congr_left fun i _=>?_
 show Pu.cut hs (some (0+(i:Int) * (c:Int))) (some (0+(i:Int) * (c:Int)+(c:Int)))=_
 have e1:(0:Int)+(i:Int) * (c:Int)=((i * c:Nat):Int):=by rw [Int.zero_add,Int.natCast_mul]
 have e2:(0:Int)+(i:Int) * (c:Int)+(c:Int)=((i * c+c:Nat):Int):=by rw [e1,Int.natCast_add]
 rw [e2,e1,cut_nat,Nat.add_sub_cancel_left]
theorem floor_eq (ns:List Int) (first:Nat) (hf:first≤100):Pf.floor ns (first:Int)=some (floorOf ns first):=by
 refine oq02 (iw ns first) fun l1 l2=>?_
 refine oq04 (iu (cellAt ns first) l1 l2) fun c1 c2 c3 c4=>?_
 unfold Pf.floor
 simp only [eL,bs]
 have e1:((first:Nat):Int)+1=((first+1:Nat):Int):=by omega
 have e2:((first:Nat):Int)+61=((first+61:Nat):Int):=by omega
 rw [e1,e2,cut_nat,show first+61 - (first+1)=60 by omega]
 have eh:Pu.comp (fun (y4:Int × Int)=>Pf.cp y4.2 y4.1 (cellAt ns first % 5 % 4)) (Pu.enum ((ns.drop (first+1)).take 60))=some (cB ns first):=by
  rw [cO (g:=fun y=>Fl.cp y.2 y.1 (cellAt ns first % 5 % 4))]
  ·unfold cB Pu.enum; rw [List.map_map]; rfl
  ·rw [jB,List.length_take]; omega
  ·intro y hy
   refine oq22 (enum_mem hy) fun i a hi eq3_=>?_; subst eq3_
   have hi':=(List.getElem?_eq_some_iff.mp hi).1
   rw [List.length_take] at hi'
   exact height_eq (by omega) (by omega)
 rw [eh,nza]
 have e3:(if (decide (cB ns first=[]))=true then some [cellAt ns first / 5 % (1000000000000000000+1)] else some (cB ns first))=some (bh ns first):=by
  unfold bh
  by_cases h:cB ns first=[]
  ·rw [if_pos (by simpa using h),if_pos h]; rfl
  ·rw [if_neg (by simpa using h),if_neg h]
 rw [e3,nza]
 have ef:floorOf ns first=Fl.folded (bh ns first) (dg (cellAt ns first) (bh ns first).length).toNat:=rfl
 rw [ef]
 clear ef e3 eh
 generalize bh ns first=hs at *
 have hm:=mn12 l1
 have hmn:Pu.mn 12 (Pu.ln hs)=Fl.mn 12 hs.length:=rfl
 rw [hmn,fS (by omega),nza,nza]
 have e5:(if (decide (cellAt ns first % 5=4))=true then some (Pu.mx 1 (Pu.mn (1+cellAt ns first / 5 % Fl.mn 12 hs.length) (Pu.ln hs / 3))) else some (1+cellAt ns first / 5 % Fl.mn 12 hs.length))=some (if cellAt ns first % 5=4 then Fl.mx 1 (Fl.mn (1+cellAt ns first / 5 % Fl.mn 12 hs.length) ((hs.length:Int) / 3)) else 1+cellAt ns first / 5 % Fl.mn 12 hs.length):=by
  by_cases h:cellAt ns first % 5=4
  ·rw [if_pos (by simpa using h),if_pos h]; rfl
  ·rw [if_neg (by simpa using h),if_neg h]
 rw [e5,nza]
 have e6:Pu.mx (if cellAt ns first % 5=4 then Fl.mx 1 (Fl.mn (1+cellAt ns first / 5 % Fl.mn 12 hs.length) ((hs.length:Int) / 3)) else 1+cellAt ns first / 5 % Fl.mn 12 hs.length) (0 - (0 - Pu.ln hs) / 12)=dg (cellAt ns first) hs.length:=rfl
 rw [e6]
 generalize dg (cellAt ns first) hs.length=cc at *
 obtain ⟨k,rfl⟩:∃ k:Nat,cc=(k:Int):=⟨cc.toNat,by omega⟩
 rw [Int.toNat_natCast]
 exact folded_eq (by omega) (by omega) (by exact nz5 (nz2 l2 (by decide)))
theorem reach_eq (ns:List Int) (k:Nat):∃ r,Pf.reach ns (k:Int)=some r∧(r=4∨r=8):=by
 unfold Pf.reach
 rw [eL,nza,Pf.jC (by omega) (by omega),nza,nza]
 have hm:=je (cellAt ns k) 7
 generalize Fl.mixed (cellAt ns k) 7=p at *
 have hz:p % 2=0∨p % 2=1:=by omega
 rcases hz with z | z <;> rw [z]
 ·exact (oi12 4 rfl (.inl rfl))
 ·exact (oi12 8 rfl (.inr rfl))
theorem oJ (rows:List (List Int)) (h:rows.flatten.length≤1000000):Pf.fP rows=some rows.flatten:=by
 unfold Pf.fP
 refine fR (fun i s=>s=(rows.take i).flatten) rfl ?_ fun s' e=>by rw [e,List.take_length]
 intro i r s hr es
 have hi:=(List.getElem?_eq_some_iff.mp hr).1
 have er:=(List.getElem?_eq_some_iff.mp hr).2
 have e1:(rows.take (i+1)).flatten=s++r:=by
  have e0:rows.take (i+1)=rows.take i++[rows[i]]:=(List.take_append_getElem hi).symm
  rw [e0,es,er]; simp
 have hle:(s++r).length≤rows.flatten.length:=by
  rw [← e1]
  have e2:rows.flatten=(rows.take (i+1)).flatten++(rows.drop (i+1)).flatten:=by rw [← List.flatten_append,List.take_append_drop]
  rw [e2,List.length_append]; exact Nat.le_add_right _ _
 rw [List.length_append] at hle
 exact (oi12 (s++r) (by rw [cat_ok (by exact nz4 hle h)]; rfl) e1.symm)
end Pf
namespace Fl
noncomputable def hgt (rows:List (List Int)) (c x:Nat):Int:=(rows.getD (x / c) []).getD (x % c) 0
theorem cW {rows:List (List Int)} {c:Nat} (h:∀ r∈rows,r.length=c):rows.flatten.length=rows.length * c:=by
 induction rows with
 | nil=>simp
 | cons r rs ih =>
  rw [List.flatten_cons,List.length_append,ih fun q hq=>h q (List.mem_cons.mpr (.inr hq)),h r (List.mem_cons.mpr (.inl rfl)),List.length_cons,Nat.succ_mul]
  omega
theorem flat_get {rows:List (List Int)} {c:Nat} (hc:0<c) (h:∀ r∈rows,r.length=c) {x:Nat} (hx:x<rows.length * c):rows.flatten[x]?=some (hgt rows c x):=by
 induction rows generalizing x with
 | nil=>simp at hx
 | cons r rs ih =>
  have hr:=h r (List.mem_cons.mpr (.inl rfl))
  rw [List.flatten_cons]
  by_cases hlt:x<c
  ·rw [List.getElem?_append_left (by exact nz1 hlt (nz3 hr.symm)),List.getElem?_eq_getElem (by exact nz1 hlt (nz3 hr.symm))]
   unfold hgt
   rw [Nat.div_eq_of_lt hlt,Nat.mod_eq_of_lt hlt]
   simp [hr,hlt]
  ·rw [List.getElem?_append_right (by exact nz4 (nz3 hr) (Nat.not_lt.mp hlt)),hr]
   rw [List.length_cons,Nat.succ_mul] at hx
   rw [ih (fun q hq=>h q (List.mem_cons.mpr (.inr hq))) (by omega)]
   unfold hgt
   have e1:x / c=(x - c) / c+1:=by rw [Nat.div_eq x c,if_pos ⟨hc,by exact Nat.not_lt.mp hlt⟩]
   have e2:x % c=(x - c) % c:=by rw [Nat.mod_eq_sub_mod (by exact Nat.not_lt.mp hlt)]
   rw [e1,e2]
   simp
end Fl
namespace Pf
open Fl Pu
section
variable {rows:List (List Int)} {c:Nat}
theorem eM (hp:0<rows.length) (h:∀ r∈rows,r.length=c):Pf.size_of rows=some ((rows.length:Int),(c:Int)):=by
 unfold Pf.size_of
 cases rows with
 | nil=>simp at hp
 | cons r rs =>
  have hr:=h r (List.mem_cons.mpr (.inl rfl))
  rw [if_pos (by simp)]
  have e0:Pu.at_ (r :: rs) 0=some r:=cf (i:=0)
  rw [e0,nza,nza]
  unfold Pu.ln
  rw [hr]
theorem lP (hc:0<c) (hcm:c≤1000) (h:∀ r∈rows,r.length=c) {x:Nat} (hx:x<rows.length * c):Pf.db rows (x:Int)=some (hgt rows c x):=by
 have hp:0<rows.length:=by
  rcases Nat.eq_zero_or_pos rows.length with z | z
  ·rw [z] at hx; simp at hx
  ·exact z
 have hq:x / c<rows.length:=Nat.div_lt_of_lt_mul (by rw [Nat.mul_comm]; exact hx)
 have hm:x % c<c:=Nat.mod_lt _ hc
 unfold Pf.db
 rw [eM hp h,nza,nza,lO ⟨by omega,by omega⟩,nza,fS (by omega),← Int.natCast_ediv,cf,List.getElem?_eq_getElem hq,nza,nza,← Int.natCast_emod,cf]
 have hr:=h _ (List.getElem_mem hq)
 rw [List.getElem?_eq_getElem (by exact nz1 hm (nz3 hr.symm))]
 unfold hgt
 simp [hq,hr,hm]
noncomputable def key (rows:List (List Int)) (c x:Nat):Int × Int:=(hgt rows c x,(x:Int))
theorem d9 (hc:0<c) (hcm:c≤1000) (h:∀ r∈rows,r.length=c) {x:Nat} (hx:x<rows.length * c):Pf.bj rows (x:Int)=some (key rows c x):=by
 unfold Pf.bj
 rw [lP hc hcm h hx]; rfl
theorem cY (hc:0<c) (hcm:c≤1000) (h:∀ r∈rows,r.length=c) {x y:Nat} (hx:x<rows.length * c) (hy:y<rows.length * c):Pf.aV rows (x:Int) (y:Int)=some (lt2 (key rows c x) (key rows c y)):=by
 unfold Pf.aV
 rw [d9 hc hcm h hx,d9 hc hcm h hy]; rfl
end
end Pf
namespace Pu
variable {α:Type}
theorem find_some {d:List (Int × α)} {k:Int}:(find d k).isSome=decide (k∈d.map (·.1)):=by
 unfold find
 rw [Option.isSome_map,Bool.eq_iff_iff,decide_eq_true_eq,List.find?_isSome]
 simp only [List.mem_map,decide_eq_true_eq]
theorem put_new {d:List (Int × α)} {k:Int} {v:α} (h:k ∉ d.map (·.1)):put d k v=d++[(k,v)]:=by
 unfold put
 rw [if_neg]
 rw [List.any_eq_true]
 intro zq; refine oq12 zq fun e he hk=>?_
 exact h (List.mem_map.mpr (oi12 e he (by simpa using hk)))
end Pu
namespace Fl
theorem ce (l m:List Nat):cl (l++m)=cl l++cl m:=by simp
noncomputable def Par (nb:Nat→List Nat) (x:Nat) (d:List (Int × Option Int)):Prop :=
 ∀ (i:Nat) e,d[i]?=some e→(i=0∧e=((x:Int),none))∨∃ (j:Nat) (p k:Nat),j<i∧e=((k:Int),some (p:Int))∧(d[j]?).map (·.1)=some (p:Int)∧k∈nb p
theorem Par.start {nb:Nat→List Nat} {x:Nat}:Par nb x [((x:Int),none)]:=fun i e h=>by
 match i,h with
 | 0,h=>cases h; exact .inl ⟨rfl,rfl⟩
 | i+1,h=>simp at h
theorem Par.add {nb:Nat→List Nat} {x k p:Nat} {d:List (Int × Option Int)} (h:Par nb x d) (hp:(p:Int)∈d.map (·.1)) (hk:k∈nb p):Par nb x (d++[((k:Int),some (p:Int))]):=fun i e he=>by
 by_cases hi:i<d.length
 ·rw [List.getElem?_append_left hi] at he
  rcases h i e he with z | ⟨j,q,k',hj,e1,e2,e3⟩
  ·exact .inl z
  ·exact .inr (oi34 j q k' hj e1 (by rw [List.getElem?_append_left (by exact nz8 hj hi)]; exact e2) e3)
 ·rw [List.getElem?_append_right (by exact Nat.not_lt.mp hi)] at he
  have hi2:i - d.length=0:=by
   have:=(List.getElem?_eq_some_iff.mp he).1
   simp at this; exact Nat.le_antisymm (nz3 this) (Nat.zero_le _)
  rw [hi2] at he
  cases he
  refine oq11 (List.mem_iff_getElem?.mp hp) fun j hj=>?_
  have hj':j<d.length:=by have:=(List.getElem?_eq_some_iff.mp hj).1; simpa using this
  refine .inr (oi34 j p k (by exact nz1 hj' (Nat.not_lt.mp hi)) rfl ?_ hk)
  rw [List.getElem?_append_left hj',← List.getElem?_map]; exact hj
end Fl
namespace Gr
open Fl Pu
theorem bnk {α β:Type} {o:Option α} {a:α} {f:α→Option β} {r:Option β} (h:o=some a) (k:f a=r):o.bind f=r:=by
 subst h; exact k
theorem bind_two {α β:Type} (o:Option (α × β)):(o.bind fun s=>some (s.1,s.2))=o:=by cases o <;> rfl
noncomputable def Tk (ws:List Nat) (u:Nat) (ws':List Nat):Prop:=u∈ws∧(∀ w∈ws,w=u∨w∈ws')∧(∀ w∈ws',w∈ws)∧ws.length=ws'.length+1
theorem Tk.first {u:Nat} {ws':List Nat}:Tk (u :: ws') u ws':=⟨List.mem_cons_self,fun _ h=>List.mem_cons.mp h,fun _ h=>List.mem_cons_of_mem _ h,rfl⟩
section
variable {β:Type} {nb:Nat→List Nat} {ok:Nat→Bool} {n x u j:Nat} {P:List (Int × β)→Prop} {v:β}
noncomputable def Net (n j:Nat) (P:List (Int × β)→Prop) (d:List (Int × β)) (kk ws:List Nat):Prop:=d.map (·.1)=cl kk∧(∀ k∈kk,k<n)∧P d∧kk.length=ws.length+j
noncomputable def Look (nb:Nat→List Nat) (ok:Nat→Bool) (u:Nat) (v:β) (g:List (Int × β) × List Int→Int→Option (List (Int × β) × List Int)):Prop :=
 ∀ (o:Nat) (d:List (Int × β)) (w:List Int),o∈nb u→((o:Int)∈d.map (·.1)∨ok o=false→g (d,w) (o:Int)=some (d,w))∧((o:Int) ∉ d.map (·.1)→ok o=true→d.length≤10000→w.length≤10000→g (d,w) (o:Int)=some (d++[((o:Int),v)],w++[(o:Int)]))
theorem Net.snoc {d:List (Int × β)} {kk ws:List Nat} {o:Nat} (h:Net n j P d kk ws) (ho:o<n) (hp:P (d++[((o:Int),v)])):Net n j P (d++[((o:Int),v)]) (kk++[o]) (ws++[o]) :=
 ⟨by rw [List.map_append,h.1,ce]; rfl,fun k hk=>(List.mem_append.mp hk).elim (h.2.1 k) fun z=>nz2 (nz3 (List.mem_singleton.mp z)) ho,hp,by rw [List.length_append,List.length_append,h.2.2.2]; exact Nat.add_right_comm _ _ _⟩
theorem look_of {d:List (Int × β)} {w:List Int} {o:Int} {X:Option Bool} {b:Bool} (hX:X=some b) :
  (o∈d.map (·.1)∨b=false→((if (!(find d o).isSome)=true then X else some false).bind fun q=>if q=true then if d.length<16777216 then (app w o).bind fun l=>some (put d o v,l) else none else some (d,w))=some (d,w)) ∧
  (o ∉ d.map (·.1)→b=true→d.length≤10000→w.length≤10000→((if (!(find d o).isSome)=true then X else some false).bind fun q=>if q=true then if d.length<16777216 then (app w o).bind fun l=>some (put d o v,l) else none else some (d,w))=some (d++[(o,v)],w++[o])):=by
 subst hX
 rw [find_some]
 refine ⟨fun h=>bnk (a:=false) ?_ rfl,fun h1 h2 h3 h4=>?_⟩
 ·rcases h with h | h
  ·rw [decide_eq_true h]; rfl
  ·subst h; exact ite_self _
 ·rw [decide_eq_false h1,h2,put_new h1,ic (nz4 h4 (by decide))]
  exact if_pos (nz2 h3 (by decide))
theorem look_one {g:List (Int × β) × List Int→Int→Option (List (Int × β) × List Int)} (hn:n≤10000) (hnb:∀ o∈nb u,o<n) (hP:∀ d o,P d→(u:Int)∈d.map (·.1)→o∈nb u→P (d++[((o:Int),v)])) (hg:Look nb ok u v g) {o:Nat} {done kk ws:List Nat} {d:List (Int × β)} (ho:o∈nb u) (sa:SeaAt nb ok x u done kk ws) (nt:Net n j P d kk ws) :
  ∃ d' kk' ws',g (d,cl ws) (o:Int)=some (d',cl ws')∧SeaAt nb ok x u (done++[o]) kk' ws'∧Net n j P d' kk' ws':=by
 have hl:kk.length≤10000:=nz4 (bD n sa.nd nt.2.1) hn
 have hd:d.length=kk.length:=(List.length_map (·.1)).symm.trans ((congrArg List.length nt.1).trans (bq kk))
 by_cases hin:o∈kk
 ·exact oi33 d kk ws ((hg o d (cl ws) ho).1 (.inl (nt.1 ▸ aN.mpr hin))) (sa.skip fun _=>hin) nt
 ·cases hok:ok o with
  | false=>exact oi33 d kk ws ((hg o d (cl ws) ho).1 (.inr hok)) (sa.skip fun z=>absurd (hok.symm.trans z) Bool.false_ne_true) nt
  | true =>
   refine oi33 _ _ _ (((hg o d (cl ws) ho).2 (fun z=>hin (aN.mp (nt.1 ▸ z))) hok (nz4 (nz3 hd) hl) ?_).trans (congrArg (fun w=>some (d++[((o:Int),v)],w)) (ce ws [o]).symm)) (sa.add ho hok hin fun w=>?_) (nt.snoc (hnb o ho) (hP d o nt.2.2.1 (nt.1 ▸ aN.mpr sa.u_in) ho))
   ·rw [bq]; exact nz4 (Nat.le_add_right _ _) (nz4 (nz3 nt.2.2.2.symm) hl)
   ·rw [List.mem_append,List.mem_singleton]
theorem ni {g:List (Int × β) × List Int→Int→Option (List (Int × β) × List Int)} (hn:n≤10000) (hnb:∀ o∈nb u,o<n) (hP:∀ d o,P d→(u:Int)∈d.map (·.1)→o∈nb u→P (d++[((o:Int),v)])) (hg:Look nb ok u v g) :
  ∀ (os done:List Nat) (d:List (Int × β)) (kk ws:List Nat),(∀ o∈os,o∈nb u)→SeaAt nb ok x u done kk ws→Net n j P d kk ws→∃ d' kk' ws',forS g (cl os) (d,cl ws)=some (d',cl ws')∧SeaAt nb ok x u (done++os) kk' ws'∧Net n j P d' kk' ws'
 | [],done,d,kk,ws,_,sa,nt=>oi33 d kk ws rfl ((List.append_nil done).symm ▸ sa) nt
 | o :: os,done,d,kk,ws,ho,sa,nt =>
  oq33 (look_one hn hnb hP hg (ho o List.mem_cons_self) sa nt) fun d1 k1 w1 e1 s1 n1=>oq33 (ni hn hnb hP hg os (done++[o]) d1 k1 w1 (fun p hp=>ho p (List.mem_cons_of_mem _ hp)) s1 n1) fun d2 k2 w2 e2 s2 n2 =>
   oi33 d2 k2 w2 (bnk e1 e2) ((List.append_assoc done [o] os) ▸ s2) n2
theorem nk {V:Nat→β} {t:List (Int × β) × List Int→Option Bool} {f:List (Int × β) × List Int→Option (List (Int × β) × List Int)} (hn:n≤10000) (hnb:∀ u,u<n→∀ o∈nb u,o<n) (hP:∀ (u:Nat) d (o:Nat),P d→(u:Int)∈d.map (·.1)→o∈nb u→P (d++[((o:Int),V u)]))
  (ht:∀ d w,t (d,w)=some (!decide (w=[]))) (hf:∀ d w ws,(∀ k∈w :: ws,k<n)→∃ u ws' g,Tk (w :: ws) u ws'∧f (d,cl (w :: ws))=forS g (cl (nb u)) (d,cl ws')∧Look nb ok u (V u) g) :
  ∀ (N j:Nat) (d:List (Int × β)) (kk ws:List Nat),n<N+j→Sea nb ok x kk ws→Net n j P d kk ws→∃ d' kk',whS t f N (d,cl ws)=some (d',[])∧Sea nb ok x kk' []∧d'.map (·.1)=cl kk'∧(∀ k∈kk',k<n)∧P d'
 | 0,j,d,kk,ws,hN,sa,nt=>absurd (nz4 (Nat.le_add_left j _) (nz4 (nz3 nt.2.2.2.symm) (bD n sa.nd nt.2.1))) (Nat.not_le.mpr (nz1 hN (nz3 (Nat.zero_add j))))
 | N+1,j,d,kk,[],hN,sa,nt=>oi25 d kk (bnk (ht d []) rfl) sa nt.1 nt.2.1 nt.2.2.1
 | N+1,j,d,kk,w :: ws,hN,sa,nt =>
  oq33 (hf d w ws fun k hk=>nt.2.1 k (sa.sub k hk)) fun u ws' g tk ef lk=>oq33 (ni hn (hnb u (nt.2.1 u (sa.sub u tk.1))) (hP u) lk (nb u) [] d kk ws' (fun _ h=>h) (sa.take tk.1 tk.2.1 tk.2.2.1) ⟨nt.1,nt.2.1,nt.2.2.1,nt.2.2.2.trans ((congrArg (·+j) tk.2.2.2).trans ((Nat.add_assoc _ _ _).trans (congrArg (ws'.length+·) (Nat.add_comm 1 j))))⟩) fun d1 k1 w1 e1 s1 n1 =>
   oq25 (nk hn hnb hP ht hf N (j+1) d1 k1 w1 (nz1 hN (nz3 ((Nat.add_assoc _ _ _).trans (congrArg (N+·) (Nat.add_comm 1 j))))) s1.fin n1) fun d2 k2 e2 s2 m2 l2 p2=>oi25 d2 k2 (bnk (ht d _) (bnk (ef.trans e1) e2)) s2 m2 l2 p2
theorem sea_start {V:Nat→β} {t:List (Int × β) × List Int→Option Bool} {f:List (Int × β) × List Int→Option (List (Int × β) × List Int)} (hn:n≤10000) (hx:x<n) (hnb:∀ u,u<n→∀ o∈nb u,o<n) (h0:P [((x:Int),v)]) (hP:∀ (u:Nat) d (o:Nat),P d→(u:Int)∈d.map (·.1)→o∈nb u→P (d++[((o:Int),V u)]))
  (ht:∀ d w,t (d,w)=some (!decide (w=[]))) (hf:∀ d w ws,(∀ k∈w :: ws,k<n)→∃ u ws' g,Tk (w :: ws) u ws'∧f (d,cl (w :: ws))=forS g (cl (nb u)) (d,cl ws')∧Look nb ok u (V u) g) :
  ∃ d' kk',whS t f 100000 ([((x:Int),v)],[(x:Int)])=some (d',[])∧Sea nb ok x kk' []∧d'.map (·.1)=cl kk'∧(∀ k∈kk',k<n)∧P d' :=
 nk hn hnb hP ht hf 100000 0 [((x:Int),v)] [x] [x] (nz2 hn (by decide)) Sea.start ⟨rfl,fun k hk=>nz2 (nz3 (List.mem_singleton.mp hk)) hx,h0,rfl⟩
end
end Gr
namespace Pf
open Fl Pu Gr
section
variable {rows:List (List Int)} {c:Nat} {reach:Int} {x last:Nat}
noncomputable abbrev upTo (rows:List (List Int)) (c last:Nat) (y:Nat):Bool:=!lt2 (key rows c last) (key rows c y)
theorem gN (hc:0<c) (hcm:c≤100) (hm:rows.length≤100) (h:∀ r∈rows,r.length=c) (hx:x<rows.length * c) (hl:last<rows.length * c) :
  ∃ d ks,Pf.cJ rows reach (x:Int) (last:Int)=some d∧d.map (·.1)=cl ks∧ks.Nodup∧(∀ y,y∈ks↔Rch (fun a b=>b∈nbL rows.length c reach a) (fun y=>upTo rows c last y=true) x y)∧Par (nbL rows.length c reach) x d:=by
 have hp:0<rows.length:=Nat.pos_of_ne_zero fun z=>Nat.not_lt_zero x (by rw [z,Nat.zero_mul] at hx; exact hx)
 have hmc:rows.length * c≤10000:=Nat.mul_le_mul hm hcm
 have hc2:c≤1000:=nz4 hcm (by decide)
 refine oq25 (sea_start (n:=rows.length * c) (nb:=nbL rows.length c reach) (ok:=upTo rows c last) (V:=fun u=>some (u:Int)) (P:=Par (nbL rows.length c reach) x) (t:=fun s=>some (!s.2.isEmpty)) hmc hx (fun u _ o ho=>(cM.mp ho).1) Par.start (fun u d o h1 h2 h3=>h1.add h2 h3) (fun d w=>by cases w <;> rfl) fun d u ws hu=>oi33 u ws _ Tk.first (bnk (g9 hc hc2 (nz4 hm (by decide)) (hu u List.mem_cons_self)) (bind_two _)) fun o d w ho=>look_of (v:=some (u:Int)) (X:=(Pf.aV rows last o).bind fun q=>some !q) (b:=upTo rows c last o) (bnk (cY hc hc2 h hl (cM.mp ho).1) rfl)) fun d kk e sea m l p=>oi25 d kk (bnk (eM hp h) (bnk e rfl)) m sea.nd (fun y=>sea.all) p
theorem ie (hc:0<c) (hcm:c≤100) (hm:rows.length≤100) (h:∀ r∈rows,r.length=c) (h64:rows.length * c<64) (hx:x<rows.length * c) (hl:last<rows.length * c) :
  ∃ ks:List Nat,Pf.bQ rows reach (x:Int) (last:Int)=some (cl ks)∧ks.Pairwise (·<·)∧(upTo rows c last x=false→ks=[])∧(upTo rows c last x=true→∀ y,y∈ks↔Rch (fun a b=>b∈nbL rows.length c reach a) (fun y=>upTo rows c last y=true) x y):=by
 unfold Pf.bQ
 rw [cY hc (by exact nz5 (nz2 hcm (by decide))) h hl hx,nza]
 cases q:lt2 (key rows c last) (key rows c x) with
 | true=>exact (oi14 ([]) (by rw [if_pos rfl]; rfl) .nil (fun _=>rfl) (fun z=>by unfold upTo at z; rw [q] at z; cases z))
 | false =>
  rw [if_neg Bool.false_ne_true]
  refine oq25 (gN (reach:=reach) hc hcm hm h hx hl) fun d ks e1 e2 e3 e4 _=>?_
  have hlt:∀ k∈ks,k<rows.length * c:=fun k hk=>by
   have:=(e4 k).mp hk
   cases this with
   | here=>exact hx
   | on _ h1 _=>exact (cM.mp h1).1
  have hlen:ks.length≤rows.length * c:=bD _ e3 hlt
  rw [e1,nza,e2]
  unfold Pu.sortI
  rw [if_pos (by rw [bq]; exact nz2 hlen h64)]
  refine (oi14 (ks.mergeSort fun a b=>decide (a≤b)) ?_ ?_ (fun z=>(by unfold upTo at z; rw [q] at z; cases z)) (fun _ y=>?_))
  ·congr 1
   refine cu (le:=(·≤·)) (fun a b h1 h2=>Int.le_antisymm h1 h2) ((da _).trans ((List.mergeSort_perm ks _).map _).symm) (dG _) ?_
   rw [List.pairwise_map]
   have:=List.pairwise_mergeSort (le:=fun a b:Nat=>decide (a≤b)) (fun a b c h1 h2=>by simp at *; exact nz4 h1 h2) (fun a b=>by simp; omega) ks
   exact this.imp fun h=>by simp at h; exact Int.ofNat_le.mpr h
  ·have s1:=List.pairwise_mergeSort (le:=fun a b:Nat=>decide (a≤b)) (fun a b c h1 h2=>by simp at *; exact nz4 h1 h2) (fun a b=>by simp; omega) ks
   have s2:(ks.mergeSort fun a b=>decide (a≤b)).Nodup:=((List.mergeSort_perm ks _).nodup_iff).mpr e3
   exact List.Pairwise.imp₂ (fun a b h1 h2=>by simp at h1; omega) s1 s2
  ·rw [(List.mergeSort_perm ks _).mem_iff]; exact e4 y
end
end Pf
namespace Fl
open Pu
noncomputable def hk (hs:List Int) (x:Nat):Int × Int:=(hs.getD x 0,(x:Int))
theorem dI {rows:List (List Int)} {c:Nat} (hc:0<c) (h:∀ r∈rows,r.length=c) {x:Nat} (hx:x<rows.length * c):hk rows.flatten x=Pf.key rows c x:=by
 unfold hk Pf.key
 have:=flat_get hc h hx
 rw [List.getD_eq_getElem?_getD,this]; rfl
theorem lt2_as {a b:Int × Int} (h1:lt2 a b=true):lt2 b a=false:=by
 unfold lt2 at *; simp only [decide_eq_true_eq] at *; rw [decide_eq_false_iff_not]; omega
theorem lt2_ir (a:Int × Int):lt2 a a=false:=by unfold lt2; rw [decide_eq_false_iff_not]; omega
structure Ord (hs:List Int) (os:List Nat):Prop where
 pm:os.Perm (List.range hs.length)
 up:os.Pairwise fun a b=>lt2 (hk hs a) (hk hs b)=true
section
variable {hs:List Int} {os:List Nat}
theorem Ord.nd (o:Ord hs os):os.Nodup:=(o.pm.nodup_iff).mpr List.nodup_range
theorem Ord.mem (o:Ord hs os) {x:Nat}:x∈os↔x<hs.length:=by rw [o.pm.mem_iff,List.mem_range]
theorem Ord.len (o:Ord hs os):os.length=hs.length:=by rw [o.pm.length_eq,List.length_range]
noncomputable abbrev rk (os:List Nat) (x:Nat):Nat:=os.idxOf x
theorem Ord.rk_lt (o:Ord hs os) {x:Nat} (hx:x<hs.length):rk os x<hs.length:=by rw [← o.len]; exact List.idxOf_lt_length_iff.mpr (o.mem.mpr hx)
theorem Ord.at_rk (o:Ord hs os) {x:Nat} (hx:x<hs.length):os[rk os x]?=some x:=by
 have h:=List.idxOf_lt_length_iff.mpr (o.mem.mpr hx)
 rw [List.getElem?_eq_getElem h,List.getElem_idxOf h]
theorem Ord.rk_at (o:Ord hs os) {i x:Nat} (h:os[i]?=some x):rk os x=i:=by
 have hi:=(List.getElem?_eq_some_iff.mp h).1
 have e:=(List.getElem?_eq_some_iff.mp h).2
 rw [← e]
 exact o.nd.idxOf_getElem i hi
theorem Ord.lt_iff (o:Ord hs os) {x y:Nat} (hx:x<hs.length) (hy:y<hs.length):rk os x<rk os y↔lt2 (hk hs x) (hk hs y)=true:=by
 have go:∀ {x y:Nat},x<hs.length→y<hs.length→rk os x<rk os y→lt2 (hk hs x) (hk hs y)=true:=fun {x y} hx hy h=>by
  have h1:=o.at_rk hx
  have h2:=o.at_rk hy
  have e1:=(List.getElem?_eq_some_iff.mp h1)
  have e2:=(List.getElem?_eq_some_iff.mp h2)
  obtain ⟨l1,e1⟩:=e1
  obtain ⟨l2,e2⟩:=e2
  have:=List.pairwise_iff_getElem.mp o.up _ _ l1 l2 h
  rw [e1,e2] at this
  exact this
 refine ⟨go hx hy,fun h=>?_⟩
 rcases Nat.lt_trichotomy (rk os x) (rk os y) with z | z | z
 ·exact z
 ·have e1:=o.at_rk hx
  rw [z,o.at_rk hy] at e1
  cases e1
  rw [lt2_ir] at h; cases h
 ·have:=lt2_as (go hy hx z)
  rw [this] at h; cases h
theorem Ord.le_iff (o:Ord hs os) {x y:Nat} (hx:x<hs.length) (hy:y<hs.length):rk os x≤rk os y↔lt2 (hk hs y) (hk hs x)=false:=by
 rw [← Nat.not_lt,o.lt_iff hy hx,Bool.not_eq_true]
end
end Fl
namespace Pf
open Fl Pu
theorem lQ {hs:List Int} (h64:hs.length<64):∃ os,Pf.cw hs=some (cl os)∧Ord hs os:=by
 unfold Pf.cw
 have e1:Pu.comp (fun (y1:Int × Int)=>some ((y1.2,y1.1))) (Pu.enum hs)=some ((List.range hs.length).map (hk hs)):=by
  rw [cO (g:=fun y:Int × Int=>(y.2,y.1)) (by rw [jB]; exact nz5 (nz8 h64 (by decide))) fun _ _=>rfl]
  congr 1
  apply List.ext_getElem?
  intro i
  unfold Pu.enum hk
  rw [List.getElem?_map,List.getElem?_map,List.getElem?_map,List.getElem?_zipIdx]
  by_cases hi:i<hs.length
  ·rw [List.getElem?_eq_getElem hi,List.getElem?_range hi]; simp [hi]
  ·rw [List.getElem?_eq_none (by exact Nat.not_lt.mp hi),List.getElem?_eq_none (by simp; exact Nat.not_lt.mp hi)]; rfl
 have nd:((List.range hs.length).map (hk hs)).Nodup:=by
  rw [List.Nodup,List.pairwise_map]
  refine List.nodup_range.imp fun {a b} hab e=>hab ?_
  have:(hk hs a).2=(hk hs b).2:=by rw [e]
  unfold hk at this
  simp only at this
  omega
 rw [e1,nza]
 unfold Pu.sortP
 rw [if_pos ⟨by simp; exact h64,nd⟩,nza]
 have pm:=i3 ((List.range hs.length).map (hk hs))
 have so:=fg ((List.range hs.length).map (hk hs))
 generalize srtP ((List.range hs.length).map (hk hs))=qs at pm so
 have hl:qs.length=hs.length:=by rw [pm.length_eq]; simp
 rw [cO (g:=fun y:Int × Int=>y.2) (by exact nz5 (nz2 (nz3 hl) (nz8 h64 (by decide)))) fun _ _=>rfl]
 have form:∀ q∈qs,q=hk hs q.2.toNat:=fun q hq=>by
  refine oq12 (List.mem_map.mp (pm.mem_iff.mp hq)) fun i _ e=>?_
  rw [← e]; unfold hk; simp
 refine ⟨qs.map fun q=>q.2.toNat,?_,?_,?_⟩
 ·congr 1
  unfold cl
  rw [List.map_map]
  refine List.map_congr_left fun q hq=>?_
  have:=form q hq
  rw [this]; unfold hk; simp
 ·have:=pm.map fun q=>q.2.toNat
  rw [List.map_map] at this
  refine this.trans ?_
  have e:((List.range hs.length).map ((fun q:Int × Int=>q.2.toNat) ∘ hk hs))=List.range hs.length:=by
   conv=>rhs; rw [← List.map_id (List.range hs.length)]
   refine List.map_congr_left fun i _=>?_
   unfold hk; simp
  rw [e]
 ·rw [List.pairwise_map]
  have ndq:qs.Nodup:=(pm.nodup_iff).mpr nd
  refine (List.Pairwise.imp_of_mem ?_ (so.and ndq))
  intro a b ha hb ⟨h1,h2⟩
  rw [← form a ha,← form b hb]
  unfold le2 at h1
  unfold lt2
  rw [decide_eq_true_eq] at *
  obtain ⟨a1,a2⟩:=a; obtain ⟨b1,b2⟩:=b
  have:¬ (a1=b1∧a2=b2):=fun z=>h2 (by rw [z.1,z.2])
  simp only at *
  omega
theorem ixN_nat {n i:Nat} (h:i<n):L2.ixN n (i:Int)=some i:=by
 unfold L2.ixN
 rw [if_pos (by exact Int.ofNat_le.mpr (Nat.zero_le _)),if_pos (by exact Int.ofNat_lt.mpr h),Int.toNat_natCast]
theorem places_eq {hs:List Int} (h64:hs.length<64) {os:List Nat} (ho:Pf.cw hs=some (cl os)) (o:Ord hs os):∃ pl:List Int,Pf.places hs=some pl∧pl.length=hs.length∧∀ x,x<hs.length→pl[x]?=some (rk os x:Int):=by
 unfold Pf.places
 rw [cO (g:=fun _=>(0:Int)) (by exact nz5 (nz8 h64 (by decide))) fun _ _=>rfl,nza,ho,nza,nza]
 refine forS_ex (fun i s=>s.length=hs.length∧∀ j,j<i→∀ x,os[j]?=some x→s[x]?=some (j:Int)) ?_ ?_ ?_
 ·exact ⟨by simp,fun j hj=>absurd hj (Nat.not_lt_zero _)⟩
 ·rintro i ⟨k,y⟩ s hy ⟨l,g⟩
  refine oq12 (n5 hy) fun a h1 h2=>?_
  obtain ⟨rfl,rfl⟩:k=(i:Int)∧y=a:=by cases h2; exact ⟨rfl,rfl⟩
  rw [List.getElem?_map] at h1
  obtain ⟨z,hz,rfl⟩:∃ z,os[i]?=some z∧(z:Int)=y:=by
   cases q:os[i]? with
   | none=>rw [q] at h1; cases h1
   | some z=>rw [q] at h1; exact (oi12 z rfl (Option.some.inj h1))
  have hzl:z<hs.length:=o.mem.mp (List.mem_of_getElem? hz)
  simp only
  rw [ixN_nat (by exact nz1 hzl (nz3 l.symm)),nza]
  refine (oi13 _ rfl (by rw [List.length_set]; exact l) (fun j hj x hx=>?_))
  rw [List.getElem?_set]
  by_cases hjx:z=x
  ·rw [if_pos hjx,if_pos (by exact nz1 hzl (nz3 l.symm))]
   have e1:=o.rk_at hz
   have e2:=o.rk_at hx
   rw [hjx] at e1
   congr 1
   omega
  ·rw [if_neg hjx]
   refine g j ?_ x hx
   rcases Nat.lt_succ_iff_lt_or_eq.mp hj with z1 | z1
   ·exact z1
   ·subst z1
    rw [hx] at hz
    cases hz
    exact absurd rfl hjx
 ·intro s zq; refine oq02 zq fun l g=>?_
  refine (oi13 s rfl l (fun x hx=>?_))
  refine g (rk os x) ?_ x (o.at_rk hx)
  rw [jB,bq,o.len]
  exact o.rk_lt hx
theorem fj {S:Type} {α β:Type} {f:List α→β→Option (List α)} {p:β→Bool} {v:β→α} {B:Nat} (h:∀ s x,s.length≤B→f s x=some (if p x=true then s++[v x] else s)):∀ {xs:List β} {s:List α},s.length+xs.length≤B→forS f xs s=some (s++(xs.filter p).map v)
 | [],s,_=>by simp [forS]
 | x :: xs,s,hl=>by
  rw [List.length_cons] at hl
  rw [kC,h s x (by omega),nza]
  cases q:p x with
  | true=>rw [if_pos rfl,fj (S:=S) h (by simp; omega),List.filter_cons_of_pos q]; simp
  | false=>rw [if_neg Bool.false_ne_true,fj (S:=S) h (by omega),List.filter_cons_of_neg (by simp [q])]
noncomputable def stp (m c:Nat) (reach:Int) (R C:Nat) (d a:Int):Bool :=
 ((decide (0≤(R:Int)+d) && decide ((R:Int)+d<(m:Int))) && (decide (0≤(C:Int)+a) && decide ((C:Int)+a<(c:Int)))) && ((decide (Pu.ab d+Pu.ab a=1)) || ((decide (reach=8)) && (decide (Pu.ab d+Pu.ab a=2))))
theorem next_list {m c x:Nat} {reach:Int} (hc0:0<c) (hcm:c≤1000) (hmm:m≤1000) (hx:x<m * c):Pf.next ((m:Int),(c:Int)) reach (x:Int)=some (([-1,0,1]:List Int).flatMap fun d=>(([-1,0,1]:List Int).filter (stp m c reach (x / c) (x % c) d)).map fun a=>(((x / c:Nat):Int)+d) * (c:Int)+(((x % c:Nat):Int)+a)):=by
 have d1:((x:Nat):Int) / ((c:Nat):Int)=((x / c:Nat):Int):=(Int.natCast_ediv x c).symm
 have d2:((x:Nat):Int) % ((c:Nat):Int)=((x % c:Nat):Int):=(Int.natCast_emod x c).symm
 unfold Pf.next
 simp only [bs,lO (show 0<((c:Nat):Int)∧((c:Nat):Int)<2 ^ 64 by omega),fS (show 0<((c:Nat):Int) by exact Int.ofNat_lt.mpr hc0),d1,d2,mul_okR (show -(2 ^ 64)<((c:Nat):Int)∧((c:Nat):Int)<2 ^ 64 by omega)]
 generalize x / c=R
 generalize x % c=C
 have inner:∀ (d:Int) (s:List Int),s.length≤100→forS (fun (s7:List Int) (x6:Int)=>if (((decide (0≤(R:Int)+d) && decide ((R:Int)+d<(m:Int))) && (decide (0≤(C:Int)+x6) && decide ((C:Int)+x6<(c:Int)))) && ((decide (Pu.ab d+Pu.ab x6=1)) || ((decide (reach=8)) && (decide (Pu.ab d+Pu.ab x6=2)))))=true then (Pu.app s7 (((R:Int)+d) * (c:Int)+((C:Int)+x6))).bind fun f=>some f else some s7) [-1,0,1] s =
   some (s++(([-1,0,1]:List Int).filter (stp m c reach R C d)).map fun a=>((R:Int)+d) * (c:Int)+((C:Int)+a)):=fun d s hs=>by
  refine fj (S:=Unit) (B:=1000) (fun s x hs=>?_) (by simp; exact nz5 (nz2 hs (by decide)))
  show (if stp m c reach R C d x=true then _ else _)=_
  cases q:stp m c reach R C d x with
  | true=>rw [if_pos rfl,if_pos rfl,ic (by exact nz5 (nz2 hs (by decide)))]; rfl
  | false=>rw [if_neg Bool.false_ne_true,if_neg Bool.false_ne_true]
 have l3:∀ d,((([-1,0,1]:List Int).filter (stp m c reach R C d)).map fun a=>((R:Int)+d) * (c:Int)+((C:Int)+a)).length≤3:=fun d=>by
  rw [List.length_map]; exact List.length_filter_le _ _
 refine fR (fun i s=>s=(([-1,0,1]:List Int).take i).flatMap (fun d=>(([-1,0,1]:List Int).filter (stp m c reach R C d)).map fun a=>((R:Int)+d) * (c:Int)+((C:Int)+a))∧s.length≤3 * i) ⟨rfl,by simp⟩ ?_ fun s e=>by rw [e.1]; rfl
 intro i d s hd zq; refine oq02 zq fun es hs=>?_
 have hi:i<3:=(List.getElem?_eq_some_iff.mp hd).1
 refine (oi13 _ (by rw [inner d s (by omega)]; rfl) ?_ ?_)
 ·have:([-1,0,1]:List Int).take (i+1)=([-1,0,1]:List Int).take i++[d]:=by
   have e:=(List.getElem?_eq_some_iff.mp hd).2
   rw [← e,List.take_append_getElem]
  rw [this,List.flatMap_append,es]
  simp
 ·rw [List.length_append]; have:=l3 d; omega
theorem ig {m c R C:Nat} {reach d a:Int} (h:stp m c reach R C d a=true):∃ r k:Nat,(R:Int)+d=(r:Int)∧(C:Int)+a=(k:Int)∧r<m∧k<c∧(ab d+ab a=1∨(reach=8∧ab d+ab a=2)):=by
 unfold stp at h
 simp only [Bool.and_eq_true,Bool.or_eq_true,decide_eq_true_eq] at h
 refine oq02 h fun nn1 h5=>?_; refine oq03 nn1 fun nn2 h3 h4=>?_; refine oq02 nn2 fun h1 h2=>?_
 refine oq11 (Int.eq_ofNat_of_zero_le h1) fun r hr=>?_
 refine oq11 (Int.eq_ofNat_of_zero_le h3) fun k hk=>?_
 rw [hr] at h2
 rw [hk] at h4
 exact (oi25 r k hr hk (Int.ofNat_lt.mp h2) (Int.ofNat_lt.mp h4) h5)
theorem jE (a b:Int):a+(b - a)=b:=by omega
theorem dif_ab {r R:Nat} {d:Int} (e:(R:Int)+d=(r:Int)):dif (r:Nat) (R:Nat)=ab d:=by
 rw [← oH,← e,Int.add_comm,Int.add_sub_cancel]
theorem ab_one {d:Int} (h:d=-1∨d=0∨d=1):0≤ab d∧ab d≤1:=by rcases h with rfl | rfl | rfl <;> decide
theorem one_ab {d:Int} (h:ab d≤1):d=-1∨d=0∨d=1:=by unfold ab at h; split at h <;> omega
theorem ab_nn (d:Int):0≤ab d:=by unfold ab; split <;> omega
theorem two_of {p q reach:Int} (b1:0≤p∧p≤1) (b2:0≤q∧q≤1) (h:p+q=1∨(reach=8∧p+q=2)):p+q=1∨(reach=8∧p=1∧q=1):=by omega
theorem of_two {p q reach:Int} (b1:0≤p) (b2:0≤q) (h:p+q=1∨(reach=8∧p=1∧q=1)):p≤1∧q≤1∧(p+q=1∨(reach=8∧p+q=2)):=by omega
theorem in_rows {r k m c:Nat} (h1:r<m) (h2:k<c):r * c+k<m * c:=by
 have:=Nat.mul_le_mul_right c (Nat.succ_le_of_lt h1)
 rw [Nat.succ_mul] at this
 exact nz1 (Nat.add_lt_add_left h2 _) this
theorem next_eq {m c x:Nat} {reach:Int} (hc0:0<c) (hcm:c≤1000) (hmm:m≤1000) (hx:x<m * c):Pf.next ((m:Int),(c:Int)) reach (x:Int)=some (cl (nbL m c reach x)):=by
 rw [next_list hc0 hcm hmm hx]
 congr 1
 have d3:∀ {d:Int},d∈([-1,0,1]:List Int)→d=-1∨d=0∨d=1:=fun {d} h=>by simpa using h
 have d3':∀ {d:Int},d=-1∨d=0∨d=1→d∈([-1,0,1]:List Int):=fun {d} h=>by simpa using h
 have val:∀ {r k:Nat},((r:Int)) * (c:Int)+(k:Int)=((r * c+k:Nat):Int):=by intro r k; rw [Int.natCast_add,Int.natCast_mul]
 have s2:(cl (nbL m c reach x)).Pairwise (·<·):=by
  unfold cl nbL
  rw [List.pairwise_map]
  refine (List.pairwise_lt_range.filter _).imp fun h=>?_
  exact Int.ofNat_lt.mpr h
 have s1:(([-1,0,1]:List Int).flatMap fun d=>(([-1,0,1]:List Int).filter (stp m c reach (x / c) (x % c) d)).map fun a=>(((x / c:Nat):Int)+d) * (c:Int)+(((x % c:Nat):Int)+a)).Pairwise (·<·):=by
  have base:([-1,0,1]:List Int).Pairwise (·<·):=by decide
  rw [List.pairwise_flatMap]
  refine ⟨fun d _=>?_,base.imp fun {d d'} hd u hu v hv=>?_⟩
  ·rw [List.pairwise_map]
   exact (base.filter _).imp fun {a b} h=>Int.add_lt_add_left (Int.add_lt_add_left h _) _
  ·refine oq12 (List.mem_map.mp hu) fun a ha eq2_=>?_; subst eq2_
   refine oq12 (List.mem_map.mp hv) fun a' ha' eq2_=>?_; subst eq2_
   refine oq25 (ig (List.mem_filter.mp ha).2) fun r k e1 e2 _ h1 _=>?_
   refine oq25 (ig (List.mem_filter.mp ha').2) fun r' k' e3 e4 _ h2 _=>?_
   have hr:(r:Int)<(r':Int):=by rw [← e1,← e3]; exact Int.add_lt_add_left hd _
   rw [e1,e2,e3,e4,val,val]
   exact Int.ofNat_lt.mpr (nz1 (in_rows (Int.ofNat_lt.mp hr) h1) (Nat.le_add_right _ _))
 have mem:∀ y:Int,y∈(([-1,0,1]:List Int).flatMap fun d=>(([-1,0,1]:List Int).filter (stp m c reach (x / c) (x % c) d)).map fun a=>(((x / c:Nat):Int)+d) * (c:Int)+(((x % c:Nat):Int)+a))↔y∈cl (nbL m c reach x):=by
  intro y
  rw [List.mem_flatMap,eK]
  constructor
  ·intro zq; refine oq12 zq fun d hd hy=>?_
   refine oq12 (List.mem_map.mp hy) fun a ha eq2_=>?_; subst eq2_
   refine oq02 (List.mem_filter.mp ha) fun ha1 ha2=>?_
   refine oq25 (ig ha2) fun r k e1 e2 h1 h2 h3=>?_
   refine (oi12 (r * c+k) (cM.mpr ⟨in_rows h1 h2,?_⟩) (by rw [e1,e2,val]))
   rw [adj_at h2,decide_eq_true_eq,dif_ab e1,dif_ab e2]
   exact two_of (ab_one (d3 hd)) (ab_one (d3 ha1)) h3
  ·intro zq; refine oq12 zq fun o ho eq2_=>?_; subst eq2_
   refine oq02 (cM.mp ho) fun h1 h2=>?_
   have ho1:o / c<m:=Nat.div_lt_of_lt_mul (by rw [Nat.mul_comm]; exact h1)
   have ho2:o % c<c:=Nat.mod_lt _ hc0
   unfold adj at h2
   rw [decide_eq_true_eq] at h2
   refine oq03 (of_two (ab_nn _) (ab_nn _) h2) fun b1 b2 b3=>?_
   refine (oi12 (((o / c:Nat):Int) - ((x / c:Nat):Int)) (d3' (one_ab b1)) (List.mem_map.mpr (oi12 (((o % c:Nat):Int) - ((x % c:Nat):Int)) (List.mem_filter.mpr ⟨d3' (one_ab b2),?_⟩) ?_)))
   ·unfold stp
    simp only [Bool.and_eq_true,Bool.or_eq_true,decide_eq_true_eq,jE]
    exact ⟨(oi03 ⟨Int.natCast_nonneg _,Int.ofNat_lt.mpr ho1⟩ (Int.natCast_nonneg _) (Int.ofNat_lt.mpr ho2)),b3⟩
   ·rw [jE,jE,val,Nat.mul_comm,Nat.div_add_mod]
 have n1:=s1.imp (S:=(·≠·)) fun h=>Int.ne_of_lt h
 have n2:=s2.imp (S:=(·≠·)) fun h=>Int.ne_of_lt h
 exact cu (le:=(·<·)) (fun a b h1 h2=>absurd h1 (by exact Int.not_lt.mpr (Int.le_of_lt h2))) ((List.perm_ext_iff_of_nodup n1 n2).mpr mem) s1 s2
theorem nl {rows:List (List Int)} {c:Nat} {reach:Int} (hp:0<rows.length) (hc0:0<c) (hcm:c≤1000) (hmm:rows.length≤1000) (h:∀ r∈rows,r.length=c):Pf.dZ rows reach=some ((List.range (rows.length * c)).map fun x=>cl (nbL rows.length c reach x)):=by
 have hmc:rows.length * c≤1000 * 1000:=Nat.mul_le_mul hmm hcm
 unfold Pf.dZ
 have e0:Pu.at_ rows 0=some (rows[0]'hp):=(cf (i:=0)).trans (List.getElem?_eq_getElem hp)
 have hr:=h _ (List.getElem_mem hp)
 rw [e0]
 simp only [bs,Pu.ln]
 rw [hr,oG ⟨by omega,by omega⟩,nza,← Int.natCast_mul,rng1_nat (by omega),nza]
 rw [cO (g:=fun y=>cl (nbL rows.length c reach y.toNat)) (by rw [nats_len]; omega) fun y hy=>?_]
 ·unfold nats
  rw [List.map_map]
  rfl
 ·refine oq12 (nats_mem.mp hy) fun i hi eq2_=>?_; subst eq2_
  rw [Int.toNat_natCast]
  exact next_eq hc0 hcm hmm hi
end Pf
namespace Pu
theorem lS {α:Type} (l:List α) (a:α):(l++[a]).getLast?=some a:=by simp
theorem ded_go:∀ (l acc:List Int),l.Nodup→(∀ x∈l,x ∉ acc)→l.foldl dedS acc=acc++l
 | [],acc,_,_=>by simp
 | x :: l,acc,hn,h=>by
  obtain ⟨h1,h2⟩:=List.nodup_cons.mp hn
  rw [List.foldl_cons]
  have e:dedS acc x=acc++[x]:=by
   unfold dedS
   rw [if_neg]
   rw [List.any_eq_true]
   rintro ⟨y,hy,e⟩
   have:y=x:=by simpa using e
   subst this
   exact h y (List.mem_cons.mpr (.inl rfl)) hy
  rw [e,ded_go l (acc++[x]) h2 fun y hy=>?_]
  ·simp
  ·rw [List.mem_append]
   rintro (z | z)
   ·exact h y (List.mem_cons.mpr (.inr hy)) z
   ·rw [List.mem_singleton.mp z] at hy; exact h1 hy
theorem ded_nodup {l:List Int} (h:l.Nodup):ded l=l:=by
 unfold ded
 rw [ded_go l [] h fun _ _ z=>nomatch z]; simp
end Pu
namespace Fl
theorem jF {l:List Nat} (h:l.Nodup):(cl l).Nodup:=by
 unfold cl
 rw [List.Nodup,List.pairwise_map]
 exact h.imp fun hab e=>hab (by omega)
end Fl
namespace Pf
open Fl Pu Gr
theorem joined_eq {n x:Nat} {nb:Nat→List Nat} {bes:List (List Int)} {ks:List Nat} (hn:n≤10000) (hb:∀ i,i<n→bes[i]?=some (cl (nb i))) (hnb:∀ i o,o∈nb i→o<n) (hx:x∈ks) (hkn:∀ k∈ks,k<n) (hnd:ks.Nodup)
  (hr:∀ k∈ks,Rch (fun a b=>b∈nb a) (fun o=>o∈ks) x k):Pf.joined (cl ks) bes (x:Int)=some true:=by
 unfold Pf.joined
 refine n4 (fun s=>∃ kk ws,s.1.map (·.1)=cl kk∧s.2=cl ws∧(∀ k∈kk,k∈ks)∧Sea nb (fun o=>decide (o∈ks)) x kk ws∧ws.length≤kk.length) (fun s=>s.2.length+(n - s.1.length)) ?_ ?_ ?_ ?_
 ·exact ⟨[x],[x],rfl,rfl,fun k hk=>by simp at hk; subst hk; exact hx,Sea.start,nz6 _⟩
 ·show [(x:Int)].length+(n - [((x:Int),true)].length)<100000
  simp; omega
 ·rintro ⟨d,w⟩ ⟨kk,ws,e1,e2,hk,sea,hwk⟩
  simp only at e1 e2 ⊢
  subst e2
  refine ⟨!decide (cl ws=[]),rfl,fun hne=>?_⟩
  obtain ⟨u,ws',rfl⟩:∃ u ws',ws=ws'++[u]:=by
   rcases List.eq_nil_or_concat ws with z | ⟨l,a,z⟩
   ·subst z; simp at hne
   ·exact ⟨a,l,by rw [z]; simp⟩
  have hun:u<n:=hkn u (hk u (sea.sub u (by simp)))
  rw [ce,show cl [u]=[(u:Int)] from rfl,lS,nza,cf,hb u hun,nza,List.dropLast_concat]
  refine forS_ex (fun i s=>∃ kk' ws2,s.1.map (·.1)=cl kk'∧s.2=cl ws2∧(∀ k∈kk',k∈ks)∧SeaAt nb (fun o=>decide (o∈ks)) x u ((nb u).take i) kk' ws2∧ws2.length+kk.length=ws'.length+kk'.length) ?_ ?_ ?_
  ·exact ⟨kk,ws',e1,rfl,hk,by rw [List.take_zero]; exact sea.take (by simp) (fun w hw=>by simp at hw; exact hw.elim .inr .inl) fun w hw=>by simp [hw],rfl⟩
  ·rintro i y ⟨d2,w2⟩ hy ⟨kk',ws2,f1,f2,f3,f4,f6⟩
   simp only at f1 f2 ⊢
   subst f2
   rw [List.getElem?_map] at hy
   obtain ⟨o,ho,rfl⟩:∃ o,(nb u)[i]?=some o∧(o:Int)=y:=by
    cases q:(nb u)[i]? with
    | none=>rw [q] at hy; cases hy
    | some o=>rw [q] at hy; exact ⟨o,rfl,Option.some.inj hy⟩
   have hom:=List.mem_of_getElem? ho
   have etk:(nb u).take (i+1)=(nb u).take i++[o]:=by
    have:=(List.getElem?_eq_some_iff.mp ho).2
    rw [← this,List.take_append_getElem]
   have hlen:kk'.length≤n:=bD n f4.nd fun k hk=>hkn k (f3 k hk)
   have hd2:d2.length=kk'.length:=by have:=congrArg List.length f1; simpa using this
   have hw2:ws2.length≤30000:=by
    have:kk.length≤n:=bD n sea.nd fun k hk'=>hkn k (hk k hk')
    rw [List.length_append,List.length_singleton] at hwk
    omega
   rw [etk,find_some,f1]
   by_cases hin:o∈kk'
   ·rw [if_neg (by simp [aN.mpr hin])]
    exact ⟨_,rfl,kk',ws2,f1,rfl,f3,f4.skip fun _=>hin,f6⟩
   ·have hin':¬ ((o:Int)∈cl kk'):=fun z=>hin (aN.mp z)
    by_cases hok:o∈ks
    ·rw [if_pos (by rw [decide_eq_false hin',decide_eq_true (aN.mpr hok)]; rfl),if_pos (by exact nz2 (nz3 hd2) (nz2 hlen (nz2 hn (by decide)))),put_new (by rw [f1]; exact hin'),ic (by rw [bq]; exact nz5 (nz2 hw2 (by decide))),nza]
     refine ⟨_,rfl,kk'++[o],ws2++[o],by simp [f1],by simp,?_,f4.add hom (decide_eq_true hok) hin (fun w=>by simp),by simp; omega⟩
     intro k hk'
     rcases List.mem_append.mp hk' with z | z
     ·exact f3 k z
     ·rw [List.mem_singleton.mp z]; exact hok
    ·have hok':¬ ((o:Int)∈cl ks):=fun z=>hok (aN.mp z)
     rw [if_neg (by rw [decide_eq_false hok']; simp)]
     exact ⟨_,rfl,kk',ws2,f1,rfl,f3,f4.skip fun z=>absurd (of_decide_eq_true z) hok,f6⟩
  ·rintro ⟨d2,w2⟩ ⟨kk',ws2,f1,f2,f3,f4,f6⟩
   simp only at f1 f2 ⊢
   rw [bq,List.take_length] at f4
   have hlen:kk'.length≤n:=bD n f4.nd fun k hk=>hkn k (f3 k hk)
   have hd2:d2.length=kk'.length:=by have:=congrArg List.length f1; simpa using this
   have hd:d.length=kk.length:=by have:=congrArg List.length e1; simpa using this
   rw [List.length_append,List.length_singleton] at hwk
   have hlen0:kk.length≤n:=bD n sea.nd fun k hk'=>hkn k (hk k hk')
   refine ⟨_,rfl,⟨kk',ws2,f1,f2,f3,f4.fin,by omega⟩,?_⟩
   simp only [f2,bq,List.length_append,List.length_singleton]
   (clear f4 f3 f2 f1 hun hne hwk sea hk e1 hr hnd hkn hx hnb hb hn; omega)
 ·rintro ⟨d,w⟩ ⟨kk,ws,e1,e2,hk,sea,hwk⟩ ht
  simp only at e1 e2 ht ⊢
  subst e2
  have:ws=[]:=by
   cases ws with
   | nil=>rfl
   | cons _ _=>simp at ht
  subst this
  have pm:kk.Perm ks:=(List.perm_ext_iff_of_nodup sea.nd hnd).mpr fun k=>⟨hk k,fun h=>sea.all.mpr ((hr k h).mono fun a b h1 h2=>⟨h1,decide_eq_true h2⟩)⟩
  have hd:d.length=kk.length:=by have:=congrArg List.length e1; simpa using this
  congr 1
  rw [decide_eq_true_eq]
  unfold Pu.ln
  rw [hd,bq,pm.length_eq]
theorem oK {l:List Int} (h:l.Nodup) (hl:l.length<4000):Pu.mset l=some l:=by
 unfold Pu.mset
 rw [if_pos (by omega),ded_nodup h]
theorem sortI_of {l:List Int} (h:l.Pairwise (·≤·)) (hl:l.length<64):Pu.sortI l=some l:=by
 unfold Pu.sortI
 rw [if_pos hl]
 congr 1
 exact cu (le:=(·≤·)) (fun a b h1 h2=>Int.le_antisymm h1 h2) (da l) (dG l) h
end Pf
namespace Fl
open Pu
theorem nats_cl (n:Nat):nats n=cl (List.range n):=rfl
theorem ord_nd (hs:List Int):((List.range hs.length).map (hk hs)).Nodup:=by
 rw [List.Nodup,List.pairwise_map]
 refine List.nodup_range.imp fun {a b} hab e=>hab ?_
 have:(hk hs a).2=(hk hs b).2:=by rw [e]
 unfold hk at this
 simp only at this
 omega
theorem srtK_ord (hs:List Int):∃ os,srtK (cl (List.range hs.length)) ((List.range hs.length).map (hk hs))=cl os∧Ord hs os:=by
 unfold srtK
 have ez:((List.range hs.length).map (hk hs)).zip (cl (List.range hs.length))=(List.range hs.length).map fun (x:Nat)=>(hk hs x,(x:Int)):=by
  unfold cl
  rw [List.zip_map']
 rw [ez]
 have pm:=List.mergeSort_perm ((List.range hs.length).map fun (x:Nat)=>(hk hs x,(x:Int))) fun a b=>le2 a.1 b.1
 have so:(((List.range hs.length).map fun (x:Nat)=>(hk hs x,(x:Int))).mergeSort fun a b=>le2 a.1 b.1).Pairwise fun a b=>le2 a.1 b.1=true:=List.pairwise_mergeSort (fun a b c=>i4 a.1 b.1 c.1) (fun a b=>i5 a.1 b.1) _
 generalize (((List.range hs.length).map fun (x:Nat)=>(hk hs x,(x:Int))).mergeSort fun a b=>le2 a.1 b.1)=qs at pm so
 have form:∀ q∈qs,q=(hk hs q.2.toNat,(q.2.toNat:Int)):=fun q hq=>by
  refine oq12 (List.mem_map.mp (pm.mem_iff.mp hq)) fun i _ e=>?_
  rw [← e]; simp
 refine ⟨qs.map fun q=>q.2.toNat,?_,?_,?_⟩
 ·unfold cl
  rw [List.map_map]
  refine List.map_congr_left fun q hq=>?_
  have:=form q hq
  rw [this]; simp
 ·have:=pm.map fun q=>q.2.toNat
  rw [List.map_map] at this
  refine this.trans ?_
  have e:((List.range hs.length).map ((fun q:(Int × Int) × Int=>q.2.toNat) ∘ fun (x:Nat)=>(hk hs x,(x:Int))))=List.range hs.length:=by
   conv=>rhs; rw [← List.map_id (List.range hs.length)]
   refine List.map_congr_left fun i _=>?_
   simp
  rw [e]
 ·rw [List.pairwise_map]
  have nd:qs.Nodup:=by
   rw [pm.nodup_iff,List.Nodup,List.pairwise_map]
   refine List.nodup_range.imp fun {a b} hab e=>hab ?_
   have:=(Prod.mk.inj e).2
   omega
  refine (List.Pairwise.imp_of_mem ?_ (so.and nd))
  intro a b ha hb ⟨h1,h2⟩
  have fa:=form a ha
  have fb:=form b hb
  have ne:a.2.toNat≠b.2.toNat:=fun z=>h2 (by rw [fa,fb,z])
  rw [fa,fb] at h1
  simp only at h1
  unfold le2 at h1
  unfold lt2
  rw [decide_eq_true_eq] at *
  unfold hk at *
  simp only at *
  omega
end Fl
namespace Pf
open Fl Pu
section
variable {rows:List (List Int)} {c:Nat}
theorem gO (hp:0<rows.length) (hcm:c≤1000) (hm:rows.length≤1000) (h:∀ r∈rows,r.length=c):Pf.cx rows=some (cl (List.range (rows.length * c))):=by
 unfold Pf.cx
 have hb:rows.length * c≤1000000:=by
  have:=Nat.mul_le_mul hm hcm
  omega
 rw [eM hp h,nza,oG ⟨by simp; omega,by simp; exact Int.ofNat_lt.mpr (nz2 hm (by decide))⟩,nza]
 have e:(rows.length:Int) * (c:Int)=((rows.length * c:Nat):Int):=by simp
 simp only
 rw [e]
 unfold Pu.lrng
 rw [if_pos (oi03 (by omega) (by omega) (by omega)),Int.toNat_natCast,nats_cl]
theorem kL {g:Int→Option (Int × Int)} {f:Nat→Int × Int}:∀ {l:List Nat},(∀ x∈l,g (x:Int)=some (f x))→Pu.keysOf g (cl l)=some (l.map f)
 | [],_=>rfl
 | x :: l,h=>by
  show Pu.keysOf g ((x:Int) :: cl l)=_
  rw [Pu.keysOf,h x (List.mem_cons.mpr (.inl rfl)),nza,kL fun y hy=>h y (List.mem_cons.mpr (.inr hy))]
  rfl
theorem nq (hp:0<rows.length) (hc:0<c) (hcm:c≤1000) (hm:rows.length≤1000) (h:∀ r∈rows,r.length=c) (h64:rows.length * c<64):∃ os,Pf.c0 rows=some (cl os)∧Ord rows.flatten os:=by
 have hfl:rows.flatten.length=rows.length * c:=cW h
 refine oq12 (srtK_ord rows.flatten) fun os e o=>?_
 refine (oi12 os ?_ o)
 unfold Pf.c0
 rw [gO hp hcm hm h,nza]
 unfold Pu.sortK
 rw [kL (f:=hk rows.flatten) fun x hx=>by
  have hx:=List.mem_range.mp hx
  rw [d9 hc hcm h hx,dI hc h hx],nza]
 rw [hfl] at e
 have nd:=ord_nd rows.flatten
 rw [hfl] at nd
 rw [if_pos ⟨by rw [bq,List.length_range]; exact h64,nd⟩,e]
end
end Pf
namespace Pu
variable {α:Type}
theorem find_put {d:List (Int × α)} {k j:Int} {v:α}:find (put d k v) j=if j=k then some v else find d j:=by
 unfold put
 split
 ·rename_i h
  unfold find
  induction d with
  | nil=>simp at h
  | cons e d ih =>
   rw [List.map_cons,List.find?_cons,List.find?_cons]
   by_cases hk:e.1=k
   ·rw [if_pos hk]
    by_cases hj:j=k
    ·subst hj; simp [hk]
    ·rw [if_neg hj]
     have:¬ e.1=j:=fun z=>hj (z.symm.trans hk)
     simp only [this,decide_false]
     by_cases hr:(d.any fun kv=>decide (kv.1=k))=true
     ·have:=ih hr
      rw [if_neg hj] at this
      exact this
     ·have e2:d.map (fun kv=>if kv.1=k then (kv.1,v) else kv)=d:=by
       conv=>rhs; rw [← List.map_id d]
       refine List.map_congr_left fun kv hkv=>?_
       rw [if_neg]
       ·rfl
       ·intro z
        exact hr (List.any_eq_true.mpr (oi12 kv hkv (by simp [z])))
      rw [e2]
   ·rw [if_neg hk]
    have hr:(d.any fun kv=>decide (kv.1=k))=true:=by
     rw [List.any_cons] at h
     simpa [hk] using h
    have:=ih hr
    by_cases hj:e.1=j
    ·subst hj
     simp [hk]
    ·simp only [hj,decide_false]
     exact this
 ·rename_i h
  unfold find
  rw [List.find?_append]
  by_cases hj:j=k
  ·subst hj
   have:(d.find? fun kv=>decide (kv.1=j))=none:=by
    rw [List.find?_eq_none]
    intro kv hkv z
    exact h (List.any_eq_true.mpr (oi12 kv hkv z))
   rw [this]; simp
  ·rw [if_neg hj]
   have:¬ k=j:=fun z=>hj z.symm
   simp [this]
theorem put_len {d:List (Int × α)} {k:Int} {v:α}:(put d k v).length≤d.length+1:=by
 unfold put
 split
 ·rw [List.length_map]; exact nz5 (Nat.lt_succ_self _)
 ·simp
end Pu
namespace Fl
open Pu Gr
noncomputable def Nb (m c:Nat) (reach:Int) (a b:Nat):Prop:=a<m * c∧b<m * c∧adj c reach a b=true
theorem Nb.sy {m c:Nat} {reach:Int} (a b:Nat) (h:Nb m c reach a b):Nb m c reach b a:=⟨h.2.1,h.1,by rw [adj_comm]; exact h.2.2⟩
theorem eN {m c:Nat} {reach:Int} {a b:Nat} (ha:a<m * c):Nb m c reach a b↔b∈nbL m c reach a:=by
 rw [cM]; exact ⟨fun h=>⟨h.2.1,h.2.2⟩,fun h=>⟨ha,h.1,h.2⟩⟩
theorem Ord.inj {hs:List Int} {os:List Nat} (o:Ord hs os) (x y:Nat) (hx:x<hs.length) (hy:y<hs.length) (e:rk os x=rk os y):x=y:=by
 have h1:=o.at_rk hx
 rw [e,o.at_rk hy] at h1
 exact (Option.some.inj h1).symm
noncomputable def fT (n:Nat) (homes:List (Option Int)) (home:Nat→Option Nat):Prop:=homes.length=n∧∀ x,x<n→homes[x]?=some ((home x).map fun (s:Nat)=>(s:Int))
noncomputable def jG (ended:L2.End_) (par:Nat→Option (Nat × Nat)):Prop:=∀ s:Nat,find ended (s:Int)=(par s).map fun p=>(some (p.1:Int),some (p.2:Int))
end Fl
namespace Pf
open Fl Pu Gr
section
variable {rows:List (List Int)} {c:Nat} {reach:Int} {os:List Nat} {home:Nat→Option Nat} {par:Nat→Option (Nat × Nat)} {homes:List (Option Int)} {ended:L2.End_} {k n:Nat} {A:Nat→Nat→Prop}
theorem kN {ρ:Nat→Nat} (inj:∀ x y,x<n→y<n→ρ x=ρ y→x=y) (u:UF A n ρ k home par) (hk:k≤1000) (he:jG ended par) {s r:Nat} (hs:home s=some s) (h:Liv par s r):Pf.bB (rows,ended) (s:Int)=some (r:Int):=by
 unfold Pf.bB
 refine n4 (fun z=>∃ t:Nat,z=(t:Int)∧home t=some t∧Liv par t r) (fun z=>ρ z.toNat) (oi13 s rfl hs h) ?_ ?_ ?_
 ·rw [Int.toNat_natCast]
  have:=(u.dom s (by rw [hs]; exact nofun)).2
  exact nz8 this (nz2 hk (by decide))
 ·intro z zq; refine oq13 zq fun t eq1_ ht hl=>?_; subst eq1_
  refine (oi12 _ rfl (fun hb=>?_))
  simp only
  rw [he t] at hb ⊢
  cases q:par t with
  | none=>rw [q] at hb; cases hb
  | some p =>
   obtain ⟨m,e⟩:=p
   refine (oi13 (e:Int) rfl (oi13 e rfl ((u.pr t m e q).2.1) ?_) ?_)
   ·cases hl with
    | root z=>rw [q] at z; cases z
    | up z w=>rw [q] at z; cases z; exact w
   ·rw [Int.toNat_natCast,Int.toNat_natCast]
    exact u.rk_pr inj q
 ·rintro z ⟨t,rfl,ht,hl⟩ hb
  simp only at hb
  rw [he t] at hb
  cases hl with
  | root=>rfl
  | up q _=>rw [q] at hb; cases hb
theorem iG (hp:0<rows.length) (hc:0<c) (hcm:c≤1000) (hm:rows.length≤1000) (h:∀ r∈rows,r.length=c) (hh:fT (rows.length * c) homes home) {x:Nat} (hx:x<rows.length * c) :
  Pf.aR (rows,reach,homes,ended) (x:Int)=some (cl (((nbL rows.length c reach x).filter fun o=>(home o).isSome).map fun o=>(home o).getD 0)):=by
 unfold Pf.aR
 have hb:rows.length * c≤1000 * 1000:=Nat.mul_le_mul hm hcm
 simp only
 rw [eM hp h,nza,g9 hc hcm hm hx,nza]
 have mem:∀ y∈cl (nbL rows.length c reach x),∃ o:Nat,y=(o:Int)∧o<rows.length * c:=fun y hy=>by
  refine oq12 (eK.mp hy) fun o ho eq2_=>?_; subst eq2_
  exact (oi12 o rfl ((cM.mp ho).1))
 rw [compIf_ok (p:=fun y=>(home y.toNat).isSome) (g:=fun y=>(((home y.toNat).getD 0:Nat):Int)) (by rw [bq]; have:=nbL_len rows.length c reach x; omega)]
 ·congr 1
  unfold cl
  rw [List.filter_map,List.map_map,List.map_map]
  rfl
 ·intro y hy
  refine oq12 (mem y hy) fun o eq1_ ho=>?_; subst eq1_
  rw [cf,hh.2 o ho,nza,Int.toNat_natCast]
  cases home o <;> rfl
 ·intro y hy hq
  refine oq12 (mem y hy) fun o eq1_ ho=>?_; subst eq1_
  rw [Int.toNat_natCast] at hq ⊢
  rw [cf,hh.2 o ho,nza]
  cases q:home o with
  | none=>rw [q] at hq; cases hq
  | some s=>rfl
theorem jH {hs:List Int} (o:Ord hs os) {g:Int→Option (Int × Int)} (hg:∀ x,x<hs.length→g (x:Int)=some (hk hs x)):∀ {l:List Nat} {b:Nat},(∀ x∈l,x<hs.length)→b<hs.length→∃ e:Nat,Pu.iB g (cl l) (b:Int) (hk hs b)=some (e:Int)∧(e=b∨e∈l)∧rk os e≤rk os b∧∀ x∈l,rk os e≤rk os x
 | [],b,_,_=>(oi14 b rfl (.inl rfl) (nz6 _) (fun _ h=>nomatch h))
 | x :: l,b,hl,hb=>by
  have hx:=hl x (List.mem_cons.mpr (.inl rfl))
  show ∃ e:Nat,Pu.iB g ((x:Int) :: cl l) (b:Int) (hk hs b)=_∧_
  rw [Pu.iB,hg x hx,nza]
  cases q:lt2 (hk hs x) (hk hs b) with
  | true =>
   rw [if_pos rfl]
   refine oq14 (jH o hg (l:=l) (b:=x) (fun y hy=>hl y (List.mem_cons.mpr (.inr hy))) hx) fun e h1 h2 h3 h4=>?_
   have:=(o.lt_iff hx hb).mpr q
   refine (oi14 e h1 ?_ (by exact nz5 (nz2 h3 this)) (fun y hy=>?_))
   ·rcases h2 with z | z
    ·exact .inr (List.mem_cons.mpr (.inl z))
    ·exact .inr (List.mem_cons.mpr (.inr z))
   ·rcases List.mem_cons.mp hy with z | z
    ·rw [z]; exact h3
    ·exact h4 y z
  | false =>
   rw [if_neg Bool.false_ne_true]
   refine oq14 (jH o hg (l:=l) (b:=b) (fun y hy=>hl y (List.mem_cons.mpr (.inr hy))) hb) fun e h1 h2 h3 h4=>?_
   have:=(o.le_iff hb hx).mpr q
   refine (oi14 e h1 ?_ h3 (fun y hy=>?_))
   ·rcases h2 with z | z
    ·exact .inl z
    ·exact .inr (List.mem_cons.mpr (.inr z))
   ·rcases List.mem_cons.mp hy with z | z
    ·rw [z]; exact nz4 h3 this
    ·exact h4 y z
theorem jI (hc:0<c) (hcm:c≤1000) (h:∀ r∈rows,r.length=c) (o:Ord rows.flatten os) {l:List Nat} (hl:∀ x∈l,x<rows.length * c) (ne:l≠[]):∃ e:Nat,Pf.c6 rows (cl l)=some (e:Int)∧e∈l∧∀ x∈l,rk os e≤rk os x:=by
 have hfl:rows.flatten.length=rows.length * c:=cW h
 have hg:∀ x,x<rows.flatten.length→Pf.bj rows (x:Int)=some (hk rows.flatten x):=fun x hx=>by
  rw [d9 hc hcm h (by exact nz1 hx (nz3 hfl)),dI hc h (by exact nz1 hx (nz3 hfl))]
 unfold Pf.c6
 cases l with
 | nil=>exact absurd rfl ne
 | cons b l =>
  have hb:=hl b (List.mem_cons.mpr (.inl rfl))
  show ∃ e:Nat,Pu.minK (fun c1=>Pf.bj rows c1) ((b:Int) :: cl l)=_∧_
  rw [Pu.minK,hg b (by exact nz1 hb (nz3 hfl.symm)),nza]
  obtain ⟨e,h1,h2,h3,h4⟩:=jH o (g:=fun c1=>Pf.bj rows c1) hg (l:=l) (b:=b) (fun y hy=>by have:=hl y (List.mem_cons.mpr (.inr hy)); exact nz1 this (nz3 hfl.symm)) (by exact nz1 hb (nz3 hfl.symm))
  refine (oi13 e h1 ?_ (fun x hx=>?_))
  ·rcases h2 with z | z
   ·exact List.mem_cons.mpr (.inl z)
   ·exact List.mem_cons.mpr (.inr z)
  ·rcases List.mem_cons.mp hx with z | z
   ·rw [z]; exact h3
   ·exact h4 x z
theorem nr (hc:0<c) (hcm:c≤1000) (h:∀ r∈rows,r.length=c) (o:Ord rows.flatten os) (u:UF A (rows.length * c) (rk os) k home par) (hk:k≤1000) (he:jG ended par) (hel:ended.length≤1000000) {hs:List Nat} (hhs:∀ s∈hs,home s=some s) (hl:hs.length≤1000) (ne:hs≠[]) (x:Nat) :
  ∃ (met:List Nat) (elder:Nat) (ended':L2.End_),Pf.bH (rows,ended) (cl hs) (x:Int)=some ((elder:Int),ended')∧(∀ s∈hs,∃ r,r∈met∧Liv par s r)∧(∀ r∈met,∃ s,s∈hs∧Liv par s r)∧elder∈met∧(∀ r∈met,rk os elder≤rk os r) ∧
   jG ended' (fun s=>if s∈met∧s≠elder then some (x,elder) else par s)∧ended'.length≤ended.length+hs.length:=by
 have hfl:rows.flatten.length=rows.length * c:=cW h
 have inj:∀ x y,x<rows.length * c→y<rows.length * c→rk os x=rk os y→x=y:=fun x y hx hy=>o.inj x y (by exact nz1 hx (nz3 hfl.symm)) (by exact nz1 hy (nz3 hfl.symm))
 have rt:∀ s,∃ r,s∈hs→Liv par s r:=fun s=>by
  by_cases q:s∈hs
  ·refine oq12 (u.liv s s (hhs s q)) fun r h1 _=>?_
   exact ⟨r,fun _=>h1⟩
  ·exact ⟨0,fun z=>absurd z q⟩
 refine oq11 (show ∃ root:Nat→Nat,∀ s∈hs,Liv par s (root s) from ⟨fun s=>(rt s).choose,fun s hs=>(rt s).choose_spec hs⟩) fun root hroot=>?_
 have e1:Pu.comp (fun (y1:Int)=>Pf.bB (rows,ended) y1) (cl hs)=some (cl (hs.map root)):=by
  rw [cO (g:=fun y=>((root y.toNat:Nat):Int)) (by rw [bq]; exact nz5 (nz2 hl (by decide)))]
  ·congr 1
   unfold cl
   rw [List.map_map,List.map_map]; rfl
  ·intro y hy
   refine oq12 (eK.mp hy) fun s hs' eq2_=>?_; subst eq2_
   rw [Int.toNat_natCast]
   exact kN inj u hk he (hhs s hs') (hroot s hs')
 have hmet:∀ r∈hs.map root,r<rows.length * c:=fun r hr=>by
  refine oq12 (List.mem_map.mp hr) fun s hs' eq2_=>?_; subst eq2_
  have:=u.root (hhs s hs') (hroot s hs')
  exact (u.dom _ (by rw [this]; exact nofun)).1
 refine oq13 (jI hc hcm h o hmet (by simpa using ne)) fun elder g1 g2 g3=>?_
 have e3:∃ ended',Pu.forS (fun (s5:L2.End_) (x4:Int)=>if (!decide (x4=(elder:Int)))=true then if s5.length<16777216 then some (Pu.put s5 x4 (some (x:Int),some (elder:Int))) else none else some s5) (cl (hs.map root)) ended=some ended' ∧
   (∀ s:Nat,find ended' (s:Int)=if s∈(hs.map root).take (cl (hs.map root)).length∧s≠elder then some (some (x:Int),some (elder:Int)) else find ended (s:Int))∧ended'.length≤ended.length+(cl (hs.map root)).length:=by
  refine gM (fun i (e:L2.End_)=>(∀ s:Nat,find e (s:Int)=if s∈(hs.map root).take i∧s≠elder then some (some (x:Int),some (elder:Int)) else find ended (s:Int))∧e.length≤ended.length+i) ⟨fun s=>by simp,by exact Nat.le_add_right _ _⟩ ?_
  intro i y e hy zq; refine oq02 zq fun h1 h2=>?_
  have hi:i<(cl (hs.map root)).length:=(List.getElem?_eq_some_iff.mp hy).1
  rw [bq,List.length_map] at hi
  unfold cl at hy
  rw [List.getElem?_map] at hy
  refine oq12 (Option.map_eq_some_iff.mp hy) fun r hr eq2_=>?_; subst eq2_
  have tk:(hs.map root).take (i+1)=(hs.map root).take i++[r]:=by
   have e:=(List.getElem?_eq_some_iff.mp hr).2
   rw [← e,List.take_append_getElem]
  by_cases q:r=elder
  ·refine (oi13 e (by rw [if_neg (by simp [q])]) (fun s=>?_) (by omega))
   rw [h1 s,tk]
   have:(s∈(hs.map root).take i++[r]∧s≠elder)↔(s∈(hs.map root).take i∧s≠elder):=by
    rw [List.mem_append,List.mem_singleton]
    constructor
    ·rintro ⟨z | z,w⟩
     ·exact ⟨z,w⟩
     ·exact absurd (z.trans q) w
    ·intro zq; refine oq02 zq fun z w=>?_; exact ⟨.inl z,w⟩
   simp only [this]
  ·refine (oi13 _ (by rw [if_pos (by simp; (clear tk hy hr hi h2 h1 g3 g2 g1 hmet e1 hroot rt inj hfl ne hl hhs hel he hk u o h hcm hc; omega)),if_pos (by omega)]) (fun s=>?_) (by have:=put_len (d:=e) (k:=(r:Int)) (v:=(some (x:Int),some (elder:Int))); omega))
   rw [find_put,tk]
   by_cases qs:s=r
   ·subst qs
    rw [if_pos rfl,if_pos ⟨by simp,q⟩]
   ·rw [if_neg (by (clear q tk hy hr hi h2 h1 g3 g2 g1 hmet e1 hroot rt inj hfl ne hl hhs hel he hk u o h hcm hc; omega)),h1 s]
    have:(s∈(hs.map root).take i++[r]∧s≠elder)↔(s∈(hs.map root).take i∧s≠elder):=by
     rw [List.mem_append,List.mem_singleton]
     constructor
     ·rintro ⟨z | z,w⟩
      ·exact ⟨z,w⟩
      ·exact absurd z qs
     ·intro zq; refine oq02 zq fun z w=>?_; exact ⟨.inl z,w⟩
    simp only [this]
 refine oq13 e3 fun ended' f1 f2 f3=>?_
 refine (oi37 (hs.map root) elder ended' ?_ (fun s hs'=>(oi12 (root s) (List.mem_map.mpr (oi12 s hs' rfl)) (hroot s hs'))) (fun r hr=>?_) g2 g3 (fun s=>?_) ?_)
 ·unfold Pf.bH
  simp only
  rw [e1,nza,g1,nza,f1,nza]
 ·refine oq12 (List.mem_map.mp hr) fun s hs' eq2_=>?_; subst eq2_
  exact (oi12 s hs' (hroot s hs'))
 ·show find ended' (s:Int)=(if s∈hs.map root∧s≠elder then some (x,elder) else par s).map _
  rw [f2 s,bq,List.take_length]
  by_cases q:s∈hs.map root∧s≠elder
  ·rw [if_pos q,if_pos q]; rfl
  ·rw [if_neg q,if_neg q]; exact he s
 ·rw [bq,List.length_map] at f3; exact f3
theorem ny (hp:0<rows.length) (hc:0<c) (hcm:c≤1000) (hm:rows.length≤1000) (h:∀ r∈rows,r.length=c) (h64:rows.length * c<64) (o:Ord rows.flatten os) (u:UF (Nb rows.length c reach) (rows.length * c) (rk os) k home par) (hk:k≤64) (he:jG ended par) (hel:ended.length≤k * 64) (hh:fT (rows.length * c) homes home)
  {x:Nat} (hx:x<rows.length * c) (hr:rk os x=k):∃ homes' ended' home' par',Pf.c7 (rows,reach,homes,ended) (x:Int)=some (homes',ended')∧UF (Nb rows.length c reach) (rows.length * c) (rk os) (k+1) home' par'∧jG ended' par'∧ended'.length≤(k+1) * 64∧fT (rows.length * c) homes' home':=by
 have hfl:rows.flatten.length=rows.length * c:=cW h
 have inj:∀ x y,x<rows.length * c→y<rows.length * c→rk os x=rk os y→x=y:=fun x y hx hy=>o.inj x y (by exact nz1 hx (nz3 hfl.symm)) (by exact nz1 hy (nz3 hfl.symm))
 have nbl:=nbL_len rows.length c reach x
 unfold Pf.c7
 rw [iG hp hc hcm hm h hh hx,nza]
 have set_ok:∀ v:Nat,fT (rows.length * c) (homes.set x (some (v:Int))) (fun y=>if y=x then some v else home y):=fun v=>by
  refine ⟨by rw [List.length_set]; exact hh.1,fun y hy=>?_⟩
  show _=some ((if y=x then some v else home y).map _)
  rw [List.getElem?_set]
  by_cases e:x=y
  ·subst e
   rw [if_pos rfl,if_pos (by rw [hh.1]; exact hx),if_pos rfl]; rfl
  ·rw [if_neg e,if_neg (fun z=>e z.symm)]; exact hh.2 y hy
 have hix:L2.ixN homes.length (x:Int)=some x:=ixN_nat (by rw [hh.1]; exact hx)
 generalize eh:((nbL rows.length c reach x).filter fun o=>(home o).isSome).map (fun o=>(home o).getD 0)=hs
 have memhs:∀ s,s∈hs↔∃ o',Nb rows.length c reach x o'∧home o'=some s:=fun s=>by
  rw [← eh,List.mem_map]
  constructor
  ·intro zq; refine oq12 zq fun o' h1 h2=>?_
   refine oq02 (List.mem_filter.mp h1) fun h3 h4=>?_
   refine oq11 (Option.isSome_iff_exists.mp h4) fun t ht=>?_
   rw [ht] at h2
   exact (oi12 o' ((eN hx).mpr h3) (by rw [ht]; exact congrArg some h2))
  ·intro zq; refine oq12 zq fun o' h1 h2=>?_
   exact (oi12 o' (List.mem_filter.mpr ⟨(eN hx).mp h1,by rw [h2]; rfl⟩) (by rw [h2]; rfl))
 have hlen:hs.length≤64:=by
  rw [← eh,List.length_map]
  have:=List.length_filter_le (fun o=>(home o).isSome) (nbL rows.length c reach x)
  exact nz5 (nz2 this (nz2 nbl h64))
 by_cases ne:hs=[]
 ·refine (oi45 _ _ (fun y=>if y=x then some x else home y) par ?_ ?_ he (by omega) (set_ok x))
  ·rw [ne,if_neg (by simp),nza]
   simp only
   rw [hix,nza]
  ·refine u.alone Nb.sy inj hx hr (fun o' h1 h2=>?_) (if_pos rfl) fun y hy=>if_neg hy
   refine oq11 (u.has o' h2) fun s hs'=>?_
   have:s∈hs:=(memhs s).mpr (oi12 o' h1 hs')
   rw [ne] at this; cases this
 ·obtain ⟨met,elder,ended',g1,g2,g3,g4,g5,g6,g7⟩:=nr hc hcm h o u (by exact nz5 (nz2 hk (by decide))) he (by omega) (hs:=hs) (fun s hs'=>by
   refine oq12 ((memhs s).mp hs') fun o' h1 h2=>?_
   exact u.own o' s h2) (by exact nz5 (nz2 hlen (by decide))) ne x
  refine (oi45 _ _ (fun y=>if y=x then some elder else home y) (fun s=>if s∈met∧s≠elder then some (x,elder) else par s) ?_ ?_ g6 (by omega) (set_ok elder))
  ·rw [if_pos (by cases hs with | nil=>exact absurd rfl ne | cons=>rfl),g1,nza]
   simp only
   rw [hix,nza]
  ·refine u.meet Nb.sy inj (met:=met) (elder:=elder) hx hr (fun o' s h1 h2=>g2 s ((memhs s).mpr (oi12 o' h1 h2))) (fun r hr'=>?_) g4 g5 (if_pos rfl) (fun y hy=>if_neg hy) (fun s h1 h2=>if_pos ⟨h1,h2⟩) fun s hs'=>if_neg hs'
   refine oq12 (g3 r hr') fun s h1 h2=>?_
   refine oq12 ((memhs s).mp h1) fun o' h3 h4=>?_
   exact (oi23 o' s h3 h4 h2)
theorem ord_at {hs:List Int} (o:Ord hs os) {i x:Nat} (h:os[i]?=some x):x<hs.length∧rk os x=i:=⟨o.mem.mp (List.mem_of_getElem? h),o.rk_at h⟩
end
end Pf
namespace Fl
open Pu Gr
theorem Ord.uniq {hs:List Int} {os os':List Nat} (o:Ord hs os) (o':Ord hs os'):os=os' :=
 cu (le:=fun a b=>lt2 (hk hs a) (hk hs b)=true) (fun a b h1 h2=>by rw [lt2_as h1] at h2; cases h2) (o.pm.trans o'.pm.symm) o.up o'.up
end Fl
namespace Pf
open Fl Pu Gr
theorem nz (hs:List Int):Pf.ee hs=Pf.places hs:=rfl
theorem ex_cl {P:List Nat→Prop} {e:Option (List Int)} (h:∃ o,e=some o∧∃ ks:List Nat,o=cl ks∧P ks):∃ ks:List Nat,e=some (cl ks)∧P ks:=by
 refine oq12 h fun o h1 zz=>oq12 zz fun ks eq3_ h2=>?_; subst eq3_
 exact (oi12 ks h1 h2)
end Pf
namespace Pf
open Fl Pu Gr
end Pf
namespace Fl
open Pu Gr
theorem nA (a:Int):dif a a=0:=by unfold dif; rw [Int.sub_self]; rfl
theorem nB {a:Nat} (h:1≤a):dif ((a - 1:Nat):Int) (a:Int)=1:=by
 refine oq11 (Nat.exists_eq_add_of_le' h) fun b eq1_=>?_; subst eq1_
 rw [Nat.add_sub_cancel,Int.natCast_add]
 unfold dif
 split <;> omega
theorem nb_down {m c:Nat} {reach:Int} (hc:0<c) {x:Nat} (hx:x<m * c) (h0:0<x):∃ y,y<x∧Nb m c reach x y:=by
 by_cases h:x % c=0
 ·have h1:c≤x:=by
   rcases Nat.lt_or_ge x c with z | z
   ·rw [Nat.mod_eq_of_lt z] at h; omega
   ·exact z
  refine ⟨x - c,by omega,hx,by exact nz2 (Nat.sub_le _ _) hx,?_⟩
  unfold adj
  rw [decide_eq_true_eq]
  refine .inl ?_
  have e1:(x - c) / c=x / c - 1:=by
   have:=Nat.sub_mul_div x c 1
   rw [Nat.mul_one] at this; exact this
  have e2:(x - c) % c=x % c:=(Nat.mod_eq_sub_mod h1).symm
  have h2:1≤x / c:=(Nat.le_div_iff_mul_le hc).mpr (by omega)
  rw [e1,e2,nA,nB h2]
  rfl
 ·have e:x=x / c * c+x % c:=by rw [Nat.mul_comm]; exact (Nat.div_add_mod x c).symm
  have h1:x % c<c:=Nat.mod_lt _ hc
  have h2:x - 1=x / c * c+(x % c - 1):=by omega
  refine ⟨x - 1,by omega,hx,by exact nz2 (Nat.sub_le _ _) hx,?_⟩
  refine oq02 (gB (i:=x / c) (j:=x % c - 1) (c:=c) (by exact nz2 (Nat.sub_le _ _) h1)) fun e1 e2=>?_
  unfold adj
  rw [decide_eq_true_eq]
  refine .inl ?_
  rw [h2,e1,e2,nA,nB (Nat.pos_of_ne_zero h)]
  rfl
theorem jJ {m c:Nat} {reach:Int} {ρ:Nat→Nat} {n:Nat} (hc:0<c) (hn:n=m * c) (hρ:∀ x,x<n→ρ x<n):∀ x,x<n→Rch (Nb m c reach) (Lv n ρ n) x 0:=fun x=>by
 induction x using Nat.strongRecOn with
 | ind x ih =>
  intro hx
  by_cases h0:x=0
  ·subst h0; exact .here
  ·obtain ⟨y,h1,h2⟩:=nb_down (reach:=reach) hc (show x<m * c by exact nz1 hx (nz3 hn)) (by omega)
   exact Rch.trans (.on .here h2 ⟨by exact nz8 h1 hx,hρ y (by exact nz8 h1 hx)⟩) (ih y h1 (by exact nz8 h1 hx))
end Fl
namespace Pu
theorem kO {S R β:Type} {f:S→β→Option (Ctl S R)} {P:R→Prop} (I:Nat→S→Prop):∀ {xs:List β} {s:S},I 0 s→(∀ i x s,xs[i]?=some x→I i s→(∃ s',f s x=some (.nx s')∧I (i+1) s')∨∃ r,f s x=some (.rt r)∧P r) →
  (∃ s',forC f xs s=some (.nx s')∧I xs.length s')∨∃ r,forC f xs s=some (.rt r)∧P r
 | [],s,h0,_=>.inl (oi12 s rfl h0)
 | x :: xs,s,h0,h=>by
  rcases h 0 x s rfl h0 with ⟨s',e,h1⟩ | ⟨r,e,h1⟩
  ·rw [hU,e]
   have:=kO (fun i=>I (i+1)) (xs:=xs) (s:=s') h1 fun i y t hy ht=>h (i+1) y t (by simpa using hy) ht
   rcases this with ⟨t,e2,h2⟩ | ⟨r,e2,h2⟩
   ·exact .inl (oi12 t e2 h2)
   ·exact .inr (oi12 r e2 h2)
  ·exact .inr (oi12 r (by rw [hU,e]; rfl) h1)
theorem lT {α:Type} (l:List α) (a:α):at_ (l++[a]) (-1)=some a:=by
 unfold at_ L2.atI L2.ixN
 rw [if_neg (by omega),if_pos (by simp; omega)]
 have:((-1:Int)+((l++[a]).length:Int)).toNat=l.length:=by simp; omega
 simp only [this,nza]
 simp
theorem find_at {α:Type}:∀ {d:List (Int × α)} {i:Nat} {k:Int} {v:α},(d.map (·.1)).Nodup→d[i]?=some (k,v)→find d k=some v
 | [],i,k,v,_,h=>by simp at h
 | e :: d,0,k,v,_,h=>by
  have:e=(k,v):=by simpa using h
  subst this
  unfold find; simp
 | e :: d,i+1,k,v,hn,h=>by
  have h':d[i]?=some (k,v):=by simpa using h
  have hn':=List.nodup_cons.mp (show (e.1 :: d.map (·.1)).Nodup from hn)
  have ne:¬ e.1=k:=fun z=>hn'.1 (by rw [z]; exact List.mem_map.mpr (oi12 (k,v) (List.mem_of_getElem? h') rfl))
  have:=find_at hn'.2 h'
  unfold find at this ⊢
  rw [List.find?_cons]
  simp only [ne,decide_false]
  exact this
end Pu
namespace Pf
open Fl Pu Gr
theorem iC (p:List (List Int) × L2.End_) (s:Int):(Pf.ay p (some s)).bind (fun x=>x)=Pf.bB p s:=by
 unfold Pf.ay Pf.bB
 have:∀ (n:Nat) (s:Int),(Pu.whS (fun (s2:Option Int)=>some ((Pu.mY p.2 s2).isSome)) (fun (s2:Option Int)=>(((s2).bind fun x3=>Pu.find p.2 x3).bind fun x4=>some (x4.2)).bind fun here6=>some (here6)) n (some s)).bind (fun x=>x) =
   Pu.whS (fun (s2:Int)=>some ((Pu.find p.2 s2).isSome)) (fun (s2:Int)=>(((Pu.find p.2 s2).bind fun x3=>some (x3.2)).bind fun x5=>x5).bind fun here6=>some (here6)) n s:=fun n=>by
  induction n with
  | zero=>intro s; rfl
  | succ n ih =>
   intro s
   rw [Pu.whS,Pu.whS,bs,bs]
   have e0:Pu.mY p.2 (some s)=Pu.find p.2 s:=rfl
   simp only [e0,nza]
   cases q:Pu.find p.2 s with
   | none=>rfl
   | some e =>
    simp only [Option.isSome_some,if_true,nza]
    cases q2:e.2 with
    | none =>
     cases n with
     | zero=>rfl
     | succ n=>rw [Pu.whS]; rfl
    | some e2=>exact ih e2
 have h:=this 100000 s
 rw [nz9]
 show Option.bind _ (fun x=>x)=_
 rw [h]
 cases Pu.whS (fun (s2:Int)=>some ((Pu.find p.2 s2).isSome)) (fun (s2:Int)=>(((Pu.find p.2 s2).bind fun x3=>some (x3.2)).bind fun x5=>x5).bind fun here6=>some (here6)) 100000 s <;> rfl
theorem k8 (p:List (List Int) × L2.End_):Pf.ay p none=some none:=by
 unfold Pf.ay
 rw [Pu.whS]; rfl
theorem k9:Pf.aW=Pf.bH:=by
 funext p l m
 unfold Pf.aW Pf.bH
 simp only [iC]
theorem kd:Pf.br=Pf.c7:=by
 funext p x
 unfold Pf.br Pf.c7
 rw [k9]
section
variable {rows:List (List Int)} {c:Nat} {reach:Int} {os:List Nat}
theorem gP {ρ:Nat→Nat} {A:Nat→Nat→Prop} {n k:Nat} {home:Nat→Option Nat} {par:Nat→Option (Nat × Nat)} {homes:List (Option Int)} {ended:L2.End_} (inj:∀ x y,x<n→y<n→ρ x=ρ y→x=y) (u:UF A n ρ k home par) (hk:k≤1000) (he:jG ended par) (hh:fT n homes home) {x:Nat} (hx:x<n) :
  (home x=none∧Pf.aJ (rows,reach,homes,ended) (x:Int)=some none)∨∃ r,Lv n ρ k x∧Fst A n ρ k x r∧Pf.aJ (rows,reach,homes,ended) (x:Int)=some (some (r:Int)):=by
 unfold Pf.aJ
 simp only
 rw [cf,hh.2 x hx,bs]
 cases q:home x with
 | none=>exact .inl ⟨rfl,k8 _⟩
 | some s =>
  refine oq12 (u.liv x s q) fun r h1 h2=>?_
  refine .inr (oi13 r (u.dom x (by rw [q]; exact nofun)) h2 ?_)
  have e:=kN (rows:=rows) inj u hk he (u.own x s q) h1
  rw [← iC] at e
  show Pf.ay (rows,ended) (some (s:Int))=_
  cases z:Pf.ay (rows,ended) (some (s:Int)) with
  | none=>rw [z] at e; cases e
  | some w=>rw [z] at e; rw [show w=some (r:Int) from e]
theorem oM (hp:0<rows.length) (hc:0<c) (hcm:c≤1000) (hm:rows.length≤1000) (h:∀ r∈rows,r.length=c) (h64:rows.length * c<64) (o:Ord rows.flatten os) (eo:Pf.c0 rows=some (cl os)) {one other:Nat} (h1:one<rows.length * c) (h2:other<rows.length * c) :
  ∃ m:Nat,Pf.cb rows reach (one:Int) (other:Int)=some (some (m:Int))∧m<rows.length * c∧rk os one≤rk os m∧rk os other≤rk os m∧Rch (Nb rows.length c reach) (Lv (rows.length * c) (rk os) (rk os m+1)) one other ∧
   ∀ k,Lv (rows.length * c) (rk os) k one→Lv (rows.length * c) (rk os) k other→Rch (Nb rows.length c reach) (Lv (rows.length * c) (rk os) k) one other→rk os m<k:=by
 have hfl:rows.flatten.length=rows.length * c:=cW h
 have olen:=o.len
 have inj:∀ x y,x<rows.length * c→y<rows.length * c→rk os x=rk os y→x=y:=fun x y hx hy=>o.inj x y (by exact nz1 hx (nz3 hfl.symm)) (by exact nz1 hy (nz3 hfl.symm))
 have hρ:∀ x,x<rows.length * c→rk os x<rows.length * c:=fun x hx=>by have:=o.rk_lt (x:=x) (by exact nz1 hx (nz3 hfl.symm)); exact nz1 this (nz3 hfl)
 have e0:Pf.fQ rows=some ((List.range (rows.length * c)).map fun _=>none):=by
  unfold Pf.fQ
  rw [gO hp hcm hm h,nza,cO (g:=fun _=>(none:Option Int)) (by rw [bq,List.length_range]; exact nz5 (nz8 h64 (by decide))) fun _ _=>rfl]
  congr 1
  unfold cl
  rw [List.map_map]; rfl
 unfold Pf.cb
 rw [e0,bs,eo,bs,kd]
 have key:=kO (f:=fun (s3:List (Option Int) × L2.End_) (x2:Int)=>(Pf.c7 (rows,reach,s3.1,s3.2) x2).bind fun c=>(Pf.aJ (rows,reach,c.1,c.2) (one:Int)).bind fun st=>(if st.isSome=true then (Pf.aJ (rows,reach,c.1,c.2) (other:Int)).bind fun o=>some (decide (st=o)) else some false).bind fun b=>if b=true then some (Ctl.rt (some x2)) else some (Ctl.nx (c.1,c.2)))
  (P:=fun (r:Option Int)=>∃ m:Nat,r=some (m:Int)∧m<rows.length * c∧rk os one≤rk os m∧rk os other≤rk os m∧Rch (Nb rows.length c reach) (Lv (rows.length * c) (rk os) (rk os m+1)) one other ∧
   ¬ (Lv (rows.length * c) (rk os) (rk os m) one∧Lv (rows.length * c) (rk os) (rk os m) other∧Rch (Nb rows.length c reach) (Lv (rows.length * c) (rk os) (rk os m)) one other))
  (fun i s=>(∃ home par,UF (Nb rows.length c reach) (rows.length * c) (rk os) i home par∧jG s.2 par∧s.2.length≤i * 64∧fT (rows.length * c) s.1 home) ∧
   ¬ (Lv (rows.length * c) (rk os) i one∧Lv (rows.length * c) (rk os) i other∧Rch (Nb rows.length c reach) (Lv (rows.length * c) (rk os) i) one other))
  (xs:=cl os) (s:=((List.range (rows.length * c)).map fun _=>none,[]))
  ⟨⟨fun _=>none,fun _=>none,UF.start,fun _=>rfl,by simp,by simp,fun x hx=>by rw [List.getElem?_map,List.getElem?_range hx]; rfl⟩,fun z=>absurd z.1.2 (Nat.not_lt_zero _)⟩ fun i y s hy ⟨⟨home,par,u,he,hel,hh⟩,nj⟩=>by
   obtain ⟨homes,ended⟩:=s
   unfold cl at hy
   rw [List.getElem?_map] at hy
   refine oq12 (Option.map_eq_some_iff.mp hy) fun x hx eq2_=>?_; subst eq2_
   refine oq02 (ord_at o hx) fun g1 g2=>?_
   have hi:i<64:=by
    have:=(List.getElem?_eq_some_iff.mp hx).1
    exact nz8 this (nz2 (nz3 olen) (nz2 (nz3 hfl) h64))
   have hxn:x<rows.length * c:=by exact nz1 g1 (nz3 hfl)
   refine oq45 (ny hp hc hcm hm h h64 o u (by exact nz5 hi) he hel hh hxn g2) fun homes' ended' home' par' f1 f2 f3 f4 f5=>?_
   rcases gP (rows:=rows) (reach:=reach) inj f2 (by exact nz8 hi (by decide)) f3 f5 h1 with ⟨a1,a2⟩ | ⟨r,a0,a1,a2⟩
   ·exact .inl (oi13 (homes',ended') (bnk f1 (bnk a2 (bnk (a:=false) (if_neg Bool.false_ne_true) (if_neg Bool.false_ne_true)))) (oi24 home' par' f2 f3 f4 f5) (fun z=>oq11 (f2.has one z.1) fun s hs=>nomatch a1.symm.trans hs))
   ·rcases gP (rows:=rows) (reach:=reach) inj f2 (by exact nz8 hi (by decide)) f3 f5 h2 with ⟨b1,b2⟩ | ⟨r',b0,b1,b2⟩
    ·exact .inl (oi13 (homes',ended') (bnk f1 (bnk a2 (bnk (a:=false) ((if_pos rfl).trans (bnk b2 (congrArg some (decide_eq_false nofun)))) (if_neg Bool.false_ne_true)))) (oi24 home' par' f2 f3 f4 f5) (fun z=>oq11 (f2.has other z.2.1) fun s hs=>nomatch b1.symm.trans hs))
    ·by_cases q:r=r'
     ·subst q
      exact .inr ⟨_,bnk f1 (bnk a2 (bnk (a:=true) ((if_pos rfl).trans (bnk b2 (congrArg some (decide_eq_true rfl)))) (if_pos rfl))),x,rfl,hxn,nz4 (Nat.le_of_lt_succ a0.2) (nz3 g2.symm),nz4 (Nat.le_of_lt_succ b0.2) (nz3 g2.symm),by rw [g2]; exact a1.rch.trans (b1.rch.symm Nb.sy b0),by rw [g2]; exact nj⟩
     ·exact .inl (oi13 (homes',ended') (bnk f1 (bnk a2 (bnk (a:=false) ((if_pos rfl).trans (bnk b2 (congrArg some (decide_eq_false fun e=>q (Int.ofNat.inj (Option.some.inj e)))))) (if_neg Bool.false_ne_true)))) (oi24 home' par' f2 f3 f4 f5) (fun z=>q ((a1.of_rch Nb.sy a0 z.2.2).same inj b1)))
 rcases key with ⟨s',e,⟨_,nj⟩⟩ | ⟨r,e,m,rfl,g1,g2,g3,g4,g5⟩
 ·exfalso
  rw [bq,olen,hfl] at nj
  exact nj (oi03 ⟨h1,hρ _ h1⟩ ⟨h2,hρ _ h2⟩ ((jJ hc rfl hρ one h1).trans ((jJ hc rfl hρ other h2).symm Nb.sy ⟨h2,hρ _ h2⟩)))
 ·refine (oi16 m (by rw [show Pu.forC _ _ _=_ from e]; rfl) g1 g2 g3 g4 (fun k k1 k2 k3=>?_))
  rcases Nat.lt_or_ge (rk os m) k with z | z
  ·exact z
  ·exact absurd (oi03 ⟨k1.1,nz1 k1.2 z⟩ ⟨k2.1,nz1 k2.2 z⟩ (k3.mono fun a b q1 q2=>⟨q1,q2.1,nz1 q2.2 z⟩)) g5
theorem upTo_lv (hc:0<c) (h:∀ r∈rows,r.length=c) (o:Ord rows.flatten os) {x y last:Nat} (hx:x<rows.length * c) (hl:last<rows.length * c):Rch (fun a b=>b∈nbL rows.length c reach a) (fun y=>upTo rows c last y=true) x y↔Rch (Nb rows.length c reach) (Lv (rows.length * c) (rk os) (rk os last+1)) x y:=by
 have hfl:rows.flatten.length=rows.length * c:=cW h
 have up:∀ z,z<rows.length * c→(upTo rows c last z=true↔rk os z≤rk os last):=fun z hz=>by
  rw [o.le_iff (by exact nz1 hz (nz3 hfl.symm)) (by exact nz1 hl (nz3 hfl.symm)),dI hc h hz,dI hc h hl]
  unfold upTo
  simp
 constructor
 ·intro hr
  have:y<rows.length * c∧Rch (Nb rows.length c reach) (Lv (rows.length * c) (rk os) (rk os last+1)) x y:=by
   induction hr with
   | here=>exact ⟨hx,.here⟩
   | on _ g2 g3 ih =>
    have hz:=(cM.mp g2).1
    exact ⟨hz,.on ih.2 ((eN ih.1).mpr g2) ⟨hz,by have:=(up _ hz).mp g3; exact nz2 this (Nat.lt_succ_self _)⟩⟩
  exact this.2
 ·intro hr
  induction hr with
  | here=>exact .here
  | on _ g2 g3 ih=>exact .on ih ((eN g2.1).mp g2) ((up _ g3.1).mpr (by have:=g3.2; exact Nat.le_of_lt_succ this))
structure Way (m c:Nat) (reach:Int) (one other:Nat) (w:List Nat):Prop where
 hd:w.head?=some one
 lst:w.getLast?=some other
 nd:w.Nodup
 nb:∀ j a b,w[j]?=some a→w[j+1]?=some b→b∈nbL m c reach a
theorem lU (hc:0<c) (hcm:c≤100) (hm:rows.length≤100) (h:∀ r∈rows,r.length=c) (h64:rows.length * c<64) (o:Ord rows.flatten os) {one other last:Nat} (h1:one<rows.length * c) (h2:other<rows.length * c) (h3:last<rows.length * c) (hl:rk os other≤rk os last)
  (hj:Rch (Nb rows.length c reach) (Lv (rows.length * c) (rk os) (rk os last+1)) other one):∃ w,Pf.dc rows reach (one:Int) (other:Int) (last:Int)=some (cl w)∧Way rows.length c reach one other w∧∀ y∈w,y<rows.length * c∧rk os y≤rk os last:=by
 refine oq25 (gN (reach:=reach) hc hcm hm h h2 h3) fun d ks e1 e2 e3 e4 e5=>?_
 have e4':∀ y,y∈ks↔Rch (Nb rows.length c reach) (Lv (rows.length * c) (rk os) (rk os last+1)) other y:=fun y=>by rw [e4 y,upTo_lv hc h o h2 h3]
 have kin:∀ y,y∈ks→y<rows.length * c∧rk os y≤rk os last:=fun y hy=>by
  have:=(e4' y).mp hy
  cases this with
  | here=>exact ⟨h2,hl⟩
  | on _ _ g=>exact ⟨g.1,by have:=g.2; exact Nat.le_of_lt_succ this⟩
 have kl:ks.length≤rows.length * c:=bD _ e3 fun y hy=>(kin y hy).1
 have hone:one∈ks:=(e4' one).mpr hj
 have nd:(d.map (·.1)).Nodup:=by rw [e2]; exact jF e3
 unfold Pf.dc
 rw [e1,bs]
 have dk:∀ i:Nat,(d[i]?).map (·.1)=(ks[i]?).map fun (y:Nat)=>(y:Int):=fun i=>by
  rw [← List.getElem?_map,e2]; unfold cl; rw [List.getElem?_map]
 have hN:∀ i y,ks[i]?=some y→ks.idxOf y=i:=fun i y hy=>by
  have hi:=(List.getElem?_eq_some_iff.mp hy).1
  have:=(List.getElem?_eq_some_iff.mp hy).2
  rw [← this]; exact e3.idxOf_getElem i hi
 refine ex_cl (whS_ex (fun s=>∃ (w:List Nat) (u i:Nat),s=cl (w++[u])∧ks[i]?=some u∧(w++[u]).head?=some one∧(w++[u]).Nodup∧(∀ v∈w,∃ j,i<j∧ks[j]?=some v)∧∀ j a b,(w++[u])[j]?=some a→(w++[u])[j+1]?=some b→b∈nbL rows.length c reach a) (fun s=>ks.idxOf (s.getLastD 0).toNat) ?_ ?_ ?_ ?_)
 ·refine oq11 (List.mem_iff_getElem?.mp hone) fun i hi=>?_
  refine (oi36 ([]) one i rfl hi rfl (by simp) (fun _ h=>nomatch h) (fun j a b g1 g2=>?_))
  simp at g2
 ·show ks.idxOf (([(one:Int)]:List Int).getLastD 0).toNat<100000
  have:=List.idxOf_lt_length_iff.mpr hone
  have e:(([(one:Int)]:List Int).getLastD 0).toNat=one:=by simp
  rw [e]; exact nz8 this (nz2 kl (nz8 h64 (by decide)))
 ·intro s zq; refine oq36 zq fun w u i eq3_ hi g1 g2 g3 g4=>?_; subst eq3_
  have lastU:∀ (w:List Nat) (u:Nat),((cl (w++[u])).getLastD 0).toNat=u:=fun w u=>by rw [ce]; simp
  have atU:Pu.at_ (cl (w++[u])) (-1)=some (u:Int):=by rw [ce]; exact lT _ _
  refine (oi12 _ (by rw [atU,bs]) (fun hne=>?_))
  have hne:u≠other:=fun z=>by rw [z] at hne; simp at hne
  obtain ⟨e,he⟩:∃ e,d[i]?=some e:=by
   have:=dk i
   rw [hi] at this
   cases q:d[i]? with
   | none=>rw [q] at this; cases this
   | some e=>exact ⟨e,rfl⟩
  have hek:e.1=(u:Int):=by
   have:=dk i
   rw [hi,he] at this
   exact Option.some.inj this
  rcases e5 i e he with ⟨rfl,rfl⟩ | ⟨j,p,k,hj,rfl,hp,hk⟩
  ·exact absurd (show other=u by have:(other:Int)=(u:Int):=hek; omega) (fun z=>hne z.symm)
  ·have:k=u:=by have:(k:Int)=(u:Int):=hek; (clear this hk hp he hj hne atU lastU g4 g3 g2 g1 hi hN dk nd hone kl kin e4' e5 e4 e3 e2 e1 hl h3 h2 h1 o h64 h hm hcm hc; omega)
   subst this
   have hpj:ks[j]?=some p:=by
    have:=dk j
    rw [hp] at this
    cases q:ks[j]? with
    | none=>rw [q] at this; cases this
    | some y=>rw [q] at this; have:(p:Int)=(y:Int):=Option.some.inj this; congr 1; (clear q hek hne atU g4 g2 g1 hi hk hp he hj lastU g3 hN dk nd hone kl kin e4' e5 e4 e3 e2 e1 hl h3 h2 h1 o h64 h hm hcm hc; omega)
   have hpn:=(kin p (List.mem_of_getElem? hpj)).1
   have hkn:=(kin k (List.mem_of_getElem? hi)).1
   have wl:(w++[k]).length≤1000:=by
    have:=bD (rows.length * c) g2 fun y hy=>by
     rcases List.mem_append.mp hy with z | z
     ·refine oq12 (g3 y z) fun j' _ hj'=>?_
      exact (kin y (List.mem_of_getElem? hj')).1
     ·rw [List.mem_singleton.mp z]; exact hkn
    exact nz5 (nz2 this (nz8 h64 (by decide)))
   rw [atU,bs,find_at nd he,bs,bs,ic (by rw [bq]; exact nz5 (nz2 wl (by decide))),bs]
   refine (oi13 _ rfl (oi36 (w++[k]) p j (by rw [ce (w++[k]) [p]]; rfl) hpj ?_ ?_ ?_ ?_) ?_)
   ·rw [List.head?_append]
    rw [g1]; rfl
   ·rw [List.nodup_append]
    refine (oi03 g2 (by simp) (fun y hy z hz=>?_))
    rw [List.mem_singleton.mp hz]
    rintro rfl
    rcases List.mem_append.mp hy with q | q
    ·refine oq12 (g3 y q) fun j' q1 q2=>?_
     have:=hN j y hpj
     have:=hN j' y q2
     (clear q2 q hz hpn hpj hek hk hp he hy wl hkn hne atU g4 g2 g1 hi lastU g3 hN dk nd hone kl kin e4' e5 e4 e3 e2 e1 hl h3 h2 h1 o h64 h hm hcm hc; omega)
    ·have:=List.mem_singleton.mp q
     subst this
     have:=hN j y hpj
     have:=hN i y hi
     (clear q hek hk he hy wl hkn hne atU g4 g2 g1 hi hz hpn hpj hp lastU g3 hN dk nd hone kl kin e4' e5 e4 e3 e2 e1 hl h3 h2 h1 o h64 h hm hcm hc; omega)
   ·intro v hv
    rcases List.mem_append.mp hv with q | q
    ·refine oq12 (g3 v q) fun j' q1 q2=>?_
     exact (oi12 j' (by exact nz8 hj q1) q2)
    ·rw [List.mem_singleton.mp q]; exact (oi12 i hj hi)
   ·intro q a b q1 q2
    by_cases hq:q+1<(w++[k]).length
    ·rw [List.getElem?_append_left (by (clear q2 q1 wl hkn hpn hpj hek hne atU g4 g2 g1 hi hk hp he hj lastU g3 hN dk nd hone kl kin e4' e5 e4 e3 e2 e1 hl h3 h2 h1 o h64 h hm hcm hc; omega))] at q1
     rw [List.getElem?_append_left hq] at q2
     exact g4 q a b q1 q2
    ·have hlq:q+1=(w++[k]).length:=by
      have:=(List.getElem?_eq_some_iff.mp q2).1
      rw [List.length_append,List.length_singleton] at this
      (clear q2 q1 wl hkn hpn hpj hek hne atU g4 g2 g1 hi hk hp he hj lastU g3 hN dk nd hone kl kin e4' e5 e4 e3 e2 e1 hl h3 h2 h1 o h64 h hm hcm hc; exact Nat.le_antisymm (Nat.le_of_lt_succ this) (Nat.not_lt.mp hq))
     rw [List.getElem?_append_right (by exact nz3 hlq.symm),hlq,Nat.sub_self] at q2
     cases q2
     have hl2:(w++[k]).length=w.length+1:=by simp
     have:q=w.length:=by (clear hq q1 wl hkn hpn hpj hek hne atU g4 g2 g1 hi hk hp he hj lastU g3 hN dk nd hone kl kin e4' e5 e4 e3 e2 e1 hl h3 h2 h1 o h64 h hm hcm hc; omega)
     subst this
     rw [List.getElem?_append_left (by (clear hlq hq q1 wl hkn hpn hpj hek hne atU g4 g2 g1 hi hk hp he hj lastU g3 hN dk nd hone kl kin e4' e5 e4 e3 e2 e1 hl h3 h2 h1 o h64 h hm hcm hc; omega)),List.getElem?_append_right (nz6 _),Nat.sub_self] at q1
     cases q1
     exact (eN hkn).mp (Nb.sy _ _ ((eN hpn).mpr hk))
   ·rw [lastU,show (cl (w++[k])++[(p:Int)])=cl ((w++[k])++[p]) by rw [ce (w++[k]) [p]]; rfl,lastU,hN j p hpj,hN i k hi]
    exact hj
 ·rintro s ⟨w,u,i,rfl,hi,g1,g2,g3,g4⟩ ht
  have atU:Pu.at_ (cl (w++[u])) (-1)=some (u:Int):=by rw [ce]; exact lT _ _
  rw [atU,bs] at ht
  have:u=other:=by
   have h9:(u:Int)=(other:Int):=by simpa using ht
   omega
  subst this
  refine ⟨_,rfl,w++[u],rfl,⟨g1,by simp,g2,g4⟩,fun y hy=>?_⟩
  rcases List.mem_append.mp hy with z | z
  ·refine oq12 (g3 y z) fun j' _ hj'=>?_
   exact kin y (List.mem_of_getElem? hj')
  ·rw [List.mem_singleton.mp z]; exact kin u (List.mem_of_getElem? hi)
theorem ii (hc:0<c) (hcm:c≤100) (hm:rows.length≤100) (h:∀ r∈rows,r.length=c) (h64:rows.length * c<64) (o:Ord rows.flatten os) (eo:Pf.c0 rows=some (cl os)) {x later:Nat} (hx:x<rows.length * c) (hl:later<rows.length * c) :
  ∃ ks:List Nat,Pf.bt rows reach (x:Int) (later:Int)=some (cl ks)∧ks.Pairwise (·<·)∧(¬ rk os x<rk os later→ks=[])∧(rk os x<rk os later→∀ y,y∈ks↔Rch (Nb rows.length c reach) (Lv (rows.length * c) (rk os) (rk os later)) x y):=by
 have hfl:rows.flatten.length=rows.length * c:=cW h
 have olen:=o.len
 unfold Pf.bt
 rw [cY hc (by exact nz5 (nz2 hcm (by decide))) h hx hl,bs,bs]
 have lt:lt2 (key rows c x) (key rows c later)=decide (rk os x<rk os later):=by
  rw [Bool.eq_iff_iff,decide_eq_true_eq,o.lt_iff (by exact nz1 hx (nz3 hfl.symm)) (by exact nz1 hl (nz3 hfl.symm)),dI hc h hx,dI hc h hl]
 rw [lt]
 by_cases q:rk os x<rk os later
 ·rw [if_neg (by simp [q]),eo,bs]
  have hlo:=o.at_rk (x:=later) (by exact nz1 hl (nz3 hfl.symm))
  have hrl:=o.rk_lt (x:=later) (by exact nz1 hl (nz3 hfl.symm))
  have ei:Pu.index (cl os) (later:Int)=some (rk os later:Int):=by
   unfold Pu.index
   rw [if_pos ⟨aN.mpr (o.mem.mpr (by exact nz1 hl (nz3 hfl.symm))),by rw [bq]; exact nz5 (nz2 (nz3 olen) (nz2 (nz3 hfl) (nz8 h64 (by decide))))⟩]
   congr 2
   have h1:(cl os)[rk os later]?=some (later:Int):=by unfold cl; rw [List.getElem?_map,hlo]; rfl
   have hlt:=(List.getElem?_eq_some_iff.mp h1).1
   have:=(List.getElem?_eq_some_iff.mp h1).2
   rw [← this]
   exact (jF o.nd).idxOf_getElem _ hlt
  obtain ⟨l,hlp⟩:∃ l,os[rk os later - 1]?=some l:=⟨_,List.getElem?_eq_getElem (by exact nz2 (Nat.sub_le _ _) (nz1 hrl (nz3 olen.symm)))⟩
  refine oq02 (ord_at o hlp) fun hl1 hl2=>?_
  have ea:Pu.at_ (cl os) ((rk os later:Int) - 1)=some (l:Int):=by
   have e:((rk os later:Int) - 1)=((rk os later - 1:Nat):Int):=by omega
   rw [e,cf]; unfold cl; rw [List.getElem?_map,hlp]; rfl
  rw [ei,bs,bs,ea,bs]
  refine oq14 (ie (reach:=reach) hc hcm hm h h64 hx (last:=l) (by exact nz1 hl1 (nz3 hfl))) fun ks k1 k2 k3 k4=>?_
  refine (oi14 ks k1 k2 (fun z=>absurd q z) (fun _ y=>?_))
  have up:upTo rows c l x=true:=by
   unfold upTo
   have:=(o.le_iff (x:=x) (y:=l) (by exact nz1 hx (nz3 hfl.symm)) (by exact hl1)).mp (by (clear k4 k3 k2 k1 ea hl1 hlp ei hrl hlo lt olen hfl hl hx eo o h64 h hm hcm hc; omega))
   rw [dI hc h hx,dI hc h (by exact nz1 hl1 (nz3 hfl))] at this
   rw [this]; rfl
  rw [k4 up y,upTo_lv hc h o hx (by exact nz1 hl1 (nz3 hfl))]
  have:rk os l+1=rk os later:=by omega
  rw [this]
 ·rw [if_pos (by simp [q])]
  exact (oi14 ([]) rfl .nil (fun _=>rfl) (fun z=>absurd z q))
theorem pass_eq (hp:0<rows.length) (hc:0<c) (hcm:c≤100) (hm:rows.length≤100) (h:∀ r∈rows,r.length=c) (h64:rows.length * c<64) (o:Ord rows.flatten os) (eo:Pf.c0 rows=some (cl os)) {one other:Nat} (h1:one<rows.length * c) (h2:other<rows.length * c) :
  ∃ (m:Nat) (w ks:List Nat),Pf.aP rows reach (one:Int) (other:Int)=some ((m:Int),cl w,cl ks)∧m<rows.length * c∧rk os one≤rk os m∧rk os other≤rk os m∧Rch (Nb rows.length c reach) (Lv (rows.length * c) (rk os) (rk os m+1)) one other ∧
   (∀ k,Lv (rows.length * c) (rk os) k one→Lv (rows.length * c) (rk os) k other→Rch (Nb rows.length c reach) (Lv (rows.length * c) (rk os) k) one other→rk os m<k) ∧
   Way rows.length c reach one other w∧(∀ y∈w,y<rows.length * c∧rk os y≤rk os m)∧ks.Pairwise (·<·)∧(¬ rk os one<rk os m→ks=[])∧(rk os one<rk os m→∀ y,y∈ks↔Rch (Nb rows.length c reach) (Lv (rows.length * c) (rk os) (rk os m)) one y):=by
 refine oq16 (oM (reach:=reach) hp hc (by exact nz5 (nz2 hcm (by decide))) (by exact nz5 (nz2 hm (by decide))) h h64 o eo h1 h2) fun m a1 a2 a3 a4 a5 a6=>?_
 obtain ⟨w,b1,b2,b3⟩:=lU (reach:=reach) hc hcm hm h h64 o h1 h2 a2 a4 (a5.symm Nb.sy ⟨h1,by exact nz2 a3 (Nat.lt_succ_self _)⟩)
 refine oq14 (ii (reach:=reach) hc hcm hm h h64 o eo h1 a2) fun ks c1 c2 c3 c4=>?_
 refine (oi3b m w ks ?_ a2 a3 a4 a5 a6 b2 b3 c2 c3 c4)
 unfold Pf.aP
 rw [a1,bs,bs,b1,bs,c1,bs]
end
end Pf
namespace K13
open PySem PySem.Spec PyProof.Rows L2
noncomputable def top (i:Nat):Stmt:=PySem.Challenge.pw_floodtree_k13_pass_walked.main.body.getD i (.Pass ⟨0,0,0,0⟩)
noncomputable abbrev spLaw:=@L2.o9
noncomputable abbrev ij:Stmt:=top 22
noncomputable abbrev lV:Stmt:=top 23
noncomputable abbrev jK:Stmt:=top 24
noncomputable abbrev jL:Stmt:=top 25
noncomputable abbrev lW:Stmt:=top 26
noncomputable abbrev lX:Stmt:=top 27
noncomputable abbrev ik:Stmt:=top 28
noncomputable abbrev lY:Stmt:=top 29
noncomputable abbrev jM:Stmt:=top 30
noncomputable abbrev oN:Stmt:=top 31
noncomputable abbrev gn:Stmt:=top 32
noncomputable abbrev il:Stmt:=top 2
noncomputable abbrev fk:Stmt:=top 5
noncomputable abbrev aX:Stmt:=inClass (top 11) 0
noncomputable abbrev bu:Stmt:=inClass (top 12) 0
noncomputable abbrev fm:Stmt:=top 4
noncomputable abbrev fo:Stmt:=top 6
noncomputable abbrev cK:Stmt:=top 9
noncomputable abbrev eO:Stmt:=top 3
noncomputable abbrev c8:Stmt:=inClass (top 12) 2
noncomputable abbrev cF:Stmt:=inClass (top 11) 1
noncomputable abbrev bR:Stmt:=top 8
noncomputable abbrev cg:Stmt:=inClass (top 11) 2
noncomputable abbrev cL:Stmt:=inClass (top 12) 3
noncomputable abbrev cG:Stmt:=inClass (top 12) 1
noncomputable abbrev ca:Stmt:=top 18
noncomputable abbrev dt:Stmt:=top 7
noncomputable abbrev fq:Stmt:=top 14
noncomputable abbrev ft:Stmt:=top 19
noncomputable abbrev cZ:Stmt:=top 15
noncomputable abbrev cr:Stmt:=top 16
noncomputable abbrev du:Stmt:=top 20
noncomputable abbrev im:Stmt:=top 33
noncomputable abbrev s_way:Stmt:=top 35
noncomputable abbrev jN:Stmt:=top 34
noncomputable abbrev jO:Stmt:=top 36
noncomputable abbrev lZ:Stmt:=top 37
noncomputable abbrev eg:Stmt:=top 38
section
variable [Kon] {P:Program} {w:World} {K:PySem.W.Frag} {mg:Str→Option Value} {base:Heap}
variable {CM CW:Addr}
theorem fu (D:gm K mg "Meetings" CM "Meetings.__init__" aX ["self","floor"]) (B:Blt mg) (kM:MK K CM) (kW:WK K CW):HasI P w K mg base 1 "Meetings" CM ["self","floor"] (spIM CM):=by
 have sc:FnScope ["self","floor"] ["self","floor"] (ae aX):=⟨rfl,rfl,rfl,by decide +kernel,rfl,by decide +kernel,by decide +kernel⟩
 refine D.has sc (fun vs H Q E h=>?_) fun f cdv A outer s H vs Q E hr h=>?_
 ·obtain ⟨x,dx,vf,rfl,_⟩:=h; rfl
 ·exact ⟨_,ag (hJ (pv 0) (pv 1) rfl) (aj (hJ (pv 0) pe_dnewK rfl)),init_M kM rfl h⟩
theorem gQ (D:gm K mg "Water" CW "Water.__init__" bu ["self","floor","reach"]) (B:Blt mg) (kM:MK K CM) (kW:WK K CW) (G_all_cells:Has P w K mg base 2 "all_cells" ["floor"] (spL (aOne (rL (rL rInt))) rInt fun x=>Pf.cx x)) (G_Meetings___init__:HasI P w K mg base 1 "Meetings" CM ["self","floor"] (spIM CM)):HasI P w K mg base 4 "Water" CW ["self","floor","reach"] (spIW CM CW fun x=>Pf.fQ x):=by
 have sc:FnScope ["self","floor","reach"] ["self","floor","reach"] (ae bu):=⟨rfl,rfl,rfl,by decide +kernel,rfl,by decide +kernel,by decide +kernel⟩
 refine D.has sc (fun vs H Q E h=>?_) fun f cdv A outer s H vs Q E hr h=>?_
 ·obtain ⟨F,x,dx,vf,rows,reach,homes,rfl,_⟩:=h; rfl
 ·exact ⟨_,ag (hJ (pv 0) (pv 1) rfl) (ag (hJ (pv 0) (pv 2) rfl) (ag (hJ (pv 0) (eE (loc:=["cell"]) (cap:=[]) rfl ⟨rfl,by decide +kernel,by decide +kernel,rfl,trivial,rfl⟩ (bc (K:=K) rfl (ao G_all_cells (hr.mono (by decide)) rfl (a8 (pv 1) aa))) (fun _ _ _ _=>(az (i:=0) (show (["cell"]:List Str).Nodup by decide +kernel) rfl (Or.inl rfl))) (fun _ _ _ _=>ci) (fun _ _ _ _=>iY)) rfl)
   (aj (hJ (pv 0) (mX G_Meetings___init__ (hr.mono (by decide)) rfl (a8 (pv 1) aa)) rfl)))),
   init_W kW (fun rows reach=>(show EVL _ _ _ _ from cj (bL sq_l (bo (ap (a7 1 rfl))).ev) (by decide) (by decide) (b7 0) fun y=>lu).cast (by unfold Pf.fQ; simp only [Pu.bs])) rfl h⟩
theorem fv (D:bJ K CM "let_meet" "Meetings.let_meet" cg ["self","starts","meet"]) (B:Blt mg) (kM:MK K CM) (kW:WK K CW) (G_Meetings_living:HasM P w K mg base 1 CM "living" ["self","start"] (spV (ak (rM CM) (aOne (rOp rInt))) (rOp rInt) fun x=>Pf.ay x.1 x.2)) (G_earliest_of:Has P w K mg base 7 "earliest_of" ["floor","cells"] (spV (ak (rL (rL rInt)) (aOne (rL rInt))) rInt fun x=>Pf.c6 x.1 x.2)):HasM P w K mg base 8 CM "let_meet" ["self","starts","meet"] (spM CM (ak (rL rInt) (aOne rInt)) rInt fun x=>Pf.aW x.1 x.2.1 x.2.2):=by
  have sc:FnScope ["self","starts","meet","#ended","met","elder","start"] ["self","starts","meet"] (ae cg):=⟨rfl,rfl,rfl,by decide +kernel,rfl,by decide +kernel,by decide +kernel⟩
  have nd:=sc.nd
  refine D.pM (n:=3) (gx:="#ended") sc (fun _=>rfl) rfl rfl (by decide +kernel) fun f cdv A outer s H E hr=>?_
  have hu:=ba hr
  refine ⟨_,ag (eF (loc:=["start"]) (cap:=[("self",0)]) (i:=4) rfl ⟨rfl,by decide +kernel,by decide +kernel,rfl,⟨⟨rfl,rfl,by first | exact Or.inl rfl | exact Or.inr rfl⟩,trivial⟩,rfl⟩ nd rfl (Or.inl rfl) (bc (K:=K) rfl (pv 1)) (fun _ _ _ _=>(az (i:=0) (show (["start","self"]:List Str).Nodup by decide +kernel) rfl (Or.inl rfl))) (fun _ _ _ _=>ci) (fun _ _ _ _=>(dj G_Meetings_living (pv 1) kM.c (hr.mono (by decide)) (a8 (pv 0) aa))))
    (ag (av (i:=5) nd rfl (Or.inl rfl) (ao G_earliest_of (hr.mono (by decide)) rfl (a8 (cm (K:=K) rfl (pv 0) rfl) (a8 (pv 4) aa))))
    (ag (cn PassesOwn.never rfl (bc (K:=K) rfl (pv 4)) (az (i:=6) nd rfl (Or.inl rfl))
      (aj (bC (ax ip (pv 6) (pv 5) (aI _)) (aj (lf hu (cm (K:=K) rfl (pv 0) rfl) (pv 6) (gc (a8 (pv 2) (a8 (pv 5) aa))) rfl)) aF)))
    (aj (ar (pv 5))))),fun rows p ended a=>BV.cast
    (aD 4 (evl_borM 0 3 rfl rfl dS (cj (bL sq_l (a7 1 rfl)) (by decide) (by decide) (b7 0) fun y=>jp (iV ob_m (a7 1 rfl) (ap (gD (a7 0 rfl)))))).ev fun met =>
     aD 5 (aA (ai (oE kM (a7 0 rfl)) (ap (a7 4 rfl)))) fun elder =>
     dF (Γf:=fun (s:End_)=>[.fr (rM0 CM) (rows,p),.fr (rL rInt) a.1,.fr rInt a.2,.od rP (fun b=>b=p) s,.fr (rL rInt) met,.fr rInt elder,.any]) ended (bL sq_l (a7 4 rfl)) (.cons .rfl (.cons .rfl (.cons .rfl (.cons .rfl (.cons .rfl (.cons .rfl (.cons .any .nil))))))) (fun _=>b7 6)
      (fun s x=>b8 (bG (aU (f9 cD (a7 6 rfl) (a7 5 rfl)))
        (bv_putG 3 (own_mE kM 0 3 rfl rfl) rfl (a7 6 rfl) (gE (gD (a7 2 rfl)) (gD (a7 5 rfl))) fun y=>bA y (.cons .rfl (.cons .rfl (.cons .rfl (.cons .rfl (.cons .rfl (.cons .rfl (.cons .any .nil))))))))
        (aH (bA s (.cons .rfl (.cons .rfl (.cons .rfl (.cons .rfl (.cons .rfl (.cons .rfl (.cons .any .nil)))))))))))
      fun s=>bv_retM 3 rfl (a7 5 rfl))
    (by unfold Pf.aW; first | (simp only [Pu.bs,nz9]; done) | (simp only [Pu.bs,nz9]; rfl))⟩
theorem gR (D:bJ K CW "let_come" "Water.let_come" cL ["self","cell"]) (B:Blt mg) (kM:MK K CM) (kW:WK K CW) (G_Water_homes_around:HasM P w K mg base 2 CW "homes_around" ["self","cell"] (spL (ak (rW CM CW) (aOne rInt)) rInt fun x=>Pf.aR x.1 x.2)) (G_Meetings_let_meet:HasM P w K mg base 8 CM "let_meet" ["self","starts","meet"] (spM CM (ak (rL rInt) (aOne rInt)) rInt fun x=>Pf.aW x.1 x.2.1 x.2.2)):HasM P w K mg base 9 CW "let_come" ["self","cell"] (spW CM CW (aOne rInt) fun x=>Pf.br x.1 x.2):=by
  have sc:FnScope ["self","cell","#homes","#ended","homes"] ["self","cell"] (ae cL):=⟨rfl,rfl,rfl,by decide +kernel,rfl,by decide +kernel,by decide +kernel⟩
  have nd:=sc.nd
  refine D.pW (n:=1) (gx:="#homes") (gy:="#ended") sc (fun _=>rfl) rfl rfl (by decide +kernel) rfl (by decide +kernel) fun f cdv A outer s H E hr=>?_
  have hu:=ba hr
  refine ⟨_,ag (av (i:=4) nd rfl (Or.inl rfl) (dj G_Water_homes_around (pv 0) kW.c (hr.mono (by decide)) (a8 (pv 1) aa)))
    (aj (kX (iZ (lp (K:=K) rfl (pv 4) (fun _=>rfl)) (dj G_Meetings_let_meet (cm (K:=K) rfl (pv 0) rfl) kM.c (hr.mono (by decide)) (a8 (pv 4) (a8 (pv 1) aa))) (pv 1)) (pg_sub (cm (K:=K) rfl (pv 0) rfl) (pv 1) set_list))),fun rows reach hh p homes ended a=>BV.cast
    (aD 4 (evl_borW 0 2 3 rfl rfl rfl (by decide) dS (evl_meth ob_w (a7 0 rfl) (ap (a7 1 rfl)))).ev fun hs =>
     b8 (bv_setAtM (g:=3) 2 (by decide) (fun e=>own_wH kW 0 2 rfl rfl) rfl (fun e=>a7 1 rfl) (em_some (em_if (lz sq_l (a7 4 rfl)) (em_meth kW 0 rfl rfl (ai (a7 4 rfl) (ap (a7 1 rfl)))) (em_pure rfl (a7 1 rfl))))
      fun ys e=>bv_endW 2 3 rfl rfl))
    (by unfold Pf.br; first | (simp only [Pu.bs,nz9]; done) | (simp only [Pu.bs,nz9]; rfl))⟩
theorem iH (D:au K mg "joining_cell" ca ["floor","reach","one","other"]) (B:Blt mg) (kM:MK K CM) (kW:WK K CW) (G_Water___init__:HasI P w K mg base 4 "Water" CW ["self","floor","reach"] (spIW CM CW fun x=>Pf.fQ x)) (G_in_order:Has P w K mg base 7 "in_order" ["floor"] (spL (aOne (rL (rL rInt))) rInt fun x=>Pf.c0 x)) (G_Water_let_come:HasM P w K mg base 9 CW "let_come" ["self","cell"] (spW CM CW (aOne rInt) fun x=>Pf.br x.1 x.2)) (G_Water_start_now:HasM P w K mg base 2 CW "start_now" ["self","cell"] (spV (ak (rW CM CW) (aOne rInt)) (rOp rInt) fun x=>Pf.aJ x.1 x.2)):Has P w K mg base 11 "joining_cell" ["floor","reach","one","other"] (spV (ak rF (ak rInt (ak rInt (aOne rInt)))) (rOp rInt) fun x=>Pf.cb x.1 x.2.1 x.2.2.1 x.2.2.2):=by
  have sc:FnScope ["floor","reach","one","other","#homes","#ended","water","cell","start"] ["floor","reach","one","other"] (ae ca):=⟨rfl,rfl,rfl,by decide +kernel,rfl,by decide +kernel,by decide +kernel⟩
  have nd:=sc.nd
  refine D.pV sc (fun _=>rfl) rfl fun f cdv A outer s H E hr=>?_
  have hu:=ba hr
  refine ⟨_,ag (av (i:=6) nd rfl (Or.inl rfl) (mX G_Water___init__ (hr.mono (by decide)) rfl (a8 (pv 0) (a8 (pv 1) aa))))
    (i9 (x:="#homes") 4 (i9 (x:="#ended") 5 (ag (cn PassesOwn.never rfl (bc (K:=K) rfl (ao G_in_order (hr.mono (by decide)) rfl (a8 (pv 0) aa))) (az (i:=7) nd rfl (Or.inl rfl))
      (ag (dA (dj G_Water_let_come (pv 6) kW.c (hr.mono (by decide)) (a8 (pv 7) aa)))
      (ag (av (i:=8) nd rfl (Or.inl rfl) (dj G_Water_start_now (pv 6) kW.c (hr.mono (by decide)) (a8 (pv 2) aa)))
      (aj (bC (PW.pt (gZ (ax op_notN (pv 8) iY (aI _)) (fA (ax eP (pv 8) (dj G_Water_start_now (pv 6) kW.c (hr.mono (by decide)) (a8 (pv 3) aa)) (aI _))))) (aj (ar (pv 7))) aF)))))
      (aj (ar iY))) rfl (show eQ (ae ca) "#ended"=true by decide +kernel)) rfl (show eQ (ae ca) "#homes"=true by decide +kernel)),fun a=>BV.cast
    (bv_make 6 4 5 ⟨by decide,by decide,by decide,(show 4<9 by decide),(show 5<9 by decide)⟩ (ai (a7 0 rfl) (ap (a7 1 rfl))) fun rows reach hh p homes =>
     fN (Γf:=fun (s:List (Option Int) × End_)=>[.fr rF a.1,.fr rInt a.2.1,.fr rInt a.2.2.1,.fr rInt a.2.2.2,.ol (rOp rInt) (fun b=>b=hh) s.1,.od rP (fun b=>b=p) s.2,.fr (rW0 CM CW) (rows,reach,hh,p),.any,.any]) (rf:=finV (rOp rInt)) (e:=(fun x=>x)) (homes,[]) (bL sq_l (bo (ap (a7 0 rfl))).ev) (.cons .rfl (.cons .rfl (.cons .rfl (.cons .rfl (.cons .rfl (.cons .rfl (.cons .rfl (.cons .any (.cons .any .nil))))))))) (fun _=>b7 7)
      (fun s x=>bv_come 6 4 5 (by decide) rfl rfl rfl (ap (a7 7 rfl)) (fun hs es =>
        aD 8 (ev_borW 6 4 5 rfl rfl rfl (by decide) (flat_op dS) (iV ob_w (a7 6 rfl) (ap (a7 2 rfl)))) fun st =>
        b8 (bG (ly (aU (ev_notN (a7 8 rfl) nn_int)) (aU (cX sc_oo (a7 8 rfl) (ev_borW 6 4 5 rfl rfl rfl (by decide) (flat_op dS) (iV ob_w (a7 6 rfl) (ap (a7 3 rfl)))))))
          (b9 (dE (aE (gD (a7 7 rfl)))))
          (aH (dW (hs,es) (.cons .rfl (.cons .rfl (.cons .rfl (.cons .rfl (.cons .rfl (.cons .rfl (.cons .rfl (.cons .any (.cons .any .nil)))))))))))) ) ob_w0)
      rfV (fun _ _ _ h=>h) fun s=>aE lu)
    (by unfold Pf.cb; first | (simp only [Pu.bs,nz9]; done) | (simp only [Pu.bs,nz9]; rfl))⟩
theorem jP:FnScope ["_law_script","_law_k"] ["_law_script","_law_k"] (ae ij):=⟨rfl,rfl,rfl,by decide +kernel,rfl,by decide +kernel,by decide +kernel⟩
theorem oO (D:au K mg "_law_cell_at" ij ["_law_script","_law_k"]) (B:Blt mg) (kM:MK K CM) (kW:WK K CW) :Has P w K mg base 1 "_law_cell_at" ["_law_script","_law_k"] (spV (ak (rScr K) (aOne rInt)) rInt fun x=>Pf.bU x.1 x.2):=by
 have nd:=jP.nd
 refine D.pV jP (fun _=>rfl) rfl fun f cdv A outer s H E hr=>?_
 have hu:=ba hr
 exact ⟨_,(ag (bC (ax kh (pv 1) (aq (aM (K:=K) rfl) (by rfl) B.len bI (a8 (pv 0) aa)) (aI _))
   (aj (ar (aL (aB (K:=K) rfl) (pv 0) (pv 1) (fun _ _=>rfl))))
   aF)
   (aj (ar al))),
  fun a=>BV.cast (bG (aU (ev_lt (a7 1 rfl) (bT sq_s (a7 0 rfl))))
  (b9 (aE (bg sq_s (a7 0 rfl) (a7 1 rfl))))
  (aH (aE am))) (by unfold Pf.bU; first | rfl | (simp only [Pu.bs]; done) | (simp only [Pu.bs]; rfl) | (simp only [Pu.bs,nz9]; done) | (simp only [Pu.bs,nz9]; rfl))⟩
theorem nC:FnScope ["_law_number","_law_k"] ["_law_number","_law_k"] (ae lV):=⟨rfl,rfl,rfl,by decide +kernel,rfl,by decide +kernel,by decide +kernel⟩
theorem ok_mixed (D:au K mg "_law_mixed" lV ["_law_number","_law_k"]) (B:Blt mg) (kM:MK K CM) (kW:WK K CW) :Has P w K mg base 1 "_law_mixed" ["_law_number","_law_k"] (spV (ak rInt (aOne rInt)) rInt fun x=>Pf.mixed x.1 x.2):=by
 have nd:=nC.nd
 refine D.pV nC (fun _=>rfl) rfl fun f cdv A outer s H E hr=>?_
 have hu:=ba hr
 exact ⟨_,(aj (ar (aw bS (aw bW (aw bW (aw gb (aw bS (pv 0) (aw kY al al)) al) (aw gb (aw gb (pv 1) (pv 1)) al)) al) al))),
  fun a=>BV.cast (aE (ck (bY (bY (ev_mulT (ck (a7 0 rfl) (iS (v:=100000000000000000000) am am (by decide)) (by decide)) am (by decide)) (ev_mulT (hV (a7 1 rfl) (a7 1 rfl)) am (by decide))) am) am (by decide))) (by unfold Pf.mixed; first | rfl | (simp only [Pu.bs]; done) | (simp only [Pu.bs]; rfl) | (simp only [Pu.bs,nz9]; done) | (simp only [Pu.bs,nz9]; rfl))⟩
theorem kP:FnScope ["_law_number","_law_k","_law_way_here","_law_part"] ["_law_number","_law_k","_law_way_here"] (ae jK):=⟨rfl,rfl,rfl,by decide +kernel,rfl,by decide +kernel,by decide +kernel⟩
theorem ok_height (D:au K mg "_law_height" jK ["_law_number","_law_k","_law_way_here"]) (B:Blt mg) (kM:MK K CM) (kW:WK K CW) (G__law_mixed:Has P w K mg base 1 "_law_mixed" ["_law_number","_law_k"] (spV (ak rInt (aOne rInt)) rInt fun x=>Pf.mixed x.1 x.2)):Has P w K mg base 2 "_law_height" ["_law_number","_law_k","_law_way_here"] (spV (ak rInt (ak rInt (aOne rInt))) rInt fun x=>Pf.cp x.1 x.2.1 x.2.2):=by
 have nd:=kP.nd
 refine D.pV kP (fun _=>rfl) rfl fun f cdv A outer s H E hr=>?_
 have hu:=ba hr
 exact ⟨_,(ag (av (i:=3) nd rfl (Or.inl rfl) (ao G__law_mixed (hr.mono (by decide)) rfl (a8 (pv 0) (a8 (pv 1) aa))))
   (ag (bC (ax eP (pv 2) al (aI _))
   (aj (ar (aw bS (pv 3) al)))
   aF)
   (ag (bC (ax eP (pv 2) al (aI _))
   (aj (ar (aw bS (pv 3) al)))
   aF)
   (ag (bC (ax eP (pv 2) al (aI _))
   (aj (ar (aw bS (pv 0) (aw bW (aw kY al al) al))))
   aF)
   (aj (ar (aL (aB (K:=K) rfl) (bX (a8 (aw bS (pv 3) al) (a8 (aw dM (aw kY al al) (aw bS (pv 3) al)) aa))) (aw bS (aw cP (pv 3) al) al) (fun _ _=>rfl)))))))),
  fun a=>BV.cast (aD 3 (aA (ai (a7 0 rfl) (ap (a7 1 rfl)))) fun part1=>(bG (aU (cX cD (a7 2 rfl) am))
  (b9 (aE (ck (a7 3 rfl) am (by decide))))
  (aH (bG (aU (cX cD (a7 2 rfl) am))
  (b9 (aE (ck (a7 3 rfl) am (by decide))))
  (aH (bG (aU (cX cD (a7 2 rfl) am))
  (b9 (aE (ck (a7 0 rfl) (bY (iS (v:=1000000000000000000) am am (by decide)) am) (by decide))))
  (aH (aE (bg sq_l ((bF (bv (ck (a7 3 rfl) am (by decide)) (bv (dO (iS (v:=1000000000000000000) am am (by decide)) (ck (a7 3 rfl) am (by decide))) bE)))).ev (ck (fe (a7 3 rfl) am (by decide)) am (by decide))))))))))) (by unfold Pf.cp; first | rfl | (simp only [Pu.bs]; done) | (simp only [Pu.bs]; rfl) | (simp only [Pu.bs,nz9]; done) | (simp only [Pu.bs,nz9]; rfl))⟩
theorem kQ:FnScope ["_law_heights_here","_law_columns"] ["_law_heights_here","_law_columns"] (ae jL):=⟨rfl,rfl,rfl,by decide +kernel,rfl,by decide +kernel,by decide +kernel⟩
theorem ok_folded (D:au K mg "_law_folded" jL ["_law_heights_here","_law_columns"]) (B:Blt mg) (kM:MK K CM) (kW:WK K CW) :Has P w K mg base 1 "_law_folded" ["_law_heights_here","_law_columns"] (spL (ak (rL rInt) (aOne rInt)) (rL rInt) fun x=>Pf.folded x.1 x.2):=by
 have nd:=kQ.nd
 refine D.pL kQ (fun _=>rfl) rfl fun f cdv A outer s H E hr=>?_
 have hu:=ba hr
 exact ⟨_,(aj (ar (eE (loc:=["_law_k"]) (cap:=[("_law_heights_here",0),("_law_columns",1)]) rfl ⟨rfl,by decide +kernel,by decide +kernel,rfl,⟨⟨rfl,rfl,by first | exact Or.inl rfl | exact Or.inr rfl⟩,⟨⟨rfl,rfl,by first | exact Or.inl rfl | exact Or.inr rfl⟩,trivial⟩⟩,rfl⟩  (pi_range3 rfl B.range (a8 al (a8 (aw bW (aw dM (aq (aM (K:=K) rfl) (by rfl) B.len bI (a8 (pv 0) aa)) (pv 1)) al) (a8 (pv 1) aa)))) (fun _ _ _ _=>(az (i:=0) (show (["_law_k","_law_heights_here","_law_columns"]:List Str).Nodup by decide +kernel) rfl (Or.inl rfl))) (fun _ _ _ _=>ci) (fun _ _ _ _=>(ja (jm (K:=K) rfl) (pv 1) (gv (pv 0)) (gv (aw bW (pv 0) (pv 2)))))))),
  fun a=>BV.cast (cE (cj (iv_rng3 am (bY (dO (bT sq_l (a7 0 rfl)) (a7 1 rfl)) am) (a7 1 rfl)) (by decide) (by decide) (b7 0) fun y1=>((lB sq_l (a7 1 rfl) (gF (a7 0 rfl)) (gF (bY (a7 0 rfl) (a7 2 rfl))))).ev)) (by unfold Pf.folded; first | rfl | (simp only [Pu.bs]; done) | (simp only [Pu.bs]; rfl) | (simp only [Pu.bs,nz9]; done) | (simp only [Pu.bs,nz9]; rfl))⟩
theorem nD:FnScope ["_law_script","_law_first","_law_way_here","_law_heights_here","_law_columns"] ["_law_script","_law_first"] (ae lW):=⟨rfl,rfl,rfl,by decide +kernel,rfl,by decide +kernel,by decide +kernel⟩
theorem ok_floor (D:au K mg "_law_floor" lW ["_law_script","_law_first"]) (B:Blt mg) (kM:MK K CM) (kW:WK K CW) (G__law_cell_at:Has P w K mg base 1 "_law_cell_at" ["_law_script","_law_k"] (spV (ak (rScr K) (aOne rInt)) rInt fun x=>Pf.bU x.1 x.2)) (G__law_height:Has P w K mg base 2 "_law_height" ["_law_number","_law_k","_law_way_here"] (spV (ak rInt (ak rInt (aOne rInt))) rInt fun x=>Pf.cp x.1 x.2.1 x.2.2)) (G__law_folded:Has P w K mg base 1 "_law_folded" ["_law_heights_here","_law_columns"] (spL (ak (rL rInt) (aOne rInt)) (rL rInt) fun x=>Pf.folded x.1 x.2)):Has P w K mg base 3 "_law_floor" ["_law_script","_law_first"] (spL (ak (rScr K) (aOne rInt)) (rL rInt) fun x=>Pf.floor x.1 x.2):=by
 have nd:=nD.nd
 refine D.pL nD (fun _=>rfl) rfl fun f cdv A outer s H E hr=>?_
 have hu:=ba hr
 exact ⟨_,(ag (av (i:=2) nd rfl (Or.inr rfl) (aw bS (ao G__law_cell_at (hr.mono (by decide)) rfl (a8 (pv 0) (a8 (pv 1) aa))) al))
   (ag (eF (loc:=["_law_k","_law_number"]) (cap:=[("_law_way_here",2)]) (i:=3) rfl ⟨rfl,by decide +kernel,by decide +kernel,rfl,⟨⟨rfl,rfl,by first | exact Or.inl rfl | exact Or.inr rfl⟩,trivial⟩,rfl⟩ nd rfl (Or.inl rfl) (jn (K:=K) rfl rfl B.enumerate (a8 (ja (jm (K:=K) rfl) (pv 0) (gv (aw bW (pv 1) al)) (gv (aw bW (pv 1) al))) aa)) (fun _ _ _ _=>(fK (K:=K) (n:=2) rfl rfl (bM (az (i:=0) (show (["_law_k","_law_number","_law_way_here"]:List Str).Nodup by decide +kernel) rfl (Or.inl rfl)) (bM (az (i:=1) (show (["_law_k","_law_number","_law_way_here"]:List Str).Nodup by decide +kernel) rfl (Or.inl rfl)) fB)))) (fun _ _ _ _=>ci) (fun _ _ _ _=>(ao G__law_height (hr.mono (by decide)) rfl (a8 (pv 1) (a8 (pv 0) (a8 (aw bS (pv 2) al) aa))))))
   (ag (bC (ax (ll (K:=K) rfl hr.units) (pv 3) (bX aa) (aI _))
   (aj (av (i:=3) nd rfl (Or.inl rfl) (bX (a8 (aw bS (aw cP (ao G__law_cell_at (hr.mono (by decide)) rfl (a8 (pv 0) (a8 (pv 1) aa))) al) (aw bW (aw kY al al) al)) aa))))
   aF)
   (ag (av (i:=4) nd rfl (Or.inl rfl) (aw bW al (aw bS (aw cP (ao G__law_cell_at (hr.mono (by decide)) rfl (a8 (pv 0) (a8 (pv 1) aa))) al) (aq (fF rfl) (by rfl) B.min jk (a8 al (a8 (aq (aM (K:=K) rfl) (by rfl) B.len bI (a8 (pv 3) aa)) aa))))))
   (ag (bC (ax eP (pv 2) al (aI _))
   (aj (av (i:=4) nd rfl (Or.inl rfl) (aq (fE rfl) (by rfl) B.max jl (a8 al (a8 (aq (fF rfl) (by rfl) B.min jk (a8 (pv 4) (a8 (aw cP (aq (aM (K:=K) rfl) (by rfl) B.len bI (a8 (pv 3) aa)) al) aa))) aa)))))
   aF)
   (aj (ar (ao G__law_folded (hr.mono (by decide)) rfl (a8 (pv 3) (a8 (aq (fE rfl) (by rfl) B.max jl (a8 (pv 4) (a8 (aw dM al (aw cP (aw dM al (aq (aM (K:=K) rfl) (by rfl) B.len bI (a8 (pv 3) aa))) al)) aa))) aa)))))))))),
  fun a=>BV.cast (aD 2 (ck (aA (ai (a7 0 rfl) (ap (a7 1 rfl)))) am (by decide)) fun way_here2=>(aD 3 ((cj (lF sq_l ((lB sq_s (a7 0 rfl) (gF (bY (a7 1 rfl) am)) (gF (bY (a7 1 rfl) am)))).ev) (by decide) (by decide) (gG 0 1) fun y4=>(aA (ai (a7 1 rfl) (ai (a7 0 rfl) (ap (ck (a7 2 rfl) am (by decide)))))))).ev fun heights_here5=>(bv_join (Γj:=fun (s7:(List (Int)))=>[.fr (rScr K) (a.1),.fr rInt (a.2),.fr rInt (way_here2),.fr (rL rInt) (s7),.any]) (b8 (bG (aU (o8 (dL dInt) (a7 3 rfl) ((bF (r:=rInt) bE)).ev))
  (aD 3 ((bF (bv (ck (fe (aA (ai (a7 0 rfl) (ap (a7 1 rfl)))) am (by decide)) (bY (iS (v:=1000000000000000000) am am (by decide)) am) (by decide)) bE))).ev fun heights_here11=>(gH (heights_here11) (.cons .rfl (.cons .rfl (.cons .rfl (.cons .rfl (.cons .any .nil)))))))
  (aH (gH (heights_here5) (.cons .rfl (.cons .rfl (.cons .rfl (.cons .rfl (.cons .any .nil))))))))) fun s7=>(aD 4 (bY am (gj (fe (aA (ai (a7 0 rfl) (ap (a7 1 rfl)))) am (by decide)) (iP am (bT sq_l (a7 3 rfl))))) fun columns16=>(bv_join (Γj:=fun (s18:Int)=>[.fr (rScr K) (a.1),.fr rInt (a.2),.fr rInt (way_here2),.fr (rL rInt) (s7),.fr rInt (s18)]) (b8 (bG (aU (cX cD (a7 2 rfl) am))
  (aD 4 (iQ am (iP (a7 4 rfl) (fe (bT sq_l (a7 3 rfl)) am (by decide)))) fun columns19=>(gH (columns19) (.cons .rfl (.cons .rfl (.cons .rfl (.cons .rfl (.cons .rfl .nil)))))))
  (aH (gH (columns16) (.cons .rfl (.cons .rfl (.cons .rfl (.cons .rfl (.cons .rfl .nil))))))))) fun s18=>(cE (bo (ai (a7 3 rfl) (ap (iQ (a7 4 rfl) (dO am (fe (dO am (bT sq_l (a7 3 rfl))) am (by decide))))))))))))) (by unfold Pf.floor; first | rfl | (simp only [Pu.bs]; done) | (simp only [Pu.bs]; rfl) | (simp only [Pu.bs,nz9]; done) | (simp only [Pu.bs,nz9]; rfl))⟩
theorem nE:FnScope ["_law_script","_law_first"] ["_law_script","_law_first"] (ae lX):=⟨rfl,rfl,rfl,by decide +kernel,rfl,by decide +kernel,by decide +kernel⟩
theorem ok_reach (D:au K mg "_law_reach" lX ["_law_script","_law_first"]) (B:Blt mg) (kM:MK K CM) (kW:WK K CW) (G__law_cell_at:Has P w K mg base 1 "_law_cell_at" ["_law_script","_law_k"] (spV (ak (rScr K) (aOne rInt)) rInt fun x=>Pf.bU x.1 x.2)) (G__law_mixed:Has P w K mg base 1 "_law_mixed" ["_law_number","_law_k"] (spV (ak rInt (aOne rInt)) rInt fun x=>Pf.mixed x.1 x.2)):Has P w K mg base 2 "_law_reach" ["_law_script","_law_first"] (spV (ak (rScr K) (aOne rInt)) rInt fun x=>Pf.reach x.1 x.2):=by
 have nd:=nE.nd
 refine D.pV nE (fun _=>rfl) rfl fun f cdv A outer s H E hr=>?_
 have hu:=ba hr
 exact ⟨_,(aj (ar (aL (aB (K:=K) rfl) (bX (a8 al (a8 al aa))) (aw bS (ao G__law_mixed (hr.mono (by decide)) rfl (a8 (ao G__law_cell_at (hr.mono (by decide)) rfl (a8 (pv 0) (a8 (pv 1) aa))) (a8 al aa))) al) (fun _ _=>rfl)))),
  fun a=>BV.cast (aE (bg sq_l ((bF (bv am (bv am bE)))).ev (ck (aA (ai (aA (ai (a7 0 rfl) (ap (a7 1 rfl)))) (ap am))) am (by decide)))) (by unfold Pf.reach; first | rfl | (simp only [Pu.bs]; done) | (simp only [Pu.bs]; rfl) | (simp only [Pu.bs,nz9]; done) | (simp only [Pu.bs,nz9]; rfl))⟩
theorem jQ:FnScope ["_law_floor_here","_law_heights_here","_law_row"] ["_law_floor_here"] (ae ik):=⟨rfl,rfl,rfl,by decide +kernel,rfl,by decide +kernel,by decide +kernel⟩
theorem oP (D:au K mg "_law_heights" ik ["_law_floor_here"]) (B:Blt mg) (kM:MK K CM) (kW:WK K CW) :Has P w K mg base 1 "_law_heights" ["_law_floor_here"] (spL (aOne (rL (rL rInt))) rInt fun x=>Pf.fP x):=by
 have nd:=jQ.nd
 refine D.pL jQ (fun _=>rfl) rfl fun f cdv A outer s H E hr=>?_
 have hu:=ba hr
 exact ⟨_,(ag (av (i:=1) nd rfl (Or.inl rfl) (bX aa))
   (ag (cn PassesOwn.never rfl (bc (K:=K) rfl (pv 0)) (az (i:=2) nd rfl (Or.inl rfl))
   (aj (av (i:=1) nd rfl (Or.inl rfl) (aw op_catS (pv 1) (pv 2)))))
   (aj (ar (pv 1))))),
  fun a=>BV.cast (d7 1 (bF (r:=rInt) bE) fun heights_here1=>(dF (Γf:=fun (s3:(List (Int)))=>[.fr (rL (rL rInt)) (a),.ol rInt tt_ (s3),.any]) (heights_here1) (bL sq_l (a7 0 rfl)) (.cons .rfl (.cons .rfl (.cons .any .nil))) (fun _=>(b7 2))
  (fun s3 x2=>(b8 (d7 1 (evl_bor 1 rfl dS (evl_cat (a7 1 rfl) (a7 2 rfl))) fun heights_here4=>(bA (heights_here4) (.cons .rfl (.cons .rfl (.cons .any .nil)))))))
  fun s3=>(gJ 1 rfl))) (by unfold Pf.fP; first | rfl | (simp only [Pu.bs]; done) | (simp only [Pu.bs]; rfl) | (simp only [Pu.bs,nz9]; done) | (simp only [Pu.bs,nz9]; rfl))⟩
theorem nF:FnScope ["_law_heights_here"] ["_law_heights_here"] (ae lY):=⟨rfl,rfl,rfl,by decide +kernel,rfl,by decide +kernel,by decide +kernel⟩
theorem ok_order (D:au K mg "_law_order" lY ["_law_heights_here"]) (B:Blt mg) (kM:MK K CM) (kW:WK K CW) :Has P w K mg base 1 "_law_order" ["_law_heights_here"] (spL (aOne (rL rInt)) rInt fun x=>Pf.cw x):=by
 have nd:=nF.nd
 refine D.pL nF (fun _=>rfl) rfl fun f cdv A outer s H E hr=>?_
 have hu:=ba hr
 exact ⟨_,(aj (ar (eE (loc:=["_law_high","_law_cell"]) (cap:=[]) rfl ⟨rfl,by decide +kernel,by decide +kernel,rfl,trivial,rfl⟩  (bc (K:=K) rfl (aq (oo (K:=K) rfl) (by rfl) B.sorted fH (a8 (eE (loc:=["_law_cell","_law_high"]) (cap:=[]) rfl ⟨rfl,by decide +kernel,by decide +kernel,rfl,trivial,rfl⟩  (jn (K:=K) rfl rfl B.enumerate (a8 (pv 0) aa)) (fun _ _ _ _=>(fK (K:=K) (n:=2) rfl rfl (bM (az (i:=0) (show (["_law_cell","_law_high"]:List Str).Nodup by decide +kernel) rfl (Or.inl rfl)) (bM (az (i:=1) (show (["_law_cell","_law_high"]:List Str).Nodup by decide +kernel) rfl (Or.inl rfl)) fB)))) (fun _ _ _ _=>ci) (fun _ _ _ _=>(gc (a8 (pv 1) (a8 (pv 0) aa))))) aa))) (fun _ _ _ _=>(fK (K:=K) (n:=2) rfl rfl (bM (az (i:=0) (show (["_law_high","_law_cell"]:List Str).Nodup by decide +kernel) rfl (Or.inl rfl)) (bM (az (i:=1) (show (["_law_high","_law_cell"]:List Str).Nodup by decide +kernel) rfl (Or.inl rfl)) fB)))) (fun _ _ _ _=>ci) (fun _ _ _ _=>(pv 1))))),
  fun a=>BV.cast (cE (cj (bL sq_l ((evl_sortP ((cj (lF sq_l (a7 0 rfl)) (by decide) (by decide) (gG 0 1) fun y1=>(gE (a7 1 rfl) (a7 0 rfl)))).ev)).ev) (by decide) (by decide) (gG 0 1) fun y3=>(a7 1 rfl))) (by unfold Pf.cw; first | rfl | (simp only [Pu.bs]; done) | (simp only [Pu.bs]; rfl) | (simp only [Pu.bs,nz9]; done) | (simp only [Pu.bs,nz9]; rfl))⟩
theorem kR:FnScope ["_law_heights_here","_law_places_here","_law_place","_law_cell"] ["_law_heights_here"] (ae jM):=⟨rfl,rfl,rfl,by decide +kernel,rfl,by decide +kernel,by decide +kernel⟩
theorem ok_places (D:au K mg "_law_places" jM ["_law_heights_here"]) (B:Blt mg) (kM:MK K CM) (kW:WK K CW) (G__law_order:Has P w K mg base 1 "_law_order" ["_law_heights_here"] (spL (aOne (rL rInt)) rInt fun x=>Pf.cw x)):Has P w K mg base 2 "_law_places" ["_law_heights_here"] (spL (aOne (rL rInt)) rInt fun x=>Pf.ee x):=by
 have nd:=kR.nd
 refine D.pL kR (fun _=>rfl) rfl fun f cdv A outer s H E hr=>?_
 have hu:=ba hr
 exact ⟨_,(ag (eF (loc:=["_law_high"]) (cap:=[]) (i:=1) rfl ⟨rfl,by decide +kernel,by decide +kernel,rfl,trivial,rfl⟩ nd rfl (Or.inl rfl) (bc (K:=K) rfl (pv 0)) (fun _ _ _ _=>(az (i:=0) (show (["_law_high"]:List Str).Nodup by decide +kernel) rfl (Or.inl rfl))) (fun _ _ _ _=>ci) (fun _ _ _ _=>al))
   (ag (cn PassesOwn.never rfl (jn (K:=K) rfl rfl B.enumerate (a8 (ao G__law_order (hr.mono (by decide)) rfl (a8 (pv 0) aa)) aa)) (fK (K:=K) (n:=2) rfl rfl (bM (az (i:=2) nd rfl (Or.inl rfl)) (bM (az (i:=3) nd rfl (Or.inl rfl)) fB)))
   (aj (kX (pv 2) (pg_sub (pv 1) (pv 3) set_list))))
   (aj (ar (pv 1))))),
  fun a=>BV.cast (d7 1 (cj (bL sq_l (a7 0 rfl)) (by decide) (by decide) (b7 0) fun y1=>am) fun places_here2=>(dF (Γf:=fun (s6:(List (Int)))=>[.fr (rL rInt) (a),.ol rInt tt_ (s6),.any,.any]) (places_here2) (lF sq_l ((bo (ap (a7 0 rfl)))).ev) (.cons .rfl (.cons .rfl (.cons .any (.cons .any .nil)))) (fun _=>(gG 2 3))
  (fun s6 x5=>(b8 (bv_setAt 1 rfl (a7 3 rfl) (a7 2 rfl) fun places_here7=>(bA (places_here7) (.cons .rfl (.cons .rfl (.cons .any (.cons .any .nil))))))))
  fun s6=>(gJ 1 rfl))) (by unfold Pf.ee; first | rfl | (simp only [Pu.bs]; done) | (simp only [Pu.bs]; rfl) | (simp only [Pu.bs,nz9]; done) | (simp only [Pu.bs,nz9]; rfl))⟩
theorem sc_next:FnScope ["_law_size","_law_reach_here","_law_cell","_law_rows","_law_columns","_law_found","_law_down","_law_aside","_law_row","_law_column","_law_inside_here","_law_off"] ["_law_size","_law_reach_here","_law_cell"] (ae oN):=⟨rfl,rfl,rfl,by decide +kernel,rfl,by decide +kernel,by decide +kernel⟩
theorem ok_next (D:au K mg "_law_next" oN ["_law_size","_law_reach_here","_law_cell"]) (B:Blt mg) (kM:MK K CM) (kW:WK K CW) :Has P w K mg base 1 "_law_next" ["_law_size","_law_reach_here","_law_cell"] (spL (ak (rT2 rInt rInt) (ak rInt (aOne rInt))) rInt fun x=>Pf.next x.1 x.2.1 x.2.2):=by
 have nd:=sc_next.nd
 refine D.pL sc_next (fun _=>rfl) rfl fun f cdv A outer s H E hr=>?_
 have hu:=ba hr
 exact ⟨_,(ag (kX (pv 0) (fK (K:=K) (n:=2) rfl rfl (bM (az (i:=3) nd rfl (Or.inl rfl)) (bM (az (i:=4) nd rfl (Or.inl rfl)) fB))))
   (ag (av (i:=5) nd rfl (Or.inl rfl) (bX aa))
   (ag (cn PassesOwn.never rfl (bc (K:=K) rfl (bX (a8 (mr j2 al) (a8 al (a8 al aa))))) (az (i:=6) nd rfl (Or.inl rfl))
   (aj (cn PassesOwn.never rfl (bc (K:=K) rfl (bX (a8 (mr j2 al) (a8 al (a8 al aa))))) (az (i:=7) nd rfl (Or.inl rfl))
   (ag (av (i:=8) nd rfl (Or.inl rfl) (aw bW (aw cP (pv 2) (pv 4)) (pv 6)))
   (ag (av (i:=9) nd rfl (Or.inl rfl) (aw bW (aw bS (pv 2) (pv 4)) (pv 7)))
   (ag (av (i:=10) nd rfl (Or.inl rfl) (pe_and (mt op_le kh al (pv 8) (pv 3)) (pe_one (mt op_le kh al (pv 9) (pv 4)))))
   (ag (av (i:=11) nd rfl (Or.inl rfl) (aw bW (aq gu (by rfl) B.abs lj (a8 (pv 6) aa)) (aq gu (by rfl) B.abs lj (a8 (pv 7) aa))))
   (aj (bC (PW.pt (gZ (cz (pv 10)) (fA (PW.pt (d0 (ax eP (pv 11) al (aI _)) (eB (PW.pt (gZ (ax eP (pv 1) al (aI _)) (fA (ax eP (pv 11) al (aI _)))))))))))
   (aj (dA (eZ (K:=K) rfl PySem.F.plainAttrs_list PySem.F.slot_list_append PySem.F.type_list_append cI (pv 5) (a8 (aw bW (aw gb (pv 8) (pv 4)) (pv 9)) aa))))
   aF)))))))))
   (aj (ar (pv 5)))))),
  fun a=>BV.cast (bv_asg (a7 0 rfl) (gG 3 4) fun t1=>(d7 5 (bF (r:=rInt) bE) fun found3=>(dF (Γf:=fun (s5:(List (Int)))=>[.fr (rT2 rInt rInt) (a.1),.fr rInt (a.2.1),.fr rInt (a.2.2),.fr rInt (t1.1),.fr rInt (t1.2),.ol rInt tt_ (s5),.any,.any,.any,.any,.any,.any]) (found3) (bL sq_l ((bF (bv (jq am) (bv am (bv am bE))))).ev) (.cons .rfl (.cons .rfl (.cons .rfl (.cons .rfl (.cons .rfl (.cons .rfl (.cons .any (.cons .any (.cons .any (.cons .any (.cons .any (.cons .any .nil)))))))))))) (fun _=>(b7 6))
  (fun s5 x4=>(b8 (dF (Γf:=fun (s7:(List (Int)))=>[.fr (rT2 rInt rInt) (a.1),.fr rInt (a.2.1),.fr rInt (a.2.2),.fr rInt (t1.1),.fr rInt (t1.2),.ol rInt tt_ (s7),.fr rInt (x4),.any,.any,.any,.any,.any]) (s5) (bL sq_l ((bF (bv (jq am) (bv am (bv am bE))))).ev) (.cons .rfl (.cons .rfl (.cons .rfl (.cons .rfl (.cons .rfl (.cons .rfl (.cons .rfl (.cons .any (.cons .any (.cons .any (.cons .any (.cons .any .nil)))))))))))) (fun _=>(b7 7))
  (fun s7 x6=>(aD 8 (bY (iN (a7 2 rfl) (a7 4 rfl)) (a7 6 rfl)) fun row9=>(aD 9 (bY (gj (a7 2 rfl) (a7 4 rfl)) (a7 7 rfl)) fun column12=>(aD 10 (ev_andT (i0 am (a7 8 rfl) (a7 3 rfl)) (i0 am (a7 9 rfl) (a7 4 rfl))) fun inside_here14=>(aD 11 (bY (lD (a7 6 rfl)) (lD (a7 7 rfl))) fun off16=>(b8 (bG (lI (et_b (a7 10 rfl)) (lJ (aU (cX cD (a7 11 rfl) am)) (lI (aU (cX cD (a7 1 rfl) am)) (aU (cX cD (a7 11 rfl) am)))))
  (dX 5 rfl (bY (hV (a7 8 rfl) (a7 4 rfl)) (a7 9 rfl)) fun found18=>(bA (found18) (.cons .rfl (.cons .rfl (.cons .rfl (.cons .rfl (.cons .rfl (.cons .rfl (.cons .rfl (.cons .any (.cons .any (.cons .any (.cons .any (.cons .any .nil))))))))))))))
  (aH (bA (s7) (.cons .rfl (.cons .rfl (.cons .rfl (.cons .rfl (.cons .rfl (.cons .rfl (.cons .rfl (.cons .any (.cons .any (.cons .any (.cons .any (.cons .any .nil)))))))))))))))))))))
  fun s7=>(bA (s7) (.cons .rfl (.cons .rfl (.cons .rfl (.cons .rfl (.cons .rfl (.cons .rfl (.cons .any (.cons .any (.cons .any (.cons .any (.cons .any (.cons .any .nil))))))))))))))))
  fun s5=>(gJ 5 rfl)))) (by unfold Pf.next; first | rfl | (simp only [Pu.bs]; done) | (simp only [Pu.bs]; rfl) | (simp only [Pu.bs,nz9]; done) | (simp only [Pu.bs,nz9]; rfl))⟩
theorem iD:FnScope ["_law_floor_here","_law_reach_here","_law_size"] ["_law_floor_here","_law_reach_here"] (ae gn):=⟨rfl,rfl,rfl,by decide +kernel,rfl,by decide +kernel,by decide +kernel⟩
theorem nG (D:au K mg "_law_all_next" gn ["_law_floor_here","_law_reach_here"]) (B:Blt mg) (kM:MK K CM) (kW:WK K CW) (G__law_next:Has P w K mg base 1 "_law_next" ["_law_size","_law_reach_here","_law_cell"] (spL (ak (rT2 rInt rInt) (ak rInt (aOne rInt))) rInt fun x=>Pf.next x.1 x.2.1 x.2.2)):Has P w K mg base 2 "_law_all_next" ["_law_floor_here","_law_reach_here"] (spL (ak (rL (rL rInt)) (aOne rInt)) (rL rInt) fun x=>Pf.dZ x.1 x.2):=by
 have nd:=iD.nd
 refine D.pL iD (fun _=>rfl) rfl fun f cdv A outer s H E hr=>?_
 have hu:=ba hr
 exact ⟨_,(ag (av (i:=2) nd rfl (Or.inr rfl) (gc (a8 (aq (aM (K:=K) rfl) (by rfl) B.len bI (a8 (pv 0) aa)) (a8 (aq (aM (K:=K) rfl) (by rfl) B.len bI (a8 (aL (aB (K:=K) rfl) (pv 0) al (fun _ _=>rfl)) aa)) aa))))
   (aj (ar (eE (loc:=["_law_cell"]) (cap:=[("_law_size",2),("_law_reach_here",1)]) rfl ⟨rfl,by decide +kernel,by decide +kernel,rfl,⟨⟨rfl,rfl,by first | exact Or.inl rfl | exact Or.inr rfl⟩,⟨⟨rfl,rfl,by first | exact Or.inl rfl | exact Or.inr rfl⟩,trivial⟩⟩,rfl⟩  (pi_range1 rfl B.range (a8 (aw gb (aL (bp (K:=K) rfl) (pv 2) al (fun _ _=>rfl)) (aL (bp (K:=K) rfl) (pv 2) al (fun _ _=>rfl))) aa)) (fun _ _ _ _=>(az (i:=0) (show (["_law_cell","_law_size","_law_reach_here"]:List Str).Nodup by decide +kernel) rfl (Or.inl rfl))) (fun _ _ _ _=>ci) (fun _ _ _ _=>(ao G__law_next (hr.mono (by decide)) rfl (a8 (pv 1) (a8 (pv 2) (a8 (pv 0) aa))))))))),
  fun a=>BV.cast (aD 2 (gE (bT sq_l (a7 0 rfl)) (bT sq_l (bg sq_l (a7 0 rfl) am))) fun size3=>(cE (cj (iv_rng1 (hV (lA (a7 2 rfl)) (dC (a7 2 rfl)))) (by decide) (by decide) (b7 0) fun y6=>((bo (ai (a7 1 rfl) (ai (a7 2 rfl) (ap (a7 0 rfl)))))).ev))) (by unfold Pf.dZ; first | rfl | (simp only [Pu.bs]; done) | (simp only [Pu.bs]; rfl) | (simp only [Pu.bs,nz9]; done) | (simp only [Pu.bs,nz9]; rfl))⟩
theorem jR:FnScope ["floor","columns"] ["floor"] (ae il):=⟨rfl,rfl,rfl,by decide +kernel,rfl,by decide +kernel,by decide +kernel⟩
theorem oQ (D:au K mg "size_of" il ["floor"]) (B:Blt mg) (kM:MK K CM) (kW:WK K CW) :Has P w K mg base 1 "size_of" ["floor"] (spV (aOne (rL (rL rInt))) (rT2 rInt rInt) fun x=>Pf.size_of x):=by
 have nd:=jR.nd
 refine D.pV jR (fun _=>rfl) rfl fun f cdv A outer s H E hr=>?_
 have hu:=ba hr
 exact ⟨_,(ag (av (i:=1) nd rfl (Or.inl rfl) (iZ (lp (K:=K) rfl (pv 0) (fun _=>rfl)) (aq (aM (K:=K) rfl) (by rfl) B.len bI (a8 (aL (aB (K:=K) rfl) (pv 0) al (fun _ _=>rfl)) aa)) al))
   (aj (ar (gc (a8 (aq (aM (K:=K) rfl) (by rfl) B.len bI (a8 (pv 0) aa)) (a8 (pv 1) aa)))))),
  fun a=>BV.cast (aD 1 (ev_ifx (lz sq_l (a7 0 rfl)) (bT sq_l (bg sq_l (a7 0 rfl) am)) am) fun columns2=>(aE (gE (bT sq_l (a7 0 rfl)) (a7 1 rfl)))) (by unfold Pf.size_of; first | rfl | (simp only [Pu.bs]; done) | (simp only [Pu.bs]; rfl) | (simp only [Pu.bs,nz9]; done) | (simp only [Pu.bs,nz9]; rfl))⟩
theorem gT:FnScope ["floor","size"] ["floor"] (ae fk):=⟨rfl,rfl,rfl,by decide +kernel,rfl,by decide +kernel,by decide +kernel⟩
theorem m7 (D:au K mg "all_cells" fk ["floor"]) (B:Blt mg) (kM:MK K CM) (kW:WK K CW) (G_size_of:Has P w K mg base 1 "size_of" ["floor"] (spV (aOne (rL (rL rInt))) (rT2 rInt rInt) fun x=>Pf.size_of x)):Has P w K mg base 2 "all_cells" ["floor"] (spL (aOne (rL (rL rInt))) rInt fun x=>Pf.cx x):=by
 have nd:=gT.nd
 refine D.pL gT (fun _=>rfl) rfl fun f cdv A outer s H E hr=>?_
 have hu:=ba hr
 exact ⟨_,(ag (av (i:=1) nd rfl (Or.inl rfl) (ao G_size_of (hr.mono (by decide)) rfl (a8 (pv 0) aa)))
   (aj (ar (dP (oB rfl) (by rfl) B.list_ gC (a8 (pe_rng (aw gb (aL (bp (K:=K) rfl) (pv 1) al (fun _ _=>rfl)) (aL (bp (K:=K) rfl) (pv 1) al (fun _ _=>rfl))) rfl B.range) aa))))),
  fun a=>BV.cast (aD 1 (aA (ap (a7 0 rfl))) fun size1=>(cE (mV (hV (lA (a7 1 rfl)) (dC (a7 1 rfl)))))) (by unfold Pf.cx; first | rfl | (simp only [Pu.bs]; done) | (simp only [Pu.bs]; rfl) | (simp only [Pu.bs,nz9]; done) | (simp only [Pu.bs,nz9]; rfl))⟩
theorem gU:FnScope ["floor","cell","columns"] ["floor","cell"] (ae fm):=⟨rfl,rfl,rfl,by decide +kernel,rfl,by decide +kernel,by decide +kernel⟩
theorem m8 (D:au K mg "height_of" fm ["floor","cell"]) (B:Blt mg) (kM:MK K CM) (kW:WK K CW) (G_size_of:Has P w K mg base 1 "size_of" ["floor"] (spV (aOne (rL (rL rInt))) (rT2 rInt rInt) fun x=>Pf.size_of x)):Has P w K mg base 2 "height_of" ["floor","cell"] (spV (ak (rL (rL rInt)) (aOne rInt)) rInt fun x=>Pf.db x.1 x.2):=by
 have nd:=gU.nd
 refine D.pV gU (fun _=>rfl) rfl fun f cdv A outer s H E hr=>?_
 have hu:=ba hr
 exact ⟨_,(ag (av (i:=2) nd rfl (Or.inl rfl) (aL (bp (K:=K) rfl) (ao G_size_of (hr.mono (by decide)) rfl (a8 (pv 0) aa)) al (fun _ _=>rfl)))
   (aj (ar (aL (aB (K:=K) rfl) (aL (aB (K:=K) rfl) (pv 0) (aw cP (pv 1) (pv 2)) (fun _ _=>rfl)) (aw bS (pv 1) (pv 2)) (fun _ _=>rfl))))),
  fun a=>BV.cast (aD 2 (dC (aA (ap (a7 0 rfl)))) fun columns2=>(aE (bg sq_l (bg sq_l (a7 0 rfl) (iN (a7 1 rfl) (a7 2 rfl))) (gj (a7 1 rfl) (a7 2 rfl))))) (by unfold Pf.db; first | rfl | (simp only [Pu.bs]; done) | (simp only [Pu.bs]; rfl) | (simp only [Pu.bs,nz9]; done) | (simp only [Pu.bs,nz9]; rfl))⟩
theorem gW:FnScope ["floor","cell"] ["floor","cell"] (ae fo):=⟨rfl,rfl,rfl,by decide +kernel,rfl,by decide +kernel,by decide +kernel⟩
theorem m9 (D:au K mg "order_key" fo ["floor","cell"]) (B:Blt mg) (kM:MK K CM) (kW:WK K CW) (G_height_of:Has P w K mg base 2 "height_of" ["floor","cell"] (spV (ak (rL (rL rInt)) (aOne rInt)) rInt fun x=>Pf.db x.1 x.2)):Has P w K mg base 3 "order_key" ["floor","cell"] (spV (ak (rL (rL rInt)) (aOne rInt)) (rT2 rInt rInt) fun x=>Pf.bj x.1 x.2):=by
 have nd:=gW.nd
 refine D.pV gW (fun _=>rfl) rfl fun f cdv A outer s H E hr=>?_
 have hu:=ba hr
 exact ⟨_,(aj (ar (gc (a8 (ao G_height_of (hr.mono (by decide)) rfl (a8 (pv 0) (a8 (pv 1) aa))) (a8 (pv 1) aa))))),
  fun a=>BV.cast (aE (gE (aA (ai (a7 0 rfl) (ap (a7 1 rfl)))) (a7 1 rfl))) (by unfold Pf.bj; first | rfl | (simp only [Pu.bs]; done) | (simp only [Pu.bs]; rfl) | (simp only [Pu.bs,nz9]; done) | (simp only [Pu.bs,nz9]; rfl))⟩
theorem iE:FnScope ["floor"] ["floor"] (ae cK):=⟨rfl,rfl,rfl,by decide +kernel,rfl,by decide +kernel,by decide +kernel⟩
theorem nH {c9 P9:Addr} (D:di K mg "in_order" cK ["floor"] c9) (L:LamAt K mg base c9 P9 "in_order") (B:Blt mg) (kM:MK K CM) (kW:WK K CW) (G_all_cells:Has P w K mg base 2 "all_cells" ["floor"] (spL (aOne (rL (rL rInt))) rInt fun x=>Pf.cx x)) (G_order_key:Has P w K mg base 3 "order_key" ["floor","cell"] (spV (ak (rL (rL rInt)) (aOne rInt)) (rT2 rInt rInt) fun x=>Pf.bj x.1 x.2)):Has P w K mg base 7 "in_order" ["floor"] (spL (aOne (rL (rL rInt))) rInt fun x=>Pf.c0 x):=by
 have nd:=iE.nd
 refine D.pL iE (fun _=>rfl) rfl fun f A outer s H E hr=>?_
 have hu:=ba hr
 exact ⟨_,(aj (ar (pe_sortK (x:="cell") (cap:=[("floor",0)]) (ao G_all_cells (hr.mono (by decide)) rfl (a8 (pv 0) aa)) (hr.mono (by decide)) B.sorted L.bm L.hd L.mem L.nm rfl ⟨rfl,rfl,rfl,by decide +kernel,rfl,rfl,⟨⟨rfl,rfl,by first | exact Or.inl rfl | exact Or.inr rfl⟩,trivial⟩⟩ (fun _ _ _ _ _=>rfl) (fun _ _ _ _ _=>have hl:=(hr.mono (j:=6) (by decide)).in1.in1.deeper _; (ao G_order_key (hl.mono (by decide)) rfl (a8 (pv 1) (a8 (pv 0) aa))))))),
  fun a=>BV.cast (cE (evl_sortK (x:="cell") (by decide) ((bo (ap (a7 0 rfl)))).ev fun c1=>(aA (ai (a7 1 rfl) (ap (a7 0 rfl)))))) (by unfold Pf.c0; first | rfl | (simp only [Pu.bs]; done) | (simp only [Pu.bs]; rfl) | (simp only [Pu.bs,nz9]; done) | (simp only [Pu.bs,nz9]; rfl))⟩
theorem ga:FnScope ["size","reach","cell","row","column","most_steps","found","other_row","other_column"] ["size","reach","cell"] (ae eO):=⟨rfl,rfl,rfl,by decide +kernel,rfl,by decide +kernel,by decide +kernel⟩
theorem ke (D:au K mg "neighbours" eO ["size","reach","cell"]) (B:Blt mg) (kM:MK K CM) (kW:WK K CW) :Has P w K mg base 1 "neighbours" ["size","reach","cell"] (spL (ak (rT2 rInt rInt) (ak rInt (aOne rInt))) rInt fun x=>Pf.bZ x.1 x.2.1 x.2.2):=by
 have nd:=ga.nd
 refine D.pL ga (fun _=>rfl) rfl fun f cdv A outer s H E hr=>?_
 have hu:=ba hr
 exact ⟨_,(ag (av (i:=3) nd rfl (Or.inl rfl) (aw cP (pv 2) (aL (bp (K:=K) rfl) (pv 0) al (fun _ _=>rfl))))
   (ag (av (i:=4) nd rfl (Or.inl rfl) (aw bS (pv 2) (aL (bp (K:=K) rfl) (pv 0) al (fun _ _=>rfl))))
   (ag (av (i:=5) nd rfl (Or.inl rfl) (iZ (ax eP (pv 1) al (aI _)) al al))
   (ag (av (i:=6) nd rfl (Or.inl rfl) (bX aa))
   (ag (cn PassesOwn.never rfl (fD rfl B.range (a8 (aq (fE rfl) (by rfl) B.max jl (a8 al (a8 (aw dM (pv 3) al) aa))) (a8 (aq (fF rfl) (by rfl) B.min jk (a8 (aL (bp (K:=K) rfl) (pv 0) al (fun _ _=>rfl)) (a8 (aw bW (pv 3) al) aa))) aa))) (az (i:=7) nd rfl (Or.inl rfl))
   (aj (cn PassesOwn.never rfl (fD rfl B.range (a8 (aq (fE rfl) (by rfl) B.max jl (a8 al (a8 (aw dM (pv 4) al) aa))) (a8 (aq (fF rfl) (by rfl) B.min jk (a8 (aL (bp (K:=K) rfl) (pv 0) al (fun _ _=>rfl)) (a8 (aw bW (pv 4) al) aa))) aa))) (az (i:=8) nd rfl (Or.inl rfl))
   (aj (bC (pt_chain kh op_le al (aw bW (aq gu (by rfl) B.abs lj (a8 (aw dM (pv 7) (pv 3)) aa)) (aq gu (by rfl) B.abs lj (a8 (aw dM (pv 8) (pv 4)) aa))) (pv 5))
   (aj (dA (eZ (K:=K) rfl PySem.F.plainAttrs_list PySem.F.slot_list_append PySem.F.type_list_append cI (pv 6) (a8 (aw bW (aw gb (pv 7) (aL (bp (K:=K) rfl) (pv 0) al (fun _ _=>rfl))) (pv 8)) aa))))
   aF)))))
   (aj (ar (pv 6)))))))),
  fun a=>BV.cast (aD 3 (iN (a7 2 rfl) (dC (a7 0 rfl))) fun row1=>(aD 4 (gj (a7 2 rfl) (dC (a7 0 rfl))) fun column3=>(aD 5 (ev_ifxT (aU (cX cD (a7 1 rfl) am)) am am) fun most_steps5=>(d7 6 (bF (r:=rInt) bE) fun found7=>(dF (Γf:=fun (s9:(List (Int)))=>[.fr (rT2 rInt rInt) (a.1),.fr rInt (a.2.1),.fr rInt (a.2.2),.fr rInt (row1),.fr rInt (column3),.fr rInt (most_steps5),.ol rInt tt_ (s9),.any,.any]) (found7) (iR (iQ am (dO (a7 3 rfl) am)) (iP (lA (a7 0 rfl)) (bY (a7 3 rfl) am))) (.cons .rfl (.cons .rfl (.cons .rfl (.cons .rfl (.cons .rfl (.cons .rfl (.cons .rfl (.cons .any (.cons .any .nil))))))))) (fun _=>(b7 7))
  (fun s9 x8=>(b8 (dF (Γf:=fun (s11:(List (Int)))=>[.fr (rT2 rInt rInt) (a.1),.fr rInt (a.2.1),.fr rInt (a.2.2),.fr rInt (row1),.fr rInt (column3),.fr rInt (most_steps5),.ol rInt tt_ (s11),.fr rInt (x8),.any]) (s9) (iR (iQ am (dO (a7 4 rfl) am)) (iP (dC (a7 0 rfl)) (bY (a7 4 rfl) am))) (.cons .rfl (.cons .rfl (.cons .rfl (.cons .rfl (.cons .rfl (.cons .rfl (.cons .rfl (.cons .rfl (.cons .any .nil))))))))) (fun _=>(b7 8))
  (fun s11 x10=>(b8 (bG (aU (i0 am (bY (lD (dO (a7 7 rfl) (a7 3 rfl))) (lD (dO (a7 8 rfl) (a7 4 rfl)))) (a7 5 rfl)))
  (dX 6 rfl (bY (hV (a7 7 rfl) (dC (a7 0 rfl))) (a7 8 rfl)) fun found13=>(bA (found13) (.cons .rfl (.cons .rfl (.cons .rfl (.cons .rfl (.cons .rfl (.cons .rfl (.cons .rfl (.cons .rfl (.cons .any .nil)))))))))))
  (aH (bA (s11) (.cons .rfl (.cons .rfl (.cons .rfl (.cons .rfl (.cons .rfl (.cons .rfl (.cons .rfl (.cons .rfl (.cons .any .nil))))))))))))))
  fun s11=>(bA (s11) (.cons .rfl (.cons .rfl (.cons .rfl (.cons .rfl (.cons .rfl (.cons .rfl (.cons .rfl (.cons .any (.cons .any .nil)))))))))))))
  fun s9=>(gJ 6 rfl)))))) (by unfold Pf.bZ; first | rfl | (simp only [Pu.bs]; done) | (simp only [Pu.bs]; rfl) | (simp only [Pu.bs,nz9]; done) | (simp only [Pu.bs,nz9]; rfl))⟩
theorem cH:FnScope ["self","cell","around"] ["self","cell"] (ae c8):=⟨rfl,rfl,rfl,by decide +kernel,rfl,by decide +kernel,by decide +kernel⟩
theorem eT (D:bJ K CW "homes_around" "Water.homes_around" c8 ["self","cell"]) (B:Blt mg) (kM:MK K CM) (kW:WK K CW) (G_size_of:Has P w K mg base 1 "size_of" ["floor"] (spV (aOne (rL (rL rInt))) (rT2 rInt rInt) fun x=>Pf.size_of x)) (G_neighbours:Has P w K mg base 1 "neighbours" ["size","reach","cell"] (spL (ak (rT2 rInt rInt) (ak rInt (aOne rInt))) rInt fun x=>Pf.bZ x.1 x.2.1 x.2.2)):HasM P w K mg base 2 CW "homes_around" ["self","cell"] (spL (ak (rW CM CW) (aOne rInt)) rInt fun x=>Pf.aR x.1 x.2):=by
 have nd:=cH.nd
 refine D.pL cH (fun _=>rfl) rfl fun f cdv A outer s H E hr=>?_
 have hu:=ba hr
 exact ⟨_,(ag (av (i:=2) nd rfl (Or.inl rfl) (ao G_neighbours (hr.mono (by decide)) rfl (a8 (ao G_size_of (hr.mono (by decide)) rfl (a8 (cm (K:=K) rfl (pv 0) rfl) aa)) (a8 (cm (K:=K) rfl (pv 0) rfl) (a8 (pv 1) aa)))))
   (aj (ar (eE (loc:=["other"]) (cap:=[("self",0)]) rfl ⟨rfl,by decide +kernel,by decide +kernel,rfl,⟨⟨rfl,rfl,by first | exact Or.inl rfl | exact Or.inr rfl⟩,trivial⟩,rfl⟩  (bc (K:=K) rfl (pv 2)) (fun _ _ _ _=>(az (i:=0) (show (["other","self"]:List Str).Nodup by decide +kernel) rfl (Or.inl rfl))) (fun _ _ _ _=>(pifs_one (ax op_notN (aL (aB (K:=K) rfl) (cm (K:=K) rfl (pv 1) rfl) (pv 0) (fun _ _=>rfl)) iY (aI _)))) (fun _ _ _ _=>(aL (aB (K:=K) rfl) (cm (K:=K) rfl (pv 1) rfl) (pv 0) (fun _ _=>rfl))))))),
  fun a=>BV.cast (aD 2 ((bo (ai (aA (ap (ev_wFloor kW (a7 0 rfl)))) (ai (ev_wReach kW (a7 0 rfl)) (ap (a7 1 rfl)))))).ev fun around2=>(cE (jv (bL sq_l (a7 2 rfl)) (by decide) (by decide) (b7 0) (fun y4=>(aU (ev_notN (bg sq_l (i8 kW (a7 1 rfl)) (a7 0 rfl)) nn_int))) fun y4=>(jp (bg sq_l (i8 kW (a7 1 rfl)) (a7 0 rfl)))))) (by unfold Pf.aR; first | rfl | (simp only [Pu.bs]; done) | (simp only [Pu.bs]; rfl) | (simp only [Pu.bs,nz9]; done) | (simp only [Pu.bs,nz9]; rfl))⟩
theorem dv:FnScope ["self","start","here"] ["self","start"] (ae cF):=⟨rfl,rfl,rfl,by decide +kernel,rfl,by decide +kernel,by decide +kernel⟩
theorem gp (D:bJ K CM "living" "Meetings.living" cF ["self","start"]) (B:Blt mg) (kM:MK K CM) (kW:WK K CW) :HasM P w K mg base 1 CM "living" ["self","start"] (spV (ak (rM CM) (aOne (rOp rInt))) (rOp rInt) fun x=>Pf.ay x.1 x.2):=by
 have nd:=dv.nd
 refine D.pV dv (fun _=>rfl) rfl fun f cdv A outer s H E hr=>?_
 have hu:=ba hr
 exact ⟨_,(ag (av (i:=2) nd rfl (Or.inl rfl) (pv 1))
   (ag (gs PassesOwn.never (nJ (pc_dinO hu (pv 2) (cm (K:=K) rfl (pv 0) rfl)))
   (aj (av (i:=2) nd rfl (Or.inl rfl) (aL (bp (K:=K) rfl) (pe_dget hu (cm (K:=K) rfl (pv 0) rfl) (pv 2) (fun _ _=>rfl)) al (fun _ _=>rfl)))))
   (aj (ar (pv 2))))),
  fun a=>BV.cast (aD 2 (a7 1 rfl) fun here1=>(lG (Γf:=fun (s2:(Option (Int)))=>[.fr (rM CM) (a.1),.fr (rOp rInt) (a.2),.fr (rOp rInt) (s2)]) 100000 (here1) (.cons .rfl (.cons .rfl (.cons .rfl .nil))) (fun s2=>(et_b (ev_inDO (a7 2 rfl) (kK kM (a7 0 rfl)))))
  (fun s2=>(b8 (aD 2 (dC (ev_ixD (kK kM (a7 0 rfl)) (jp (a7 2 rfl)))) fun here5=>(bA (here5) (.cons .rfl (.cons .rfl (.cons .rfl .nil)))))))
  fun s2=>(aE (a7 2 rfl)))) (by unfold Pf.ay; first | rfl | (simp only [Pu.bs]; done) | (simp only [Pu.bs]; rfl) | (simp only [Pu.bs,nz9]; done) | (simp only [Pu.bs,nz9]; rfl))⟩
theorem fw:FnScope ["floor","cells"] ["floor","cells"] (ae bR):=⟨rfl,rfl,rfl,by decide +kernel,rfl,by decide +kernel,by decide +kernel⟩
theorem jS {c9 P9:Addr} (D:di K mg "earliest_of" bR ["floor","cells"] c9) (L:LamAt K mg base c9 P9 "earliest_of") (B:Blt mg) (kM:MK K CM) (kW:WK K CW) (G_order_key:Has P w K mg base 3 "order_key" ["floor","cell"] (spV (ak (rL (rL rInt)) (aOne rInt)) (rT2 rInt rInt) fun x=>Pf.bj x.1 x.2)):Has P w K mg base 7 "earliest_of" ["floor","cells"] (spV (ak (rL (rL rInt)) (aOne (rL rInt))) rInt fun x=>Pf.c6 x.1 x.2):=by
 have nd:=fw.nd
 refine D.pV fw (fun _=>rfl) rfl fun f A outer s H E hr=>?_
 have hu:=ba hr
 exact ⟨_,(aj (ar (pe_minK (x:="cell") (cap:=[("floor",0)]) (pv 1) (hr.mono (by decide)) B.min L.bm L.hd L.mem L.nm rfl ⟨rfl,rfl,rfl,by decide +kernel,rfl,rfl,⟨⟨rfl,rfl,by first | exact Or.inl rfl | exact Or.inr rfl⟩,trivial⟩⟩ (fun _ _ _ _ _=>rfl) (fun _ _ _ _ _=>have hl:=(hr.mono (j:=5) (by decide)).in1.deeper _; (ao G_order_key (hl.mono (by decide)) rfl (a8 (pv 1) (a8 (pv 0) aa))))))),
  fun a=>BV.cast (aE (ev_minK (x:="cell") (by decide) (a7 1 rfl) fun c1=>(aA (ai (a7 1 rfl) (ap (a7 0 rfl)))))) (by unfold Pf.c6; first | rfl | (simp only [Pu.bs]; done) | (simp only [Pu.bs]; rfl) | (simp only [Pu.bs,nz9]; done) | (simp only [Pu.bs,nz9]; rfl))⟩
theorem dz:FnScope ["self","cell"] ["self","cell"] (ae cG):=⟨rfl,rfl,rfl,by decide +kernel,rfl,by decide +kernel,by decide +kernel⟩
theorem gq (D:bJ K CW "start_now" "Water.start_now" cG ["self","cell"]) (B:Blt mg) (kM:MK K CM) (kW:WK K CW) (G_Meetings_living:HasM P w K mg base 1 CM "living" ["self","start"] (spV (ak (rM CM) (aOne (rOp rInt))) (rOp rInt) fun x=>Pf.ay x.1 x.2)):HasM P w K mg base 2 CW "start_now" ["self","cell"] (spV (ak (rW CM CW) (aOne rInt)) (rOp rInt) fun x=>Pf.aJ x.1 x.2):=by
 have nd:=dz.nd
 refine D.pV dz (fun _=>rfl) rfl fun f cdv A outer s H E hr=>?_
 have hu:=ba hr
 exact ⟨_,(aj (ar (dj G_Meetings_living (cm (K:=K) rfl (pv 0) rfl) kM.c (hr.mono (by decide)) (a8 (aL (aB (K:=K) rfl) (cm (K:=K) rfl (pv 0) rfl) (pv 1) (fun _ _=>rfl)) aa)))),
  fun a=>BV.cast (aE (iV ob_m (ev_wMeet kW (a7 0 rfl)) (ap (bg sq_l (i8 kW (a7 0 rfl)) (a7 1 rfl))))) (by unfold Pf.aJ; first | rfl | (simp only [Pu.bs]; done) | (simp only [Pu.bs]; rfl) | (simp only [Pu.bs,nz9]; done) | (simp only [Pu.bs,nz9]; rfl))⟩
theorem eR:FnScope ["floor","one","other"] ["floor","one","other"] (ae dt):=⟨rfl,rfl,rfl,by decide +kernel,rfl,by decide +kernel,by decide +kernel⟩
theorem iI (D:au K mg "comes_before" dt ["floor","one","other"]) (B:Blt mg) (kM:MK K CM) (kW:WK K CW) (G_order_key:Has P w K mg base 3 "order_key" ["floor","cell"] (spV (ak (rL (rL rInt)) (aOne rInt)) (rT2 rInt rInt) fun x=>Pf.bj x.1 x.2)):Has P w K mg base 4 "comes_before" ["floor","one","other"] (spV (ak (rL (rL rInt)) (ak rInt (aOne rInt))) aG fun x=>Pf.aV x.1 x.2.1 x.2.2):=by
 have nd:=eR.nd
 refine D.pV eR (fun _=>rfl) rfl fun f cdv A outer s H E hr=>?_
 have hu:=ba hr
 exact ⟨_,(aj (ar (iL (op_ltT (Nat.lt_of_succ_lt (ba hr))) (ao G_order_key (hr.mono (by decide)) rfl (a8 (pv 0) (a8 (pv 1) aa))) (ao G_order_key (hr.mono (by decide)) rfl (a8 (pv 0) (a8 (pv 2) aa))) (aI _)))),
  fun a=>BV.cast (aE (ev_ltT2 (aA (ai (a7 0 rfl) (ap (a7 1 rfl)))) (aA (ai (a7 0 rfl) (ap (a7 2 rfl)))))) (by unfold Pf.aV; first | rfl | (simp only [Pu.bs]; done) | (simp only [Pu.bs]; rfl) | (simp only [Pu.bs,nz9]; done) | (simp only [Pu.bs,nz9]; rfl))⟩
theorem gX:FnScope ["floor","reach","cell","last","size","back","waiting","here","other"] ["floor","reach","cell","last"] (ae fq):=⟨rfl,rfl,rfl,by decide +kernel,rfl,by decide +kernel,by decide +kernel⟩
theorem ma (D:au K mg "ways_back" fq ["floor","reach","cell","last"]) (B:Blt mg) (kM:MK K CM) (kW:WK K CW) (G_size_of:Has P w K mg base 1 "size_of" ["floor"] (spV (aOne (rL (rL rInt))) (rT2 rInt rInt) fun x=>Pf.size_of x)) (G_neighbours:Has P w K mg base 1 "neighbours" ["size","reach","cell"] (spL (ak (rT2 rInt rInt) (ak rInt (aOne rInt))) rInt fun x=>Pf.bZ x.1 x.2.1 x.2.2)) (G_comes_before:Has P w K mg base 4 "comes_before" ["floor","one","other"] (spV (ak (rL (rL rInt)) (ak rInt (aOne rInt))) aG fun x=>Pf.aV x.1 x.2.1 x.2.2)):Has P w K mg base 5 "ways_back" ["floor","reach","cell","last"] (spD (ak (rL (rL rInt)) (ak rInt (ak rInt (aOne rInt)))) (rOp rInt) fun x=>Pf.cJ x.1 x.2.1 x.2.2.1 x.2.2.2):=by
 have nd:=gX.nd
 refine D.pD gX (fun _=>rfl) rfl fun f cdv A outer s H E hr=>?_
 have hu:=ba hr
 exact ⟨_,(ag (av (i:=4) nd rfl (Or.inl rfl) (ao G_size_of (hr.mono (by decide)) rfl (a8 (pv 0) aa)))
   (ag (av (i:=5) nd rfl (Or.inl rfl) (pe_disp (mD (pv 2) iY pps_nil) rfl rfl (by simp) (by decide)))
   (ag (av (i:=6) nd rfl (Or.inl rfl) (bX (a8 (pv 2) aa)))
   (ag (gs PassesOwn.never (lp (K:=K) rfl (pv 6) (fun _=>rfl))
   (ag (av (i:=7) nd rfl (Or.inl rfl) (eZ (K:=K) rfl PySem.F.plainAttrs_list PySem.F.slot_list_pop PySem.F.type_list_pop mt_popAt (pv 6) (a8 al aa)))
   (aj (cn PassesOwn.never rfl (bc (K:=K) rfl (ao G_neighbours (hr.mono (by decide)) rfl (a8 (pv 4) (a8 (pv 1) (a8 (pv 7) aa))))) (az (i:=8) nd rfl (Or.inl rfl))
   (aj (bC (PW.pt (gZ (nJ (kx hu (pv 8) (pv 5))) (fA (df (cz (ao G_comes_before (hr.mono (by decide)) rfl (a8 (pv 0) (a8 (pv 3) (a8 (pv 8) aa)))))))))
   (ag (lf hu (pv 5) (pv 8) (pv 7) rfl)
   (aj (dA (eZ (K:=K) rfl PySem.F.plainAttrs_list PySem.F.slot_list_append PySem.F.type_list_append cI (pv 6) (a8 (pv 8) aa)))))
   aF))))))
   (aj (ar (pv 5))))))),
  fun a=>BV.cast (aD 4 (aA (ap (a7 0 rfl))) fun size1=>(bv_setD 5 (evd_one (a7 2 rfl) lu) fun back3=>(d7 6 (bF (bv (a7 2 rfl) bE)) fun waiting4=>(lG (Γf:=fun (s5:(List (Int × Option (Int))) × (List (Int)))=>[.fr (rL (rL rInt)) (a.1),.fr rInt (a.2.1),.fr rInt (a.2.2.1),.fr rInt (a.2.2.2),.fr (rT2 rInt rInt) (size1),.od (rOp rInt) tt_ (s5.1),.ol rInt tt_ (s5.2),.any,.any]) 100000 ((back3,waiting4)) (.cons .rfl (.cons .rfl (.cons .rfl (.cons .rfl (.cons .rfl (.cons .rfl (.cons .rfl (.cons .any (.cons .any .nil))))))))) (fun s5=>(o7 6 rfl (lz sq_l (a7 6 rfl))))
  (fun s5=>(bv_popF 6 7 rfl (by decide) fun here6 waiting8=>(b8 (dF (Γf:=fun (s10:(List (Int × Option (Int))) × (List (Int)))=>[.fr (rL (rL rInt)) (a.1),.fr rInt (a.2.1),.fr rInt (a.2.2.1),.fr rInt (a.2.2.2),.fr (rT2 rInt rInt) (size1),.od (rOp rInt) tt_ (s10.1),.ol rInt tt_ (s10.2),.fr rInt (here6),.any]) ((s5.1,waiting8)) (bL sq_l ((bo (ai (a7 4 rfl) (ai (a7 1 rfl) (ap (a7 7 rfl)))))).ev) (.cons .rfl (.cons .rfl (.cons .rfl (.cons .rfl (.cons .rfl (.cons .rfl (.cons .rfl (.cons .rfl (.cons .any .nil))))))))) (fun _=>(b7 8))
  (fun s10 x9=>(b8 (bG (et_borD 5 rfl (ly (et_b (kD (a7 8 rfl) (a7 5 rfl))) (dh (et_b (aA (ai (a7 0 rfl) (ai (a7 3 rfl) (ap (a7 8 rfl)))))))))
  (mO (bv_put 5 rfl (a7 8 rfl) (gD (a7 7 rfl)) fun back12=>(dX 6 rfl (a7 8 rfl) fun waiting15=>(bA ((back12,waiting15)) (.cons .rfl (.cons .rfl (.cons .rfl (.cons .rfl (.cons .rfl (.cons .rfl (.cons .rfl (.cons .rfl (.cons .any .nil)))))))))))))
  (aH (bA ((s10.1,s10.2)) (.cons .rfl (.cons .rfl (.cons .rfl (.cons .rfl (.cons .rfl (.cons .rfl (.cons .rfl (.cons .rfl (.cons .any .nil))))))))))))))
  fun s10=>(bA ((s10.1,s10.2)) (.cons .rfl (.cons .rfl (.cons .rfl (.cons .rfl (.cons .rfl (.cons .rfl (.cons .rfl (.cons .any (.cons .any .nil))))))))))))))
  fun s5=>(bv_retOD 5 rfl))))) (by unfold Pf.cJ; first | rfl | (simp only [Pu.bs]; done) | (simp only [Pu.bs]; rfl) | (simp only [Pu.bs,nz9]; done) | (simp only [Pu.bs,nz9]; rfl))⟩
theorem gY:FnScope ["floor","reach","one","other","last","back","way"] ["floor","reach","one","other","last"] (ae ft):=⟨rfl,rfl,rfl,by decide +kernel,rfl,by decide +kernel,by decide +kernel⟩
theorem md (D:au K mg "way_under" ft ["floor","reach","one","other","last"]) (B:Blt mg) (kM:MK K CM) (kW:WK K CW) (G_ways_back:Has P w K mg base 5 "ways_back" ["floor","reach","cell","last"] (spD (ak (rL (rL rInt)) (ak rInt (ak rInt (aOne rInt)))) (rOp rInt) fun x=>Pf.cJ x.1 x.2.1 x.2.2.1 x.2.2.2)):Has P w K mg base 6 "way_under" ["floor","reach","one","other","last"] (spL (ak (rL (rL rInt)) (ak rInt (ak rInt (ak rInt (aOne rInt))))) rInt fun x=>Pf.dc x.1 x.2.1 x.2.2.1 x.2.2.2.1 x.2.2.2.2):=by
 have nd:=gY.nd
 refine D.pL gY (fun _=>rfl) rfl fun f cdv A outer s H E hr=>?_
 have hu:=ba hr
 exact ⟨_,(ag (av (i:=5) nd rfl (Or.inl rfl) (ao G_ways_back (hr.mono (by decide)) rfl (a8 (pv 0) (a8 (pv 1) (a8 (pv 3) (a8 (pv 4) aa))))))
   (ag (av (i:=6) nd rfl (Or.inl rfl) (bX (a8 (pv 2) aa)))
   (ag (gs PassesOwn.never (ax ip (aL (aB (K:=K) rfl) (pv 6) (mr j2 al) (fun _ _=>rfl)) (pv 3) (aI _))
   (aj (dA (eZ (K:=K) rfl PySem.F.plainAttrs_list PySem.F.slot_list_append PySem.F.type_list_append cI (pv 6) (a8 (pe_dget hu (pv 5) (aL (aB (K:=K) rfl) (pv 6) (mr j2 al) (fun _ _=>rfl)) (fun _ _=>rfl)) aa)))))
   (aj (ar (pv 6)))))),
  fun a=>BV.cast (aD 5 ((mM (ai (a7 0 rfl) (ai (a7 1 rfl) (ai (a7 3 rfl) (ap (a7 4 rfl))))))).ev fun back1=>(d7 6 (bF (bv (a7 2 rfl) bE)) fun way3=>(lG (Γf:=fun (s4:(List (Int)))=>[.fr (rL (rL rInt)) (a.1),.fr rInt (a.2.1),.fr rInt (a.2.2.1),.fr rInt (a.2.2.2.1),.fr rInt (a.2.2.2.2),.fr (rD (rOp rInt)) (back1),.ol rInt tt_ (s4)]) 100000 (way3) (.cons .rfl (.cons .rfl (.cons .rfl (.cons .rfl (.cons .rfl (.cons .rfl (.cons .rfl .nil))))))) (fun s4=>(o7 6 rfl (aU (f9 cD (bg sq_l (a7 6 rfl) (jq am)) (a7 3 rfl)))))
  (fun s4=>(b8 (dX 6 rfl (ev_bor 6 rfl dS (jp (ev_ixD (a7 5 rfl) (bg sq_l (a7 6 rfl) (jq am))))) fun way8=>(bA (way8) (.cons .rfl (.cons .rfl (.cons .rfl (.cons .rfl (.cons .rfl (.cons .rfl (.cons .rfl .nil)))))))))))
  fun s4=>(gJ 6 rfl)))) (by unfold Pf.dc; first | rfl | (simp only [Pu.bs]; done) | (simp only [Pu.bs]; rfl) | (simp only [Pu.bs,nz9]; done) | (simp only [Pu.bs,nz9]; rfl))⟩
theorem eA:FnScope ["floor","reach","cell","last"] ["floor","reach","cell","last"] (ae cZ):=⟨rfl,rfl,rfl,by decide +kernel,rfl,by decide +kernel,by decide +kernel⟩
theorem io (D:au K mg "stretch_under" cZ ["floor","reach","cell","last"]) (B:Blt mg) (kM:MK K CM) (kW:WK K CW) (G_comes_before:Has P w K mg base 4 "comes_before" ["floor","one","other"] (spV (ak (rL (rL rInt)) (ak rInt (aOne rInt))) aG fun x=>Pf.aV x.1 x.2.1 x.2.2)) (G_ways_back:Has P w K mg base 5 "ways_back" ["floor","reach","cell","last"] (spD (ak (rL (rL rInt)) (ak rInt (ak rInt (aOne rInt)))) (rOp rInt) fun x=>Pf.cJ x.1 x.2.1 x.2.2.1 x.2.2.2)):Has P w K mg base 6 "stretch_under" ["floor","reach","cell","last"] (spL (ak (rL (rL rInt)) (ak rInt (ak rInt (aOne rInt)))) rInt fun x=>Pf.bQ x.1 x.2.1 x.2.2.1 x.2.2.2):=by
 have nd:=eA.nd
 refine D.pL eA (fun _=>rfl) rfl fun f cdv A outer s H E hr=>?_
 have hu:=ba hr
 exact ⟨_,(ag (bC (cz (ao G_comes_before (hr.mono (by decide)) rfl (a8 (pv 0) (a8 (pv 3) (a8 (pv 2) aa)))))
   (aj (ar (bX aa)))
   aF)
   (aj (ar (aq (oq rfl) (by rfl) B.sorted fH (a8 (ao G_ways_back (hr.mono (by decide)) rfl (a8 (pv 0) (a8 (pv 1) (a8 (pv 2) (a8 (pv 3) aa))))) aa))))),
  fun a=>BV.cast (bG (et_b (aA (ai (a7 0 rfl) (ai (a7 3 rfl) (ap (a7 2 rfl))))))
  (b9 (cE (bF (r:=rInt) bE)))
  (aH (cE (evl_sortD ((mM (ai (a7 0 rfl) (ai (a7 1 rfl) (ai (a7 2 rfl) (ap (a7 3 rfl))))))).ev)))) (by unfold Pf.bQ; first | rfl | (simp only [Pu.bs]; done) | (simp only [Pu.bs]; rfl) | (simp only [Pu.bs,nz9]; done) | (simp only [Pu.bs,nz9]; rfl))⟩
theorem d6:FnScope ["floor","reach","cell","later","order"] ["floor","reach","cell","later"] (ae cr):=⟨rfl,rfl,rfl,by decide +kernel,rfl,by decide +kernel,by decide +kernel⟩
theorem fU (D:au K mg "stretch_ahead_of" cr ["floor","reach","cell","later"]) (B:Blt mg) (kM:MK K CM) (kW:WK K CW) (G_in_order:Has P w K mg base 7 "in_order" ["floor"] (spL (aOne (rL (rL rInt))) rInt fun x=>Pf.c0 x)) (G_comes_before:Has P w K mg base 4 "comes_before" ["floor","one","other"] (spV (ak (rL (rL rInt)) (ak rInt (aOne rInt))) aG fun x=>Pf.aV x.1 x.2.1 x.2.2)) (G_stretch_under:Has P w K mg base 6 "stretch_under" ["floor","reach","cell","last"] (spL (ak (rL (rL rInt)) (ak rInt (ak rInt (aOne rInt)))) rInt fun x=>Pf.bQ x.1 x.2.1 x.2.2.1 x.2.2.2)):Has P w K mg base 8 "stretch_ahead_of" ["floor","reach","cell","later"] (spL (ak (rL (rL rInt)) (ak rInt (ak rInt (aOne rInt)))) rInt fun x=>Pf.bt x.1 x.2.1 x.2.2.1 x.2.2.2):=by
 have nd:=d6.nd
 refine D.pL d6 (fun _=>rfl) rfl fun f cdv A outer s H E hr=>?_
 have hu:=ba hr
 exact ⟨_,(ag (bC (df (cz (ao G_comes_before (hr.mono (by decide)) rfl (a8 (pv 0) (a8 (pv 2) (a8 (pv 3) aa))))))
   (aj (ar (bX aa)))
   aF)
   (ag (av (i:=4) nd rfl (Or.inl rfl) (ao G_in_order (hr.mono (by decide)) rfl (a8 (pv 0) aa)))
   (aj (ar (ao G_stretch_under (hr.mono (by decide)) rfl (a8 (pv 0) (a8 (pv 1) (a8 (pv 2) (a8 (aL (aB (K:=K) rfl) (pv 4) (aw dM (eZ (K:=K) rfl PySem.F.plainAttrs_list PySem.F.slot_list_index PySem.F.type_list_index (mt_index (K:=K) rfl) (pv 4) (a8 (pv 3) aa)) al) (fun _ _=>rfl)) aa))))))))),
  fun a=>BV.cast (bG (dh (et_b (aA (ai (a7 0 rfl) (ai (a7 2 rfl) (ap (a7 3 rfl)))))))
  (b9 (cE (bF (r:=rInt) bE)))
  (aH (aD 4 ((bo (ap (a7 0 rfl)))).ev fun order2=>(cE (bo (ai (a7 0 rfl) (ai (a7 1 rfl) (ai (a7 2 rfl) (ap (bg sq_l (a7 4 rfl) (dO (ev_index (a7 4 rfl) (a7 3 rfl)) am))))))))))) (by unfold Pf.bt; first | rfl | (simp only [Pu.bs]; done) | (simp only [Pu.bs]; rfl) | (simp only [Pu.bs,nz9]; done) | (simp only [Pu.bs,nz9]; rfl))⟩
theorem eS:FnScope ["floor","reach","one","other","latest","way"] ["floor","reach","one","other"] (ae du):=⟨rfl,rfl,rfl,by decide +kernel,rfl,by decide +kernel,by decide +kernel⟩
theorem iJ (D:au K mg "pass_between" du ["floor","reach","one","other"]) (B:Blt mg) (kM:MK K CM) (kW:WK K CW) (G_joining_cell:Has P w K mg base 11 "joining_cell" ["floor","reach","one","other"] (spV (ak rF (ak rInt (ak rInt (aOne rInt)))) (rOp rInt) fun x=>Pf.cb x.1 x.2.1 x.2.2.1 x.2.2.2)) (G_way_under:Has P w K mg base 6 "way_under" ["floor","reach","one","other","last"] (spL (ak (rL (rL rInt)) (ak rInt (ak rInt (ak rInt (aOne rInt))))) rInt fun x=>Pf.dc x.1 x.2.1 x.2.2.1 x.2.2.2.1 x.2.2.2.2)) (G_stretch_ahead_of:Has P w K mg base 8 "stretch_ahead_of" ["floor","reach","cell","later"] (spL (ak (rL (rL rInt)) (ak rInt (ak rInt (aOne rInt)))) rInt fun x=>Pf.bt x.1 x.2.1 x.2.2.1 x.2.2.2)):Has P w K mg base 12 "pass_between" ["floor","reach","one","other"] (spY (ak (rL (rL rInt)) (ak rInt (ak rInt (aOne rInt)))) fun x=>Pf.aP x.1 x.2.1 x.2.2.1 x.2.2.2):=by
 have nd:=eS.nd
 refine D.pY eS (fun _=>rfl) rfl fun f cdv A outer s H E hr=>?_
 have hu:=ba hr
 exact ⟨_,(ag (av (i:=4) nd rfl (Or.inl rfl) (ao G_joining_cell (hr.mono (by decide)) rfl (a8 (pv 0) (a8 (pv 1) (a8 (pv 2) (a8 (pv 3) aa))))))
   (ag (av (i:=5) nd rfl (Or.inl rfl) (ao G_way_under (hr.mono (by decide)) rfl (a8 (pv 0) (a8 (pv 1) (a8 (pv 2) (a8 (pv 3) (a8 (pv 4) aa)))))))
   (aj (ar (gc (a8 (pv 4) (a8 (pv 5) (a8 (ao G_stretch_ahead_of (hr.mono (by decide)) rfl (a8 (pv 0) (a8 (pv 1) (a8 (pv 2) (a8 (pv 4) aa))))) aa)))))))),
  fun a=>BV.cast (aD 4 (jp (aA (ai (a7 0 rfl) (ai (a7 1 rfl) (ai (a7 2 rfl) (ap (a7 3 rfl))))))) fun latest1=>(d7 5 (bo (ai (a7 0 rfl) (ai (a7 1 rfl) (ai (a7 2 rfl) (ai (a7 3 rfl) (ap (a7 4 rfl))))))) fun way4=>(bv_retY 5 rfl (a7 4 rfl) (bo (ai (a7 0 rfl) (ai (a7 1 rfl) (ai (a7 2 rfl) (ap (a7 4 rfl))))))))) (by unfold Pf.aP; first | rfl | (simp only [Pu.bs]; done) | (simp only [Pu.bs]; rfl) | (simp only [Pu.bs,nz9]; done) | (simp only [Pu.bs,nz9]; rfl))⟩
theorem jT:FnScope ["_law_found","_law_most","_law_one"] ["_law_found","_law_most"] (ae im):=⟨rfl,rfl,rfl,by decide +kernel,rfl,by decide +kernel,by decide +kernel⟩
theorem oS (D:au K mg "_law_numbers" im ["_law_found","_law_most"]) (B:Blt mg) (kM:MK K CM) (kW:WK K CW) :Has P w K mg base 1 "_law_numbers" ["_law_found","_law_most"] (spV (ak (rL rInt) (aOne rInt)) aG fun x=>Pf.bK x.1 x.2):=by
 have nd:=jT.nd
 refine D.pV jT (fun _=>rfl) rfl fun f cdv A outer s H E hr=>?_
 have hu:=ba hr
 exact ⟨_,(ag (bC (df (cz (aq (fJ (K:=K) (T:="list") rfl) (by rfl) B.isinstance cN (a8 (pv 0) (a8 (iK (v:=.ty "list") rfl B.list_ gC rfl) aa)))))
   (aj (ar cy))
   aF)
   (ag (cn PassesOwn.never rfl (bc (K:=K) rfl (pv 0)) (az (i:=2) nd rfl (Or.inl rfl))
   (aj (bC (PW.pt (d0 (df (cz (aq (fJ (K:=K) (T:="int") rfl) (by rfl) B.isinstance cN (a8 (pv 2) (a8 (iK (v:=.ty "int") rfl B.int_ bo_int rfl) aa))))) (d0 (cz (aq (fJ (K:=K) (T:="bool") rfl) (by rfl) B.isinstance cN (a8 (pv 2) (a8 (iK (v:=.ty "bool") rfl B.bool_ bo_bool rfl) aa)))) (d0 (ax kh (pv 2) al (aI _)) (eB (ax op_ge (pv 2) (pv 1) (aI _)))))))
   (aj (ar cy))
   aF)))
   (aj (ar cy)))),
  fun a=>BV.cast (bG (dh (et_b (lE (a7 0 rfl) isi_ll)))
  (b9 (aE cC))
  (aH (fN (Γf:=fun (s2:Unit)=>[.fr (rL rInt) (a.1),.fr rInt (a.2),.any]) (rf:=finV aG) (e:=(fun x=>x)) (()) (bL sq_l (a7 0 rfl)) (.cons .rfl (.cons .rfl (.cons .any .nil))) (fun _=>(b7 2))
  (fun s2 x1=>(b8 (bG (lJ (dh (et_b (lE (a7 2 rfl) isi_ii))) (lJ (et_b (lE (a7 2 rfl) isi_ib)) (lJ (aU (ev_lt (a7 2 rfl) am)) (aU (ev_ge (a7 2 rfl) (a7 1 rfl))))))
  (b9 (dE (aE cC)))
  (aH (dW (()) (.cons .rfl (.cons .rfl (.cons .any .nil))))))))
  rfV (fun _ _ _ h=>h) fun s2=>(aE cC)))) (by unfold Pf.bK; first | rfl | (simp only [Pu.bs]; done) | (simp only [Pu.bs]; rfl) | (simp only [Pu.bs,nz9]; done) | (simp only [Pu.bs,nz9]; rfl))⟩
theorem sc_way:FnScope ["_law_way_here","_law_beside","_law_one","_law_other","_law_k"] ["_law_way_here","_law_beside","_law_one","_law_other"] (ae s_way):=⟨rfl,rfl,rfl,by decide +kernel,rfl,by decide +kernel,by decide +kernel⟩
theorem ok_way (D:au K mg "_law_way" s_way ["_law_way_here","_law_beside","_law_one","_law_other"]) (B:Blt mg) (kM:MK K CM) (kW:WK K CW) (G__law_numbers:Has P w K mg base 1 "_law_numbers" ["_law_found","_law_most"] (spV (ak (rL rInt) (aOne rInt)) aG fun x=>Pf.bK x.1 x.2)):Has P w K mg base 2 "_law_way" ["_law_way_here","_law_beside","_law_one","_law_other"] (spV (ak (rL rInt) (ak (rL (rL rInt)) (ak rInt (aOne rInt)))) aG fun x=>Pf.ib x.1 x.2.1 x.2.2.1 x.2.2.2):=by
 have nd:=sc_way.nd
 refine D.pV sc_way (fun _=>rfl) rfl fun f cdv A outer s H E hr=>?_
 have hu:=ba hr
 exact ⟨_,(ag (bC (PW.pt (d0 (df (cz (ao G__law_numbers (hr.mono (by decide)) rfl (a8 (pv 0) (a8 (aq (aM (K:=K) rfl) (by rfl) B.len bI (a8 (pv 1) aa)) aa))))) (d0 (ax eP (aq (aM (K:=K) rfl) (by rfl) B.len bI (a8 (pv 0) aa)) al (aI _)) (d0 (ax ip (aL (aB (K:=K) rfl) (pv 0) al (fun _ _=>rfl)) (pv 2) (aI _)) (eB (ax ip (aL (aB (K:=K) rfl) (pv 0) (mr j2 al) (fun _ _=>rfl)) (pv 3) (aI _)))))))
   (aj (ar cy))
   aF)
   (ag (cn PassesOwn.never rfl (fD rfl B.range (a8 al (a8 (aq (aM (K:=K) rfl) (by rfl) B.len bI (a8 (pv 0) aa)) aa))) (az (i:=4) nd rfl (Or.inl rfl))
   (aj (bC (PW.pt (d0 (ax (fI (K:=K) rfl) (aL (aB (K:=K) rfl) (pv 0) (pv 4) (fun _ _=>rfl)) (aL (aB (K:=K) rfl) (pv 1) (aL (aB (K:=K) rfl) (pv 0) (aw dM (pv 4) al) (fun _ _=>rfl)) (fun _ _=>rfl)) (by with_unfolding_all rfl)) (eB (ax (nY (K:=K) rfl) (aL (aB (K:=K) rfl) (pv 0) (pv 4) (fun _ _=>rfl)) (ja (jm (K:=K) rfl) (pv 0) po_none (gv (pv 4))) (by with_unfolding_all rfl)))))
   (aj (ar cy))
   aF)))
   (aj (ar cy)))),
  fun a=>BV.cast (bG (dU (dh (et_b (aA (ai (a7 0 rfl) (ap (bT sq_l (a7 1 rfl))))))) (dU (aU (cX cD (bT sq_l (a7 0 rfl)) am)) (dU (aU (f9 cD (bg sq_l (a7 0 rfl) am) (a7 2 rfl))) (aU (f9 cD (bg sq_l (a7 0 rfl) (jq am)) (a7 3 rfl))))))
  (b9 (aE cC))
  (aH (fN (Γf:=fun (s7:Unit)=>[.fr (rL rInt) (a.1),.fr (rL (rL rInt)) (a.2.1),.fr rInt (a.2.2.1),.fr rInt (a.2.2.2),.any]) (rf:=finV aG) (e:=(fun x=>x)) (()) (iR am (bT sq_l (a7 0 rfl))) (.cons .rfl (.cons .rfl (.cons .rfl (.cons .rfl (.cons .any .nil))))) (fun _=>(b7 4))
  (fun s7 x6=>(b8 (bG (dU (aU (fL gk (bg sq_l (a7 0 rfl) (a7 4 rfl)) (bg sq_l (a7 1 rfl) (bg sq_l (a7 0 rfl) (dO (a7 4 rfl) am))))) (aU (o6 gk (bg sq_l (a7 0 rfl) (a7 4 rfl)) ((lB sq_l (a7 0 rfl) eo_none (gF (a7 4 rfl)))).ev)))
  (b9 (dE (aE cC)))
  (aH (dW (()) (.cons .rfl (.cons .rfl (.cons .rfl (.cons .rfl (.cons .any .nil))))))))))
  rfV (fun _ _ _ h=>h) fun s7=>(aE cC)))) (by unfold Pf.ib; first | (simp only [Pu.bs]; done) | (simp only [Pu.bs,nz9]; done) | (simp only [Pu.bs,nz9]; rfl))⟩
theorem kT:FnScope ["_law_found","_law_beside","_law_cell","_law_there","_law_left","_law_other"] ["_law_found","_law_beside","_law_cell"] (ae jN):=⟨rfl,rfl,rfl,by decide +kernel,rfl,by decide +kernel,by decide +kernel⟩
theorem ok_joined (D:au K mg "_law_joined" jN ["_law_found","_law_beside","_law_cell"]) (B:Blt mg) (kM:MK K CM) (kW:WK K CW) :Has P w K mg base 1 "_law_joined" ["_law_found","_law_beside","_law_cell"] (spV (ak (rL rInt) (ak (rL (rL rInt)) (aOne rInt))) aG fun x=>Pf.joined x.1 x.2.1 x.2.2):=by
 have nd:=kT.nd
 refine D.pV kT (fun _=>rfl) rfl fun f cdv A outer s H E hr=>?_
 have hu:=ba hr
 exact ⟨_,(ag (av (i:=3) nd rfl (Or.inl rfl) (pe_disp (mD (pv 2) cy pps_nil) rfl rfl (by simp) (by decide)))
   (ag (av (i:=4) nd rfl (Or.inl rfl) (bX (a8 (pv 2) aa)))
   (ag (gs PassesOwn.never (ax (iT (K:=K) rfl hr.units) (pv 4) (bX aa) (aI _))
   (aj (cn PassesOwn.never rfl (bc (K:=K) rfl (aL (aB (K:=K) rfl) (pv 1) (pe_bm0K (K:=K) rfl PySem.F.plainAttrs_list PySem.F.slot_list_pop PySem.F.type_list_pop mt_pop (pv 4)) (fun _ _=>rfl))) (az (i:=5) nd rfl (Or.inl rfl))
   (aj (bC (PW.pt (gZ (ax (nY (K:=K) rfl) (pv 5) (pv 0) (by with_unfolding_all rfl)) (fA (nJ (kx hu (pv 5) (pv 3))))))
   (ag (lf hu (pv 3) (pv 5) cy rfl)
   (aj (dA (eZ (K:=K) rfl PySem.F.plainAttrs_list PySem.F.slot_list_append PySem.F.type_list_append cI (pv 4) (a8 (pv 5) aa)))))
   aF)))))
   (aj (ar (iL eP (aq call_lenD (by rfl) B.len bI (a8 (pv 3) aa)) (aq (aM (K:=K) rfl) (by rfl) B.len bI (a8 (pv 0) aa)) (aI _))))))),
  fun a=>BV.cast (bv_setD 3 (evd_one (a7 2 rfl) cC) fun there1=>(d7 4 (bF (bv (a7 2 rfl) bE)) fun left2=>(lG (Γf:=fun (s3:(List (Int × Bool)) × (List (Int)))=>[.fr (rL rInt) (a.1),.fr (rL (rL rInt)) (a.2.1),.fr rInt (a.2.2),.od aG tt_ (s3.1),.ol rInt tt_ (s3.2),.any]) 100000 ((there1,left2)) (.cons .rfl (.cons .rfl (.cons .rfl (.cons .rfl (.cons .rfl (.cons .any .nil)))))) (fun s3=>(o7 4 rfl (aU (lH (dL dInt) (a7 4 rfl) ((bF (r:=rInt) bE)).ev))))
  (fun s3=>(b8 (bv_forSp (Γf:=fun (s5:(List (Int × Bool)) × (List (Int)))=>[.fr (rL rInt) (a.1),.fr (rL (rL rInt)) (a.2.1),.fr rInt (a.2.2),.od aG tt_ (s5.1),.ol rInt tt_ (s5.2),.any]) (fun left11=>(s3.1,left11)) 1 4 rfl rfl (fun left11=>(.cons .rfl (.cons .rfl (.cons .rfl (.cons .rfl (.cons .rfl (.cons .any .nil))))))) (fun _=>(b7 5))
  (fun s5 x4=>(b8 (bG (et_borD 3 rfl (lI (aU (o6 gk (a7 5 rfl) (a7 0 rfl))) (et_b (kD (a7 5 rfl) (a7 3 rfl)))))
  (mO (bv_put 3 rfl (a7 5 rfl) cC fun there6=>(dX 4 rfl (a7 5 rfl) fun left9=>(bA ((there6,left9)) (.cons .rfl (.cons .rfl (.cons .rfl (.cons .rfl (.cons .rfl (.cons .any .nil))))))))))
  (aH (bA ((s5.1,s5.2)) (.cons .rfl (.cons .rfl (.cons .rfl (.cons .rfl (.cons .rfl (.cons .any .nil)))))))))))
  fun s5=>(bA ((s5.1,s5.2)) (.cons .rfl (.cons .rfl (.cons .rfl (.cons .rfl (.cons .rfl (.cons .any .nil))))))))))
  fun s3=>(aE (ev_borD 3 rfl kA (cX cD (ev_lenD (a7 3 rfl)) (bT sq_l (a7 0 rfl)))))))) (by unfold Pf.joined; first | rfl | (simp only [Pu.bs]; done) | (simp only [Pu.bs]; rfl) | (simp only [Pu.bs,nz9]; done) | (simp only [Pu.bs,nz9]; rfl))⟩
theorem kU:FnScope ["_law_inside_here","_law_beside","_law_places_here","_law_one","_law_other","_law_top","_law_cell","_law_near"] ["_law_inside_here","_law_beside","_law_places_here","_law_one","_law_other","_law_top"] (ae jO):=⟨rfl,rfl,rfl,by decide +kernel,rfl,by decide +kernel,by decide +kernel⟩
theorem ok_inside (D:au K mg "_law_inside" jO ["_law_inside_here","_law_beside","_law_places_here","_law_one","_law_other","_law_top"]) (B:Blt mg) (kM:MK K CM) (kW:WK K CW) (G__law_numbers:Has P w K mg base 1 "_law_numbers" ["_law_found","_law_most"] (spV (ak (rL rInt) (aOne rInt)) aG fun x=>Pf.bK x.1 x.2)) (G__law_joined:Has P w K mg base 1 "_law_joined" ["_law_found","_law_beside","_law_cell"] (spV (ak (rL rInt) (ak (rL (rL rInt)) (aOne rInt))) aG fun x=>Pf.joined x.1 x.2.1 x.2.2)):Has P w K mg base 2 "_law_inside" ["_law_inside_here","_law_beside","_law_places_here","_law_one","_law_other","_law_top"] (spV (ak (rL rInt) (ak (rL (rL rInt)) (ak (rL rInt) (ak rInt (ak rInt (aOne rInt)))))) aG fun x=>Pf.de x.1 x.2.1 x.2.2.1 x.2.2.2.1 x.2.2.2.2.1 x.2.2.2.2.2):=by
 have nd:=kU.nd
 refine D.pV kU (fun _=>rfl) rfl fun f cdv A outer s H E hr=>?_
 have hu:=ba hr
 exact ⟨_,(ag (bC (PW.pt (d0 (df (cz (ao G__law_numbers (hr.mono (by decide)) rfl (a8 (pv 0) (a8 (aq (aM (K:=K) rfl) (by rfl) B.len bI (a8 (pv 1) aa)) aa))))) (d0 (ax (iT (K:=K) rfl hr.units) (pv 0) (aq (og (K:=K) rfl) (by rfl) B.sorted fH (a8 (pv 0) aa)) (aI _)) (eB (ax ip (aq call_lenZ (by rfl) B.len bI (a8 (dP (ot (K:=K) rfl rfl) (by rfl) B.set_ bo_set (a8 (pv 0) aa)) aa)) (aq (aM (K:=K) rfl) (by rfl) B.len bI (a8 (pv 0) aa)) (aI _))))))
   (aj (ar cy))
   aF)
   (ag (bC (ax eP (pv 3) (pv 5) (aI _))
   (aj (ar (iL (ll (K:=K) rfl hr.units) (pv 0) (bX aa) (aI _))))
   aF)
   (ag (bC (PW.pt (d0 (ax (fI (K:=K) rfl) (pv 3) (pv 0) (by with_unfolding_all rfl)) (d0 (ax (nY (K:=K) rfl) (pv 4) (pv 0) (by with_unfolding_all rfl)) (eB (df (cz (ao G__law_joined (hr.mono (by decide)) rfl (a8 (pv 0) (a8 (pv 1) (a8 (pv 3) aa))))))))))
   (aj (ar cy))
   aF)
   (ag (cn PassesOwn.never rfl (bc (K:=K) rfl (pv 0)) (az (i:=6) nd rfl (Or.inl rfl))
   (ag (bC (ax op_ge (aL (aB (K:=K) rfl) (pv 2) (pv 6) (fun _ _=>rfl)) (aL (aB (K:=K) rfl) (pv 2) (pv 5) (fun _ _=>rfl)) (aI _))
   (aj (ar cy))
   aF)
   (aj (cn PassesOwn.never rfl (bc (K:=K) rfl (aL (aB (K:=K) rfl) (pv 1) (pv 6) (fun _ _=>rfl))) (az (i:=7) nd rfl (Or.inl rfl))
   (aj (bC (PW.pt (gZ (ax (fI (K:=K) rfl) (pv 7) (pv 0) (by with_unfolding_all rfl)) (fA (ax kh (aL (aB (K:=K) rfl) (pv 2) (pv 7) (fun _ _=>rfl)) (aL (aB (K:=K) rfl) (pv 2) (pv 5) (fun _ _=>rfl)) (aI _)))))
   (aj (ar cy))
   aF))))))
   (aj (ar cy)))))),
  fun a=>BV.cast (bG (dU (dh (et_b (aA (ai (a7 0 rfl) (ap (bT sq_l (a7 1 rfl))))))) (dU (aU (lH (dL dInt) (a7 0 rfl) ((evl_sortI (a7 0 rfl))).ev)) (aU (f9 cD (ev_lenZ (ev_mset (a7 0 rfl))) (bT sq_l (a7 0 rfl))))))
  (b9 (aE cC))
  (aH (bG (aU (cX cD (a7 3 rfl) (a7 5 rfl)))
  (b9 (aE (o8 (dL dInt) (a7 0 rfl) ((bF (r:=rInt) bE)).ev)))
  (aH (bG (dU (aU (fL gk (a7 3 rfl) (a7 0 rfl))) (dU (aU (o6 gk (a7 4 rfl) (a7 0 rfl))) (dh (et_b (aA (ai (a7 0 rfl) (ai (a7 1 rfl) (ap (a7 3 rfl)))))))))
  (b9 (aE cC))
  (aH (fN (Γf:=fun (s9:Unit)=>[.fr (rL rInt) (a.1),.fr (rL (rL rInt)) (a.2.1),.fr (rL rInt) (a.2.2.1),.fr rInt (a.2.2.2.1),.fr rInt (a.2.2.2.2.1),.fr rInt (a.2.2.2.2.2),.any,.any]) (rf:=finV aG) (e:=(fun x=>x)) (()) (bL sq_l (a7 0 rfl)) (.cons .rfl (.cons .rfl (.cons .rfl (.cons .rfl (.cons .rfl (.cons .rfl (.cons .any (.cons .any .nil)))))))) (fun _=>(b7 6))
  (fun s9 x8=>(bG (aU (ev_ge (bg sq_l (a7 2 rfl) (a7 6 rfl)) (bg sq_l (a7 2 rfl) (a7 5 rfl))))
  (b9 (dE (aE cC)))
  (aH (b8 (fN (Γf:=fun (s13:Unit)=>[.fr (rL rInt) (a.1),.fr (rL (rL rInt)) (a.2.1),.fr (rL rInt) (a.2.2.1),.fr rInt (a.2.2.2.1),.fr rInt (a.2.2.2.2.1),.fr rInt (a.2.2.2.2.2),.fr rInt (x8),.any]) (rf:=finV aG) (e:=Pu.Ctl.rt) (()) (bL sq_l (bg sq_l (a7 1 rfl) (a7 6 rfl))) (.cons .rfl (.cons .rfl (.cons .rfl (.cons .rfl (.cons .rfl (.cons .rfl (.cons .rfl (.cons .any .nil)))))))) (fun _=>(b7 7))
  (fun s13 x12=>(b8 (bG (ly (aU (fL gk (a7 7 rfl) (a7 0 rfl))) (aU (ev_lt (bg sq_l (a7 2 rfl) (a7 7 rfl)) (bg sq_l (a7 2 rfl) (a7 5 rfl)))))
  (b9 (dE (aE cC)))
  (aH (dW (()) (.cons .rfl (.cons .rfl (.cons .rfl (.cons .rfl (.cons .rfl (.cons .rfl (.cons .rfl (.cons .any .nil)))))))))))))
  rfV (fun _ _ _ h=>h) fun s13=>(dW (()) (.cons .rfl (.cons .rfl (.cons .rfl (.cons .rfl (.cons .rfl (.cons .rfl (.cons .any (.cons .any .nil))))))))))))))
  rfV (fun _ _ _ h=>h) fun s9=>(aE cC)))))))) (by unfold Pf.de; first | rfl | (simp only [Pu.bs]; done) | (simp only [Pu.bs]; rfl) | (simp only [Pu.bs,nz9]; done) | (simp only [Pu.bs,nz9]; rfl))⟩
theorem nI:FnScope ["_law_found","_law_beside","_law_places_here","_law_one","_law_other","_law_top","_law_way_here","_law_inside_here"] ["_law_found","_law_beside","_law_places_here","_law_one","_law_other"] (ae lZ):=⟨rfl,rfl,rfl,by decide +kernel,rfl,by decide +kernel,by decide +kernel⟩
theorem ok_right (D:au K mg "_law_right" lZ ["_law_found","_law_beside","_law_places_here","_law_one","_law_other"]) (B:Blt mg) (kM:MK K CM) (kW:WK K CW) (G__law_numbers:Has P w K mg base 1 "_law_numbers" ["_law_found","_law_most"] (spV (ak (rL rInt) (aOne rInt)) aG fun x=>Pf.bK x.1 x.2)) (G__law_way:Has P w K mg base 2 "_law_way" ["_law_way_here","_law_beside","_law_one","_law_other"] (spV (ak (rL rInt) (ak (rL (rL rInt)) (ak rInt (aOne rInt)))) aG fun x=>Pf.ib x.1 x.2.1 x.2.2.1 x.2.2.2)) (G__law_inside:Has P w K mg base 2 "_law_inside" ["_law_inside_here","_law_beside","_law_places_here","_law_one","_law_other","_law_top"] (spV (ak (rL rInt) (ak (rL (rL rInt)) (ak (rL rInt) (ak rInt (ak rInt (aOne rInt)))))) aG fun x=>Pf.de x.1 x.2.1 x.2.2.1 x.2.2.2.1 x.2.2.2.2.1 x.2.2.2.2.2)):Has P w K mg base 3 "_law_right" ["_law_found","_law_beside","_law_places_here","_law_one","_law_other"] (spV (ak (rT3 rInt (rL rInt) (rL rInt)) (ak (rL (rL rInt)) (ak (rL rInt) (ak rInt (aOne rInt))))) aG fun x=>Pf.cV x.1 x.2.1 x.2.2.1 x.2.2.2.1 x.2.2.2.2):=by
 have nd:=nI.nd
 refine D.pV nI (fun _=>rfl) rfl fun f cdv A outer s H E hr=>?_
 have hu:=ba hr
 exact ⟨_,(ag (bC (PW.pt (d0 (df (cz (aq (fJ (K:=K) (T:="tuple") rfl) (by rfl) B.isinstance cN (a8 (pv 0) (a8 (iK (v:=.ty "tuple") rfl B.tuple_ bo_tuple rfl) aa))))) (d0 (ax ip (aq (aM (K:=K) rfl) (by rfl) B.len bI (a8 (pv 0) aa)) al (aI _)) (eB (df (cz (ao G__law_numbers (hr.mono (by decide)) rfl (a8 (bX (a8 (aL (bp (K:=K) rfl) (pv 0) al (fun _ _=>rfl)) aa)) (a8 (aq (aM (K:=K) rfl) (by rfl) B.len bI (a8 (pv 1) aa)) aa)))))))))
   (aj (ar cy))
   aF)
   (ag (kX (pv 0) (fK (K:=K) (n:=3) rfl rfl (bM (az (i:=5) nd rfl (Or.inl rfl)) (bM (az (i:=6) nd rfl (Or.inl rfl)) (bM (az (i:=7) nd rfl (Or.inl rfl)) fB)))))
   (ag (bC (PW.pt (d0 (df (cz (ao G__law_way (hr.mono (by decide)) rfl (a8 (pv 6) (a8 (pv 1) (a8 (pv 3) (a8 (pv 4) aa))))))) (eB (ax (fI (K:=K) rfl) (pv 5) (pv 6) (by with_unfolding_all rfl)))))
   (aj (ar cy))
   aF)
   (ag (bC (ax ip (aq (call_maxL (K:=K) rfl rfl) (by rfl) B.max jl (a8 (eE (loc:=["_law_cell"]) (cap:=[("_law_places_here",2)]) rfl ⟨rfl,by decide +kernel,by decide +kernel,rfl,⟨⟨rfl,rfl,by first | exact Or.inl rfl | exact Or.inr rfl⟩,trivial⟩,rfl⟩  (bc (K:=K) rfl (pv 6)) (fun _ _ _ _=>(az (i:=0) (show (["_law_cell","_law_places_here"]:List Str).Nodup by decide +kernel) rfl (Or.inl rfl))) (fun _ _ _ _=>ci) (fun _ _ _ _=>(aL (aB (K:=K) rfl) (pv 1) (pv 0) (fun _ _=>rfl)))) aa)) (aL (aB (K:=K) rfl) (pv 2) (pv 5) (fun _ _=>rfl)) (aI _))
   (aj (ar cy))
   aF)
   (aj (ar (ao G__law_inside (hr.mono (by decide)) rfl (a8 (pv 7) (a8 (pv 1) (a8 (pv 2) (a8 (pv 3) (a8 (pv 4) (a8 (pv 5) aa))))))))))))),
  fun a=>BV.cast (bG (dU (dh (et_b (lE (a7 0 rfl) isi_t3))) (dU (aU (f9 cD (ev_lenT3 (a7 0 rfl)) am)) (dh (et_b (aA (ai ((bF (bv (iO (a7 0 rfl)) bE))).ev (ap (bT sq_l (a7 1 rfl)))))))))
  (b9 (aE cC))
  (aH (bv_asg (a7 0 rfl) (gv_trip 5 6 7) fun t2=>(bG (dU (dh (et_b (aA (ai (a7 6 rfl) (ai (a7 1 rfl) (ai (a7 3 rfl) (ap (a7 4 rfl)))))))) (aU (fL gk (a7 5 rfl) (a7 6 rfl))))
  (b9 (aE cC))
  (aH (bG (aU (f9 cD (ev_maxL ((cj (bL sq_l (a7 6 rfl)) (by decide) (by decide) (b7 0) fun y6=>(bg sq_l (a7 1 rfl) (a7 0 rfl)))).ev) (bg sq_l (a7 2 rfl) (a7 5 rfl))))
  (b9 (aE cC))
  (aH (aE (aA (ai (a7 7 rfl) (ai (a7 1 rfl) (ai (a7 2 rfl) (ai (a7 3 rfl) (ai (a7 4 rfl) (ap (a7 5 rfl)))))))))))))))) (by unfold Pf.cV; first | rfl | (simp only [Pu.bs]; done) | (simp only [Pu.bs]; rfl) | (simp only [Pu.bs,nz9]; done) | (simp only [Pu.bs,nz9]; rfl))⟩
theorem sc_law:FnScope ["_law_script","_law_floor_here","_law_reach_here","_law_heights_here","_law_places_here","_law_beside","_law_handed","_law_one","_law_k","_law_other","_law_found","_law_kept","#_law_found1","#_law_found2"] ["_law_script"] (ae eg):=⟨rfl,rfl,rfl,by decide +kernel,rfl,by decide +kernel,by decide +kernel⟩
theorem ok_law {f:Addr} {fd:FuncData} (F:Fun K "law" "law" eg f fd) (B:Blt mg) (kM:MK K CM) (kW:WK K CW) (G__law_cell_at:Has P w K mg base 1 "_law_cell_at" ["_law_script","_law_k"] (spV (ak (rScr K) (aOne rInt)) rInt fun x=>Pf.bU x.1 x.2)) (G__law_mixed:Has P w K mg base 1 "_law_mixed" ["_law_number","_law_k"] (spV (ak rInt (aOne rInt)) rInt fun x=>Pf.mixed x.1 x.2)) (G__law_floor:Has P w K mg base 3 "_law_floor" ["_law_script","_law_first"] (spL (ak (rScr K) (aOne rInt)) (rL rInt) fun x=>Pf.floor x.1 x.2)) (G__law_reach:Has P w K mg base 2 "_law_reach" ["_law_script","_law_first"] (spV (ak (rScr K) (aOne rInt)) rInt fun x=>Pf.reach x.1 x.2)) (G__law_heights:Has P w K mg base 1 "_law_heights" ["_law_floor_here"] (spL (aOne (rL (rL rInt))) rInt fun x=>Pf.fP x)) (G__law_places:Has P w K mg base 2 "_law_places" ["_law_heights_here"] (spL (aOne (rL rInt)) rInt fun x=>Pf.ee x)) (G__law_all_next:Has P w K mg base 2 "_law_all_next" ["_law_floor_here","_law_reach_here"] (spL (ak (rL (rL rInt)) (aOne rInt)) (rL rInt) fun x=>Pf.dZ x.1 x.2)) (G_pass_between:Has P w K mg base 12 "pass_between" ["floor","reach","one","other"] (spY (ak (rL (rL rInt)) (ak rInt (ak rInt (aOne rInt)))) fun x=>Pf.aP x.1 x.2.1 x.2.2.1 x.2.2.2)) (G__law_right:Has P w K mg base 3 "_law_right" ["_law_found","_law_beside","_law_places_here","_law_one","_law_other"] (spV (ak (rT3 rInt (rL rInt) (rL rInt)) (ak (rL (rL rInt)) (ak (rL rInt) (ak rInt (aOne rInt))))) aG fun x=>Pf.cV x.1 x.2.1 x.2.2.1 x.2.2.2.1 x.2.2.2.2)) (hl:∀ ns:List Int,ns.length≤63→Pf.iW ns=some true):FnOk P w K mg base CX0 13 f fd ["_law_script"] (o9 K):=by
 have nd:=sc_law.nd
 refine F.law (fl:=Pf.iW) sc_law rfl hl fun f cdv A outer s H E hr=>?_
 have hu:=ba hr
 exact ⟨_,(ag (av (i:=1) nd rfl (Or.inl rfl) (ao G__law_floor (hr.mono (by decide)) rfl (a8 (pv 0) (a8 al aa))))
   (ag (av (i:=2) nd rfl (Or.inl rfl) (ao G__law_reach (hr.mono (by decide)) rfl (a8 (pv 0) (a8 al aa))))
   (ag (av (i:=3) nd rfl (Or.inl rfl) (ao G__law_heights (hr.mono (by decide)) rfl (a8 (pv 1) aa)))
   (ag (av (i:=4) nd rfl (Or.inl rfl) (ao G__law_places (hr.mono (by decide)) rfl (a8 (pv 3) aa)))
   (ag (av (i:=5) nd rfl (Or.inl rfl) (ao G__law_all_next (hr.mono (by decide)) rfl (a8 (pv 1) (a8 (pv 2) aa))))
   (ag (eF (loc:=["_law_row"]) (cap:=[]) (i:=6) rfl ⟨rfl,by decide +kernel,by decide +kernel,rfl,trivial,rfl⟩ nd rfl (Or.inl rfl) (bc (K:=K) rfl (pv 1)) (fun _ _ _ _=>(az (i:=0) (show (["_law_row"]:List Str).Nodup by decide +kernel) rfl (Or.inl rfl))) (fun _ _ _ _=>ci) (fun _ _ _ _=>(dP (gh (K:=K) rfl) (by rfl) B.list_ gC (a8 (pv 0) aa))))
   (ag (av (i:=7) nd rfl (Or.inl rfl) (aw bS (ao G__law_cell_at (hr.mono (by decide)) rfl (a8 (pv 0) (a8 al aa))) (aq (aM (K:=K) rfl) (by rfl) B.len bI (a8 (pv 3) aa))))
   (ag (cn PassesOwn.never rfl (fD rfl B.range (a8 al (a8 al aa))) (az (i:=8) nd rfl (Or.inl rfl))
   (ag (av (i:=9) nd rfl (Or.inl rfl) (aw bS (ao G__law_mixed (hr.mono (by decide)) rfl (a8 (ao G__law_cell_at (hr.mono (by decide)) rfl (a8 (pv 0) (a8 (pv 8) aa))) (a8 (pv 8) aa))) (aq (aM (K:=K) rfl) (by rfl) B.len bI (a8 (pv 3) aa))))
   (ag (av (i:=10) nd rfl (Or.inl rfl) (ao G_pass_between (hr.mono (by decide)) rfl (a8 (pv 6) (a8 (pv 2) (a8 (pv 7) (a8 (pv 9) aa))))))
   (i9 (x:="#_law_found1") 12 (i9 (x:="#_law_found2") 13 (ag (bC (df (cz (ao G__law_right (hr.mono (by decide)) rfl (a8 (pv 10) (a8 (pv 5) (a8 (pv 4) (a8 (pv 7) (a8 (pv 9) aa))))))))
   (aj (ar cy))
   aF)
   (ag (av (i:=11) nd rfl (Or.inl rfl) (gc (a8 (aL (bp (K:=K) rfl) (pv 10) al (fun _ _=>rfl)) (a8 (dP (gh (K:=K) rfl) (by rfl) B.list_ gC (a8 (aL (bp (K:=K) rfl) (pv 10) al (fun _ _=>rfl)) aa)) (a8 (dP (gh (K:=K) rfl) (by rfl) B.list_ gC (a8 (aL (bp (K:=K) rfl) (pv 10) al (fun _ _=>rfl)) aa)) aa)))))
   (ag (bC (PW.pt (d0 (ax ip (aL (bp (K:=K) rfl) (ao G_pass_between (hr.mono (by decide)) rfl (a8 (pv 6) (a8 (pv 2) (a8 (pv 9) (a8 (pv 7) aa))))) al (fun _ _=>rfl)) (aL (bp (K:=K) rfl) (pv 11) al (fun _ _=>rfl)) (aI _)) (eB (ax (iT (K:=K) rfl hr.units) (pv 10) (pv 11) (aI _)))))
   (aj (ar cy))
   aF)
   (ag (dA (pe_bm0K (K:=K) rfl PySem.F.plainAttrs_list PySem.F.slot_list_clear PySem.F.type_list_clear mt_clear (aL (bp (K:=K) rfl) (pv 10) al (fun _ _=>rfl))))
   (ag (dA (eZ (K:=K) rfl PySem.F.plainAttrs_list PySem.F.slot_list_append PySem.F.type_list_append cI (aL (bp (K:=K) rfl) (pv 10) al (fun _ _=>rfl)) (a8 al aa)))
   (ag (bC (ax (iT (K:=K) rfl hr.units) (ao G_pass_between (hr.mono (by decide)) rfl (a8 (pv 6) (a8 (pv 2) (a8 (pv 7) (a8 (pv 9) aa))))) (pv 11) (aI _))
   (aj (ar cy))
   aF)
   (aj (av (i:=7) nd rfl (Or.inl rfl) (pv 9))))))))) rfl (show eQ (ae eg) "#_law_found2"=true by decide +kernel)) rfl (show eQ (ae eg) "#_law_found1"=true by decide +kernel)))))
   (ag (av (i:=10) nd rfl (Or.inl rfl) (ao G_pass_between (hr.mono (by decide)) rfl (a8 (pv 6) (a8 (pv 2) (a8 (pv 7) (a8 (pv 7) aa))))))
   (i9 (x:="#_law_found1") 12 (i9 (x:="#_law_found2") 13 (aj (ar (pe_and (ao G__law_right (hr.mono (by decide)) rfl (a8 (pv 10) (a8 (pv 5) (a8 (pv 4) (a8 (pv 7) (a8 (pv 7) aa)))))) (pe_one (iL (ll (K:=K) rfl hr.units) (pv 6) (pv 1) (aI _)))))) rfl (show eQ (ae eg) "#_law_found2"=true by decide +kernel)) rfl (show eQ (ae eg) "#_law_found1"=true by decide +kernel))))))))))),
  fun a=>BV.cast (aD 1 ((bo (ai (a7 0 rfl) (ap am)))).ev fun floor_here1=>(aD 2 (aA (ai (a7 0 rfl) (ap am))) fun reach_here3=>(aD 3 ((bo (ap (a7 1 rfl)))).ev fun heights_here5=>(aD 4 ((bo (ap (a7 3 rfl)))).ev fun places_here7=>(aD 5 ((bo (ai (a7 1 rfl) (ap (a7 2 rfl))))).ev fun beside9=>(aD 6 ((cj (bL sq_l (a7 1 rfl)) (by decide) (by decide) (b7 0) fun y11=>((ju sq_l (a7 0 rfl))).ev)).ev fun handed12=>(aD 7 (gj (aA (ai (a7 0 rfl) (ap am))) (bT sq_l (a7 3 rfl))) fun one15=>(fN (Γf:=fun (s18:Int)=>[.fr (rScr K) (a),.fr (rL (rL rInt)) (floor_here1),.fr rInt (reach_here3),.fr (rL rInt) (heights_here5),.fr (rL rInt) (places_here7),.fr (rL (rL rInt)) (beside9),.fr (rL (rL rInt)) (handed12),.fr rInt (s18),.any,.any,.any,.any,.any,.any]) (rf:=finV aG) (e:=(fun x=>x)) (one15) (iR am am) (.cons .rfl (.cons .rfl (.cons .rfl (.cons .rfl (.cons .rfl (.cons .rfl (.cons .rfl (.cons .rfl (.cons .any (.cons .any (.cons .any (.cons .any (.cons .any (.cons .any .nil)))))))))))))) (fun _=>(b7 8))
  (fun s18 x17=>(aD 9 (gj (aA (ai (aA (ai (a7 0 rfl) (ap (a7 8 rfl)))) (ap (a7 8 rfl)))) (bT sq_l (a7 3 rfl))) fun other21=>(bv_setY 10 12 13 ⟨by decide,by decide,by decide⟩ (ai (a7 6 rfl) (ai (a7 2 rfl) (ai (a7 7 rfl) (ap (a7 9 rfl))))) fun q24 q25 top26 way27 ins28=>(bG (et_borY 10 12 13 rfl rfl rfl (by decide) (dh (et_b (aA (ai (a7 10 rfl) (ai (a7 5 rfl) (ai (a7 4 rfl) (ai (a7 7 rfl) (ap (a7 9 rfl))))))))))
  (b9 (dE (aE cC)))
  (aH (aD 11 (ev_tnn (evg_borY 10 12 13 rfl rfl rfl (by decide) (evg_tLL (iO (a7 10 rfl)) (ju sq_l (ev_t3_1 (a7 10 rfl))) (ju sq_l (ev_t3_2 (a7 10 rfl)))))) fun kept30=>(bG (et_borY 10 12 13 rfl rfl rfl (by decide) (dU (aU (f9 cD (iO (n0 (ai (a7 6 rfl) (ai (a7 2 rfl) (ai (a7 9 rfl) (ap (a7 7 rfl))))))) (iO (a7 11 rfl)))) (aU (lH (dT3 dInt (dL dInt) (dL dInt)) (a7 10 rfl) (a7 11 rfl)))))
  (b9 (dE (aE cC)))
  (aH (bv_clearG 12 (own_y1 10 12 rfl rfl) rfl fun found35=>(oF 13 (own_y2 10 13 rfl rfl) rfl am fun found36=>(bG (aU (lH (dT3 dInt (dL dInt) (dL dInt)) (n0 (ai (a7 6 rfl) (ai (a7 2 rfl) (ai (a7 7 rfl) (ap (a7 9 rfl)))))) (a7 11 rfl)))
  (b9 (dE (aE cC)))
  (aH (b8 (aD 7 (a7 9 rfl) fun one39=>(dW (one39) (.cons .rfl (.cons .rfl (.cons .rfl (.cons .rfl (.cons .rfl (.cons .rfl (.cons .rfl (.cons .rfl (.cons .any (.cons .any (.cons .any (.cons .any (.cons .any (.cons .any .nil)))))))))))))))))))))))))))))
  rfV (fun _ _ _ h=>h) fun s18=>(bv_setY 10 12 13 ⟨by decide,by decide,by decide⟩ (ai (a7 6 rfl) (ai (a7 2 rfl) (ai (a7 7 rfl) (ap (a7 7 rfl))))) fun q44 q45 top46 way47 ins48=>(aE (ev_borY 10 12 13 rfl rfl rfl (by decide) kA (ev_and (aA (ai (a7 10 rfl) (ai (a7 5 rfl) (ai (a7 4 rfl) (ai (a7 7 rfl) (ap (a7 7 rfl))))))) (o8 (dL (dL dInt)) (a7 6 rfl) (a7 1 rfl)))))))))))))) (by unfold Pf.iW; first | (simp only [Pu.bs]; done) | (simp only [Pu.bs,nz9]; done) | (simp only [Pu.bs,nz9]; rfl))⟩
end
end K13
namespace K13
open Fl Pu Gr Pf
theorem gr {ks:List Nat} {n:Nat} (h:∀ k∈ks,k<n):Pf.bK (cl ks) (n:Int)=some true:=by
 unfold Pf.bK
 refine (if_neg Bool.false_ne_true).trans (d8 fun x hx=>?_)
 refine oq12 (eK.mp hx) fun k hk e=>?_
 subst e
 refine if_neg ?_
 rw [decide_eq_false (Int.not_lt.mpr (Int.natCast_nonneg k)),decide_eq_false (Int.not_le.mpr (Int.ofNat_lt.mpr (h k hk)))]
 exact Bool.false_ne_true
theorem ndec {p:Prop} [Decidable p] (h:p):(!decide p)=false:=by rw [decide_eq_true h]; rfl
section
variable {m c:Nat} {reach:Int} {bes:List (List Int)}
theorem way_ok (hb:∀ i,i<m * c→bes[i]?=some (cl (nbL m c reach i))) (hbl:bes.length=m * c) {one other:Nat} {w:List Nat} (W:Way m c reach one other w) (hw:∀ y∈w,y<m * c) (h64:m * c<64):Pf.ib (cl w) bes (one:Int) (other:Int)=some true:=by
 have lw:w.length≤m * c:=bD _ W.nd hw
 have ln0:w≠[]:=fun z=>by have:=W.hd; rw [z] at this; cases this
 have pos:0<w.length:=List.length_pos_iff.mpr ln0
 have e0:Pu.at_ (cl w) 0=some (one:Int):=(cf (i:=0)).trans (by
  have:=W.hd
  rw [List.head?_eq_getElem?] at this
  unfold cl; rw [List.getElem?_map,this]; rfl)
 have e1:Pu.at_ (cl w) (-1)=some (other:Int):=by
  have hl:=W.lst
  rw [List.getLast?_eq_some_getLast ln0] at hl
  rw [← List.dropLast_concat_getLast ln0,Option.some.inj hl,ce]
  exact lT _ _
 have el:Pu.ln bes=((m * c:Nat):Int):=congrArg Int.ofNat hbl
 have ew:Pu.ln (cl w)=((w.length:Nat):Int):=congrArg Int.ofNat (bq w)
 unfold Pf.ib
 refine bnk (a:=false) (bnk (a:=false) (bnk (el ▸ gr hw) rfl) ((if_neg Bool.false_ne_true).trans ((if_neg ?_).trans (bnk (a:=false) (bnk e0 (congrArg some (ndec rfl))) ((if_neg Bool.false_ne_true).trans (bnk e1 (congrArg some (ndec rfl)))))))) ((if_neg Bool.false_ne_true).trans (bnk (?_:Pu.rng2 1 (Pu.ln (cl w))=some ((List.range (w.length - 1)).map fun (k:Nat)=>((1+k:Nat):Int))) (d8 fun y hy=>?_)))
 ·rw [ew]; exact fun z=>Nat.ne_of_gt pos (Int.ofNat.inj (of_decide_eq_true z))
 ·rw [ew]; exact jD (i:=1) (by decide) (nz4 lw (nz4 (nz5 h64) (by decide)))
 ·refine oq12 (List.mem_map.mp hy) fun k hk e=>?_
  subst e
  have hk':k+1<w.length:=by have:=List.mem_range.mp hk; omega
  have a0:w[k]?=some w[k]:=List.getElem?_eq_getElem (Nat.lt_of_succ_lt hk')
  have a1:w[k+1]?=some w[k+1]:=List.getElem?_eq_getElem hk'
  have g1:Pu.at_ (cl w) ((1+k:Nat):Int)=some (w[k+1]:Int):=cf.trans (by rw [Nat.add_comm 1 k]; unfold cl; rw [List.getElem?_map,a1]; rfl)
  have g0:Pu.at_ (cl w) (((1+k:Nat):Int) - 1)=some (w[k]:Int):=by
   rw [show (((1+k:Nat):Int) - 1)=(k:Int) by omega,cf]; unfold cl; rw [List.getElem?_map,a0]; rfl
  refine bnk (a:=false) (bnk (a:=false) (bnk g1 (bnk (bnk g0 (cf.trans (hb _ (hw _ (List.getElem_mem _))))) (congrArg some (ndec (aN.mpr (W.nb k _ _ a0 a1)))))) ((if_neg Bool.false_ne_true).trans (bnk g1 (congrArg some (decide_eq_false fun z=>?_))))) rfl
  rw [cut_to,show (cl w).take (1+k)=cl (w.take (1+k)) by unfold cl; rw [List.map_take]] at z
  have z:=aN.mp z
  rw [List.mem_take_iff_getElem] at z
  obtain ⟨i,hi,e⟩:=z
  have hi2:i<w.length:=by omega
  have:=(List.getElem_inj (h₀:=hi2) (h₁:=hk') W.nd).mp e
  omega
end
section
variable {rows:List (List Int)} {c:Nat} {reach:Int} {os:List Nat} {pl:List Int} {bes:List (List Int)}
theorem way_rch {m c:Nat} {reach:Int} {ρ:Nat→Nat} {one other M:Nat} {w:List Nat} (W:Way m c reach one other w) (hw:∀ y∈w,y<m * c∧ρ y<M):Rch (Nb m c reach) (Lv (m * c) ρ M) one other:=by
 have key:∀ (k y:Nat),w[k]?=some y→Rch (Nb m c reach) (Lv (m * c) ρ M) one y:=by
  intro k
  induction k with
  | zero =>
   intro y hy
   have:=W.hd
   rw [List.head?_eq_getElem?,hy] at this
   cases this; exact .here
  | succ k ih =>
   intro y hy
   have hk:k<w.length:=by have:=(List.getElem?_eq_some_iff.mp hy).1; omega
   have hz:=List.getElem?_eq_getElem hk
   have hm:=List.mem_of_getElem? hz
   exact .on (ih _ hz) ((eN (hw _ hm).1).mpr (W.nb k _ _ hz hy)) (hw y (List.mem_of_getElem? hy))
 have hl:=W.lst
 rw [List.getLast?_eq_getElem?] at hl
 exact key _ _ hl
theorem right_ok (h64:rows.length * c<64) (inj:∀ x y,x<rows.length * c→y<rows.length * c→rk os x=rk os y→x=y) (hp:∀ i,i<rows.length * c→pl[i]?=some (rk os i:Int)) (hb:∀ i,i<rows.length * c→bes[i]?=some (cl (nbL rows.length c reach i))) (hbl:bes.length=rows.length * c)
  {one other m:Nat} {w ks:List Nat} (h1:one<rows.length * c) (h2:other<rows.length * c) (hm:m<rows.length * c) (le1:rk os one≤rk os m) (le2:rk os other≤rk os m)
  (mn:∀ k,Lv (rows.length * c) (rk os) k one→Lv (rows.length * c) (rk os) k other→Rch (Nb rows.length c reach) (Lv (rows.length * c) (rk os) k) one other→rk os m<k)
  (W:Way rows.length c reach one other w) (hw:∀ y∈w,y<rows.length * c∧rk os y≤rk os m) (ks1:ks.Pairwise (·<·)) (k0:¬ rk os one<rk os m→ks=[]) (k1:rk os one<rk os m→∀ y,y∈ks↔Rch (Nb rows.length c reach) (Lv (rows.length * c) (rk os) (rk os m)) one y) :
  Pf.cV ((m:Int),cl w,cl ks) bes pl (one:Int) (other:Int)=some true:=by
 have el:Pu.ln bes=((rows.length * c:Nat):Int):=congrArg Int.ofNat hbl
 have oneW:one∈w:=List.mem_of_mem_head? W.hd
 have otherW:other∈w:=List.mem_of_mem_getLast? W.lst
 have mW:m∈w:=by
  by_cases q:m∈w
  ·exact q
  ·exfalso
   have lt:∀ y∈w,y<rows.length * c∧rk os y<rk os m:=fun y hy=>⟨(hw y hy).1,Nat.lt_of_le_of_ne (hw y hy).2 fun e=>q (inj y m (hw y hy).1 hm e ▸ hy)⟩
   exact Nat.lt_irrefl _ (mn (rk os m) (lt one oneW) (lt other otherW) (way_rch W lt))
 have atp:∀ y,y<rows.length * c→Pu.at_ pl (y:Int)=some (rk os y:Int):=fun y hy=>cf.trans (hp y hy)
 have lw:w.length≤rows.length * c:=bD _ W.nd fun y hy=>(hw y hy).1
 have emax:((Pu.comp (fun (y6:Int)=>Pu.at_ pl y6) (cl w)).bind fun x7=>Pu.maxL x7)=some (rk os m:Int):=by
  refine bnk (cO (g:=fun y=>(rk os y.toNat:Int)) (by rw [bq]; exact nz4 lw (nz4 (nz5 h64) (by decide))) fun y hy=>oq12 (eK.mp hy) fun z hz e=>by subst e; rw [Int.toNat_natCast]; exact atp z (hw z hz).1) ?_
  unfold Pu.maxL
  rw [List.max?_eq_some_iff]
  refine ⟨List.mem_map.mpr ⟨(m:Int),aN.mpr mW,by rw [Int.toNat_natCast]⟩,fun b hb=>?_⟩
  refine oq12 (List.mem_map.mp hb) fun y hy e=>oq12 (eK.mp hy) fun z hz e2=>?_
  subst e; subst e2
  rw [Int.toNat_natCast]; exact Int.ofNat_le.mpr (hw z hz).2
 have ksn:∀ y∈ks,y<rows.length * c∧rk os y<rk os m∧rk os one<rk os m:=fun y hy=>by
  by_cases q:rk os one<rk os m
  ·have:=(k1 q y).mp hy
   cases this with
   | here=>exact ⟨h1,q,q⟩
   | on _ _ g=>exact ⟨g.1,g.2,q⟩
  ·rw [k0 q] at hy; cases hy
 have nd:ks.Nodup:=ks1.imp nz7
 have kl:ks.length<64:=nz2 (bD _ nd fun y hy=>(ksn y hy).1) h64
 have srt:Pu.sortI (cl ks)=some (cl ks):=sortI_of (by unfold cl; rw [List.pairwise_map]; exact ks1.imp fun h=>Int.ofNat_le.mpr (nz5 h)) (by rw [bq]; exact kl)
 have ein:Pf.de (cl ks) bes pl (one:Int) (other:Int) (m:Int)=some true:=by
  unfold Pf.de
  refine bnk (a:=false) (bnk (a:=false) (bnk (el ▸ gr fun k hk=>(ksn k hk).1) rfl) ((if_neg Bool.false_ne_true).trans (bnk (a:=false) (bnk srt (congrArg some (ndec rfl))) ((if_neg Bool.false_ne_true).trans (bnk (bnk (oK (jF nd) (by rw [bq]; omega)) rfl) (congrArg some (ndec rfl))))))) ((if_neg Bool.false_ne_true).trans ?_)
  by_cases q:one=m
  ·rw [if_pos (decide_eq_true (congrArg (fun x:Nat=>(x:Int)) q)),k0 (by rw [q]; exact Nat.lt_irrefl _)]; rfl
  ·have lt:rk os one<rk os m:=Nat.lt_of_le_of_ne le1 fun e=>q (inj _ _ h1 hm e)
   have me:=k1 lt
   have oneK:one∈ks:=(me one).mpr .here
   have otherK:other ∉ ks:=fun z=>Nat.lt_irrefl _ (mn (rk os m) ⟨h1,lt⟩ ⟨h2,(ksn other z).2.1⟩ ((me other).mp z))
   refine (if_neg (fun z=>q (Int.ofNat.inj (of_decide_eq_true z)))).trans (bnk (a:=false) ((if_neg (by rw [ndec (aN.mpr oneK)]; exact Bool.false_ne_true)).trans ((if_neg (fun z=>otherK (aN.mp (of_decide_eq_true z)))).trans (bnk (joined_eq (n:=rows.length * c) (nb:=nbL rows.length c reach) (nz5 (nz8 h64 (by decide))) hb (fun i o ho=>(cM.mp ho).1) oneK (fun k hk=>(ksn k hk).1) nd fun k hk=>?_) rfl))) ((if_neg Bool.false_ne_true).trans (d8 fun y hy=>?_)))
   ·have hr:=(me k).mp hk
    clear hk
    induction hr with
    | here=>exact .here
    | @on y z g1 g2 g3 ih=>exact .on ih ((eN g2.1).mp g2) ((me z).mpr (.on g1 g2 g3))
   ·refine oq12 (eK.mp hy) fun k hk e=>?_
    subst e
    refine bnk (a:=false) (bnk (atp k (ksn k hk).1) (bnk (atp m hm) (congrArg some (decide_eq_false (Int.not_le.mpr (Int.ofNat_lt.mpr (ksn k hk).2.1)))))) ((if_neg Bool.false_ne_true).trans (bnk (cf.trans (hb k (ksn k hk).1)) (d8 fun z hz=>?_)))
    refine oq12 (eK.mp hz) fun x hx e=>?_
    subst e
    have hxn:=(cM.mp hx).1
    refine bnk (a:=false) ?_ rfl
    by_cases q2:x∈ks
    ·exact if_neg (by rw [ndec (aN.mpr q2)]; exact Bool.false_ne_true)
    ·refine (if_pos (by rw [decide_eq_false (fun z=>q2 (aN.mp z))]; rfl)).trans (bnk (atp x hxn) (bnk (atp m hm) (congrArg some (decide_eq_false fun z=>?_))))
     exact q2 ((me x).mpr (.on ((me k).mp hk) ((eN (ksn k hk).1).mpr hx) ⟨hxn,Int.ofNat_lt.mp z⟩))
 unfold Pf.cV
 refine bnk (a:=false) ((if_neg Bool.false_ne_true).trans ((if_neg (by rw [ndec rfl]; exact Bool.false_ne_true)).trans (bnk (el ▸ gr (ks:=[m]) fun k hk=>List.mem_singleton.mp hk ▸ hm) rfl))) ((if_neg Bool.false_ne_true).trans (bnk rfl (bnk (a:=false) (bnk (a:=false) (bnk (way_ok hb hbl W (fun y hy=>(hw y hy).1) h64) rfl) ((if_neg Bool.false_ne_true).trans (congrArg some (ndec (aN.mpr mW))))) ((if_neg Bool.false_ne_true).trans (bnk (a:=false) (bnk emax (bnk (atp m hm) (congrArg some (ndec rfl)))) ((if_neg Bool.false_ne_true).trans ein))))))
end
theorem holds (ns:List Int) (hn:ns.length≤63):Pf.iW ns=some true:=by
 refine oq12 (Pf.reach_eq ns 0) fun reach er _=>?_
 have efl:=Pf.floor_eq ns 5 (by decide)
 have shp:=Fl.mF ns 5
 generalize Fl.floorOf ns 5=rows at efl shp
 generalize (Fl.dg (Fl.cellAt ns 5) (Fl.bh ns 5).length).toNat=c at shp
 have hp:=shp.pos
 have hc:=shp.cpos
 have hr:=shp.row
 have h60:=shp.area
 have hc1:c≤1000:=nz4 shp.cmost (by decide)
 have hm1:rows.length≤1000:=nz4 shp.most (by decide)
 have hc0:c≤100:=nz4 shp.cmost (by decide)
 have hm0:rows.length≤100:=nz4 shp.most (by decide)
 have h64:rows.length * c<64:=nz2 h60 (by decide)
 have fl:rows.flatten.length=rows.length * c:=cW hr
 have f64:rows.flatten.length<64:=fl ▸ h64
 have eln:Pu.ln rows.flatten=((rows.length * c:Nat):Int):=congrArg Int.ofNat fl
 have npos:(0:Int)<Pu.ln rows.flatten:=by rw [eln]; exact Int.ofNat_lt.mpr (Nat.mul_pos hp hc)
 refine oq12 (Pf.nq hp hc hc1 hm1 hr h64) fun os eo o=>?_
 refine oq12 (Pf.lQ f64) fun os' elo o'=>?_
 have eos:os'=os:=o'.uniq o
 subst eos
 refine oq13 (Pf.places_eq f64 elo o') fun pl epl _ hpl=>?_
 have inj:∀ x y,x<rows.length * c→y<rows.length * c→rk os' x=rk os' y→x=y:=fun x y hx hy=>o'.inj x y (fl ▸ hx) (fl ▸ hy)
 have hplx:∀ i,i<rows.length * c→pl[i]?=some (rk os' i:Int):=fun i hi=>hpl i (fl ▸ hi)
 have hbes:∀ i,i<rows.length * c→((List.range (rows.length * c)).map fun x=>cl (nbL rows.length c reach x))[i]?=some (cl (nbL rows.length c reach i)):=fun i hi=>by
  rw [List.getElem?_map,List.getElem?_range hi]; rfl
 have hbl:((List.range (rows.length * c)).map fun x=>cl (nbL rows.length c reach x)).length=rows.length * c:=by rw [List.length_map,List.length_range]
 have eh:Pu.comp (fun (y9:List Int)=>some y9) rows=some rows:=(cO (g:=fun y=>y) (nz4 hm1 (by decide)) fun _ _=>rfl).trans (congrArg some (List.map_id' rows))
 have pass:=fun {one other:Nat} (h1:one<rows.length * c) (h2:other<rows.length * c)=>Pf.pass_eq (reach:=reach) hp hc hc0 hm0 hr h64 o' eo h1 h2
 have same:∀ {one other m m':Nat},one<rows.length * c→other<rows.length * c→(∃ w ks,Pf.aP rows reach (one:Int) (other:Int)=some ((m:Int),cl w,cl ks))→(∃ w ks,Pf.aP rows reach (other:Int) (one:Int)=some ((m':Int),cl w,cl ks))→m'=m:=by
  intro one other m m' h1 h2 e e'
  refine oq3a (pass h1 h2) fun a w ks p1 p2 p3 p4 p5 p6 _ _ _ z=>?_
  refine oq3a (pass h2 h1) fun a' w' ks' q1 q2 q3 q4 q5 q6 _ _ _ z'=>?_
  have ea:a=m:=oq21 e fun _ _ e=>Int.ofNat.inj (congrArg Prod.fst (Option.some.inj (p1.symm.trans e)))
  have ea':a'=m':=oq21 e' fun _ _ e=>Int.ofNat.inj (congrArg Prod.fst (Option.some.inj (q1.symm.trans e)))
  subst ea; subst ea'
  have l1:=p6 (rk os' a'+1) ⟨h1,Nat.lt_succ_of_le q4⟩ ⟨h2,Nat.lt_succ_of_le q3⟩ (q5.symm Nb.sy ⟨h2,Nat.lt_succ_of_le q3⟩)
  have l2:=q6 (rk os' a+1) ⟨h2,Nat.lt_succ_of_le p4⟩ ⟨h1,Nat.lt_succ_of_le p3⟩ (p5.symm Nb.sy ⟨h1,Nat.lt_succ_of_le p3⟩)
  exact inj _ _ q2 p2 (Nat.le_antisymm (Nat.le_of_lt_succ l2) (Nat.le_of_lt_succ l1))
 have body:∀ {one other:Nat},one<rows.length * c→other<rows.length * c→∃ (m:Nat) (w ks:List Nat),Pf.aP rows reach (one:Int) (other:Int)=some ((m:Int),cl w,cl ks)∧Pf.cV ((m:Int),cl w,cl ks) ((List.range (rows.length * c)).map fun x=>cl (nbL rows.length c reach x)) pl (one:Int) (other:Int)=some true∧ks.length≤64:=by
  intro one other h1 h2
  refine oq3b (pass h1 h2) fun m w ks p1 p2 p3 p4 p5 p6 p7 p8 p9 pa pb=>?_
  refine ⟨m,w,ks,p1,right_ok h64 inj hplx hbes hbl h1 h2 p2 p3 p4 p6 p7 p8 p9 pa pb,?_⟩
  by_cases q:rk os' one<rk os' m
  ·exact nz5 (nz2 (bD _ (p9.imp nz7) fun y hy=>by
    have:=(pb q y).mp hy
    cases this with
    | here=>exact h1
    | on _ _ g=>exact g.1) h64)
  ·rw [pa q]; exact Nat.zero_le _
 refine oq12 (mod_nat (cellAt ns 1) npos) fun one e1 l1=>?_
 have hone:one<rows.length * c:=by rw [eln] at l1; exact Int.ofNat_lt.mp l1
 refine bnk (show Pf.floor ns 5=some rows from efl) (bnk (show Pf.reach ns 0=some reach from er) (bnk (Pf.oJ rows (by rw [fl]; exact nz4 h60 (by decide))) (bnk (show Pf.ee rows.flatten=some pl from Pf.nz _ ▸ epl) (bnk (Pf.nl hp hc hc1 hm1 hr) (bnk eh (bnk (bnk (show Pf.bU ns 1=some (cellAt ns 1) from Pf.eL ns 1) ((fS npos).trans (congrArg some e1))) (bnk (show Pu.rng2 2 5=some [2,3,4] from rfl) ?_)))))))
 refine forC_then (fun _ (s:Int)=>∃ x:Nat,s=(x:Int)∧x<rows.length * c) ⟨one,rfl,hone⟩ (fun i y s hy I=>?_) fun s I=>?_
 ·refine oq12 I fun x es hx=>?_
  subst es
  have hy':∃ k:Nat,y=(k:Int)∧k≤4:=by
   have:=List.mem_of_getElem? hy
   simp only [List.mem_cons,List.not_mem_nil,or_false] at this
   rcases this with q | q | q
   ·exact ⟨2,q,by decide⟩
   ·exact ⟨3,q,by decide⟩
   ·exact ⟨4,q,by decide⟩
  refine oq12 hy' fun k ek hk=>?_
  subst ek
  refine oq12 (mod_nat (Fl.mixed (cellAt ns k) (k:Int)) npos) fun r er' lr=>?_
  have hr':r<rows.length * c:=by rw [eln] at lr; exact Int.ofNat_lt.mp lr
  refine oq33 (body hx hr') fun m w ks b1 b2 b3=>?_
  refine oq32 (body hr' hx) fun m' w' ks' c1 _=>?_
  have em:m'=m:=same hx hr' ⟨w,ks,b1⟩ ⟨w',ks',c1⟩
  subst em
  refine ⟨(r:Int),?_,r,rfl,hr'⟩
  refine bnk (bnk (bnk (Pf.eL ns k) (Pf.jC (k:=(k:Int)) (by omega) (by omega))) ((fS npos).trans (congrArg some er'))) (bnk b1 (bnk (a:=false) (bnk b2 rfl) ((if_neg Bool.false_ne_true).trans (bnk rfl (bnk (a:=false) (bnk (a:=false) (bnk (bnk c1 rfl) (congrArg some (ndec rfl))) ((if_neg Bool.false_ne_true).trans (congrArg some (ndec rfl)))) ((if_neg Bool.false_ne_true).trans (bnk (ic (by rw [bq]; exact nz4 b3 (by decide))) (bnk (a:=false) (bnk b1 (congrArg some (ndec rfl))) (if_neg Bool.false_ne_true)))))))))
 ·refine oq12 I fun x es hx=>?_
  subst es
  refine oq33 (body hx hx) fun m w ks b1 b2 b3=>?_
  exact bnk b1 (bnk b2 ((if_pos rfl).trans (congrArg some (decide_eq_true rfl))))
end K13
namespace K13
open PySem PySem.Spec PyProof.Rows L2
theorem all_mk {l:PySem.W.OpenLaw} {w:World} {K:PySem.W.Frag} {h:Heap} {mg:Str→Option Value} {fa:Addr} (X:K.In h) (G:h.Ns mainGlobals mg) (hfa:mg "law"=some (.ref fa))
  {f1 f2 f3 f4 f5:Addr} {od1 an1 od2 an2 od3 an3 od4 an4 od5 an5:Option Addr} {sl1 sl2 sl3 sl4 sl5:Array (Option Value)} {oc1 kV1 dc1 pm1 cd1 ct1 oc2 kV2 dc2 pm2 cd2 ct2 oc3 kV3 dc3 pm3 cd3 ct3 oc4 kV4 dc4 pm4 cd4 ct4 oc5 kV5 dc5 pm5 cd5 ct5:Value}
  {CM CW:Addr}
  (aC_Meetings:PySem.W.nsIn K mainGlobals "Meetings"=some (some (.ref CM))) (pg_Meetings:PySem.W.plainGet K CM Str.empty=true) (hd_Meetings:PySem.W.hasDictIn K CM=true) (po_Meetings:PySem.W.plainOver K CM=true) (sa_Meetings:PySem.W.findIn K (.ref CM) "__setattr__"=some (some (.builtin "object.__setattr__"))) (mk_Meetings:PySem.W.makesIn K CM=true) (kc_Meetings:PySem.W.keepIn K (.ref CM)=true)
  (n_Meetings_floor:bn K CM "floor") (n_Meetings_ended:bn K CM "ended")
  (aC_Water:PySem.W.nsIn K mainGlobals "Water"=some (some (.ref CW))) (pg_Water:PySem.W.plainGet K CW Str.empty=true) (hd_Water:PySem.W.hasDictIn K CW=true) (po_Water:PySem.W.plainOver K CW=true) (sa_Water:PySem.W.findIn K (.ref CW) "__setattr__"=some (some (.builtin "object.__setattr__"))) (mk_Water:PySem.W.makesIn K CW=true) (kc_Water:PySem.W.keepIn K (.ref CW)=true)
  (n_Water_floor:bn K CW "floor") (n_Water_reach:bn K CW "reach") (n_Water_homes:bn K CW "homes") (n_Water_meetings:bn K CW "meetings")
  (a1:PySem.W.findIn K (.ref CM) "__init__"=some (some (.ref f1))) (i1:PySem.W.isFn K (.ref f1)=true) (l1:K.lookup f1=some ⟨oc1,od1,.func (PySem.W.fnOf "__init__" "Meetings.__init__" (bz aX) (aO aX) (ae aX) .none kV1 dc1 pm1 an1 cd1 ct1),sl1⟩) (c1:PySem.W.codeIn K cd1 "Meetings.__init__"=true) (k1:PySem.W.keepIn K (.ref f1)=true)
  (a2:PySem.W.findIn K (.ref CW) "__init__"=some (some (.ref f2))) (i2:PySem.W.isFn K (.ref f2)=true) (l2:K.lookup f2=some ⟨oc2,od2,.func (PySem.W.fnOf "__init__" "Water.__init__" (bz bu) (aO bu) (ae bu) .none kV2 dc2 pm2 an2 cd2 ct2),sl2⟩) (c2:PySem.W.codeIn K cd2 "Water.__init__"=true) (k2:PySem.W.keepIn K (.ref f2)=true)
  (a3:PySem.W.nsIn K mainGlobals "in_order"=some (some (.ref f3))) (l3:K.lookup f3=some ⟨oc3,od3,.func (PySem.W.fnOf "in_order" "in_order" (bz cK) (aO cK) (ae cK) .none kV3 dc3 pm3 an3 cd3 ct3),sl3⟩) (c3:PySem.W.codeIn K cd3 "in_order"=true) (k3:PySem.W.keepIn K (.ref f3)=true)
  (a4:PySem.W.nsIn K mainGlobals "earliest_of"=some (some (.ref f4))) (l4:K.lookup f4=some ⟨oc4,od4,.func (PySem.W.fnOf "earliest_of" "earliest_of" (bz bR) (aO bR) (ae bR) .none kV4 dc4 pm4 an4 cd4 ct4),sl4⟩) (c4:PySem.W.codeIn K cd4 "earliest_of"=true) (k4:PySem.W.keepIn K (.ref f4)=true)
  (a5:PySem.W.nsIn K mainGlobals "law"=some (some (.ref f5))) (l5:K.lookup f5=some ⟨oc5,od5,.func (PySem.W.fnOf "law" "law" (bz eg) (aO eg) (ae eg) .none kV5 dc5 pm5 an5 cd5 ct5),sl5⟩) (c5:PySem.W.codeIn K cd5 "law"=true) (k5:PySem.W.keepIn K (.ref f5)=true)
  {cc3:Addr} (e_in_order:cd3=.ref cc3) (h_in_order:PySem.W.codeHdIn K cc3 72=true)
  {cc4:Addr} (e_earliest_of:cd4=.ref cc4) (h_earliest_of:PySem.W.codeHdIn K cc4 65=true)
  (D_cell_at:au K mg "_law_cell_at" ij ["_law_script","_law_k"])
  (D_mixed:au K mg "_law_mixed" lV ["_law_number","_law_k"])
  (D_height:au K mg "_law_height" jK ["_law_number","_law_k","_law_way_here"])
  (D_folded:au K mg "_law_folded" jL ["_law_heights_here","_law_columns"])
  (D_floor:au K mg "_law_floor" lW ["_law_script","_law_first"])
  (D_reach:au K mg "_law_reach" lX ["_law_script","_law_first"])
  (D_heights:au K mg "_law_heights" ik ["_law_floor_here"])
  (D_order:au K mg "_law_order" lY ["_law_heights_here"])
  (D_places:au K mg "_law_places" jM ["_law_heights_here"])
  (D_next:au K mg "_law_next" oN ["_law_size","_law_reach_here","_law_cell"])
  (D_all_next:au K mg "_law_all_next" gn ["_law_floor_here","_law_reach_here"])
  (D_size_of:au K mg "size_of" il ["floor"])
  (D_all_cells:au K mg "all_cells" fk ["floor"])
  (D_height_of:au K mg "height_of" fm ["floor","cell"])
  (D_order_key:au K mg "order_key" fo ["floor","cell"])
  (D_neighbours:au K mg "neighbours" eO ["size","reach","cell"])
  (D_Water_homes_around:bJ K CW "homes_around" "Water.homes_around" c8 ["self","cell"])
  (D_Meetings_living:bJ K CM "living" "Meetings.living" cF ["self","start"])
  (D_Meetings_let_meet:bJ K CM "let_meet" "Meetings.let_meet" cg ["self","starts","meet"])
  (D_Water_let_come:bJ K CW "let_come" "Water.let_come" cL ["self","cell"])
  (D_Water_start_now:bJ K CW "start_now" "Water.start_now" cG ["self","cell"])
  (D_joining_cell:au K mg "joining_cell" ca ["floor","reach","one","other"])
  (D_comes_before:au K mg "comes_before" dt ["floor","one","other"])
  (D_ways_back:au K mg "ways_back" fq ["floor","reach","cell","last"])
  (D_way_under:au K mg "way_under" ft ["floor","reach","one","other","last"])
  (D_stretch_under:au K mg "stretch_under" cZ ["floor","reach","cell","last"])
  (D_stretch_ahead_of:au K mg "stretch_ahead_of" cr ["floor","reach","cell","later"])
  (D_pass_between:au K mg "pass_between" du ["floor","reach","one","other"])
  (D_numbers:au K mg "_law_numbers" im ["_law_found","_law_most"])
  (D_way:au K mg "_law_way" s_way ["_law_way_here","_law_beside","_law_one","_law_other"])
  (D_joined:au K mg "_law_joined" jN ["_law_found","_law_beside","_law_cell"])
  (D_inside:au K mg "_law_inside" jO ["_law_inside_here","_law_beside","_law_places_here","_law_one","_law_other","_law_top"])
  (D_right:au K mg "_law_right" lZ ["_law_found","_law_beside","_law_places_here","_law_one","_law_other"])
  (B:Blt mg) :
  ∃ fd:FuncData,(∀ (s:Shared) (v:Value),BindsTo s fd ⟨[v],[]⟩ [("_law_script",v)])∧(∀ P∈(konL [(65,(("earliest_of":Str)++".<locals>.")++"<lambda>"),(72,(("in_order":Str)++".<locals>.")++"<lambda>")]).T,∃ c,PySem.W.codeHdIn K c P=true)∧∀ base:Heap,K.In base→base.Ns mainGlobals mg→BM mg base→FnOk l.prog w K mg base CX0 13 fa fd ["_law_script"] (@spLaw (konL [(65,(("earliest_of":Str)++".<locals>.")++"<lambda>"),(72,(("in_order":Str)++".<locals>.")++"<lambda>")]) K):=by
 letI:Kon:=(konL [(65,(("earliest_of":Str)++".<locals>.")++"<lambda>"),(72,(("in_order":Str)++".<locals>.")++"<lambda>")])
 have e:=hfa.symm.trans (PySem.W.mg_of X G a5)
 cases e
 have kM:MK K CM:=⟨⟨pg_Meetings,hd_Meetings,po_Meetings,sa_Meetings⟩,n_Meetings_floor,n_Meetings_ended⟩
 have kW:WK K CW:=⟨⟨pg_Water,hd_Water,po_Water,sa_Water⟩,n_Water_floor,n_Water_reach,n_Water_homes,n_Water_meetings⟩
 have D_Meetings___init__:gm K mg "Meetings" CM "Meetings.__init__" aX ["self","floor"]:=init_mk X G aC_Meetings a1 l1 c1 k1 i1 mk_Meetings kc_Meetings fun _ _ _ _ _ _ us hl=>by obtain ⟨_,_,rfl⟩:=L2.len2 hl; rfl
 have D_Water___init__:gm K mg "Water" CW "Water.__init__" bu ["self","floor","reach"]:=init_mk X G aC_Water a2 l2 c2 k2 i2 mk_Water kc_Water fun _ _ _ _ _ _ us hl=>by obtain ⟨_,_,_,rfl⟩:=L2.len3 hl; rfl
 have D_in_order:di K mg "in_order" cK ["floor"] cc3:=def_mkC X G a3 l3 c3 k3 e_in_order fun _ _ _ _ _ _ us hl=>by obtain ⟨_,rfl⟩:=L2.len1 hl; rfl
 have D_earliest_of:di K mg "earliest_of" bR ["floor","cells"] cc4:=def_mkC X G a4 l4 c4 k4 e_earliest_of fun _ _ _ _ _ _ us hl=>by obtain ⟨_,_,rfl⟩:=L2.len2 hl; rfl
 have F_law:=eD (st:=eg) l5 c5 k5
 refine ⟨PySem.W.fnOf "law" "law" (bz eg) (aO eg) (ae eg) .none kV5 dc5 pm5 an5 cd5 ct5,fun s v=>.of_eq rfl,List.forall_mem_cons.mpr ⟨⟨_,h_earliest_of⟩,List.forall_mem_cons.mpr ⟨⟨_,h_in_order⟩,fun _ h=>nomatch h⟩⟩,fun base _ _ bm=>?_⟩
 have g_cell_at:=oO (P:=l.prog) (w:=w) (base:=base) D_cell_at B  kM kW
 have g_mixed:=ok_mixed (P:=l.prog) (w:=w) (base:=base) D_mixed B  kM kW
 have g_height:=ok_height (P:=l.prog) (w:=w) (base:=base) D_height B  kM kW g_mixed
 have g_folded:=ok_folded (P:=l.prog) (w:=w) (base:=base) D_folded B  kM kW
 have g_floor:=ok_floor (P:=l.prog) (w:=w) (base:=base) D_floor B  kM kW g_cell_at g_height g_folded
 have g_reach:=ok_reach (P:=l.prog) (w:=w) (base:=base) D_reach B  kM kW g_cell_at g_mixed
 have g_heights:=oP (P:=l.prog) (w:=w) (base:=base) D_heights B  kM kW
 have g_order:=ok_order (P:=l.prog) (w:=w) (base:=base) D_order B  kM kW
 have g_places:=ok_places (P:=l.prog) (w:=w) (base:=base) D_places B  kM kW g_order
 have g_next:=ok_next (P:=l.prog) (w:=w) (base:=base) D_next B  kM kW
 have g_all_next:=nG (P:=l.prog) (w:=w) (base:=base) D_all_next B  kM kW g_next
 have g_size_of:=oQ (P:=l.prog) (w:=w) (base:=base) D_size_of B  kM kW
 have g_all_cells:=m7 (P:=l.prog) (w:=w) (base:=base) D_all_cells B  kM kW g_size_of
 have g_Meetings___init__:=fu (P:=l.prog) (w:=w) (base:=base) D_Meetings___init__ B  kM kW
 have g_Water___init__:=gQ (P:=l.prog) (w:=w) (base:=base) D_Water___init__ B  kM kW g_all_cells g_Meetings___init__
 have g_height_of:=m8 (P:=l.prog) (w:=w) (base:=base) D_height_of B  kM kW g_size_of
 have g_order_key:=m9 (P:=l.prog) (w:=w) (base:=base) D_order_key B  kM kW g_height_of
 have g_in_order:=nH (P:=l.prog) (w:=w) (base:=base) D_in_order ⟨bm,h_in_order,by first | exact List.Mem.head _ | exact List.Mem.tail _ (List.Mem.head _) | exact List.Mem.tail _ (List.Mem.tail _ (List.Mem.head _)),by first | rfl | decide +kernel⟩ B  kM kW g_all_cells g_order_key
 have g_neighbours:=ke (P:=l.prog) (w:=w) (base:=base) D_neighbours B  kM kW
 have g_Water_homes_around:=eT (P:=l.prog) (w:=w) (base:=base) D_Water_homes_around B  kM kW g_size_of g_neighbours
 have g_Meetings_living:=gp (P:=l.prog) (w:=w) (base:=base) D_Meetings_living B  kM kW
 have g_earliest_of:=jS (P:=l.prog) (w:=w) (base:=base) D_earliest_of ⟨bm,h_earliest_of,by first | exact List.Mem.head _ | exact List.Mem.tail _ (List.Mem.head _) | exact List.Mem.tail _ (List.Mem.tail _ (List.Mem.head _)),by first | rfl | decide +kernel⟩ B  kM kW g_order_key
 have g_Meetings_let_meet:=fv (P:=l.prog) (w:=w) (base:=base) D_Meetings_let_meet B  kM kW g_Meetings_living g_earliest_of
 have g_Water_let_come:=gR (P:=l.prog) (w:=w) (base:=base) D_Water_let_come B  kM kW g_Water_homes_around g_Meetings_let_meet
 have g_Water_start_now:=gq (P:=l.prog) (w:=w) (base:=base) D_Water_start_now B  kM kW g_Meetings_living
 have g_joining_cell:=iH (P:=l.prog) (w:=w) (base:=base) D_joining_cell B  kM kW g_Water___init__ g_in_order g_Water_let_come g_Water_start_now
 have g_comes_before:=iI (P:=l.prog) (w:=w) (base:=base) D_comes_before B  kM kW g_order_key
 have g_ways_back:=ma (P:=l.prog) (w:=w) (base:=base) D_ways_back B  kM kW g_size_of g_neighbours g_comes_before
 have g_way_under:=md (P:=l.prog) (w:=w) (base:=base) D_way_under B  kM kW g_ways_back
 have g_stretch_under:=io (P:=l.prog) (w:=w) (base:=base) D_stretch_under B  kM kW g_comes_before g_ways_back
 have g_stretch_ahead_of:=fU (P:=l.prog) (w:=w) (base:=base) D_stretch_ahead_of B  kM kW g_in_order g_comes_before g_stretch_under
 have g_pass_between:=iJ (P:=l.prog) (w:=w) (base:=base) D_pass_between B  kM kW g_joining_cell g_way_under g_stretch_ahead_of
 have g_numbers:=oS (P:=l.prog) (w:=w) (base:=base) D_numbers B  kM kW
 have g_way:=ok_way (P:=l.prog) (w:=w) (base:=base) D_way B  kM kW g_numbers
 have g_joined:=ok_joined (P:=l.prog) (w:=w) (base:=base) D_joined B  kM kW
 have g_inside:=ok_inside (P:=l.prog) (w:=w) (base:=base) D_inside B  kM kW g_numbers g_joined
 have g_right:=ok_right (P:=l.prog) (w:=w) (base:=base) D_right B  kM kW g_numbers g_way g_inside
 exact ok_law F_law B kM kW g_cell_at g_mixed g_floor g_reach g_heights g_places g_all_next g_pass_between g_right holds
theorem walk {l:PySem.W.OpenLaw} {q:Program} {loose:List Str} {XP:(Str→Option Value)→Heap→Prop} {YP:World→Heap→Prop} {d:DefRec} {K:Params→PySem.W.Frag} (hn:l.most=some 63) (hdf:d.params.defaults=[])
  (hY:∀ (w:World) (h:Heap),YP w h→(K w.params).In h∧∀ P∈(konL [(65,(("earliest_of":Str)++".<locals>.")++"<lambda>"),(72,(("in_order":Str)++".<locals>.")++"<lambda>")]).T,h.get? P=some (PySem.W.tabObj #[])) (hC:∀ (w:World),∀ P∈(konL [(65,(("earliest_of":Str)++".<locals>.")++"<lambda>"),(72,(("in_order":Str)++".<locals>.")++"<lambda>")]).T,(K w.params).lookup P=none)
  (F:∀ (w:World) (mg:Str→Option Value) (fa:Addr) (h:Heap),(K w.params).In h→h.Ns mainGlobals mg→mg d.name=some (.ref fa) →
   ∃ fd:FuncData,(∀ (s:Shared) (u:Value),BindsTo s fd ⟨[u],[]⟩ [("_law_script",u)])∧(∀ P∈(konL [(65,(("earliest_of":Str)++".<locals>.")++"<lambda>"),(72,(("in_order":Str)++".<locals>.")++"<lambda>")]).T,∃ c,PySem.W.codeHdIn (K w.params) c P=true)∧∀ base:Heap,(K w.params).In base→base.Ns mainGlobals mg→BM mg base→FnOk l.prog w (K w.params) mg base CX0 13 fa fd ["_law_script"] (@spLaw (konL [(65,(("earliest_of":Str)++".<locals>.")++"<lambda>"),(72,(("in_order":Str)++".<locals>.")++"<lambda>")]) (K w.params))) :
  PySem.W.WalkO q loose XP YP l.row.toRowW d [] (fun f vs=>PySem.call f vs) :=
 letI:Kon:=(konL [(65,(("earliest_of":Str)++".<locals>.")++"<lambda>"),(72,(("in_order":Str)++".<locals>.")++"<lambda>")])
 L2.walk_ofT (n:=63) (k:=13) (x:="_law_script") (sp:=fun w=>spLaw (K w.params)) hn (by decide) hdf ⟨rfl,by decide,by decide⟩ hY hC F (fun _ _ a ns hl tg hS=>⟨a,ns,rfl,hS,hl,tg,fun _=>rfl⟩)
end K13
open PySem PySem.W PyProof.Rows
set_option maxRecDepth 100000 in
set_option maxHeartbeats 0 in
theorem PySem.Challenge.cw_floodtree_k13_pass_walked_holds : PySem.Challenge.rw_floodtree_k13_pass_walked.Holds := by
 w_on; o_law; k_head; (case hw=>w_witness2)
 k_fill
 refine K13.walk (l:=PySem.Challenge.rw_floodtree_k13_pass_walked) rfl rfl (fun w h Y=>⟨PySem.W.km_in_of Y,PySem.W.km_tabs_of Y⟩) (fun w=>?C) ?F
 case F =>
  intro w mg fa h KX G hmg
  refine' K13.all_mk KX G hmg ?aC_Meetings ?pg_Meetings ?hd_Meetings ?po_Meetings ?sa_Meetings ?mk_Meetings ?kc_Meetings ?n_Meetings_floor ?n_Meetings_ended ?aC_Water ?pg_Water ?hd_Water ?po_Water ?sa_Water ?mk_Water ?kc_Water ?n_Water_floor ?n_Water_reach ?n_Water_homes ?n_Water_meetings ?a1 ?i1 ?l1 ?c1 ?k1 ?a2 ?i2 ?l2 ?c2 ?k2 ?a3 ?l3 ?c3 ?k3 ?a4 ?l4 ?c4 ?k4 ?a5 ?l5 ?c5 ?k5 ?e_in_order ?h_in_order ?e_earliest_of ?h_earliest_of ?D_cell_at ?D_mixed ?D_height ?D_folded ?D_floor ?D_reach ?D_heights ?D_order ?D_places ?D_next ?D_all_next ?D_size_of ?D_all_cells ?D_height_of ?D_order_key ?D_neighbours ?D_Water_homes_around ?D_Meetings_living ?D_Meetings_let_meet ?D_Water_let_come ?D_Water_start_now ?D_joining_cell ?D_comes_before ?D_ways_back ?D_way_under ?D_stretch_under ?D_stretch_ahead_of ?D_pass_between ?D_numbers ?D_way ?D_joined ?D_inside ?D_right ?B
  (case aC_Meetings=>k_is); (case pg_Meetings=>k_is); (case hd_Meetings=>k_is); (case po_Meetings=>k_is); (case sa_Meetings=>k_is); (case mk_Meetings=>k_is); (case kc_Meetings=>k_is); (case n_Meetings_floor=>unfold L2.bn; k_is); (case n_Meetings_ended=>unfold L2.bn; k_is)
  (case aC_Water=>k_is); (case pg_Water=>k_is); (case hd_Water=>k_is); (case po_Water=>k_is); (case sa_Water=>k_is); (case mk_Water=>k_is); (case kc_Water=>k_is); (case n_Water_floor=>unfold L2.bn; k_is); (case n_Water_reach=>unfold L2.bn; k_is); (case n_Water_homes=>unfold L2.bn; k_is); (case n_Water_meetings=>unfold L2.bn; k_is)
  (case a1=>k_is); (case i1=>k_is); (case l1=>k_is); (case c1=>k_is); (case k1=>k_is)
  (case a2=>k_is); (case i2=>k_is); (case l2=>k_is); (case c2=>k_is); (case k2=>k_is)
  (case a3=>k_is); (case l3=>k_is); (case c3=>k_is); (case k3=>k_is)
  (case a4=>k_is); (case l4=>k_is); (case c4=>k_is); (case k4=>k_is)
  (case a5=>k_is); (case l5=>k_is); (case c5=>k_is); (case k5=>k_is)
  (case e_in_order=>rfl); (case h_in_order=>kernel_rfl)
  (case e_earliest_of=>rfl); (case h_earliest_of=>kernel_rfl)
  (case D_cell_at=>refine' L2.aZ KX G ?a ?l ?c ?k (fun _ _ _ _ _ _ us hl=>by obtain ⟨_,_,rfl⟩:=L2.len2 hl; rfl); (case a=>k_is); (case l=>k_is); (case c=>k_is); (case k=>k_is))
  (case D_mixed=>refine' L2.aZ KX G ?a ?l ?c ?k (fun _ _ _ _ _ _ us hl=>by obtain ⟨_,_,rfl⟩:=L2.len2 hl; rfl); (case a=>k_is); (case l=>k_is); (case c=>k_is); (case k=>k_is))
  (case D_height=>refine' L2.aZ KX G ?a ?l ?c ?k (fun _ _ _ _ _ _ us hl=>by obtain ⟨_,_,_,rfl⟩:=L2.len3 hl; rfl); (case a=>k_is); (case l=>k_is); (case c=>k_is); (case k=>k_is))
  (case D_folded=>refine' L2.aZ KX G ?a ?l ?c ?k (fun _ _ _ _ _ _ us hl=>by obtain ⟨_,_,rfl⟩:=L2.len2 hl; rfl); (case a=>k_is); (case l=>k_is); (case c=>k_is); (case k=>k_is))
  (case D_floor=>refine' L2.aZ KX G ?a ?l ?c ?k (fun _ _ _ _ _ _ us hl=>by obtain ⟨_,_,rfl⟩:=L2.len2 hl; rfl); (case a=>k_is); (case l=>k_is); (case c=>k_is); (case k=>k_is))
  (case D_reach=>refine' L2.aZ KX G ?a ?l ?c ?k (fun _ _ _ _ _ _ us hl=>by obtain ⟨_,_,rfl⟩:=L2.len2 hl; rfl); (case a=>k_is); (case l=>k_is); (case c=>k_is); (case k=>k_is))
  (case D_heights=>refine' L2.aZ KX G ?a ?l ?c ?k (fun _ _ _ _ _ _ us hl=>by obtain ⟨_,rfl⟩:=L2.len1 hl; rfl); (case a=>k_is); (case l=>k_is); (case c=>k_is); (case k=>k_is))
  (case D_order=>refine' L2.aZ KX G ?a ?l ?c ?k (fun _ _ _ _ _ _ us hl=>by obtain ⟨_,rfl⟩:=L2.len1 hl; rfl); (case a=>k_is); (case l=>k_is); (case c=>k_is); (case k=>k_is))
  (case D_places=>refine' L2.aZ KX G ?a ?l ?c ?k (fun _ _ _ _ _ _ us hl=>by obtain ⟨_,rfl⟩:=L2.len1 hl; rfl); (case a=>k_is); (case l=>k_is); (case c=>k_is); (case k=>k_is))
  (case D_next=>refine' L2.aZ KX G ?a ?l ?c ?k (fun _ _ _ _ _ _ us hl=>by obtain ⟨_,_,_,rfl⟩:=L2.len3 hl; rfl); (case a=>k_is); (case l=>k_is); (case c=>k_is); (case k=>k_is))
  (case D_all_next=>refine' L2.aZ KX G ?a ?l ?c ?k (fun _ _ _ _ _ _ us hl=>by obtain ⟨_,_,rfl⟩:=L2.len2 hl; rfl); (case a=>k_is); (case l=>k_is); (case c=>k_is); (case k=>k_is))
  (case D_size_of=>refine' L2.aZ KX G ?a ?l ?c ?k (fun _ _ _ _ _ _ us hl=>by obtain ⟨_,rfl⟩:=L2.len1 hl; rfl); (case a=>k_is); (case l=>k_is); (case c=>k_is); (case k=>k_is))
  (case D_all_cells=>refine' L2.aZ KX G ?a ?l ?c ?k (fun _ _ _ _ _ _ us hl=>by obtain ⟨_,rfl⟩:=L2.len1 hl; rfl); (case a=>k_is); (case l=>k_is); (case c=>k_is); (case k=>k_is))
  (case D_height_of=>refine' L2.aZ KX G ?a ?l ?c ?k (fun _ _ _ _ _ _ us hl=>by obtain ⟨_,_,rfl⟩:=L2.len2 hl; rfl); (case a=>k_is); (case l=>k_is); (case c=>k_is); (case k=>k_is))
  (case D_order_key=>refine' L2.aZ KX G ?a ?l ?c ?k (fun _ _ _ _ _ _ us hl=>by obtain ⟨_,_,rfl⟩:=L2.len2 hl; rfl); (case a=>k_is); (case l=>k_is); (case c=>k_is); (case k=>k_is))
  (case D_neighbours=>refine' L2.aZ KX G ?a ?l ?c ?k (fun _ _ _ _ _ _ us hl=>by obtain ⟨_,_,_,rfl⟩:=L2.len3 hl; rfl); (case a=>k_is); (case l=>k_is); (case c=>k_is); (case k=>k_is))
  (case D_Water_homes_around=>letI:L2.Kon:=L2.kon0; refine' L2.gL ?a ?l ?c ?k ?i (fun _ _ _ _ _ _ us hl=>by obtain ⟨_,_,rfl⟩:=L2.len2 hl; rfl); (case a=>k_is); (case l=>k_is); (case c=>k_is); (case k=>k_is); (case i=>k_is))
  (case D_Meetings_living=>letI:L2.Kon:=L2.kon0; refine' L2.gL ?a ?l ?c ?k ?i (fun _ _ _ _ _ _ us hl=>by obtain ⟨_,_,rfl⟩:=L2.len2 hl; rfl); (case a=>k_is); (case l=>k_is); (case c=>k_is); (case k=>k_is); (case i=>k_is))
  (case D_Meetings_let_meet=>letI:L2.Kon:=L2.kon0; refine' L2.gL ?a ?l ?c ?k ?i (fun _ _ _ _ _ _ us hl=>by obtain ⟨_,_,_,rfl⟩:=L2.len3 hl; rfl); (case a=>k_is); (case l=>k_is); (case c=>k_is); (case k=>k_is); (case i=>k_is))
  (case D_Water_let_come=>letI:L2.Kon:=L2.kon0; refine' L2.gL ?a ?l ?c ?k ?i (fun _ _ _ _ _ _ us hl=>by obtain ⟨_,_,rfl⟩:=L2.len2 hl; rfl); (case a=>k_is); (case l=>k_is); (case c=>k_is); (case k=>k_is); (case i=>k_is))
  (case D_Water_start_now=>letI:L2.Kon:=L2.kon0; refine' L2.gL ?a ?l ?c ?k ?i (fun _ _ _ _ _ _ us hl=>by obtain ⟨_,_,rfl⟩:=L2.len2 hl; rfl); (case a=>k_is); (case l=>k_is); (case c=>k_is); (case k=>k_is); (case i=>k_is))
  (case D_joining_cell=>refine' L2.aZ KX G ?a ?l ?c ?k (fun _ _ _ _ _ _ us hl=>by obtain ⟨_,_,_,_,rfl⟩:=L2.len4 hl; rfl); (case a=>k_is); (case l=>k_is); (case c=>k_is); (case k=>k_is))
  (case D_comes_before=>refine' L2.aZ KX G ?a ?l ?c ?k (fun _ _ _ _ _ _ us hl=>by obtain ⟨_,_,_,rfl⟩:=L2.len3 hl; rfl); (case a=>k_is); (case l=>k_is); (case c=>k_is); (case k=>k_is))
  (case D_ways_back=>refine' L2.aZ KX G ?a ?l ?c ?k (fun _ _ _ _ _ _ us hl=>by obtain ⟨_,_,_,_,rfl⟩:=L2.len4 hl; rfl); (case a=>k_is); (case l=>k_is); (case c=>k_is); (case k=>k_is))
  (case D_way_under=>refine' L2.aZ KX G ?a ?l ?c ?k (fun _ _ _ _ _ _ us hl=>by obtain ⟨_,_,_,_,_,rfl⟩:=L2.len5 hl; rfl); (case a=>k_is); (case l=>k_is); (case c=>k_is); (case k=>k_is))
  (case D_stretch_under=>refine' L2.aZ KX G ?a ?l ?c ?k (fun _ _ _ _ _ _ us hl=>by obtain ⟨_,_,_,_,rfl⟩:=L2.len4 hl; rfl); (case a=>k_is); (case l=>k_is); (case c=>k_is); (case k=>k_is))
  (case D_stretch_ahead_of=>refine' L2.aZ KX G ?a ?l ?c ?k (fun _ _ _ _ _ _ us hl=>by obtain ⟨_,_,_,_,rfl⟩:=L2.len4 hl; rfl); (case a=>k_is); (case l=>k_is); (case c=>k_is); (case k=>k_is))
  (case D_pass_between=>refine' L2.aZ KX G ?a ?l ?c ?k (fun _ _ _ _ _ _ us hl=>by obtain ⟨_,_,_,_,rfl⟩:=L2.len4 hl; rfl); (case a=>k_is); (case l=>k_is); (case c=>k_is); (case k=>k_is))
  (case D_numbers=>refine' L2.aZ KX G ?a ?l ?c ?k (fun _ _ _ _ _ _ us hl=>by obtain ⟨_,_,rfl⟩:=L2.len2 hl; rfl); (case a=>k_is); (case l=>k_is); (case c=>k_is); (case k=>k_is))
  (case D_way=>refine' L2.aZ KX G ?a ?l ?c ?k (fun _ _ _ _ _ _ us hl=>by obtain ⟨_,_,_,_,rfl⟩:=L2.len4 hl; rfl); (case a=>k_is); (case l=>k_is); (case c=>k_is); (case k=>k_is))
  (case D_joined=>refine' L2.aZ KX G ?a ?l ?c ?k (fun _ _ _ _ _ _ us hl=>by obtain ⟨_,_,_,rfl⟩:=L2.len3 hl; rfl); (case a=>k_is); (case l=>k_is); (case c=>k_is); (case k=>k_is))
  (case D_inside=>refine' L2.aZ KX G ?a ?l ?c ?k (fun _ _ _ _ _ _ us hl=>by obtain ⟨_,_,_,_,_,_,rfl⟩:=L2.len6 hl; rfl); (case a=>k_is); (case l=>k_is); (case c=>k_is); (case k=>k_is))
  (case D_right=>refine' L2.aZ KX G ?a ?l ?c ?k (fun _ _ _ _ _ _ us hl=>by obtain ⟨_,_,_,_,_,rfl⟩:=L2.len5 hl; rfl); (case a=>k_is); (case l=>k_is); (case c=>k_is); (case k=>k_is))
  (case B=>refine' ⟨PySem.W.mg_none_of KX G ?_,PySem.W.mg_none_of KX G ?_,PySem.W.mg_none_of KX G ?_,PySem.W.mg_none_of KX G ?_,PySem.W.mg_none_of KX G ?_,PySem.W.mg_none_of KX G ?_,PySem.W.mg_none_of KX G ?_,PySem.W.mg_none_of KX G ?_,PySem.W.mg_none_of KX G ?_,PySem.W.mg_none_of KX G ?_,PySem.W.mg_none_of KX G ?_,PySem.W.mg_none_of KX G ?_,PySem.W.mg_none_of KX G ?_,PySem.W.mg_none_of KX G ?_⟩ <;> k_is)
 case C =>
  refine List.forall_mem_cons.mpr ⟨?_,List.forall_mem_cons.mpr ⟨?_,fun _ h=>nomatch h⟩⟩
  all_goals kernel_rfl
#print axioms PySem.Challenge.cw_floodtree_k13_pass_walked_holds
