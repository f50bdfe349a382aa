import PyProof.Rows.All
import Wide.All
import OpenK.AllK
import Wide.FinOn
import Lean
import PyProof.EqAt
import PyProof.EqKinds
import PyProof.TupleCall
import PySem.Challenge.RW_floodtree_k22_lines
theorem nz1 {a b c:Nat} (h:a < b) (k:b ≤ c):a < c := Nat.lt_of_lt_of_le h k
theorem nz2 {a b c:Nat} (h:a ≤ b) (k:b < c):a < c := Nat.lt_of_le_of_lt h k
theorem nz3 {a b:Nat} (h:a = b):a ≤ b := Nat.le_of_eq h
theorem nz4 {a b c:Nat} (h:a ≤ b) (k:b ≤ c):a ≤ c := Nat.le_trans h k
theorem nz5 {a b:Nat} (h:a < b):a ≤ b := Nat.le_of_lt h
theorem nz6 (n:Nat):n ≤ n := Nat.le_refl n
theorem nz7 {a b:Nat} (h:a < b):a ≠ b := Nat.ne_of_lt h
theorem nz8 {a b c:Nat} (h:a < b) (k:b < c):a < c := Nat.lt_trans h k
theorem nz9 {α β γ:Type} (x:Option α) (f:α → Option β) (g:β → Option γ):(x.bind f).bind g = x.bind fun y => (f y).bind g := Option.bind_assoc x f g
theorem nza {α β:Type} (a:α) (f:α → Option β):(some a).bind f = f a := rfl
theorem oq02 {p q:Prop}{Q:Prop}(h:p∧q)(f:p→q→Q):Q:=f h.1 h.2
theorem oq03 {p q r:Prop}{Q:Prop}(h:p∧q∧r)(f:p→q→r→Q):Q:=f h.1 h.2.1 h.2.2
theorem oq04 {p q r s:Prop}{Q:Prop}(h:p∧q∧r∧s)(f:p→q→r→s→Q):Q:=f h.1 h.2.1 h.2.2.1 h.2.2.2
theorem oq05 {p q r s t:Prop}{Q:Prop}(h:p∧q∧r∧s∧t)(f:p→q→r→s→t→Q):Q:=f h.1 h.2.1 h.2.2.1 h.2.2.2.1 h.2.2.2.2
theorem oq06 {p q r s t u:Prop}{Q:Prop}(h:p∧q∧r∧s∧t∧u)(f:p→q→r→s→t→u→Q):Q:=f h.1 h.2.1 h.2.2.1 h.2.2.2.1 h.2.2.2.2.1 h.2.2.2.2.2
theorem oq11 {A:Type}{p:A→Prop}{Q:Prop}(h:∃ a,p a)(f:∀ a,p a→Q):Q:=h.elim fun a h=>f a h
theorem oq12 {A:Type}{p q:A→Prop}{Q:Prop}(h:∃ a,p a∧q a)(f:∀ a,p a→q a→Q):Q:=h.elim fun a h=>f a h.1 h.2
theorem oq13 {A:Type}{p q r:A→Prop}{Q:Prop}(h:∃ a,p a∧q a∧r a)(f:∀ a,p a→q a→r a→Q):Q:=h.elim fun a h=>f a h.1 h.2.1 h.2.2
theorem oq14 {A:Type}{p q r s:A→Prop}{Q:Prop}(h:∃ a,p a∧q a∧r a∧s a)(f:∀ a,p a→q a→r a→s a→Q):Q:=h.elim fun a h=>f a h.1 h.2.1 h.2.2.1 h.2.2.2
theorem oq15 {A:Type}{p q r s t:A→Prop}{Q:Prop}(h:∃ a,p a∧q a∧r a∧s a∧t a)(f:∀ a,p a→q a→r a→s a→t a→Q):Q:=h.elim fun a h=>f a h.1 h.2.1 h.2.2.1 h.2.2.2.1 h.2.2.2.2
theorem oq21 {A B:Type}{p:A→B→Prop}{Q:Prop}(h:∃ a b,p a b)(f:∀ a b,p a b→Q):Q:=h.elim fun a h=>h.elim fun b h=>f a b h
theorem oq22 {A B:Type}{p q:A→B→Prop}{Q:Prop}(h:∃ a b,p a b∧q a b)(f:∀ a b,p a b→q a b→Q):Q:=h.elim fun a h=>h.elim fun b h=>f a b h.1 h.2
theorem oq23 {A B:Type}{p q r:A→B→Prop}{Q:Prop}(h:∃ a b,p a b∧q a b∧r a b)(f:∀ a b,p a b→q a b→r a b→Q):Q:=h.elim fun a h=>h.elim fun b h=>f a b h.1 h.2.1 h.2.2
theorem oq24 {A B:Type}{p q r s:A→B→Prop}{Q:Prop}(h:∃ a b,p a b∧q a b∧r a b∧s a b)(f:∀ a b,p a b→q a b→r a b→s a b→Q):Q:=h.elim fun a h=>h.elim fun b h=>f a b h.1 h.2.1 h.2.2.1 h.2.2.2
theorem oq25 {A B:Type}{p q r s t:A→B→Prop}{Q:Prop}(h:∃ a b,p a b∧q a b∧r a b∧s a b∧t a b)(f:∀ a b,p a b→q a b→r a b→s a b→t a b→Q):Q:=h.elim fun a h=>h.elim fun b h=>f a b h.1 h.2.1 h.2.2.1 h.2.2.2.1 h.2.2.2.2
theorem oq26 {A B:Type}{p q r s t u:A→B→Prop}{Q:Prop}(h:∃ a b,p a b∧q a b∧r a b∧s a b∧t a b∧u a b)(f:∀ a b,p a b→q a b→r a b→s a b→t a b→u a b→Q):Q:=h.elim fun a h=>h.elim fun b h=>f a b h.1 h.2.1 h.2.2.1 h.2.2.2.1 h.2.2.2.2.1 h.2.2.2.2.2
theorem oq31 {A B C:Type}{p:A→B→C→Prop}{Q:Prop}(h:∃ a b c,p a b c)(f:∀ a b c,p a b c→Q):Q:=h.elim fun a h=>h.elim fun b h=>h.elim fun c h=>f a b c h
theorem oq32 {A B C:Type}{p q:A→B→C→Prop}{Q:Prop}(h:∃ a b c,p a b c∧q a b c)(f:∀ a b c,p a b c→q a b c→Q):Q:=h.elim fun a h=>h.elim fun b h=>h.elim fun c h=>f a b c h.1 h.2
theorem oq33 {A B C:Type}{p q r:A→B→C→Prop}{Q:Prop}(h:∃ a b c,p a b c∧q a b c∧r a b c)(f:∀ a b c,p a b c→q a b c→r a b c→Q):Q:=h.elim fun a h=>h.elim fun b h=>h.elim fun c h=>f a b c h.1 h.2.1 h.2.2
theorem oq34 {A B C:Type}{p q r s:A→B→C→Prop}{Q:Prop}(h:∃ a b c,p a b c∧q a b c∧r a b c∧s a b c)(f:∀ a b c,p a b c→q a b c→r a b c→s a b c→Q):Q:=h.elim fun a h=>h.elim fun b h=>h.elim fun c h=>f a b c h.1 h.2.1 h.2.2.1 h.2.2.2
theorem oq35 {A B C:Type}{p q r s t:A→B→C→Prop}{Q:Prop}(h:∃ a b c,p a b c∧q a b c∧r a b c∧s a b c∧t a b c)(f:∀ a b c,p a b c→q a b c→r a b c→s a b c→t a b c→Q):Q:=h.elim fun a h=>h.elim fun b h=>h.elim fun c h=>f a b c h.1 h.2.1 h.2.2.1 h.2.2.2.1 h.2.2.2.2
theorem oq36 {A B C:Type}{p q r s t u:A→B→C→Prop}{Q:Prop}(h:∃ a b c,p a b c∧q a b c∧r a b c∧s a b c∧t a b c∧u a b c)(f:∀ a b c,p a b c→q a b c→r a b c→s a b c→t a b c→u a b c→Q):Q:=h.elim fun a h=>h.elim fun b h=>h.elim fun c h=>f a b c h.1 h.2.1 h.2.2.1 h.2.2.2.1 h.2.2.2.2.1 h.2.2.2.2.2
theorem oq41 {A B C D:Type}{p:A→B→C→D→Prop}{Q:Prop}(h:∃ a b c d,p a b c d)(f:∀ a b c d,p a b c d→Q):Q:=h.elim fun a h=>h.elim fun b h=>h.elim fun c h=>h.elim fun d h=>f a b c d h
theorem oq42 {A B C D:Type}{p q:A→B→C→D→Prop}{Q:Prop}(h:∃ a b c d,p a b c d∧q a b c d)(f:∀ a b c d,p a b c d→q a b c d→Q):Q:=h.elim fun a h=>h.elim fun b h=>h.elim fun c h=>h.elim fun d h=>f a b c d h.1 h.2
theorem oq43 {A B C D:Type}{p q r:A→B→C→D→Prop}{Q:Prop}(h:∃ a b c d,p a b c d∧q a b c d∧r a b c d)(f:∀ a b c d,p a b c d→q a b c d→r a b c d→Q):Q:=h.elim fun a h=>h.elim fun b h=>h.elim fun c h=>h.elim fun d h=>f a b c d h.1 h.2.1 h.2.2
theorem oq44 {A B C D:Type}{p q r s:A→B→C→D→Prop}{Q:Prop}(h:∃ a b c d,p a b c d∧q a b c d∧r a b c d∧s a b c d)(f:∀ a b c d,p a b c d→q a b c d→r a b c d→s a b c d→Q):Q:=h.elim fun a h=>h.elim fun b h=>h.elim fun c h=>h.elim fun d h=>f a b c d h.1 h.2.1 h.2.2.1 h.2.2.2
theorem oq45 {A B C D:Type}{p q r s t:A→B→C→D→Prop}{Q:Prop}(h:∃ a b c d,p a b c d∧q a b c d∧r a b c d∧s a b c d∧t a b c d)(f:∀ a b c d,p a b c d→q a b c d→r a b c d→s a b c d→t a b c d→Q):Q:=h.elim fun a h=>h.elim fun b h=>h.elim fun c h=>h.elim fun d h=>f a b c d h.1 h.2.1 h.2.2.1 h.2.2.2.1 h.2.2.2.2
theorem oq46 {A B C D:Type}{p q r s t u:A→B→C→D→Prop}{Q:Prop}(h:∃ a b c d,p a b c d∧q a b c d∧r a b c d∧s a b c d∧t a b c d∧u a b c d)(f:∀ a b c d,p a b c d→q a b c d→r a b c d→s a b c d→t a b c d→u a b c d→Q):Q:=h.elim fun a h=>h.elim fun b h=>h.elim fun c h=>h.elim fun d h=>f a b c d h.1 h.2.1 h.2.2.1 h.2.2.2.1 h.2.2.2.2.1 h.2.2.2.2.2
theorem oq48 {A B C D:Type}{p q r s t u v w:A→B→C→D→Prop}{Q:Prop}(h:∃ a b c d,p a b c d∧q a b c d∧r a b c d∧s a b c d∧t a b c d∧u a b c d∧v a b c d∧w a b c d)(f:∀ a b c d,p a b c d→q a b c d→r a b c d→s a b c d→t a b c d→u a b c d→v a b c d→w a b c d→Q):Q:=h.elim fun a h=>h.elim fun b h=>h.elim fun c h=>h.elim fun d h=>f a b c d h.1 h.2.1 h.2.2.1 h.2.2.2.1 h.2.2.2.2.1 h.2.2.2.2.2.1 h.2.2.2.2.2.2.1 h.2.2.2.2.2.2.2
theorem oq56 {A B C D E:Type}{p q r s t u:A→B→C→D→E→Prop}{Q:Prop}(h:∃ a b c d e,p a b c d e∧q a b c d e∧r a b c d e∧s a b c d e∧t a b c d e∧u a b c d e)(f:∀ a b c d e,p a b c d e→q a b c d e→r a b c d e→s a b c d e→t a b c d e→u a b c d e→Q):Q:=h.elim fun a h=>h.elim fun b h=>h.elim fun c h=>h.elim fun d h=>h.elim fun e h=>f a b c d e h.1 h.2.1 h.2.2.1 h.2.2.2.1 h.2.2.2.2.1 h.2.2.2.2.2
theorem oq63 {A B C D E G:Type}{p q r:A→B→C→D→E→G→Prop}{Q:Prop}(h:∃ a b c d e g,p a b c d e g∧q a b c d e g∧r a b c d e g)(f:∀ a b c d e g,p a b c d e g→q a b c d e g→r a b c d e g→Q):Q:=h.elim fun a h=>h.elim fun b h=>h.elim fun c h=>h.elim fun d h=>h.elim fun e h=>h.elim fun g h=>f a b c d e g h.1 h.2.1 h.2.2
theorem oq64 {A B C D E G:Type}{p q r s:A→B→C→D→E→G→Prop}{Q:Prop}(h:∃ a b c d e g,p a b c d e g∧q a b c d e g∧r a b c d e g∧s a b c d e g)(f:∀ a b c d e g,p a b c d e g→q a b c d e g→r a b c d e g→s a b c d e g→Q):Q:=h.elim fun a h=>h.elim fun b h=>h.elim fun c h=>h.elim fun d h=>h.elim fun e h=>h.elim fun g h=>f a b c d e g h.1 h.2.1 h.2.2.1 h.2.2.2
theorem oq65 {A B C D E G:Type}{p q r s t:A→B→C→D→E→G→Prop}{Q:Prop}(h:∃ a b c d e g,p a b c d e g∧q a b c d e g∧r a b c d e g∧s a b c d e g∧t a b c d e g)(f:∀ a b c d e g,p a b c d e g→q a b c d e g→r a b c d e g→s a b c d e g→t a b c d e g→Q):Q:=h.elim fun a h=>h.elim fun b h=>h.elim fun c h=>h.elim fun d h=>h.elim fun e h=>h.elim fun g h=>f a b c d e g h.1 h.2.1 h.2.2.1 h.2.2.2.1 h.2.2.2.2
theorem oq71 {A B C D E G I:Type}{p:A→B→C→D→E→G→I→Prop}{Q:Prop}(h:∃ a b c d e g i,p a b c d e g i)(f:∀ a b c d e g i,p a b c d e g i→Q):Q:=h.elim fun a h=>h.elim fun b h=>h.elim fun c h=>h.elim fun d h=>h.elim fun e h=>h.elim fun g h=>h.elim fun i h=>f a b c d e g i h
theorem oi03 {p q r:Prop}(h0:p)(h1:q)(h2:r):p∧q∧r:=⟨h0,h1,h2⟩
theorem oi04 {p q r s:Prop}(h0:p)(h1:q)(h2:r)(h3:s):p∧q∧r∧s:=⟨h0,h1,h2,h3⟩
theorem oi05 {p q r s t:Prop}(h0:p)(h1:q)(h2:r)(h3:s)(h4:t):p∧q∧r∧s∧t:=⟨h0,h1,h2,h3,h4⟩
theorem oi12 {A:Type}{p q:A→Prop}(a:A)(h0:p a)(h1:q a):∃ a,p a∧q a:=⟨a,h0,h1⟩
theorem oi13 {A:Type}{p q r:A→Prop}(a:A)(h0:p a)(h1:q a)(h2:r a):∃ a,p a∧q a∧r a:=⟨a,h0,h1,h2⟩
theorem oi14 {A:Type}{p q r s:A→Prop}(a:A)(h0:p a)(h1:q a)(h2:r a)(h3:s a):∃ a,p a∧q a∧r a∧s a:=⟨a,h0,h1,h2,h3⟩
theorem oi21 {A B:Type}{p:A→B→Prop}(a:A)(b:B)(h0:p a b):∃ a b,p a b:=⟨a,b,h0⟩
theorem oi22 {A B:Type}{p q:A→B→Prop}(a:A)(b:B)(h0:p a b)(h1:q a b):∃ a b,p a b∧q a b:=⟨a,b,h0,h1⟩
theorem oi23 {A B:Type}{p q r:A→B→Prop}(a:A)(b:B)(h0:p a b)(h1:q a b)(h2:r a b):∃ a b,p a b∧q a b∧r a b:=⟨a,b,h0,h1,h2⟩
theorem oi24 {A B:Type}{p q r s:A→B→Prop}(a:A)(b:B)(h0:p a b)(h1:q a b)(h2:r a b)(h3:s a b):∃ a b,p a b∧q a b∧r a b∧s a b:=⟨a,b,h0,h1,h2,h3⟩
theorem oi25 {A B:Type}{p q r s t:A→B→Prop}(a:A)(b:B)(h0:p a b)(h1:q a b)(h2:r a b)(h3:s a b)(h4:t a b):∃ a b,p a b∧q a b∧r a b∧s a b∧t a b:=⟨a,b,h0,h1,h2,h3,h4⟩
theorem oi31 {A B C:Type}{p:A→B→C→Prop}(a:A)(b:B)(c:C)(h0:p a b c):∃ a b c,p a b c:=⟨a,b,c,h0⟩
theorem oi33 {A B C:Type}{p q r:A→B→C→Prop}(a:A)(b:B)(c:C)(h0:p a b c)(h1:q a b c)(h2:r a b c):∃ a b c,p a b c∧q a b c∧r a b c:=⟨a,b,c,h0,h1,h2⟩
theorem oi34 {A B C:Type}{p q r s:A→B→C→Prop}(a:A)(b:B)(c:C)(h0:p a b c)(h1:q a b c)(h2:r a b c)(h3:s a b c):∃ a b c,p a b c∧q a b c∧r a b c∧s a b c:=⟨a,b,c,h0,h1,h2,h3⟩
theorem oi35 {A B C:Type}{p q r s t:A→B→C→Prop}(a:A)(b:B)(c:C)(h0:p a b c)(h1:q a b c)(h2:r a b c)(h3:s a b c)(h4:t a b c):∃ a b c,p a b c∧q a b c∧r a b c∧s a b c∧t a b c:=⟨a,b,c,h0,h1,h2,h3,h4⟩
theorem oi36 {A B C:Type}{p q r s t u:A→B→C→Prop}(a:A)(b:B)(c:C)(h0:p a b c)(h1:q a b c)(h2:r a b c)(h3:s a b c)(h4:t a b c)(h5:u a b c):∃ a b c,p a b c∧q a b c∧r a b c∧s a b c∧t a b c∧u a b c:=⟨a,b,c,h0,h1,h2,h3,h4,h5⟩
theorem oi41 {A B C D:Type}{p:A→B→C→D→Prop}(a:A)(b:B)(c:C)(d:D)(h0:p a b c d):∃ a b c d,p a b c d:=⟨a,b,c,d,h0⟩
theorem oi45 {A B C D:Type}{p q r s t:A→B→C→D→Prop}(a:A)(b:B)(c:C)(d:D)(h0:p a b c d)(h1:q a b c d)(h2:r a b c d)(h3:s a b c d)(h4:t a b c d):∃ a b c d,p a b c d∧q a b c d∧r a b c d∧s a b c d∧t a b c d:=⟨a,b,c,d,h0,h1,h2,h3,h4⟩
theorem oi51 {A B C D E:Type}{p:A→B→C→D→E→Prop}(a:A)(b:B)(c:C)(d:D)(e:E)(h0:p a b c d e):∃ a b c d e,p a b c d e:=⟨a,b,c,d,e,h0⟩
theorem oi63 {A B C D E G:Type}{p q r:A→B→C→D→E→G→Prop}(a:A)(b:B)(c:C)(d:D)(e:E)(g:G)(h0:p a b c d e g)(h1:q a b c d e g)(h2:r a b c d e g):∃ a b c d e g,p a b c d e g∧q a b c d e g∧r a b c d e g:=⟨a,b,c,d,e,g,h0,h1,h2⟩
theorem oi64 {A B C D E G:Type}{p q r s:A→B→C→D→E→G→Prop}(a:A)(b:B)(c:C)(d:D)(e:E)(g:G)(h0:p a b c d e g)(h1:q a b c d e g)(h2:r a b c d e g)(h3:s a b c d e g):∃ a b c d e g,p a b c d e g∧q a b c d e g∧r a b c d e g∧s a b c d e g:=⟨a,b,c,d,e,g,h0,h1,h2,h3⟩
theorem oi65 {A B C D E G:Type}{p q r s t:A→B→C→D→E→G→Prop}(a:A)(b:B)(c:C)(d:D)(e:E)(g:G)(h0:p a b c d e g)(h1:q a b c d e g)(h2:r a b c d e g)(h3:s a b c d e g)(h4:t a b c d e g):∃ a b c d e g,p a b c d e g∧q a b c d e g∧r a b c d e g∧s a b c d e g∧t a b c d e g:=⟨a,b,c,d,e,g,h0,h1,h2,h3,h4⟩
set_option Elab.async false
set_option linter.all false
set_option maxRecDepth 100000
set_option bootstrap.genMatcherCode false
set_option genSizeOf false
set_option genInjectivity false
noncomputable section
namespace L2
open PySem PySem.Spec PyProof.Rows
noncomputable abbrev Key := Sum Int Str
noncomputable def iJ:Key → Value → Bool
 | .inl k, v => Value.isInt k v
 | .inr x, v => Value.isStrOf x v
noncomputable def keyH (w:World):Key → Int
 | .inl k => hashInt k
 | .inr x => hashStr w x
theorem aW:∀ {k:Key} {v:Value}, iJ k v = true → (∃ i t, k = Sum.inl i ∧ v = Value.int i t) ∨ (∃ x t, k = Sum.inr x ∧ v = Value.str x t)
 | .inl i, v, h => by
  refine oq11 (Value.isInt_shape (k := i) (v := v) h) fun t e => ?_
  exact .inl ⟨i, t, rfl, e⟩
 | .inr x, v, h => by
  refine oq11 (Value.isStrOf_shape (x := x) (v := v) h) fun t e => ?_
  exact .inr ⟨x, t, rfl, e⟩
theorem keyIs_int (i:Int) (t:Tok):iJ (.inl i) (.int i t) = true := by simp [iJ, Value.isInt]
theorem keyIs_str (x:Str) (t:Tok):iJ (.inr x) (.str x t) = true := by simp [iJ, Value.isStrOf]
theorem key_ll (a b:Int):decide ((Sum.inl a:Key) = Sum.inl b) = (a == b) := by
 by_cases e:a = b
 ·subst e; simp
 ·have h:¬ (Sum.inl a:Key) = Sum.inl b := fun q => e (Sum.inl.inj q)
  rw [decide_eq_false h]
  exact (beq_eq_false_iff_ne.mpr e).symm
theorem key_rr (a b:Str):decide ((Sum.inr a:Key) = Sum.inr b) = decide (a = b) := by
 by_cases e:a = b
 ·subst e; simp
 ·have h:¬ (Sum.inr a:Key) = Sum.inr b := fun q => e (Sum.inr.inj q)
  rw [decide_eq_false h, decide_eq_false e]
theorem key_lr (a:Int) (b:Str):decide ((Sum.inl a:Key) = Sum.inr b) = false := decide_eq_false (fun q => nomatch q)
theorem key_rl (a:Str) (b:Int):decide ((Sum.inr a:Key) = Sum.inl b) = false := decide_eq_false (fun q => nomatch q)
noncomputable def b7 (prog:Program) (w:World):PySem.KeyKind prog w Key where
 is := iJ
 hash := keyH w
 inj := fun v a b ha hb => by
  rcases aW ha with ⟨i, t, rfl, rfl⟩ | ⟨x, t, rfl, rfl⟩
  ·rcases aW hb with ⟨j, u, rfl, e⟩ | ⟨y, u, rfl, e⟩
   ·injection e with e1 _; rw [e1]
   ·exact nomatch e
  ·rcases aW hb with ⟨j, u, rfl, e⟩ | ⟨y, u, rfl, e⟩
   ·exact nomatch e
   ·injection e with e1 _; rw [e1]
 byValue := fun k v h => by
  rcases aW h with ⟨i, t, rfl, rfl⟩ | ⟨x, t, rfl, rfl⟩ <;> rfl
 pyHash := fun hv h => by
  rcases aW hv with ⟨i, t, rfl, rfl⟩ | ⟨x, t, rfl, rfl⟩
  ·exact wpAny_pyHash_int h
  ·exact wpAny_pyHash_str h
 eqBool := fun hu hv h => by
  rcases aW hu with ⟨i, t, rfl, rfl⟩ | ⟨x, t, rfl, rfl⟩
  ·rcases aW hv with ⟨j, u, rfl, rfl⟩ | ⟨y, u, rfl, rfl⟩
   ·rw [key_ll] at h; exact wpAny_eqBool_int h
   ·rw [key_lr] at h; exact SeqAt.EqAt.int_str i t y u _ _ _ _ h
  ·rcases aW hv with ⟨j, u, rfl, rfl⟩ | ⟨y, u, rfl, rfl⟩
   ·rw [key_rl] at h; exact SeqAt.EqAt.str_int x t j u _ _ _ _ h
   ·rw [key_rr] at h; exact wpAny_eqBool_str h
 «strs» := fun k x t v h => by
  rcases aW h with ⟨i, u, rfl, e⟩ | ⟨y, u, rfl, e⟩
  ·exact nomatch e
  ·injection e with e1 _
   subst e1
   cases v <;> rfl
theorem jY (prog:Program) (w:World) (i:Int) (t:Tok):(b7 prog w).is (.inl i) (.int i t) = true := keyIs_int i t
theorem jZ (prog:Program) (w:World) (x:Str) (t:Tok):(b7 prog w).is (.inr x) (.str x t) = true := keyIs_str x t
end L2
namespace L2
open PySem PySem.Spec PyProof.Rows
set_option genInjectivity true in
inductive V where
 | non | bl (b:Bool) | int (i:Int) | str (x:Str) | byt (b:Array UInt8) | flt (b:UInt64) | ref (a:Addr) | ty (n:String)
 deriving DecidableEq
noncomputable def RelV:V → Value → Prop
 | .non, u => u = Value.none
 | .bl b, u => u = Value.bool b
 | .int i, u => ∃ t, u = Value.int i t
 | .str x, u => ∃ t, u = Value.str x t
 | .byt b, u => ∃ t, u = Value.bytes b t
 | .flt b, u => ∃ t, u = Value.float b t
 | .ref a, u => u = Value.ref a
 | .ty n, u => u = Value.type n
noncomputable abbrev Vals:List V → List Value → Prop := Paired RelV
theorem Vals.length {xs:List V} {us:List Value} (r:Vals xs us):xs.length = us.length := Paired.length r
theorem Vals.get:∀ {xs:List V} {us:List Value} {i:Nat} {x:V}, Vals xs us → xs[i]? = some x → ∃ u, us[i]? = some u ∧ RelV x u
 | _, _, _, _, .nil, e => by simp at e
 | _, _, 0, _, .cons r _, e => by simp at e; subst e; exact ⟨_, rfl, r⟩
 | _, _, i + 1, x, .cons _ t, e => by
  refine oq12 (Vals.get (i := i) (x := x) t (by simpa using e)) fun u h1 h2 => ?_
  exact ⟨u, by simpa using h1, h2⟩
theorem Vals.append:∀ {xs ys:List V} {us ws:List Value}, Vals xs us → Vals ys ws → Vals (xs ++ ys) (us ++ ws)
 | _, _, _, _, .nil, s => s
 | _, _, _, _, .cons r t, s => .cons r (Vals.append t s)
theorem Vals.take:∀ {xs:List V} {us:List Value} (n:Nat), Vals xs us → Vals (xs.take n) (us.take n)
 | _, _, 0, _ => .nil
 | _, _, _ + 1, .nil => .nil
 | _, _, n + 1, .cons r t => .cons r (Vals.take n t)
theorem Vals.drop:∀ {xs:List V} {us:List Value} (n:Nat), Vals xs us → Vals (xs.drop n) (us.drop n)
 | _, _, 0, r => r
 | _, _, _ + 1, .nil => .nil
 | _, _, n + 1, .cons _ t => Vals.drop n t
noncomputable def RelO:Option V → Option Value → Prop
 | some v, some u => RelV v u
 | none, none => True
 | _, _ => False
noncomputable def KV {κ:Type}:List (κ × V) → List (κ × Value) → Prop := Paired fun (p:κ × V) (q:κ × Value) => p.1 = q.1 ∧ RelV p.2 q.2
noncomputable def kV:Key → V
 | .inl i => .int i
 | .inr x => .str x
inductive HO where
 | lst (xs:List V)
 | tup (xs:List V)
 | dK (kvs:List (Key × V)) | dT (kvs:List (List Key × V))
 | set (S:Int → Bool) (n:Nat)
 | ins (C dx:Addr) (fs:List (Str × V))
 | own (x:Addr)
 | xd (fs:List (Str × V))
 | met (f x:Addr)
 | rng (lo hi:Int)
 | frz (o:Obj) (u:HO)
 | tbl (ps:Array Value)
 | ext (φ:Heap → Prop)
noncomputable abbrev Hp := Addr → Option HO
noncomputable def upd (H:Hp) (a:Addr) (o:HO):Hp := fun b => if b = a then some o else H b
theorem ai {H:Hp} {a:Addr} {o:HO}:upd H a o a = some o := by unfold upd; rw [if_pos rfl]
theorem ac {H:Hp} {a b:Addr} {o:HO} (h:b ≠ a):upd H a o b = H b := by unfold upd; rw [if_neg h]
theorem ne_of {H:Hp} {a b:Addr} {o u:HO} (h:H a = some o) (h':H b = some u) (d:o ≠ u):a ≠ b := by
 intro e; subst e; rw [h] at h'; exact d (Option.some.inj h')
theorem ao {H:Hp} {a b:Addr} {o:HO} (h:H a = some o) (h':H b = none):a ≠ b := by
 intro e; subst e; rw [h] at h'; cases h'
section
variable (P:Program) (w:World)
noncomputable def aG (H:Hp) (h:Heap) (a:Addr):HO → Prop
 | .lst xs => xs.length ≤ sizeLine ∧ ∃ (its:List Value) (n:Nat), Vals xs its ∧ h.get? a = some { cls := .type "list", data := .seq its.toArray n }
 | .tup xs => xs.length ≤ sizeLine ∧ ∃ its:List Value, Vals xs its ∧ IsTup h a its.toArray
 | .dK kvs => kvs.length ≤ sizeLine ∧ (a == sysModules) = false ∧ ∃ vs, KV kvs vs ∧ h.DictOf (b7 P w) a vs
 | .dT kvs => kvs.length ≤ sizeLine ∧ (a == sysModules) = false ∧ ∃ xs:List (List Key × Addr × Value),
   Paired (fun (p:List Key × V) (q:List Key × Addr × Value) => p.1 = q.1 ∧ H q.2.1 = some (.tup (p.1.map kV)) ∧ RelV p.2 q.2.2) kvs xs ∧
   ∃ o es ep, h.get? a = some o ∧ o.ExactDict ∧ o.data = .dict es ep ∧ es.toList = xs.map (entryOfKey (tupleKind (b7 P w))) ∧ (xs.map (·.1)).Nodup
 | .set S n => h.SetOf (intKind P w) a S n
 | .ins C dx fs => H dx = some (.own a) ∧ fs.length ≤ 1000 ∧ dx ≠ a ∧ h.get? a = some (PySem.W.instObj C dx) ∧
   ∃ mA, h.Ns1 dx mA ∧ (∀ f, RelO (fs.lookup f) (mA f)) ∧ PySem.Within mA (fs.map (·.1))
 | .own _ => ∃ o, h.get? a = some o
 | .xd fs => ∃ mA, h.Ns1 a mA ∧ ∀ f, RelO (fs.lookup f) (mA f)
 | .rng lo hi => ∃ t u v, h.get? a = some { cls := .type "range", data := .fields #[.int lo t, .int hi u, .int 1 v] }
 | .frz o u => h.get? a = some o ∧ aG H h a u
 | .tbl ps => h.get? a = some { cls := .none, data := .fields ps }
 | .met f x => h.get? a = some (PySem.W.methodObj (.ref f) (.ref x))
 | .ext φ => φ h ∧ (∃ o, h.get? a = some o) ∧ ∀ h1 h2:Heap, φ h1 → (∀ o, h1.get? a = some o → h2.get? a = some o) → φ h2
noncomputable def HOk (H:Hp) (h:Heap):Prop := ∀ a o, H a = some o → aG P w H h a o
end
section
variable {P:Program} {w:World} {H H':Hp} {h h':Heap} {a:Addr} {o:HO}
theorem aG.lt (x:aG P w H h a o):a < h.objs.size := by
 cases o with
 | lst xs => refine oq02 x fun _ zz => oq22 zz fun _ _ _ e => ?_; exact Heap.lt_size e
 | tup xs => refine oq02 x fun _ zz => oq12 zz fun _ _ p => ?_; exact p.lt
 | dK kvs => refine oq03 x fun _ _ zz => oq12 zz fun _ _ zz => oq32 zz fun o _ _ e _ => ?_; exact Heap.lt_size e
 | dT kvs => refine oq03 x fun _ _ zz => oq12 zz fun _ _ zz => oq32 zz fun o _ _ e _ => ?_; exact Heap.lt_size e
 | set S n => refine oq42 x fun o _ _ _ e _ => ?_; exact Heap.lt_size e
 | ins C dx fs => refine oq05 x fun _ _ _ e _ => ?_; exact Heap.lt_size e
 | own y => refine oq11 x fun _ e => ?_; exact Heap.lt_size e
 | xd fs => obtain ⟨_, ⟨_, _, _, e, _⟩, _⟩ := x; exact Heap.lt_size e
 | rng lo hi => refine oq31 x fun _ _ _ e => ?_; exact Heap.lt_size e
 | frz ob u => refine oq02 x fun e _ => ?_; exact Heap.lt_size e
 | tbl ps => exact Heap.lt_size (show h.get? a = some _ from x)
 | met f y => exact Heap.lt_size (show h.get? a = some _ from x)
 | ext φ => obtain ⟨_, ⟨_, e⟩, _⟩ := x; exact Heap.lt_size e
theorem Paired.mapP {α β:Type} {F G:α → β → Prop}:∀ {l₁:List α} {l₂:List β}, Paired F l₁ l₂ → (∀ a b, F a b → G a b) → Paired G l₁ l₂
 | _, _, .nil, _ => .nil
 | _, _, .cons r t, f => .cons (f _ _ r) (Paired.mapP t f)
theorem aG.stay (x:aG P w H h a o) (k:∀ b u, (b = a ∨ H b = some (.own a)) → h.get? b = some u → h'.get? b = some u)
  (ho:∀ b, H b = some (.own a) → H' b = some (.own a)) (ht:∀ b xs, H b = some (.tup xs) → H' b = some (.tup xs)):aG P w H' h' a o := by
 induction o with
 | lst xs => refine oq02 x fun z zz => oq22 zz fun its n r e => ?_; exact ⟨z, its, n, r, k _ _ (.inl rfl) e⟩
 | tup xs => refine oq02 x fun z zz => oq12 zz fun its r zz => oq12 zz fun ob e c => ?_; exact ⟨z, its, r, ob, k _ _ (.inl rfl) e, c⟩
 | dK kvs => refine oq03 x fun z y zz => oq12 zz fun vs r zz => oq32 zz fun ob es ep e c => ?_; exact ⟨z, y, vs, r, ob, es, ep, k _ _ (.inl rfl) e, c⟩
 | dT kvs =>
  refine oq03 x fun z y zz => oq12 zz fun xs r zz => oq32 zz fun ob es ep e c => ?_
  exact ⟨z, y, xs, Paired.mapP r fun p q z => ⟨z.1, ht _ _ z.2.1, z.2.2⟩, ob, es, ep, k _ _ (.inl rfl) e, c⟩
 | set S n => refine oq42 x fun ob es ep t e c => ?_; exact ⟨ob, es, ep, t, k _ _ (.inl rfl) e, c⟩
 | ins C dx fs =>
  obtain ⟨d, z, ne, e, mA, ⟨od, es, ep, e2, c⟩, r⟩ := x
  exact ⟨ho _ d, z, ne, k _ _ (.inl rfl) e, mA, ⟨od, es, ep, k _ _ (.inr d) e2, c⟩, r⟩
 | own y => refine oq11 x fun ob e => ?_; exact ⟨ob, k _ _ (.inl rfl) e⟩
 | xd fs => obtain ⟨mA, ⟨od, es, ep, e, c⟩, r⟩ := x; exact ⟨mA, ⟨od, es, ep, k _ _ (.inl rfl) e, c⟩, r⟩
 | rng lo hi => refine oq31 x fun t u v e => ?_; exact ⟨t, u, v, k _ _ (.inl rfl) e⟩
 | frz ob u ih => refine oq02 x fun e q => ?_; exact ⟨k _ _ (.inl rfl) e, ih q⟩
 | tbl ps =>
  have e:h.get? a = some { cls := .none, data := .fields ps } := x
  show h'.get? a = some { cls := .none, data := .fields ps }
  exact k a _ (.inl rfl) e
 | met f y =>
  have e:h.get? a = some (PySem.W.methodObj (.ref f) (.ref y)) := x
  show h'.get? a = some (PySem.W.methodObj (.ref f) (.ref y))
  exact k a _ (.inl rfl) e
 | ext φ => obtain ⟨p, ⟨o, e⟩, st⟩ := x; exact ⟨st _ _ p fun o q => k _ _ (.inl rfl) q, ⟨o, k _ _ (.inl rfl) e⟩, st⟩
theorem HOk.lt (x:HOk P w H h) (e:H a = some o):a < h.objs.size := (x a o e).lt
theorem HOk.fresh (x:HOk P w H h) (e:h.objs.size ≤ a):H a = none := by
 cases q:H a with
 | none => rfl
 | some u => exact absurd (nz1 (x.lt q) e) (Nat.lt_irrefl _)
theorem HOk.kept (x:HOk P w H h) (k:∀ b u, h.get? b = some u → h'.get? b = some u):HOk P w H h' := fun a o e =>
 (x a o e).stay (fun b u _ q => k b u q) (fun _ q => q) fun _ _ q => q
theorem HOk.laid (x:HOk P w H h) (k:∀ b u, h.get? b = some u → h'.get? b = some u) (hp:h.objs.size ≤ a) (new:aG P w (upd H a o) h' a o):HOk P w (upd H a o) h' := fun b u e => by
 have hn := x.fresh hp
 by_cases hb:b = a
 ·subst hb; rw [ai] at e; cases e; exact new
 ·rw [ac hb] at e
  exact (x b u e).stay (fun c v _ q => k c v q) (fun c q => by rw [ac (ao q hn)]; exact q) fun c xs q => by rw [ac (ao q hn)]; exact q
end
noncomputable def Rd (H:Hp) (a:Addr) (u:HO):Prop := H a = some u ∨ ∃ o, H a = some (.frz o u)
theorem Rd.of {H:Hp} {a:Addr} {u:HO} (h:H a = some u):Rd H a u := .inl h
theorem Rd.ok {P:Program} {w:World} {H:Hp} {h:Heap} {a:Addr} {u:HO} (r:Rd H a u) (x:HOk P w H h):aG P w H h a u := by
 rcases r with r | ⟨o, r⟩
 ·exact x a u r
 ·refine oq02 (x a _ r) fun _ q => ?_
  exact q
noncomputable def Mut:Option HO → Prop
 | some (.lst _) => True
 | some (.dK _) => True
 | some (.dT _) => True
 | some (.set _ _) => True
 | some (.ins _ _ _) => True
 | some (.ext _) => True
 | _ => False
section
variable {P:Program} {w:World} {H:Hp} {h h':Heap} {x e:Addr} {o':HO}
theorem HOk.write (ok:HOk P w H h) (mu:Mut (H x)) (he:e = x ∨ H e = some (.own x)) (k:∀ b u, b ≠ e → h.get? b = some u → h'.get? b = some u) (heo:∃ u, h'.get? e = some u)
  (new:aG P w (upd H x o') h' x o'):HOk P w (upd H x o') h' := fun b u q => by
 have nown:∀ c y, H c = some (.own y) → c ≠ x := fun c y r z => by subst z; rw [r] at mu; exact mu
 have ntup:∀ c xs, H c = some (.tup xs) → c ≠ x := fun c xs r z => by subst z; rw [r] at mu; exact mu
 by_cases hb:b = x
 ·subst hb; rw [ai] at q; cases q; exact new
 ·rw [ac hb] at q
  by_cases hbe:b = e
  ·have q':H b = some (.own x) := by
    rcases he with z | z
    ·exact absurd (hbe.trans z) hb
    ·rw [hbe]; exact z
   rw [q] at q'; cases q'
   refine oq11 heo fun v hv => ?_
   exact ⟨v, by rw [hbe]; exact hv⟩
  ·refine (ok b u q).stay (fun c v hc r => k c v ?_ r) (fun c r => by rw [ac (nown c b r)]; exact r) fun c xs r => by rw [ac (ntup c xs r)]; exact r
   rcases hc with rfl | hc
   ·exact hbe
   ·rintro rfl
    rcases he with z | z
    ·exact nown c b hc z
    ·rw [hc] at z; cases z; exact hb rfl
end
structure Un (fs ex:List Addr) (H H':Hp) (h h':Heap):Prop where
 keep:∀ b o, h.get? b = some o → H b = none → b ∉ fs → b ∉ ex → h'.get? b = some o
 slot:∀ b o, h.get? b = some o → H b = none → b ∈ fs → b ∉ ex → ∃ sl, h'.get? b = some { o with slots := sl }
 free:∀ b o, h.get? b = some o → H b = none → b ∉ ex → H' b = none
 there:∀ b o, h.get? b = some o → b ∉ ex → ∃ o', h'.get? b = some o'
 tups:∀ b xs, H b = some (.tup xs) → H' b = some (.tup xs)
 frzs:∀ b o u, H b = some (.frz o u) → H' b = some (.frz o u)
 tbls:∀ b ps, H b = some (.tbl ps) → ∃ more, H' b = some (.tbl (ps ++ more))
section
variable {fs fs' ex ex':List Addr} {H H1 H2:Hp} {h h1 h2 h':Heap} {a x e:Addr} {o:HO}
theorem Un.any (u:Un fs ex H H1 h h1) {b:Addr} {ob:Obj} (q:h.get? b = some ob) (n:H b = none) (hx:b ∉ ex):∃ sl, h1.get? b = some { ob with slots := sl } := by
 by_cases hb:b ∈ fs
 ·exact u.slot b ob q n hb hx
 ·exact ⟨ob.slots, u.keep b ob q n hb hx⟩
theorem Un.kept (k:∀ b u, h.get? b = some u → h'.get? b = some u):Un fs ex H H h h' :=
 ⟨fun b ob q _ _ _ => k b ob q, fun b ob q _ _ _ => ⟨ob.slots, k b ob q⟩, fun _ _ _ n _ => n, fun b ob q _ => ⟨ob, k b ob q⟩, fun _ _ q => q, fun _ _ _ q => q, fun _ ps q => ⟨#[], by rw [q]; simp⟩⟩
theorem Un.refl:Un fs ex H H h h := Un.kept fun _ _ q => q
theorem Un.laid (k:∀ b u, h.get? b = some u → h'.get? b = some u) (hp:h.objs.size ≤ a) (hn:H a = none):Un fs ex H (upd H a o) h h' where
 keep := fun b u q _ _ _ => k b u q
 slot := fun b u q _ _ _ => ⟨u.slots, k b u q⟩
 free := fun b u q n _ => by rw [ac (nz7 (nz1 (Heap.lt_size q) hp))]; exact n
 there := fun b u q _ => ⟨u, k b u q⟩
 tups := fun b xs q => by rw [ac (ao q hn)]; exact q
 frzs := fun b u xs q => by rw [ac (ao q hn)]; exact q
 tbls := fun b ps q => ⟨#[], by rw [ac (ao q hn), q]; simp⟩
theorem Un.write (mu:Mut (H x)) (he:e = x ∨ H e = some (.own x)) (k:∀ b u, b ≠ e → h.get? b = some u → h'.get? b = some u) (heo:∃ u, h'.get? e = some u):Un fs ex H (upd H x o) h h' := by
 have hx:∀ b, H b = none → b ≠ x := fun b n z => by subst z; rw [n] at mu; exact mu
 have hb:∀ b, H b = none → b ≠ e := fun b n z => by
  subst z
  rcases he with r | r
  ·exact hx b n r
  ·rw [n] at r; cases r
 have hm:∀ b u, H b = some u → ¬ Mut (some u) → b ≠ x := fun b u q nm z => by subst z; rw [q] at mu; exact nm mu
 refine ⟨fun b u q n _ _ => k b u (hb b n) q, fun b u q n _ _ => ⟨u.slots, k b u (hb b n) q⟩, fun b u q n _ => by rw [ac (hx b n)]; exact n, fun b u q _ => ?_,
  fun b xs q => by rw [ac (hm b _ q fun z => z)]; exact q, fun b u xs q => by rw [ac (hm b _ q fun z => z)]; exact q, fun b ps q => ⟨#[], by rw [ac (hm b _ q fun z => z), q]; simp⟩⟩
 by_cases hbe:b = e
 ·subst hbe; exact heo
 ·exact ⟨u, k b u hbe q⟩
end
noncomputable def trk (h:Heap) (H:Hp):List Addr := (List.range h.objs.size).filter fun a => (H a).isSome
noncomputable def hidT (h:Heap) (H:Hp):Heap := PySem.W.hideAll h (trk h H)
theorem hidT_size (h:Heap) (H:Hp):(hidT h H).objs.size = h.objs.size := PySem.W.hideAll_size _ _
theorem gD {h:Heap} {H:Hp} {b:Addr} {o:Obj} (e:h.get? b = some o) (n:H b = none):(hidT h H).get? b = some o :=
 PySem.W.hideAll_get _ e fun hm => by
  have q:(H b).isSome = true := (List.mem_filter.mp hm).2
  rw [n] at q; simp at q
theorem of_hidT {h:Heap} {H:Hp} {b:Addr} {o:Obj} (e:(hidT h H).get? b = some o):h.get? b = some o ∧ H b = none := by
 have e':h.get? b = some o := PySem.W.of_hideAll (trk h H) e
 refine ⟨e', ?_⟩
 cases q:H b with
 | none => rfl
 | some x =>
  have hm:b ∈ trk h H := List.mem_filter.mpr ⟨List.mem_range.mpr (Heap.lt_size e'), by simp [q]⟩
  have z:(hidT h H).get? b = none := PySem.W.hideAll_none (trk h H) hm
  rw [z] at e; cases e
end L2
namespace L2
open PySem PySem.Spec PyProof.Rows
structure Mod (K:PySem.W.Frag) (mg:Str → Option Value) (base:Heap):Prop where
 kin:K.In base
 glob:base.Ns mainGlobals mg
 blt:∃ mb, base.Ns builtinsNs mb ∧ ∀ x:Str, x ≠ "__name__" → mb x = bootBuiltins x
 nolimit:base.NoLimit
structure Cx where
 prog:Program
 w:World
 K:PySem.W.Frag
 mg:Str → Option Value
 base:Heap
 A:Around
 N:List Str
 s₀:Shared
 H₀:Hp
 env:Env
 outer:List Env
 stack:List Env
 ex:List Addr
 fn:Str → Bool
 calm:Bool
 pn:List (Addr × Obj)
 xe:Value → Shared → Prop
noncomputable def frs (l:List Env):List Addr := l.filterMap (·.frame)
noncomputable abbrev Cx.fs (X:Cx):List Addr := frs X.outer
noncomputable def Vis (sc:Scope) (x:Str):Prop := sc.names.lookup x = some .local ∨ sc.names.lookup x = some .cell ∨ sc.names.lookup x = some .free
noncomputable def Loc (sc:Scope) (x:Str):Prop := sc.names.lookup x = some .local ∨ sc.names.lookup x = some .cell
noncomputable def Look (env:Env) (h:Heap) (m:Str → Option Value) (x:Str) (u:Value):Prop :=
 (env.kindOf x = some .local ∧ m x = some u) ∨ ((env.kindOf x = some .cell ∨ env.kindOf x = some .free) ∧ ∃ c, env.cells.lookup x = some c ∧ h.IsCell c (some u))
structure Cx.Ok (X:Cx):Prop where
 mod:Mod X.K X.mg X.base
 kind:X.env.scope.kind = .function
 glob:X.env.globals = mainGlobals
 blt:X.env.builtins = builtinsNs
 above:X.s₀.heap.objs.size ≤ X.env.locals
 inj:∀ x y c, X.env.cells.lookup x = some c → X.env.cells.lookup y = some c → x = y
 has:∀ x, (X.env.kindOf x = some .cell ∨ X.env.kindOf x = some .free) → ∃ c, X.env.cells.lookup x = some c
 cab:∀ x c, X.fn x = true → X.env.cells.lookup x = some c → X.s₀.heap.objs.size ≤ c
 hd:X.calm = true → X.A.handled = none
 frames:X.A.frames = some X.stack
 stk:X.stack = X.outer ∨ (X.stack = X.env :: X.outer ∧ X.env.frame = some X.env.locals)
 exf:∀ b ∈ X.ex, b ≠ X.env.locals ∧ ∀ x c, X.env.cells.lookup x = some c → c ≠ b
 bs:∀ b o, X.base.get? b = some o → X.s₀.heap.get? b = some o ∧ X.H₀ b = none
 bsz:X.base.objs.size ≤ X.s₀.heap.objs.size
 noex:∀ b o, X.base.get? b = some o → b ∉ X.ex
 exfs:∀ b ∈ X.ex, b ∉ X.fs
 funs:X.s₀.heap.FunFrames X.base X.outer
 frf:∀ b ∈ X.fs, X.H₀ b = none
structure Inv (X:Cx) (pins:List (Addr × Obj)) (σ:List (Option V)) (H:Hp) (s:Shared):Prop where
 ok:X.Ok
 os:s.os = X.s₀.os
 bare:AllBare s.gens
 base:Un X.fs X.ex X.H₀ H X.s₀.heap s.heap
 loc:∃ m, s.heap.Ns X.env.locals m ∧ ∀ (i:Nat) (x:Str) (v:V), X.N[i]? = some x → σ[i]? = some (some v) → Vis X.env.scope x → ∃ u, RelV v u ∧ Look X.env s.heap m x u
 cell:∀ x c, X.env.cells.lookup x = some c → ∃ v, s.heap.IsCell c v
 free:H X.env.locals = none
 freeC:∀ x c, X.env.cells.lookup x = some c → H c = none
 pin:∀ p ∈ X.pn ++ pins, s.heap.get? p.1 = some p.2 ∧ H p.1 = none ∧ p.1 ≠ X.env.locals ∧ p.1 ∉ X.fs ∧ ∀ v, p.2.data ≠ .cell v
 hok:HOk X.prog X.w H s.heap
 len:σ.length = X.N.length
section
variable {X:Cx} {pins:List (Addr × Obj)} {σ:List (Option V)} {H H':Hp} {s:Shared} {h':Heap}
theorem Cx.Ok.nofr (ok:X.Ok) {b:Addr} {o:Obj} (e:X.base.get? b = some o):b ∉ X.fs := fun hb => by
 have := (ok.funs.mem hb).1
 rw [e] at this; cases this
theorem Inv.bs (I:Inv X pins σ H s):∀ b o, X.base.get? b = some o → s.heap.get? b = some o ∧ H b = none := fun b o e =>
 ⟨I.base.keep b o (I.ok.bs b o e).1 (I.ok.bs b o e).2 (I.ok.nofr e) (I.ok.noex b o e), I.base.free b o (I.ok.bs b o e).1 (I.ok.bs b o e).2 (I.ok.noex b o e)⟩
theorem Inv.bk (I:Inv X pins σ H s):∀ b o, X.base.get? b = some o → s.heap.get? b = some o := fun b o e => (I.bs b o e).1
theorem Inv.mod (I:Inv X pins σ H s):Mod X.K X.mg X.base := I.ok.mod
theorem Inv.kIn (I:Inv X pins σ H s):X.K.In s.heap := I.ok.mod.kin.keeps I.bk
theorem Inv.nolimit (I:Inv X pins σ H s):s.heap.NoLimit := I.ok.mod.nolimit.keeps I.bk
theorem Inv.lt (I:Inv X pins σ H s):X.env.locals < s.heap.objs.size := oq12 I.loc fun _ hn _ => hn.lt
theorem Inv.sz (I:Inv X pins σ H s):X.s₀.heap.objs.size ≤ s.heap.objs.size := nz4 I.ok.above (nz5 I.lt)
theorem Inv.nofs (I:Inv X pins σ H s) {a:Addr} (h:s.heap.objs.size ≤ a):a ∉ X.fs := fun hb => by
 refine oq02 (I.ok.funs.mem hb) fun _ zz => oq12 zz fun o ho _ => ?_
 exact absurd (nz1 (Heap.lt_size ho) (nz4 I.sz h)) (Nat.lt_irrefl _)
theorem Inv.cne (I:Inv X pins σ H s):∀ x c, X.env.cells.lookup x = some c → c ≠ X.env.locals := fun x c e z => by
 refine oq22 (I.cell x c e) fun v o ho hd => ?_
 obtain ⟨m, ⟨o', es, ep, ho', hd', _⟩, _⟩ := I.loc
 rw [z, ho'] at ho; cases ho; rw [hd'] at hd; cases hd
theorem Inv.funs (I:Inv X pins σ H s):s.heap.FunFrames X.base X.outer := by
 have all:∀ (l:List Env), (∀ b ∈ frs l, b ∈ X.fs) → X.s₀.heap.FunFrames X.base l → s.heap.FunFrames X.base l := by
  intro l
  induction l with
  | nil => intro _ _; trivial
  | cons env r ih =>
   intro hs hl
   obtain ⟨hk, ⟨L, o, hf, hn, ho, hd⟩, hr⟩ := hl
   have hL:L ∈ X.fs := hs L (by unfold frs; rw [List.filterMap_cons, hf]; exact List.mem_cons_self)
   refine oq11 (I.base.slot L o ho (I.ok.frf L hL) hL fun z => I.ok.exfs L z hL) fun sl e => ?_
   exact ⟨hk, ⟨L, _, hf, hn, e, hd⟩, ih (fun b hb => hs b (by unfold frs; rw [List.filterMap_cons, hf]; exact List.mem_cons_of_mem _ hb)) hr⟩
 exact all X.outer (fun _ hb => hb) I.ok.funs
theorem Inv.stack (I:Inv X pins σ H s):s.heap.FunFrames X.base X.stack := by
 rcases I.ok.stk with e | ⟨e, hf⟩
 ·rw [e]; exact I.funs
 ·rw [e]
  refine oq12 I.loc fun m hn _ => ?_
  refine .cons (by rw [I.ok.kind]; decide) hf hn ?_ I.funs
  exact Heap.get?_none_of_le (nz4 I.ok.bsz I.ok.above)
theorem Inv.stkSub (I:Inv X pins σ H s):∀ b ∈ frs X.stack, b ∈ X.env.locals :: X.fs := fun b hb => by
 rcases I.ok.stk with e | ⟨e, hf⟩
 ·rw [e] at hb; exact List.mem_cons_of_mem _ hb
 ·rw [e] at hb
  unfold frs at hb
  rw [List.filterMap_cons, hf] at hb
  exact hb
theorem Inv.stkFree (I:Inv X pins σ H s):∀ b ∈ frs X.stack, H b = none := fun b hb => by
 rcases List.mem_cons.mp (I.stkSub b hb) with e | hb
 ·rw [e]; exact I.free
 ·refine oq02 (I.ok.funs.mem hb) fun _ zz => oq12 zz fun o ho _ => ?_
  exact I.base.free b o ho (I.ok.frf b hb) fun z => I.ok.exfs b z hb
theorem Inv.step {g':Array GenState} {t':Nat} {d':Drawn} {ch:List Addr} (I:Inv X pins σ H s)
  (hch:∀ b ∈ ch, (b ∈ X.ex ∨ X.s₀.heap.objs.size ≤ b) ∧ b ≠ X.env.locals ∧ (∀ x c, X.env.cells.lookup x = some c → c ≠ b) ∧ ∀ p ∈ X.pn ++ pins, p.1 ≠ b)
  (keep:∀ b o, b ≠ X.env.locals → b ∉ X.fs → b ∉ ch → s.heap.get? b = some o → H b = none → h'.get? b = some o)
  (slot:∀ b o, b ≠ X.env.locals → b ∈ X.fs → b ∉ ch → s.heap.get? b = some o → H b = none → ∃ sl, h'.get? b = some { o with slots := sl }) (free:∀ b o, b ∉ ch → s.heap.get? b = some o → H b = none → H' b = none)
  (there:∀ b o, b ∉ ch → s.heap.get? b = some o → ∃ o', h'.get? b = some o')
  (tups:∀ b xs, H b = some (.tup xs) → H' b = some (.tup xs)) (frzs:∀ b o u, H b = some (.frz o u) → H' b = some (.frz o u)) (tbls:∀ b ps, H b = some (.tbl ps) → ∃ more, H' b = some (.tbl (ps ++ more)))
  (ns:∀ m, s.heap.Ns X.env.locals m → h'.Ns X.env.locals m) (hok:HOk X.prog X.w H' h') (hg:AllBare g') :
  Inv X pins σ H' { s with heap := h', gens := g', drawn := d', toks := t' } := by
 have neL:∀ b o, X.s₀.heap.get? b = some o → b ≠ X.env.locals := fun b o e => nz7 (nz1 (Heap.lt_size e) I.ok.above)
 have neC:∀ b o, X.s₀.heap.get? b = some o → b ∉ X.ex → b ∉ ch := fun b o e hx hb => by
  rcases (hch b hb).1 with z | z
  ·exact hx z
  ·exact absurd (nz1 (Heap.lt_size e) z) (Nat.lt_irrefl _)
 have cellK:∀ x c, X.env.cells.lookup x = some c → ∀ v, s.heap.IsCell c v → h'.IsCell c v := fun x c e v zq => oq12 zq fun o ho hd => by
  have nch:c ∉ ch := fun z => (hch c z).2.2.1 x c e rfl
  by_cases hc:c ∈ X.fs
  ·refine oq11 (slot c o (I.cne x c e) hc nch ho (I.freeC x c e)) fun sl q => ?_
   exact ⟨_, q, hd⟩
  ·exact ⟨o, keep c o (I.cne x c e) hc nch ho (I.freeC x c e), hd⟩
 refine ⟨I.ok, I.os, hg, ⟨fun b o e n hb hx => ?_, fun b o e n hb hx => ?_, fun b o e n hx => ?_, fun b o e hx => ?_, fun b xs e => tups b xs (I.base.tups b xs e), fun b o xs e => frzs b o xs (I.base.frzs b o xs e), fun b ps e => ?_⟩, ?_, fun x c e => ?_, ?_, fun x c e => ?_, fun p hp => ?_, hok, I.len⟩
 ·exact keep b o (neL b o e) hb (neC b o e hx) (I.base.keep b o e n hb hx) (I.base.free b o e n hx)
 ·refine oq11 (I.base.slot b o e n hb hx) fun sl e1 => ?_
  refine oq11 (slot b _ (neL b o e) hb (neC b o e hx) e1 (I.base.free b o e n hx)) fun sl' e2 => ?_
  exact ⟨sl', e2⟩
 ·refine oq11 (I.base.there b o e hx) fun o' e1 => ?_
  exact free b o' (neC b o e hx) e1 (I.base.free b o e n hx)
 ·refine oq11 (I.base.there b o e hx) fun o' e1 => ?_
  exact there b o' (neC b o e hx) e1
 ·refine oq11 (I.base.tbls b ps e) fun m1 e1 => ?_
  refine oq11 (tbls b _ e1) fun m2 e2 => ?_
  exact ⟨m1 ++ m2, by rw [e2, Array.append_assoc]⟩
 ·refine oq12 I.loc fun m hn hl => ?_
  refine ⟨m, ns m hn, fun i x v e1 e2 e3 => ?_⟩
  refine oq12 (hl i x v e1 e2 e3) fun u r l => ?_
  refine ⟨u, r, ?_⟩
  rcases l with l | ⟨k, c, e, z⟩
  ·exact .inl l
  ·exact .inr ⟨k, c, e, cellK x c e _ z⟩
 ·refine oq11 (I.cell x c e) fun v z => ?_
  exact ⟨v, cellK x c e v z⟩
 ·obtain ⟨m, ⟨o, _, _, ho, _⟩, _⟩ := I.loc
  exact free _ o (fun z => (hch _ z).2.1 rfl) ho I.free
 ·refine oq22 (I.cell x c e) fun v o ho hd => ?_
  exact free c o (fun z => (hch c z).2.2.1 x c e rfl) ho (I.freeC x c e)
 ·refine oq05 (I.pin p hp) fun e n ne nf d => ?_
  have nch:p.1 ∉ ch := fun z => (hch p.1 z).2.2.2 p hp rfl
  exact ⟨keep p.1 p.2 ne nf nch e n, free p.1 p.2 nch e n, ne, nf, d⟩
theorem Inv.un {t':Nat} (I:Inv X pins σ H s) (u:Un X.fs [] H H' s.heap h') (hok:HOk X.prog X.w H' h'):Inv X pins σ H' { s with heap := h', toks := t' } := by
 obtain ⟨m, ⟨o, es, ep, ho, r⟩, _⟩ := id I.loc
 refine oq11 (u.any ho I.free (by simp)) fun sl hL => ?_
 exact I.step (g' := s.gens) (d' := s.drawn) (ch := []) (fun _ z => nomatch z) (fun b o _ hb _ e n => u.keep b o e n hb (by simp)) (fun b o _ hb _ e n => u.slot b o e n hb (by simp)) (fun b o _ e n => u.free b o e n (by simp)) (fun b o _ e => u.there b o e (by simp)) u.tups u.frzs u.tbls (fun m' hm => by
  refine oq32 hm fun o' es' ep' ho' r' => ?_
  rw [ho] at ho'; cases ho'
  exact ⟨_, es', ep', hL, r'⟩) hok I.bare
theorem Inv.call {g':Array GenState} {t':Nat} {d':Drawn} {ch:List Addr} (I:Inv X pins σ H s) (u:Un (frs X.stack) ch H H' s.heap h') (hok:HOk X.prog X.w H' h') (hg:AllBare g')
  (hch:∀ b ∈ ch, (b ∈ X.ex ∨ X.s₀.heap.objs.size ≤ b) ∧ b ≠ X.env.locals ∧ (∀ x c, X.env.cells.lookup x = some c → c ≠ b) ∧ ∀ p ∈ X.pn ++ pins, p.1 ≠ b) :
  Inv X pins σ H' { s with heap := h', gens := g', drawn := d', toks := t' } := by
 obtain ⟨m, ⟨o, es, ep, ho, r⟩, _⟩ := id I.loc
 refine oq11 (u.any ho I.free fun z => (hch _ z).2.1 rfl) fun sl hL => ?_
 exact I.step (ch := ch) hch (fun b o hL hb hc e n => u.keep b o e n (fun z => (List.mem_cons.mp (I.stkSub b z)).elim hL hb) hc) (fun b o _ _ hc e n => u.any e n hc) (fun b o hc e n => u.free b o e n hc) (fun b o hc e => u.there b o e hc) u.tups u.frzs u.tbls (fun m' hm => by
  refine oq32 hm fun o' es' ep' ho' r' => ?_
  rw [ho] at ho'; cases ho'
  exact ⟨_, es', ep', hL, r'⟩) hok hg
theorem Inv.turned {t':Nat} {it:Addr} (I:Inv X pins σ H s) (k:∀ b o, b ≠ it → s.heap.get? b = some o → h'.get? b = some o) (hn:H it = none) (hL:it ≠ X.env.locals)
  (h1:it ∈ X.ex ∨ X.s₀.heap.objs.size ≤ it) (h2:∀ x c, X.env.cells.lookup x = some c → c ≠ it) (h3:∀ p ∈ X.pn ++ pins, p.1 ≠ it):Inv X pins σ H { s with heap := h', toks := t' } := by
 have nit:∀ b u, H b = some u → b ≠ it := fun b u e z => by rw [z, hn] at e; cases e
 refine I.step (g' := s.gens) (d' := s.drawn) (ch := [it]) (fun b hb => ?_) (fun b o _ _ hc e _ => k b o (fun z => hc (by simp [z])) e) (fun b o _ _ hc e _ => ⟨o.slots, k b o (fun z => hc (by simp [z])) e⟩) (fun _ _ _ _ n => n)
  (fun b o hc e => ⟨o, k b o (fun z => hc (by simp [z])) e⟩) (fun _ _ e => e) (fun _ _ _ e => e) (fun b ps e => ⟨#[], by rw [e]; simp⟩) (fun m hm => ?_) (fun b u e => ?_) I.bare
 ·have e:b = it := by simpa using hb
  subst e
  exact ⟨h1, hL, h2, h3⟩
 ·refine oq32 hm fun o es ep ho r => ?_
  exact ⟨o, es, ep, k _ o (Ne.symm hL) ho, r⟩
 ·refine (I.hok b u e).stay (fun c v hc q => k c v ?_ q) (fun _ q => q) fun _ _ q => q
  rcases hc with z | z
  ·rw [z]; exact nit b u e
  ·exact nit c _ z
theorem Inv.tok (I:Inv X pins σ H s) (t:Nat):Inv X pins σ H { s with toks := t } := I.un (h' := s.heap) (t' := t) Un.refl I.hok
theorem Inv.kept {t':Nat} (I:Inv X pins σ H s) (k:∀ b u, s.heap.get? b = some u → h'.get? b = some u):Inv X pins σ H { s with heap := h', toks := t' } := I.un (Un.kept k) (I.hok.kept k)
theorem Inv.laid {a:Addr} {o:HO} {t':Nat} (I:Inv X pins σ H s) (k:∀ b u, s.heap.get? b = some u → h'.get? b = some u) (hp:s.heap.objs.size ≤ a) (new:aG X.prog X.w (upd H a o) h' a o) :
  Inv X pins σ (upd H a o) { s with heap := h', toks := t' } := I.un (Un.laid k hp (I.hok.fresh hp)) (I.hok.laid k hp new)
theorem Inv.write {x e:Addr} {o:HO} {t':Nat} (I:Inv X pins σ H s) (mu:Mut (H x)) (he:e = x ∨ H e = some (.own x)) (k:∀ b u, b ≠ e → s.heap.get? b = some u → h'.get? b = some u) (heo:∃ u, h'.get? e = some u)
  (new:aG X.prog X.w (upd H x o) h' x o):Inv X pins σ (upd H x o) { s with heap := h', toks := t' } := I.un (Un.write mu he k heo) (I.hok.write mu he k heo new)
theorem Inv.weak {σ':List (Option V)} (I:Inv X pins σ H s) (hl:σ'.length = σ.length) (w:∀ (i:Nat) v, σ'[i]? = some (some v) → σ[i]? = some (some v)):Inv X pins σ' H s :=
 ⟨I.ok, I.os, I.bare, I.base, oq12 I.loc fun m hn hl' => ⟨m, hn, fun i x v e1 e2 e3 => hl' i x v e1 (w i v e2) e3⟩, I.cell, I.free, I.freeC, I.pin, I.hok, hl.trans I.len⟩
theorem Inv.pins_of {pins':List (Addr × Obj)} (I:Inv X pins σ H s) (h:∀ p ∈ pins', s.heap.get? p.1 = some p.2 ∧ H p.1 = none ∧ p.1 ≠ X.env.locals ∧ p.1 ∉ X.fs ∧ ∀ v, p.2.data ≠ .cell v):Inv X pins' σ H s :=
 ⟨I.ok, I.os, I.bare, I.base, I.loc, I.cell, I.free, I.freeC, fun p hp => (List.mem_append.mp hp).elim (fun z => I.pin p (List.mem_append_left _ z)) (h p), I.hok, I.len⟩
theorem k0 {N:List Str} (hN:N.Nodup) {i j:Nat} {x:Str} (a:N[i]? = some x) (b:N[j]? = some x):i = j := by
 obtain ⟨h1, e1⟩ := List.getElem?_eq_some_iff.mp a
 obtain ⟨h2, e2⟩ := List.getElem?_eq_some_iff.mp b
 exact (List.getElem_inj hN).mp (e1.trans e2.symm)
theorem iK {M:Model} {A:Around} {E:Value → Shared → Prop} {i:Nat} {x:Str} {v:V} {u:Value} {Q:Unit → Shared → Prop} (I:Inv X pins σ H s) (hN:X.N.Nodup) (hi:X.N[i]? = some x) (hx:Loc X.env.scope x) (r:RelV v u)
  (h:∀ s', Inv X pins (σ.set i (some v)) H s' → (∃ a, Heap.SameBut a s.heap s'.heap ∧ (a = X.env.locals ∨ X.env.cells.lookup x = some a)) → Q () s') (hf:X.fn x = true ∨ X.env.scope.names.lookup x = some .local := by first | exact .inl rfl | exact .inr rfl | assumption):wpAny M A (storeName X.env x u) Q E s := by
 refine oq12 (id I.loc) fun m hn hl => ?_
 have hcls:(X.env.scope.kind == .class || (X.env.scope.kind == .module && X.env.locals != X.env.globals)) = false := by rw [I.ok.kind]; rfl
 have hiσ:i < σ.length := by rw [I.len]; exact (List.getElem?_eq_some_iff.mp hi).1
 have cne := I.cne
 have tracked:∀ {a:Addr} {h':Heap}, (∃ o, s.heap.get? a = some o ∧ H a = none) → Heap.SameBut a s.heap h' → HOk X.prog X.w H h' := fun {a h'} ha hs b ob e => by
  refine oq12 ha fun _ _ hfree => ?_
  refine (I.hok b ob e).stay (fun c w' hc q => (hs.2 c ?_).trans q) (fun _ q => q) fun _ _ q => q
  rintro rfl
  rcases hc with rfl | hc
  ·rw [hfree] at e; cases e
  ·rw [hfree] at hc; cases hc
 rcases hx with hk | hk
 ·refine wpAny_storeName_local hk hn (fun h' hn' hs => ?_) hcls
  refine oq32 (id hn) fun oL _ _ hoL _ => ?_
  refine h _ ⟨I.ok, I.os, I.bare, ⟨fun b o e n hb hx => ?_, fun b o e n hb hx => ?_, I.base.free, fun b o e hx => ?_, I.base.tups, I.base.frzs, I.base.tbls⟩, ⟨_, hn', fun j y v' e1 e2 e3 => ?_⟩, fun y c e => ?_, I.free, I.freeC, fun p hp => ?_, tracked ⟨oL, hoL, I.free⟩ hs, by simpa using I.len⟩ ⟨_, hs, .inl rfl⟩
  ·exact (hs.2 b (nz7 (nz1 (Heap.lt_size e) I.ok.above))).trans (I.base.keep b o e n hb hx)
  ·refine oq11 (I.base.slot b o e n hb hx) fun sl e1 => ?_
   exact ⟨sl, (hs.2 b (nz7 (nz1 (Heap.lt_size e) I.ok.above))).trans e1⟩
  ·refine oq11 (I.base.there b o e hx) fun o' e1 => ?_
   exact ⟨o', (hs.2 b (nz7 (nz1 (Heap.lt_size e) I.ok.above))).trans e1⟩
  ·by_cases hj:j = i
   ·subst hj
    rw [hi] at e1; cases e1
    rw [List.getElem?_set_self hiσ] at e2
    cases e2
    exact ⟨u, r, .inl ⟨hk, by simp⟩⟩
   ·rw [List.getElem?_set_ne (Ne.symm hj)] at e2
    refine oq12 (hl j y v' e1 e2 e3) fun u' r' q => ?_
    refine ⟨u', r', ?_⟩
    rcases q with ⟨k, e⟩ | ⟨k, c, e, z⟩
    ·refine .inl ⟨k, ?_⟩
     have:y ≠ x := fun e => hj (k0 hN e1 (e ▸ hi))
     simp [this, e]
    ·exact .inr ⟨k, c, e, z.sameBut hs (cne y c e)⟩
  ·refine oq11 (I.cell y c e) fun w' z => ?_
   exact ⟨w', z.sameBut hs (cne y c e)⟩
  ·refine oq05 (I.pin p hp) fun e n ne nf d => ?_
   exact ⟨(hs.2 p.1 ne).trans e, n, ne, nf, d⟩
 ·have hfn:X.fn x = true := by
   rcases hf with z | z
   ·exact z
   ·rw [z] at hk; cases hk
  refine oq11 (I.ok.has x (.inl hk)) fun c hc => ?_
  refine oq11 (I.cell x c hc) fun w' z => ?_
  refine wpAny_storeName_cell I.ok.kind hk hc z (fun h' hc' hs => ?_)
  refine oq12 (id z) fun oc hoc hocd => ?_
  refine h { s with heap := h' } ⟨I.ok, I.os, I.bare, ⟨fun b o e n hb hx => ?_, fun b o e n hb hx => ?_, I.base.free, fun b o e hx => ?_, I.base.tups, I.base.frzs, I.base.tbls⟩, ⟨m, hn.sameBut hs (Ne.symm (cne x c hc)), fun j y v' e1 e2 e3 => ?_⟩, fun y c' e => ?_, I.free, I.freeC, fun p hp => ?_, tracked ⟨oc, hoc, I.freeC x c hc⟩ hs, by simpa using I.len⟩ ⟨c, hs, .inr hc⟩
  ·exact (hs.2 b (nz7 (nz1 (Heap.lt_size e) (I.ok.cab x c hfn hc)))).trans (I.base.keep b o e n hb hx)
  ·refine oq11 (I.base.slot b o e n hb hx) fun sl e1 => ?_
   exact ⟨sl, (hs.2 b (nz7 (nz1 (Heap.lt_size e) (I.ok.cab x c hfn hc)))).trans e1⟩
  ·refine oq11 (I.base.there b o e hx) fun o' e1 => ?_
   exact ⟨o', (hs.2 b (nz7 (nz1 (Heap.lt_size e) (I.ok.cab x c hfn hc)))).trans e1⟩
  ·by_cases hj:j = i
   ·subst hj
    rw [hi] at e1; cases e1
    rw [List.getElem?_set_self hiσ] at e2
    cases e2
    exact ⟨u, r, .inr ⟨.inl hk, c, hc, hc'⟩⟩
   ·rw [List.getElem?_set_ne (Ne.symm hj)] at e2
    refine oq12 (hl j y v' e1 e2 e3) fun u' r' q => ?_
    refine ⟨u', r', ?_⟩
    rcases q with q | ⟨k, c', e, z'⟩
    ·exact .inl q
    ·refine .inr ⟨k, c', e, z'.sameBut hs ?_⟩
     rintro rfl
     exact hj (k0 hN e1 (I.ok.inj _ _ _ e hc ▸ hi))
  ·by_cases hcc:c' = c
   ·subst hcc; exact ⟨_, hc'⟩
   ·refine oq11 (I.cell y c' e) fun w2 z2 => ?_
    exact ⟨w2, z2.sameBut hs hcc⟩
  ·refine oq05 (I.pin p hp) fun e n ne nf d => ?_
   refine ⟨(hs.2 p.1 ?_).trans e, n, ne, nf, d⟩
   intro q
   rw [q, hoc] at e
   have q':oc = p.2 := Option.some.inj e
   exact d w' (by rw [← q']; exact hocd)
theorem eK {M:Model} {A:Around} {E:Value → Shared → Prop} {i:Nat} {x:Str} {v:V} {u:Value} {Q:Unit → Shared → Prop} (I:Inv X pins σ H s) (hN:X.N.Nodup) (hi:X.N[i]? = some x) (hx:Loc X.env.scope x) (r:RelV v u)
  (h:∀ s', Inv X pins (σ.set i (some v)) H s' → Q () s') (hf:X.fn x = true ∨ X.env.scope.names.lookup x = some .local := by first | exact .inl rfl | exact .inr rfl | assumption):wpAny M A (storeName X.env x u) Q E s :=
 iK I hN hi hx r (fun s' I' _ => h s' I') hf
theorem Inv.call' {s':Shared} {ch:List Addr} (I:Inv X pins σ H s) (ho:s'.os = s.os) (u:Un (frs X.stack) ch H H' s.heap s'.heap) (hok:HOk X.prog X.w H' s'.heap) (hg:AllBare s'.gens)
  (hch:∀ b ∈ ch, (b ∈ X.ex ∨ X.s₀.heap.objs.size ≤ b) ∧ b ≠ X.env.locals ∧ (∀ x c, X.env.cells.lookup x = some c → c ≠ b) ∧ ∀ p ∈ X.pn ++ pins, p.1 ≠ b):Inv X pins σ H' s' := by
 obtain ⟨h', g', d', t', o'⟩ := s'
 have e:o' = s.os := ho
 subst e
 exact I.call (g' := g') (t' := t') (d' := d') u hok hg hch
end
noncomputable abbrev XK := Value → Option Addr → Hp → Prop
noncomputable abbrev St := List (Option V)
noncomputable abbrev VK := V → Hp → Prop
noncomputable abbrev TE := St → Hp → VK → Prop
noncomputable abbrev TT := St → Hp → (Bool → Hp → Prop) → Prop
noncomputable abbrev TA := St → Hp → (List V → Hp → Prop) → Prop
structure Ends where
 nx:St → Hp → Prop
 rt:VK
 bk:St → Hp → Prop := fun _ _ => False
 ct:St → Hp → Prop := fun _ _ => False
noncomputable abbrev TS := Ends → St → Hp → Prop
noncomputable def EP (X:Cx) (pins:List (Addr × Obj)) (σ:St) (Q:VK) (u:Value) (s':Shared):Prop := ∃ v H', Inv X pins σ H' s' ∧ RelV v u ∧ Q v H'
noncomputable def TP (X:Cx) (pins:List (Addr × Obj)) (σ:St) (Q:Bool → Hp → Prop) (b:Bool) (s':Shared):Prop := ∃ H', Inv X pins σ H' s' ∧ Q b H'
noncomputable def AP (X:Cx) (pins:List (Addr × Obj)) (σ:St) (Q:List V → Hp → Prop) (us:List Value) (s':Shared):Prop := ∃ vs H', Inv X pins σ H' s' ∧ Vals vs us ∧ Q vs H'
noncomputable def SP (X:Cx) (pins:List (Addr × Obj)) (D:Ends) (f:Flow) (s':Shared):Prop :=
 match f with
 | .next => ∃ σ' H', Inv X pins σ' H' s' ∧ D.nx σ' H'
 | .brk => ∃ σ' H', Inv X pins σ' H' s' ∧ D.bk σ' H'
 | .cont => ∃ σ' H', Inv X pins σ' H' s' ∧ D.ct σ' H'
 | .ret u => ∃ v σ' H', Inv X pins σ' H' s' ∧ RelV v u ∧ D.rt v H'
noncomputable def PE (X:Cx) (e:Expr) (t:TE):Prop :=
 ∀ (pins:List (Addr × Obj)) (s:Shared) (σ:St) (H:Hp) (Q:VK), Inv X pins σ H s → t σ H Q → wpAny (model X.prog X.w) X.A (eval e X.env) (EP X pins σ Q) X.xe s
noncomputable def PT (X:Cx) (e:Expr) (t:TT):Prop :=
 ∀ (pins:List (Addr × Obj)) (s:Shared) (σ:St) (H:Hp) (Q:Bool → Hp → Prop), Inv X pins σ H s → t σ H Q → wpAny (model X.prog X.w) X.A (isTrue e X.env (eval e X.env)) (TP X pins σ Q) X.xe s
noncomputable def PW (X:Cx) (e:Expr) (t:TT):Prop :=
 ∀ (whole:Sem Value) (pins:List (Addr × Obj)) (s:Shared) (σ:St) (H:Hp) (Q:Bool → Hp → Prop), Inv X pins σ H s → t σ H Q → wpAny (model X.prog X.w) X.A (isTrue e X.env whole) (TP X pins σ Q) X.xe s
theorem PW.pt {X:Cx} {e:Expr} {t:TT} (h:PW X e t):PT X e t := h _
noncomputable def PA (X:Cx) (es:List Expr) (t:TA):Prop :=
 ∀ (pos:Pos) (pins:List (Addr × Obj)) (s:Shared) (σ:St) (H:Hp) (Q:List V → Hp → Prop), Inv X pins σ H s → t σ H Q → wpAny (model X.prog X.w) X.A (spliced (backTo pos (starEach es X.env))) (AP X pins σ Q) X.xe s
noncomputable def PS (X:Cx) (st:Stmt) (t:TS):Prop :=
 ∀ (pins:List (Addr × Obj)) (s:Shared) (σ:St) (H:Hp) (D:Ends), Inv X pins σ H s → t D σ H → wpAny (model X.prog X.w) X.A (exec st X.env) (SP X pins D) X.xe s
noncomputable def PSs (X:Cx) (st:List Stmt) (t:TS):Prop :=
 ∀ (pins:List (Addr × Obj)) (s:Shared) (σ:St) (H:Hp) (D:Ends), Inv X pins σ H s → t D σ H → wpAny (model X.prog X.w) X.A (execs st X.env) (SP X pins D) X.xe s
theorem thn {α:Type} {t:Sem α} {Q Q':α → Shared → Prop} {M:Model} {A:Around} {E:Value → Shared → Prop} {s:Shared} (h:wpAny M A t Q E s) (hQ:∀ a s, Q a s → Q' a s):wpAny M A t Q' E s := wpAny_mono h hQ fun _ _ x => x
end L2
namespace L2
open PySem PySem.Spec PyProof.Rows
section
variable {X:Cx}
noncomputable def tVar (i:Nat):TE := fun σ H Q => ∃ v, σ[i]? = some (some v) ∧ Q v H
noncomputable def tC (v:V):TE := fun _ H Q => Q v H
theorem pe_var {i:Nat} {x:Str} {pos:Pos} (hN:X.N[i]? = some x) (hv:Vis X.env.scope x) (hd:(x == ("__debug__":Str)) = false := by decide) (hcd:(x == ("__classdict__":Str)) = false := by decide):PE X (.Name x pos) (tVar i) := by
 intro pins s σ H Q I h
 refine oq12 h fun v e h => ?_
 refine oq12 I.loc fun m hn hl => ?_
 refine oq12 (hl i x v hN e hv) fun u r l => ?_
 have fin:EP X pins σ Q u s := ⟨v, H, I, r, h⟩
 rcases l with ⟨hk, hm⟩ | ⟨hk, c, hc, hcell⟩
 ·exact wpAny_Name (wpAny_loadName_local I.ok.kind hk hn hm fin) hd
 ·rcases hk with hk | hk
  ·exact wpAny_Name (wpAny_loadName_cell I.ok.kind hk hc hcell fin) hd
  ·exact wpAny_Name (wpAny_loadName_free I.ok.kind hk hc hcell fin hcd) hd
theorem ae {i j pos}:PE X (.Constant (.int i) j pos) (tC (.int i)) := fun _ _ _ H _ I h => wpAny_Constant_int ⟨.int i, H, I.tok _, ⟨_, rfl⟩, h⟩
theorem fX {b j pos}:PE X (.Constant (.bool b) j pos) (tC (.bl b)) := fun _ _ _ H _ I h => Constant_bool ⟨.bl b, H, I, rfl, h⟩
theorem jb {j pos}:PE X (.Constant .none j pos) (tC .non) := fun _ _ _ H _ I h => Constant_none ⟨.non, H, I, rfl, h⟩
noncomputable def Gl (X:Cx) (x:Str):Prop := X.env.kindOf x = some .globalImplicit
theorem ld_glob {E:Value → Shared → Prop} {pins:List (Addr × Obj)} {s:Shared} {σ:St} {H:Hp} {x:Str} {u:Value} {pos:Pos} {Q:Value → Shared → Prop} (I:Inv X pins σ H s) (hg:Gl X x) (hm:X.mg x = some u) (h:Q u s)
  (hd:(x == ("__debug__":Str)) = false := by decide):wpAny (model X.prog X.w) X.A (eval (.Name x pos) X.env) Q E s :=
 Calls.Name_function_global I.ok.kind hg (Calls.loadGlobal_global (by rw [I.ok.glob]; exact I.mod.glob.keeps I.bk) hm h) hd
theorem cN {E:Value → Shared → Prop} {pins:List (Addr × Obj)} {s:Shared} {σ:St} {H:Hp} {x:Str} {u:Value} {pos:Pos} {Q:Value → Shared → Prop} (I:Inv X pins σ H s) (hg:Gl X x) (hm:X.mg x = none) (hv:bootBuiltins x = some u) (h:Q u s)
  (hn:x ≠ "__name__" := by decide) (hd:(x == ("__debug__":Str)) = false := by decide):wpAny (model X.prog X.w) X.A (eval (.Name x pos) X.env) Q E s := by
 refine oq12 I.mod.blt fun mb h1 h2 => ?_
 exact Calls.Name_function_global I.ok.kind hg (Calls.loadGlobal_builtin (by rw [I.ok.glob]; exact I.mod.glob.keeps I.bk) hm (by rw [I.ok.blt]; exact h1.keeps I.bk) ((h2 x hn).trans hv) h) hd
theorem eM {x:Str} {v:V} {u:Value} {pos:Pos} (hg:Gl X x) (hm:X.mg x = none) (hv:bootBuiltins x = some u) (r:RelV v u) (hn:x ≠ "__name__" := by decide) (hd:(x == ("__debug__":Str)) = false := by decide):PE X (.Name x pos) (tC v) :=
 fun _ _ _ H _ I h => cN I hg hm hv ⟨v, H, I, r, h⟩ hn hd
variable {a b:Expr} {ta tb:TE} {pos:Pos}
noncomputable def tB (t:TE):TT := fun σ H Q => t σ H fun x H1 => ∃ c, x = .bl c ∧ Q c H1
theorem cO {e:Expr} {t:TE} (h:PE X e t) (he:∀ whole, isTrue e X.env whole = (do let v ← whole; standAt e.pos; holding [v] (truthy v)) := by intro _; rfl):PT X e (tB t) := by
 intro pins s σ H Q I hw
 refine isTrue_plain (thn (h pins s σ H _ I hw) fun v s1 zq => oq23 zq fun x H1 I1 r1 q1 => ?_) (he _)
 refine oq12 q1 fun d eq1_ q => ?_; subst eq1_
 cases r1
 exact wpAny_truthy_bool ⟨H1, I1, q⟩
variable {tA tB':TT} {rest:List Expr}
noncomputable def tAnd (t u:TT):TT := fun σ H Q => t σ H fun c H1 => if c = true then u σ H1 Q else Q false H1
noncomputable def tOr (t u:TT):TT := fun σ H Q => t σ H fun c H1 => if c = true then Q true H1 else u σ H1 Q
noncomputable def tNot (t:TT):TT := fun σ H Q => t σ H fun c H1 => Q (!c) H1
theorem mS (ha:PT X a tA):PW X (.BoolOp .And [a] pos) tA := by
 intro wh pins s σ H Q I h
 refine isTrue_and (thn (ha pins s σ H Q I h) fun c s1 e => ?_)
 cases c with
 | true => exact isTrue_and_nil e
 | false => exact e
theorem gE (ha:PT X a tA):PW X (.BoolOp .Or [a] pos) tA := by
 intro wh pins s σ H Q I h
 refine isTrue_or (thn (ha pins s σ H Q I h) fun c s1 e => ?_)
 cases c with
 | false => exact isTrue_or_nil e
 | true => exact e
theorem lF (ha:PT X a tA) (hb:PW X (.BoolOp .And (b :: rest) pos) tB'):PW X (.BoolOp .And (a :: b :: rest) pos) (tAnd tA tB') := by
 intro wh pins s σ H Q I h
 refine isTrue_and (thn (ha pins s σ H _ I h) fun c s1 zq => oq12 zq fun H1 I1 q1 => ?_)
 cases c with
 | true => exact hb wh pins s1 σ H1 Q I1 q1
 | false => exact ⟨H1, I1, q1⟩
theorem k7 (ha:PT X a tA) (hb:PW X (.BoolOp .Or (b :: rest) pos) tB'):PW X (.BoolOp .Or (a :: b :: rest) pos) (tOr tA tB') := by
 intro wh pins s σ H Q I h
 refine isTrue_or (thn (ha pins s σ H _ I h) fun c s1 zq => oq12 zq fun H1 I1 q1 => ?_)
 cases c with
 | true => exact ⟨H1, I1, q1⟩
 | false => exact hb wh pins s1 σ H1 Q I1 q1
theorem dX (ha:PT X a tA):PT X (.UnaryOp .Not a pos) (tNot tA) := by
 intro pins s σ H Q I h
 exact isTrue_not (ha pins s σ H (fun c H1 => Q (!c) H1) I h)
noncomputable def tAndV (ta tb:TE):TE := fun σ H Q => ta σ H fun x H1 => ∃ c, x = .bl c ∧ if c = true then tb σ H1 Q else Q (.bl false) H1
noncomputable def tNotV (ta:TE):TE := fun σ H Q => ta σ H fun x H1 => ∃ c, x = .bl c ∧ Q (.bl (!c)) H1
theorem lG {op} {t:TE} (h:PE X a t):PE X (.BoolOp op [a] pos) t := fun pins s σ H Q I hw => BoolOp_one (h pins s σ H Q I hw)
theorem jc (ha:PE X a ta) (hb:PE X (.BoolOp .And (b :: rest) pos) tb):PE X (.BoolOp .And (a :: b :: rest) pos) (tAndV ta tb) := by
 intro pins s σ H Q I h
 refine BoolOp_and (thn (ha pins s σ H _ I h) fun v s1 ⟨x, H1, I1, r1, q1⟩ => ?_)
 obtain ⟨c, rfl, q1⟩ := q1
 cases r1
 refine wpAny_truthy_bool ?_
 cases c with
 | true => exact hb pins s1 σ H1 Q I1 q1
 | false => exact ⟨.bl false, H1, I1, rfl, q1⟩
theorem pe_not (ha:PE X a ta):PE X (.UnaryOp .Not a pos) (tNotV ta) := by
 intro pins s σ H Q I h
 refine UnaryOp_ (thn (ha pins s σ H _ I h) fun v s1 ⟨x, H1, I1, r1, q1⟩ => ?_)
 obtain ⟨c, rfl, q1⟩ := q1
 cases r1
 exact not_of (wpAny_truthy_bool ⟨.bl (!c), H1, I1, rfl, q1⟩)
noncomputable def tIf (t:TT) (ta tb:TE):TE := fun σ H Q => t σ H fun c H1 => if c = true then ta σ H1 Q else tb σ H1 Q
theorem eN {c:Expr} (hc:PT X c tA) (ha:PE X a ta) (hb:PE X b tb):PE X (.IfExp c a b pos) (tIf tA ta tb) := by
 intro pins s σ H Q I h
 refine wpAny_IfExp (thn (hc pins s σ H _ I h) fun d s1 zq => oq12 zq fun H1 I1 q1 => ?_)
 cases d with
 | true => exact ha pins s1 σ H1 Q I1 q1
 | false => exact hb pins s1 σ H1 Q I1 q1
end
end L2
namespace L2
open PySem PySem.Spec PyProof.Rows
noncomputable def SqL (K:PySem.W.Frag) (H:Hp) (a:Addr) (xs:List V):Prop :=
 Rd H a (.lst xs) ∨
  ∃ (o:Obj) (its:Array Value) (n:Nat), K.lookup a = some o ∧ o.cls = .type "list" ∧ o.dict = none ∧ o.data = .seq its n ∧ its.size ≤ sizeLine ∧ Vals xs its.toList
noncomputable def SqT (K:PySem.W.Frag) (H:Hp) (a:Addr) (xs:List V):Prop :=
 Rd H a (.tup xs) ∨
  ∃ (o:Obj) (its:Array Value) (n:Nat), K.lookup a = some o ∧ o.cls = .type "tuple" ∧ o.data = .seq its n ∧ its.size ≤ sizeLine ∧ Vals xs its.toList
noncomputable def absV:Value → Option V
 | .none => some .non
 | .bool b => some (.bl b)
 | .int i _ => some (.int i)
 | .str x _ => some (.str x)
 | .bytes b _ => some (.byt b)
 | .float b _ => some (.flt b)
 | .ref a => some (.ref a)
 | .type n => some (.ty n)
 | _ => none
theorem RelV.abs {x:V} {u:Value} (r:RelV x u):absV u = some x := by
 cases x with
 | non => cases r; rfl
 | bl _ => cases r; rfl
 | int _ => refine oq11 r fun t eq1_ => ?_; subst eq1_; rfl
 | str _ => refine oq11 r fun t eq1_ => ?_; subst eq1_; rfl
 | byt _ => refine oq11 r fun t eq1_ => ?_; subst eq1_; rfl
 | flt _ => refine oq11 r fun t eq1_ => ?_; subst eq1_; rfl
 | ref _ => cases r; rfl
 | ty _ => cases r; rfl
theorem RelV.inj {x y:V} {u:Value} (r:RelV x u) (q:RelV y u):x = y := Option.some.inj (r.abs.symm.trans q.abs)
theorem Vals.inj:∀ {xs ys:List V} {us:List Value}, Vals xs us → Vals ys us → xs = ys
 | _, _, _, .nil, .nil => rfl
 | _, _, _, .cons r t, .cons r' t' => by rw [r.inj r', Vals.inj t t']
section
variable {X:Cx} {pins:List (Addr × Obj)} {σ:St} {H:Hp} {s:Shared} {a:Addr} {xs ys:List V}
theorem SqL.of {K:PySem.W.Frag} (h:H a = some (.lst xs)):SqL K H a xs := .inl (.inl h)
theorem SqT.of {K:PySem.W.Frag} (h:H a = some (.tup xs)):SqT K H a xs := .inl (.inl h)
theorem Inv.list (I:Inv X pins σ H s) (h:SqL X.K H a xs):∃ its:List Value, Vals xs its ∧ PlainL s.heap a its.toArray ∧ xs.length ≤ sizeLine := by
 rcases h with h | ⟨o, its, n, hk, hc, hd, hs, hz, r⟩
 ·refine oq02 (h.ok I.hok) fun z zz => oq22 zz fun its n r e => ?_
  exact ⟨its, r, ⟨_, n, e, rfl, rfl, rfl⟩, z⟩
 ·refine ⟨its.toList, r, ⟨o, n, I.kIn a o hk, hc, hd, by simpa using hs⟩, ?_⟩
  have e := r.length
  simp only [Array.length_toList] at e
  omega
theorem Inv.tuple (I:Inv X pins σ H s) (h:SqT X.K H a xs):∃ its:List Value, Vals xs its ∧ IsTup s.heap a its.toArray ∧ xs.length ≤ sizeLine := by
 rcases h with h | ⟨o, its, n, hk, hc, hs, hz, r⟩
 ·refine oq02 (h.ok I.hok) fun z zz => oq12 zz fun its r p => ?_
  exact ⟨its, r, p, z⟩
 ·refine ⟨its.toList, r, ⟨o, I.kIn a o hk, hc, n, by simpa using hs⟩, ?_⟩
  have e := r.length
  simp only [Array.length_toList] at e
  omega
theorem Inv.list_inj (I:Inv X pins σ H s) (h:SqL X.K H a xs) (h':SqL X.K H a ys):xs = ys := by
 obtain ⟨its, r, ⟨o, n, e, _, _, d⟩, _⟩ := I.list h
 obtain ⟨its', r', ⟨o', n', e', _, _, d'⟩, _⟩ := I.list h'
 rw [e] at e'; cases e'
 rw [d] at d'
 injection d' with d1 _
 have:its = its' := by simpa using congrArg Array.toList d1
 subst this
 exact r.inj r'
end
noncomputable abbrev Cx.wish (X:Cx) (E:Value → Shared → Prop):Cx := { X with xe := E }
noncomputable abbrev Cx.nox (X:Cx):Cx := X.wish fun _ _ => False
theorem Cx.Ok.wish {X:Cx} (ok:X.Ok) (E:Value → Shared → Prop):(X.wish E).Ok :=
 ⟨ok.mod, ok.kind, ok.glob, ok.blt, ok.above, ok.inj, ok.has, ok.cab, ok.hd, ok.frames, ok.stk, ok.exf, ok.bs, ok.bsz, ok.noex, ok.exfs, ok.funs, ok.frf⟩
theorem Cx.Ok.unwish {X:Cx} {E:Value → Shared → Prop} (ok:(X.wish E).Ok):X.Ok :=
 ⟨ok.mod, ok.kind, ok.glob, ok.blt, ok.above, ok.inj, ok.has, ok.cab, ok.hd, ok.frames, ok.stk, ok.exf, ok.bs, ok.bsz, ok.noex, ok.exfs, ok.funs, ok.frf⟩
section
variable {X:Cx} {pins:List (Addr × Obj)} {σ:St} {H:Hp} {s:Shared} {E:Value → Shared → Prop}
theorem Inv.wish (I:Inv X pins σ H s) (E:Value → Shared → Prop):Inv (X.wish E) pins σ H s := ⟨I.ok.wish E, I.os, I.bare, I.base, I.loc, I.cell, I.free, I.freeC, I.pin, I.hok, I.len⟩
theorem Inv.unwish (I:Inv (X.wish E) pins σ H s):Inv X pins σ H s := ⟨I.ok.unwish, I.os, I.bare, I.base, I.loc, I.cell, I.free, I.freeC, I.pin, I.hok, I.len⟩
theorem SP.unwish {D:Ends} {f:Flow} {s':Shared} (h:SP (X.wish E) pins D f s'):SP X pins D f s' := by
 cases f with
 | next => refine oq22 h fun σ' H' I q => ?_; exact ⟨σ', H', I.unwish, q⟩
 | brk => refine oq22 h fun σ' H' I q => ?_; exact ⟨σ', H', I.unwish, q⟩
 | cont => refine oq22 h fun σ' H' I q => ?_; exact ⟨σ', H', I.unwish, q⟩
 | ret u => refine oq33 h fun v σ' H' I r q => ?_; exact ⟨v, σ', H', I.unwish, r, q⟩
theorem PSs.nox {st:List Stmt} {t:TS} (h:PSs X.nox st t):PSs X st t := fun pins s σ H D I hw =>
 wpAny_mono (h pins s σ H D (I.wish _) hw) (fun _ _ q => q.unwish) fun _ _ z => False.elim z
end
section
variable {X:Cx} {st:Stmt} {rest:List Stmt} {t u:TS} {e:Expr} {te:TE} {pos:Pos}
noncomputable def iL:TS := fun D σ H => D.nx σ H
noncomputable def tSeq (t u:TS):TS := fun D σ H => t { D with nx := u D } σ H
theorem bo:PSs X [] iL := fun _ _ σ H _ I h => wpAny_execs_nil ⟨σ, H, I, h⟩
theorem af (h1:PS X st t) (h2:PSs X rest u):PSs X (st :: rest) (tSeq t u) := by
 intro pins s σ H D I h
 refine wpAny_execs_cons (thn (h1 pins s σ H { D with nx := u D } I h) fun f s1 q => ?_)
 cases f with
 | next =>
  refine oq22 q fun σ' H' I' q => ?_
  exact h2 pins s1 σ' H' D I' q
 | ret v => exact q
 | brk => exact q
 | cont => exact q
theorem aj (h1:PS X st t):PSs X [st] t := by
 intro pins s σ H D I h
 refine wpAny_execs_cons (thn (h1 pins s σ H D I h) fun f s1 q => ?_)
 cases f with
 | next => exact wpAny_execs_nil q
 | ret v => exact q
 | brk => exact q
 | cont => exact q
theorem Inv.quiet {pins:List (Addr × Obj)} {σ:St} {H:Hp} {s:Shared} (I:Inv X pins σ H s):interactive X.env = false := by simp [interactive, I.ok.kind]
noncomputable def tDrop (te:TE):TS := fun D σ H => te σ H fun _ H1 => D.nx σ H1
theorem eO (he:PE X e te) (hs:swapsWith e none pos.line X.env = pure false := by rfl):PS X (.Expr e pos) (tDrop te) := by
 intro pins s σ H D I h
 exact wpAny_Expr_any (thn (he pins s σ H _ I h) fun v s1 zq => oq23 zq fun x H1 I1 r1 q1 => ⟨σ, H1, I1, q1⟩) I.quiet hs
noncomputable def tRet (te:TE):TS := fun D σ H => te σ H D.rt
theorem az (he:PE X e te):PS X (.Return (some e) pos) (tRet te) := by
 intro pins s σ H D I h
 exact wpAny_Return_some (thn (he pins s σ H _ I h) fun v s1 zq => oq23 zq fun x H1 I1 r1 q1 => ⟨x, σ, H1, I1, r1, q1⟩)
noncomputable def tIfS (c:TT) (t u:TS):TS := fun D σ H => c σ H fun b H1 => if b = true then t D σ H1 else u D σ H1
theorem cF {c:Expr} {a b:List Stmt} {tc:TT} (hc:PT X c tc) (ha:PSs X a t) (hb:PSs X b u):PS X (.If c a b pos) (tIfS tc t u) := by
 intro pins s σ H D I h
 refine wpAny_If (thn (hc pins s σ H _ I h) fun d s1 zq => oq12 zq fun H1 I1 q1 => ?_)
 cases d with
 | true => exact ha pins s1 σ H1 D I1 q1
 | false => exact hb pins s1 σ H1 D I1 q1
end
noncomputable abbrev TG := V → St → Hp → (St → Hp → Prop) → Prop
noncomputable abbrev TGs := List V → St → Hp → (St → Hp → Prop) → Prop
noncomputable def PG (X:Cx) (target:Expr) (t:TG):Prop :=
 ∀ (pins:List (Addr × Obj)) (s:Shared) (σ:St) (H:Hp) (v:V) (u:Value) (Q:St → Hp → Prop), Inv X pins σ H s → RelV v u → t v σ H Q →
  wpAny (model X.prog X.w) X.A (assign target X.env u) (fun _ s' => ∃ σ' H', Inv X pins σ' H' s' ∧ Q σ' H') X.xe s
noncomputable def PGs (X:Cx) (ts:List Expr) (t:TGs):Prop :=
 ∀ (pins:List (Addr × Obj)) (s:Shared) (σ:St) (H:Hp) (vs:List V) (us:List Value) (Q:St → Hp → Prop), Inv X pins σ H s → Vals vs us → t vs σ H Q →
  wpAny (model X.prog X.w) X.A (assignInOrder ((assignEach ts X.env).map (·.2)) us) (fun _ s' => ∃ σ' H', Inv X pins σ' H' s' ∧ Q σ' H') X.xe s
section
variable {X:Cx} {pos:Pos}
noncomputable def dP (i:Nat):TG := fun v σ H Q => Q (σ.set i (some v)) H
theorem aC {i:Nat} {x:Str} (hN:X.N.Nodup) (hi:X.N[i]? = some x) (hx:Loc X.env.scope x) (hf:X.fn x = true ∨ X.env.scope.names.lookup x = some .local := by first | exact .inl rfl | exact .inr rfl | assumption):PG X (.Name x pos) (dP i) := by
 intro pins s σ H v u Q I r h
 exact wpAny_assign_Name (eK I hN hi hx r (fun s' I' => ⟨_, H, I', h⟩) hf)
noncomputable def gNil:TGs := fun vs σ H Q => vs = [] ∧ Q σ H
noncomputable def gCons (t:TG) (u:TGs):TGs := fun vs σ H Q => ∃ v r, vs = v :: r ∧ t v σ H fun σ' H' => u r σ' H' Q
theorem gn:PGs X [] gNil := by
 intro pins s σ H vs us Q I r h
 obtain ⟨e, h⟩ := h
 subst e
 cases r
 exact assignInOrder_nil ⟨σ, H, I, h⟩
theorem bZ {e:Expr} {es:List Expr} {t:TG} {u:TGs} (h1:PG X e t) (h2:PGs X es u)
  (hs:(assignEach (e :: es) X.env).map (·.2) = assign e X.env :: (assignEach es X.env).map (·.2) := by rfl):PGs X (e :: es) (gCons t u) := by
 intro pins s σ H vs us Q I r h
 obtain ⟨v, vr, e1, h⟩ := h
 subst e1
 cases r with
 | cons r rr =>
  rw [hs]
  refine assignInOrder_cons (thn (h1 pins s σ H _ _ _ I r h) fun _ s1 ⟨σ1, H1, I1, q1⟩ => ?_)
  exact h2 pins s1 σ1 H1 _ _ Q I1 rr q1
noncomputable def gTup (K:PySem.W.Frag) (n:Nat) (t:TGs):TG := fun v σ H Q => ∃ a xs, v = .ref a ∧ SqT K H a xs ∧ xs.length = n ∧ t xs σ H Q
theorem pg_tup {es:List Expr} {k:Nat} {t:TGs} {n:Nat} (hc:X.calm = true) (h:PGs X es t)
  (hn:(assignEach es X.env).length = n := by rfl) (hst:(assignEach es X.env).findIdx? (·.1) = none := by rfl):PG X (.Tuple es k pos) (gTup X.K n t) := by
 intro pins s σ H v u Q I r hw
 obtain ⟨a, xs, e1, hq, hl, hw⟩ := hw
 subst e1
 cases r
 obtain ⟨its, rv, ht, hz⟩ := I.tuple hq
 refine assign_Tuple_tuple (I.ok.hd hc) ht (by simp [hn, ← hl, rv.length]) hst fun h' hx => ?_
 have I1:Inv X pins σ H { s with heap := h' } := I.kept (t' := s.toks) fun b o e => hx b o (nz7 (Heap.lt_size e)) e
 exact h pins _ σ H xs _ Q I1 (by simpa using rv) hw
noncomputable def tAsg (te:TE) (g:TG):TS := fun D σ H => te σ H fun x H1 => g x σ H1 D.nx
theorem ax {i:Nat} {x:Str} {e:Expr} {te:TE} {pos':Pos} (hN:X.N.Nodup) (hi:X.N[i]? = some x) (hx:Loc X.env.scope x) (he:PE X e te) (hs:swapsWith e (some (.Name x pos')) pos.line X.env = pure false := by rfl) (hf:X.fn x = true ∨ X.env.scope.names.lookup x = some .local := by first | exact .inl rfl | exact .inr rfl | assumption) :
  PS X (.Assign [.Name x pos'] e pos) (tAsg te (dP i)) := by
 intro pins s σ H D I h
 refine wpAny_Assign_Name (thn (he pins s σ H _ I h) fun v s1 zq => oq23 zq fun y H1 I1 r1 q1 => ?_) hs
 exact eK I1 hN hi hx r1 (fun s2 I2 => ⟨_, H1, I2, q1⟩) hf
noncomputable def tPar (i j:Nat) (ta:TA):TS := fun D σ H => ta σ H fun vs H1 => ∃ v w, vs = [v, w] ∧ D.nx ((σ.set i (some v)).set j (some w)) H1
theorem ps_par {i j:Nat} {x y:Str} {a b:Expr} {ta:TA} {px py pt:Pos} {kt k2 pt2} (hc:X.calm = true) (hN:X.N.Nodup) (hi:X.N[i]? = some x) (hj:X.N[j]? = some y) (hij:i ≠ j)
  (hx:X.env.scope.names.lookup x = some .local) (hy:X.env.scope.names.lookup y = some .local) (ha:PA X [a, b] ta)
  (hw:swappedStores [.Tuple [.Name x px, .Name y py] kt pt] (.Tuple [a, b] k2 pt2) X.env = pure (some [x, y]))
  (hs:swapsWithSole [.Tuple [.Name x px, .Name y py] kt pt] (.Tuple [a, b] k2 pt2) pos.line X.env = pure false := by rfl) :
  PS X (.Assign [.Tuple [.Name x px, .Name y py] kt pt] (.Tuple [a, b] k2 pt2) pos) (tPar i j ta) := by
 intro pins s σ H D I h
 rw [exec_Assign_arm]
 refine wpAny_bind (wpAny_standAt ?_)
 rw [hs]
 refine wpAny_bind (wpAny_pure ?_)
 rw [if_neg (by decide)]
 refine wpAny_bind (Tuple_ (thn (ha _ pins s σ H _ I h) fun us s1 ⟨vs, H1, I1, r1, q1⟩ => ?_))
 obtain ⟨v, w, e1, q1⟩ := q1
 subst e1
 obtain ⟨u1, u2, rfl, rv, rw'⟩:∃ u1 u2, us = [u1, u2] ∧ RelV v u1 ∧ RelV w u2 := by
  cases r1 with
  | cons p q =>
   cases q with
   | cons p' q' =>
    cases q'
    exact ⟨_, _, rfl, p, p'⟩
 refine wpAny_newObj_type ?_ (by show 2 ≤ sizeLine; decide)
 have I2:Inv X pins σ H1 { s1 with heap := s1.heap.push { cls := .type "tuple", data := .seq [u1, u2].toArray } } := I1.kept (t' := s1.toks) fun b o e => Heap.get?_push_of_some _ e
 rw [hw]
 refine wpAny_bind (wpAny_pure ?_)
 show wpAny (model X.prog X.w) X.A (do rule "assign.swapped-stores"; let items ← unpackItems (.ref s1.heap.objs.size) 2 none; assignInOrder [fun v => bindName X.env y v, fun v => bindName X.env x v] items.reverse; pure Flow.next) _ _ _
 refine wpAny_bind (wpAny_rule (wpAny_bind (unpackItems_tuple (items := #[u1, u2]) (I.ok.hd hc) (IsTup.new s1.heap _) fun h' hx' => ?_)))
 have I3 := I2.kept (h' := h') (t' := s1.toks) fun b o e => hx' b o (nz7 (Heap.lt_size e)) e
 show wpAny _ _ (assignInOrder [fun v => bindName X.env y v, fun v => bindName X.env x v] [u2, u1] >>= fun _ => pure Flow.next) _ _ _
 refine wpAny_bind (assignInOrder_cons (wpAny_bindName (eK I3 hN hj (.inl hy) rw' (fun s2 I4 => ?_) (.inr hy))))
 refine assignInOrder_cons (wpAny_bindName (eK I4 hN hi (.inl hx) rv (fun s3 I5 => assignInOrder_nil (wpAny_pure ?_)) (.inr hx)))
 rw [List.set_comm _ _ (Ne.symm hij)] at I5
 exact ⟨_, H1, I5, q1⟩
end
section
variable {X:Cx} {pos:Pos}
end
structure It where
 go:Nat → Hp → Prop
 yld:Nat → Hp → V → Hp → Prop
 stop:Nat → Hp → Prop
noncomputable def FpOk (X:Cx) (pins:List (Addr × Obj)) (H:Hp) (b:Addr):Prop :=
 H b = none ∧ b ≠ X.env.locals ∧ b ∉ X.fs ∧ (b ∈ X.ex ∨ X.s₀.heap.objs.size ≤ b) ∧ (∀ x c, X.env.cells.lookup x = some c → c ≠ b) ∧ ∀ p ∈ X.pn ++ pins, p.1 ≠ b
theorem Inv.fpOk {X:Cx} {pins:List (Addr × Obj)} {σ:St} {H H':Hp} {s:Shared} {b:Addr} (I:Inv X pins σ H s) (hb:s.heap.objs.size ≤ b) (hn:H' b = none):FpOk X pins H' b := by
 refine ⟨hn, Nat.ne_of_gt (nz1 I.lt hb), I.nofs hb, .inr (nz4 I.sz hb), fun x c e z => ?_, fun p hp z => ?_⟩
 ·refine oq11 (I.cell x c e) fun v q => ?_
  exact absurd (nz1 q.lt (by rw [z]; exact hb)) (Nat.lt_irrefl _)
 ·exact absurd (nz1 (Heap.lt_size (I.pin p hp).1) (by rw [z]; exact hb)) (Nat.lt_irrefl _)
structure Turn (P:Program) (w:World) (K:PySem.W.Frag) (tg:Expr) (J:It) (fp:List Addr) (it:Addr) (tn:Nat → Heap → Prop):Prop where
 mem:it ∈ fp
 obj:∀ i h, tn i h → ∀ b ∈ fp, ∃ o, h.get? b = some o ∧ ∀ v, o.data ≠ .cell v
 keep:∀ i h h', tn i h → (∀ b ∈ fp, ∀ o, h.get? b = some o → h'.get? b = some o) → tn i h'
 item:∀ (X:Cx), X.prog = P → X.w = w → X.K = K → X.calm = true → ∀ (i:Nat) (pins:List (Addr × Obj)) (s:Shared) (σ:St) (H:Hp) (E:Value → Shared → Prop), Inv X pins σ H s → (∀ b ∈ fp, FpOk X pins H b) → tn i s.heap → J.go i H →
  wpAny (model P w) X.A (pyNext (.ref it)) (fun r s1 => ∃ u, r = some u ∧
   wpAny (model P w) X.A (letOwnedTupleGo tg (.ref it) u) (fun _ s2 => ∃ x H', Inv X pins σ H' s2 ∧ RelV x u ∧ J.yld i H x H' ∧ tn (i + 1) s2.heap ∧ ∀ b ∈ fp, H' b = none) E s1) E s
 done:∀ (X:Cx), X.prog = P → X.w = w → X.K = K → X.calm = true → ∀ (i:Nat) (pins:List (Addr × Obj)) (s:Shared) (σ:St) (H:Hp) (E:Value → Shared → Prop), Inv X pins σ H s → (∀ b ∈ fp, FpOk X pins H b) → tn i s.heap → J.stop i H →
  wpAny (model P w) X.A (pyNext (.ref it)) (fun r s1 => r = none ∧ Inv X pins σ H s1) E s
 self:∀ (A:Around) (i:Nat) (s:Shared) (Q:Value → Shared → Prop) (E:Value → Shared → Prop), tn i s.heap → Q (.ref it) s → wpAny (model P w) A (pyIter (.ref it)) Q E s
noncomputable abbrev TI := St → Hp → (It → Hp → Prop) → Prop
noncomputable def PIE (X:Cx) (pins:List (Addr × Obj)) (σ:St) (tg:Expr) (R:It → Hp → Prop) (itv:Value) (s2:Shared):Prop :=
 ∃ (it:Addr) (fp:List Addr) (tn:Nat → Heap → Prop) (J:It) (H':Hp), itv = .ref it ∧ Inv X pins σ H' s2 ∧ Turn X.prog X.w X.K tg J fp it tn ∧ tn 0 s2.heap ∧ (∀ b ∈ fp, FpOk X pins H' b) ∧ R J H'
noncomputable def PI (X:Cx) (tg iter:Expr) (wi:TI):Prop :=
 ∀ (pins:List (Addr × Obj)) (s:Shared) (σ:St) (H:Hp) (R:It → Hp → Prop), Inv X pins σ H s → wi σ H R →
  wpAny (model X.prog X.w) X.A (eval iter X.env) (fun v s1 => wpAny (model X.prog X.w) X.A (pyIter v) (PIE X pins σ tg R) X.xe s1) X.xe s
theorem go_of {M:Model} {A:Around} {E:Value → Shared → Prop} {s:Shared} {tg:Expr} {it:Addr} {u:Value} {o:Obj} {n:String} {vs:Array Value} {Q:Unit → Shared → Prop} (ho:s.heap.get? it = some o) (hc:o.cls = .type n) (hd:o.data = .fields vs)
    (hn:["enumerate", "zip", "dict_itemiterator", "dict_reverseitemiterator", "odict_iterator", "itertools.zip_longest", "itertools.pairwise"].contains n = false) (hQ:Q () s):wpAny M A (letOwnedTupleGo tg (.ref it) u) Q E s := by
  unfold letOwnedTupleGo
  cases tg <;> first
    | exact wpAny_pure hQ
    | (cases u <;> first
        | exact wpAny_pure hQ
        | (refine wpAny_bind (wpAny_load ho ?_)
           rw [hc, hd]
           show wpAny M A (if (["enumerate", "zip", "dict_itemiterator", "dict_reverseitemiterator", "odict_iterator", "itertools.zip_longest", "itertools.pairwise"].contains n && vs[0]? == some (rawInt _)) = true then _ else _) Q E s
           rw [if_neg (by intro h; rw [hn, Bool.false_and] at h; cases h)]
           exact wpAny_pure hQ))
noncomputable def Itl (K:PySem.W.Frag) (a:Addr):It :=
 ⟨fun i H => ∃ xs x, SqL K H a xs ∧ xs[i]? = some x, fun i H x H' => H' = H ∧ ∀ xs, SqL K H a xs → xs[i]? = some x, fun i H => ∃ xs, SqL K H a xs ∧ xs.length ≤ i⟩
noncomputable def Itr (lo:Int) (n:Nat):It := ⟨fun i _ => i < n, fun i H x H' => H' = H ∧ x = .int (lo + i), fun i _ => n ≤ i⟩
theorem turn_list {P:Program} {w:World} {K:PySem.W.Frag} {tg:Expr} (a it:Addr):Turn P w K tg (Itl K a) [it] it (fun i h => h.IsListIter it a i) where
 mem := by simp
 obj := fun i h st b hb => by
  have e:b = it := by simpa using hb
  subst e
  refine oq13 st fun o e c d => ?_
  exact ⟨o, e, fun v z => by rw [d] at z; cases z⟩
 keep := fun i h h' st k => st.at fun o e => k it (by simp) o e
 item := by
  intro X hP hw hK hc i pins s σ H E I hf st hg
  subst hP hw hK
  refine oq22 hg fun xs x hq hx => ?_
  refine oq13 (I.list hq) fun its rv p hz => ?_
  refine oq12 (rv.get hx) fun u hu ru => ?_
  refine oq06 (hf it (by simp)) fun f0 f1 f2 f3 f4 f5 => ?_
  refine wpAny_pyNext_list_item st p.isList (x := u) (by simpa using hu) fun h' st' sb => ?_
  have I1:Inv X pins σ H { s with heap := h' } := I.turned (t' := s.toks) (fun b o hb e => (sb.2 b hb).trans e) f0 f1 f3 f4 f5
  refine oq13 (id st') fun o e c d => ?_
  exact ⟨u, rfl, go_of (s := { s with heap := h' }) e c d (by decide) ⟨x, H, I1, ru, ⟨rfl, fun ys hy => by rw [I.list_inj hy hq]; exact hx⟩, st', fun b hb => (hf b hb).1⟩⟩
 done := by
  intro X hP hw hK hc i pins s σ H E I hf st hg
  subst hP hw hK
  refine oq12 hg fun xs hq hx => ?_
  refine oq13 (I.list hq) fun its rv p hz => ?_
  refine oq06 (hf it (by simp)) fun f0 f1 f2 f3 f4 f5 => ?_
  have hl := rv.length
  exact wpAny_pyNext_list_end (I.ok.hd hc) st p.isList (by simp; omega) fun h' eb => ⟨rfl, I.turned (t' := s.toks) (fun b o hb e => eb b o hb e) f0 f1 f3 f4 f5⟩
 self := fun _ _ _ _ _ st h => wpAny_pyIter_listiter st h
theorem lH {P:Program} {w:World} {K:PySem.W.Frag} {tg:Expr} (it:Addr) (lo:Int) (n:Nat):Turn P w K tg (Itr lo n) [it] it (fun i h => IsRangeIter h it (lo + (i:Nat) * 1) ((n:Int) - (i:Nat)) 1) where
 mem := by simp
 obj := fun i h st b hb => by
  have e:b = it := by simpa using hb
  subst e
  exact ⟨_, st, fun v z => by
   have z':Data.fields _ = Data.cell v := z
   cases z'⟩
 keep := fun i h h' st k => k it (by simp) _ st
 item := by
  intro X hP hw hK hc i pins s σ H E I hf st hg
  subst hP hw hK
  refine oq06 (hf it (by simp)) fun f0 f1 f2 f3 f4 f5 => ?_
  have W := Walks.range (prog := X.prog) (w := X.w) (I.ok.hd hc) it lo 1 n
  refine W.item i s _ _ hg st fun v h' tk hv st' kk => ?_
  refine oq11 hv fun t eq1_ => ?_; subst eq1_
  have I1:Inv X pins σ H { s with heap := h', toks := tk } := I.turned (fun b o hb e => kk b o (by simpa using hb) e) f0 f1 f3 f4 f5
  refine ⟨_, rfl, go_of (s := { s with heap := h', toks := tk }) (n := "range_iterator") st' rfl rfl (by decide) ⟨.int (lo + i), H, I1, ⟨t, ?_⟩, ⟨rfl, rfl⟩, st', fun b hb => (hf b hb).1⟩⟩
  rw [Int.mul_one]
 done := by
  intro X hP hw hK hc i pins s σ H E I hf st hg
  subst hP hw hK
  refine oq06 (hf it (by simp)) fun f0 f1 f2 f3 f4 f5 => ?_
  exact wpAny_pyNext_range_end (I.ok.hd hc) st (by have:n ≤ i := hg; omega) fun h' eb => ⟨rfl, I.turned (t' := s.toks) (fun b o hb e => eb b o hb e) f0 f1 f3 f4 f5⟩
 self := fun _ _ _ _ _ st h => wpAny_pyIter_rangeiter st h
end L2
namespace L2
open PySem PySem.Spec PyProof.Rows
section
variable {X:Cx} {tg:Expr}
noncomputable def iList (K:PySem.W.Frag) (tl:TE):TI := fun σ H R => tl σ H fun x H1 => ∃ a, x = .ref a ∧ (∃ xs, SqL K H1 a xs) ∧ R (Itl K a) H1
theorem pi_list {l:Expr} {tl:TE} (hl:PE X l tl):PI X tg l (iList X.K tl) := by
 intro pins s σ H R I h
 refine thn (hl pins s σ H _ I h) fun v s1 zq => oq23 zq fun x H1 I1 r1 q1 => ?_
 obtain ⟨a, e, ⟨xs, hq⟩, q⟩ := q1
 subst e
 cases r1
 refine oq13 (I1.list hq) fun its rv p hz => ?_
 refine wpAny_pyIter_list p.isList ?_
 refine ⟨s1.heap.objs.size, [s1.heap.objs.size], _, _, H1, rfl, I1.kept (t' := s1.toks) fun b o e => Heap.get?_push_of_some _ e, turn_list a _, ⟨_, Heap.get?_push_size _ rfl, rfl, rfl⟩, fun b hb => ?_, q⟩
 have e:b = s1.heap.objs.size := by simpa using hb
 subst e
 exact I1.fpOk (nz6 _) (I1.hok.fresh (nz6 _))
theorem k8 {pins:List (Addr × Obj)} {σ:St} {H:Hp} {s:Shared} {R:It → Hp → Prop} {E:Value → Shared → Prop} {lo hi:Int} {t u v:Tok} {tk:Nat} (I:Inv X pins σ H s) (h1:-(2 ^ 62) ≤ lo) (h2:lo < 2 ^ 62) (h3:-(2 ^ 62) ≤ hi) (h4:hi < 2 ^ 62)
  (q:R (Itr lo (hi - lo).toNat) H):wpAny (model X.prog X.w) X.A (pyIter (.ref s.heap.objs.size)) (PIE X pins σ tg R) E { s with heap := s.heap.push { cls := .type "range", data := .fields #[.int lo t, .int hi u, .int 1 v] }, toks := tk } := by
 refine wpAny_pyIter_range (IsRange.new ..) (small_one h1 h2 h3 h4) ?_
 have I1:Inv X pins σ H { s with heap := s.heap.push { cls := .type "range", data := .fields #[.int lo t, .int hi u, .int 1 v] }, toks := tk } := I.kept fun b o e => Heap.get?_push_of_some _ e
 refine ⟨(s.heap.push { cls := .type "range", data := .fields #[.int lo t, .int hi u, .int 1 v] }).objs.size, [(s.heap.push { cls := .type "range", data := .fields #[.int lo t, .int hi u, .int 1 v] }).objs.size], _, _, H, rfl,
  I1.kept (t' := tk) fun b o e => Heap.get?_push_of_some _ e, lH _ lo (hi - lo).toNat, ?_, fun b hb => ?_, q⟩
 ·have e1:lo + ((0:Nat):Int) * 1 = lo := by simp
  have e2:(((hi - lo).toNat:Nat):Int) - ((0:Nat):Int) = Builtin.Range.rangeSize lo hi 1 := by rw [rangeSize_one]; split <;> omega
  show IsRangeIter _ _ (lo + ((0:Nat):Int) * 1) ((((hi - lo).toNat:Nat):Int) - ((0:Nat):Int)) 1
  rw [e1, e2]
  exact Heap.get?_push_size _ rfl
 ·have e:b = (s.heap.push { cls := .type "range", data := .fields #[.int lo t, .int hi u, .int 1 v] }).objs.size := by simpa using hb
  subst e
  exact I1.fpOk (nz6 _) (I1.hok.fresh (nz6 _))
noncomputable def iRng1 (ta:TA):TI := fun σ H R => ta σ H fun vs H1 => ∃ j:Int, vs = [.int j] ∧ -(2 ^ 62) ≤ j ∧ j < 2 ^ 62 ∧ R (Itr 0 j.toNat) H1
noncomputable def iRng2 (ta:TA):TI := fun σ H R => ta σ H fun vs H1 => ∃ i j:Int, vs = [.int i, .int j] ∧ (-(2 ^ 62) ≤ i ∧ i < 2 ^ 62 ∧ -(2 ^ 62) ≤ j ∧ j < 2 ^ 62) ∧ R (Itr i (j - i).toNat) H1
theorem fF {a:Expr} {ta:TA} {p pos:Pos} (hg:Gl X "range") (hm:X.mg "range" = none) (ha:PA X [a] ta) (hs:starEach [a] X.env = [(false, eval a X.env)] := by rfl):PI X tg (.Call (.Name "range" p) [a] [] pos) (iRng1 ta) := by
 intro pins s σ H R I h
 refine Call_ (cN I hg hm boot_range (PyProof.Rows.callWith_type1 (thn (ha pos pins s σ H _ I h) fun us s1 ⟨vs, H1, I1, r1, q1⟩ => ?_) hs rfl))
 obtain ⟨j, e, q1, q2, q⟩ := q1
 subst e
 cases r1 with
 | cons r rr =>
  cases rr
  obtain ⟨t, rfl⟩ := r
  exact call_range_1 (k8 I1 (by omega) (by omega) q1 q2 (by simpa using q))
theorem iM {a b:Expr} {ta:TA} {p pos:Pos} (hg:Gl X "range") (hm:X.mg "range" = none) (ha:PA X [a, b] ta) (hs:starEach [a, b] X.env = [(false, eval a X.env), (false, eval b X.env)] := by rfl) (hs2:starEach [b] X.env = [(false, eval b X.env)] := by rfl) :
  PI X tg (.Call (.Name "range" p) [a, b] [] pos) (iRng2 ta) := by
 intro pins s σ H R I h
 refine Call_ (cN I hg hm boot_range (PyProof.Rows.callWith_type1 (thn (ha pos pins s σ H _ I h) fun us s1 zq => oq23 zq fun vs H1 I1 r1 q1 => ?_) (by rw [hs, hs2]) (by rw [hs2]; rfl)))
 obtain ⟨i, j, e, ⟨q1, q2, q3, q4⟩, q⟩ := q1
 subst e
 cases r1 with
 | cons r rr =>
  cases rr with
  | cons r' rr =>
   cases rr
   refine oq11 r fun t eq1_ => ?_; subst eq1_
   refine oq11 r' fun t' eq1_ => ?_; subst eq1_
   exact call_range_2 (k8 I1 q1 q2 q3 q4 q)
noncomputable def tFor (wi:TI) (g:TG) (tb:TS):TS := fun D σ H => wi σ H fun J H1 => ∃ W:Nat → Nat → St → Hp → Prop, (∃ m, W 0 m σ H1) ∧ ∀ i m σ H, W i m σ H →
 (J.stop i H ∧ D.nx σ H) ∨ (J.go i H ∧ ∃ N:St → Hp → Prop, (∀ σ' H', N σ' H' → ∃ m', m' < m ∧ W (i + 1) m' σ' H') ∧ ∀ x H', J.yld i H x H' → g x σ H' fun σ2 H2 => tb { D with nx := N, ct := N, bk := D.nx } σ2 H2)
noncomputable def gF (fp:List Addr) (h:Heap):List (Addr × Obj) := fp.filterMap fun b => (h.get? b).map fun o => (b, o)
theorem cZ {fp:List Addr} {h:Heap} {b:Addr} {o:Obj} (hb:b ∈ fp) (e:h.get? b = some o):(b, o) ∈ gF fp h := List.mem_filterMap.mpr ⟨b, hb, by rw [e]; rfl⟩
theorem of_pinsAt {fp:List Addr} {h:Heap} {p:Addr × Obj} (hp:p ∈ gF fp h):p.1 ∈ fp ∧ h.get? p.1 = some p.2 := by
 refine oq12 (List.mem_filterMap.mp hp) fun b hb e => ?_
 cases q:h.get? b with
 | none => rw [q] at e; cases e
 | some o =>
  rw [q] at e
  have e':(b, o) = p := Option.some.inj e
  subst e'
  exact ⟨hb, q⟩
theorem Inv.pinned {pins:List (Addr × Obj)} {σ:St} {H:Hp} {s:Shared} {fp:List Addr} (I:Inv X pins σ H s) (hf:∀ b ∈ fp, FpOk X pins H b) (ho:∀ b ∈ fp, ∃ o, s.heap.get? b = some o ∧ ∀ v, o.data ≠ .cell v):Inv X (pins ++ gF fp s.heap) σ H s :=
 I.pins_of fun p hp => (List.mem_append.mp hp).elim (fun z => I.pin p (List.mem_append_right _ z)) fun z => by
  refine oq02 (of_pinsAt z) fun hb e => ?_
  refine oq04 (hf p.1 hb) fun f0 f1 f2 _ => ?_
  refine oq12 (ho p.1 hb) fun o e' d => ?_
  rw [e] at e'; cases e'
  exact ⟨e, f0, f1, f2, d⟩
theorem Inv.unpinned {pins pl:List (Addr × Obj)} {σ:St} {H:Hp} {s:Shared} (I:Inv X (pins ++ pl) σ H s):Inv X pins σ H s := I.pins_of fun p hp => I.pin p (List.mem_append_right _ (List.mem_append_left _ hp))
theorem bR {iter:Expr} {body:List Stmt} {wi:TI} {g:TG} {tb:TS} {pos:Pos} (hp:PassesOwn (model X.prog X.w) X.A X.env X.xe) (hc:X.calm = true) (hi:PI X tg iter wi) (hg:PG X tg g) (hb:PSs X body tb)
  (hs:∀ x, foldedSetIterable iter X.env x = pure x := by intro _; rfl):PS X (.For tg iter body [] pos) (tFor wi g tb) := by
 intro pins s σ H D I h
 refine wpAny_For (thn (hi pins s σ H _ I h) fun v s1 h1 => thn h1 fun itv s2 h2 => ?_) hs
 obtain ⟨it, fp, tn, J, H2, e, I2, T, st2, f2, W, ⟨m0, w0⟩, turn⟩ := h2
 subst e
 have stat:∀ {H':Hp}, (∀ b ∈ fp, H' b = none) → ∀ b ∈ fp, FpOk X pins H' b := fun hn b hb => ⟨hn b hb, (f2 b hb).2⟩
 refine codeAny_forLoop_any (fun n s' => ∃ i σ' H', Inv X pins σ' H' s' ∧ tn i s'.heap ∧ (∀ b ∈ fp, H' b = none) ∧ W i n σ' H') ?_ m0 ⟨0, σ, H2, I2, st2, fun b hb => (f2 b hb).1, w0⟩
 intro n s3 zq; refine oq34 zq fun i σ3 H3 I3 st3 fr3 w3 => ?_
 rcases turn i n σ3 H3 w3 with ⟨stop, qn⟩ | ⟨go, N, hN, step⟩
 ·refine wpAny_passesOwn hp (thn (T.done X rfl rfl rfl hc i pins s3 σ3 H3 X.xe I3 (stat fr3) st3 stop) fun r s4 zq => oq02 zq fun hr I4 => ?_)
  subst hr
  exact wpAny_execs_nil ⟨σ3, H3, I4, qn⟩
 ·refine wpAny_passesOwn hp (thn (T.item X rfl rfl rfl hc i pins s3 σ3 H3 X.xe I3 (stat fr3) st3 go) fun r s4 zq => oq12 zq fun u hr h4 => ?_)
  subst hr
  refine wpAny_passesOwn hp (thn h4 fun _ s5 zq => oq25 zq fun x H5 I5 r5 y5 st5 fr5 => ?_)
  have I5' := I5.pinned (stat fr5) (T.obj _ _ st5)
  refine wpAny_passesOwn hp (thn (hg _ s5 σ3 H5 x u _ I5' r5 (step x H5 y5)) fun _ s6 zq => oq22 zq fun σ6 H6 I6 q6 => ?_)
  refine wpAny_passesOwn hp (thn (hb _ s6 σ6 H6 _ I6 q6) fun f s7 q7 => ?_)
  have again:∀ {σ7:St} {H7:Hp}, Inv X (pins ++ gF fp s5.heap) σ7 H7 s7 → N σ7 H7 → ∃ m, m < n ∧ ∃ i σ' H', Inv X pins σ' H' s7 ∧ tn i s7.heap ∧ (∀ b ∈ fp, H' b = none) ∧ W i m σ' H' := fun {σ7 H7} I7 n7 => by
   refine oq12 (hN σ7 H7 n7) fun m' hm w7 => ?_
   refine ⟨m', hm, i + 1, σ7, H7, I7.unpinned, T.keep _ _ _ st5 fun b hb o e => (I7.pin (b, o) (List.mem_append_right _ (List.mem_append_right _ (cZ hb e)))).1, fun b hb => ?_, w7⟩
   refine oq12 (T.obj _ _ st5 b hb) fun o e d => ?_
   exact (I7.pin (b, o) (List.mem_append_right _ (List.mem_append_right _ (cZ hb e)))).2.1
  cases f with
  | next => refine oq22 q7 fun σ7 H7 I7 n7 => ?_; exact again I7 n7
  | cont => refine oq22 q7 fun σ7 H7 I7 n7 => ?_; exact again I7 n7
  | brk => refine oq22 q7 fun σ7 H7 I7 q7 => ?_; exact ⟨σ7, H7, I7.unpinned, q7⟩
  | ret v => refine oq33 q7 fun x7 σ7 H7 I7 r7 q7 => ?_; exact ⟨x7, σ7, H7, I7.unpinned, r7, q7⟩
end
end L2
namespace L2
open PySem PySem.Spec PyProof.Rows
noncomputable abbrev R2 := V → V → Hp → VK → Prop
noncomputable def OpR (X:Cx) (f:Value → Value → Sem Value) (r:R2):Prop :=
 ∀ (pins:List (Addr × Obj)) (s:Shared) (σ:St) (H:Hp) (x y:V) (v u:Value) (Q:VK), Inv X pins σ H s → RelV x v → RelV y u → r x y H Q →
  wpAny (model X.prog X.w) X.A (f v u) (EP X pins σ Q) X.xe s
noncomputable def UnR (X:Cx) (f:Value → Sem Value) (r:V → Hp → VK → Prop):Prop :=
 ∀ (pins:List (Addr × Obj)) (s:Shared) (σ:St) (H:Hp) (x:V) (v:Value) (Q:VK), Inv X pins σ H s → RelV x v → r x H Q →
  wpAny (model X.prog X.w) X.A (f v) (EP X pins σ Q) X.xe s
noncomputable def ci (X:Cx) (f:Value) (r:List V → Hp → VK → Prop):Prop :=
 ∀ (pins:List (Addr × Obj)) (s:Shared) (σ:St) (H:Hp) (xs:List V) (us:List Value) (Q:VK), Inv X pins σ H s → Vals xs us → r xs H Q →
  wpAny (model X.prog X.w) X.A (call f us) (EP X pins σ Q) X.xe s
noncomputable def TruR (X:Cx) (r:V → Hp → (Bool → Hp → Prop) → Prop):Prop :=
 ∀ (pins:List (Addr × Obj)) (s:Shared) (σ:St) (H:Hp) (x:V) (v:Value) (Q:Bool → Hp → Prop), Inv X pins σ H s → RelV x v → r x H Q →
  wpAny (model X.prog X.w) X.A (truthy v) (TP X pins σ Q) X.xe s
noncomputable def tOp (r:R2) (ta tb:TE):TE := fun σ H Q => ta σ H fun x H1 => tb σ H1 fun y H2 => r x y H2 Q
noncomputable def tUn (r:V → Hp → VK → Prop) (ta:TE):TE := fun σ H Q => ta σ H fun x H1 => r x H1 Q
noncomputable def rI (C:Int → Int → Prop) (g:Int → Int → V):R2 := fun x y H Q => ∃ i j, x = .int i ∧ y = .int j ∧ C i j ∧ Q (g i j) H
noncomputable def rI0 (g:Int → Int → V):R2 := fun x y H Q => ∃ i j, x = .int i ∧ y = .int j ∧ Q (g i j) H
noncomputable def rU (g:Int → V):V → Hp → VK → Prop := fun x H Q => ∃ i, x = .int i ∧ Q (g i) H
section
variable {X:Cx} {a b c:Expr} {ta tb tc:TE} {pos:Pos}
theorem binT (ha:PE X a ta) (hb:PE X b tb) {pins:List (Addr × Obj)} {s:Shared} {σ:St} {H:Hp} {R:V → V → Hp → Prop} (I:Inv X pins σ H s)
  (h:ta σ H fun x H1 => tb σ H1 fun y H2 => R x y H2) {Q:Value → Shared → Prop} {f:Value → Value → Sem Value}
  (hf:∀ v u s2 x y H2, Inv X pins σ H2 s2 → RelV x v → RelV y u → R x y H2 → wpAny (model X.prog X.w) X.A (f v u) Q X.xe s2) :
  wpAny (model X.prog X.w) X.A (eval a X.env) (fun v s₁ => wpAny (model X.prog X.w) X.A (eval b X.env) (fun u s₂ => wpAny (model X.prog X.w) X.A (f v u) Q X.xe s₂) X.xe s₁) X.xe s := by
 refine thn (ha pins s σ H _ I h) fun v s1 zq => oq23 zq fun x H1 I1 r1 q1 => ?_
 refine thn (hb pins s1 σ H1 _ I1 q1) fun u s2 zq => oq23 zq fun y H2 I2 r2 q2 => ?_
 exact hf v u s2 x y H2 I2 r1 r2 q2
theorem au {op:Operator} {r:R2} (ho:OpR X (binaryOp op) r) (ha:PE X a ta) (hb:PE X b tb):PE X (.BinOp a op b pos) (tOp r ta tb) := by
 intro pins s σ H Q I h
 exact wpAny_BinOp (binT ha hb I h fun v u s2 x y H2 I2 rx ry q => ho pins s2 σ H2 x y v u Q I2 rx ry q)
theorem pe_un {op:UnaryOp} {r:V → Hp → VK → Prop} (ho:UnR X (unaryOp op) r) (ha:PE X a ta):PE X (.UnaryOp op a pos) (tUn r ta) := by
 intro pins s σ H Q I h
 exact UnaryOp_ (thn (ha pins s σ H _ I h) fun v s1 zq => oq23 zq fun x H1 I1 r1 q1 => ho pins s1 σ H1 x v Q I1 r1 q1)
theorem opI {f:Value → Value → Sem Value} {C:Int → Int → Prop} {g:Int → Int → Int}
  (rule:∀ (i j:Int) (t u:Tok) (s:Shared) (Q:Value → Shared → Prop) (E:Value → Shared → Prop), C i j → Q (.int (g i j) s.toks) { s with toks := s.toks + 1 } → wpAny (model X.prog X.w) X.A (f (.int i t) (.int j u)) Q E s) :
  OpR X f (rI C fun i j => .int (g i j)) := by
 intro pins s σ H x y v u Q I rx ry h
 refine oq24 h fun i j eq2_ eq3_ hc q => ?_; subst eq2_; subst eq3_
 refine oq11 rx fun t eq1_ => ?_; subst eq1_
 refine oq11 ry fun t' eq1_ => ?_; subst eq1_
 exact rule i j t t' s _ _ hc ⟨.int (g i j), H, I.tok _, ⟨_, rfl⟩, q⟩
theorem opI0 {f:Value → Value → Sem Value} {g:Int → Int → Int}
  (rule:∀ (i j:Int) (t u:Tok) (s:Shared) (Q:Value → Shared → Prop) (E:Value → Shared → Prop), Q (.int (g i j) s.toks) { s with toks := s.toks + 1 } → wpAny (model X.prog X.w) X.A (f (.int i t) (.int j u)) Q E s) :
  OpR X f (rI0 fun i j => .int (g i j)) := by
 intro pins s σ H x y v u Q I rx ry h
 refine oq23 h fun i j eq2_ eq3_ q => ?_; subst eq2_; subst eq3_
 refine oq11 rx fun t eq1_ => ?_; subst eq1_
 refine oq11 ry fun t' eq1_ => ?_; subst eq1_
 exact rule i j t t' s _ _ ⟨.int (g i j), H, I.tok _, ⟨_, rfl⟩, q⟩
theorem opB0 {f:Value → Value → Sem Value} {g:Int → Int → Bool}
  (rule:∀ (i j:Int) (t u:Tok) (s:Shared) (Q:Value → Shared → Prop) (E:Value → Shared → Prop), Q (.bool (g i j)) s → wpAny (model X.prog X.w) X.A (f (.int i t) (.int j u)) Q E s) :
  OpR X f (rI0 fun i j => .bl (g i j)) := by
 intro pins s σ H x y v u Q I rx ry h
 refine oq23 h fun i j eq2_ eq3_ q => ?_; subst eq2_; subst eq3_
 refine oq11 rx fun t eq1_ => ?_; subst eq1_
 refine oq11 ry fun t' eq1_ => ?_; subst eq1_
 exact rule i j t t' s _ _ ⟨.bl (g i j), H, I, rfl, q⟩
noncomputable def CPow (i j:Int):Prop := 0 ≤ j ∧ j ≤ 1000000 ∧ i.natAbs < 2 ^ 64
noncomputable def CMul (i j:Int):Prop := (-(2 ^ 64) < i ∧ i < 2 ^ 64) ∨ (-(2 ^ 64) < j ∧ j < 2 ^ 64)
theorem CMul.ok {i j:Int} (h:CMul i j):IntMulOk i j := by
 rcases h with ⟨h1, h2⟩ | ⟨h1, h2⟩
 ·exact .of_left (intBits_le_64 h1 h2)
 ·exact .of_right (intBits_le_64 h1 h2)
theorem aN:OpR X (binaryOp .Add) (rI0 fun i j => .int (i + j)) := opI0 fun _ _ _ _ _ _ _ q => add_int q
theorem fG:OpR X (binaryOp .Sub) (rI0 fun i j => .int (i - j)) := opI0 fun _ _ _ _ _ _ _ q => sub_int q
theorem bJ:OpR X (binaryOp .Mult) (rI CMul fun i j => .int (i * j)) := opI fun _ _ _ _ _ _ _ hc q => mul_int q hc.ok
theorem cq:OpR X (binaryOp .Mod) (rI (fun _ j => 0 < j) fun i j => .int (i % j)) := opI fun i j _ _ _ _ _ hc q => by
 have h1:(0:Int) < j := hc
 exact mod_int' (by omega) (by rw [Int.fmod_eq_emod_of_nonneg i (by omega)]; exact q)
theorem op_pow:OpR X (binaryOp .Pow) (rI CPow fun i j => .int (i ^ j.toNat)) := opI fun _ _ _ _ _ _ _ hc q => pow_int_small hc.1 hc.2.1 hc.2.2 q
theorem unI {f:Value → Sem Value} {g:Int → Int}
  (rule:∀ (i:Int) (t:Tok) (s:Shared) (Q:Value → Shared → Prop) (E:Value → Shared → Prop), Q (.int (g i) s.toks) { s with toks := s.toks + 1 } → wpAny (model X.prog X.w) X.A (f (.int i t)) Q E s) :
  UnR X f (rU fun i => .int (g i)) := by
 intro pins s σ H x v Q I rx h
 refine oq12 h fun i eq1_ q => ?_; subst eq1_
 refine oq11 rx fun t eq1_ => ?_; subst eq1_
 exact rule i t s _ _ ⟨.int (g i), H, I.tok _, ⟨_, rfl⟩, q⟩
theorem un_neg:UnR X (unaryOp .USub) (rU fun i => .int (-i)) := unI fun _ _ _ _ _ q => neg_int q
end
noncomputable def scal:V → V → Bool
 | .non, .non => true | .non, .int _ => true | .int _, .non => true | .non, .bl _ => true | .bl _, .non => true | .non, .str _ => true | .str _, .non => true
 | .int _, .int _ => true | .bl _, .bl _ => true | .str _, .str _ => true | .byt _, .byt _ => true
 | .int _, .str _ => true | .str _, .int _ => true | .bl _, .str _ => true | .str _, .bl _ => true
 | _, _ => false
noncomputable def rEq:R2 := fun x y H Q => scal x y = true ∧ Q (.bl (decide (x = y))) H
noncomputable def rNe:R2 := fun x y H Q => scal x y = true ∧ Q (.bl (!decide (x = y))) H
theorem mT {i j:Int}:decide (V.int i = V.int j) = (i == j) := by
 rw [Bool.eq_iff_iff]
 simp
theorem dec_bl {i j:Bool}:decide (V.bl i = V.bl j) = (i == j) := by
 rw [Bool.eq_iff_iff]
 simp
theorem mU {i j:Str}:decide (V.str i = V.str j) = (i == j) := by
 rw [Bool.eq_iff_iff]
 simp
theorem mV {i j:Array UInt8}:decide (V.byt i = V.byt j) = (i.toList == j.toList) := by
 rw [Bool.eq_iff_iff]
 cases i
 cases j
 simp
section
variable {X:Cx} {a b c:Expr} {ta tb tc:TE} {pos:Pos}
theorem aF {pins:List (Addr × Obj)} {σ:St} {H:Hp} {s:Shared} {Q:VK} {k k':Bool} (I:Inv X pins σ H s) (q:Q (.bl k) H) (e:k = k'):EP X pins σ Q (.bool k') s := by
 subst e
 exact ⟨.bl k, H, I, rfl, q⟩
theorem eP:OpR X (compareOp .Eq) rEq := by
 intro pins s σ H x y v u Q I rx ry h
 refine oq02 h fun hs q => ?_
 cases x with
 | non =>
  cases rx
  cases y with
  | non => cases ry; exact PySem.EqNone.eq_none_none (aF I q (by simp))
  | bl j => cases ry; exact PySem.EqNone.eq_none_bool (aF I q (by simp))
  | int j => refine oq11 ry fun t' eq1_ => ?_; subst eq1_; exact PySem.EqNone.eq_none_int (aF I q (by simp))
  | str j => refine oq11 ry fun t' eq1_ => ?_; subst eq1_; exact PySem.EqNone.eq_none_str (aF I q (by simp))
  | _ => exact absurd (show false = true from hs) Bool.false_ne_true
 | bl i =>
  cases rx
  cases y with
  | non => cases ry; exact PySem.EqNone.eq_bool_none (aF I q (by simp))
  | bl j => cases ry; exact eq_bool (aF I q dec_bl)
  | str j => refine oq11 ry fun t' eq1_ => ?_; subst eq1_; exact PySem.EqMixed.eq_bool_str (aF I q (by simp))
  | _ => exact absurd (show false = true from hs) Bool.false_ne_true
 | int i =>
  refine oq11 rx fun t eq1_ => ?_; subst eq1_
  cases y with
  | non => cases ry; exact PySem.EqNone.eq_int_none (aF I q (by simp))
  | int j => refine oq11 ry fun t' eq1_ => ?_; subst eq1_; exact eq_int (aF I q mT)
  | str j => refine oq11 ry fun t' eq1_ => ?_; subst eq1_; exact PySem.EqMixed.eq_int_str (aF I q (by simp))
  | _ => exact absurd (show false = true from hs) Bool.false_ne_true
 | str i =>
  refine oq11 rx fun t eq1_ => ?_; subst eq1_
  cases y with
  | non => cases ry; exact PySem.EqNone.eq_str_none (aF I q (by simp))
  | bl j => cases ry; exact PySem.EqMixed.eq_str_bool (aF I q (by simp))
  | int j => refine oq11 ry fun t' eq1_ => ?_; subst eq1_; exact PySem.EqMixed.eq_str_int (aF I q (by simp))
  | str j => refine oq11 ry fun t' eq1_ => ?_; subst eq1_; exact eq_str (aF I q mU)
  | _ => exact absurd (show false = true from hs) Bool.false_ne_true
 | byt i =>
  refine oq11 rx fun t eq1_ => ?_; subst eq1_
  cases y with
  | byt j => refine oq11 ry fun t' eq1_ => ?_; subst eq1_; exact PySem.W.eq_bytes (aF I q mV)
  | _ => exact absurd (show false = true from hs) Bool.false_ne_true
 | _ => cases y <;> exact absurd (show false = true from hs) Bool.false_ne_true
theorem iN:OpR X (compareOp .NotEq) rNe := by
 intro pins s σ H x y v u Q I rx ry h
 refine oq02 h fun hs q => ?_
 cases x with
 | non =>
  cases rx
  cases y with
  | non => cases ry; exact PySem.EqNone.ne_none_none (aF I q (by simp))
  | bl j => cases ry; exact PySem.EqNone.ne_none_bool (aF I q (by simp))
  | int j => refine oq11 ry fun t' eq1_ => ?_; subst eq1_; exact PySem.EqNone.ne_none_int (aF I q (by simp))
  | str j => refine oq11 ry fun t' eq1_ => ?_; subst eq1_; exact PySem.EqNone.ne_none_str (aF I q (by simp))
  | _ => exact absurd (show false = true from hs) Bool.false_ne_true
 | bl i =>
  cases rx
  cases y with
  | non => cases ry; exact PySem.EqNone.ne_bool_none (aF I q (by simp))
  | bl j => cases ry; exact ne_bool (aF I q (congrArg not dec_bl))
  | str j => refine oq11 ry fun t' eq1_ => ?_; subst eq1_; exact PySem.EqMixed.ne_bool_str (aF I q (by simp))
  | _ => exact absurd (show false = true from hs) Bool.false_ne_true
 | int i =>
  refine oq11 rx fun t eq1_ => ?_; subst eq1_
  cases y with
  | non => cases ry; exact PySem.EqNone.ne_int_none (aF I q (by simp))
  | int j => refine oq11 ry fun t' eq1_ => ?_; subst eq1_; exact ne_int (aF I q (congrArg not mT))
  | str j => refine oq11 ry fun t' eq1_ => ?_; subst eq1_; exact PySem.EqMixed.ne_int_str (aF I q (by simp))
  | _ => exact absurd (show false = true from hs) Bool.false_ne_true
 | str i =>
  refine oq11 rx fun t eq1_ => ?_; subst eq1_
  cases y with
  | non => cases ry; exact PySem.EqNone.ne_str_none (aF I q (by simp))
  | bl j => cases ry; exact PySem.EqMixed.ne_str_bool (aF I q (by simp))
  | int j => refine oq11 ry fun t' eq1_ => ?_; subst eq1_; exact PySem.EqMixed.ne_str_int (aF I q (by simp))
  | str j => refine oq11 ry fun t' eq1_ => ?_; subst eq1_; exact ne_str (aF I q (congrArg not mU))
  | _ => exact absurd (show false = true from hs) Bool.false_ne_true
 | byt i =>
  refine oq11 rx fun t eq1_ => ?_; subst eq1_
  cases y with
  | byt j => refine oq11 ry fun t' eq1_ => ?_; subst eq1_; exact PySem.W.ne_bytes (aF I q (congrArg not mV))
  | _ => exact absurd (show false = true from hs) Bool.false_ne_true
 | _ => cases y <;> exact absurd (show false = true from hs) Bool.false_ne_true
theorem k9:OpR X (compareOp .Lt) (rI0 fun i j => .bl (decide (i < j))) := opB0 fun _ _ _ _ _ _ _ q => lt_int q
theorem op_le:OpR X (compareOp .LtE) (rI0 fun i j => .bl (decide (i ≤ j))) := opB0 fun _ _ _ _ _ _ _ q => le_int q
theorem lJ:OpR X (compareOp .Is) (fun x y H Q => y = .non ∧ Q (.bl (decide (x = .non))) H) := by
 intro pins s σ H x y v u Q I rx ry h
 refine oq02 h fun eq0_ q => ?_; subst eq0_
 cases ry
 refine is_none_gen (aF I q ?_)
 cases x <;> first
  | (cases rx; rfl)
  | (refine oq11 rx fun t eq1_ => ?_; subst eq1_; rfl)
theorem aS (b:Expr) {op:CmpOp} (h:op ≠ .In := by decide) (h2:op ≠ .NotIn := by decide):behindInMarks op b = false := by
 have e1:(op == CmpOp.In) = false := by cases op <;> first | rfl | exact absurd rfl h
 have e2:(op == CmpOp.NotIn) = false := by cases op <;> first | rfl | exact absurd rfl h2
 cases b <;> simp [behindInMarks, e1, e2]
theorem dF {op:CmpOp} {r:R2} (ho:OpR X (compareOp op) r) (ha:PE X a ta) (hb:PE X b tb) (hm:behindInMarks op b = false):PE X (.Compare a [op] [b] pos) (tOp r ta tb) := by
 intro pins s σ H Q I h
 exact wpAny_Compare1 (binT ha hb I h fun v u s2 x y H2 I2 rx ry q => ho pins s2 σ H2 x y v u Q I2 rx ry q) hm
noncomputable def tTest (t:TE):TT := fun σ H Q => t σ H fun x H' => ∃ k, x = .bl k ∧ Q k H'
theorem b8 {op:CmpOp} {r:R2} (ho:OpR X (compareOp op) r) (ha:PE X a ta) (hb:PE X b tb) (hm:behindInMarks op b = false):PT X (.Compare a [op] [b] pos) (tTest (tOp r ta tb)) := by
 intro pins s σ H Q I h
 refine wpAny_isTrue_Compare1 (thn (ha pins s σ H _ I h) fun v s1 zq => oq23 zq fun x H1 I1 r1 q1 => thn (hb pins s1 σ H1 _ I1 q1) fun u s2 zq => oq23 zq fun y H2 I2 r2 q2 =>
  thn (ho pins s2 σ H2 x y v u _ I2 r1 r2 q2) fun c s3 zq => oq23 zq fun z H3 I3 r3 zz => oq12 zz fun k e q3 => ?_) hm
 subst e
 cases r3
 exact wpAny_truthy_bool ⟨H3, I3, q3⟩
noncomputable def jd (r r':R2) (ta tb tc:TE):TE := fun σ H Q => ta σ H fun x H1 => tb σ H1 fun y H2 => r x y H2 fun z H3 => ∃ k, z = .bl k ∧
 (if k = true then tc σ H3 fun w' H4 => r' y w' H4 Q else Q (.bl false) H3)
theorem kc {op op':CmpOp} {r r':R2} (ho:OpR X (compareOp op) r) (ho':OpR X (compareOp op') r') (ha:PE X a ta) (hb:PE X b tb) (hc:PE X c tc)
  (hm:lastMarks [op, op'] [b, c] = false := by with_unfolding_all rfl):PE X (.Compare a [op, op'] [b, c] pos) (jd r r' ta tb tc) := by
 intro pins s σ H Q I h
 refine Compare_chain (thn (ha pins s σ H _ I h) fun v s1 zq => oq23 zq fun x H1 I1 r1 q1 => chain_link (thn (hb pins s1 σ H1 _ I1 q1) fun u s2 zq => oq23 zq fun y H2 I2 r2 q2 =>
  thn (ho pins s2 σ H2 x y v u _ I2 r1 r2 q2) fun d s3 zq => oq23 zq fun z H3 I3 r3 zz => oq12 zz fun k e q3 => ?_)) hm
 subst e
 cases r3
 refine wpAny_truthy_bool ?_
 cases k with
 | false => exact ite_ff ⟨.bl false, H3, I3, rfl, q3⟩
 | true => exact ite_tt (chain_last (thn (hc pins s3 σ H3 _ I3 q3) fun w' s4 zq => oq23 zq fun z' H4 I4 r4 q4 => ho' pins s4 σ H4 y z' u w' Q I4 r2 r4 q4))
theorem pt_chain {op op':CmpOp} {r r':R2} (ho:OpR X (compareOp op) r) (ho':OpR X (compareOp op') r') (ha:PE X a ta) (hb:PE X b tb) (hc:PE X c tc)
  (hm:lastMarks [op, op'] [b, c] = false := by with_unfolding_all rfl):PT X (.Compare a [op, op'] [b, c] pos) (tTest (jd r r' ta tb tc)) := by
 intro pins s σ H Q I h
 refine isTrue_chain (thn (ha pins s σ H _ I h) fun v s1 zq => oq23 zq fun x H1 I1 r1 q1 => test_link (thn (hb pins s1 σ H1 _ I1 q1) fun u s2 zq => oq23 zq fun y H2 I2 r2 q2 =>
  thn (ho pins s2 σ H2 x y v u _ I2 r1 r2 q2) fun d s3 zq => oq23 zq fun z H3 I3 r3 zz => oq12 zz fun k e q3 => ?_)) hm
 subst e
 cases r3
 refine wpAny_truthy_bool ?_
 cases k with
 | false =>
  refine oq12 q3 fun k' e' q' => ?_
  cases e'
  exact ite_ff ⟨H3, I3, q'⟩
 | true =>
  refine ite_tt (test_last (thn (hc pins s3 σ H3 _ I3 q3) fun w' s4 zq => oq23 zq fun z' H4 I4 r4 q4 => thn (ho' pins s4 σ H4 y z' u w' _ I4 r2 r4 q4) fun d' s5 zq => oq23 zq fun z2 H5 I5 r5 zz => oq12 zz fun k2 e2 q5 => ?_))
  subst e2
  cases r5
  exact wpAny_truthy_bool ⟨H5, I5, q5⟩
noncomputable def TruV (K:PySem.W.Frag) (x:V) (H:Hp) (k:Bool):Prop :=
 match x with
 | .non => k = false
 | .bl b => k = b
 | .int i => k = (i != 0)
 | .str y => y.length ≤ sizeLine ∧ k = ((y.length:Int) != 0)
 | .byt y => y.size ≤ sizeLine ∧ k = ((y.size:Int) != 0)
 | .ref p => (∃ xs, SqL K H p xs ∧ k = !xs.isEmpty) ∨ (∃ xs, SqT K H p xs ∧ k = !xs.isEmpty) ∨ ∃ kvs, H p = some (.dK kvs) ∧ k = !kvs.isEmpty
 | _ => False
theorem lK {κ:Type} {kvs:List (κ × V)} {vs:List (κ × Value)} (r:KV kvs vs):(!vs.isEmpty) = !kvs.isEmpty := by
 cases r <;> rfl
theorem gG {xs:List V} {its:List Value} (r:Vals xs its):(!its.toArray.isEmpty) = !xs.isEmpty := by
 cases r <;> simp
theorem je:(sizeLine:Nat) < 2 ^ 63 := by rw [sizeLine_eq]; decide
theorem tru_ok:TruR X (fun x H Q => ∃ k, TruV X.K x H k ∧ Q k H) := by
 intro pins s σ H x v Q I rx h
 refine oq12 h fun k e q => ?_
 have hl := je
 have hs:sizeLine = 16777216 := sizeLine_eq
 cases x with
 | non =>
  cases rx
  have e':k = false := e
  subst e'
  exact truthy_none ⟨H, I, q⟩
 | bl b =>
  cases rx
  have e':k = b := e
  subst e'
  exact wpAny_truthy_bool ⟨H, I, q⟩
 | int i =>
  refine oq11 rx fun t eq1_ => ?_; subst eq1_
  have e':k = (i != 0) := e
  subst e'
  exact PySem.P.truthy_int ⟨H, I, q⟩
 | str y =>
  refine oq11 rx fun t eq1_ => ?_; subst eq1_
  refine oq02 (show y.length ≤ sizeLine ∧ k = ((y.length:Int) != 0) from e) fun hy e' => ?_
  subst e'
  exact PySem.P.truthy_str (by omega) ⟨H, I.tok _, q⟩
 | byt y =>
  refine oq11 rx fun t eq1_ => ?_; subst eq1_
  refine oq02 (show y.size ≤ sizeLine ∧ k = ((y.size:Int) != 0) from e) fun hy e' => ?_
  subst e'
  exact PySem.W.truthy_bytes (by omega) ⟨H, I.tok _, q⟩
 | ref p =>
  cases rx
  have e':(∃ xs, SqL X.K H p xs ∧ k = !xs.isEmpty) ∨ (∃ xs, SqT X.K H p xs ∧ k = !xs.isEmpty) ∨ ∃ kvs, H p = some (.dK kvs) ∧ k = !kvs.isEmpty := e
  rcases e' with ⟨xs, hx, e'⟩ | ⟨xs, hx, e'⟩ | ⟨kvs, hx, e'⟩
  ·subst e'
   refine oq13 (I.list hx) fun its r pl hz => ?_
   have hlen := r.length
   exact wpAny_truthy_list pl.isList (by simp only [List.size_toArray]; omega) ⟨H, I.tok _, by rw [gG r]; exact q⟩
  ·subst e'
   refine oq13 (I.tuple hx) fun its r pl hz => ?_
   have hlen := r.length
   exact truthy_tuple pl (by simp only [List.size_toArray]; omega) ⟨H, I.tok _, by rw [gG r]; exact q⟩
  ·subst e'
   refine oq03 (show kvs.length ≤ sizeLine ∧ (p == sysModules) = false ∧ ∃ vs, KV kvs vs ∧ s.heap.DictOf (b7 X.prog X.w) p vs from I.hok p _ hx) fun hz hS zz => oq12 zz fun vs r m => ?_
   have hlen:kvs.length = vs.length := Paired.length r
   exact wpAny_truthy_dict hS m (by omega) ⟨H, I.tok _, by rw [lK r]; exact q⟩
 | _ => exact (show False from e).elim
theorem pt_truth (ha:PE X a ta) (he:∀ whole, isTrue a X.env whole = (do let v ← whole; standAt a.pos; holding [v] (truthy v))) :
  PT X a (fun σ H Q => ta σ H fun x H' => ∃ k, TruV X.K x H' k ∧ Q k H') := by
 intro pins s σ H Q I h
 exact isTrue_plain (thn (ha pins s σ H _ I h) fun v s1 zq => oq23 zq fun x H1 I1 r1 q1 => tru_ok pins s1 σ H1 x v Q I1 r1 q1) (he _)
theorem vals1 {x:V} {us:List Value} (r:Vals [x] us):∃ u, us = [u] ∧ RelV x u := by
 cases r with
 | cons r1 r2 => cases r2; exact ⟨_, rfl, r1⟩
theorem vals2 {x y:V} {us:List Value} (r:Vals [x, y] us):∃ u w', us = [u, w'] ∧ RelV x u ∧ RelV y w' := by
 cases r with
 | cons r1 r2 =>
  cases r2 with
  | cons r3 r4 => cases r4; exact ⟨_, _, rfl, r1, r3⟩
theorem gH:ci X (.builtin "abs") (fun xs H Q => ∃ i, xs = [.int i] ∧ Q (.int (if i < 0 then -i else i)) H) := by
 intro pins s σ H xs us Q I r h
 refine oq12 h fun i eq1_ q => ?_; subst eq1_
 refine oq12 (vals1 r) fun u eq1_ zz => oq11 zz fun t eq3_ => ?_; subst eq1_; subst eq3_
 exact call_abs_int fun u tk => ⟨.int (if i < 0 then -i else i), H, I.tok _, ⟨_, rfl⟩, q⟩
theorem cQ (hc:X.calm = true):ci X (.builtin "max") (fun xs H Q => ∃ i j, xs = [.int i, .int j] ∧ Q (.int (if j > i then j else i)) H) := by
 intro pins s σ H xs us Q I r h
 refine oq22 h fun i j eq2_ q => ?_; subst eq2_
 obtain ⟨u, w', rfl, ⟨t, rfl⟩, ⟨t', rfl⟩⟩ := vals2 r
 refine max_two_ints (I.ok.hd hc) fun h' tk k => ⟨_, H, I.kept k, ?_, q⟩
 by_cases hj:j > i
 ·rw [if_pos hj, if_pos hj]; exact ⟨_, rfl⟩
 ·rw [if_neg hj, if_neg hj]; exact ⟨_, rfl⟩
theorem cR (hc:X.calm = true):ci X (.builtin "min") (fun xs H Q => ∃ i j, xs = [.int i, .int j] ∧ Q (.int (if j < i then j else i)) H) := by
 intro pins s σ H xs us Q I r h
 refine oq22 h fun i j eq2_ q => ?_; subst eq2_
 obtain ⟨u, w', rfl, ⟨t, rfl⟩, ⟨t', rfl⟩⟩ := vals2 r
 refine min_two_ints (I.ok.hd hc) fun h' tk k => ⟨_, H, I.kept k, ?_, q⟩
 by_cases hj:j < i
 ·rw [if_pos hj, if_pos hj]; exact ⟨_, rfl⟩
 ·rw [if_neg hj, if_neg hj]; exact ⟨_, rfl⟩
end
end L2
namespace L2
open PySem PySem.Spec PyProof.Rows
structure ObjM (h:Heap) (x dx C:Addr) (mA:Str → Option Value):Prop where
 obj:h.get? x = some (PySem.W.instObj C dx)
 ns:h.Ns1 dx mA
 ne:dx ≠ x
theorem lookIn_ns {h:Heap} {dx:Addr} {mA:Str → Option Value} (n:h.Ns1 dx mA):∃ od, h.get? dx = some od ∧ ∀ name, PySem.W.lookIn name od = some (mA name) := by
 refine oq35 n fun o es ep ho hd hk _ hm => ?_
 refine ⟨o, ho, fun name => ?_⟩
 have e := hm name
 unfold nsFind findBy at e
 rw [← Array.find?_toList] at e
 unfold PySem.W.lookIn
 rw [hd]
 dsimp only
 split
 ·rename_i y q
  rw [q] at e
  exact congrArg some e
 ·rename_i q
  rw [q] at e
  have a:es.toList.any (·.refKey) = false := by
   rw [List.any_eq_false]
   intro y hy
   refine oq21 (hk y (Array.mem_toList_iff.mp hy)) fun z t hkey => ?_
   simp [DictEntry.refKey, hkey]
  have a':¬ es.toList.any (·.refKey) = true := by rw [a]; exact Bool.false_ne_true
  rw [if_neg a']
  exact congrArg some e
theorem ObjM.look {h:Heap} {x dx C:Addr} {mA:Str → Option Value} (I:ObjM h x dx C mA):∃ od, PySem.W.InstAt h x (PySem.W.instObj C dx) C (some od) ∧ ∀ name, PySem.W.lookIn name od = some (mA name) :=
 let ⟨od, ho, hl⟩ := lookIn_ns I.ns
 ⟨od, ⟨I.obj, rfl, rfl, ho⟩, hl⟩
section
variable {prog:Program} {w:World} {A:Around} {E:Value → Shared → Prop} {s:Shared} {K:PySem.W.Frag} {x dx C f:Addr} {mA:Str → Option Value} {name:Str} {v:Value}
end
theorem RelO.some_of {v:V} {o:Option Value} (r:RelO (some v) o):∃ u, o = some u ∧ RelV v u := by
 cases o with
 | none => exact (show False from r).elim
 | some u => exact ⟨u, rfl, r⟩
section
variable {P:Program} {w:World} {H H':Hp} {h h':Heap} {a C dx:Addr} {fs fs':List (Str × V)}
theorem ins_get (hok:HOk P w H h) (e:H a = some (.ins C dx fs)):∃ mA, ObjM h a dx C mA ∧ (∀ f, RelO (fs.lookup f) (mA f)) ∧ PySem.Within mA (fs.map (·.1)) ∧ fs.length ≤ 1000 ∧ H dx = some (.own a) := by
 refine oq05 ((show aG P w H h a (.ins C dx fs) from hok a _ e)) fun d z ne ob zz => oq13 zz fun mA n r q => ?_
 exact ⟨mA, ⟨ob, n, ne⟩, r, q, z, d⟩
end
structure Cls (K:PySem.W.Frag) (C:Addr):Prop where
 pg:PySem.W.plainGet K C Str.empty = true
 hd:PySem.W.hasDictIn K C = true
 po:PySem.W.plainOver K C = true
 sa:PySem.W.findIn K (.ref C) "__setattr__" = some (some (.builtin "object.__setattr__"))
theorem Cls.get {K:PySem.W.Frag} {C:Addr} (c:Cls K C) (f:Str):PySem.W.plainGet K C f = true := c.pg
section
variable {X:Cx} {pins:List (Addr × Obj)} {σ:St} {H:Hp} {s:Shared} {a C dx:Addr} {fs:List (Str × V)} {f:Str} {v:V} {A:Around} {E:Value → Shared → Prop}
end
section
variable {X:Cx} {o e value:Expr} {f:Str} {pos pos' tpos:Pos} {ta tv:TE}
end
section
variable {X:Cx} {pins:List (Addr × Obj)} {σ:St} {H:Hp} {s:Shared} {A:Around} {E:Value → Shared → Prop} {Q:Value → Shared → Prop} {c:Value} {b:Bool}
inductive TyOf (K:PySem.W.Frag) (H:Hp):V → Value → Prop where
 | non:TyOf K H .non (.type "NoneType")
 | bl (x:Bool):TyOf K H (.bl x) (.type "bool")
 | int (i:Int):TyOf K H (.int i) (.type "int")
 | str (x:Str):TyOf K H (.str x) (.type "str")
 | flt (x:UInt64):TyOf K H (.flt x) (.type "float")
 | lst {a:Addr} {xs:List V} (e:H a = some (.lst xs)):TyOf K H (.ref a) (.type "list")
 | frz {a:Addr} {o:Obj} {xs:List V} (e:H a = some (.frz o (.lst xs))):TyOf K H (.ref a) (.type "list")
 | tup {a:Addr} {xs:List V} (e:H a = some (.tup xs)):TyOf K H (.ref a) (.type "tuple")
 | dK {a:Addr} {kvs:List (Key × V)} (e:H a = some (.dK kvs)):TyOf K H (.ref a) (.type "dict")
 | dT {a:Addr} {kvs:List (List Key × V)} (e:H a = some (.dT kvs)):TyOf K H (.ref a) (.type "dict")
 | ins {a C dx:Addr} {fs:List (Str × V)} (e:H a = some (.ins C dx fs)) (cl:Cls K C) (ha:PySem.W.findIn K (.ref C) "__class__" = some (some (.builtin "object.__class__")))
   (hn:PySem.W.specialIn K (.builtin "object.__class__") "__get__" = some (some (.builtin "getset_descriptor.__get__"))) (htk:PySem.W.takesIn K (.builtin "object.__class__") = some true)
   (hm:PySem.W.mroIn K C (.type "object") = some true):TyOf K H (.ref a) (.ref C)
theorem isinst_ok {x:V} {u t:Value} (I:Inv X pins σ H s) (rx:RelV x u) (ty:TyOf X.K H x t) (e:PySem.W.kitOne X.K t c = some b) (h:∀ tk, Q (.bool b) { s with toks := tk }) :
  wpAny (model X.prog X.w) A (call (.builtin "isinstance") [u, c]) Q E s := by
 cases ty with
 | non => cases (show u = Value.none from rx); exact PySem.W.kia_one PySem.W.kitx_none I.kIn True.intro e (fun z => nomatch z) h
 | bl y => cases (show u = Value.bool y from rx); exact PySem.W.kia_one PySem.W.kitx_bool I.kIn True.intro e (fun z => nomatch z) h
 | int i => refine oq11 ((show ∃ t, u = Value.int i t from rx)) fun t q => ?_; cases q; exact PySem.W.kia_one PySem.W.kitx_int I.kIn True.intro e (fun z => nomatch z) h
 | str y => refine oq11 ((show ∃ t, u = Value.str y t from rx)) fun t q => ?_; cases q; exact PySem.W.kia_one PySem.W.kitx_str I.kIn True.intro e (fun z => nomatch z) h
 | flt y => refine oq11 ((show ∃ t, u = Value.float y t from rx)) fun t q => ?_; cases q; exact PySem.W.kia_one PySem.W.kitx_float I.kIn True.intro e (fun z => nomatch z) h
 | @lst a xs ea =>
  cases (show u = Value.ref a from rx)
  refine oq02 ((show aG X.prog X.w H s.heap a (.lst xs) from I.hok a _ ea)) fun _ zz => oq22 zz fun _ n _ h1 => ?_
  exact PySem.W.kia_one PySem.W.kitx_list I.kIn ⟨_, h1, rfl⟩ e (fun z => nomatch z) h
 | @frz a ob xs ea =>
  cases (show u = Value.ref a from rx)
  refine oq03 ((show aG X.prog X.w H s.heap a (.frz ob (.lst xs)) from I.hok a _ ea)) fun _ _ zz => oq22 zz fun _ n _ h1 => ?_
  exact PySem.W.kia_one PySem.W.kitx_list I.kIn ⟨_, h1, rfl⟩ e (fun z => nomatch z) h
 | @tup a xs ea =>
  cases (show u = Value.ref a from rx)
  refine oq02 ((show aG X.prog X.w H s.heap a (.tup xs) from I.hok a _ ea)) fun _ zz => oq12 zz fun _ _ p => ?_
  refine oq13 p fun o h1 h2 _ => ?_
  exact PySem.W.kia_one PySem.W.kitx_tuple I.kIn ⟨o, h1, h2⟩ e (fun z => nomatch z) h
 | @dK a kvs ea =>
  cases (show u = Value.ref a from rx)
  refine oq03 ((show aG X.prog X.w H s.heap a (.dK kvs) from I.hok a _ ea)) fun _ _ zz => oq12 zz fun vs _ p => ?_
  refine oq33 p fun o es ep h1 h2 _ => ?_
  exact PySem.W.kia_one PySem.W.kitx_dict I.kIn ⟨o, h1, h2.1⟩ e (fun z => nomatch z) h
 | @dT a kvs ea =>
  cases (show u = Value.ref a from rx)
  refine oq03 ((show aG X.prog X.w H s.heap a (.dT kvs) from I.hok a _ ea)) fun _ _ zz => oq12 zz fun xs _ zz => oq33 zz fun o es ep h1 h2 _ => ?_
  exact PySem.W.kia_one PySem.W.kitx_dict I.kIn ⟨o, h1, h2.1⟩ e (fun z => nomatch z) h
 | @ins a C dx fs ea cl ha hn htk hm =>
  cases (show u = Value.ref a from rx)
  refine oq12 (ins_get I.hok ea) fun mA O _ => ?_
  refine oq12 O.look fun od J _ => ?_
  exact PySem.W.kia_one (PySem.W.kitx_own (cl.get _) cl.hd ha hn htk hm) I.kIn J e (fun z => nomatch z) h
end
end L2
namespace L2
open PySem PySem.Spec PyProof.Rows
structure Room (k:Nat) (A:Around):Prop where
 hd:A.handled = none
 dp:A.depth + 3 * k + 5 < recursionLimit
 un:A.units + 16 * k + 200 < cLine
theorem Room.mono {j k:Nat} {A:Around} (r:Room k A) (h:j ≤ k):Room j A := ⟨r.hd, by have := r.dp; omega, by have := r.un; omega⟩
theorem Room.deeper {k:Nat} {A:Around} (r:Room (k + 1) A) (env:Env):Room k (A.deeper env) :=
 ⟨r.hd, by have := r.dp; show A.depth + 1 + 3 * k + 5 < _; omega, by have := r.un; show A.units + 3 + 16 * k + 200 < _; omega⟩
theorem Room.in1 {k:Nat} {A:Around} (r:Room (k + 1) A):Room k A.in1 :=
 ⟨r.hd, by have := r.dp; show A.depth + 3 * k + 5 < _; omega, by have := r.un; show A.units + 1 + 16 * k + 200 < _; omega⟩
theorem Room.depth {k:Nat} {A:Around} (r:Room k A):A.depth < recursionLimit := by have := r.dp; omega
theorem Room.units {k:Nat} {A:Around} (r:Room k A):A.units + 64 < cLine := by have := r.un; omega
noncomputable def tNil:TA := fun _ H Q => Q [] H
noncomputable def aH (ta:TE) (tr:TA):TA := fun σ H Q => ta σ H fun x H1 => tr σ H1 fun xs H2 => Q (x :: xs) H2
section
variable {X:Cx} {e:Expr} {es:List Expr} {te:TE} {t:TA} {pos:Pos}
theorem aa:PA X [] tNil := fun _ _ _ _ H Q I h => Calls.spliced_nil ⟨[], H, I, .nil, h⟩
theorem a7 (ha:PE X e te) (hr:PA X es t) (hs:starEach (e :: es) X.env = (false, eval e X.env) :: starEach es X.env := by rfl):PA X (e :: es) (aH te t) := by
 intro pos pins s σ H Q I h
 rw [hs]
 show wpAny _ _ (spliced ((false, eval e X.env) :: backTo pos (starEach es X.env))) _ _ s
 refine Calls.spliced_cons (thn (ha pins s σ H _ I h) fun u s1 zq => oq23 zq fun x H1 I1 r1 q1 => ?_)
 exact thn (hr pos pins s1 σ H1 _ I1 q1) fun us s2 zq => oq23 zq fun xs H2 I2 r2 q2 => ⟨x :: xs, H2, I2, .cons r1 r2, q2⟩
noncomputable def tTup (t:TA):TE := fun σ H Q => t σ H fun xs H1 => xs.length ≤ sizeLine ∧ ∀ p, H1 p = none → Q (.ref p) (upd H1 p (.tup xs))
noncomputable def tLst (t:TA):TE := fun σ H Q => t σ H fun xs H1 => xs.length ≤ sizeLine ∧ ∀ p, H1 p = none → Q (.ref p) (upd H1 p (.lst xs))
theorem d0 {x1} (h:PA X es t):PE X (.Tuple es x1 pos) (tTup t) := by
 intro pins s σ H Q I hq
 refine wpAny_Tuple_spliced (thn (h pos pins s σ H _ I hq) fun us s1 zq => oq24 zq fun xs H1 I1 r z q => ⟨by rw [← r.length]; exact z, ?_⟩)
 have hf:H1 s1.heap.objs.size = none := I1.hok.fresh (nz6 _)
 refine ⟨.ref s1.heap.objs.size, upd H1 s1.heap.objs.size (.tup xs), I1.laid (t' := s1.toks) (fun b u e => Heap.get?_push_of_some _ e) (nz6 _) ?_, rfl, q _ hf⟩
 exact ⟨z, us, r, ⟨_, Heap.get?_push_size _ rfl, rfl, _, rfl⟩⟩
theorem ce (h:PA X es t):PE X (.List es pos) (tLst t) := by
 intro pins s σ H Q I hq
 refine wpAny_List_spliced (thn (h pos pins s σ H _ I hq) fun us s1 zq => oq24 zq fun xs H1 I1 r z q => ⟨by rw [← r.length]; exact z, ?_⟩)
 have hf:H1 s1.heap.objs.size = none := I1.hok.fresh (nz6 _)
 refine ⟨.ref s1.heap.objs.size, upd H1 s1.heap.objs.size (.lst xs), I1.laid (t' := s1.toks) (fun b u e => Heap.get?_push_of_some _ e) (nz6 _) ?_, rfl, q _ hf⟩
 exact ⟨z, us, 0, r, Heap.get?_push_size _ rfl⟩
end
noncomputable abbrev Sp := List V → Hp → VK → XK → Prop
noncomputable abbrev CXT := List Env → Hp → Shared → XK → Value → Shared → Prop
structure Env0 (P:Program) (w:World) (K:PySem.W.Frag) (mg:Str → Option Value) (base:Heap) (A:Around) (outer:List Env) (s:Shared) (H:Hp):Prop where
 frames:A.frames = some outer
 mod:Mod K mg base
 bs:∀ b o, base.get? b = some o → s.heap.get? b = some o ∧ H b = none
 bsz:base.objs.size ≤ s.heap.objs.size
 funs:s.heap.FunFrames base outer
 frf:∀ b ∈ frs outer, H b = none
 hok:HOk P w H s.heap
 bare:AllBare s.gens
noncomputable def CE (outer:List Env) (P:Program) (w:World) (H:Hp) (s:Shared) (Q:VK) (u:Value) (s':Shared):Prop :=
 ∃ v H', s'.os = s.os ∧ AllBare s'.gens ∧ Un (frs outer) [] H H' s.heap s'.heap ∧ HOk P w H' s'.heap ∧ RelV v u ∧ Q v H'
noncomputable def CR (CX:CXT) (outer:List Env) (P:Program) (w:World) (H:Hp) (s:Shared) (Q:VK) (E:XK) (r:Result) (s':Shared):Prop :=
 match r with
 | .ok (.ret u) => CE outer P w H s Q u s'
 | .ok _ => False
 | .error e => CX outer H s E e s'
structure FnOk (P:Program) (w:World) (K:PySem.W.Frag) (mg:Str → Option Value) (base:Heap) (CX:CXT) (k:Nat) (f:Addr) (fd:FuncData) (ps:List Str) (sp:Sp):Prop where
 len:∀ vs H Q E, sp vs H Q E → vs.length = ps.length
 run:∀ (A:Around) (outer:List Env) (s:Shared) (H:Hp) (args:Args) (us:List Value) (vs:List V) (Q:VK) (E:XK), Room k A → Env0 P w K mg base A outer s H → BindsTo s fd args (ps.zip us) → Vals vs us → sp vs H Q E →
  codeAny (model P w) A (.call (.ref f) args) (CR CX outer P w H s Q E) s
section
variable {X:Cx} {pins:List (Addr × Obj)} {σ:St} {H:Hp} {s s':Shared}
theorem Inv.env0 (I:Inv X pins σ H s):Env0 X.prog X.w X.K X.mg X.base X.A X.stack s H :=
 ⟨I.ok.frames, I.ok.mod, I.bs, nz4 I.ok.bsz I.sz, I.stack, I.stkFree, I.hok, I.bare⟩
theorem Inv.after {Q:VK} {u:Value} (I:Inv X pins σ H s) (h:CE X.stack X.prog X.w H s Q u s'):EP X pins σ Q u s' := by
 refine oq26 h fun v H' os bare un hok r q => ?_
 obtain ⟨hh, g, d, t, os'⟩ := s'
 obtain rfl:os' = s.os := os
 exact ⟨v, H', I.call (h' := hh) (g' := g) (d' := d) (t' := t) (ch := []) un hok bare (fun b z => absurd z (by simp)), r, q⟩
end
noncomputable def tCall (sp:Sp) (dvs:List V) (E:XK) (t:TA):TE := fun σ H Q => t σ H fun vs H1 => sp (vs ++ dvs) H1 Q E
noncomputable def Binds (K:PySem.W.Frag) (fd:FuncData) (ps:List Str) (ds:List Value):Prop :=
 ∀ (s:Shared) (us:List Value), K.In s.heap → (us ++ ds).length = ps.length → BindsTo s fd ⟨us, []⟩ (ps.zip (us ++ ds))
theorem Binds.all {K:PySem.W.Frag} {fd:FuncData} {ps:List Str} (h:∀ us:List Value, us.length = ps.length → bindArgs fd ⟨us, []⟩ = pure (ps.zip us)):Binds K fd ps [] := fun s us _ hl => by
 rw [List.append_nil] at hl ⊢
 exact .of_eq (h us hl)
noncomputable def lL (CX:CXT) (X:Cx) (E:XK):Prop := ∀ (pins:List (Addr × Obj)) (σ:St) (H:Hp) (s:Shared) (e:Value) (s':Shared), Inv X pins σ H s → CX X.stack H s E e s' → X.xe e s'
section
variable {X:Cx} {CX:CXT} {k:Nat} {f C:Addr} {fd:FuncData} {ps:List Str} {sp:Sp} {dvs:List V} {ds:List Value} {E:XK} {x m:Str} {p pos apos:Pos} {e o:Expr} {es:List Expr} {ta:TE} {t:TA}
theorem run_fn {pins:List (Addr × Obj)} {σ:St} {H:Hp} {s:Shared} {Q:VK} {us:List Value} {vs:List V} (F:FnOk X.prog X.w X.K X.mg X.base CX k f fd ps sp) (hr:Room k X.A) (hb:Binds X.K fd ps ds) (hd:Vals dvs ds) (hx:lL CX X E)
  (I:Inv X pins σ H s) (r:Vals vs us) (h:sp (vs ++ dvs) H Q E):wpAny (model X.prog X.w) X.A (call (.ref f) us) (EP X pins σ Q) X.xe s := by
 have r2:Vals (vs ++ dvs) (us ++ ds) := r.append hd
 have hl:(us ++ ds).length = ps.length := by rw [← r2.length]; exact F.len _ _ _ _ h
 refine wpAny_call (codeAny_mono (F.run X.A X.stack s H ⟨us, []⟩ (us ++ ds) (vs ++ dvs) Q E hr I.env0 (hb s us I.kIn hl) r2 h) fun r s' hq => ?_)
 cases r with
 | error e => exact hx pins σ H s e s' I hq
 | ok fl =>
  cases fl with
  | ret u => exact I.after hq
  | next => exact False.elim hq
  | brk => exact False.elim hq
  | cont => exact False.elim hq
theorem pe_call (F:FnOk X.prog X.w X.K X.mg X.base CX k f fd ps sp) (hr:Room k X.A) (hg:Gl X x) (hm:X.mg x = some (.ref f)) (hk:PySem.W.keepIn X.K (.ref f) = true) (hb:Binds X.K fd ps ds) (hd:Vals dvs ds) (hx:lL CX X E)
  (ha:PA X (e :: es) t) (hdb:(x == ("__debug__":Str)) = false := by decide) (he:starEach (e :: es) X.env = (false, eval e X.env) :: starEach es X.env := by rfl) (hpl:(backTo pos (starEach es X.env)).any (·.1) = false := by rfl) :
  PE X (.Call (.Name x p) (e :: es) [] pos) (tCall sp dvs E t) := by
 intro pins s σ H Q I h
 refine wpAny_Call_Name_kw (ld_glob I hg hm ?_ hdb)
 refine PySem.W.callWith_K (h₀ := X.base) I.ok.mod.kin hk (thn (ha pos pins s σ H _ I h) fun us s1 zq => oq23 zq fun vs H1 I1 r q => ⟨I1.kIn, ?_⟩) he hpl
 exact run_fn F hr hb hd hx I1 r q
end
section
variable {X:Cx} {CX:CXT} {k:Nat} {f C:Addr} {fd:FuncData} {ps ks:List Str} {sp:Sp} {E:XK} {x m:Str} {p pos apos kpos:Pos} {e o:Expr} {es:List Expr} {kws:List Keyword} {te ta:TE} {t tk:TA} {nm:Option Str}
variable {g:List Value → List Value → List Value} {gV:List V → List V → List V}
end
structure FnScope (N P:List Str) (sc:Scope):Prop where
 kind:sc.kind = .function
 co:sc.isCoroutine = false
 gen:sc.isGenerator = false
 nd:N.Nodup
 pre:N.take P.length = P
 par:∀ x ∈ P, sc.names.lookup x = some .local ∨ sc.names.lookup x = some .cell
 nofree:∀ y ∈ sc.names, y.2 ≠ .free
theorem iO {kindOf:Str → Option NameKind} {x:Str}:∀ {binds:List (Str × Value)} {m:Str → Option Value}, (∀ v, (x, v) ∉ binds) → bindL kindOf binds m x = m x
 | [], _, _ => rfl
 | (n, v) :: r, m, h => by
  unfold bindL
  rw [iO fun w hw => h w (List.mem_cons_of_mem _ hw)]
  split
  ·have:x ≠ n := by rintro rfl; exact h v List.mem_cons_self
   simp [this]
  ·rfl
theorem iP {kindOf:Str → Option NameKind} {x:Str}:∀ {binds:List (Str × Value)} {m:Str → Option Value}, (∀ v, (x, v) ∉ binds) → bindC kindOf binds m x = m x
 | [], _, _ => rfl
 | (n, v) :: r, m, h => by
  unfold bindC
  rw [iP fun w hw => h w (List.mem_cons_of_mem _ hw)]
  split
  ·rfl
  ·have:x ≠ n := by rintro rfl; exact h v List.mem_cons_self
   simp [this]
theorem iQ {kindOf:Str → Option NameKind} {x:Str} {v:Value}:∀ {P:List Str} {vs:List Value} {i:Nat} {m:Str → Option Value}, P.Nodup → P[i]? = some x → vs[i]? = some v → kindOf x = some .local →
  bindL kindOf (P.zip vs) m x = some v
 | [], _, _, _, _, h, _, _ => by simp at h
 | _ :: _, [], _, _, _, _, h, _ => by simp at h
 | p :: P, w :: vs, 0, m, nd, h1, h2, hk => by
  simp at h1 h2; subst h1; subst h2
  show bindL kindOf ((p, w) :: P.zip vs) m p = _
  unfold bindL
  rw [iO fun v hv => (List.nodup_cons.mp nd).1 (List.of_mem_zip hv).1, if_pos hk]
  simp
 | p :: P, w :: vs, i + 1, m, nd, h1, h2, hk => by
  show bindL kindOf ((p, w) :: P.zip vs) m x = _
  unfold bindL
  exact iQ (i := i) (List.nodup_cons.mp nd).2 (by simpa using h1) (by simpa using h2) hk
theorem iR {kindOf:Str → Option NameKind} {x:Str} {v:Value}:∀ {P:List Str} {vs:List Value} {i:Nat} {m:Str → Option Value}, P.Nodup → P[i]? = some x → vs[i]? = some v → kindOf x ≠ some .local →
  bindC kindOf (P.zip vs) m x = some v
 | [], _, _, _, _, h, _, _ => by simp at h
 | _ :: _, [], _, _, _, _, h, _ => by simp at h
 | p :: P, w :: vs, 0, m, nd, h1, h2, hk => by
  simp at h1 h2; subst h1; subst h2
  show bindC kindOf ((p, w) :: P.zip vs) m p = _
  unfold bindC
  rw [iP fun v hv => (List.nodup_cons.mp nd).1 (List.of_mem_zip hv).1, if_neg hk]
  simp
 | p :: P, w :: vs, i + 1, m, nd, h1, h2, hk => by
  show bindC kindOf ((p, w) :: P.zip vs) m x = _
  unfold bindC
  exact iR (i := i) (List.nodup_cons.mp nd).2 (by simpa using h1) (by simpa using h2) hk
noncomputable def start (N:List Str) (vs:List V):St := vs.map some ++ List.replicate (N.length - vs.length) none
noncomputable def cxOf (CX:CXT) (P:Program) (w:World) (K:PySem.W.Frag) (mg:Str → Option Value) (base:Heap) (N:List Str) (qual:Str) (scope:Scope) (f:Addr) (cd:Value) (A:Around) (outer:List Env) (s:Shared) (H:Hp) (E:XK):Cx where
 prog := P
 w := w
 K := K
 mg := mg
 base := base
 A := A.deeper (envOfC qual scope s.heap.objs.size f cd)
 N := N
 s₀ := s
 H₀ := H
 env := envOfC qual scope s.heap.objs.size f cd
 outer := outer
 stack := envOfC qual scope s.heap.objs.size f cd :: outer
 ex := []
 calm := true
 fn := fun _ => true
 pn := []
 xe := fun e s' => wpAny (model P w) (A.deeper (envOfC qual scope s.heap.objs.size f cd)) (leaving (envOfC qual scope s.heap.objs.size f cd) e) (fun _ s'' => CX outer H s E e s'') (fun e' s'' => CX outer H s E e' s'') s'
theorem kd {sc:Scope} {n:Nat} {x:Str} (h:sc.names.lookup x = some .cell):∃ c, (cellsFrom n sc.names []).lookup x = some c := by
 have q := PySem.W.cellsFrom_some sc.names n [] (.inl h)
 exact Option.isSome_iff_exists.mp q
theorem inv_start {CX:CXT} {P:Program} {w:World} {K:PySem.W.Frag} {mg:Str → Option Value} {base:Heap} {N ps:List Str} {qual:Str} {scope:Scope} {f:Addr} {cd:Value} {A:Around} {outer:List Env} {s s1:Shared} {H:Hp} {E:XK} {us:List Value} {vs:List V}
  (S:FnScope N ps scope) (hd:A.handled = none) (e0:Env0 P w K mg base A outer s H) (hl:vs.length = ps.length) (r:Vals vs us)
  (x:InCallC s s.heap.objs.size (bindL (envOfC qual scope s.heap.objs.size f cd).kindOf (ps.zip us) fun _ => none) (cellsFrom (s.heap.objs.size + 1) scope.names []) (bindC (envOfC qual scope s.heap.objs.size f cd).kindOf (ps.zip us) fun _ => none) s1) :
  Inv (cxOf CX P w K mg base N qual scope f cd A outer s H E) [] (start N vs) H s1 := by
 have hpl:ps.length ≤ N.length := by have := congrArg List.length S.pre; rw [List.length_take] at this; omega
 refine oq22 x.done fun h1 tk eq2_ hk => ?_; subst eq2_
 have noA:∀ b:Addr, b ∉ (cxOf CX P w K mg base N qual scope f cd A outer s H E).ex := fun b z => absurd (show b ∈ ([]:List Addr) from z) (by simp)
 refine ⟨⟨e0.mod, S.kind, rfl, rfl, nz6 _, fun y z c h1 h2 => ?_, fun y hy => ?_, fun y c _ h => ?_, fun _ => hd, Around.frames_deeper e0.frames, .inr ⟨rfl, rfl⟩, fun b z => absurd z (noA b), e0.bs, e0.bsz, fun b _ _ => noA b, fun b z => absurd z (noA b), e0.funs, e0.frf⟩,
  rfl, e0.bare, Un.kept hk, ⟨_, x.toInCall.ns, fun i y v h1 h2 h3 => ?_⟩, fun y c h => ⟨_, x.cell y c h⟩, e0.hok.fresh (nz6 _), fun y c h => ?_, fun p hp => absurd (show p ∈ ([]:List (Addr × Obj)) from hp) (by simp), e0.hok.kept hk, ?_⟩
 ·exact name_of_addr x.apart (PySem.mem_of_lookup h1) (PySem.mem_of_lookup h2)
 ·have hy:scope.names.lookup y = some .cell ∨ scope.names.lookup y = some .free := hy
  rcases hy with hy | hy
  ·exact kd hy
  ·exact absurd rfl (S.nofree _ (PySem.mem_of_lookup hy))
 ·exact nz5 (x.above y c (PySem.mem_of_lookup h))
 ·have hi:i < vs.length := by
   unfold start at h2
   by_cases hi:i < vs.length
   ·exact hi
   ·rw [List.getElem?_append_right (by simpa using hi)] at h2
    rw [List.getElem?_replicate] at h2
    split at h2 <;> cases h2
  have ha:vs[i]? = some v := by
   unfold start at h2
   rw [List.getElem?_append_left (by simpa using hi), List.getElem?_map] at h2
   cases e:vs[i]? with
   | none => rw [e] at h2; cases h2
   | some a => rw [e] at h2; cases h2; rfl
  refine oq12 (r.get ha) fun u hu rv => ?_
  have hp:ps[i]? = some y := by
   rw [← S.pre, List.getElem?_take_of_lt (by omega)]; exact h1
  have ndP:ps.Nodup := by rw [← S.pre]; exact S.nd.sublist (List.take_sublist _ _)
  refine ⟨u, rv, ?_⟩
  rcases S.par y (List.mem_of_getElem? hp) with k | k
  ·exact .inl ⟨k, iQ ndP hp hu k⟩
  ·refine oq11 (kd (n := s.heap.objs.size + 1) k) fun c e => ?_
   refine .inr ⟨.inl k, c, e, ?_⟩
   have q := x.cell y c e
   rw [iR ndP hp hu (by show scope.names.lookup y ≠ _; rw [k]; decide)] at q
   exact q
 ·exact e0.hok.fresh (nz5 (x.above y c (PySem.mem_of_lookup h)))
 ·unfold start
  show _ = N.length
  rw [List.length_append, List.length_map, List.length_replicate]
  omega
theorem fn_of {CX:CXT} {P:Program} {w:World} {K:PySem.W.Frag} {mg:Str → Option Value} {base:Heap} {k:Nat} {f:Addr} {name qual:Str} {params:Arguments} {body:List Stmt} {scope:Scope} {dV kV doc pm cdv ct oc:Value} {an od:Option Addr}
  {osl:Array (Option Value)} {N ps:List Str} {sp:Sp} (lk:K.lookup f = some ⟨oc, od, .func (PySem.W.fnOf name qual params body scope dV kV doc pm an cdv ct), osl⟩) (hcd:PySem.W.codeIn K cdv qual = true) (S:FnScope N ps scope)
  (len:∀ vs H Q E, sp vs H Q E → vs.length = ps.length)
  (hbody:∀ (A:Around) (outer:List Env) (s:Shared) (H:Hp) (vs:List V) (Q:VK) (E:XK), Room k (A.deeper (envOfC qual scope s.heap.objs.size f cdv)) → sp vs H Q E →
   ∃ t, PSs (cxOf CX P w K mg base N qual scope f cdv A outer s H E) body t ∧ t { nx := fun _ H' => Q .non H', rt := Q } (start N vs) H) :
  FnOk P w K mg base CX (k + 1) f (PySem.W.fnOf name qual params body scope dV kV doc pm an cdv ct) ps sp := by
 refine ⟨len, fun A outer s H args us vs Q E hr e0 hb r hsp => ?_⟩
 have hl := len _ _ _ _ hsp
 have KX:K.In s.heap := e0.mod.kin.keeps fun b o e => (e0.bs b o e).1
 have lim:s.heap.NoLimit := e0.mod.nolimit.keeps fun b o e => (e0.bs b o e).1
 have hkind:∀ y ∈ ps.zip us, scope.names.lookup y.1 = some .local ∨ (scope.names.lookup y.1 = some .cell ∧ ((cellsFrom (s.heap.objs.size + 1) scope.names []).lookup y.1).isSome = true) := fun ⟨n, v⟩ hy => by
  rcases S.par n (List.of_mem_zip hy).1 with q | q
  ·exact .inl q
  ·exact .inr ⟨q, PySem.W.cellsFrom_some _ _ _ (.inl q)⟩
 refine codeAny_call_function hr.depth (KX _ _ lk) rfl S.co S.gen rfl (PySem.W.codeRec_of KX hcd) (hb _ _ _ _ ?_)
 refine wpAny_newFunctionEnv_cells S.kind hkind fun env he s1 x => ?_
 subst he
 refine ⟨lim.keeps x.toInCall.keep, codeAny_func ?_⟩
 refine oq12 (hbody A outer s H vs Q E (hr.deeper _) hsp) fun t ht hq => ?_
 have I:Inv (cxOf CX P w K mg base N qual scope f cdv A outer s H E) [] (start N vs) H s1 := inv_start S hr.hd e0 hl r x
 refine wpAny_mono (ht [] s1 (start N vs) H _ I hq) (fun fl s' hs => ?_) fun e s' hs => hs
 have fin:∀ {σ':St} {H':Hp} {v:V} {u:Value}, Inv (cxOf CX P w K mg base N qual scope f cdv A outer s H E) [] σ' H' s' → RelV v u → Q v H' → CE outer P w H s Q u s' :=
  fun {σ' H' v u} J rv q => ⟨v, H', J.os, J.bare, J.base, J.hok, rv, q⟩
 cases fl with
 | ret u =>
  refine oq33 hs fun v σ' H' J rv q => ?_
  exact fin J rv q
 | next =>
  refine oq22 hs fun σ' H' J q => ?_
  exact fin (v := V.non) (u := Value.none) J rfl q
 | brk =>
  refine oq22 hs fun _ _ _ q => ?_
  exact False.elim q
 | cont =>
  refine oq22 hs fun _ _ _ q => ?_
  exact False.elim q
end L2
namespace L2
open PySem PySem.Spec PyProof.Rows
section
variable {X:Cx} {x:Str} {p pos:Pos} {e:Expr} {es:List Expr} {t:TA} {id T:String} {r:List V → Hp → VK → Prop}
noncomputable def tCB (r:List V → Hp → VK → Prop) (t:TA):TE := fun σ H Q => t σ H fun vs H1 => r vs H1 Q
theorem av (hc:ci X (.builtin id) r) (hg:Gl X x) (hm:X.mg x = none) (hv:bootBuiltins x = some (.builtin id)) (ha:PA X (e :: es) t) (hn:x ≠ "__name__" := by decide) (hdb:(x == ("__debug__":Str)) = false := by decide)
  (he:starEach (e :: es) X.env = (false, eval e X.env) :: starEach es X.env := by rfl) (hpl:(backTo pos (starEach es X.env)).any (·.1) = false := by rfl):PE X (.Call (.Name x p) (e :: es) [] pos) (tCB r t) := by
 intro pins s σ H Q I h
 refine wpAny_Call_Name_kw (cN I hg hm hv ?_ hn hdb)
 exact PyProof.Rows.callWith_builtin1 (thn (ha pos pins s σ H _ I h) fun us s1 zq => oq23 zq fun vs H1 I1 r1 q1 => hc pins s1 σ H1 vs us Q I1 r1 q1) he hpl
theorem dG (hc:ci X (.type T) r) (hg:Gl X x) (hm:X.mg x = none) (hv:bootBuiltins x = some (.type T)) (ha:PA X (e :: es) t) (hn:x ≠ "__name__" := by decide) (hdb:(x == ("__debug__":Str)) = false := by decide)
  (he:starEach (e :: es) X.env = (false, eval e X.env) :: starEach es X.env := by rfl) (hpl:(backTo pos (starEach es X.env)).any (·.1) = false := by rfl):PE X (.Call (.Name x p) (e :: es) [] pos) (tCB r t) := by
 intro pins s σ H Q I h
 refine wpAny_Call_Name_kw (cN I hg hm hv ?_ hn hdb)
 exact PyProof.Rows.callWith_type1 (thn (ha pos pins s σ H _ I h) fun us s1 zq => oq23 zq fun vs H1 I1 r1 q1 => hc pins s1 σ H1 vs us Q I1 r1 q1) he hpl
end
end L2
namespace HT
open PySem PyProof.Rows
noncomputable def lexLt:List Int → List Int → Bool
 | [], [] => false
 | [], _ :: _ => true
 | _ :: _, [] => false
 | x :: xs, y :: ys => if x = y then lexLt xs ys else decide (x < y)
theorem lM (x y:Int) (xs ys:List Int):lexLt (x :: xs) (y :: ys) = if x = y then lexLt xs ys else decide (x < y) := rfl
theorem iC:lexLt [] [] = false := rfl
theorem gJ (y:Int) (ys:List Int):lexLt [] (y :: ys) = true := rfl
theorem gK (x:Int) (xs:List Int):lexLt (x :: xs) [] = false := rfl
theorem gL (A:Around) (s:Shared) (a:Int) (t:Tok) (c:Int) (u:Tok):∃ e, SeqAt.EqAt A s (.int a t) (.int c u) e ∧ (e = true ↔ a = c) :=
 ⟨(a == c), SeqAt.EqAt.int_int a t c u, by simp⟩
theorem rcLt_int (A:Around) (s:Shared) (a:Int) (t:Tok) (c:Int) (u:Tok) (prog:Program) (w:World) (E:Value → Shared → Prop) (Q:Value → Shared → Prop) (h:Q (.bool (decide (a < c))) s) :
  wpAny (model prog w) A (richCompare .Lt (.int a t) (.int c u)) Q E s :=
 (PyProof.Rows.lt_int h:wpAny (model prog w) A (compareOp .Lt (.int a t) (.int c u)) Q E s)
section
open PySem.SeqAt
open PySem.AutoSeq1 (wpAny_loadPart')
open PySem.MeetsSeq PySem.MeetsSeq2 PySem.MeetsSeq3
theorem iD (l b:Addr) (items items2:Array Value) (n n2:Nat) (dd dd2:Option Addr) (sl sl2:Array (Option Value)) (ns ms:List Int) (hi:IntsAre items.toList ns) (hj:IntsAre items2.toList ms) :
  Meets (Builtin.«tuple.__lt__» ⟨[.ref l, .ref b], []⟩)
   (fun _ R s => s.heap.get? l = some { cls := .type "tuple", dict := dd, data := .seq items n, slots := sl } ∧ s.heap.get? b = some { cls := .type "tuple", dict := dd2, data := .seq items2 n2, slots := sl2 } ∧
    R (.ok (.ret (.bool (lexLt ns ms)))) s) :=
 .of_wp fun prog w A R s h => by
  obtain ⟨hp, g, d, tk, os⟩ := s; refine oq03 h fun hl hb h => ?_
  have f2 := AutoSeq1.sub_tuple_tuple
  have z1:items.size = ns.length := by rw [← hi.length]; simp
  have z2:items2.size = ms.length := by rw [← hj.length]; simp
  wp_walk using wpAny_loadPart' hl, wpAny_loadPart' hb, wpAny_forIn_list _ (fun rest b s' => b.1 = none ∧ s' = ⟨hp, g, d, tk, os⟩ ∧ ∃ (vs ws:List Value) (ns' ms':List Int), rest = vs.zip ws ∧
   IntsAre vs ns' ∧ IntsAre ws ms' ∧ ns'.length + items2.size = ms'.length + items.size ∧ R (.ok (.ret (.bool (lexLt ns' ms')))) ⟨hp, g, d, tk, os⟩) _
  case turn =>
   rintro ⟨y, x⟩ rest b s' ⟨hb', rfl, vs, ws, ns', ms', hz, hvi, hwi, hlen, hR⟩
   cases hvi with
   | nil => rw [List.zip_nil_left] at hz; cases hz
   | cons a t hvi' =>
    cases hwi with
    | nil => rw [List.zip_nil_right] at hz; cases hz
    | cons c u hwi' =>
     rw [List.zip_cons_cons] at hz
     injection hz with hyx hrest
     injection hyx with hy hx
     subst hy hx
     rw [lM] at hR
     simp only [List.length_cons] at hlen
     refine oq12 (gL A.in1 ⟨hp, g, d, tk, os⟩ a t c u) fun e he hiff => ?_
     refine wpAny_bind (he prog w _ _ ?_)
     cases e with
     | true =>
      rw [if_pos (hiff.mp rfl)] at hR
      wp_walk
      exact ⟨rfl, rfl, _, _, _, _, hrest, hvi', hwi', by omega, hR⟩
     | false =>
      rw [if_neg (fun q => absurd (hiff.mpr q) Bool.false_ne_true)] at hR
      have hri := rcLt_int A.in1 ⟨hp, g, d, tk, os⟩ a t c u prog w
      wp_walk using hri
      exact ⟨_, rfl, by simpa using hR⟩
  case fin =>
   rintro ⟨b1, b2⟩ s' ⟨hb', rfl, vs, ws, ns', ms', hz, hvi, hwi, hlen, hR⟩
   simp only at hb'
   subst hb'
   have hv:lexLt ns' ms' = decide (items.size < items2.size) := by
    cases hvi with
    | nil =>
     cases hwi with
     | nil =>
      simp only [List.length_nil] at hlen
      rw [iC]
      exact (decide_eq_false (by omega)).symm
     | cons c u hw =>
      simp only [List.length_nil, List.length_cons] at hlen
      rw [gJ]
      exact (decide_eq_true (by omega)).symm
    | cons a t hv =>
     cases hwi with
     | nil =>
      simp only [List.length_nil, List.length_cons] at hlen
      rw [gK]
      exact (decide_eq_false (by omega)).symm
     | cons c u hw =>
      rw [List.zip_cons_cons] at hz
      cases hz
   rw [hv] at hR
   wp_walk
   exact ⟨_, rfl, by simpa [Builtin.Tuple.tupleCompareSizes] using hR⟩
  case h =>
   exact ⟨rfl, rfl, items.toList, items2.toList, ns, ms, rfl, hi, hj, by omega, h⟩
end
section
variable {prog:Program} {w:World} {A:Around} {E:Value → Shared → Prop} {s:Shared}
theorem dY {l b:Addr} {items items2:Array Value} {ns ms:List Int} {Q:Value → Shared → Prop} (hl:IsTup s.heap l items) (hb:IsTup s.heap b items2) (hi:IntsAre items.toList ns) (hj:IntsAre items2.toList ms)
  (hu:A.units < cLine) (h:Q (.bool (lexLt ns ms)) s):wpAny (model prog w) A (compareOp .Lt (.ref l) (.ref b)) Q E s := by
 obtain ⟨⟨cls, dd, data, sl⟩, ho, hc, n, hd⟩ := id hl
 obtain ⟨⟨cls2, dd2, data2, sl2⟩, ho2, hc2, n2, hd2⟩ := id hb
 simp only at hc hd hc2 hd2
 subst hc hd hc2 hd2
 exact richCompare_meets_room (op := .Lt) ⟨_, ho, rfl⟩ ⟨_, ho2, rfl⟩ PySem.F.slot_tuple_lt PySem.F.entry_tuple_lt (PySem.F.args_tuple_lt_2 _ _) (iD l b items items2 n n2 dd dd2 sl sl2 ns ms hi hj)
  ⟨ho, ho2, show Value.bool (lexLt ns ms) ≠ Value.notImplemented ∧ Q (.bool (lexLt ns ms)) s from ⟨(fun x => nomatch x), h⟩⟩ hu
theorem cat_tup {t b:Addr} {vs ws:List Value} {Q:Value → Shared → Prop} (ht:IsTup s.heap t vs.toArray) (hb:IsTup s.heap b ws.toArray) (hv:vs ≠ [])
  (h1:ws = [] → Q (.ref t) s) (h2:ws ≠ [] → Q (.ref s.heap.objs.size) { s with heap := s.heap.push { cls := .type "tuple", data := .seq (vs ++ ws).toArray } })
  (hsz:vs.length + ws.length ≤ sizeLine):wpAny (model prog w) A (binaryOp .Add (.ref t) (.ref b)) Q E s := by
 obtain ⟨⟨cls, dd, data, sl⟩, ho, hc, n, hd⟩ := id ht
 obtain ⟨⟨cls2, dd2, data2, sl2⟩, ho2, hc2, n2, hd2⟩ := id hb
 simp only at hc hd hc2 hd2
 subst hc hd hc2 hd2
 have e:vs.toArray ++ ws.toArray = (vs ++ ws).toArray := by simp
 by_cases hw:ws = []
 ·exact concat_meets ⟨_, ho, rfl⟩ ⟨_, ho2, rfl⟩ noFill_tuple_add seq_tuple_add PySem.F.slot_tuple_add PySem.F.entry_tuple_add (PySem.F.args_tuple_add_2 _ _)
   (tuple_addW1 t b vs.toArray ws.toArray n n2 dd dd2 sl sl2 (by simpa using hv) (by simp [hw])) ⟨ho, ho2, h1 hw⟩
 ·refine concat_meets ⟨_, ho, rfl⟩ ⟨_, ho2, rfl⟩ noFill_tuple_add seq_tuple_add PySem.F.slot_tuple_add PySem.F.entry_tuple_add (PySem.F.args_tuple_add_2 _ _)
   (tuple_addW2 t b vs.toArray ws.toArray n n2 dd dd2 sl sl2 (by simpa using hv) (by simpa using hw) (by rw [List.size_toArray, List.size_toArray]; exact hsz)) ⟨ho, ho2, ?_⟩
  rw [e]
  exact h2 hw
noncomputable def sIx (n d:Nat):Option Int → Nat
 | none => d
 | some v => if v < 0 then (v + (n:Int)).toNat else min v.toNat n
end
end HT
namespace L2
open PySem PySem.Spec PyProof.Rows
noncomputable abbrev TO := St → Hp → (Option Int → Hp → Prop) → Prop
noncomputable def PO (X:Cx) (e:Option Expr) (t:TO):Prop :=
 ∀ (pins:List (Addr × Obj)) (s:Shared) (σ:St) (H:Hp) (Q:Option Int → Hp → Prop), Inv X pins σ H s → t σ H Q →
  wpAny (model X.prog X.w) X.A (evalPart e X.env) (fun u s' => ∃ o H', Inv X pins σ H' s' ∧ IsPart u o ∧ Q o H') X.xe s
noncomputable def tPart (t:TE):TO := fun σ H Q => t σ H fun x H1 => ∃ i, x = .int i ∧ Q (some i) H1
theorem intsAre_of {ns:List Int}:∀ {us:List Value}, Vals (ns.map V.int) us → IntsAre us ns := by
 induction ns with
 | nil => intro us r; rw [List.map_nil] at r; cases r; exact .nil
 | cons n ns ih =>
  intro us r
  rw [List.map_cons] at r
  cases r with
  | cons r1 r2 =>
   refine oq11 r1 fun t e => ?_
   subst e
   exact .cons n t (ih r2)
section
variable {X:Cx} {e:Expr} {te:TE} {lo hi:Option Expr} {tl th:TO} {pos p2:Pos}
theorem po_some (h:PE X e te):PO X (some e) (tPart te) := by
 intro pins s σ H Q I hw
 rw [evalPart_some]
 refine thn (h pins s σ H _ I hw) fun u s1 zq => oq23 zq fun x H1 I1 r1 q1 => ?_
 refine oq12 q1 fun i eq1_ q => ?_; subst eq1_
 refine oq11 r1 fun t eq1_ => ?_; subst eq1_
 exact ⟨some i, H1, I1, .int i t, q⟩
noncomputable def SlR (X:Cx) (r:V → Option Int → Option Int → Hp → VK → Prop):Prop :=
 ∀ (pins:List (Addr × Obj)) (s:Shared) (σ:St) (H:Hp) (x:V) (v vl vu:Value) (lo hi:Option Int) (sl:Addr) (Q:VK), Inv X pins σ H s → RelV x v → s.heap.IsSliceOf sl vl vu .none → IsPart vl lo → IsPart vu hi → r x lo hi H Q →
  ∃ T id, typeLookup (.type T) "__getitem__" = pure (some (.builtin id)) ∧ s.TypeIs v T ∧ wpAny (model X.prog X.w) X.A (getItem v (.ref sl)) (EP X pins σ Q) X.xe s
noncomputable def tSl (r:V → Option Int → Option Int → Hp → VK → Prop) (te:TE) (tl th:TO):TE := fun σ H Q => te σ H fun x H1 => tl σ H1 fun l H2 => th σ H2 fun u H3 => r x l u H3 Q
theorem pe_slice {r:V → Option Int → Option Int → Hp → VK → Prop} (hr:SlR X r) (he:PE X e te) (hl:PO X lo tl) (hu:PO X hi th):PE X (.Subscript e (.Slice lo hi none p2) pos) (tSl r te tl th) := by
 intro pins s σ H Q I h
 refine Subscript_ (thn (he pins s σ H _ I h) fun v s1 zq => oq23 zq fun x H1 I1 r1 q1 => ?_)
 refine wpAny_Slice (thn (hl pins s1 σ H1 _ I1 q1) fun vl s2 zq => oq23 zq fun l H2 I2 pl q2 => thn (hu pins s2 σ H2 _ I2 q2) fun vu s3 zq => oq23 zq fun u H3 I3 pu q3 => ?_)
 rw [evalPart_none]
 refine wpAny_pure ?_
 have I4:Inv X pins σ H3 { s3 with heap := s3.heap.push { cls := .type "slice", data := .fields #[vl, vu, .none] } } := I3.kept (t' := s3.toks) fun b ob q => Heap.get?_push_of_some _ q
 refine oq23 (hr pins { s3 with heap := s3.heap.push { cls := .type "slice", data := .fields #[vl, vu, .none] } } σ H3 x v vl vu l u s3.heap.objs.size Q I4 r1 (Heap.IsSliceOf.new ..) pl pu q3) fun T id hT ht hg => ?_
 show wpAny (model X.prog X.w) X.A (subscriptTail e (.Slice lo hi none p2) v (.ref s3.heap.objs.size)) (EP X pins σ Q) X.xe { s3 with heap := s3.heap.push { cls := .type "slice", data := .fields #[vl, vu, .none] } }
 exact tail_any (ops := [.ref s3.heap.objs.size, v]) ht hT hg (by with_unfolding_all rfl)
noncomputable def cutV (xs:List V) (lo hi:Option Int):List V := (xs.drop (HT.sIx xs.length 0 lo)).take (HT.sIx xs.length xs.length hi - HT.sIx xs.length 0 lo)
theorem ke (xs:List V) (lo hi:Option Int):(cutV xs lo hi).length ≤ xs.length := by
 unfold cutV
 rw [List.length_take, List.length_drop]
 omega
noncomputable def rLtT (K:PySem.W.Frag):R2 := fun x y H Q => ∃ a b ns ms, x = .ref a ∧ y = .ref b ∧ SqT K H a (ns.map V.int) ∧ SqT K H b (ms.map V.int) ∧ Q (.bl (HT.lexLt ns ms)) H
theorem op_ltT (hu:X.A.units < cLine):OpR X (compareOp .Lt) (rLtT X.K) := by
 intro pins s σ H x y v u Q I rx ry h
 refine oq45 h fun a b ns ms eq4_ eq5_ ha hb q => ?_; subst eq4_; subst eq5_
 cases rx
 cases ry
 refine oq13 (I.tuple ha) fun its r1 p1 _ => ?_
 refine oq13 (I.tuple hb) fun its2 r2 p2 _ => ?_
 have i1:IntsAre its.toArray.toList ns := intsAre_of r1
 have i2:IntsAre its2.toArray.toList ms := intsAre_of r2
 exact HT.dY p1 p2 i1 i2 hu ⟨.bl (HT.lexLt ns ms), H, I, rfl, q⟩
noncomputable def rCatT (K:PySem.W.Frag):R2 := fun x y H Q => ∃ a b xs ys, x = .ref a ∧ y = .ref b ∧ SqT K H a xs ∧ SqT K H b ys ∧ xs ≠ [] ∧ xs.length + ys.length ≤ sizeLine ∧
 (ys = [] → Q (.ref a) H) ∧ (ys ≠ [] → ∀ p, H p = none → Q (.ref p) (upd H p (.tup (xs ++ ys))))
theorem Vals.nil_iff {xs:List V} {us:List Value} (r:Vals xs us):us = [] ↔ xs = [] := by
 cases r with
 | nil => simp
 | cons _ _ => simp
theorem op_catT:OpR X (binaryOp .Add) (rCatT X.K) := by
 intro pins s σ H x y v u Q I rx ry h
 refine oq48 h fun a b xs ys eq4_ eq5_ ha hb hx hz q1 q2 => ?_; subst eq4_; subst eq5_
 cases rx
 cases ry
 refine oq13 (I.tuple ha) fun its r1 p1 _ => ?_
 refine oq13 (I.tuple hb) fun its2 r2 p2 _ => ?_
 refine HT.cat_tup p1 p2 (fun z => hx (r1.nil_iff.mp z)) (fun z => ⟨.ref a, H, I, rfl, q1 (r2.nil_iff.mp z)⟩) (fun z => ?_) (by rw [← r1.length, ← r2.length]; exact hz)
 refine ⟨.ref s.heap.objs.size, _, I.laid (t' := s.toks) (o := .tup (xs ++ ys)) (fun b ob q => Heap.get?_push_of_some _ q) (nz6 _) ?_, rfl, q2 (fun w => z (r2.nil_iff.mpr w)) _ (I.hok.fresh (nz6 _))⟩
 exact ⟨by rw [List.length_append]; exact hz, _, r1.append r2, IsTup.new _ _⟩
end
end L2
namespace L2
open PySem PySem.Spec PyProof.Rows
noncomputable def ixN (n:Nat) (i:Int):Option Nat := if 0 ≤ i then (if i < n then some i.toNat else none) else if -(n:Int) ≤ i then some (i + n).toNat else none
noncomputable def atI {α:Type} (xs:List α) (i:Int):Option α := (ixN xs.length i).bind fun j => xs[j]?
theorem ixN_seq {n:Nat} {i:Int} {j:Nat} (h:ixN n i = some j):seqIndex? i n = some j ∧ j < n ∧ -(n:Int) ≤ i ∧ i < n := by
 unfold ixN at h
 by_cases h0:0 ≤ i
 ·rw [if_pos h0] at h
  by_cases h1:i < n
  ·rw [if_pos h1] at h
   have e:i.toNat = j := Option.some.inj h
   exact ⟨by rw [seqIndex_of h0 h1, e], by omega, by omega, h1⟩
  ·rw [if_neg h1] at h; cases h
 ·rw [if_neg h0] at h
  by_cases h1:-(n:Int) ≤ i
  ·rw [if_pos h1] at h
   have e:(i + n).toNat = j := Option.some.inj h
   exact ⟨by rw [seqIndex_neg (by omega) h1, e], by omega, h1, by omega⟩
  ·rw [if_neg h1] at h; cases h
theorem atI_get {α:Type} {xs:List α} {i:Int} {v:α} (h:atI xs i = some v):∃ j, seqIndex? i xs.length = some j ∧ xs[j]? = some v ∧ j < xs.length ∧ -(xs.length:Int) ≤ i ∧ i < xs.length := by
 unfold atI at h
 cases e:ixN xs.length i with
 | none => rw [e] at h; cases h
 | some j =>
  rw [e] at h
  refine oq04 (ixN_seq e) fun h1 h2 h3 h4 => ?_
  exact ⟨j, h1, h, h2, h3, h4⟩
noncomputable def PlainIx (b:Expr):Prop := ∀ o i, subscripted b false o i = operate [o, i] (getItem o i)
noncomputable def IxR (X:Cx) (r:R2):Prop :=
 ∀ (value slice:Expr) (pins:List (Addr × Obj)) (s:Shared) (σ:St) (H:Hp) (x y:V) (v u:Value) (Q:VK), Inv X pins σ H s → RelV x v → RelV y u → r x y H Q →
  subscripted slice false v u = operate [v, u] (getItem v u) → wpAny (model X.prog X.w) X.A (subscriptTail value slice v u) (EP X pins σ Q) X.xe s
noncomputable def MtR (X:Cx) (id:String) (r:V → List V → Hp → VK → Prop):Prop :=
 ∀ (pins:List (Addr × Obj)) (s:Shared) (σ:St) (H:Hp) (x:V) (xs:List V) (v:Value) (us:List Value) (Q:VK), Inv X pins σ H s → RelV x v → Vals xs us → r x xs H Q →
  wpAny (model X.prog X.w) X.A (call (.builtin id) (v :: us)) (EP X pins σ Q) X.xe s
section
variable {X:Cx} {a b:Expr} {ta tb:TE} {pos:Pos}
theorem aX {r:R2} (hr:IxR X r) (ha:PE X a ta) (hb:PE X b tb) (hs:PlainIx b):PE X (.Subscript a b pos) (tOp r ta tb) := by
 intro pins s σ H Q I h
 exact Subscript_ (binT ha hb I h fun v u s2 x y H2 I2 rx ry q => hr a b pins s2 σ H2 x y v u Q I2 rx ry q (hs _ _))
noncomputable def rIxL (K:PySem.W.Frag):R2 := fun x y H Q => ∃ p xs i v, x = .ref p ∧ y = .int i ∧ SqL K H p xs ∧ atI xs i = some v ∧ Q v H
noncomputable def rIxT (K:PySem.W.Frag):R2 := fun x y H Q => ∃ p xs i v, x = .ref p ∧ y = .int i ∧ SqT K H p xs ∧ atI xs i = some v ∧ Q v H
theorem ix_list:IxR X (rIxL X.K) := by
 intro value slice pins s σ H x y v u Q I rx ry h hs
 refine oq45 h fun p xs i z eq4_ eq5_ hq he q => ?_; subst eq4_; subst eq5_
 cases rx
 refine oq11 ry fun t eq1_ => ?_; subst eq1_
 refine oq13 (I.list hq) fun its r pl hz => ?_
 refine oq15 (atI_get he) fun j h1 h2 h3 h4 h5 => ?_
 refine oq12 (r.get h2) fun w ew rw' => ?_
 have hl := r.length
 have hn := je
 have fin:EP X pins σ Q w s := ⟨z, H, I, rw', q⟩
 by_cases h0:0 ≤ i
 ·have hj:i.toNat = j := by
   rw [seqIndex_of h0 h5] at h1
   exact Option.some.inj h1
  exact item_listR pl.isList h0 (by omega) (by rw [hj]; simpa using ew) fin hs
 ·have hj:(i + (its.toArray.size:Int)).toNat = j := by
   rw [seqIndex_neg (by omega) h4] at h1
   rw [List.size_toArray, ← hl]
   exact Option.some.inj h1
  exact subscriptTail_builtinR (x := w) pl.isList.typeIs slot_list_getitem.lookup
   (wpAny_getItem_list_neg (Q := fun r s' => r = w ∧ EP X pins σ Q r s') pl.isList (by omega) (by rw [List.size_toArray] <;> omega) (by omega) (by rw [hj]; simpa using ew) ⟨rfl, fin⟩) hs
theorem ix_tup:IxR X (rIxT X.K) := by
 intro value slice pins s σ H x y v u Q I rx ry h hs
 refine oq45 h fun p xs i z eq4_ eq5_ hq he q => ?_; subst eq4_; subst eq5_
 cases rx
 refine oq11 ry fun t eq1_ => ?_; subst eq1_
 refine oq13 (I.tuple hq) fun its r pl hz => ?_
 refine oq15 (atI_get he) fun j h1 h2 h3 h4 h5 => ?_
 refine oq12 (r.get h2) fun w ew rw' => ?_
 have hl := r.length
 have hn := je
 have fin:EP X pins σ Q w s := ⟨z, H, I, rw', q⟩
 exact subscriptTail_builtinR (x := w) pl.typeIs slot_tuple_getitem.lookup
  (getItem_tuple (j := j) (Q := fun r s' => r = w ∧ EP X pins σ Q r s') pl (by omega) (by omega) (by rw [List.size_toArray, ← hl]; exact h1) (by simpa using ew) ⟨rfl, fin⟩) hs
theorem jf (lo hi:Option Int) (n:Nat):(sliceBounds lo hi none n).1 = ((HT.sIx n 0 lo:Nat):Int) ∧ (sliceBounds lo hi none n).2.1 = ((HT.sIx n n hi:Nat):Int) ∧ (sliceBounds lo hi none n).2.2 = 1 := by
 refine ⟨?_, ?_, rfl⟩
 ·cases lo with
  | none => simp [sliceBounds, HT.sIx]
  | some i =>
   simp only [sliceBounds, HT.sIx, Option.getD_none, show (1:Int) > 0 by decide, if_true]
   by_cases h:i < 0
   ·simp only [h, if_true] <;> omega
   ·simp only [h, if_false] <;> omega
 ·cases hi with
  | none => simp [sliceBounds, HT.sIx]
  | some i =>
   simp only [sliceBounds, HT.sIx, Option.getD_none, show (1:Int) > 0 by decide, if_true]
   by_cases h:i < 0
   ·simp only [h, if_true] <;> omega
   ·simp only [h, if_false] <;> omega
theorem iE (its:List Value) (lo hi:Option Int):slicePick its.toArray lo hi none = ((its.drop (HT.sIx its.length 0 lo)).take (HT.sIx its.length its.length hi - HT.sIx its.length 0 lo)).toArray := by
 refine oq03 (jf lo hi its.toArray.size) fun h1 h2 h3 => ?_
 unfold slicePick
 rw [h1, h2, h3]
 simp only [sliceRange_one, pick_run, List.size_toArray] <;> rfl
noncomputable def rSlL (K:PySem.W.Frag):V → Option Int → Option Int → Hp → VK → Prop := fun x lo hi H Q => ∃ a xs, x = .ref a ∧ SqL K H a xs ∧ ∀ p, H p = none → Q (.ref p) (upd H p (.lst (cutV xs lo hi)))
theorem sl_list:SlR X (rSlL X.K) := by
 intro pins s σ H x v vl vu lo hi sl Q I rx hs pl pu h
 refine oq23 h fun a xs eq2_ hx q => ?_; subst eq2_
 cases rx
 refine oq13 (I.list hx) fun its r ht hz => ?_
 have hlen := r.length
 refine ⟨"list", _, slot_list_getitem.lookup, ht.isList.typeIs, ?_⟩
 refine wpAny_getItem_list_slice ht.isList hs pl pu .none (by simp) ?_ (by rw [List.size_toArray] <;> omega)
 rw [iE, ← hlen]
 refine ⟨.ref s.heap.objs.size, _, I.laid (t' := s.toks) (o := .lst (cutV xs lo hi)) (fun b ob q => Heap.get?_push_of_some _ q) (nz6 _) ?_, rfl, q _ (I.hok.fresh (nz6 _))⟩
 exact ⟨nz4 (ke xs lo hi) hz, _, 0, (r.drop (HT.sIx xs.length 0 lo)).take (HT.sIx xs.length xs.length hi - HT.sIx xs.length 0 lo), Heap.get?_push_size _ rfl⟩
theorem jg:ci X (.builtin "len") (fun xs H Q => ∃ p ys, xs = [.ref p] ∧ (SqL X.K H p ys ∨ SqT X.K H p ys) ∧ Q (.int ys.length) H) := by
 intro pins s σ H xs us Q I r h
 refine oq23 h fun p ys eq2_ hq q => ?_; subst eq2_
 refine oq12 (vals1 r) fun u eq1_ rx => ?_; subst eq1_
 cases rx
 have hn := je
 rcases hq with hq | hq
 ·refine oq13 (I.list hq) fun its r' pl hz => ?_
  have hlen := r'.length
  exact Calls.call_len_list pl.isList (by simp only [List.size_toArray] <;> omega) ⟨.int ys.length, H, I.tok _, ⟨s.toks + 1, by rw [List.size_toArray, hlen]⟩, q⟩
 ·refine oq13 (I.tuple hq) fun its r' pl hz => ?_
  have hlen := r'.length
  exact len_tuple pl (by simp only [List.size_toArray] <;> omega) ⟨.int ys.length, H, I.tok _, ⟨s.toks + 1, by rw [List.size_toArray, hlen]⟩, q⟩
theorem jh:ci X (.type "list") (fun xs H Q => ∃ p ys, xs = [.ref p] ∧ (SqL X.K H p ys ∨ SqT X.K H p ys) ∧ ∀ l, H l = none → Q (.ref l) (upd H l (.lst ys))) := by
 intro pins s σ H xs us Q I r h
 refine oq23 h fun p ys eq2_ hq q => ?_; subst eq2_
 refine oq12 (vals1 r) fun u eq1_ rx => ?_; subst eq1_
 cases rx
 have fin:∀ (its:List Value), Vals ys its → ys.length ≤ sizeLine → ∀ (h':Heap) (c':Nat), (∀ b o', s.heap.get? b = some o' → h'.get? b = some o') →
   h'.get? s.heap.objs.size = some { cls := .type "list", dict := none, data := .seq its.toArray c', slots := #[] } → EP X pins σ Q (.ref s.heap.objs.size) { s with heap := h' } := fun its r' hz h' c' kp e =>
  ⟨.ref s.heap.objs.size, _, I.laid (t' := s.toks) kp (nz6 _) (show aG X.prog X.w _ h' _ (.lst ys) from ⟨hz, its, c', r', e⟩), rfl, q _ (I.hok.fresh (nz6 _))⟩
 rcases hq with hq | hq
 ·refine oq13 (I.list hq) fun its r' pl hz => ?_
  have hlen := r'.length
  refine oq13 pl.isList fun o ho hc zz => oq11 zz fun n hd => ?_
  exact call_list_seq p (.inl rfl) ho hc hd (fun h' c' kp e => fin its r' hz h' c' kp e) (by simp only [List.size_toArray] <;> omega)
 ·refine oq13 (I.tuple hq) fun its r' pl hz => ?_
  have hlen := r'.length
  refine oq13 pl fun o ho hc zz => oq11 zz fun n hd => ?_
  exact call_list_seq p (.inr rfl) ho hc hd (fun h' c' kp e => fin its r' hz h' c' kp e) (by simp only [List.size_toArray] <;> omega)
noncomputable def tyV (K:PySem.W.Frag) (T:String) (x:V) (H:Hp):Prop := match x with
 | .str _ => T = "str"
 | .int _ => T = "int"
 | .ref p => (T = "list" ∧ ∃ xs, SqL K H p xs) ∨ (T = "tuple" ∧ ∃ o, K.lookup p = some o ∧ o.cls = .type "tuple" ∧ o.dict = none) ∨
   (T = "dict" ∧ ((∃ kvs, H p = some (.dK kvs)) ∨ ∃ kvs, H p = some (.dT kvs))) ∨ (T = "set" ∧ ∃ S n, H p = some (.set S n))
 | _ => False
theorem tyV_is {pins:List (Addr × Obj)} {σ:St} {H:Hp} {s:Shared} {T:String} {x:V} {v:Value} (I:Inv X pins σ H s) (r:RelV x v) (ty:tyV X.K T x H) :
  s.TypeIs v T ∧ ∀ a, v = .ref a → ∃ ob, s.heap.get? a = some ob ∧ ob.dict = none := by
 cases x with
 | str z =>
  refine oq11 r fun t eq1_ => ?_; subst eq1_
  cases (show T = "str" from ty)
  exact ⟨typeIs_str s z t, fun _ e => nomatch e⟩
 | int i =>
  refine oq11 r fun t eq1_ => ?_; subst eq1_
  cases (show T = "int" from ty)
  exact ⟨typeIs_int s i t, fun _ e => nomatch e⟩
 | ref p =>
  cases r
  rcases ty with ⟨rfl, xs, hq⟩ | ⟨rfl, o, hk, hc, hd⟩ | ⟨rfl, hk⟩ | ⟨rfl, S, n, hk⟩
  ·refine oq13 (I.list hq) fun its _ pl _ => ?_
   refine ⟨pl.isList.typeIs, fun a e => ?_⟩
   cases e
   refine oq24 pl fun o n e c hd _ => ?_
   exact ⟨o, e, hd⟩
  ·refine ⟨⟨o, I.kIn p o hk, hc⟩, fun a e => ?_⟩
   cases e
   exact ⟨o, I.kIn _ o hk, hd⟩
  ·have z:∃ o, s.heap.get? p = some o ∧ o.ExactDict := by
    rcases hk with ⟨kvs, hk⟩ | ⟨kvs, hk⟩
    ·refine oq03 (I.hok p _ hk) fun _ _ zz => oq12 zz fun _ _ zz => oq33 zz fun o _ _ e ex _ => ?_
     exact ⟨o, e, ex⟩
    ·refine oq03 (I.hok p _ hk) fun _ _ zz => oq12 zz fun _ _ zz => oq33 zz fun o _ _ e ex _ => ?_
     exact ⟨o, e, ex⟩
   refine oq12 z fun o e ex => ?_
   refine ⟨⟨o, e, ex.1⟩, fun a e2 => ?_⟩
   cases e2
   exact ⟨o, e, ex.2.1⟩
  ·refine oq43 (I.hok p _ hk) fun o _ _ _ e ex _ => ?_
   refine ⟨⟨o, e, ex.1⟩, fun a e2 => ?_⟩
   cases e2
   exact ⟨o, e, ex.2.1⟩
 | _ => exact False.elim ty
noncomputable def tBM (K:PySem.W.Frag) (T:String) (r:V → List V → Hp → VK → Prop) (to:TE) (t:TA):TE := fun σ H Q => to σ H fun x H1 => tyV K T x H1 ∧ t σ H1 fun xs H2 => r x xs H2 Q
variable {o e:Expr} {es:List Expr} {to:TE} {t:TA} {name:Str} {apos cpos:Pos} {T id:String} {r:V → List V → Hp → VK → Prop}
theorem pe_bm (pa:PlainAttrs T) (slot:Slot T name id) (hty:typeOf (.builtin id) = pure (.type "method_descriptor")) (hm:MtR X id r) (ho:PE X o to) (ha:PA X (e :: es) t)
  (hbase:attributeBase o name X.env (eval o X.env) = eval o X.env := by rfl)
  (hfew:((backTo cpos (starEach (e :: es) X.env)).all (fun x => !x.1) && (backToKw cpos (keywordEach [] X.env)).all (fun x => x.1.isSome)
   && decide ((e :: es).length + ([]:List Keyword).length + (if ([]:List Keyword).isEmpty then 0 else 1) < 30)) = true := by rfl)
  (hline:(apos.endLine == cpos.line) = true := by rfl) (hs:starEach (e :: es) X.env = (false, eval e X.env) :: starEach es X.env := by rfl) (hplain:(backTo cpos (starEach es X.env)).any (·.1) = false := by rfl) :
  PE X (.Call (.Attribute o name apos) (e :: es) [] cpos) (tBM X.K T r to t) := by
 intro pins s σ H Q I h
 refine wpAny_Call_method_late hbase hfew hline rfl (thn (ho pins s σ H _ I h) fun v s1 zq => oq24 zq fun x H1 I1 r1 ty q1 => ?_)
 refine oq02 (tyV_is I1 r1 ty) fun h1 h2 => ?_
 refine ⟨T, id, pa, slot, hty, h1, h2, ?_⟩
 have hA := ha cpos pins s1 σ H1 _ I1 q1
 rw [hs] at hA ⊢
 refine Calls.callWith_builtin (by show (false || (backTo cpos (starEach es X.env)).any (·.1)) = false; rw [hplain] <;> rfl) (Calls.evalArgs_plain ?_)
 exact thn hA fun us s2 zq => oq23 zq fun vs H2 I2 r2 q2 => hm pins s2 σ H2 x vs v us Q I2 r1 r2 q2
end
end L2
namespace L2
open PySem PySem.Spec PyProof.Rows
noncomputable def MtM (X:Cx) (id:String) (r:V → List V → Hp → VK → Prop):Prop :=
 ∀ (pins:List (Addr × Obj)) (s:Shared) (σ:St) (H:Hp) (x:V) (xs:List V) (v:Value) (us:List Value) (Q:VK), Inv X pins σ H s → RelV x v → Vals xs us → r x xs H Q →
  wpAny (model X.prog X.w) X.A (call (.builtin id) (v :: us)) (EP X pins σ Q) X.xe s
theorem Vals.one:∀ {x:V} {us:List Value}, Vals [x] us → ∃ u, us = [u] ∧ RelV x u
 | _, _, .cons r .nil => ⟨_, rfl, r⟩
section
variable {X:Cx} {pins:List (Addr × Obj)} {σ:St} {H:Hp} {s:Shared} {l b:Addr} {xs ys zs:List V}
theorem Inv.lset {its its':List Value} {n:Nat} {f:Array Value → Array Value} {t':Nat} (I:Inv X pins σ H s) (hH:H l = some (.lst xs))
  (e:s.heap.get? l = some { cls := .type "list", data := .seq its.toArray n }) (hf:f its.toArray = its'.toArray) (hv:Vals ys its') (hz:ys.length ≤ sizeLine) :
  Inv X pins σ (upd H l (.lst ys)) { s with heap := s.heap.update l (Obj.mapSeq f), toks := t' } := by
 have q := PySem.IsL.update e f
 rw [hf] at q
 refine I.write (x := l) (e := l) (by rw [hH]; exact trivial) (.inl rfl) (fun b' u hb hu => (Heap.get?_update_other s.heap (Obj.mapSeq f) (Ne.symm hb)).trans hu) ⟨_, q⟩ ?_
 exact ⟨hz, its', _, hv, q⟩
theorem Inv.lnew {its:List Value} {t':Nat} (I:Inv X pins σ H s) (hv:Vals ys its) (hz:ys.length ≤ sizeLine) :
  Inv X pins σ (upd H s.heap.objs.size (.lst ys)) { s with heap := s.heap.push { cls := .type "list", data := .seq its.toArray }, toks := t' } :=
 I.laid (fun _ _ q => Heap.get?_push_of_some _ q) (nz6 _) ⟨hz, its, 0, hv, Heap.get?_push_size _ rfl⟩
theorem Inv.fresh (I:Inv X pins σ H s):H s.heap.objs.size = none := I.hok.fresh (nz6 _)
theorem Inv.lstM (I:Inv X pins σ H s) (hH:H l = some (.lst xs)):xs.length ≤ sizeLine ∧ ∃ (its:List Value) (n:Nat), Vals xs its ∧ xs.length = its.length ∧ s.heap.get? l = some { cls := .type "list", data := .seq its.toArray n } := by
 refine oq02 (I.hok l _ hH) fun z zz => oq22 zz fun its n r e => ?_
 exact ⟨z, its, n, r, r.length, e⟩
end
section
variable {X:Cx}
noncomputable def rAppend:V → List V → Hp → VK → Prop := fun x vs H Q => ∃ l xs y, x = .ref l ∧ vs = [y] ∧ H l = some (.lst xs) ∧ xs.length < sizeLine ∧ Q .non (upd H l (.lst (xs ++ [y])))
theorem cS:MtM X "list.append" rAppend := by
 intro pins s σ H x vs v us Q I rx rv h
 refine oq35 h fun l xs y eq3_ eq4_ hH hz q => ?_; subst eq3_; subst eq4_
 cases rx
 refine oq12 rv.one fun u eq1_ ru => ?_; subst eq1_
 refine oq02 (I.lstM hH) fun z zz => oq23 zz fun its n r hl e => ?_
 refine call_meets F.slot_list_append ⟨_, e, rfl⟩ F.entry_list_append (F.args_list_append_2 _ _) (PySem.list_append l its.toArray n u (by rw [List.size_toArray]; omega)) ⟨e, ?_⟩
 refine ⟨.non, _, I.lset (its' := its ++ [u]) hH e (by simp) (r.append (.cons ru .nil)) ?_, rfl, q⟩
 rw [List.length_append, List.length_singleton]
 omega
end
section
variable {prog:Program} {w:World} {A:Around} {E:Value → Shared → Prop} {s:Shared}
set_option maxRecDepth 100000 in
end
section
variable {X:Cx}
end
end L2
namespace L2
open PySem PySem.Spec PyProof.Rows
section
variable {X:Cx} {x:Str} {p pos:Pos} {e:Expr} {es:List Expr} {t:TA} {id T:String} {r:List V → Hp → VK → Prop}
end
end L2
namespace L2
open PySem PySem.Spec PyProof.Rows
section
variable {κ:Type} [DecidableEq κ]
noncomputable def valV (kvs:List (κ × V)) (k:κ):Option V := (kvs.find? fun kv => decide (kv.1 = k)).map (·.2)
noncomputable def putK (kvs:List (κ × V)) (k:κ) (v:V):List (κ × V) :=
 if (kvs.any fun kv => decide (kv.1 = k)) = true then kvs.map (fun kv => if kv.1 = k then (kv.1, v) else kv) else kvs ++ [(k, v)]
theorem di {p:κ × V} {r:List (κ × V)} {k:κ} (e:p.1 = k):valV (p :: r) k = some p.2 := by simp [valV, List.find?_cons, e]
theorem dj {p:κ × V} {r:List (κ × V)} {k:κ} (e:¬ p.1 = k):valV (p :: r) k = valV r k := by simp [valV, List.find?_cons, e]
theorem kf (k:κ):∀ kvs:List (κ × V), (kvs.any fun kv => decide (kv.1 = k)) = (valV kvs k).isSome
 | [] => rfl
 | p :: r => by
  rw [List.any_cons]
  by_cases e:p.1 = k
  ·simp only [di e, decide_eq_true e, Bool.true_or, Option.isSome_some]
  ·rw [dj e, decide_eq_false e, Bool.false_or]; exact kf k r
theorem dk (kvs:List (κ × V)) (k:κ) (v:V):(putK kvs k v).length ≤ kvs.length + 1 := by
 unfold putK
 split
 ·rw [List.length_map]; omega
 ·rw [List.length_append, List.length_cons, List.length_nil]; omega
theorem RelO.isSome_eq {o:Option V} {u:Option Value} (r:RelO o u):o.isSome = u.isSome := by
 cases o with
 | none => cases u with
  | none => rfl
  | some _ => exact (show False from r).elim
 | some _ => cases u with
  | none => exact (show False from r).elim
  | some _ => rfl
theorem RelO.getD {o:Option V} {u:Option Value} {d:V} {d':Value} (r:RelO o u) (rd:RelV d d'):RelV (o.getD d) (u.getD d') := by
 cases o with
 | none => cases u with
  | none => exact rd
  | some _ => exact (show False from r).elim
 | some _ => cases u with
  | none => exact (show False from r).elim
  | some _ => exact r
theorem KV.val {kvs:List (κ × V)} {vs:List (κ × Value)} (r:KV kvs vs) (k:κ):RelO (valV kvs k) (valueAt vs k) := by
 unfold KV at r
 induction r with
 | nil => exact True.intro
 | @cons p q ps qs h t ih =>
  refine oq02 h fun h1 h2 => ?_
  by_cases e:p.1 = k
  ·have e':q.1 = k := h1.symm.trans e
   have b:valueAt (q :: qs) k = some q.2 := by simp [valueAt, List.find?_cons, e']
   rw [di e, b]; exact h2
  ·have e':¬ q.1 = k := fun z => e (h1.trans z)
   have b:valueAt (q :: qs) k = valueAt qs k := by simp [valueAt, List.find?_cons, e']
   rw [dj e, b]; exact ih
theorem KV.any {kvs:List (κ × V)} {vs:List (κ × Value)} (r:KV kvs vs) (k:κ):(kvs.any fun kv => decide (kv.1 = k)) = vs.any fun kv => decide (kv.1 = k) := by
 unfold KV at r
 induction r with
 | nil => rfl
 | cons h t ih => rw [List.any_cons, List.any_cons, ih, h.1]
theorem KV.repl {kvs:List (κ × V)} {vs:List (κ × Value)} (r:KV kvs vs) (k:κ) {y:V} {u:Value} (ry:RelV y u) :
  KV (kvs.map fun kv => if kv.1 = k then (kv.1, y) else kv) (vs.map fun kv => if kv.1 = k then (kv.1, u) else kv) := by
 unfold KV at r ⊢
 induction r with
 | nil => exact .nil
 | @cons p q ps qs h t ih =>
  rw [List.map_cons, List.map_cons]
  refine .cons ?_ ih
  refine oq02 h fun h1 h2 => ?_
  by_cases e:p.1 = k
  ·rw [if_pos e, if_pos (h1.symm.trans e)]; exact ⟨h1, ry⟩
  ·rw [if_neg e, if_neg (fun z => e (h1.trans z))]; exact ⟨h1, h2⟩
theorem KV.put {kvs:List (κ × V)} {vs:List (κ × Value)} (r:KV kvs vs) (k:κ) {y:V} {u:Value} (ry:RelV y u):KV (putK kvs k y) (stored vs k u) := by
 unfold putK stored
 rw [r.any k]
 by_cases e:(vs.any fun kv => decide (kv.1 = k)) = true
 ·rw [if_pos e, if_pos e]; exact r.repl k ry
 ·rw [if_neg e, if_neg e]; exact Paired.snoc r ⟨rfl, ry⟩
theorem KV.length {kvs:List (κ × V)} {vs:List (κ × Value)} (r:KV kvs vs):kvs.length = vs.length := Paired.length r
end
theorem kV_is {P:Program} {w:World} {k:Key} {u:Value} (r:RelV (kV k) u):(b7 P w).is k u = true := by
 cases k with
 | inl i => refine oq11 ((show ∃ t, u = Value.int i t from r)) fun t e => ?_; subst e; exact jY P w i t
 | inr x => refine oq11 ((show ∃ t, u = Value.str x t from r)) fun t e => ?_; subst e; exact jZ P w x t
theorem iS {P:Program} {w:World}:∀ {ks:List Key} {us:List Value}, Vals (ks.map kV) us → ItemsAre (b7 P w) ks us
 | [], _, r => by rw [List.map_nil] at r; cases r; exact .nil
 | k :: ks, _, r => by
  rw [List.map_cons] at r
  cases r with
  | cons h t => exact .cons (kV_is h) (iS t)
noncomputable abbrev KT (H:Hp):List (List Key × V) → List (List Key × Addr × Value) → Prop := Paired fun p q => p.1 = q.1 ∧ H q.2.1 = some (.tup (p.1.map kV)) ∧ RelV p.2 q.2.2
theorem KT.val {H:Hp} {kvs:List (List Key × V)} {xs:List (List Key × Addr × Value)} (r:KT H kvs xs) (k:List Key):RelO (valV kvs k) ((atKey xs k).map (·.2)) := by
 induction r with
 | nil => exact True.intro
 | @cons p q ps qs h t ih =>
  refine oq03 h fun h1 _ h2 => ?_
  by_cases e:p.1 = k
  ·have e':q.1 = k := h1.symm.trans e
   have b:atKey (q :: qs) k = some q.2 := by simp [atKey, List.find?_cons, e']
   rw [di e, b]; exact h2
  ·have e':¬ q.1 = k := fun z => e (h1.trans z)
   have b:atKey (q :: qs) k = atKey qs k := by simp [atKey, List.find?_cons, e']
   rw [dj e, b]; exact ih
theorem KT.repl {H:Hp} {kvs:List (List Key × V)} {xs:List (List Key × Addr × Value)} (r:KT H kvs xs) (k:List Key) {y:V} {u:Value} (ry:RelV y u) :
  KT H (kvs.map fun kv => if kv.1 = k then (kv.1, y) else kv) (xs.map (putAt k u)) := by
 induction r with
 | nil => exact .nil
 | @cons p q ps qs h t ih =>
  rw [List.map_cons, List.map_cons]
  refine .cons ?_ ih
  refine oq03 h fun h1 h2 h3 => ?_
  unfold putAt
  by_cases e:p.1 = k
  ·rw [if_pos e, if_pos (h1.symm.trans e)]; exact ⟨h1, h2, ry⟩
  ·rw [if_neg e, if_neg (fun z => e (h1.trans z))]; exact ⟨h1, h2, h3⟩
theorem KT.put {H:Hp} {kvs:List (List Key × V)} {xs:List (List Key × Addr × Value)} (r:KT H kvs xs) (k:List Key) {b:Addr} {y:V} {u:Value} (hb:H b = some (.tup (k.map kV))) (ry:RelV y u) :
  KT H (putK kvs k y) (storedH xs k b u) := by
 have e:(kvs.any fun kv => decide (kv.1 = k)) = (atKey xs k).isSome := by
  rw [kf, (r.val k).isSome_eq, Option.isSome_map]
 unfold putK storedH
 rw [e]
 by_cases q:(atKey xs k).isSome = true
 ·rw [if_pos q, if_pos q]; exact r.repl k ry
 ·rw [if_neg q, if_neg q]; exact Paired.snoc r ⟨rfl, hb, ry⟩
theorem KT.keeps {H H':Hp} {kvs:List (List Key × V)} {xs:List (List Key × Addr × Value)} (r:KT H kvs xs) (ht:∀ b ys, H b = some (.tup ys) → H' b = some (.tup ys)):KT H' kvs xs :=
 Paired.mapP r fun _ _ z => ⟨z.1, ht _ _ z.2.1, z.2.2⟩
section
variable {P:Program} {w:World} {H:Hp} {h:Heap} {a:Addr}
theorem rd_of {u:HO} (ok:HOk P w H h) (e:Rd H a u):aG P w H h a u := e.ok ok
theorem kg {kvs:List (Key × V)} (ok:HOk P w H h) (e:Rd H a (.dK kvs)):kvs.length ≤ sizeLine ∧ (a == sysModules) = false ∧ ∃ vs, KV kvs vs ∧ h.DictOf (b7 P w) a vs :=
 show aG P w H h a (.dK kvs) from rd_of ok e
theorem dk_of {kvs:List (Key × V)} (ok:HOk P w H h) (e:H a = some (.dK kvs)):kvs.length ≤ sizeLine ∧ (a == sysModules) = false ∧ ∃ vs, KV kvs vs ∧ h.DictOf (b7 P w) a vs := kg ok (.inl e)
theorem gM {ks:List Key} (ok:HOk P w H h) (e:H a = some (.tup (ks.map kV))):(tupleKind (b7 P w)).is h ks a := by
 refine oq02 ((show aG P w H h a (.tup (ks.map kV)) from ok a _ e)) fun _ zz => oq12 zz fun its r zz => oq13 zz fun o h1 h2 zz => oq11 zz fun n h3 => ?_
 exact ⟨o, its.toArray, n, h1, h2, h3, by simpa using iS r⟩
theorem kh {kvs:List (List Key × V)} (ok:HOk P w H h) (e:Rd H a (.dT kvs)):kvs.length ≤ sizeLine ∧ (a == sysModules) = false ∧
  ∃ xs, KT H kvs xs ∧ h.DictOfH (tupleKind (b7 P w)) a xs := by
 refine oq03 ((show aG P w H h a (.dT kvs) from rd_of ok e)) fun z y zz => oq12 zz fun xs r zz => oq35 zz fun o es ep h1 h2 h3 h4 h5 => ?_
 refine ⟨z, y, xs, r, o, es, ep, h1, h2, h3, h4, fun x hx => ?_, h5⟩
 have all:∀ {l:List (List Key × V)} {m:List (List Key × Addr × Value)}, KT H l m → ∀ x ∈ m, (tupleKind (b7 P w)).is h x.1 x.2.1 := by
  intro l m q
  induction q with
  | nil => intro x hx; exact nomatch hx
  | @cons p q ps qs hq t ih =>
   intro x hx
   rcases List.mem_cons.mp hx with e | hx
   ·subst e
    exact gM ok (by rw [← hq.1]; exact hq.2.1)
   ·exact ih x hx
 exact all r x hx
theorem dt_of {kvs:List (List Key × V)} (ok:HOk P w H h) (e:H a = some (.dT kvs)):kvs.length ≤ sizeLine ∧ (a == sysModules) = false ∧
  ∃ xs, KT H kvs xs ∧ h.DictOfH (tupleKind (b7 P w)) a xs := kh ok (.inl e)
end
noncomputable def DGet (H:Hp) (a:Addr) (y:V) (r:Option V):Prop :=
 (∃ kvs k, Rd H a (.dK kvs) ∧ y = kV k ∧ r = valV kvs k) ∨ ∃ kvs k b, Rd H a (.dT kvs) ∧ y = .ref b ∧ H b = some (.tup (k.map kV)) ∧ r = valV kvs k
noncomputable def DPut (H:Hp) (a:Addr) (y v:V) (H':Hp):Prop :=
 (∃ kvs k, H a = some (.dK kvs) ∧ y = kV k ∧ kvs.length < sizeLine ∧ H' = upd H a (.dK (putK kvs k v))) ∨
 ∃ kvs k b, H a = some (.dT kvs) ∧ y = .ref b ∧ H b = some (.tup (k.map kV)) ∧ kvs.length < sizeLine ∧ H' = upd H a (.dT (putK kvs k v))
theorem DPut.k {H:Hp} {a:Addr} {kvs:List (Key × V)} {k:Key} {v:V} (e:H a = some (.dK kvs)) (hl:kvs.length < sizeLine):DPut H a (kV k) v (upd H a (.dK (putK kvs k v))) := .inl ⟨kvs, k, e, rfl, hl, rfl⟩
theorem DPut.t {H:Hp} {a b:Addr} {kvs:List (List Key × V)} {k:List Key} {v:V} (e:H a = some (.dT kvs)) (eb:H b = some (.tup (k.map kV))) (hl:kvs.length < sizeLine) :
  DPut H a (.ref b) v (upd H a (.dT (putK kvs k v))) := .inr ⟨kvs, k, b, e, rfl, eb, hl, rfl⟩
section
variable {X:Cx} {pins:List (Addr × Obj)} {σ:St} {H:Hp} {s:Shared} {a:Addr} {y v:V} {u r:Value} {o:Option V} {A:Around} {E:Value → Shared → Prop}
theorem Inv.big (I:Inv X pins σ H s):sysModules < s.heap.objs.size := by
 have h:mainGlobals < s.heap.objs.size := (I.mod.glob.keeps I.bk).lt
 exact nz8 (by decide) h
theorem d_getItem {Q:Value → Shared → Prop} (hu:A.units + 1 < cLine) (I:Inv X pins σ H s) (g:DGet H a y (some v)) (ry:RelV y u) (h:∀ w' s', Inv X pins σ H s' → RelV v w' → Q w' s') :
  wpAny (model X.prog X.w) A (getItem (.ref a) u) Q E s := by
 rcases g with ⟨kvs, k, e, ey, l⟩ | ⟨kvs, k, b, e, ey, eb, l⟩
 ·subst ey
  refine oq03 (kg I.hok e) fun z hd zz => oq12 zz fun vs rel dd => ?_
  refine oq12 (RelO.some_of (v := v) (o := valueAt vs k) (by rw [l]; exact rel.val k)) fun w' hw rw' => ?_
  exact wpAny_getItem_of (kV_is ry) dd.mapOf hw (h w' _ (I.tok _) rw')
 ·subst ey
  cases (show u = Value.ref b from ry)
  refine oq03 (kh I.hok e) fun z hd zz => oq12 zz fun xs rel dd => ?_
  refine oq12 (RelO.some_of (v := v) (o := (atKey xs k).map (·.2)) (by rw [l]; exact rel.val k)) fun w' hw rw' => ?_
  refine oq12 (Option.map_eq_some_iff.mp hw) fun p hp hp2 => ?_
  refine wpAny_getItem_heap (tupleKind_room_in1 hu) (gM I.hok eb) dd hp ?_
  rw [hp2]
  exact h w' _ (I.tok _) rw'
theorem ji {h':Heap} {t':Nat} {ob:HO} (I:Inv X pins σ H s) (mu:Mut (H a)) (hs:Heap.SameBut a s.heap h') (he:∃ q, h'.get? a = some q) (new:aG X.prog X.w (upd H a ob) h' a ob) :
  Inv X pins σ (upd H a ob) { s with heap := h', toks := t' } :=
 I.write (x := a) (e := a) mu (.inl rfl) (fun b q hb z => (hs.2 b hb).trans z) he new
theorem dk_new {P:Program} {w:World} {H':Hp} {h':Heap} {kvs:List (Key × V)} {vs:List (Key × Value)} (z:kvs.length ≤ sizeLine) (hd:(a == sysModules) = false) (rel:KV kvs vs) (dd:h'.DictOf (b7 P w) a vs) :
  aG P w H' h' a (.dK kvs) := ⟨z, hd, vs, rel, dd⟩
theorem d_setItem {H':Hp} {Q:Unit → Shared → Prop} (hu:A.units + 1 < cLine) (I:Inv X pins σ H s) (g:DPut H a y v H') (ry:RelV y u) (rv:RelV v r) (h:∀ s', Inv X pins σ H' s' → Q () s') :
  wpAny (model X.prog X.w) A (setItem (.ref a) u r) Q E s := by
 rcases g with ⟨kvs, k, e, ey, l, eH⟩ | ⟨kvs, k, b, e, ey, eb, l, eH⟩
 ·subst ey eH
  refine oq03 (dk_of I.hok e) fun z hd zz => oq12 zz fun vs rel dd => ?_
  have hz:vs.length ≤ sizeLine := by rw [← rel.length]; exact z
  have hl:(putK kvs k v).length ≤ sizeLine := by have := dk kvs k v; omega
  refine wpAny_setItem_pairs (hsz := hz) (kV_is ry) dd fun h' dd' hs => h _ ?_
  have he:∃ q, h'.get? a = some q := oq32 dd' fun q _ _ hq _ => ⟨q, hq⟩
  exact ji I (by rw [e]; exact True.intro) hs he (dk_new hl hd (rel.put k rv) dd')
 ·subst ey eH
  cases (show u = Value.ref b from ry)
  refine oq03 (dt_of I.hok e) fun z hd zz => oq12 zz fun xs rel dd => ?_
  have hz:xs.length ≤ sizeLine := by rw [← Paired.length rel]; exact z
  have hl:(putK kvs k v).length ≤ sizeLine := by have := dk kvs k v; omega
  refine wpAny_setItem_heap (hsz := hz) (tupleKind_room_in1 hu) (gM I.hok eb) dd fun h' dd' hs => h _ ?_
  refine oq36 dd' fun q es ep hq h2 h3 h4 _ h5 => ?_
  refine ji I (by rw [e]; exact True.intro) hs ⟨q, hq⟩ ⟨hl, hd, _, (rel.put k eb rv).keeps fun c ys ec => ?_, q, es, ep, hq, h2, h3, h4, h5⟩
  rw [ac (ne_of ec e (fun z => nomatch z))]
  exact ec
end
section
variable {X:Cx} {pins:List (Addr × Obj)} {σ:St} {H:Hp} {s:Shared} {a:Addr} {kvs:List (Key × V)} {k:Key} {u:Value} {A:Around} {E:Value → Shared → Prop}
end
noncomputable def NoSl (i:Expr):Prop := ∀ ov iv, subscripted i false ov iv = operate [ov, iv] (getItem ov iv)
theorem subD_of {prog:Program} {w:World} {A:Around} {E:Value → Shared → Prop} {s:Shared} {env:Env} {value slice:Expr} {pos:Pos} {T id:String} {Q:Value → Shared → Prop}
  (hl:typeLookup (.type T) "__getitem__" = pure (some (.builtin id))) (hs:NoSl slice)
  (h:wpAny (model prog w) A (eval value env) (fun o s₁ => wpAny (model prog w) A (eval slice env) (fun i s₂ => s₂.TypeIs o T ∧ wpAny (model prog w) A (getItem o i) Q E s₂) E s₁) E s) :
  wpAny (model prog w) A (eval (.Subscript value slice pos) env) Q E s := by
 refine Subscript_ (wpAny_mono h (fun o s₁ h₁ => wpAny_mono h₁ (fun i s₂ h₂ => ?_) fun _ _ x => x) fun _ _ x => x)
 refine oq02 h₂ fun hT h₂ => ?_
 unfold subscriptTail
 refine wpAny_bind ?_
 rw [getitemInPython_of_ne hT.not_modules]
 refine wpAny_bind (wpAny_specialOf hT hl ?_)
 have fin:wpAny (model prog w) A (subscripted slice false o i) (fun r s₃ => wpAny (model prog w) A (letTemporaryGo value o r >>= fun _ => pure r) Q E s₃) E s₂ := by
  rw [hs o i]
  exact wpAny_operating (wpAny_mono h₂ (fun r s₃ h₃ => wpAny_bind (wpAny_letTemporaryGo (wpAny_pure h₃))) fun _ _ x => x)
 first
  | exact wpAny_pure (wpAny_bind fin)
  | exact wpAny_bind (wpAny_pure (wpAny_bind fin))
  | exact wpAny_bind fin
theorem ki {X:Cx} {pins:List (Addr × Obj)} {σ:St} {H:Hp} {s:Shared} {a:Addr} {y:V} {o:Option V} (I:Inv X pins σ H s) (g:DGet H a y o):s.TypeIs (.ref a) "dict" := by
 rcases g with ⟨kvs, k, e, _, _⟩ | ⟨kvs, k, b, e, _, _, _⟩
 ·refine oq03 (kg I.hok e) fun _ _ zz => oq12 zz fun vs _ dd => ?_
  exact dd.typeIs
 ·refine oq03 (kh I.hok e) fun _ _ zz => oq12 zz fun xs _ dd => ?_
  exact dd.typeIs
noncomputable def tDGet (td ty:TE):TE := fun σ H Q => td σ H fun x H1 => ty σ H1 fun y H2 => ∃ a v, x = .ref a ∧ DGet H2 a y (some v) ∧ Q v H2
noncomputable def sDPut (td ty tv:TE):TS := fun D σ H => tv σ H fun v H1 => td σ H1 fun x H2 => ty σ H2 fun y H3 => ∃ a H4, x = .ref a ∧ DPut H3 a y v H4 ∧ D.nx σ H4
section
variable {X:Cx} {o i e value:Expr} {pos pos' tpos:Pos} {td ty tv:TE}
theorem jj (hu:X.A.units + 1 < cLine) (ho:PE X o td) (hi:PE X i ty) (hs:NoSl i):PE X (.Subscript o i pos) (tDGet td ty) := by
 intro pins s σ H Q I h
 refine subD_of PySem.F.slot_dict_getitem.lookup hs (thn (ho pins s σ H _ I h) fun u s1 zq => oq23 zq fun x H1 I1 rx q1 => thn (hi pins s1 σ H1 _ I1 q1) fun iv s2 zq => oq23 zq fun y H2 I2 ry zz => oq23 zz fun a v ex g q2 => ?_)
 subst ex
 obtain rfl:u = Value.ref a := rx
 exact ⟨ki I2 g, d_getItem hu I2 g ry fun w' s3 I3 rw' => ⟨v, H2, I3, rw', q2⟩⟩
theorem ps_dput (hu:X.A.units + 1 < cLine) (ho:PE X o td) (hi:PE X i ty) (hv:PE X value tv) (hs:swapsWith value (some (.Subscript o i pos')) pos.line X.env = pure false) :
  PS X (.Assign [.Subscript o i pos'] value pos) (sDPut td ty tv) := by
 intro pins s σ H D I h
 refine wpAny_Assign_Subscript (thn (hv pins s σ H _ I h) fun r s1 zq => oq23 zq fun v H1 I1 rv q1 => thn (ho pins s1 σ H1 _ I1 q1) fun u s2 zq => oq23 zq fun x H2 I2 rx q2 => thn (hi pins s2 σ H2 _ I2 q2) fun iv s3 zq => oq23 zq fun y H3 I3 ry zz => oq23 zz fun a H4 ex g q3 => ?_) hs
 subst ex
 obtain rfl:u = Value.ref a := rx
 exact d_setItem hu I3 g ry rv fun s4 I4 => ⟨σ, H4, I4, q3⟩
end
theorem dk_empty {P:Program} {w:World} {H:Hp} (h:Heap) (hb:sysModules < h.objs.size):aG P w H (h.push { cls := .type "dict", data := .dict #[] }) h.objs.size (.dK []) :=
 ⟨Nat.zero_le _, beq_eq_false_iff_ne.mpr (Ne.symm (nz7 hb)), [], .nil, Heap.DictOf.new h⟩
theorem dt_empty {P:Program} {w:World} {H:Hp} (h:Heap) (hb:sysModules < h.objs.size):aG P w H (h.push { cls := .type "dict", data := .dict #[] }) h.objs.size (.dT []) :=
 ⟨Nat.zero_le _, beq_eq_false_iff_ne.mpr (Ne.symm (nz7 hb)), [], .nil, _, #[], 0, Heap.get?_push_size _ rfl, ⟨rfl, rfl, rfl⟩, rfl, rfl, List.nodup_nil⟩
noncomputable def tDNewK:TE := fun _ H Q => ∀ p, H p = none → Q (.ref p) (upd H p (.dK []))
noncomputable def tDNewT:TE := fun _ H Q => ∀ p, H p = none → Q (.ref p) (upd H p (.dT []))
section
variable {X:Cx} {pos:Pos}
theorem pe_dnewK:PE X (.Dict [] [] pos) tDNewK := fun pins s σ H Q I h =>
 wpAny_Dict_empty ⟨.ref s.heap.objs.size, _, I.laid (a := s.heap.objs.size) (o := .dK []) (t' := s.toks) (fun _ _ q => Heap.get?_push_of_some _ q) (nz6 _) (dk_empty s.heap I.big), rfl, h _ (I.hok.fresh (nz6 _))⟩
theorem kj:PE X (.Dict [] [] pos) tDNewT := fun pins s σ H Q I h =>
 wpAny_Dict_empty ⟨.ref s.heap.objs.size, _, I.laid (a := s.heap.objs.size) (o := .dT []) (t' := s.toks) (fun _ _ q => Heap.get?_push_of_some _ q) (nz6 _) (dt_empty s.heap I.big), rfl, h _ (I.hok.fresh (nz6 _))⟩
end
noncomputable def mergeK (kvs more:List (Key × V)):List (Key × V) := more.foldl (fun acc kv => putK acc kv.1 kv.2) kvs
theorem KV.merge:∀ {more:List (Key × V)} {rs:List (Key × Value)} {kvs:List (Key × V)} {vs:List (Key × Value)}, KV more rs → KV kvs vs → KV (mergeK kvs more) (merged vs rs) := by
 intro more rs kvs vs r
 unfold KV at r
 induction r generalizing kvs vs with
 | nil => intro q; exact q
 | @cons p q ps qs h t ih =>
  intro r0
  have e:KV (putK kvs p.1 p.2) (stored vs q.1 q.2) := by
   have := r0.put p.1 h.2
   rw [← h.1]; exact this
  exact ih e
structure M2 (X:Cx) (o:Expr) (m:Str) (apos:Pos) (e f:Expr) (cpos:Pos):Prop where
 base:attributeBase o m X.env (eval o X.env) = eval o X.env
 few:((backTo cpos (starEach [e, f] X.env)).all (fun x => !x.1) && (backToKw cpos (keywordEach [] X.env)).all (fun x => x.1.isSome)
  && decide (([e, f]:List Expr).length + ([]:List Keyword).length + (if ([]:List Keyword).isEmpty then 0 else 1) < 30)) = true
 line:(apos.endLine == cpos.line) = true
 trees:backTo cpos (starEach [e, f] X.env) = [(false, eval e X.env), (false, eval f X.env)]
noncomputable def IsD (H:Hp) (a:Addr):Prop := (∃ kvs, Rd H a (.dK kvs)) ∨ ∃ kvs, Rd H a (.dT kvs)
theorem lN {X:Cx} {pins:List (Addr × Obj)} {σ:St} {H:Hp} {s:Shared} {a:Addr} (I:Inv X pins σ H s) (d:IsD H a) :
  s.TypeIs (.ref a) "dict" ∧ (∀ b, Value.ref a = .ref b → ∃ ob, s.heap.get? b = some ob ∧ ob.dict = none) ∧ (a == sysModules) = false := by
 rcases d with ⟨kvs, e⟩ | ⟨kvs, e⟩
 ·refine oq03 (kg I.hok e) fun _ hd zz => oq12 zz fun vs _ dd => ?_
  refine ⟨dd.typeIs, fun b q => ?_, hd⟩
  cases q
  refine oq33 dd fun ob _ _ h1 h2 _ => ?_
  exact ⟨ob, h1, h2.2.1⟩
 ·refine oq03 (kh I.hok e) fun _ hd zz => oq12 zz fun xs _ dd => ?_
  refine ⟨dd.typeIs, fun b q => ?_, hd⟩
  cases q
  refine oq33 dd fun ob _ _ h1 h2 _ => ?_
  exact ⟨ob, h1, h2.2.1⟩
section
variable {X:Cx} {pins:List (Addr × Obj)} {σ:St} {H:Hp} {s:Shared} {a:Addr} {y d:V} {u r:Value} {o:Option V} {A:Around} {E:Value → Shared → Prop}
theorem d_get2 {Q:Value → Shared → Prop} (hu:A.units + 1 < cLine) (I:Inv X pins σ H s) (g:DGet H a y o) (ry:RelV y u) (rd:RelV d r) (h:∀ w' s', Inv X pins σ H s' → RelV (o.getD d) w' → Q w' s') :
  wpAny (model X.prog X.w) A (call (.builtin "dict.get") [.ref a, u, r]) Q E s := by
 rcases g with ⟨kvs, k, e, ey, l⟩ | ⟨kvs, k, b, e, ey, eb, l⟩
 ·subst ey
  refine oq03 (kg I.hok e) fun z hd zz => oq12 zz fun vs rel dd => ?_
  refine call_meetsIn PySem.F.slot_dict_get dd.typeIs PySem.F.entry_dict_get (PySem.F.args_dict_get_3 _ _ _) (meets_dict_get_default (b7 X.prog X.w) a (kV_is ry) hd r) ⟨_, dd.mapOf, h _ _ (I.tok _) ?_⟩
  rw [l]
  exact (rel.val k).getD rd
 ·subst ey
  cases (show u = Value.ref b from ry)
  refine oq03 (kh I.hok e) fun z hd zz => oq12 zz fun xs rel dd => ?_
  refine call_meetsIn PySem.F.slot_dict_get dd.typeIs PySem.F.entry_dict_get (PySem.F.args_dict_get_3 _ _ _) (meetsH_dict_get_default (tupleKind (b7 X.prog X.w)) a b hd r) ⟨tupleKind_room_in1 hu, k, xs, gM I.hok eb, dd, h _ _ (I.tok _) ?_⟩
  rw [l]
  exact (rel.val k).getD rd
end
noncomputable def tDGet2 (td ty tx:TE):TE := fun σ H Q => td σ H fun x H1 => ∃ a, x = .ref a ∧ IsD H1 a ∧ ty σ H1 fun y H2 => tx σ H2 fun z H3 => ∃ o, DGet H3 a y o ∧ Q (o.getD z) H3
section
variable {X:Cx} {o e f:Expr} {apos cpos:Pos} {td ty tx:TE}
theorem pe_dget2 (hu:X.A.units + 1 < cLine) (ho:PE X o td) (he:PE X e ty) (hf:PE X f tx) (m:M2 X o "get" apos e f cpos):PE X (.Call (.Attribute o "get" apos) [e, f] [] cpos) (tDGet2 td ty tx) := by
 intro pins s σ H Q I h
 refine wpAny_Call_method m.base m.few m.line PySem.F.plainAttrs_dict PySem.F.slot_dict_get PySem.F.type_dict_get (thn (ho pins s σ H _ I h) fun u s1 zq => oq23 zq fun x H1 I1 rx zz => oq13 zz fun a ex d q1 => ?_)
 subst ex
 obtain rfl:u = Value.ref a := rx
 refine oq03 (lN I1 d) fun t1 t2 _ => ?_
 refine ⟨t1, t2, ?_⟩
 rw [m.trees]
 refine Calls.callWith_builtin rfl (Calls.evalArgs_plain (Calls.spliced_cons (thn (he pins s1 σ H1 _ I1 q1) fun iv s2 zq => oq23 zq fun y H2 I2 ry q2 =>
  Calls.spliced_cons (thn (hf pins s2 σ H2 _ I2 q2) fun fv s3 zq => oq23 zq fun z H3 I3 rz zz => oq12 zz fun ov g q3 => Calls.spliced_nil ?_))))
 exact d_get2 hu I3 g ry rz fun w' s4 I4 rw' => ⟨_, H3, I4, rw', q3⟩
end
section
variable {X:Cx} {pins:List (Addr × Obj)} {σ:St} {H:Hp} {s:Shared} {a:Addr} {kvs:List (Key × V)} {A:Around} {E:Value → Shared → Prop}
end
section
variable {X:Cx} {pins:List (Addr × Obj)} {σ:St} {H:Hp} {s:Shared} {a:Addr} {y:V} {u:Value} {A:Around} {E:Value → Shared → Prop}
end
end L2
namespace Att
open PySem PySem.W PySem.Calls PyProof.Rows
theorem gk {P:Params} {h:Heap}:∀ (ns:List Int) (vs:List Value), WellAll P h vs (ns.map WData.int) → IntsAre vs ns := by
 intro ns
 induction ns with
 | nil =>
  intro vs w
  rw [List.map_nil] at w
  cases w
  exact .nil
 | cons n ns ih =>
  intro vs w
  rw [List.map_cons] at w
  cases w with
  | cons a b =>
   cases a
   exact .cons _ _ (ih _ b)
theorem script_of {l:OpenLaw} {n:Nat} (hn:l.most = some n) {P:Params} {h:Heap} {args:List WData} {vals:List Value}
  (hpre:l.row.toRowW.claim.pre args = true) (hwl:WellAll P h vals args) :
  ∃ a vs ns, vals = [Value.ref a] ∧ args = [WData.list (ns.map WData.int)] ∧ h.get? a = some { cls := .type "list", data := .seq vs.toArray } ∧ IntsAre vs ns ∧ ns.length ≤ n := by
 have hsh:WShape.hasAll [] args [.list .int] = true := (pre_splitW hpre).1
 have hc:l.pre.holds [] { args := args } = true := (pre_splitW hpre).2
 refine oq23 (hasAllW_cons hsh) fun d r eq2_ h1 h2 => ?_; subst eq2_
 obtain rfl := hasAllW_nil h2
 refine oq12 (hasW_list h1) fun xs eq1_ h3 => ?_; subst eq1_
 refine oq11 (items_int h3) fun ns eq1_ => ?_; subst eq1_
 have hlen:ns.length ≤ n := by
  unfold OpenLaw.pre at hc
  have h4:(WTm.not (.lt (.lit (.int (n:Int))) (.len (.arg 0)))).holds [] { args := [.list (ns.map .int)] } = true := by
   have h4 := (holds_andW hc).1
   rw [hn] at h4
   exact h4
  have h5 := condW_of h4 (w_not (w_lt w_lit (w_len_list (w_arg rfl))))
  rw [List.length_map] at h5
  refine Nat.le_of_not_lt fun q => ?_
  have q':(n:Int) < ((ns.length:Nat):Int) := by omega
  first
   | (rw [decide_eq_true q'] at h5; exact absurd h5 (by decide))
   | (simp at h5; omega)
 cases hwl with
 | cons w1 w2 =>
  cases w2
  cases w1 with
  | list ho hall => exact ⟨_, _, ns, rfl, rfl, ho, gk ns _ hall, hlen⟩
theorem post_true (l:OpenLaw) (args:List WData):l.row.toRowW.claim.post args (.bool true) args = true :=
 postW_of (r := l.row.toRowW) (X := (true == true))
  (show WShape.has [] (.bool true) .bool = true by first | rfl | decide | simp [WShape.has, WShape.arms, WShape.armsAll])
  (show (WTm.eq .res (.lit (.bool true))).value [] { args := args, res := some (.bool true), after := args } = some (.bool (true == true)) from w_eq_bool (w_res rfl) w_lit) rfl
theorem km {l:OpenLaw} {n:Nat} {q:Program} {loose:List Str} {XP:(Str → Option Value) → Heap → Prop} {YP:World → Heap → Prop} {d:DefRec}
  (hn:l.most = some n) (hdf:d.params.defaults = [])
  (call:∀ (w:World) (s₀ s₁:Shared) (mg mb:Str → Option Value) (fa:Addr) (o:Obj) (pm cd doc:Value) (a:Addr) (vs:List Value) (ns:List Int),
   Ground q loose [] XP w s₀ mg mb s₁.heap → YP w s₁.heap →
   s₁.heap.get? fa = some o → o.data = .func (docDef d.name d.params d.body d.scope pm cd doc) → s₁.heap.CodeRec cd d.name → mg d.name = some (.ref fa) →
   s₁.heap.get? a = some { cls := .type "list", data := .seq vs.toArray } → IntsAre vs ns → ns.length ≤ n → s₁.gens = #[] →
   codeAny (model l.prog w) callerA (.call (.ref fa) ⟨[.ref a], []⟩) (fun r s' => r = .ok (.ret (.bool true)) ∧ OldK s₁.heap s'.heap ∧ s'.os = s₁.os ∧ AllBare s'.gens) s₁) :
  WalkO q loose XP YP l.row.toRowW d [] (fun f vs => PySem.call f vs) := by
 intro w s₀ s₁ mg mb G Y fa o pm cd doc dV kV ho hd hcd hD hmg hg args vals as hpre hlay hrd hwl hlo
 obtain rfl:dV = .none := Dflts.none hD hdf
 obtain rfl:kV = .none := Dflts.noKw hD
 refine oq35 (script_of hn hpre hwl) fun a vs ns eq3_ eq4_ hobj hints hlen => ?_; subst eq3_; subst eq4_
 refine enter_call (codeAny_mono (call w s₀ s₁ mg mb fa o pm cd doc a vs ns G Y ho (fd_plain hd) hcd hmg hobj hints hlen hg) fun r s' hq => ?_)
 refine oq04 hq fun eq0_ h2 h3 h4 => ?_; subst eq0_
 exact ⟨.inl ⟨.bool true, .bool true, [], rfl, fun _ => rfl, .bool true, post_true l _, fun _ => ⟨List.Pairwise.nil, fun _ hm => (nomatch hm)⟩⟩, h2, h3, h4⟩
section
variable {prog:Program} {w:World} {A:Around} {E:Value → Shared → Prop} {s:Shared} {K:Frag}
end
end Att
namespace L2
open PySem PySem.Spec PyProof.Rows
theorem fH:∀ {vs:List Value} {ns:List Int}, IntsAre vs ns → Vals (ns.map V.int) vs
 | _, _, .nil => .nil
 | _, _, .cons n t h => .cons ⟨t, rfl⟩ (fH h)
noncomputable def Only (H:Hp):Prop := ∀ b, H b = none ∨ ∃ o xs, H b = some (.frz o (.lst xs))
end L2
namespace L2
open PySem PySem.Spec PyProof.Rows
end L2
namespace L2
open PySem PySem.Spec PyProof.Rows
noncomputable def bF (s:Stmt):Arguments := match s with
 | .FunctionDef _ a _ _ _ _ _ _ _ _ => a
 | _ => { posonlyargs := [], args := [], vararg := none, kwonlyargs := [], kw_defaults := [], kwarg := none, defaults := [] }
noncomputable def aY (s:Stmt):List Stmt := match s with
 | .FunctionDef _ _ b _ _ _ _ _ _ _ => b
 | _ => []
noncomputable def ag (s:Stmt):Scope := match s with
 | .FunctionDef _ _ _ _ _ _ sc _ _ _ => sc
 | _ => { kind := .function, names := [], isGenerator := false, isCoroutine := false }
noncomputable abbrev CX0:CXT := fun _ _ _ _ _ _ => False
noncomputable abbrev E0:XK := fun _ _ _ => False
theorem pass0 {X:Cx}:lL CX0 X E0 := fun _ _ _ _ _ _ _ h => h.elim
structure Fun (K:PySem.W.Frag) (x qual:Str) (st:Stmt) (f:Addr) (fd:FuncData):Prop where
 ex:∃ (oc:Value) (od:Option Addr) (kV doc pm:Value) (an:Option Addr) (cdv ct:Value) (osl:Array (Option Value)),
  fd = PySem.W.fnOf x qual (bF st) (aY st) (ag st) .none kV doc pm an cdv ct ∧ K.lookup f = some ⟨oc, od, .func fd, osl⟩ ∧ PySem.W.codeIn K cdv qual = true
 kp:PySem.W.keepIn K (.ref f) = true
section
variable {P:Program} {w:World} {K:PySem.W.Frag} {mg:Str → Option Value} {base:Heap}
theorem Fun.ok {x qual:Str} {st:Stmt} {f:Addr} {fd:FuncData} {N ps:List Str} {k:Nat} {sp:Sp} (F:Fun K x qual st f fd) (S:FnScope N ps (ag st)) (len:∀ vs H Q E, sp vs H Q E → vs.length = ps.length)
  (hbody:∀ (cdv:Value) (A:Around) (outer:List Env) (s:Shared) (H:Hp) (vs:List V) (Q:VK) (E:XK), Room k (A.deeper (envOfC qual (ag st) s.heap.objs.size f cdv)) → sp vs H Q E →
   ∃ t, PSs (cxOf CX0 P w K mg base N qual (ag st) f cdv A outer s H E).nox (aY st) t ∧ t { nx := fun _ H' => Q .non H', rt := Q } (start N vs) H):FnOk P w K mg base CX0 (k + 1) f fd ps sp := by
 refine oq71 F.ex fun oc od kV doc pm an cdv zz => oq23 zz fun ct osl eq9_ lk hcd => ?_; subst eq9_
 refine fn_of lk hcd S len fun A outer s H vs Q E hr hsp => ?_
 refine oq12 (hbody cdv A outer s H vs Q E hr hsp) fun t h q => ?_
 exact ⟨t, h.nox, q⟩
theorem Fun.binds {x qual:Str} {st:Stmt} {f:Addr} {fd:FuncData} {ps:List Str} (F:Fun K x qual st f fd)
  (h:∀ (kV doc pm:Value) (an:Option Addr) (cdv ct:Value) (us:List Value), us.length = ps.length → bindArgs (PySem.W.fnOf x qual (bF st) (aY st) (ag st) .none kV doc pm an cdv ct) ⟨us, []⟩ = pure (ps.zip us)):Binds K fd ps [] := by
 refine oq71 F.ex fun oc od kV doc pm an cdv zz => oq23 zz fun ct osl eq9_ lk hcd => ?_; subst eq9_
 exact .all (h kV doc pm an cdv ct)
theorem gN {x qual:Str} {st:Stmt} {f:Addr} {oc:Value} {od an:Option Addr} {osl:Array (Option Value)} {kV doc pm cdv ct:Value} (l:K.lookup f = some ⟨oc, od, .func (PySem.W.fnOf x qual (bF st) (aY st) (ag st) .none kV doc pm an cdv ct), osl⟩)
  (c:PySem.W.codeIn K cdv qual = true) (k:PySem.W.keepIn K (.ref f) = true):Fun K x qual st f (PySem.W.fnOf x qual (bF st) (aY st) (ag st) .none kV doc pm an cdv ct) := ⟨⟨oc, od, kV, doc, pm, an, cdv, ct, osl, rfl, l, c⟩, k⟩
end
theorem b0 {A:Around} {k:Nat} (hr:Room k A):A.units + 1 < cLine := nz2 (Nat.add_le_add_left (by decide:1 ≤ 64) _) hr.units
section
variable {X:Cx}
theorem pv (i:Nat) {x:Str} {pos:Pos} (hN:X.N[i]? = some x := by rfl) (hv:Vis X.env.scope x := by first | exact Or.inl rfl | exact Or.inr (Or.inl rfl) | exact Or.inr (Or.inr rfl)) (hd:(x == ("__debug__":Str)) = false := by decide)
  (hcd:(x == ("__classdict__":Str)) = false := by decide):PE X (.Name x pos) (tVar i) := pe_var hN hv hd hcd
end
noncomputable def Same (H H':Hp):Prop := ∀ b o, H b = some o → H' b = some o
theorem Same.refl (H:Hp):Same H H := fun _ _ h => h
theorem Same.trans {H H1 H2:Hp} (a:Same H H1) (b:Same H1 H2):Same H H2 := fun c o h => b c o (a c o h)
theorem Same.free {H H':Hp} (e:Same H H') {l:Addr} (h:H' l = Option.none):H l = Option.none := by
 cases q:H l with
 | none => rfl
 | some o =>
  rw [e l o q] at h
  cases h
theorem Same.seq {K:PySem.W.Frag} {H H':Hp} {a:Addr} {xs:List V} (e:Same H H') (h:SqL K H a xs):SqL K H' a xs := by
 rcases h with (h | ⟨o, h⟩) | h
 ·exact .inl (.inl (e _ _ h))
 ·exact .inl (.inr ⟨o, e _ _ h⟩)
 ·exact .inr h
end L2
namespace L2
open PySem PySem.Spec PyProof.Rows
section
variable {X:Cx} {κ:Type} [DecidableEq κ]
end
end L2
set_option maxHeartbeats 1000000
namespace Fl
noncomputable def mn (i j:Int):Int := if j < i then j else i
noncomputable def mx (i j:Int):Int := if j > i then j else i
noncomputable def rcntN (a b c:Int):Nat := (if a < b then (b - a - 1) / c + 1 else 0).toNat
noncomputable def cellAt (ns:List Int) (k:Nat):Int := ns.getD k 0
noncomputable def mixed (n k:Int):Int := (n % 100000000000000000000 * 40503 + k * k * 2503 + 11) % 2147483587
noncomputable def height (n k way:Int):Int :=
 if way = 0 then mixed n k % 4 else if way = 1 then mixed n k % 12 else if way = 2 then n % 1000000000000000001
 else if mixed n k / 3 % 2 = 0 then mixed n k % 3 else 1000000000000000000 - mixed n k % 3
noncomputable def folded (hs:List Int) (c:Nat):List (List Int) := (List.range (rcntN 0 ((hs.length:Int) - c + 1) c)).map fun i => (hs.drop (i * c)).take c
theorem mx_le {a b k:Int} (h1:a ≤ k) (h2:b ≤ k):mx a b ≤ k := by unfold mx; split <;> assumption
theorem le_mxl (a b:Int):a ≤ mx a b := by
 unfold mx; split
 ·exact Int.le_of_lt (by assumption)
 ·exact Int.le_refl _
theorem mn_lel (a b:Int):mn a b ≤ a := by
 unfold mn; split
 ·exact Int.le_of_lt (by assumption)
 ·exact Int.le_refl _
theorem gO {i j c:Nat} (hj:j < c):(i * c + j) / c = i ∧ (i * c + j) % c = j := by
 have hc:0 < c := by omega
 constructor
 ·rw [Nat.mul_comm, Nat.mul_add_div hc, Nat.div_eq_of_lt hj]; omega
 ·rw [Nat.mul_comm, Nat.mul_add_mod, Nat.mod_eq_of_lt hj]
end Fl
namespace Fl
noncomputable def dif (a b:Int):Int := if a - b < 0 then -(a - b) else a - b
theorem kn (a b:Int):dif a b = dif b a := by unfold dif; split <;> split <;> omega
noncomputable def adj (c:Nat) (reach:Int) (x o:Nat):Bool :=
 decide (dif (o / c:Nat) (x / c:Nat) + dif (o % c:Nat) (x % c:Nat) = 1 ∨ (reach = 8 ∧ dif (o / c:Nat) (x / c:Nat) = 1 ∧ dif (o % c:Nat) (x % c:Nat) = 1))
noncomputable def nbL (m c:Nat) (reach:Int) (x:Nat):List Nat := (List.range (m * c)).filter (adj c reach x)
theorem adj_comm (c:Nat) (reach:Int) (x o:Nat):adj c reach x o = adj c reach o x := by
 unfold adj; rw [kn (o / c:Nat), kn (o % c:Nat)]
theorem bK {m c:Nat} {reach:Int} {x o:Nat}:o ∈ nbL m c reach x ↔ o < m * c ∧ adj c reach x o = true := by
 unfold nbL; rw [List.mem_filter, List.mem_range]
theorem jk (m c:Nat) (reach:Int) (x:Nat):(nbL m c reach x).length ≤ m * c := by
 unfold nbL
 exact nz4 (List.length_filter_le _ _) (by rw [List.length_range]; exact nz6 _)
theorem iT (p:Nat → Bool) (n:Nat):(List.range (n + 1)).filter p = (List.range n).filter p ++ (if p n = true then [n] else []) := by
 rw [List.range_succ, List.filter_append]
 congr 1
 by_cases h:p n = true
 ·rw [if_pos h]; simp [h]
 ·rw [if_neg h]; simp [h]
theorem cT (p:Nat → Bool) (a:Nat):∀ (b:Nat), a ≤ b → (∀ i, a ≤ i → i < b → p i = false) → (List.range b).filter p = (List.range a).filter p
 | 0, h, _ => by
  have:a = 0 := Nat.le_antisymm h (Nat.zero_le _)
  subst this; rfl
 | b + 1, h, hp => by
  by_cases e:a = b + 1
  ·subst e; rfl
  ·rw [iT, cT p a b (by omega) fun i h1 h2 => hp i h1 (by exact nz8 h2 (Nat.lt_succ_self _)), hp b (by omega) (by exact Nat.lt_succ_self _)]
   simp
theorem adj_at {c k:Nat} (hk:k < c) (reach:Int) (x r:Nat):adj c reach x (r * c + k) = decide (dif (r:Nat) (x / c:Nat) + dif (k:Nat) (x % c:Nat) = 1 ∨ (reach = 8 ∧ dif (r:Nat) (x / c:Nat) = 1 ∧ dif (k:Nat) (x % c:Nat) = 1)) := by
 refine oq02 (gO (i := r) hk) fun e1 e2 => ?_
 unfold adj
 rw [e1, e2]
theorem fY {c:Nat} (hc:0 < c) {reach:Int} {x o:Nat} (h:o / c + 1 < x / c ∨ x / c + 1 < o / c):adj c reach x o = false := by
 unfold adj
 rw [decide_eq_false_iff_not]
 unfold dif
 split <;> split <;> omega
theorem fZ {c:Nat} {reach:Int} {x o:Nat} (h:o % c + 1 < x % c ∨ x % c + 1 < o % c):adj c reach x o = false := by
 unfold adj
 rw [decide_eq_false_iff_not]
 unfold dif
 split <;> split <;> omega
end Fl
namespace Gr
section
variable {nb:Nat → Nat → Prop} {ok:Nat → Prop} {x y z:Nat}
end
section
variable {nb:Nat → List Nat} {ok:Nat → Bool} {x u o:Nat} {done ks ws:List Nat}
end
end Gr
namespace Gr
section
variable {A:Nat → Nat → Prop} {n:Nat} {ρ:Nat → Nat} {k:Nat} {par par':Nat → Option (Nat × Nat)}
variable {home home':Nat → Option Nat}
end
end Gr
namespace Srt
theorem mid {l r f:Nat} (h:l < r) (h3:r - l ≤ f + 1):l ≤ (l + r) / 2 ∧ (l + r) / 2 < r ∧ (l + r) / 2 - l ≤ f ∧ r - ((l + r) / 2 + 1) ≤ f := by
 have a:l ≤ (l + r) / 2 := (Nat.le_div_iff_mul_le (by decide)).mpr (by rw [Nat.mul_two]; exact Nat.add_le_add_left (nz5 h) l)
 have b:(l + r) / 2 < r := (Nat.div_lt_iff_lt_mul (by decide)).mpr (by rw [Nat.mul_two]; exact Nat.add_lt_add_right h r)
 have c:r - (l + 1) ≤ f := by rw [Nat.sub_add_eq]; exact Nat.sub_le_of_le_add h3
 refine ⟨a, b, nz4 (Nat.sub_le_sub_right (Nat.le_sub_one_of_lt b) l) ?_, nz4 (Nat.sub_le_sub_left (Nat.succ_le_succ a) r) c⟩
 rw [Nat.sub_sub, Nat.add_comm]; exact c
open PySem PySem.W PyProof.Rows
structure Lin (c:Nat → Nat → Bool) (n:Nat):Prop where
 irr:∀ i, i < n → c i i = false
 tr:∀ i j k, i < n → j < n → k < n → c i j = true → c j k = true → c i k = true
 tot:∀ i j, i < n → j < n → i ≠ j → c i j = false → c j i = true
structure Arr (n:Nat) (p:Array Nat):Prop where
 sz:p.size = n
 pm:p.toList.Perm (List.range n)
noncomputable abbrev at' (p:Array Nat) (i:Nat):Nat := p.getD i 0
noncomputable def Up (c:Nat → Nat → Bool) (p:Array Nat) (k:Nat):Prop := ∀ i j, i < j → j < k → c (at' p i) (at' p j) = true
section
variable {c:Nat → Nat → Bool} {n:Nat} (L:Lin c n)
include L
end
end Srt
namespace L2
open PySem PySem.Spec PyProof.Rows
theorem dZ {env:Env}:∀ (names:List (Str × NameKind)) (cs:List (Str × Addr)), (∀ y ∈ names, y.2 = .free → ∃ c, env.cells.lookup y.1 = some c) →
  ∃ cl, (forIn names cs fun (x:Str × NameKind) (r:List (Str × Addr)) => (match x with
   | (name, kind) => if (kind == NameKind.free) = true then do let a ← cellOf env name; pure (ForInStep.yield ((name, a) :: r)) else pure (ForInStep.yield r):Sem (ForInStep (List (Str × Addr))))) = pure cl ∧
   (∀ p ∈ cl, p ∈ cs ∨ env.cells.lookup p.1 = some p.2) ∧ (∀ p ∈ cs, p ∈ cl) ∧ ∀ y ∈ names, y.2 = .free → ∃ c, (y.1, c) ∈ cl
 | [], cs, _ => (oi14 cs rfl (fun p h => .inl h) (fun p h => h) (fun y h => nomatch h))
 | (n, k) :: r, cs, h => by
  by_cases hk:k = .free
  ·subst hk
   refine oq11 (h (n, .free) List.mem_cons_self rfl) fun c hc => ?_
   refine oq14 (dZ r ((n, c) :: cs) fun y hy => h y (List.mem_cons_of_mem _ hy)) fun cl e h1 h2 h3 => ?_
   refine (oi14 cl ?_ (fun p hp => ?_) (fun p hp => h2 p (List.mem_cons_of_mem _ hp)) (fun y hy hf => ?_))
   ·rw [List.forIn_cons]
    have e1:cellOf env n = pure c := by unfold cellOf; rw [hc]
    simp only [beq_self_eq_true, if_true, e1, pure_bind]
    exact e
   ·rcases h1 p hp with z | z
    ·rcases List.mem_cons.mp z with z | z
     ·subst z; exact .inr hc
     ·exact .inl z
    ·exact .inr z
   ·rcases List.mem_cons.mp hy with z | z
    ·subst z; exact ⟨c, h2 _ List.mem_cons_self⟩
    ·exact h3 y z hf
  ·refine oq14 (dZ r cs fun y hy => h y (List.mem_cons_of_mem _ hy)) fun cl e h1 h2 h3 => ?_
   refine (oi14 cl ?_ h1 h2 (fun y hy hf => ?_))
   ·have hb:(k == NameKind.free) = false := by simpa using hk
    rw [List.forIn_cons]
    simp only [hb, Bool.false_eq_true, if_false, pure_bind]
    exact e
   ·rcases List.mem_cons.mp hy with z | z
    ·subst z; exact absurd hf hk
    ·exact h3 y z hf
theorem dQ {β:Type} {x:Str} {c:β}:∀ {l:List (Str × β)}, (x, c) ∈ l → ∃ d, l.lookup x = some d
 | [], h => nomatch h
 | (n, d) :: r, h => by
  by_cases e:x = n
  ·subst e; exact ⟨d, by simp [List.lookup_cons]⟩
  ·have hb:(x == n) = false := by simpa using e
   rcases List.mem_cons.mp h with z | z
   ·injection z with z1 _; exact absurd z1 e
   ·refine oq11 (dQ z) fun d' e' => ?_
    exact ⟨d', by rw [List.lookup_cons, hb]; exact e'⟩
theorem e8 {scope:Scope} {env:Env} (h:∀ y ∈ scope.names, y.2 = .free → ∃ c, env.cells.lookup y.1 = some c) :
  ∃ cl, closureFor scope env = pure cl ∧ (∀ x c, cl.lookup x = some c → env.cells.lookup x = some c) ∧ ∀ y ∈ scope.names, y.2 = .free → ∃ c, cl.lookup y.1 = some c := by
 refine oq14 (dZ (env := env) scope.names [] h) fun cl e h1 _ h3 => ?_
 refine (oi13 cl ?_ (fun x c hx => ?_) (fun y hy hf => ?_))
 ·unfold closureFor
  show (forIn scope.names [] _ >>= fun cs => pure cs) = pure cl
  refine Eq.trans (congrArg (fun m => m >>= fun cs => pure cs) e) ?_
  rw [pure_bind]
 ·rcases h1 _ (PySem.mem_of_lookup hx) with z | z
  ·exact nomatch z
  ·exact z
 ·refine oq11 (h3 y hy hf) fun c hc => ?_
  exact dQ hc
theorem cj {env:Env}:∀ {names:List (Str × NameKind)} {x:Str}, names.lookup x = some .free → ∃ k,
  (names.map fun (n, k) => if (k == NameKind.free && env.scope.kind == .function && env.kindOf n == some .cell) then (n, NameKind.cell) else (n, k)).lookup x = some k ∧ (k = .cell ∨ k = .free)
 | [], _, h => by simp at h
 | (n, k) :: r, x, h => by
  show ∃ k', List.lookup x ((if (k == NameKind.free && env.scope.kind == .function && env.kindOf n == some .cell) = true then (n, NameKind.cell) else (n, k)) :: _) = some k' ∧ _
  cases hx:x == n with
  | true =>
   simp only [List.lookup_cons, hx] at h
   cases h
   by_cases hc:(NameKind.free == NameKind.free && env.scope.kind == .function && env.kindOf n == some .cell) = true
   ·exact (oi12 .cell (by rw [if_pos hc]; simp [List.lookup_cons, hx]) (.inl rfl))
   ·exact (oi12 .free (by rw [if_neg hc]; simp [List.lookup_cons, hx]) (.inr rfl))
  | false =>
   simp only [List.lookup_cons, hx] at h
   refine oq12 (cj (env := env) h) fun k' e hk => ?_
   refine (oi12 k' ?_ hk)
   by_cases hc:(k == NameKind.free && env.scope.kind == .function && env.kindOf n == some .cell) = true
   ·rw [if_pos hc]; simp only [List.lookup_cons, hx]; exact e
   ·rw [if_neg hc]; simp only [List.lookup_cons, hx]; exact e
section
variable {prog:Program} {w:World} {A:Around} {R:Result → Shared → Prop} {s:Shared}
theorem jl {elt target iter:Expr} {ifs:List Expr} {scope:Scope} {pos:Pos} {it acc:Value} {env:Env} (I:Nat → Shared → Prop)
  (turn:∀ n s, I n s → wpAny (model prog w) A (pyNext it) (fun r s₁ => match r with
   | none => R (.ok .next) s₁
   | some v => wpAny (model prog w) A (letOwnedTupleGo target it v) (fun _ s' => wpAny (model prog w) A (assign target env v) (fun _ s₂ =>
     wpAny (model prog w) A (forIn ifs true fun c r => if r = true then do let ok ← isTrue c env (eval c env); pure (ForInStep.yield ok) else pure (ForInStep.yield r)) (fun ok s₃ =>
      if ok = true then wpAny (model prog w) A (eval elt env) (fun x s₄ =>
       wpAny (model prog w) A (call (.builtin "list.append") [acc, x]) (fun _ s₅ => ∃ m, m < n ∧ I m s₅) (fun _ _ => False) s₄) (fun _ _ => False) s₃
      else ∃ m, m < n ∧ I m s₃) (fun _ _ => False) s₂) (fun _ _ => False) s') (fun _ _ => False) s₁) (fun _ _ => False) s)
  (n:Nat) (h:I n s):codeAny (model prog w) A (.compLoop (.ListComp elt [⟨target, iter, ifs, 0⟩] scope pos) 0 it acc env) R s := by
 refine codeAny_loop rfl I (fun n s hI => ?_) n h
 show wpAny _ A ((compTurn (.ListComp elt [⟨target, iter, ifs, 0⟩] scope pos) 0 it acc env).onRaise (fun x => do noteFrame x env; theTreesLotGoes x)) _ _ s
 refine wpAny_noted ?_
 rw [compTurn_list]
 refine wpAny_bind (wpAny_standAt (wpAny_bind (wpAny_mono (turn n s hI) (fun r s₁ h₁ => ?_) fun _ _ z => z.elim)))
 cases r with
 | none => exact wpAny_pure h₁
 | some v =>
  refine wpAny_bind (wpAny_mono h₁ (fun _ s' h' => ?_) fun _ _ z => z.elim)
  refine wpAny_bind (wpAny_mono h' (fun _ s₂ h₂ => wpAny_bind (wpAny_mono h₂ (fun ok s₃ h₃ => ?_) fun _ _ z => z.elim)) fun _ _ z => z.elim)
  cases ok with
  | false => exact wpAny_pure ⟨rfl, h₃⟩
  | true =>
   exact wpAny_bind (wpAny_bind (wpAny_mono h₃ (fun x s₄ h₄ => wpAny_bind (wpAny_mono h₄ (fun _ s₅ h₅ => wpAny_pure (wpAny_pure ⟨rfl, h₅⟩)) fun _ _ z => z.elim)) fun _ _ z => z.elim))
end
noncomputable def bh (X:Cx) (N':List Str) (scope:Scope) (cl:List (Str × Addr)) (fp:List Addr) (s3:Shared) (H3:Hp):Cx where
 prog := X.prog
 w := X.w
 K := X.K
 mg := X.mg
 base := X.base
 A := X.A
 N := N'
 s₀ := s3
 H₀ := H3
 env := compEnvC scope cl s3.heap.objs.size X.env
 outer := X.stack
 stack := X.stack
 ex := fp
 calm := X.calm
 fn := fun _ => false
 pn := []
 xe := fun _ _ => False
noncomputable def iU (X:Cx) (scope:Scope):List (Str × Nat) → Prop
 | [] => True
 | p :: r => (X.N[p.2]? = some p.1 ∧ scope.names.lookup p.1 = some .free ∧ (X.env.kindOf p.1 = some .cell ∨ X.env.kindOf p.1 = some .free)) ∧ iU X scope r
theorem iU.get {X:Cx} {scope:Scope}:∀ {cap:List (Str × Nat)}, iU X scope cap → ∀ p ∈ cap, X.N[p.2]? = some p.1 ∧ scope.names.lookup p.1 = some .free ∧ (X.env.kindOf p.1 = some .cell ∨ X.env.kindOf p.1 = some .free)
 | [], _, _, h => nomatch h
 | _ :: _, ⟨h1, h2⟩, p, h => by
  rcases List.mem_cons.mp h with z | z
  ·subst z; exact h1
  ·exact iU.get h2 p z
noncomputable def st0 (loc:List Str) (cap:List (Str × Nat)) (σ:St):St := loc.map (fun _ => none) ++ cap.map fun p => (σ[p.2]?).join
theorem st0_len {loc:List Str} {cap:List (Str × Nat)} {σ:St}:(st0 loc cap σ).length = (loc ++ cap.map (·.1)).length := by
 unfold st0; simp
theorem st0_get {loc:List Str} {cap:List (Str × Nat)} {σ:St} {i:Nat} {v:V} (h:(st0 loc cap σ)[i]? = some (some v)):∃ p, p ∈ cap ∧ (loc ++ cap.map (·.1))[i]? = some p.1 ∧ σ[p.2]? = some (some v) := by
 unfold st0 at h
 by_cases hi:i < loc.length
 ·rw [List.getElem?_append_left (by simpa using hi), List.getElem?_map] at h
  cases e:loc[i]? with
  | none => rw [e] at h; cases h
  | some a => rw [e] at h; cases h
 ·rw [List.getElem?_append_right (by simpa using hi), List.getElem?_map, List.length_map] at h
  cases e:cap[i - loc.length]? with
  | none => rw [e] at h; cases h
  | some p =>
   rw [e] at h
   have h':(σ[p.2]?).join = some v := Option.some.inj h
   refine (oi13 p (List.mem_of_getElem? e) ?_ ?_)
   ·rw [List.getElem?_append_right (by exact Nat.not_lt.mp hi), List.getElem?_map, e]; rfl
   ·cases e2:σ[p.2]? with
    | none => rw [e2] at h'; cases h'
    | some o => rw [e2] at h'; exact congrArg some h'
noncomputable def Wk:St → St → Prop
 | [], [] => True
 | none :: r, _ :: t => Wk r t
 | some v :: r, o :: t => o = some v ∧ Wk r t
 | _, _ => False
theorem Wk.len:∀ {a b:St}, Wk a b → a.length = b.length
 | [], [], _ => rfl
 | none :: r, _ :: t, h => by rw [List.length_cons, List.length_cons, Wk.len (a := r) (b := t) h]
 | some _ :: r, _ :: t, h => by rw [List.length_cons, List.length_cons, Wk.len (a := r) (b := t) h.2]
 | [], _ :: _, h => False.elim h
 | none :: _, [], h => False.elim h
 | some _ :: _, [], h => False.elim h
theorem Wk.get:∀ {a b:St}, Wk a b → ∀ (i:Nat) (v:V), a[i]? = some (some v) → b[i]? = some (some v)
 | [], [], _, i, v, e => by simp at e
 | none :: r, o :: t, h, 0, v, e => by simp at e
 | none :: r, o :: t, h, i + 1, v, e => by
  have := Wk.get (a := r) (b := t) h i v (by simpa using e)
  simpa using this
 | some x :: r, o :: t, h, 0, v, e => by
  have e':x = v := by simpa using e
  subst e'
  simpa using h.1
 | some x :: r, o :: t, h, i + 1, v, e => by
  have := Wk.get (a := r) (b := t) h.2 i v (by simpa using e)
  simpa using this
 | [], _ :: _, h, _, _, _ => False.elim h
 | none :: _, [], h, _, _, _ => False.elim h
 | some _ :: _, [], h, _, _, _ => False.elim h
noncomputable def freeOk (ns ms:List (Str × NameKind)):Bool := ns.all fun y => match y.2 with
 | .free => match ms.lookup y.1 with
  | some .cell => true
  | some .free => true
  | _ => false
 | _ => true
theorem gP {ns ms:List (Str × NameKind)} (h:freeOk ns ms = true):∀ y ∈ ns, y.2 = .free → ms.lookup y.1 = some .cell ∨ ms.lookup y.1 = some .free := by
 intro y hy hf
 have q := List.all_eq_true.mp h y hy
 rw [hf] at q
 cases e:ms.lookup y.1 with
 | none => rw [e] at q; cases q
 | some k =>
  rw [e] at q
  cases k <;> first | exact .inl rfl | exact .inr rfl | cases q
structure CompScope (X:Cx) (loc:List Str) (cap:List (Str × Nat)) (scope:Scope):Prop where
 kind:scope.kind = .function
 nocell:∀ y ∈ scope.names, y.2 ≠ .cell
 names:∀ y ∈ scope.names, y.2 = .local → scope.names.lookup y.1 = some .local
 free0:freeOk scope.names X.env.scope.names = true
 cap:iU X scope cap
 xkind:X.env.scope.kind = .function
theorem CompScope.free {X:Cx} {loc:List Str} {cap:List (Str × Nat)} {scope:Scope} (S:CompScope X loc cap scope):∀ y ∈ scope.names, y.2 = .free → X.env.kindOf y.1 = some .cell ∨ X.env.kindOf y.1 = some .free := gP S.free0
section
variable {X:Cx} {pins:List (Addr × Obj)} {σ:St} {H:Hp} {s:Shared} {loc:List Str} {cap:List (Str × Nat)} {scope:Scope} {cl:List (Str × Addr)} {fp:List Addr}
theorem inv_comp {h1:Heap} (S:CompScope X loc cap scope) (I:Inv X pins σ H s) (hcl:∀ x c, cl.lookup x = some c → X.env.cells.lookup x = some c) (hcl2:∀ y ∈ scope.names, y.2 = .free → ∃ c, cl.lookup y.1 = some c)
  (hf:∀ b ∈ fp, FpOk X pins H b) (hlt:∀ b ∈ fp, b < s.heap.objs.size) (hns:h1.Ns s.heap.objs.size (fun _ => none)) (hk:∀ b o, s.heap.get? b = some o → h1.get? b = some o) :
  Inv (bh X (loc ++ cap.map (·.1)) scope cl fp s H) [] (st0 loc cap σ) H { s with heap := h1 } := by
 have fromK:∀ x, (relabel scope X.env).names.lookup x = some .cell ∨ (relabel scope X.env).names.lookup x = some .free → ∃ y ∈ scope.names, y.2 = .free ∧ y.1 = x := by
  intro x hx
  have:∃ k, (relabel scope X.env).names.lookup x = some k ∧ (k = .cell ∨ k = .free) := by
   rcases hx with z | z
   ·exact (oi12 _ z (.inl rfl))
   ·exact (oi12 _ z (.inr rfl))
  refine oq12 this fun k e hk => ?_
  have hm := PySem.mem_of_lookup e
  refine oq12 (List.mem_map.mp hm) fun y hy e2 => ?_
  obtain ⟨n, k'⟩ := y
  have e3:(if (k' == NameKind.free && X.env.scope.kind == .function && X.env.kindOf n == some .cell) = true then (n, NameKind.cell) else (n, k')) = (x, k) := e2
  by_cases hc:(k' == NameKind.free && X.env.scope.kind == .function && X.env.kindOf n == some .cell) = true
  ·rw [if_pos hc] at e3
   injection e3 with e4 _
   simp only [Bool.and_eq_true] at hc
   exact (oi13 (n, k') hy (by simpa using hc.1.1) e4)
  ·rw [if_neg hc] at e3
   injection e3 with e4 e5
   rcases hk with z | z
   ·rw [z] at e5; exact absurd e5 (S.nocell _ hy)
   ·rw [z] at e5; exact (oi13 (n, k') hy e5 e4)
 refine ⟨⟨I.ok.mod, S.kind, I.ok.glob, I.ok.blt, nz6 _, fun x y c h1 h2 => I.ok.inj x y c (hcl x c h1) (hcl y c h2), fun x hx => ?_, fun x c h _ => absurd h (by show ¬ (false = true); decide), I.ok.hd, I.ok.frames, .inl rfl, fun b hb => ⟨nz7 (hlt b hb), fun x c e => (hf b hb).2.2.2.2.1 x c (hcl x c e)⟩, I.bs,
   nz4 I.ok.bsz I.sz, fun b o e z => ?_, fun b hb z => ?_, I.stack, I.stkFree⟩,
  rfl, I.bare, Un.kept hk, (oi12 _ hns (fun i x v h1 h2 h3 => ?_)), fun x c e => ?_, I.hok.fresh (nz6 _), fun x c e => I.freeC x c (hcl x c e), fun p hp => absurd (show p ∈ ([]:List (Addr × Obj)) from hp) (by simp), I.hok.kept hk, st0_len⟩
 ·refine oq13 (fromK x hx) fun y hy hfr e => ?_
  subst e
  exact hcl2 y hy hfr
 ·
  have hb := hf b z
  rcases hb.2.2.2.1 with q | q
  ·exact I.ok.noex b o e q
  ·exact absurd (nz1 (Heap.lt_size e) (nz4 I.ok.bsz q)) (Nat.lt_irrefl _)
 ·have z' := I.stkSub b z
  rcases List.mem_cons.mp z' with q | q
  ·exact (hf b hb).2.1 q
  ·exact (hf b hb).2.2.1 q
 ·refine oq13 (st0_get h2) fun p hp e1 e2 => ?_
  have e3:x = p.1 := Option.some.inj (h1.symm.trans e1)
  subst e3
  refine oq03 (S.cap.get p hp) fun c1 c2 c3 => ?_
  refine oq12 I.loc fun m _ hl => ?_
  have vis:Vis X.env.scope p.1 := by
   rcases c3 with k | k
   ·exact .inr (.inl k)
   ·exact .inr (.inr k)
  refine oq12 (hl p.2 p.1 v c1 e2 vis) fun u r l => ?_
  refine (oi12 u r (.inr ⟨?_, ?_⟩))
  ·refine oq12 (cj (env := X.env) c2) fun k e hk => ?_
   rcases hk with z | z
   ·subst z; exact .inl e
   ·subst z; exact .inr e
  ·rcases l with ⟨k, _⟩ | ⟨_, c, e, hc⟩
   ·rcases c3 with z | z
    ·rw [k] at z; cases z
    ·rw [k] at z; cases z
   ·refine oq11 (hcl2 (p.1, .free) (PySem.mem_of_lookup c2) rfl) fun c' hc' => ?_
    have:c' = c := Option.some.inj ((hcl _ _ hc').symm.trans e)
    subst this
    refine oq12 hc fun o ho hd => ?_
    exact ⟨c', hc', o, hk _ o ho, hd⟩
 ·refine oq22 (I.cell x c (hcl x c e)) fun v o ho hd => ?_
  exact ⟨v, o, hk _ o ho, hd⟩
end
noncomputable def cTurn (g:TG) (tt:TT) (te:TE) (loc:List Str) (cap:List (Str × Nat)) (σ:St) (D:Addr) (ys:List V) (N:List V → Hp → Prop) (x:V) (H':Hp):Prop :=
 g x (st0 loc cap σ) H' fun σ3 H3 => Wk (st0 loc cap σ) σ3 ∧ tt σ3 H3 fun b H4 => if b = true then te σ3 H4 fun v H5 => H5 D = some (.lst ys) ∧ ys.length < sizeLine ∧ N (ys ++ [v]) (upd H5 D (.lst (ys ++ [v]))) else N ys H4
noncomputable def cGoal (g:TG) (tt:TT) (te:TE) (loc:List Str) (cap:List (Str × Nat)) (σ:St) (D:Addr) (Q:VK) (J:It) (H1:Hp):Prop :=
 ∃ W:Nat → Nat → List V → Hp → Prop, (∃ m, W 0 m [] (upd H1 D (.lst []))) ∧ ∀ i m ys H2, W i m ys H2 → H2 D = some (.lst ys) ∧
  ((J.stop i H2 ∧ Q (.ref D) H2) ∨ (J.go i H2 ∧ ∃ N:List V → Hp → Prop, (∀ ys' H', N ys' H' → ∃ m', m' < m ∧ W (i + 1) m' ys' H') ∧ ∀ x H', J.yld i H2 x H' → cTurn g tt te loc cap σ D ys N x H'))
noncomputable def tComp (wi:TI) (loc:List Str) (cap:List (Str × Nat)) (g:TG) (tt:TT) (te:TE):TE := fun σ H Q => wi σ H fun J H1 => ∀ D, H1 D = none → cGoal g tt te loc cap σ D Q J H1
noncomputable def tTrue:TT := fun _ H Q => Q true H
noncomputable def PIfs (X:Cx) (ifs:List Expr) (t:TT):Prop :=
 ∀ (pins:List (Addr × Obj)) (s:Shared) (σ:St) (H:Hp) (Q:Bool → Hp → Prop), Inv X pins σ H s → t σ H Q →
  wpAny (model X.prog X.w) X.A (forIn ifs true fun c r => if r = true then do let ok ← isTrue c X.env (eval c X.env); pure (ForInStep.yield ok) else pure (ForInStep.yield r)) (TP X pins σ Q) X.xe s
theorem cr {X:Cx}:PIfs X [] tTrue := fun _ _ _ H _ I h => wpAny_tests_nil ⟨H, I, h⟩
theorem ko {X:Cx} {c:Expr} {t:TT} (hc:PT X c t):PIfs X [c] t := fun pins s σ H Q I h => wpAny_tests_one (hc pins s σ H Q I h)
section
variable {X:Cx} {tg iter elt:Expr} {ifs:List Expr} {scope:Scope} {loc:List Str} {cap:List (Str × Nat)} {pos:Pos} {wi:TI} {g:TG} {tt:TT} {te:TE}
theorem gQ {pins:List (Addr × Obj)} {σ:St} {H:Hp} {s:Shared} {cl:List (Str × Addr)} {fp:List Addr} {it:Addr} {tn:Nat → Heap → Prop} {J:It} {Q:VK} {E:Value → Shared → Prop} {RR:Value → Addr → Result → Shared → Prop}
  (hc:X.calm = true) (S:CompScope X loc cap scope) (hg:∀ cl fp s3 H3, PG (bh X (loc ++ cap.map (·.1)) scope cl fp s3 H3) tg g) (ht:∀ cl fp s3 H3, PIfs (bh X (loc ++ cap.map (·.1)) scope cl fp s3 H3) ifs tt)
  (he:∀ cl fp s3 H3, PE (bh X (loc ++ cap.map (·.1)) scope cl fp s3 H3) elt te)
  (hcl:∀ x c, cl.lookup x = some c → X.env.cells.lookup x = some c) (hcl2:∀ y ∈ scope.names, y.2 = .free → ∃ c, cl.lookup y.1 = some c)
  (I:Inv X pins σ H s) (T:Turn X.prog X.w X.K tg J fp it tn) (st:tn 0 s.heap) (hf:∀ b ∈ fp, FpOk X pins H b)
  (h:∀ D, H D = none → cGoal g tt te loc cap σ D Q J H)
  (hRR:∀ D C s' H' m, Inv X pins σ H' s' → FpOk X pins H' C → s'.heap.Ns C m → Q (.ref D) H' → RR (.ref D) C (.ok .next) s') :
  wpAny (model X.prog X.w) X.A (newList []) (fun acc s₃ => wpAny (model X.prog X.w) X.A (newFunctionEnv scope X.env.globals cl [] X.env.qual none .none (some X.env)) (fun cenv s₄ =>
   codeAny (model X.prog X.w) X.A (.compStart (.ListComp elt [⟨tg, iter, ifs, 0⟩] scope pos) 0 (.ref it) acc { cenv with scope := relabel scope X.env }) (RR acc cenv.locals) s₄) E s₃) E s := by
 have hlt:∀ b ∈ fp, b < s.heap.objs.size := fun b hb => oq12 (T.obj 0 _ st b hb) fun o e _ => Heap.lt_size e
 have hD:H s.heap.objs.size = none := I.hok.fresh (nz6 _)
 refine oq12 (h _ hD) fun W nn1 turn => ?_; refine oq11 nn1 fun m0 w0 => ?_
 refine wpAny_newObj_type (wpAny_newFunctionEnv S.nocell (by intro y hy; simp at hy) (fun h₁ hns₁ hsb₁ => ?_) S.kind)
 have hD2:({ cls := .type "list", dict := none, data := .seq ([]:List Value).toArray }:Obj) = { cls := .type "list", data := .seq ([]:List Value).toArray 0 } := rfl
 have I3:Inv X pins σ (upd H s.heap.objs.size (.lst [])) { s with heap := s.heap.push { cls := .type "list", dict := none, data := .seq ([]:List Value).toArray } } :=
  I.laid (t' := s.toks) (fun b o e => Heap.get?_push_of_some _ e) (nz6 _) ⟨Nat.zero_le _, [], 0, .nil, Heap.get?_push_size _ rfl⟩
 generalize hS3:({ s with heap := s.heap.push { cls := .type "list", dict := none, data := .seq ([]:List Value).toArray } }:Shared) = s3 at I3 hns₁ hsb₁ ⊢
 generalize hH3:upd H s.heap.objs.size (.lst []) = H3 at I3 w0
 have sz3:s3.heap.objs.size = s.heap.objs.size + 1 := by rw [← hS3]; exact Heap.size_push ..
 have fp3:∀ b ∈ fp, FpOk X pins H3 b := fun b hb => by
  refine oq02 (hf b hb) fun f0 fr => ?_
  refine ⟨?_, fr⟩
  rw [← hH3, ac (nz7 (hlt b hb))]; exact f0
 have lt3:∀ b ∈ fp, b < s3.heap.objs.size := fun b hb => by rw [sz3]; exact Nat.lt_succ_of_lt (hlt b hb)
 have k1:∀ b o, s3.heap.get? b = some o → h₁.get? b = some o := fun b o e => hsb₁.extBut b o (nz7 (Heap.lt_size e)) (Heap.get?_push_of_some _ e)
 have I4:Inv (bh X (loc ++ cap.map (·.1)) scope cl fp s3 H3) [] (st0 loc cap σ) H3 { s3 with heap := h₁ } := inv_comp S I3 hcl hcl2 fp3 lt3 (by simpa using hns₁) k1
 have st4:tn 0 h₁ := T.keep 0 _ _ st fun b hb o e => k1 b o (by rw [← hS3]; exact Heap.get?_push_of_some _ e)
 have fpC:∀ {H':Hp}, (∀ b ∈ fp, H' b = none) → ∀ b ∈ fp, FpOk (bh X (loc ++ cap.map (·.1)) scope cl fp s3 H3) [] H' b := fun {H'} hn b hb =>
  ⟨hn b hb, nz7 (lt3 b hb), fun z => (I4.ok.exfs b hb z), .inl hb, fun x c e => (hf b hb).2.2.2.2.1 x c (hcl x c e), fun p hp => absurd (show p ∈ ([]:List (Addr × Obj)) from hp) (by simp)⟩
 have toks0:({ s3 with heap := h₁, toks := s3.toks + ([]:List (Str × Value)).length }:Shared) = { s3 with heap := h₁ } := rfl
 rw [toks0]
 have fin:∀ {H':Hp} {s':Shared} {σ':St}, Inv (bh X (loc ++ cap.map (·.1)) scope cl fp s3 H3) [] σ' H' s' → Inv X pins σ H' s' := fun {H' s' σ'} J' =>
  I3.call' J'.os J'.base J'.hok J'.bare fun b hb => by
   refine oq06 (hf b hb) fun _ f1 f2 f3 f4 f5 => ?_
   exact (oi04 f3 f1 f4 f5)
 have loop:codeAny (model X.prog X.w) X.A (.compLoop (.ListComp elt [⟨tg, iter, ifs, 0⟩] scope pos) 0 (.ref it) (.ref s.heap.objs.size) (compEnvC scope cl s3.heap.objs.size X.env)) (RR (.ref s.heap.objs.size) s3.heap.objs.size) { s3 with heap := h₁ } := by
  refine jl (fun n s' => ∃ i ys H', Inv (bh X (loc ++ cap.map (·.1)) scope cl fp s3 H3) [] (st0 loc cap σ) H' s' ∧ tn i s'.heap ∧ (∀ b ∈ fp, H' b = none) ∧ W i n ys H') ?_ m0 (oi34 0 ([]) H3 I4 st4 (fun b hb => (fp3 b hb).1) w0)
  intro n s5 zq; refine oq34 zq fun i ys H5 I5 st5 fr5 w5 => ?_
  refine oq02 (turn i n ys H5 w5) fun hd5 alt => ?_
  rcases alt with ⟨stop, q⟩ | ⟨go, N, hN, step⟩
  ·refine thn (T.done (bh X (loc ++ cap.map (·.1)) scope cl fp s3 H3) rfl rfl rfl hc i [] s5 _ H5 (fun _ _ => False) I5 (fpC fr5) st5 stop) fun r s6 zq => oq02 zq fun hr I6 => ?_
   subst hr
   refine oq12 I6.loc fun m hn _ => ?_
   refine hRR _ _ s6 H5 m (fin I6) ?_ hn q
   exact I3.fpOk (nz6 _) I6.free
  ·refine thn (T.item (bh X (loc ++ cap.map (·.1)) scope cl fp s3 H3) rfl rfl rfl hc i [] s5 _ H5 (fun _ _ => False) I5 (fpC fr5) st5 go) fun r s6 zq => oq12 zq fun u hr h6 => ?_
   subst hr
   refine thn h6 fun _ s7 zq => oq25 zq fun x H7 I7 r7 y7 st7 fr7 => ?_
   have I7' := I7.pinned (fpC fr7) (T.obj _ _ st7)
   refine thn (hg cl fp s3 H3 _ s7 _ H7 x u _ I7' r7 (step x H7 y7)) fun _ s8 zq => oq22 zq fun σ8 H8 I8 q8 => ?_
   refine oq02 q8 fun wk q8 => ?_
   have again:∀ {H9:Hp} {s9:Shared} {zs:List V}, Inv (bh X (loc ++ cap.map (·.1)) scope cl fp s3 H3) ([] ++ gF fp s7.heap) σ8 H9 s9 → N zs H9 → ∃ m, m < n ∧ ∃ i ys H', Inv (bh X (loc ++ cap.map (·.1)) scope cl fp s3 H3) [] (st0 loc cap σ) H' s9 ∧ tn i s9.heap ∧ (∀ b ∈ fp, H' b = none) ∧ W i m ys H' := fun {H9 s9 zs} I9 n9 => by
    refine oq12 (hN zs H9 n9) fun m' hm w9 => ?_
    refine ⟨m', hm, i + 1, zs, H9, (I9.weak wk.len wk.get).unpinned, T.keep _ _ _ st7 fun b hb o e => (I9.pin (b, o) (List.mem_append_right _ (List.mem_append_right _ (cZ hb e)))).1, fun b hb => ?_, w9⟩
    refine oq12 (T.obj _ _ st7 b hb) fun o e d => ?_
    exact (I9.pin (b, o) (List.mem_append_right _ (List.mem_append_right _ (cZ hb e)))).2.1
   refine thn (ht cl fp s3 H3 _ s8 σ8 H8 _ I8 q8) fun ok s9 zq => oq12 zq fun H9 I9 q9 => ?_
   cases ok with
   | false =>
    rw [if_neg Bool.false_ne_true] at q9 ⊢
    exact again I9 q9
   | true =>
    rw [if_pos rfl] at q9 ⊢
    refine thn (he cl fp s3 H3 _ s9 σ8 H9 _ I9 q9) fun u' s10 zq => oq25 zq fun v H10 I10 r10 hD10 hl10 n10 => ?_
    refine thn (cS (X := bh X (loc ++ cap.map (·.1)) scope cl fp s3 H3) _ s10 σ8 H10 (.ref s.heap.objs.size) [v] (.ref s.heap.objs.size) [u'] (fun _ H11 => N (ys ++ [v]) H11) I10 rfl (.cons r10 .nil) ⟨_, ys, v, rfl, rfl, hD10, hl10, n10⟩) fun _ s11 zq => oq23 zq fun _ H11 I11 _ n11 => ?_
    exact again I11 n11
 exact codeAny_compStart_list loop (T.self _ 0 _ _ _ st4 loop)
theorem d4 (hc:X.calm = true) (S:CompScope X loc cap scope) (hi:PI X tg iter wi) (hg:∀ cl fp s3 H3, PG (bh X (loc ++ cap.map (·.1)) scope cl fp s3 H3) tg g) (ht:∀ cl fp s3 H3, PIfs (bh X (loc ++ cap.map (·.1)) scope cl fp s3 H3) ifs tt)
  (he:∀ cl fp s3 H3, PE (bh X (loc ++ cap.map (·.1)) scope cl fp s3 H3) elt te) (hs:∀ x, foldedSetIterable iter X.env x = pure x := by intro _; rfl) :
  PE X (.ListComp elt [⟨tg, iter, ifs, 0⟩] scope pos) (tComp wi loc cap g tt te) := by
 intro pins s σ H Q I h
 refine oq13 (e8 (scope := scope) (env := X.env) fun y hy hf => I.ok.has y.1 (S.free y hy hf)) fun cl hcl0 hcl hcl2 => ?_
 rw [eval_ListComp]
 refine wpAny_comprehension_free (use := none) rfl hs hcl0 S.kind S.names (thn (hi pins s σ H _ I h) fun v s1 h1 => thn h1 fun itv s2 h2 => ?_)
 refine oq56 h2 fun it fp tn J H2 e I2 T st2 f2 R => ?_
 subst e
 refine gQ (RR := fun acc C => compPost (model X.prog X.w) X.A X.xe none (EP X pins σ Q) acc C) hc S hg ht he hcl hcl2 I2 T st2 f2 R ?_
 intro D C s' H' m I' fC hn q
 exact ⟨m, hn, fun h'' hs'' => ⟨.ref D, H', I'.turned (t' := s'.toks) (fun b o hb e => (hs''.2 b hb).trans e) fC.1 fC.2.1 fC.2.2.2.1 fC.2.2.2.2.1 fC.2.2.2.2.2, rfl, q⟩⟩
theorem gR {i:Nat} {x:Str} {pos' spos:Pos} (hc:X.calm = true) (S:CompScope X loc cap scope) (hN:X.N.Nodup) (hi':X.N[i]? = some x) (hx:Loc X.env.scope x) (hi:PI X tg iter wi)
  (hg:∀ cl fp s3 H3, PG (bh X (loc ++ cap.map (·.1)) scope cl fp s3 H3) tg g) (ht:∀ cl fp s3 H3, PIfs (bh X (loc ++ cap.map (·.1)) scope cl fp s3 H3) ifs tt)
  (he:∀ cl fp s3 H3, PE (bh X (loc ++ cap.map (·.1)) scope cl fp s3 H3) elt te) (hsw:swapsWith (.ListComp elt [⟨tg, iter, ifs, 0⟩] scope pos) (some (.Name x pos')) spos.line X.env = pure true := by rfl)
  (hf:X.fn x = true ∨ X.env.scope.names.lookup x = some .local := by first | exact .inl rfl | exact .inr rfl | assumption) (hs:∀ x, foldedSetIterable iter X.env x = pure x := by intro _; rfl) :
  PS X (.Assign [.Name x pos'] (.ListComp elt [⟨tg, iter, ifs, 0⟩] scope pos) spos) (tAsg (tComp wi loc cap g tt te) (dP i)) := by
 intro pins s σ H D I h
 refine oq13 (e8 (scope := scope) (env := X.env) fun y hy hf => I.ok.has y.1 (S.free y hy hf)) fun cl hcl0 hcl hcl2 => ?_
 rw [exec_Assign_Name_used _ _ _ _ hsw]
 refine wpAny_bind (wpAny_standAt (wpAny_bind ?_))
 show wpAny _ X.A (do let _ ← comprehension (.ListComp elt [⟨tg, iter, ifs, 0⟩] scope pos) scope X.env _ (newList []) false (eval iter X.env) (some (assign (.Name x pos') X.env))) _ _ s
 refine wpAny_bind (thn (wpAny_comprehension_free (use := some (assign (.Name x pos') X.env)) (Q := fun _ s' => SP X pins D .next s') rfl hs hcl0 S.kind S.names
  (thn (hi pins s σ H _ I h) fun v s1 h1 => thn h1 fun itv s2 h2 => ?_)) fun _ s' hq => wpAny_pure (wpAny_pure hq))
 refine oq56 h2 fun it fp tn J H2 e I2 T st2 f2 R => ?_
 subst e
 refine gQ (RR := fun acc C => compPost (model X.prog X.w) X.A X.xe (some (assign (.Name x pos') X.env)) (fun _ s' => SP X pins D .next s') acc C) hc S hg ht he hcl hcl2 I2 T st2 f2 R ?_
 intro D' C s' H' m I' fC hn q
 show wpAny _ X.A (assign (.Name x pos') X.env (.ref D')) _ _ s'
 refine wpAny_assign_Name (iK I' hN hi' hx (v := .ref D') rfl (fun s'' I'' zq => oq12 zq fun a hsb ha => ?_) hf)
 have hCa:C ≠ a := by
  rcases ha with z | z
  ·rw [z]; exact fC.2.1
  ·exact Ne.symm (fC.2.2.2.2.1 x a z)
 refine (oi12 m (hn.sameBut hsb hCa) (fun h'' hs'' => ⟨_, H', I''.turned (t' := s''.toks) (fun b o hb e => (hs''.2 b hb).trans e) fC.1 fC.2.1 fC.2.2.2.1 fC.2.2.2.2.1 fC.2.2.2.2.2, q⟩))
end
section
variable {K:PySem.W.Frag} {g:TG} {tt:TT} {te:TE} {loc:List Str} {cap:List (Str × Nat)} {σ:St} {Q:VK}
end
end L2
namespace L2
open PySem PySem.Spec PyProof.Rows
section
variable {X:Cx} {pins:List (Addr × Obj)} {σ:St} {H:Hp} {s:Shared} {h':Heap}
theorem Inv.turnedL {ch:List Addr} {t':Nat} (I:Inv X pins σ H s) (hch:∀ b ∈ ch, FpOk X pins H b) (k:∀ b u, b ∉ ch → s.heap.get? b = some u → h'.get? b = some u):Inv X pins σ H { s with heap := h', toks := t' } := by
 have nch:∀ b u, H b = some u → b ∉ ch := fun b u e z => by rw [(hch b z).1] at e; cases e
 refine I.step (g' := s.gens) (d' := s.drawn) (ch := ch) (fun b hb => ?_) (fun b u _ _ hc e _ => k b u hc e) (fun b u _ _ hc e _ => ⟨u.slots, k b u hc e⟩)
  (fun b u _ _ n => n) (fun b u hc e => ⟨u, k b u hc e⟩) (fun b xs e => e) (fun b u xs e => e) (fun b ps e => ⟨#[], by rw [e]; simp⟩) (fun m hm => ?_) (fun b u e => ?_) I.bare
 ·have f := hch b hb; exact (oi04 f.2.2.2.1 f.2.1 f.2.2.2.2.1 f.2.2.2.2.2)
 ·refine oq32 hm fun o es ep ho r => ?_
  exact ⟨o, es, ep, k _ o (fun z => (hch _ z).2.1 rfl) ho, r⟩
 ·refine (I.hok b u e).stay (fun c v hc q => k c v ?_ q) (fun c q => q) fun c xs q => q
  rcases hc with z | z
  ·rw [z]; exact nch b u e
  ·exact nch c _ z
theorem Inv.turnNew {a:Addr} {o:HO} {ch:List Addr} {t':Nat} (I:Inv X pins σ H s) (hch:∀ b ∈ ch, FpOk X pins H b) (ha:s.heap.objs.size ≤ a) (k:∀ b u, b ∉ ch → s.heap.get? b = some u → h'.get? b = some u)
  (new:aG X.prog X.w (upd H a o) h' a o):Inv X pins σ (upd H a o) { s with heap := h', toks := t' } := by
 have hn:H a = none := I.hok.fresh ha
 have fa := I.fpOk ha hn
 have hne:∀ b u, H b = some u → b ≠ a := fun b u e => ao e hn
 have nch:∀ b u, H b = some u → b ∉ ch := fun b u e z => by rw [(hch b z).1] at e; cases e
 refine I.step (g' := s.gens) (d' := s.drawn) (ch := a :: ch) (fun b hb => ?_) (fun b u _ _ hc e _ => k b u (fun z => hc (List.mem_cons_of_mem _ z)) e) (fun b u _ _ hc e _ => ⟨u.slots, k b u (fun z => hc (List.mem_cons_of_mem _ z)) e⟩)
  (fun b u hc _ n => by rw [ac (fun z => hc (by rw [z]; exact List.mem_cons_self))]; exact n) (fun b u hc e => ⟨u, k b u (fun z => hc (List.mem_cons_of_mem _ z)) e⟩)
  (fun b xs e => by rw [ac (hne b _ e)]; exact e) (fun b u xs e => by rw [ac (hne b _ e)]; exact e) (fun b ps e => ⟨#[], by rw [ac (hne b _ e), e]; simp⟩) (fun m hm => ?_) (fun b u e => ?_) I.bare
 ·rcases List.mem_cons.mp hb with z | z
  ·rw [z]; exact (oi04 fa.2.2.2.1 fa.2.1 fa.2.2.2.2.1 fa.2.2.2.2.2)
  ·have f := hch b z; exact (oi04 f.2.2.2.1 f.2.1 f.2.2.2.2.1 f.2.2.2.2.2)
 ·refine oq32 hm fun o es ep ho r => ?_
  exact ⟨o, es, ep, k _ o (fun z => (hch _ z).2.1 rfl) ho, r⟩
 ·by_cases hb:b = a
  ·subst hb; rw [ai] at e; cases e; exact new
  ·rw [ac hb] at e
   refine (I.hok b u e).stay (fun c v hc q => k c v ?_ q) (fun c q => by rw [ac (hne c _ q)]; exact q) fun c xs q => by rw [ac (hne c _ q)]; exact q
   rcases hc with z | z
   ·rw [z]; exact nch b u e
   ·exact nch c _ z
end
noncomputable def Ite (K:PySem.W.Frag) (a:Addr):It :=
 ⟨fun i H => ∃ xs x, SqL K H a xs ∧ xs[i]? = some x, fun i H x H' => ∃ p y, x = .ref p ∧ H p = none ∧ H' = upd H p (.tup [.int (i:Nat), y]) ∧ ∀ xs, SqL K H a xs → xs[i]? = some y, fun i H => ∃ xs, SqL K H a xs ∧ xs.length ≤ i⟩
theorem turn_enum {P:Program} {w:World} {K:PySem.W.Frag} {elts:List Expr} {x1:Nat} {pos:Pos} (a e it:Addr) (hne:e ≠ it) :
  Turn P w K (.Tuple elts x1 pos) (Ite K a) [e, it] e (fun i h => (∃ old, IsEnum h e it ((i:Nat):Int) old) ∧ h.IsListIter it a i) where
 mem := by simp
 obj := fun i h st b hb => by
  refine oq02 st fun nn1 hi => ?_; refine oq11 nn1 fun old he => ?_
  have hb':b = e ∨ b = it := by simpa using hb
  rcases hb' with z | z
  ·rw [z]; exact (oi12 _ he (fun v q => by have q':Data.fields _ = Data.cell v := q; cases q'))
  ·rw [z]
   refine oq13 hi fun o e' c d => ?_
   exact (oi12 o e' (fun v q => by rw [d] at q; cases q))
 keep := fun i h h' st k => by
  refine oq02 st fun nn2 hi => ?_; refine oq11 nn2 fun old he => ?_
  exact ⟨⟨old, k e (by simp) _ he⟩, hi.at fun o q => k it (by simp) o q⟩
 item := by
  intro X hP hw hK hc i pins s σ H E I hf st hg
  subst hP hw hK
  refine oq02 st fun nn3 hit => ?_; refine oq11 nn3 fun old he => ?_
  refine oq22 hg fun xs x hq hx => ?_
  refine oq13 (I.list hq) fun its rv p hz => ?_
  refine oq12 (rv.get hx) fun u hu ru => ?_
  refine wpAny_pyNext_enum_item he hit p.isList (x := u) (by simpa using hu) hne fun h1 heo hit1 ht1 hz1 hk1 => ?_
  refine (oi12 _ rfl (wpAny_letOwnedTupleGo_enum heo fun h2 he2 hs2 => ?_))
  replace hs2:Heap.SameBut e h1 h2 := hs2
  replace he2:IsEnum h2 e it ((i:Int) + 1) u := he2
  have hlt:e < s.heap.objs.size := Heap.lt_size he
  have hk2:∀ b o, b ∉ [e, it] → s.heap.get? b = some o → h2.get? b = some o := fun b o hb q => by
   have b1:b ≠ e := fun z => hb (by simp [z])
   have b2:b ≠ it := fun z => hb (by simp [z])
   exact (hs2.2 b b1).trans (hk1 b o b1 b2 q)
  have t2:h2.get? s.heap.objs.size = some { cls := .type "tuple", data := .seq #[.int (i:Nat) s.toks, u] } := (hs2.2 _ (Nat.ne_of_gt hlt)).trans ht1
  refine (oi25 (.ref s.heap.objs.size) _ (I.turnNew (t' := s.toks + 1) (ch := [e, it]) (a := s.heap.objs.size) (o := .tup [.int (i:Nat), x]) hf (nz6 _) hk2 ?_) rfl ⟨_, x, rfl, I.hok.fresh (nz6 _), rfl, fun ys hy => by rw [I.list_inj hy hq]; exact hx⟩ ⟨⟨u, ?_⟩, hit1.extBut hs2.extBut (Ne.symm hne)⟩ (fun b hb => ?_))
  ·exact ⟨by show 2 ≤ sizeLine; decide, [.int (i:Nat) s.toks, u], .cons ⟨_, rfl⟩ (.cons ru .nil), ⟨_, t2, rfl, _, rfl⟩⟩
  ·have e1:((i + 1:Nat):Int) = (i:Int) + 1 := by push_cast; rfl
   rw [e1]; exact he2
  ·have f := hf b hb
   have hbl:b ≠ s.heap.objs.size := by
    have hb':b = e ∨ b = it := by simpa using hb
    rcases hb' with z | z
    ·rw [z]; exact nz7 hlt
    ·refine oq12 hit fun o e' _ => ?_
     rw [z]; exact nz7 (Heap.lt_size e')
   rw [ac hbl]; exact f.1
 done := by
  intro X hP hw hK hc i pins s σ H E I hf st hg
  subst hP hw hK
  refine oq02 st fun nn4 hit => ?_; refine oq11 nn4 fun old he => ?_
  refine oq12 hg fun xs hq hx => ?_
  refine oq13 (I.list hq) fun its rv p hz => ?_
  have hl := rv.length
  exact wpAny_pyNext_enum_end (I.ok.hd hc) he hit p.isList (by simp; exact nz4 (nz3 hl.symm) hx) fun h' eb => ⟨rfl, I.turnedL (t' := s.toks) (ch := [e, it]) hf fun b o hb q => eb b o (fun z => hb (by simp [z])) q⟩
 self := fun _ _ _ _ _ st h => by
  refine oq02 st fun nn5 _ => ?_; refine oq11 nn5 fun old he => ?_
  exact wpAny_pyIter_enum he h
section
variable {X:Cx} {elts:List Expr} {x1:Nat} {tpos:Pos}
noncomputable def iEnum (K:PySem.W.Frag) (ta:TA):TI := fun σ H R => ta σ H fun vs H1 => ∃ a, vs = [.ref a] ∧ (∃ xs, SqL K H1 a xs) ∧ R (Ite K a) H1
theorem pi_enum {a:Expr} {ta:TA} {p pos:Pos} (hg:Gl X "enumerate") (hm:X.mg "enumerate" = none) (ha:PA X [a] ta) (hs:starEach [a] X.env = [(false, eval a X.env)] := by rfl) :
  PI X (.Tuple elts x1 tpos) (.Call (.Name "enumerate" p) [a] [] pos) (iEnum X.K ta) := by
 intro pins s σ H R I h
 refine Call_ (cN I hg hm boot_enumerate (PyProof.Rows.callWith_type1 (thn (ha pos pins s σ H _ I h) fun us s1 zq => oq23 zq fun vs H1 I1 r1 q1 => ?_) hs rfl))
 refine oq13 q1 fun l e nn6 q => ?_; refine oq11 nn6 fun xs hq => ?_
 subst e
 refine oq12 (vals1 r1) fun u eq1_ ru => ?_; subst eq1_
 cases ru
 refine oq13 (I1.list hq) fun its rv pl hz => ?_
 refine call_enumerate_list pl.isList fun h' he hit hsz hk => wpAny_pyIter_enum he ?_
 have I2:Inv X pins σ H1 { s1 with heap := h' } := I1.kept (t' := s1.toks) hk
 refine ⟨s1.heap.objs.size + 1, [s1.heap.objs.size + 1, s1.heap.objs.size], _, _, H1, rfl, I2, turn_enum l _ _ (Nat.succ_ne_self _), ⟨⟨_, he⟩, hit⟩, fun b hb => ?_, q⟩
 have hb':b = s1.heap.objs.size + 1 ∨ b = s1.heap.objs.size := by simpa using hb
 have hle:s1.heap.objs.size ≤ b := by
  rcases hb' with z | z
  ·rw [z]; exact Nat.le_succ _
  ·rw [z]; exact nz6 _
 exact I1.fpOk hle (I1.hok.fresh hle)
end
noncomputable def Itz (K:PySem.W.Frag) (a b:Addr):It :=
  ⟨fun i H => ∃ xs ys x y, SqL K H a xs ∧ SqL K H b ys ∧ xs[i]? = some x ∧ ys[i]? = some y,
   fun i H v H' => ∃ p x y, v = .ref p ∧ H p = none ∧ H' = upd H p (.tup [x, y]) ∧ (∀ xs, SqL K H a xs → xs[i]? = some x) ∧ ∀ ys, SqL K H b ys → ys[i]? = some y,
   fun i H => ∃ xs ys, SqL K H a xs ∧ SqL K H b ys ∧ (xs.length ≤ i ∨ ys.length ≤ i)⟩
theorem turn_zip {P:Program} {w:World} {K:PySem.W.Frag} {elts:List Expr} {x1:Nat} {pos:Pos} (a b z TI TO i1 i2:Addr) (D:ZipApart z TI TO i1 i2 a b) :
  Turn P w K (.Tuple elts x1 pos) (Itz K a b) [z, TI, TO, i1, i2] z (fun i h => IsZip h z TI TO .none ∧ IsPair h TI (.ref i1) (.ref i2) ∧ (∃ c d, IsPair h TO c d) ∧ h.IsListIter i1 a i ∧ h.IsListIter i2 b i) where
 mem := by simp
 obj := fun i h st c hc => by
  refine oq05 st fun hz hTI nn7 nn8 nn9 => ?_; refine oq21 nn7 fun c1 d1 hTO => ?_; refine oq13 nn8 fun o1 e1 _ d1' => ?_; refine oq13 nn9 fun o2 e2 _ d2' => ?_
  have hc':c = z ∨ c = TI ∨ c = TO ∨ c = i1 ∨ c = i2 := by simpa using hc
  rcases hc' with q | q | q | q | q <;> rw [q]
  ·exact (oi12 _ hz (fun v r => by have r':Data.fields _ = Data.cell v := r; cases r'))
  ·exact (oi12 _ hTI (fun v r => by have r':Data.seq _ _ = Data.cell v := r; cases r'))
  ·exact (oi12 _ hTO (fun v r => by have r':Data.seq _ _ = Data.cell v := r; cases r'))
  ·exact (oi12 o1 e1 (fun v r => by rw [d1'] at r; cases r))
  ·exact (oi12 o2 e2 (fun v r => by rw [d2'] at r; cases r))
 keep := fun i h h' st k => by
  refine oq05 st fun hz hTI nn10 h1 h2 => ?_; refine oq21 nn10 fun c1 d1 hTO => ?_
  exact (oi05 (k z (by simp) _ hz) (k TI (by simp) _ hTI) (oi21 c1 d1 (k TO (by simp) _ hTO)) (h1.at fun o q => k i1 (by simp) o q) (h2.at fun o q => k i2 (by simp) o q))
 item := by
  intro X hP hw hK hc i pins s σ H E I hf st hg
  subst hP hw hK
  refine oq05 st fun hz hTI nn11 h1 h2 => ?_; refine oq21 nn11 fun c1 d1 hTO => ?_
  refine oq44 hg fun xs ys x y hq1 hq2 hx hy => ?_
  refine oq13 (I.list hq1) fun its1 rv1 p1 _ => ?_
  refine oq13 (I.list hq2) fun its2 rv2 p2 _ => ?_
  refine oq12 (rv1.get hx) fun u1 hu1 ru1 => ?_
  refine oq12 (rv2.get hy) fun u2 hu2 ru2 => ?_
  refine wpAny_pyNext_zip_item D hz hTI hTO h1 h2 p1.isList p2.isList (x := u1) (y := u2) (by simpa using hu1) (by simpa using hu2) fun h' a1 a2 a3 a4 a5 a6 hk => ?_
  refine (oi12 _ rfl (wpAny_letOwnedTupleGo_zip a1 fun h2' hz2 hs2 => ?_))
  replace hs2:Heap.SameBut z h' h2' := hs2
  replace hz2:IsZip h2' z TI TO .none := hz2
  have hlt:∀ c ∈ [z, TI, TO, i1, i2], c < s.heap.objs.size := fun c hc => by
   have hc':c = z ∨ c = TI ∨ c = TO ∨ c = i1 ∨ c = i2 := by simpa using hc
   rcases hc' with q | q | q | q | q <;> rw [q]
   ·exact Heap.lt_size hz
   ·exact Heap.lt_size hTI
   ·exact Heap.lt_size hTO
   ·refine oq12 h1 fun o e _ => ?_; exact Heap.lt_size e
   ·refine oq12 h2 fun o e _ => ?_; exact Heap.lt_size e
  have hk2:∀ c o, c ∉ [z, TI, TO, i1, i2] → s.heap.get? c = some o → h2'.get? c = some o := fun c o hc q =>
   (hs2.2 c (fun r => hc (by simp [r]))).trans (hk c o (fun r => hc (by simp [r])) (fun r => hc (by simp [r])) (fun r => hc (by simp [r])) (fun r => hc (by simp [r])) q)
  have t2:h2'.get? s.heap.objs.size = some { cls := .type "tuple", data := .seq #[u1, u2] } := (hs2.2 _ (Nat.ne_of_gt (hlt z (by simp)))).trans a5
  refine (oi25 (.ref s.heap.objs.size) _ (I.turnNew (t' := s.toks) (ch := [z, TI, TO, i1, i2]) (a := s.heap.objs.size) (o := .tup [x, y]) hf (nz6 _) hk2 ?_) rfl ⟨_, x, y, rfl, I.hok.fresh (nz6 _), rfl, fun zs hy => by rw [I.list_inj hy hq1]; exact hx, fun zs hz => by rw [I.list_inj hz hq2]; exact hy⟩ (oi05 hz2 ?_ (oi21 u1 u2 ((hs2.2 _ D.TOz).trans a2)) (a3.extBut hs2.extBut D.i1z) (a4.extBut hs2.extBut D.i2z)) (fun c hc => ?_))
  ·exact ⟨by show 2 ≤ sizeLine; decide, [u1, u2], .cons ru1 (.cons ru2 .nil), ⟨_, t2, rfl, _, rfl⟩⟩
  ·exact (hs2.2 _ D.TIz).trans (hk TI _ D.TIz D.TITO D.TIi1 D.TIi2 hTI)
  ·rw [ac (nz7 (hlt c hc))]; exact (hf c hc).1
 done := by
  intro X hP hw hK hc i pins s σ H E I hf st hg
  subst hP hw hK
  refine oq05 st fun hz hTI nn12 h1 h2 => ?_; refine oq21 nn12 fun c1 d1 hTO => ?_
  refine oq23 hg fun xs ys hq1 hq2 hx => ?_
  refine oq13 (I.list hq1) fun its1 rv1 p1 _ => ?_
  refine oq13 (I.list hq2) fun its2 rv2 p2 _ => ?_
  have l1 := rv1.length
  have l2 := rv2.length
  refine wpAny_pyNext_zip_end (I.ok.hd hc) D hz hTI hTO h1 h2 p1.isList p2.isList ?_ fun h' hk => ⟨rfl, I.turnedL (t' := s.toks) (ch := [z, TI, TO, i1, i2]) hf fun c o hc q =>
   hk c o (fun r => hc (by simp [r])) (fun r => hc (by simp [r])) (fun r => hc (by simp [r])) (fun r => hc (by simp [r])) q⟩
  rcases hx with q | q
  ·exact .inl (by simp; exact nz4 (nz3 l1.symm) q)
  ·exact .inr (by simp; exact nz4 (nz3 l2.symm) q)
 self := fun _ _ _ _ _ st h => wpAny_pyIter_zip st.1 h
section
variable {X:Cx} {elts:List Expr} {x1:Nat} {tpos:Pos}
noncomputable def iZip (K:PySem.W.Frag) (ta:TA):TI := fun σ H R => ta σ H fun vs H1 => ∃ a b, vs = [.ref a, .ref b] ∧ (∃ xs, SqL K H1 a xs) ∧ (∃ ys, SqL K H1 b ys) ∧ R (Itz K a b) H1
theorem pi_zip {a b:Expr} {ta:TA} {p pos:Pos} (hg:Gl X "zip") (hm:X.mg "zip" = none) (ha:PA X [a, b] ta) (hs:starEach [a, b] X.env = [(false, eval a X.env), (false, eval b X.env)] := by rfl) (hs2:starEach [b] X.env = [(false, eval b X.env)] := by rfl) :
  PI X (.Tuple elts x1 tpos) (.Call (.Name "zip" p) [a, b] [] pos) (iZip X.K ta) := by
 intro pins s σ H R I h
 refine Call_ (cN I hg hm boot_zip (PyProof.Rows.callWith_type1 (thn (ha pos pins s σ H _ I h) fun us s1 zq => oq23 zq fun vs H1 I1 r1 q1 => ?_) (by rw [hs, hs2]) (by rw [hs2]; rfl)))
 refine oq24 q1 fun l1 l2 e nn13 nn14 q => ?_; refine oq11 nn13 fun xs hq1 => ?_; refine oq11 nn14 fun ys hq2 => ?_
 subst e
 refine oq23 (vals2 r1) fun u1 u2 eq2_ ru1 ru2 => ?_; subst eq2_
 cases ru1
 cases ru2
 refine oq13 (I1.list hq1) fun its1 rv1 p1 _ => ?_
 refine oq13 (I1.list hq2) fun its2 rv2 p2 _ => ?_
 have b1:l1 < s1.heap.objs.size := by refine oq22 p1 fun o n e _ => ?_; exact Heap.lt_size e
 have b2:l2 < s1.heap.objs.size := by refine oq22 p2 fun o n e _ => ?_; exact Heap.lt_size e
 refine call_zip_2 p1.isList p2.isList fun h' hz hTI hTO h1 h2 hsz hk => wpAny_pyIter_zip hz ?_
 have I2:Inv X pins σ H1 { s1 with heap := h' } := I1.kept (t' := s1.toks) hk
 refine ⟨s1.heap.objs.size + 4, [s1.heap.objs.size + 4, s1.heap.objs.size + 2, s1.heap.objs.size + 3, s1.heap.objs.size, s1.heap.objs.size + 1], _, _, H1, rfl, I2, turn_zip l1 l2 _ _ _ _ _ ?_, (oi05 hz hTI (oi21 _ _ hTO) h1 h2), fun b hb => ?_, q⟩
 ·constructor <;> first | (intro e; have e':(_:Nat) = (_:Nat) := e; (clear e I2 hk hsz h2 h1 hTO hTI hz b2 b1 p2 rv2 p1 rv1 r1 hq2 q hq1 I1 h I hs2 hs ha hm hg; omega)) | exact nz7 b1 | exact nz7 b2 | exact nz7 (nz1 b1 (Nat.le_add_right _ _)) | exact nz7 (nz1 b2 (Nat.le_add_right _ _))
 ·have hb':b = s1.heap.objs.size + 4 ∨ b = s1.heap.objs.size + 2 ∨ b = s1.heap.objs.size + 3 ∨ b = s1.heap.objs.size ∨ b = s1.heap.objs.size + 1 := by simpa using hb
  have hle:s1.heap.objs.size ≤ b := by rcases hb' with z | z | z | z | z <;> rw [z] <;> first | exact Nat.le_add_right _ _ | exact nz6 _
  exact I1.fpOk hle (I1.hok.fresh hle)
end
section
variable {X:Cx} {tg:Expr}
end
end L2
namespace L2
open PySem PySem.Spec PyProof.Rows
mutual
noncomputable def DatV (K:PySem.W.Frag) (H:Hp):PyData → V → Prop
 | .none, v => v = .non
 | .bool b, v => v = .bl b
 | .int i, v => v = .int i
 | .str x, v => v = .str x
 | .list ds, v => ∃ a xs, v = .ref a ∧ SqL K H a xs ∧ bC K H ds xs
 | .tuple ds, v => ∃ a xs, v = .ref a ∧ SqT K H a xs ∧ bC K H ds xs
 | .dict _, _ => False
noncomputable def bC (K:PySem.W.Frag) (H:Hp):List PyData → List V → Prop
 | [], xs => xs = []
 | d :: ds, xs => ∃ x r, xs = x :: r ∧ DatV K H d x ∧ bC K H ds r
end
theorem Same.sqT {K:PySem.W.Frag} {H H':Hp} {a:Addr} {xs:List V} (e:Same H H') (h:SqT K H a xs):SqT K H' a xs := by
 rcases h with (h | ⟨o, h⟩) | h
 ·exact .inl (.inl (e _ _ h))
 ·exact .inl (.inr ⟨o, e _ _ h⟩)
 ·exact .inr h
mutual
theorem DatV.same {K:PySem.W.Frag} {H H':Hp} (e:Same H H'):∀ {d:PyData} {v:V}, DatV K H d v → DatV K H' d v
 | .none, _, h => by unfold DatV at h ⊢; exact h
 | .bool _, _, h => by unfold DatV at h ⊢; exact h
 | .int _, _, h => by unfold DatV at h ⊢; exact h
 | .str _, _, h => by unfold DatV at h ⊢; exact h
 | .list ds, _, h => by
  unfold DatV at h ⊢
  refine oq23 h fun a xs h1 h2 h3 => ?_
  exact (oi23 a xs h1 (e.seq h2) (bC.same e h3))
 | .tuple ds, _, h => by
  unfold DatV at h ⊢
  refine oq23 h fun a xs h1 h2 h3 => ?_
  exact (oi23 a xs h1 (e.sqT h2) (bC.same e h3))
 | .dict _, _, h => by unfold DatV at h; exact h.elim
theorem bC.same {K:PySem.W.Frag} {H H':Hp} (e:Same H H'):∀ {ds:List PyData} {xs:List V}, bC K H ds xs → bC K H' ds xs
 | [], _, h => by unfold bC at h ⊢; exact h
 | d :: ds, _, h => by
  unfold bC at h ⊢
  refine oq23 h fun x r h1 h2 h3 => ?_
  exact (oi23 x r h1 (DatV.same e h2) (bC.same e h3))
end
section
variable {X:Cx} {pins:List (Addr × Obj)} {σ:St} {H:Hp} {s:Shared}
mutual
theorem DatV.reads (I:Inv X pins σ H s):∀ {d:PyData} {v:V} {u:Value}, DatV X.K H d v → RelV v u → ∃ as, Reads s.heap u d as
 | .none, v, u, h, r => by
  unfold DatV at h; subst h; cases r; exact ⟨_, .none⟩
 | .bool b, v, u, h, r => by
  unfold DatV at h; subst h; cases r; exact ⟨_, .bool b⟩
 | .int i, v, u, h, r => by
  unfold DatV at h; subst h; refine oq11 r fun t eq1_ => ?_; subst eq1_; exact ⟨_, .int i t⟩
 | .str x, v, u, h, r => by
  unfold DatV at h; subst h; refine oq11 r fun t eq1_ => ?_; subst eq1_; exact ⟨_, .str x t⟩
 | .list ds, v, u, h, r => by
  unfold DatV at h
  refine oq23 h fun a xs h1 h2 h3 => ?_
  subst h1
  cases r
  obtain ⟨its, rv, ⟨o, n, e, hc, _, hd⟩, _⟩ := I.list h2
  refine oq11 (bC.reads I h3 rv) fun as q => ?_
  exact ⟨_, .list e hc hd (by simpa using q)⟩
 | .tuple ds, v, u, h, r => by
  unfold DatV at h
  refine oq23 h fun a xs h1 h2 h3 => ?_
  subst h1
  cases r
  obtain ⟨its, rv, ⟨o, e, hc, n, hd⟩, _⟩ := I.tuple h2
  refine oq11 (bC.reads I h3 rv) fun as q => ?_
  exact ⟨_, .tuple e hc hd (by simpa using q)⟩
 | .dict _, v, u, h, r => by unfold DatV at h; exact h.elim
theorem bC.reads (I:Inv X pins σ H s):∀ {ds:List PyData} {xs:List V} {us:List Value}, bC X.K H ds xs → Vals xs us → ∃ as, ReadsAll s.heap us ds as
 | [], xs, us, h, r => by
  unfold bC at h; subst h; cases r; exact ⟨_, .nil⟩
 | d :: ds, xs, us, h, r => by
  unfold bC at h
  refine oq23 h fun x t h1 h2 h3 => ?_
  subst h1
  cases r with
  | cons r1 r2 =>
   refine oq11 (DatV.reads I h2 r1) fun as q1 => ?_
   refine oq11 (bC.reads I h3 r2) fun bs q2 => ?_
   exact ⟨_, .cons q1 q2⟩
end
end
section
variable {X:Cx}
noncomputable def rNeD (K:PySem.W.Frag):R2 := fun x y H Q => ∃ dx dy, DatV K H dx x ∧ DatV K H dy y ∧ dx.canLay0 = true ∧ dy.canLay0 = true ∧ min dx.depth dy.depth ≤ 60 ∧ Q (.bl (!PyData.eqv dx dy)) H
theorem cu:OpR X (binaryOp .FloorDiv) (rI (fun _ j => 0 < j ∧ j < 2 ^ 64) fun i j => .int (i / j)) := opI fun i j _ _ _ _ _ hc q => by
 have h1:(0:Int) < j := hc.1
 have h2:j < 2 ^ 64 := hc.2
 refine floordiv_int (by exact Int.ne_of_gt h1) (by rw [Int.fdiv_eq_ediv_of_nonneg i (by exact Int.le_of_lt h1)]; exact q) (.inl (PyProof.noPylong_of_log2 ?_))
 have h3:j.natAbs ≠ 0 := by omega
 have h4:j.natAbs.log2 < 64 := (Nat.log2_lt h3).mpr (by omega)
 exact nz8 h4 (by decide)
theorem kq {T:String}:ci X (.builtin "isinstance") (fun xs H Q => ∃ x t b, xs = [x, .ty T] ∧ TyOf X.K H x t ∧ PySem.W.kitOne X.K t (.type T) = some b ∧ Q (.bl b) H) := by
 intro pins s σ H xs us Q I r h
 refine oq34 h fun x t b eq3_ ty e q => ?_; subst eq3_
 refine oq23 (vals2 r) fun u c eq2_ ru rc => ?_; subst eq2_
 have rc':c = Value.type T := rc
 subst rc'
 exact isinst_ok I ru ty e fun tk => ⟨.bl b, H, I.tok _, rfl, q⟩
end
section
variable {K:PySem.W.Frag}
theorem kr:PySem.W.kitOne K (.type "int") (.type "int") = some true := by with_unfolding_all rfl
theorem jm:PySem.W.kitOne K (.type "int") (.type "bool") = some false := by with_unfolding_all rfl
theorem ku:PySem.W.kitOne K (.type "tuple") (.type "tuple") = some true := by with_unfolding_all rfl
theorem dR:PySem.W.kitOne K (.type "list") (.type "list") = some true := by with_unfolding_all rfl
end
end L2
namespace L2
open PySem PySem.Spec PyProof.Rows
section
variable {K:PySem.W.Frag} {g:TG} {tb:TS} {D:Ends} {σ:St} {H:Hp} {J:It}
end
section
variable {K:PySem.W.Frag} {g:TG} {tt:TT} {te:TE} {loc:List Str} {cap:List (Str × Nat)} {σ:St} {Q:VK} {J:It} {D:Addr} {H:Hp}
theorem comp_it {n:Nat} (Pv:Nat → List V → Hp → Prop) (h0:Pv 0 [] (upd H D (.lst []))) (hD:∀ i ys H, i ≤ n → Pv i ys H → H D = some (.lst ys)) (go:∀ i ys H, i < n → Pv i ys H → J.go i H) (st:∀ ys H, Pv n ys H → J.stop n H)
  (hs:∀ i ys H x H', i < n → Pv i ys H → J.yld i H x H' → cTurn g tt te loc cap σ D ys (Pv (i + 1)) x H') (hd:∀ ys H, Pv n ys H → Q (.ref D) H):cGoal g tt te loc cap σ D Q J H := by
 refine ⟨fun i m ys H => m = n - i ∧ i ≤ n ∧ Pv i ys H, (oi13 n (by simp) (Nat.zero_le _) h0), ?_⟩
 intro i m ys H zq; refine oq03 zq fun eq0_ hi p => ?_; subst eq0_
 refine ⟨hD i ys H hi p, ?_⟩
 by_cases hlt:i < n
 ·exact .inr ⟨go i ys H hlt p, Pv (i + 1), fun ys' H' p' => (oi14 (n - (i + 1)) (by omega) rfl hlt p'), fun x H' y => hs i ys H x H' hlt p y⟩
 ·have e:i = n := by exact Nat.le_antisymm hi (Nat.not_lt.mp hlt)
  subst e
  exact .inl ⟨st ys H p, hd ys H p⟩
end
noncomputable def ay (K:PySem.W.Frag) (mg:Str → Option Value) (x:Str) (st:Stmt) (ps:List Str):Prop := ∃ f fd, Fun K x x st f fd ∧ Binds K fd ps [] ∧ mg x = some (.ref f)
noncomputable def Has (P:Program) (w:World) (K:PySem.W.Frag) (mg:Str → Option Value) (base:Heap) (k:Nat) (x:Str) (ps:List Str) (sp:Sp):Prop :=
 ∃ f fd, FnOk P w K mg base CX0 k f fd ps sp ∧ mg x = some (.ref f) ∧ PySem.W.keepIn K (.ref f) = true ∧ Binds K fd ps []
section
variable {P:Program} {w:World} {K:PySem.W.Frag} {mg:Str → Option Value} {base:Heap}
theorem ay.has {x:Str} {st:Stmt} {N ps:List Str} {k:Nat} {sp:Sp} (D:ay K mg x st ps) (S:FnScope N ps (ag st)) (len:∀ vs H Q E, sp vs H Q E → vs.length = ps.length)
  (hbody:∀ (f:Addr) (cdv:Value) (A:Around) (outer:List Env) (s:Shared) (H:Hp) (vs:List V) (Q:VK) (E:XK), Room k (A.deeper (envOfC x (ag st) s.heap.objs.size f cdv)) → sp vs H Q E →
   ∃ t, PSs (cxOf CX0 P w K mg base N x (ag st) f cdv A outer s H E).nox (aY st) t ∧ t { nx := fun _ H' => Q .non H', rt := Q } (start N vs) H):Has P w K mg base (k + 1) x ps sp := by
 refine oq23 D fun f fd F b hm => ?_
 exact ⟨f, fd, F.ok S len fun cdv A outer s H vs Q E hr h => hbody f cdv A outer s H vs Q E hr h, hm, F.kp, b⟩
end
section
variable {X:Cx} {k:Nat} {ps:List Str} {sp:Sp} {x:Str} {p pos:Pos} {e:Expr} {es:List Expr} {t:TA}
theorem ak (G:Has X.prog X.w X.K X.mg X.base k x ps sp) (hr:Room k X.A) (hg:Gl X x) (ha:PA X (e :: es) t) (hdb:(x == ("__debug__":Str)) = false := by decide)
  (he:starEach (e :: es) X.env = (false, eval e X.env) :: starEach es X.env := by rfl) (hpl:(backTo pos (starEach es X.env)).any (·.1) = false := by rfl) :
  PE X (.Call (.Name x p) (e :: es) [] pos) (tCall sp [] E0 t) := by
 refine oq24 G fun f fd F hm hk hb => ?_
 exact pe_call F hr hg hm hk hb .nil pass0 ha hdb he hpl
end
structure Blt (mg:Str → Option Value):Prop where
 len:mg "len" = none
 range:mg "range" = none
 enumerate:mg "enumerate" = none
 zip:mg "zip" = none
 min:mg "min" = none
 max:mg "max" = none
 abs:mg "abs" = none
 isinstance:mg "isinstance" = none
 int_:mg "int" = none
 bool_:mg "bool" = none
 list_:mg "list" = none
 tuple_:mg "tuple" = none
 sorted:mg "sorted" = none
 set_:mg "set" = none
end L2
namespace L2
open PySem PySem.Spec PyProof.Rows
theorem cw:bootBuiltins "len" = some (.builtin "len") := by decide +kernel
theorem eh:bootBuiltins "min" = some (.builtin "min") := by decide +kernel
theorem fI:bootBuiltins "max" = some (.builtin "max") := by decide +kernel
theorem lO:bootBuiltins "abs" = some (.builtin "abs") := by decide +kernel
theorem bD:bootBuiltins "isinstance" = some (.builtin "isinstance") := by decide +kernel
theorem fJ:bootBuiltins "sorted" = some (.builtin "sorted") := by decide +kernel
theorem bo_int:bootBuiltins "int" = some (.type "int") := by decide +kernel
theorem bo_bool:bootBuiltins "bool" = some (.type "bool") := by decide +kernel
theorem dH:bootBuiltins "list" = some (.type "list") := by decide +kernel
theorem bo_tuple:bootBuiltins "tuple" = some (.type "tuple") := by decide +kernel
noncomputable abbrev Ints (K:PySem.W.Frag) (H:Hp) (a:Addr) (ns:List Int):Prop := SqL K H a (ns.map V.int)
theorem bu {α β:Type} {F:α → β → Prop}:∀ {l₁:List α} {l₂:List β} {i:Nat} {y:β}, Paired F l₁ l₂ → l₂[i]? = some y → ∃ x, l₁[i]? = some x ∧ F x y
 | _, _, _, _, .nil, e => by simp at e
 | _, _, 0, _, .cons r _, e => by simp at e; subst e; exact (oi12 _ rfl r)
 | _, _, i + 1, y, .cons _ t, e => by
  refine oq12 (bu (i := i) (y := y) t (by simpa using e)) fun x h1 h2 => ?_
  exact (oi12 x (by simpa using h1) h2)
theorem c0 {α β:Type} {F:α → β → Prop}:∀ {l₁:List α} {l₂:List β} {i:Nat} {x:α}, Paired F l₁ l₂ → l₁[i]? = some x → ∃ y, l₂[i]? = some y ∧ F x y
 | _, _, _, _, .nil, e => by simp at e
 | _, _, 0, _, .cons r _, e => by simp at e; subst e; exact (oi12 _ rfl r)
 | _, _, i + 1, x, .cons _ t, e => by
  refine oq12 (c0 (i := i) (x := x) t (by simpa using e)) fun y h1 h2 => ?_
  exact (oi12 y (by simpa using h1) h2)
end L2
namespace L2
open PySem
end L2
namespace L2
open PySem PySem.Spec PyProof.Rows
theorem aU {K:PySem.W.Frag} {mg:Str → Option Value} {h:Heap} {x:Str} {st:Stmt} {ps:List Str} {f:Addr} {oc:Value} {od an:Option Addr} {osl:Array (Option Value)} {kV doc pm cdv ct:Value} (X:K.In h) (G:h.Ns mainGlobals mg)
  (a:PySem.W.nsIn K mainGlobals x = some (some (.ref f))) (l:K.lookup f = some ⟨oc, od, .func (PySem.W.fnOf x x (bF st) (aY st) (ag st) .none kV doc pm an cdv ct), osl⟩) (c:PySem.W.codeIn K cdv x = true) (k:PySem.W.keepIn K (.ref f) = true)
  (hb:∀ (kV doc pm:Value) (an:Option Addr) (cdv ct:Value) (us:List Value), us.length = ps.length → bindArgs (PySem.W.fnOf x x (bF st) (aY st) (ag st) .none kV doc pm an cdv ct) ⟨us, []⟩ = pure (ps.zip us)):ay K mg x st ps :=
 ⟨f, _, gN (st := st) l c k, (gN (st := st) l c k).binds hb, PySem.W.mg_of X G a⟩
end L2
namespace L2
open PySem
end L2
namespace L2
open PySem PySem.Spec PyProof.Rows
theorem aB {H:Hp} {p:Addr} {o:HO} (h:H p = none):Same H (upd H p o) := fun b u e => by rw [ac (ao e h)]; exact e
section
variable {K:PySem.W.Frag} {g:TG} {tt:TT} {te:TE} {loc:List Str} {cap:List (Str × Nat)} {σ:St} {Q:VK} {J:It} {D:Addr} {H:Hp}
end
end L2
namespace L2
open PySem PySem.Spec PyProof.Rows
end L2
namespace L2
open PySem
end L2
namespace L2
open PySem PySem.Spec PyProof.Rows
section
variable {X:Cx} {K:PySem.W.Frag}
theorem sl_listK (h:X.K = K):SlR X (rSlL K) := by subst h; exact sl_list
theorem aI (h:X.K = K):IxR X (rIxL K) := by subst h; exact ix_list
theorem bL (h:X.K = K):IxR X (rIxT K) := by subst h; exact ix_tup
noncomputable def rLen (K:PySem.W.Frag):List V → Hp → VK → Prop := fun xs H Q => ∃ p ys, xs = [.ref p] ∧ (SqL K H p ys ∨ SqT K H p ys) ∧ Q (.int ys.length) H
theorem b9 (h:X.K = K):ci X (.builtin "len") (rLen K) := by subst h; exact jg
noncomputable def jn (K:PySem.W.Frag):List V → Hp → VK → Prop := fun xs H Q => ∃ p ys, xs = [.ref p] ∧ (SqL K H p ys ∨ SqT K H p ys) ∧ ∀ l, H l = none → Q (.ref l) (upd H l (.lst ys))
theorem ej (h:X.K = K):ci X (.type "list") (jn K) := by subst h; exact jh
noncomputable def rIsi (K:PySem.W.Frag) (T:String):List V → Hp → VK → Prop := fun xs H Q => ∃ x t b, xs = [x, .ty T] ∧ TyOf K H x t ∧ PySem.W.kitOne K t (.type T) = some b ∧ Q (.bl b) H
theorem cU {T:String} (h:X.K = K):ci X (.builtin "isinstance") (rIsi K T) := by subst h; exact kq
noncomputable def tTru (K:PySem.W.Frag) (ta:TE):TT := fun σ H Q => ta σ H fun x H' => ∃ k, TruV K x H' k ∧ Q k H'
theorem pt_truK {a:Expr} {ta:TE} (h:X.K = K) (ha:PE X a ta) (he:∀ whole, isTrue a X.env whole = (do let v ← whole; standAt a.pos; holding [v] (truthy v))):PT X a (tTru K ta) := by subst h; exact pt_truth ha he
theorem ba {tg l:Expr} {tl:TE} (h:X.K = K) (hl:PE X l tl):PI X tg l (iList K tl) := by subst h; exact pi_list hl
theorem pi_enumK {elts:List Expr} {x1:Nat} {tpos:Pos} {a:Expr} {ta:TA} {p pos:Pos} (h:X.K = K) (hg:Gl X "enumerate") (hm:X.mg "enumerate" = none) (ha:PA X [a] ta) (hs:starEach [a] X.env = [(false, eval a X.env)] := by rfl) :
  PI X (.Tuple elts x1 tpos) (.Call (.Name "enumerate" p) [a] [] pos) (iEnum K ta) := by subst h; exact pi_enum hg hm ha hs
theorem pi_zipK {elts:List Expr} {x1:Nat} {tpos:Pos} {a b:Expr} {ta:TA} {p pos:Pos} (h:X.K = K) (hg:Gl X "zip") (hm:X.mg "zip" = none) (ha:PA X [a, b] ta) (hs:starEach [a, b] X.env = [(false, eval a X.env), (false, eval b X.env)] := by rfl)
  (hs2:starEach [b] X.env = [(false, eval b X.env)] := by rfl):PI X (.Tuple elts x1 tpos) (.Call (.Name "zip" p) [a, b] [] pos) (iZip K ta) := by subst h; exact pi_zip hg hm ha hs hs2
theorem gp {es:List Expr} {k:Nat} {t:TGs} {n:Nat} {pos:Pos} (h:X.K = K) (hc:X.calm = true) (hs:PGs X es t) (hn:(assignEach es X.env).length = n := by rfl) (hst:(assignEach es X.env).findIdx? (·.1) = none := by rfl) :
  PG X (.Tuple es k pos) (gTup K n t) := by subst h; exact pg_tup hc hs hn hst
section
variable {o e:Expr} {es:List Expr} {to:TE} {t:TA} {name:Str} {apos cpos:Pos} {T id:String} {r:V → List V → Hp → VK → Prop}
theorem jo (h:X.K = K) (pa:PlainAttrs T) (slot:Slot T name id) (hty:typeOf (.builtin id) = pure (.type "method_descriptor")) (hm:MtR X id r) (ho:PE X o to) (ha:PA X (e :: es) t)
  (hbase:attributeBase o name X.env (eval o X.env) = eval o X.env := by rfl)
  (hfew:((backTo cpos (starEach (e :: es) X.env)).all (fun x => !x.1) && (backToKw cpos (keywordEach [] X.env)).all (fun x => x.1.isSome)
   && decide ((e :: es).length + ([]:List Keyword).length + (if ([]:List Keyword).isEmpty then 0 else 1) < 30)) = true := by rfl)
  (hline:(apos.endLine == cpos.line) = true := by rfl) (hs:starEach (e :: es) X.env = (false, eval e X.env) :: starEach es X.env := by rfl) (hplain:(backTo cpos (starEach es X.env)).any (·.1) = false := by rfl) :
  PE X (.Call (.Attribute o name apos) (e :: es) [] cpos) (tBM K T r to t) := by subst h; exact pe_bm pa slot hty hm ho ha hbase hfew hline hs hplain
end
end
end L2
namespace L2
open PySem PySem.Spec PyProof.Rows
class Kon where
 T:List Addr
 Q:Addr → Str
noncomputable def aL (c:Addr) (q:Str):Heap → Prop := fun h => h.CodeRec (.ref c) q
noncomputable def dg:HO → Prop
 | .tbl _ => False
 | _ => True
structure TbG [Kon] (H:Hp):Prop where
 there:∀ P ∈ Kon.T, ∃ ps, H P = some (.tbl ps)
 good:∀ P ps, H P = some (.tbl ps) → TriplesOk ps.toList ∧ ∀ pos cv, codeAmong pos ps.toList = some cv → ∃ c, cv = .ref c ∧ H c = some (.ext (aL c (Kon.Q P)))
structure Sm [Kon] (H H':Hp):Prop where
 kp:∀ b o, dg o → H b = some o → H' b = some o
 tb:∀ b ps, H b = some (.tbl ps) → ∃ more, H' b = some (.tbl (ps ++ more))
 tg:TbG H → TbG H'
section
variable [Kon] {H H1 H2 H':Hp} {p:Addr} {o:HO}
theorem Sm.refl (H:Hp):Sm H H := ⟨fun _ _ _ h => h, fun _ ps h => ⟨#[], by rw [h]; simp⟩, fun h => h⟩
theorem Sm.trans (a:Sm H H1) (b:Sm H1 H2):Sm H H2 := ⟨fun c o n h => b.kp c o n (a.kp c o n h), fun c ps h => by
 refine oq11 (a.tb c ps h) fun m1 e1 => ?_
 refine oq11 (b.tb c _ e1) fun m2 e2 => ?_
 exact ⟨m1 ++ m2, by rw [e2, Array.append_assoc]⟩, fun h => b.tg (a.tg h)⟩
theorem Sm.some (e:Sm H H') {b:Addr} (h:H b = some o):∃ o', H' b = some o' := by
 cases o with
 | tbl ps => refine oq11 (e.tb b ps h) fun m q => ?_; exact ⟨_, q⟩
 | _ => refine ⟨_, e.kp b _ ?_ h⟩; trivial
theorem Sm.free (e:Sm H H') {l:Addr} (h:H' l = Option.none):H l = Option.none := by
 cases q:H l with
 | none => rfl
 | some o => refine oq11 (e.some q) fun o' z => ?_; rw [h] at z; cases z
theorem lP (h:H p = none) (n:dg o):Sm H (upd H p o) := by
 have k:∀ b u, H b = some u → upd H p o b = some u := fun b u q => by rw [ac (ao q h)]; exact q
 refine ⟨fun b u _ q => k b u q, fun b ps q => ⟨#[], by rw [k b _ q]; simp⟩, fun g => ⟨fun P hP => ?_, fun P ps q => ?_⟩⟩
 ·refine oq11 (g.there P hP) fun ps e => ?_
  exact ⟨ps, k _ _ e⟩
 ·by_cases e:P = p
  ·subst e; rw [ai] at q; cases q; exact n.elim
  ·rw [ac e] at q
   refine oq02 (g.good P ps q) fun g1 g2 => ?_
   exact ⟨g1, fun pos cv hc => by refine oq12 (g2 pos cv hc) fun c e1 e2 => ?_; exact (oi12 c e1 (k _ _ e2))⟩
noncomputable def Own:HO → Prop
 | .lst _ => True
 | .dK _ => True
 | .dT _ => True
 | _ => False
theorem sm_chg {u u':HO} (e:Sm H H1) (h0:H p = none) (h:H1 p = some u) (a:Own u) (b:Own u'):Sm H (upd H1 p u') := by
 refine ⟨fun c o n q => ?_, fun c ps q => ?_, fun g => ?_⟩
 ·rw [ac (ao q h0)]; exact e.kp c o n q
 ·rw [ac (ao q h0)]; exact e.tb c ps q
 ·have g' := e.tg g
  have nt:∀ {c:Addr} {o:HO}, H1 c = some o → ¬ Own o → c ≠ p := fun {c o} q n z => by subst z; rw [h] at q; cases q; exact n a
  refine ⟨fun P hP => ?_, fun P ps q => ?_⟩
  ·refine oq11 (g'.there P hP) fun ps e1 => ?_
   exact ⟨ps, by rw [ac (nt e1 fun z => z)]; exact e1⟩
  ·by_cases e2:P = p
   ·subst e2; rw [ai] at q; cases q; exact b.elim
   ·rw [ac e2] at q
    refine oq02 (g'.good P ps q) fun g1 g2 => ?_
    exact ⟨g1, fun pos cv hc => by refine oq12 (g2 pos cv hc) fun c e3 e4 => ?_; exact (oi12 c e3 (by rw [ac (nt e4 fun z => z)]; exact e4))⟩
theorem sm_del {u:HO} (e:Sm H H1) (h0:H p = none) (h:H1 p = some u) (a:Own u):Sm H (fun b => if b = p then Option.none else H1 b) := by
 have k:∀ {c:Addr} {o:HO}, H1 c = some o → c ≠ p → (if c = p then Option.none else H1 c) = some o := fun q n => by rw [if_neg n]; exact q
 refine ⟨fun c o n q => k (e.kp c o n q) (ao q h0), fun c ps q => ?_, fun g => ?_⟩
 ·refine oq11 (e.tb c ps q) fun m z => ?_
  exact ⟨m, k z (ao q h0)⟩
 ·have g' := e.tg g
  have nt:∀ {c:Addr} {o:HO}, H1 c = some o → ¬ Own o → c ≠ p := fun {c o} q n z => by subst z; rw [h] at q; cases q; exact n a
  refine ⟨fun P hP => ?_, fun P ps q => ?_⟩
  ·refine oq11 (g'.there P hP) fun ps e1 => ?_
   exact ⟨ps, k e1 (nt e1 fun z => z)⟩
  ·have q:(if P = p then Option.none else H1 P) = some (.tbl ps) := q
   split at q
   ·cases q
   ·refine oq02 (g'.good P ps q) fun g1 g2 => ?_
    exact ⟨g1, fun pos cv hc => by refine oq12 (g2 pos cv hc) fun c e3 e4 => ?_; exact (oi12 c e3 (k e4 (nt e4 fun z => z)))⟩
end
noncomputable def NT (F:Hp):Prop := ∀ b ps, F b ≠ some (.tbl ps)
theorem gT {F:Hp} {p:Addr} {o:HO} (h:NT F) (n:dg o):NT (upd F p o) := fun b ps q => by
 by_cases e:b = p
 ·subst e; rw [ai] at q; cases q; exact n
 ·rw [ac e] at q; exact h b ps q
structure Rp (α:Type) where
 rel:Hp → V → α → Prop
 mono:∀ {H H':Hp} {v:V} {a:α}, Same H H' → rel H v a → rel H' v a
theorem Paired.imp2 {α β:Type} {F G:α → β → Prop} (h:∀ a b, F a b → G a b):∀ {l:List α} {m:List β}, Paired F l m → Paired G l m
 | _, _, .nil => .nil
 | _, _, .cons r t => .cons (h _ _ r) (Paired.imp2 h t)
theorem Paired.app {α β:Type} {F:α → β → Prop}:∀ {l l':List α} {m m':List β}, Paired F l m → Paired F l' m' → Paired F (l ++ l') (m ++ m')
 | _, _, _, _, .nil, s => s
 | _, _, _, _, .cons r t, s => .cons r (Paired.app t s)
theorem Paired.takeB {α β:Type} {F:α → β → Prop}:∀ {l:List α} {m:List β} (n:Nat), Paired F l m → Paired F (l.take n) (m.take n)
 | _, _, 0, _ => .nil
 | _, _, _ + 1, .nil => .nil
 | _, _, n + 1, .cons r t => .cons r (Paired.takeB n t)
theorem Paired.dropB {α β:Type} {F:α → β → Prop}:∀ {l:List α} {m:List β} (n:Nat), Paired F l m → Paired F (l.drop n) (m.drop n)
 | _, _, 0, r => r
 | _, _, _ + 1, .nil => .nil
 | _, _, n + 1, .cons _ t => Paired.dropB n t
noncomputable def rInt:Rp Int := ⟨fun _ v a => v = .int a, fun _ h => h⟩
noncomputable def aM:Rp Bool := ⟨fun _ v a => v = .bl a, fun _ h => h⟩
noncomputable def rOp {α:Type} (r:Rp α):Rp (Option α) := ⟨fun H v a => match a with | none => v = .non | some x => r.rel H v x, fun {_ _ _ a} e h => by
 cases a with
 | none => exact h
 | some x => exact r.mono e h⟩
theorem Same.rd {H H':Hp} {a:Addr} {u:HO} (e:Same H H') (h:Rd H a u):Rd H' a u := by
 rcases h with h | ⟨o, h⟩
 ·exact .inl (e _ _ h)
 ·exact .inr ⟨o, e _ _ h⟩
noncomputable def rL {α:Type} (r:Rp α):Rp (List α) := ⟨fun H v xs => ∃ p vs, v = .ref p ∧ Rd H p (.lst vs) ∧ Paired (r.rel H) vs xs, fun e zq => oq23 zq fun p vs h1 h2 h3 => (oi23 p vs h1 (e.rd h2) (Paired.imp2 (fun _ _ q => r.mono e q) h3))⟩
noncomputable def rT1 {α:Type} (r:Rp α):Rp α := ⟨fun H v x => ∃ p a, v = .ref p ∧ H p = some (.tup [a]) ∧ r.rel H a x, fun e zq => oq23 zq fun p a h1 h2 h3 => (oi23 p a h1 (e _ _ h2) (r.mono e h3))⟩
noncomputable def rT2 {α β:Type} (r:Rp α) (s:Rp β):Rp (α × β) := ⟨fun H v x => ∃ p a b, v = .ref p ∧ H p = some (.tup [a, b]) ∧ r.rel H a x.1 ∧ s.rel H b x.2,
 fun e zq => oq34 zq fun p a b h1 h2 h3 h4 => (oi34 p a b h1 (e _ _ h2) (r.mono e h3) (s.mono e h4))⟩
noncomputable def rT3 {α β γ:Type} (r:Rp α) (s:Rp β) (t:Rp γ):Rp (α × β × γ) := ⟨fun H v x => ∃ p a b c, v = .ref p ∧ H p = some (.tup [a, b, c]) ∧ r.rel H a x.1 ∧ s.rel H b x.2.1 ∧ t.rel H c x.2.2,
 fun e zq => oq45 zq fun p a b c h1 h2 h3 h4 h5 => (oi45 p a b c h1 (e _ _ h2) (r.mono e h3) (s.mono e h4) (t.mono e h5))⟩
noncomputable abbrev dRel {α:Type} (r:Rp α) (H:Hp):Key × V → Int × α → Prop := fun w k => w.1 = .inl k.1 ∧ r.rel H w.2 k.2
noncomputable def rD {α:Type} (r:Rp α):Rp (List (Int × α)) := ⟨fun H v kvs => ∃ p ws, v = .ref p ∧ H p = some (.dK ws) ∧ Paired (dRel r H) ws kvs,
 fun e zq => oq23 zq fun p ws h1 h2 h3 => (oi23 p ws h1 (e _ _ h2) (Paired.imp2 (fun _ _ q => ⟨q.1, r.mono e q.2⟩) h3))⟩
noncomputable def del (F:Hp) (p:Addr):Hp := fun b => if b = p then none else F b
theorem cf {F:Hp} {p b:Addr} (h:b ≠ p):del F p b = F b := by unfold del; rw [if_neg h]
theorem kx {F:Hp} {p:Addr}:del F p p = none := by unfold del; rw [if_pos rfl]
theorem c5 {F:Hp} {p b:Addr} {o:HO} (h:del F p b = some o):b ≠ p ∧ F b = some o := by
 unfold del at h
 split at h
 ·cases h
 ·rename_i q; exact ⟨q, h⟩
noncomputable def Chg:HO → Prop
 | .lst _ => True
 | .dK _ => True
 | .dT _ => True
 | .ins _ _ _ => True
 | _ => False
noncomputable def Flat {α:Type} (r:Rp α):Prop := ∀ {F:Hp} {p:Addr} {o:HO} {v:V} {a:α}, F p = some o → Chg o → r.rel F v a → r.rel (del F p) v a
theorem cx:Flat rInt := fun _ _ h => h
theorem tup_del {F:Hp} {p a:Addr} {o:HO} {xs:List V} (h:F p = some o) (c:Chg o) (q:F a = some (.tup xs)):del F p a = some (.tup xs) := by
 rw [cf]
 ·exact q
 ·rintro rfl; rw [h] at q; cases q; exact c
theorem flat_t2 {α β:Type} {r:Rp α} {s:Rp β} (f:Flat r) (g:Flat s):Flat (rT2 r s) := fun h c zq => oq34 zq fun p a b h1 h2 h3 h4 => ⟨p, a, b, h1, tup_del h c h2, f h c h3, g h c h4⟩
theorem flat_t3 {α β γ:Type} {r:Rp α} {s:Rp β} {t:Rp γ} (f:Flat r) (g:Flat s) (k:Flat t):Flat (rT3 r s t) :=
 fun h c zq => oq45 zq fun p a b d h1 h2 h3 h4 h5 => ⟨p, a, b, d, h1, tup_del h c h2, f h c h3, g h c h4, k h c h5⟩
noncomputable def rScr (K:PySem.W.Frag):Rp (List Int) := ⟨fun H v xs => ∃ p vs, v = .ref p ∧ SqL K H p vs ∧ Paired (rInt.rel H) vs xs, fun e zq => oq23 zq fun p vs h1 h2 h3 => (oi23 p vs h1 (e.seq h2) (Paired.imp2 (fun _ _ q => rInt.mono e q) h3))⟩
structure Sq (K:PySem.W.Frag) {α:Type} (rl:Rp (List α)) (r:Rp α):Prop where
 get:∀ {H v xs}, rl.rel H v xs → ∃ p vs, v = .ref p ∧ SqL K H p vs ∧ Paired (r.rel H) vs xs
theorem sq_l {K:PySem.W.Frag} {α:Type} {r:Rp α}:Sq K (rL r) r := ⟨fun zq => oq23 zq fun p vs h1 h2 h3 => (oi23 p vs h1 (.inl h2) h3)⟩
theorem sq_s {K:PySem.W.Frag}:Sq K (rScr K) rInt := ⟨fun h => h⟩
inductive Slot:Type 1 where
 | any
 | fr {α:Type} (r:Rp α) (a:α)
 | ol {α:Type} (r:Rp α) (φ:Addr → Prop) (xs:List α)
 | od {α:Type} (r:Rp α) (φ:Addr → Prop) (kvs:List (Int × α))
 | on (q:Option Addr) (rows:List (List Int))
 | ot {α:Type} (r:Rp α) (kvs:List ((Int × Int) × α))
noncomputable abbrev tRel {α:Type} (r:Rp α) (H:Hp):List Key × V → (Int × Int) × α → Prop := fun w k => w.1 = [.inl k.1.1, .inl k.1.2] ∧ r.rel H w.2 k.2
structure NwL (H0 F:Hp) (us:List V) (rows:List (List Int)):Prop where
 pr:Paired (fun v row => ∃ q vs, v = .ref q ∧ F q = some (.lst vs) ∧ Paired (rInt.rel F) vs row) us rows
 nd:us.Nodup
 nw:∀ q, V.ref q ∈ us → H0 q = none
theorem NwL.mono {H0 F F':Hp} {us:List V} {rows:List (List Int)} (e:Same F F') (h:NwL H0 F us rows):NwL H0 F' us rows :=
 ⟨Paired.imp2 (fun _ _ z => oq23 z fun q vs h1 h2 h3 => ⟨q, vs, h1, e _ _ h2, Paired.imp2 (fun _ _ y => y) h3⟩) h.pr, h.nd, h.nw⟩
noncomputable def Slot.own:Slot → Bool
 | .ol _ _ _ => true
 | .od _ _ _ => true
 | .on _ _ => true
 | .ot _ _ => true
 | _ => false
noncomputable def tt_:Addr → Prop := fun _ => True
noncomputable def SlOk (H0 F H:Hp):Slot → Option V → Prop
 | .any, _ => True
 | .fr r a, o => ∃ v, o = some v ∧ r.rel F v a
 | .ol r φ xs, o => ∃ p vs, o = some (.ref p) ∧ φ p ∧ H0 p = none ∧ F p = none ∧ H p = some (.lst vs) ∧ Paired (r.rel F) vs xs
 | .od r φ kvs, o => ∃ p ws, o = some (.ref p) ∧ φ p ∧ H0 p = none ∧ F p = none ∧ H p = some (.dK ws) ∧ Paired (dRel r F) ws kvs
 | .on q rows, o => ∃ p us, o = some (.ref p) ∧ H0 p = none ∧ F p = none ∧ H p = some (.lst (q.toList.map V.ref ++ us)) ∧ NwL H0 F us rows
 | .ot r kvs, o => ∃ p ws, o = some (.ref p) ∧ H0 p = none ∧ F p = none ∧ H p = some (.dT ws) ∧ Paired (tRel r F) ws kvs
noncomputable def UnT:Option HO → Prop
 | none => True
 | some (.tup _) => True
 | some _ => False
theorem un_no {o:Option HO} (h:o = none):UnT o := h ▸ trivial
theorem un_own {o:Option HO} {u:HO} (z:UnT o) (e:o = some u) (h:Own u):False := by subst e; cases u <;> first | exact z | exact h
theorem Sm.un [Kon] {H H':Hp} (e:Sm H H') {l:Addr} (h:UnT (H' l)):UnT (H l) := by
 cases q:H l with
 | none => trivial
 | some o =>
  cases o with
  | tup _ => trivial
  | tbl ps => refine oq11 (e.tb l ps q) fun m z => ?_; rw [z] at h; exact h
  | _ => have z := e.kp l _ (by trivial) q; rw [z] at h; exact h
structure Fc where
 H0:Hp
 F0:Hp
 L:Hp
structure Fr [Kon] (C:Fc) (F H:Hp):Prop where
 keep:Sm C.H0 H
 low:Same C.L F
 sub:Same F H
 base:∀ b o, F b = some o → C.F0 b = some o ∨ UnT (C.H0 b)
 nt:NT F
 tg:TbG H
structure SR [Kon] (C:Fc) (F:Hp) (Γ:List Slot) (σ:St) (H:Hp):Prop extends Fr C F H where
 len:σ.length = Γ.length
 at_:∀ (i:Nat) s, Γ[i]? = some s → ∃ o, σ[i]? = some o ∧ SlOk C.H0 F H s o
 inj:∀ (i j:Nat) s t p, Γ[i]? = some s → Γ[j]? = some t → s.own = true → t.own = true → σ[i]? = some (some (.ref p)) → σ[j]? = some (some (.ref p)) → i = j
structure Ext [Kon] (F H F' H':Hp):Prop where
 hh:Sm H H'
 ff:Same F F'
 sub:Same F' H'
 nw:∀ b o, F' b = some o → F b = some o ∨ UnT (H b)
 nt:NT F → NT F'
section
variable [Kon]
theorem Ext.refl {F H:Hp} (h:Same F H):Ext F H F H := ⟨Sm.refl _, Same.refl _, h, fun _ _ q => .inl q, fun z => z⟩
theorem Ext.trans {F H F1 H1 F2 H2:Hp} (a:Ext F H F1 H1) (b:Ext F1 H1 F2 H2):Ext F H F2 H2 := ⟨a.hh.trans b.hh, a.ff.trans b.ff, b.sub, fun c o h => by
 rcases b.nw c o h with q | q
 ·exact a.nw c o q
 ·exact .inr (a.hh.un q), fun z => b.nt (a.nt z)⟩
theorem Ext.new {F H:Hp} {p:Addr} {o:HO} (h:Same F H) (hp:H p = none) (n:dg o := by trivial):Ext F H (upd F p o) (upd H p o) :=
 ⟨lP hp n, aB (h.free hp), fun b u q => by
  by_cases e:b = p
  ·subst e; rw [ai] at q ⊢; exact q
  ·rw [ac e] at q ⊢; exact h b u q, fun b u q => by
  by_cases e:b = p
  ·subst e; exact .inr (un_no hp)
  ·rw [ac e] at q; exact .inl q, fun z => gT z n⟩
theorem Ext.newH {F H:Hp} {p:Addr} {o:HO} (h:Same F H) (hp:H p = none) (n:dg o := by trivial):Ext F H F (upd H p o) := ⟨lP hp n, Same.refl _, h.trans (aB hp), fun _ _ q => .inl q, fun z => z⟩
theorem Fr.grow {C:Fc} {F H F' H':Hp} (f:Fr C F H) (e:Ext F H F' H'):Fr C F' H' := ⟨f.keep.trans e.hh, f.low.trans e.ff, e.sub, fun b o h => by
 rcases e.nw b o h with q | q
 ·exact f.base b o q
 ·exact .inr (f.keep.un q), e.nt f.nt, e.hh.tg f.tg⟩
theorem SlOk.grow {H0 F H F' H':Hp} {s:Slot} {o:Option V} (e:Ext F H F' H') (h:SlOk H0 F H s o):SlOk H0 F' H' s o := by
 have nn:∀ p u, F p = none → H p = some u → Own u → F' p = none := fun p u h1 h2 hu => by
  cases q:F' p with
  | none => rfl
  | some w =>
   rcases e.nw p w q with z | z
   ·rw [h1] at z; cases z
   ·exact (un_own z h2 hu).elim
 cases s with
 | any => trivial
 | fr r a => refine oq12 h fun v h1 h2 => ?_; exact ⟨v, h1, r.mono e.ff h2⟩
 | ol r φ xs => refine oq26 h fun p vs h1 h0 h2 h3 h4 h5 => ?_; exact ⟨p, vs, h1, h0, h2, nn p _ h3 h4 trivial, e.hh.kp _ _ trivial h4, Paired.imp2 (fun _ _ q => r.mono e.ff q) h5⟩
 | od r φ kvs => refine oq26 h fun p ws h1 h0 h2 h3 h4 h5 => ?_; exact ⟨p, ws, h1, h0, h2, nn p _ h3 h4 trivial, e.hh.kp _ _ trivial h4, Paired.imp2 (fun _ _ q => ⟨q.1, r.mono e.ff q.2⟩) h5⟩
 | on a rows => refine oq25 h fun p us h1 h2 h3 h4 h5 => ?_; exact ⟨p, us, h1, h2, nn p _ h3 h4 trivial, e.hh.kp _ _ trivial h4, h5.mono e.ff⟩
 | ot r kvs => refine oq25 h fun p ws h1 h2 h3 h4 h5 => ?_; exact ⟨p, ws, h1, h2, nn p _ h3 h4 trivial, e.hh.kp _ _ trivial h4, Paired.imp2 (fun _ _ q => ⟨q.1, r.mono e.ff q.2⟩) h5⟩
section
variable {C:Fc} {F H F' H':Hp} {Γ:List Slot} {σ:St}
theorem SR.grow (S:SR C F Γ σ H) (e:Ext F H F' H'):SR C F' Γ σ H' := ⟨S.toFr.grow e, S.len, fun i s h => by
 refine oq12 (S.at_ i s h) fun o h1 h2 => ?_
 exact (oi12 o h1 (h2.grow e)), S.inj⟩
theorem SR.fr {α:Type} {r:Rp α} {a:α} {i:Nat} (S:SR C F Γ σ H) (h:Γ[i]? = some (.fr r a)):∃ v, σ[i]? = some (some v) ∧ r.rel F v a := by
 refine oq12 (S.at_ i _ h) fun o h1 zz => oq12 zz fun v eq3_ h2 => ?_; subst eq3_
 exact (oi12 v h1 h2)
theorem get_set {α:Type _} {l:List α} {i j:Nat} {x y:α} (h:(l.set i x)[j]? = some y):(i = j ∧ x = y ∧ i < l.length) ∨ (i ≠ j ∧ l[j]? = some y) := by
 rw [List.getElem?_set] at h
 split at h
 ·rename_i e
  split at h
  ·rename_i q; subst e; cases h; exact .inl (oi03 rfl rfl q)
  ·cases h
 ·rename_i e; exact .inr ⟨e, h⟩
theorem jp {α:Type _} {l:List α} {i:Nat} {x:α} (h:i < l.length):(l.set i x)[i]? = some x := by rw [List.getElem?_set]; simp [h]
theorem cG {α:Type _} {l:List α} {i j:Nat} {x:α} (h:i ≠ j):(l.set i x)[j]? = l[j]? := by rw [List.getElem?_set]; simp [h]
theorem SR.setF {α:Type} {r:Rp α} {a:α} {v:V} (i:Nat) (S:SR C F Γ σ H) (h:r.rel F v a):SR C F (Γ.set i (.fr r a)) (σ.set i (some v)) H := by
 refine ⟨S.toFr, by rw [List.length_set, List.length_set]; exact S.len, fun j s q => ?_, fun j k s t p q1 q2 o1 o2 e1 e2 => ?_⟩
 ·rcases get_set q with ⟨rfl, rfl, hl⟩ | ⟨hne, q⟩
  ·exact ⟨_, jp (by rw [S.len]; exact hl), v, rfl, h⟩
  ·refine oq12 (S.at_ j s q) fun o h1 h2 => ?_
   exact (oi12 o (by rw [cG hne]; exact h1) h2)
 ·rcases get_set q1 with ⟨rfl, rfl, _⟩ | ⟨n1, q1⟩
  ·cases o1
  rcases get_set q2 with ⟨rfl, rfl, _⟩ | ⟨n2, q2⟩
  ·cases o2
  rw [cG n1] at e1
  rw [cG n2] at e2
  exact S.inj j k s t p q1 q2 o1 o2 e1 e2
theorem lQ {H0 F H:Hp} {p:Addr} {s:Slot} (hs:s.own = true) (h:SlOk H0 F H s (some (.ref p))):∃ u, H p = some u ∧ Own u := by
 cases s with
 | any => cases hs
 | fr r a => cases hs
 | ol r φ xs => refine oq26 h fun p' vs h1 _ _ _ h4 _ => ?_; cases h1; exact (oi12 _ h4 trivial)
 | od r φ kvs => refine oq26 h fun p' vs h1 _ _ _ h4 _ => ?_; cases h1; exact (oi12 _ h4 trivial)
 | on a rows => refine oq25 h fun p' us h1 _ _ h4 _ => ?_; cases h1; exact (oi12 _ h4 trivial)
 | ot r kvs => refine oq25 h fun p' us h1 _ _ h4 _ => ?_; cases h1; exact (oi12 _ h4 trivial)
theorem Own.noTbl {u:HO} (h:Own u):dg u := by cases u <;> first | exact h | trivial
theorem SR.setO {p:Addr} {u:HO} {s:Slot} (i:Nat) (S:SR C F Γ σ H) (hp:H p = none) (hs:s.own = true) (h:SlOk C.H0 F (upd H p u) s (some (.ref p))):SR C F (Γ.set i s) (σ.set i (some (.ref p))) (upd H p u) := by
 have ou:dg u := by
  refine oq12 (lQ hs h) fun u' e1 e2 => ?_
  rw [ai] at e1; cases e1; exact e2.noTbl
 have e:Ext F H F (upd H p u) := Ext.newH S.sub hp ou
 have np:∀ (j:Nat) t, Γ[j]? = some t → t.own = true → σ[j]? = some (some (.ref p)) → False := fun j t q1 o1 e1 => by
  refine oq12 (S.at_ j t q1) fun o h1 h2 => ?_
  rw [e1] at h1
  cases h1
  cases t with
  | any => cases o1
  | fr r a => cases o1
  | ol r φ xs => refine oq26 h2 fun p' vs h1 _ _ _ h4 _ => ?_; cases h1; rw [hp] at h4; cases h4
  | od r φ kvs => refine oq26 h2 fun p' vs h1 _ _ _ h4 _ => ?_; cases h1; rw [hp] at h4; cases h4
  | on a rows => refine oq25 h2 fun p' us h1 _ _ h4 _ => ?_; cases h1; rw [hp] at h4; cases h4
  | ot r kvs => refine oq25 h2 fun p' us h1 _ _ h4 _ => ?_; cases h1; rw [hp] at h4; cases h4
 refine ⟨S.toFr.grow e, by rw [List.length_set, List.length_set]; exact S.len, fun j t q => ?_, fun j k s' t p' q1 q2 o1 o2 e1 e2 => ?_⟩
 ·rcases get_set q with ⟨rfl, rfl, hl⟩ | ⟨hne, q⟩
  ·exact (oi12 _ (jp (by rw [S.len]; exact hl)) h)
  ·refine oq12 (S.at_ j t q) fun o h1 h2 => ?_
   exact (oi12 o (by rw [cG hne]; exact h1) (h2.grow e))
 ·rcases get_set q1 with ⟨rfl, rfl, l1⟩ | ⟨n1, q1⟩
  ·rcases get_set q2 with ⟨rfl, rfl, _⟩ | ⟨n2, q2⟩
   ·rfl
   ·rw [jp (by rw [S.len]; exact l1)] at e1
    cases e1
    rw [cG n2] at e2
    exact absurd e2 (fun z => np k t q2 o2 z)
  ·rcases get_set q2 with ⟨rfl, rfl, l2⟩ | ⟨n2, q2⟩
   ·rw [jp (by rw [S.len]; exact l2)] at e2
    cases e2
    rw [cG n1] at e1
    exact absurd e1 (fun z => np j s' q1 o1 z)
   ·rw [cG n1] at e1
    rw [cG n2] at e2
    exact S.inj j k s' t p' q1 q2 o1 o2 e1 e2
theorem SR.chg {p:Addr} {u:HO} {s s':Slot} {i:Nat} (S:SR C F Γ σ H) (hi:Γ[i]? = some s) (ho:s.own = true) (hp:σ[i]? = some (some (.ref p))) (h0:C.H0 p = none) (hF:F p = none) (hs:s'.own = true) (h:SlOk C.H0 F (upd H p u) s' (some (.ref p))) :
  SR C F (Γ.set i s') σ (upd H p u) := by
 have oth:∀ (j:Nat) t, j ≠ i → Γ[j]? = some t → t.own = true → σ[j]? = some (some (.ref p)) → False := fun j t n q1 o1 e1 => n (S.inj j i t s p q1 hi o1 ho e1 hp)
 obtain ⟨u0, hu0, ou0⟩:∃ u0, H p = some u0 ∧ Own u0 := by
  refine oq12 (S.at_ i s hi) fun o z1 z2 => ?_
  rw [hp] at z1; cases z1
  exact lQ ho z2
 have ou:Own u := by
  refine oq12 (lQ hs h) fun u' e1 e2 => ?_
  rw [ai] at e1; cases e1; exact e2
 have sk := sm_chg S.keep h0 hu0 ou0 ou
 have tgu:TbG (upd H p u) := by
  have nt:∀ {c:Addr} {o:HO}, H c = some o → ¬ Own o → c ≠ p := fun {c o} q n z => by subst z; rw [hu0] at q; cases q; exact n ou0
  refine ⟨fun P hP => ?_, fun P ps q => ?_⟩
  ·refine oq11 (S.tg.there P hP) fun ps e1 => ?_
   exact ⟨ps, by rw [ac (nt e1 fun z => z)]; exact e1⟩
  ·by_cases e2:P = p
   ·subst e2; rw [ai] at q; cases q; exact ou.elim
   ·rw [ac e2] at q
    refine oq02 (S.tg.good P ps q) fun g1 g2 => ?_
    exact ⟨g1, fun pos cv hc => by refine oq12 (g2 pos cv hc) fun c e3 e4 => ?_; exact (oi12 c e3 (by rw [ac (nt e4 fun z => z)]; exact e4))⟩
 refine ⟨⟨sk, S.low, fun b o q => ?_, S.base, S.nt, tgu⟩, by rw [List.length_set]; exact S.len, fun j t q => ?_, fun j k a b p' q1 q2 o1 o2 e1 e2 => ?_⟩
 ·rw [ac (ao q hF)]; exact S.sub b o q
 ·rcases get_set q with ⟨rfl, rfl, hl⟩ | ⟨hne, q⟩
  ·exact (oi12 _ hp h)
  ·refine oq12 (S.at_ j t q) fun o h1 h2 => ?_
   refine (oi12 o h1 ?_)
   cases t with
   | any => trivial
   | fr r a => exact h2
   | ol r φ xs =>
    refine oq26 h2 fun p' vs h3 h4 h5 h6 h7 h8 => ?_
    refine ⟨p', vs, h3, h4, h5, h6, ?_, h8⟩
    subst h3
    rw [ac]
    ·exact h7
    ·rintro rfl; exact oth j _ (Ne.symm hne) q rfl h1
   | od r φ kvs =>
    refine oq26 h2 fun p' vs h3 h4 h5 h6 h7 h8 => ?_
    refine ⟨p', vs, h3, h4, h5, h6, ?_, h8⟩
    subst h3
    rw [ac]
    ·exact h7
    ·rintro rfl; exact oth j _ (Ne.symm hne) q rfl h1
   | on a rows =>
    refine oq25 h2 fun p' us h3 h5 h6 h7 h8 => ?_
    refine ⟨p', us, h3, h5, h6, ?_, h8⟩
    subst h3
    rw [ac]
    ·exact h7
    ·rintro rfl; exact oth j _ (Ne.symm hne) q rfl h1
   | ot r kvs =>
    refine oq25 h2 fun p' us h3 h5 h6 h7 h8 => ?_
    refine ⟨p', us, h3, h5, h6, ?_, h8⟩
    subst h3
    rw [ac]
    ·exact h7
    ·rintro rfl; exact oth j _ (Ne.symm hne) q rfl h1
 ·have own':∀ (j:Nat) x, (Γ.set i s')[j]? = some x → x.own = true → ∃ y, Γ[j]? = some y ∧ y.own = true := fun j x q o => by
   rcases get_set q with ⟨rfl, rfl, _⟩ | ⟨_, q⟩
   ·exact ⟨s, hi, ho⟩
   ·exact ⟨x, q, o⟩
  obtain ⟨a', r1, r2⟩ := own' j a q1 o1
  obtain ⟨b', r3, r4⟩ := own' k b q2 o2
  exact S.inj j k a' b' p' r1 r3 r2 r4 e1 e2
end
inductive SubS:Slot → Slot → Prop where
 | any {s:Slot}:SubS s .any
 | rfl {s:Slot}:SubS s s
 | frz {α:Type} {r:Rp α} {φ:Addr → Prop} {xs:List α}:SubS (.ol r φ xs) (.fr (rL r) xs)
 | frd {α:Type} {r:Rp α} {φ:Addr → Prop} {kvs:List (Int × α)}:SubS (.od r φ kvs) (.fr (rD r) kvs)
 | ttD {α:Type} {r:Rp α} {φ:Addr → Prop} {kvs:List (Int × α)}:SubS (.od r φ kvs) (.od r tt_ kvs)
 | tt {α:Type} {r:Rp α} {φ:Addr → Prop} {xs:List α}:SubS (.ol r φ xs) (.ol r tt_ xs)
inductive SubL:List Slot → List Slot → Prop where
 | nil:SubL [] []
 | cons {s s':Slot} {Γ Γ':List Slot}:SubS s s' → SubL Γ Γ' → SubL (s :: Γ) (s' :: Γ')
theorem SR.freeze {C:Fc} {F H:Hp} {Γ:List Slot} {σ:St} {i:Nat} {s:Slot} (S:SR C F Γ σ H) (hi:Γ[i]? = some s) (p:Addr) (u:HO) (s':Slot) (hs':s'.own = false) (hs:s.own = true) (e1:σ[i]? = some (some (.ref p))) (e2:C.H0 p = none) (e3:F p = none) (e4:H p = some u)
  (e5:SlOk C.H0 (upd F p u) H s' (some (.ref p))) (ou:Own u):SR C (upd F p u) (Γ.set i s') σ H := by
 have ff:Same F (upd F p u) := aB e3
 have sb:Same (upd F p u) H := fun b o q => by
  by_cases e:b = p
  ·subst e; rw [ai] at q; rw [← q]; exact e4
  ·rw [ac e] at q; exact S.sub b o q
 have bs:∀ b o, upd F p u b = some o → C.F0 b = some o ∨ UnT (C.H0 b) := fun b o q => by
  by_cases e:b = p
  ·subst e; exact .inr (un_no e2)
  ·rw [ac e] at q; exact S.base b o q
 have oth:∀ (j:Nat) t, j ≠ i → Γ[j]? = some t → t.own = true → σ[j]? = some (some (.ref p)) → False := fun j t n q1 o1 z => n (S.inj j i t s p q1 hi o1 hs z e1)
 have keepS:∀ (j:Nat) t, i ≠ j → Γ[j]? = some t → ∃ o, σ[j]? = some o ∧ SlOk C.H0 (upd F p u) H t o := fun j t hne q => by
  refine oq12 (S.at_ j t q) fun o h1 h2 => ?_
  refine (oi12 o h1 ?_)
  cases t with
  | any => trivial
  | fr r a => refine oq12 h2 fun v z1 z2 => ?_; exact ⟨v, z1, r.mono ff z2⟩
  | ol r φ xs =>
   refine oq26 h2 fun p' vs h3 h4 h5 h6 h7 h8 => ?_
   subst h3
   have n:p' ≠ p := by rintro rfl; exact oth j _ (Ne.symm hne) q rfl h1
   exact ⟨p', vs, rfl, h4, h5, by rw [ac n]; exact h6, h7, Paired.imp2 (fun _ _ z => r.mono ff z) h8⟩
  | od r φ kvs =>
   refine oq26 h2 fun p' vs h3 h4 h5 h6 h7 h8 => ?_
   subst h3
   have n:p' ≠ p := by rintro rfl; exact oth j _ (Ne.symm hne) q rfl h1
   exact ⟨p', vs, rfl, h4, h5, by rw [ac n]; exact h6, h7, Paired.imp2 (fun _ _ z => ⟨z.1, r.mono ff z.2⟩) h8⟩
  | on a rows =>
   refine oq25 h2 fun p' us h3 h5 h6 h7 h8 => ?_
   subst h3
   have n:p' ≠ p := by rintro rfl; exact oth j _ (Ne.symm hne) q rfl h1
   exact ⟨p', us, rfl, h5, by rw [ac n]; exact h6, h7, h8.mono ff⟩
  | ot r kvs =>
   refine oq25 h2 fun p' us h3 h5 h6 h7 h8 => ?_
   subst h3
   have n:p' ≠ p := by rintro rfl; exact oth j _ (Ne.symm hne) q rfl h1
   exact ⟨p', us, rfl, h5, by rw [ac n]; exact h6, h7, Paired.imp2 (fun _ _ z => ⟨z.1, r.mono ff z.2⟩) h8⟩
 refine ⟨⟨S.keep, S.low.trans ff, sb, bs, gT S.nt ou.noTbl, S.tg⟩, by rw [List.length_set]; exact S.len, fun j t q => ?_, fun j k a b p' q1 q2 o1 o2 z1 z2 => ?_⟩
 ·rcases get_set q with ⟨rfl, rfl, _⟩ | ⟨n, q⟩
  ·exact (oi12 _ e1 e5)
  ·exact keepS j t n q
 ·rcases get_set q1 with ⟨rfl, rfl, _⟩ | ⟨n1, q1⟩
  ·rw [hs'] at o1; cases o1
  rcases get_set q2 with ⟨rfl, rfl, _⟩ | ⟨n2, q2⟩
  ·rw [hs'] at o2; cases o2
  exact S.inj j k a b p' q1 q2 o1 o2 z1 z2
theorem SR.weak1 {C:Fc} {F H:Hp} {Γ:List Slot} {σ:St} {i:Nat} {s s':Slot} (S:SR C F Γ σ H) (hi:Γ[i]? = some s) (h:SubS s s'):∃ F', Same F F' ∧ SR C F' (Γ.set i s') σ H := by
 have ilt:i < Γ.length := (List.getElem?_eq_some_iff.mp hi).1
 have stay:∀ s', (∀ o, SlOk C.H0 F H s o → SlOk C.H0 F H s' o) → (s'.own = true → s.own = true) → ∃ F', Same F F' ∧ SR C F' (Γ.set i s') σ H := fun s' h1 h2 => by
  have own':∀ (j:Nat) x, (Γ.set i s')[j]? = some x → x.own = true → ∃ y, Γ[j]? = some y ∧ y.own = true := fun j x q o => by
   rcases get_set q with ⟨rfl, rfl, _⟩ | ⟨_, q⟩
   ·exact ⟨s, hi, h2 o⟩
   ·exact ⟨x, q, o⟩
  refine ⟨F, Same.refl _, S.toFr, by rw [List.length_set]; exact S.len, fun j t q => ?_, fun j k a b p' q1 q2 o1 o2 e1 e2 => ?_⟩
  ·rcases get_set q with ⟨rfl, rfl, _⟩ | ⟨_, q⟩
   ·refine oq12 (S.at_ i s hi) fun o z1 z2 => ?_; exact (oi12 o z1 (h1 o z2))
   ·exact S.at_ j t q
  ·obtain ⟨a', r1, r2⟩ := own' j a q1 o1
   obtain ⟨b', r3, r4⟩ := own' k b q2 o2
   exact S.inj j k a' b' p' r1 r3 r2 r4 e1 e2
 cases h with
 | any => exact stay _ (fun _ _ => trivial) (fun z => by cases z)
 | rfl => exact stay _ (fun _ z => z) (fun z => z)
 | tt => exact stay _ (fun _ zq => oq23 zq fun p vs a _ b => ⟨p, vs, a, trivial, b⟩) (fun z => z)
 | ttD => exact stay _ (fun _ zq => oq23 zq fun p vs a _ b => ⟨p, vs, a, trivial, b⟩) (fun z => z)
 | frz =>
  refine oq12 (S.at_ i _ hi) fun o h1 zz => oq26 zz fun p vs eq4_ h2 h3 h4 h5 h6 => ?_; subst eq4_
  exact (oi12 _ (aB h4) (S.freeze hi p _ _ rfl rfl h1 h3 h4 h5 ⟨_, rfl, p, vs, rfl, Rd.of ai, Paired.imp2 (fun _ _ z => Rp.mono _ (aB h4) z) h6⟩ trivial))
 | frd =>
  refine oq12 (S.at_ i _ hi) fun o h1 zz => oq26 zz fun p vs eq4_ h2 h3 h4 h5 h6 => ?_; subst eq4_
  exact (oi12 _ (aB h4) (S.freeze hi p _ _ rfl rfl h1 h3 h4 h5 ⟨_, rfl, p, vs, rfl, ai, Paired.imp2 (fun _ _ z => ⟨z.1, Rp.mono _ (aB h4) z.2⟩) h6⟩ trivial))
theorem SR.weakL {C:Fc} {H:Hp} {σ:St} {Γ Γ':List Slot} (h:SubL Γ Γ'):∀ (Δ:List Slot) {F:Hp}, SR C F (Δ ++ Γ) σ H → ∃ F', Same F F' ∧ SR C F' (Δ ++ Γ') σ H := by
 induction h with
 | nil => exact fun Δ F S => (oi12 F (Same.refl _) S)
 | @cons s s' Γ Γ' h1 _ ih =>
  intro Δ F S
  refine oq12 (S.weak1 (i := Δ.length) (s := s) (s' := s') (by simp) h1) fun F1 e1 S1 => ?_
  have e:(Δ ++ s :: Γ).set Δ.length s' = (Δ ++ [s']) ++ Γ := by simp
  rw [e] at S1
  refine oq12 (ih (Δ ++ [s']) S1) fun F2 e2 S2 => ?_
  exact (oi12 F2 (e1.trans e2) (by simpa using S2))
theorem SR.weak {C:Fc} {F H:Hp} {σ:St} {Γ Γ':List Slot} (S:SR C F Γ σ H) (h:SubL Γ Γ'):∃ F', Same F F' ∧ SR C F' Γ' σ H := SR.weakL h [] S
theorem SR.lower {C:Fc} {F H:Hp} {σ:St} {Γ:List Slot} (S:SR C F Γ σ H):SR { C with L := F } F Γ σ H := ⟨⟨S.keep, Same.refl _, S.sub, S.base, S.nt, S.tg⟩, S.len, S.at_, S.inj⟩
theorem SR.raise {C:Fc} {F F1 H:Hp} {σ:St} {Γ:List Slot} (S:SR { C with L := F } F1 Γ σ H) (h:Same C.L F):SR C F1 Γ σ H := ⟨⟨S.keep, h.trans S.low, S.sub, S.base, S.nt, S.tg⟩, S.len, S.at_, S.inj⟩
theorem Fr.raise {C:Fc} {F F1 H:Hp} (S:Fr { C with L := F } F1 H) (h:Same C.L F):Fr C F1 H := ⟨S.keep, h.trans S.low, S.sub, S.base, S.nt, S.tg⟩
end
end L2
namespace Pu
theorem bs {α β:Type} {a:α} {f:α → Option β}:(some a).bind f = f a := Eq.trans (nza a f) (Eq.refl _)
noncomputable def fdiv (i j:Int):Option Int := if 0 < j ∧ j < 2 ^ 64 then some (i / j) else none
noncomputable def fmod (i j:Int):Option Int := if 0 < j then some (i % j) else none
noncomputable def mul (i j:Int):Option Int := if (-(2 ^ 64) < i ∧ i < 2 ^ 64) ∨ (-(2 ^ 64) < j ∧ j < 2 ^ 64) then some (i * j) else none
noncomputable def pow (i j:Int):Option Int := if 0 ≤ j ∧ j ≤ 1000000 ∧ i.natAbs < 2 ^ 64 then some (i ^ j.toNat) else none
noncomputable def mn (i j:Int):Int := if j < i then j else i
noncomputable def mx (i j:Int):Int := if j > i then j else i
noncomputable def ab (i:Int):Int := if i < 0 then -i else i
noncomputable abbrev at_ {α:Type} (xs:List α) (i:Int):Option α := L2.atI xs i
noncomputable def ln {α:Type} (xs:List α):Int := xs.length
noncomputable def cut {α:Type} (xs:List α) (lo hi:Option Int):List α := (xs.drop (HT.sIx xs.length 0 lo)).take (HT.sIx xs.length xs.length hi - HT.sIx xs.length 0 lo)
noncomputable def app {α:Type} (xs:List α) (a:α):Option (List α) := if xs.length < 16777216 then some (xs ++ [a]) else none
noncomputable def cat {α:Type} (xs ys:List α):Option (List α) := if xs.length + ys.length ≤ 16777216 then some (xs ++ ys) else none
noncomputable def nats (n:Nat):List Int := (List.range n).map fun (i:Nat) => (i:Int)
noncomputable def rng1 (j:Int):Option (List Int) := if -(2 ^ 62) ≤ j ∧ j < 2 ^ 62 then some (nats j.toNat) else none
noncomputable def rng2 (i j:Int):Option (List Int) := if -(2 ^ 62) ≤ i ∧ i < 2 ^ 62 ∧ -(2 ^ 62) ≤ j ∧ j < 2 ^ 62 then some ((List.range (j - i).toNat).map fun (k:Nat) => i + (k:Int)) else none
noncomputable def rng3 (i j c:Int):Option (List Int) := if -(2 ^ 61) ≤ i ∧ i < 2 ^ 61 ∧ -(2 ^ 61) ≤ j ∧ j < 2 ^ 61 ∧ 0 < c ∧ c < 1073741824 then some ((List.range (Fl.rcntN i j c)).map fun (k:Nat) => i + (k:Int) * c) else none
noncomputable def enum {α:Type} (xs:List α):List (Int × α) := (xs.zipIdx).map fun p => ((p.2:Int), p.1)
noncomputable def find {α:Type} (kvs:List (Int × α)) (k:Int):Option α := (kvs.find? fun kv => decide (kv.1 = k)).map (·.2)
noncomputable def put {α:Type} (kvs:List (Int × α)) (k:Int) (v:α):List (Int × α) :=
 if (kvs.any fun kv => decide (kv.1 = k)) = true then kvs.map (fun kv => if kv.1 = k then (kv.1, v) else kv) else kvs ++ [(k, v)]
noncomputable def iV {β α:Type} (f:β → Option α):List β → Option (List α)
 | [] => some []
 | x :: xs => (f x).bind fun a => (iV f xs).bind fun as => some (a :: as)
noncomputable def bb {β α:Type} (t:β → Option Bool) (f:β → Option α):List β → Option (List α)
 | [] => some []
 | x :: xs => (t x).bind fun b => if b = true then (f x).bind fun a => (bb t f xs).bind fun as => some (a :: as) else bb t f xs
noncomputable def comp {β α:Type} (f:β → Option α) (xs:List β):Option (List α) := if xs.length ≤ 16777216 then iV f xs else none
noncomputable def cy {β α:Type} (t:β → Option Bool) (f:β → Option α) (xs:List β):Option (List α) := if xs.length ≤ 16777216 then bb t f xs else none
inductive Ctl (S R:Type) where
 | nx (s:S) | bk (s:S) | rt (r:R)
noncomputable def forS {S β:Type} (f:S → β → Option S):List β → S → Option S
 | [], s => some s
 | x :: xs, s => (f s x).bind fun s => forS f xs s
noncomputable def forC {S R β:Type} (f:S → β → Option (Ctl S R)):List β → S → Option (Ctl S R)
 | [], s => some (.nx s)
 | x :: xs, s => (f s x).bind fun c => match c with
  | .nx s => forC f xs s
  | .bk s => some (.nx s)
  | .rt r => some (.rt r)
noncomputable def whS {S:Type} (t:S → Option Bool) (f:S → Option S):Nat → S → Option S
 | 0, _ => none
 | n + 1, s => (t s).bind fun b => if b = true then (f s).bind fun s => whS t f n s else some s
theorem iW {S β:Type} {f:S → β → Option S} {x:β} {xs:List β} {s:S}:forS f (x :: xs) s = (f s x).bind fun s => forS f xs s := rfl
theorem forC_cons {S R β:Type} {f:S → β → Option (Ctl S R)} {x:β} {xs:List β} {s:S}:forC f (x :: xs) s = (f s x).bind fun c => match c with
  | .nx s => forC f xs s
  | .bk s => some (.nx s)
  | .rt r => some (.rt r) := rfl
theorem kA {S:Type} {t:S → Option Bool} {f:S → Option S} {n:Nat} {s:S}:whS t f (n + 1) s = (t s).bind fun b => if b = true then (f s).bind fun s => whS t f n s else some s := rfl
theorem lS {β α:Type} {f:β → Option α} {x:β} {xs:List β}:iV f (x :: xs) = (f x).bind fun a => (iV f xs).bind fun as => some (a :: as) := rfl
noncomputable def andThen {S R T:Type} (o:Option (Ctl S R)) (k:S → Option T) (e:R → T):Option T := o.bind fun c => match c with
 | .nx s => k s
 | .bk s => k s
 | .rt r => some (e r)
end Pu
namespace L2
open PySem PySem.Spec PyProof.Rows
theorem a9 {α β:Type} {o:Option α} {f:α → Option β} {b:β} (h:o.bind f = some b):∃ a, o = some a ∧ f a = some b := by
 cases o with
 | none => cases h
 | some a => exact (oi12 a rfl h)
variable [Kon]
section
variable (Γ:List Slot) {α:Type}
noncomputable def EV (t:TE) (o:Option α) (r:Rp α):Prop := ∀ C F σ H Q a, SR C F Γ σ H → o = some a → (∀ v F' H', Ext F H F' H' → r.rel F' v a → Q v H') → t σ H Q
noncomputable def EVL (t:TE) (o:Option (List α)) (r:Rp α):Prop := ∀ C F σ H Q xs, SR C F Γ σ H → o = some xs → (∀ p vs F' H1, Ext F H F' H1 → H1 p = none → Paired (r.rel F') vs xs → Q (.ref p) (upd H1 p (.lst vs))) → t σ H Q
noncomputable def EVD (t:TE) (o:Option (List (Int × α))) (r:Rp α):Prop := ∀ C F σ H Q kvs, SR C F Γ σ H → o = some kvs → (∀ p ws F' H1, Ext F H F' H1 → H1 p = none → Paired (dRel r F') ws kvs → Q (.ref p) (upd H1 p (.dK ws))) → t σ H Q
noncomputable def ET (t:TT) (o:Option Bool):Prop := ∀ C F σ H Q b, SR C F Γ σ H → o = some b → (∀ F' H', Ext F H F' H' → Q b H') → t σ H Q
structure Walks (J:It) (F:Hp) {β:Type} (r:Rp β) (xs:List β):Prop where
 go:∀ i H, Same F H → i < xs.length → J.go i H
 stop:∀ H, Same F H → J.stop xs.length H
 yld:∀ i H x H' F1, Same F H → i < xs.length → J.yld i H x H' → Same F F1 → Same F1 H → ∃ F2 a, xs[i]? = some a ∧ Ext F1 H F2 H' ∧ r.rel F2 x a
noncomputable def IV (t:TI) (o:Option (List α)) (r:Rp α):Prop := ∀ C F σ H R xs, SR C F Γ σ H → o = some xs → (∀ J F' H', Ext F H F' H' → Walks J F' r xs → R J H') → t σ H R
noncomputable def EO (t:TO) (o:Option (Option Int)):Prop := ∀ C F σ H Q a, SR C F Γ σ H → o = some a → (∀ F' H', Ext F H F' H' → Q a H') → t σ H Q
end
section
variable {Γ:List Slot} {α β γ δ:Type} {r:Rp α} {s:Rp β} {ta tb tc td:TE} {oa:Option α} {ob:Option β} {K:PySem.W.Frag}
theorem a8 {a:α} (i:Nat) (h:Γ[i]? = some (.fr r a)):EV Γ (tVar i) (some a) r := by
 intro C F σ H Q a' S e k
 cases e
 refine oq12 (S.fr h) fun v h1 h2 => ?_
 exact ⟨v, h1, k v F H (Ext.refl S.sub) h2⟩
theorem ev_c {v:V} {a:α} (h:∀ F, r.rel F v a):EV Γ (tC v) (some a) r := by
 intro C F σ H Q a' S e k
 cases e
 exact k v F H (Ext.refl S.sub) (h F)
theorem ah {n:Int}:EV Γ (tC (.int n)) (some n) rInt := ev_c fun _ => rfl
theorem g7 {b:Bool}:EV Γ (tC (.bl b)) (some b) aM := ev_c fun _ => rfl
theorem ev_none:EV Γ (tC .non) (some none) (rOp r) := ev_c fun _ => rfl
theorem EV.cast {t:TE} {o o':Option α} (h:EV Γ t o r) (e:o' = o):EV Γ t o' r := e ▸ h
theorem ev_some {t:TE} (h:EV Γ t oa r):EV Γ t (oa.bind fun a => some (some a)) (rOp r) := by
 intro C F σ H Q a' S e k
 refine oq12 (a9 e) fun a e1 e2 => ?_
 cases e2
 exact h C F σ H Q a S e1 k
theorem ev_get {t:TE} {o:Option (Option α)} (h:EV Γ t o (rOp r)):EV Γ t (o.bind fun a => a) r := by
 intro C F σ H Q a' S e k
 refine oq12 (a9 e) fun a e1 e2 => ?_
 subst e2
 exact h C F σ H Q _ S e1 k
theorem EV.two {C:Fc} {F H:Hp} {σ:St} {a:α} {b:β} {q:V → V → Hp → Prop} (ha:EV Γ ta oa r) (hb:EV Γ tb ob s) (S:SR C F Γ σ H) (e1:oa = some a) (e2:ob = some b)
  (k:∀ x y F' H', Ext F H F' H' → r.rel F' x a → s.rel F' y b → q x y H'):ta σ H fun x H1 => tb σ H1 fun y H2 => q x y H2 :=
 ha C F σ H _ a S e1 fun x F1 H1 x1 r1 => hb C F1 σ H1 _ b (S.grow x1) e2 fun y F2 H2 x2 r2 => k x y F2 H2 (x1.trans x2) (r.mono x2.ff r1) r2
theorem gU {R:R2} {f:α → β → Option γ} {t:Rp γ} (hR:∀ F H x y a b c Q, Same F H → r.rel F x a → s.rel F y b → f a b = some c → (∀ v, t.rel F v c → Q v H) → R x y H Q) (ha:EV Γ ta oa r) (hb:EV Γ tb ob s) :
  EV Γ (tOp R ta tb) (oa.bind fun a => ob.bind fun b => f a b) t := by
 intro C F σ H Q c S e k
 refine oq12 (a9 e) fun a e1 e => ?_
 refine oq12 (a9 e) fun b e2 e3 => ?_
 exact EV.two ha hb S e1 e2 fun x y F' H' x1 r1 r2 => hR F' H' x y a b c _ x1.sub r1 r2 e3 fun v rv => k v F' H' x1 rv
theorem ev_i0 {g:Int → Int → V} {f:Int → Int → γ} {t:Rp γ} {ox oy:Option Int} (hg:∀ H i j, t.rel H (g i j) (f i j)) (ha:EV Γ ta ox rInt) (hb:EV Γ tb oy rInt):EV Γ (tOp (rI0 g) ta tb) (ox.bind fun a => oy.bind fun b => some (f a b)) t :=
 gU (fun F H x y a b c Q _ r1 r2 e k => by cases e; exact ⟨a, b, r1, r2, k _ (hg F a b)⟩) ha hb
theorem ev_i {Cn:Int → Int → Prop} {g:Int → Int → V} {f:Int → Int → Option γ} {t:Rp γ} {ox oy:Option Int} (hg:∀ H i j c, f i j = some c → Cn i j ∧ t.rel H (g i j) c) (ha:EV Γ ta ox rInt) (hb:EV Γ tb oy rInt) :
  EV Γ (tOp (rI Cn g) ta tb) (ox.bind fun a => oy.bind fun b => f a b) t :=
 gU (fun F H x y a b c Q _ r1 r2 e k => by refine oq02 (hg F a b c e) fun h1 h2 => ?_; exact ⟨a, b, r1, r2, h1, k _ h2⟩) ha hb
section
variable {ox oy oz:Option Int}
theorem aO (ha:EV Γ ta ox rInt) (hb:EV Γ tb oy rInt):EV Γ (tOp (rI0 fun i j => .int (i + j)) ta tb) (ox.bind fun a => oy.bind fun b => some (a + b)) rInt := ev_i0 (fun _ _ _ => rfl) ha hb
theorem fK (ha:EV Γ ta ox rInt) (hb:EV Γ tb oy rInt):EV Γ (tOp (rI0 fun i j => .int (i - j)) ta tb) (ox.bind fun a => oy.bind fun b => some (a - b)) rInt := ev_i0 (fun _ _ _ => rfl) ha hb
theorem ev_lt (ha:EV Γ ta ox rInt) (hb:EV Γ tb oy rInt):EV Γ (tOp (rI0 fun i j => .bl (decide (i < j))) ta tb) (ox.bind fun a => oy.bind fun b => some (decide (a < b))) aM := ev_i0 (fun _ _ _ => rfl) ha hb
theorem dm (ha:EV Γ ta ox rInt) (hb:EV Γ tb oy rInt):EV Γ (tOp (rI CMul fun i j => .int (i * j)) ta tb) (ox.bind fun a => oy.bind fun b => Pu.mul a b) rInt := ev_i (fun _ i j c e => by
 unfold Pu.mul at e
 split at e
 ·rename_i h; cases e; exact ⟨h, rfl⟩
 ·cases e) ha hb
theorem gW (ha:EV Γ ta ox rInt) (hb:EV Γ tb oy rInt):EV Γ (tOp (rI (fun _ j => 0 < j) fun i j => .int (i % j)) ta tb) (ox.bind fun a => oy.bind fun b => Pu.fmod a b) rInt := ev_i (fun _ i j c e => by
 unfold Pu.fmod at e
 split at e
 ·rename_i h; cases e; exact ⟨h, rfl⟩
 ·cases e) ha hb
theorem dI (ha:EV Γ ta ox rInt) (hb:EV Γ tb oy rInt):EV Γ (tOp (rI (fun _ j => 0 < j ∧ j < 2 ^ 64) fun i j => .int (i / j)) ta tb) (ox.bind fun a => oy.bind fun b => Pu.fdiv a b) rInt := ev_i (fun _ i j c e => by
 unfold Pu.fdiv at e
 split at e
 ·rename_i h; cases e; exact ⟨h, rfl⟩
 ·cases e) ha hb
theorem ev_pow (ha:EV Γ ta ox rInt) (hb:EV Γ tb oy rInt):EV Γ (tOp (rI CPow fun i j => .int (i ^ j.toNat)) ta tb) (ox.bind fun a => oy.bind fun b => Pu.pow a b) rInt := ev_i (fun _ i j c e => by
 unfold Pu.pow at e
 split at e
 ·rename_i h; cases e; exact ⟨h, rfl⟩
 ·cases e) ha hb
theorem ev_neg (ha:EV Γ ta ox rInt):EV Γ (tUn (rU fun i => .int (-i)) ta) (ox.bind fun a => some (-a)) rInt := by
 intro C F σ H Q c S e k
 refine oq12 (a9 e) fun a e1 e => ?_
 cases e
 exact ha C F σ H _ a S e1 fun v F' H' x1 r1 => ⟨a, r1, k _ F' H' x1 rfl⟩
end
theorem d5 {f:α → β → Bool} (hf:∀ H x y a b, r.rel H x a → s.rel H y b → scal x y = true ∧ decide (x = y) = f a b) (ha:EV Γ ta oa r) (hb:EV Γ tb ob s):EV Γ (tOp rEq ta tb) (oa.bind fun a => ob.bind fun b => some (f a b)) aM :=
 gU (fun F H x y a b c Q _ r1 r2 e k => by cases e; refine oq02 (hf F x y a b r1 r2) fun h1 h2 => ?_; exact ⟨h1, by rw [h2]; exact k _ rfl⟩) ha hb
theorem fL {f:α → β → Bool} (hf:∀ H x y a b, r.rel H x a → s.rel H y b → scal x y = true ∧ decide (x = y) = f a b) (ha:EV Γ ta oa r) (hb:EV Γ tb ob s):EV Γ (tOp rNe ta tb) (oa.bind fun a => ob.bind fun b => some (!f a b)) aM :=
 gU (fun F H x y a b c Q _ r1 r2 e k => by cases e; refine oq02 (hf F x y a b r1 r2) fun h1 h2 => ?_; exact ⟨h1, by rw [h2]; exact k _ rfl⟩) ha hb
theorem cV (H:Hp) (x y:V) (a b:Int) (h1:rInt.rel H x a) (h2:rInt.rel H y b):scal x y = true ∧ decide (x = y) = decide (a = b) := by
 cases h1; cases h2; exact ⟨rfl, by rw [Bool.eq_iff_iff]; simp⟩
theorem sc_bb (H:Hp) (x y:V) (a b:Bool) (h1:aM.rel H x a) (h2:aM.rel H y b):scal x y = true ∧ decide (x = y) = decide (a = b) := by
 cases h1; cases h2; exact ⟨rfl, by rw [Bool.eq_iff_iff]; simp⟩
theorem sc_oo (H:Hp) (x y:V) (a b:Option Int) (h1:(rOp rInt).rel H x a) (h2:(rOp rInt).rel H y b):scal x y = true ∧ decide (x = y) = decide (a = b) := by
 cases a with
 | none =>
  cases h1
  cases b with
  | none => cases h2; exact ⟨rfl, by rw [Bool.eq_iff_iff]; simp⟩
  | some i => cases h2; exact ⟨rfl, by rw [Bool.eq_iff_iff]; simp⟩
 | some j =>
  cases h1
  cases b with
  | none => cases h2; exact ⟨rfl, by rw [Bool.eq_iff_iff]; simp⟩
  | some i => cases h2; exact ⟨rfl, by rw [Bool.eq_iff_iff]; simp⟩
theorem lT {o:Option (Option α)} (ha:EV Γ ta o (rOp r)) (hr:∀ F a, ¬ r.rel F .non a):EV Γ (tOp (fun x y H Q => y = .non ∧ Q (.bl (decide (x = .non))) H) ta (tC .non)) (o.bind fun a => some a.isNone) aM := by
 intro C F σ H Q c S e k
 refine oq12 (a9 e) fun a e1 e => ?_
 cases e
 refine ha C F σ H _ a S e1 fun v F' H' x1 r1 => ⟨rfl, ?_⟩
 have:decide (v = .non) = a.isNone := by
  cases a with
  | none => cases r1; rfl
  | some x => exact decide_eq_false fun z => hr F' x (by subst z; exact r1)
 rw [this]; exact k _ F' H' x1 rfl
theorem lV (F:Hp) (a:Int):¬ rInt.rel F .non a := fun h => nomatch h
theorem ev_chain {g g':Int → Int → Bool} {ox oy oz:Option Int} (ha:EV Γ ta ox rInt) (hb:EV Γ tb oy rInt) (hc:EV Γ tc oz rInt) :
  EV Γ (jd (rI0 fun i j => .bl (g i j)) (rI0 fun i j => .bl (g' i j)) ta tb tc) (ox.bind fun a => oy.bind fun b => if g a b = true then oz.bind fun c => some (g' b c) else some false) aM := by
 intro C F σ H Q d S e k
 refine oq12 (a9 e) fun a e1 e => ?_
 refine oq12 (a9 e) fun b e2 e => ?_
 refine EV.two ha hb S e1 e2 fun x y F' H' x1 r1 r2 => ⟨a, b, r1, r2, g a b, rfl, ?_⟩
 by_cases h:g a b = true
 ·rw [if_pos h] at e ⊢
  refine oq12 (a9 e) fun c e3 e => ?_
  cases e
  exact hc C F' σ H' _ c (S.grow x1) e3 fun z F2 H2 x2 r3 => ⟨b, c, r2, r3, k _ F2 H2 (x1.trans x2) rfl⟩
 ·rw [if_neg h] at e ⊢
  cases e
  exact k _ F' H' x1 rfl
section
variable {t u:TT} {o o':Option Bool}
theorem c6 (h:EV Γ ta o aM):ET Γ (tTest ta) o := fun C F σ H Q b S e k => h C F σ H _ b S e fun v F' H' x1 r1 => (oi12 b r1 (k F' H' x1))
theorem et_b (h:EV Γ ta o aM):ET Γ (tB ta) o := fun C F σ H Q b S e k => h C F σ H _ b S e fun v F' H' x1 r1 => (oi12 b r1 (k F' H' x1))
theorem et_and (h:ET Γ t o) (h':ET Γ u o'):ET Γ (tAnd t u) (o.bind fun b => if b = true then o' else some false) := by
 intro C F σ H Q d S e k
 refine oq12 (a9 e) fun a e1 e => ?_
 refine h C F σ H _ a S e1 fun F' H' x1 => ?_
 cases a with
 | true => exact h' C F' σ H' _ d (S.grow x1) e fun F2 H2 x2 => k F2 H2 (x1.trans x2)
 | false => cases e; exact k F' H' x1
theorem et_or (h:ET Γ t o) (h':ET Γ u o'):ET Γ (tOr t u) (o.bind fun b => if b = true then some true else o') := by
 intro C F σ H Q d S e k
 refine oq12 (a9 e) fun a e1 e => ?_
 refine h C F σ H _ a S e1 fun F' H' x1 => ?_
 cases a with
 | true => cases e; exact k F' H' x1
 | false => exact h' C F' σ H' _ d (S.grow x1) e fun F2 H2 x2 => k F2 H2 (x1.trans x2)
theorem eA (h:ET Γ t o):ET Γ (tNot t) (o.bind fun b => some (!b)) := by
 intro C F σ H Q d S e k
 refine oq12 (a9 e) fun a e1 e => ?_
 cases e
 exact h C F σ H _ a S e1 fun F' H' x1 => k F' H' x1
theorem et_true:ET Γ tTrue (some true) := fun C F σ H Q b S e k => by cases e; exact k F H (Ext.refl S.sub)
theorem et_truL {rl:Rp (List α)} {ol:Option (List α)} (sq:Sq K rl r) (h:EV Γ ta ol rl):ET Γ (tTru K ta) (ol.bind fun xs => some (!xs.isEmpty)) := by
 intro C F σ H Q d S e k
 refine oq12 (a9 e) fun a e1 e => ?_
 cases e
 refine h C F σ H _ a S e1 fun v F' H' x1 hv => ?_
 refine oq23 (sq.get hv) fun p vs e2 h2 h3 => ?_
 refine (oi12 (!vs.isEmpty) ?_ ?_)
 ·subst e2; exact .inl (oi12 vs (x1.sub.seq h2) rfl)
 ·have:(!vs.isEmpty) = !a.isEmpty := by cases h3 <;> rfl
  rw [this]; exact k F' H' x1
theorem ev_not (h:EV Γ ta o aM):EV Γ (tNotV ta) (o.bind fun b => some (!b)) aM := by
 intro C F σ H Q d S e k
 refine oq12 (a9 e) fun a e1 e => ?_
 cases e
 exact h C F σ H _ a S e1 fun v F' H' x1 r1 => (oi12 a r1 (k _ F' H' x1 rfl))
theorem ev_and (h:EV Γ ta o aM) (h':EV Γ tb o' aM):EV Γ (tAndV ta tb) (o.bind fun b => if b = true then o' else some false) aM := by
 intro C F σ H Q d S e k
 refine oq12 (a9 e) fun a e1 e => ?_
 refine h C F σ H _ a S e1 fun v F' H' x1 r1 => (oi12 a r1 ?_)
 cases a with
 | true => exact h' C F' σ H' _ d (S.grow x1) e fun w F2 H2 x2 r2 => k w F2 H2 (x1.trans x2) r2
 | false => cases e; exact k _ F' H' x1 rfl
theorem lW {oa':Option α} (ht:ET Γ t o) (ha:EV Γ ta oa r) (hb:EV Γ tb oa' r):EV Γ (tIf t ta tb) (o.bind fun b => if b = true then oa else oa') r := by
 intro C F σ H Q d S e k
 refine oq12 (a9 e) fun a e1 e => ?_
 refine ht C F σ H _ a S e1 fun F' H' x1 => ?_
 cases a with
 | true => exact ha C F' σ H' _ d (S.grow x1) e fun w F2 H2 x2 r2 => k w F2 H2 (x1.trans x2) r2
 | false => exact hb C F' σ H' _ d (S.grow x1) e fun w F2 H2 x2 r2 => k w F2 H2 (x1.trans x2) r2
end
end
end L2
namespace L2
open PySem PySem.Spec PyProof.Rows
variable [Kon]
theorem lX {α:Type} {r:V → α → Prop} {vs:List V} {xs:List α} {i:Int} {a:α} (p:Paired r vs xs) (h:atI xs i = some a):∃ v, atI vs i = some v ∧ r v a := by
 unfold atI at h ⊢
 rw [p.length]
 refine oq12 (a9 h) fun j e1 e2 => ?_
 refine oq12 (bu p e2) fun v h1 h2 => ?_
 exact (oi12 v (by rw [e1]; exact h1) h2)
theorem lY {α:Type} {r:V → α → Prop} {vs:List V} {xs:List α} {lo hi:Option Int} (p:Paired r vs xs):Paired r (cutV vs lo hi) (Pu.cut xs lo hi) := by
 unfold cutV Pu.cut
 rw [p.length]
 exact Paired.takeB _ (Paired.dropB _ p)
theorem g8 {α:Type} {r:Rp α} {F:Hp} {k:Int}:∀ {ws:List (Key × V)} {kvs:List (Int × α)}, Paired (dRel r F) ws kvs → (∀ a, Pu.find kvs k = some a → ∃ v, valV ws (.inl k) = some v ∧ r.rel F v a) ∧ (Pu.find kvs k = none → valV ws (.inl k) = none)
 | _, _, .nil => ⟨fun a h => (nomatch h), fun _ => rfl⟩
 | w :: ws, kv :: kvs, .cons h t => by
  refine oq02 h fun e1 e2 => ?_
  by_cases q:kv.1 = k
  ·have e3:w.1 = Sum.inl k := by rw [e1, q]
   have ef:Pu.find (kv :: kvs) k = some kv.2 := by unfold Pu.find; rw [List.find?_cons_of_pos (by simpa using q)]; rfl
   rw [ef, di e3]
   exact ⟨fun a h => by cases h; exact (oi12 _ rfl e2), fun h => (nomatch h)⟩
  ·have e3:¬ w.1 = Sum.inl k := by rw [e1]; intro z; exact q (Sum.inl.inj z)
   have ef:Pu.find (kv :: kvs) k = Pu.find kvs k := by unfold Pu.find; rw [List.find?_cons_of_neg (by simpa using q)]
   rw [ef, dj e3]
   exact g8 t
theorem Paired.mapB {α β α' β':Type} {F:α → β → Prop} {G:α' → β' → Prop} {f:α → α'} {g:β → β'} (h:∀ a b, F a b → G (f a) (g b)):∀ {l:List α} {m:List β}, Paired F l m → Paired G (l.map f) (m.map g)
 | _, _, .nil => .nil
 | _, _, .cons r t => .cons (h _ _ r) (Paired.mapB h t)
theorem gX {α:Type} {r:Rp α} {F:Hp} {k:Int}:∀ {ws:List (Key × V)} {kvs:List (Int × α)}, Paired (dRel r F) ws kvs → (ws.any fun kv => decide (kv.1 = Sum.inl k)) = kvs.any fun kv => decide (kv.1 = k)
 | _, _, .nil => rfl
 | w :: ws, kv :: kvs, .cons h t => by
  rw [List.any_cons, List.any_cons, gX t, h.1]
  congr 1
  rw [Bool.eq_iff_iff]; simp
theorem lZ {α:Type} {r:Rp α} {F:Hp} {k:Int} {v:V} {a:α} (hv:r.rel F v a) {ws:List (Key × V)} {kvs:List (Int × α)} (p:Paired (dRel r F) ws kvs):Paired (dRel r F) (putK ws (.inl k) v) (Pu.put kvs k a) := by
 unfold putK Pu.put
 rw [gX p]
 split
 ·refine Paired.mapB (fun w kv h => ?_) p
  by_cases q:kv.1 = k
  ·rw [if_pos q, if_pos (by rw [h.1, q])]; exact ⟨h.1, hv⟩
  ·rw [if_neg q, if_neg (by rw [h.1]; intro z; exact q (Sum.inl.inj z))]; exact h
 ·exact Paired.app p (.cons ⟨rfl, hv⟩ .nil)
section
variable {X:Cx} {K:PySem.W.Frag}
noncomputable def rCatS:R2 := fun x y H Q => ∃ l b xs zs, x = .ref l ∧ y = .ref b ∧ Rd H l (.lst xs) ∧ Rd H b (.lst zs) ∧ xs.length + zs.length ≤ sizeLine ∧ ∀ p, H p = none → Q (.ref p) (upd H p (.lst (xs ++ zs)))
theorem op_catS:OpR X (binaryOp .Add) rCatS := by
 intro pins s σ H x y v u Q I rx ry h
 refine oq46 h fun l b xs zs eq4_ eq5_ hH hB hz q => ?_; subst eq4_; subst eq5_
 cases rx
 cases ry
 refine oq02 ((show aG X.prog X.w H s.heap l (.lst xs) from hH.ok I.hok)) fun z zz => oq22 zz fun its n r e => ?_
 refine oq02 ((show aG X.prog X.w H s.heap b (.lst zs) from hB.ok I.hok)) fun z2 zz => oq22 zz fun its2 n2 r2 e2 => ?_
 have hl := r.length
 have hl2 := r2.length
 refine PySem.P.add_list e e2 ?_ (by rw [List.size_toArray, List.size_toArray]; omega)
 have ea:its.toArray ++ its2.toArray = (its ++ its2).toArray := by simp
 rw [ea]
 exact ⟨.ref _, _, I.lnew (t' := s.toks) (r.append r2) (by rw [List.length_append]; omega), rfl, q _ I.fresh⟩
end
section
variable (Γ:List Slot) {α τ:Type}
noncomputable def EVs (n:Nat) (t:TA) (o:Option (List α)) (r:Rp α):Prop := ∀ C F σ H Q xs, SR C F Γ σ H → o = some xs → (∀ vs F' H', Ext F H F' H' → vs.length = n → Paired (r.rel F') vs xs → Q vs H') → t σ H Q
structure RpA (τ:Type) where
 rel:Hp → List V → τ → Prop
 mono:∀ {H H':Hp} {vs:List V} {a:τ}, Same H H' → rel H vs a → rel H' vs a
 slots:τ → List Slot
 ok:∀ {F:Hp} {vs:List V} {a:τ}, rel F vs a → vs.length = (slots a).length ∧ ∀ (i:Nat) s, (slots a)[i]? = some s → s.own = false ∧ ∃ v, vs[i]? = some v ∧ ∀ H0 H, SlOk H0 F H s (some v)
noncomputable def aOne {α:Type} (r:Rp α):RpA α := ⟨fun H vs a => ∃ v, vs = [v] ∧ r.rel H v a, fun e zq => oq12 zq fun v h1 h2 => (oi12 v h1 (r.mono e h2)), fun a => [.fr r a], fun {F vs a} ⟨v, h1, h2⟩ => by
 subst h1
 refine ⟨rfl, fun i s h => ?_⟩
 match i, h with
 | 0, h => cases h; exact ⟨rfl, v, rfl, fun _ _ => ⟨v, rfl, h2⟩⟩
 | i + 1, h => simp at h⟩
noncomputable def aq {α τ:Type} (r:Rp α) (ra:RpA τ):RpA (α × τ) := ⟨fun H vs a => ∃ v ws, vs = v :: ws ∧ r.rel H v a.1 ∧ ra.rel H ws a.2, fun e zq => oq23 zq fun v ws h1 h2 h3 => (oi23 v ws h1 (r.mono e h2) (ra.mono e h3)), fun a => .fr r a.1 :: ra.slots a.2, fun {F vs a} ⟨v, ws, h1, h2, h3⟩ => by
 subst h1
 refine oq02 (ra.ok h3) fun l g => ?_
 refine ⟨by simp [l], fun i s h => ?_⟩
 match i, h with
 | 0, h => cases h; exact ⟨rfl, v, rfl, fun _ _ => ⟨v, rfl, h2⟩⟩
 | i + 1, h => exact g i s (by simpa using h)⟩
noncomputable def EA (t:TA) (o:Option τ) (ra:RpA τ):Prop := ∀ C F σ H Q a, SR C F Γ σ H → o = some a → (∀ vs F' H', Ext F H F' H' → ra.rel F' vs a → Q vs H') → t σ H Q
noncomputable def spV {γ:Type} (ra:RpA τ) (r:Rp γ) (f:τ → Option γ):Sp := fun vs H Q _ => ∃ F a c, Same F H ∧ NT F ∧ TbG H ∧ ra.rel F vs a ∧ f a = some c ∧ ∀ v F' H', Ext F H F' H' → r.rel F' v c → Q v H'
noncomputable def spL {γ:Type} (ra:RpA τ) (r:Rp γ) (f:τ → Option (List γ)):Sp := fun vs H Q _ => ∃ F a xs, Same F H ∧ NT F ∧ TbG H ∧ ra.rel F vs a ∧ f a = some xs ∧ ∀ p vs F' H1, Ext F H F' H1 → H1 p = none → Paired (r.rel F') vs xs → Q (.ref p) (upd H1 p (.lst vs))
end
section
variable {Γ:List Slot} {α β γ δ τ:Type} {r:Rp α} {s:Rp β} {q:Rp γ} {ta tb tc td:TE} {oa:Option α} {ob:Option β} {oc:Option γ} {K:PySem.W.Frag} {t:TA} {ra:RpA τ} {oτ:Option τ} {oi:Option Int}
theorem aw (h:EV Γ ta oa r):EA Γ (aH ta tNil) oa (aOne r) := fun C F σ H Q a S e k => h C F σ H _ a S e fun v F' H' x1 r1 => k _ F' H' x1 ⟨v, rfl, r1⟩
theorem am (h:EV Γ ta oa r) (h':EA Γ t oτ ra):EA Γ (aH ta t) (oa.bind fun a => oτ.bind fun b => some (a, b)) (aq r ra) := by
 intro C F σ H Q c S e k
 refine oq12 (a9 e) fun a e1 e => ?_
 refine oq12 (a9 e) fun b e2 e => ?_
 cases e
 exact h C F σ H _ a S e1 fun v F' H' x1 r1 => h' C F' σ H' _ b (S.grow x1) e2 fun vs F2 H2 x2 r2 => k _ F2 H2 (x1.trans x2) ⟨v, vs, rfl, r.mono x2.ff r1, r2⟩
theorem aE {f:τ → Option γ} (h:EA Γ t oτ ra):EV Γ (tCall (spV ra q f) [] E0 t) (oτ.bind f) q := by
 intro C F σ H Q c S e k
 refine oq12 (a9 e) fun a e1 e => ?_
 exact h C F σ H _ a S e1 fun vs F' H' x1 r1 => ⟨F', a, c, x1.sub, x1.nt S.nt, x1.hh.tg S.tg, by rw [List.append_nil]; exact r1, e, fun v F2 H2 x2 r2 => k v F2 H2 (x1.trans x2) r2⟩
theorem aJ {f:τ → Option (List γ)} (h:EA Γ t oτ ra):EVL Γ (tCall (spL ra q f) [] E0 t) (oτ.bind f) q := by
 intro C F σ H Q c S e k
 refine oq12 (a9 e) fun a e1 e => ?_
 exact h C F σ H _ a S e1 fun vs F' H' x1 r1 => ⟨F', a, c, x1.sub, x1.nt S.nt, x1.hh.tg S.tg, by rw [List.append_nil]; exact r1, e, fun p ws F2 H2 x2 hp r2 => k p ws F2 H2 (x1.trans x2) hp r2⟩
theorem EVL.ev {o:Option (List α)} (h:EVL Γ ta o r):EV Γ ta o (rL r) := fun C F σ H Q xs S e k => h C F σ H Q xs S e fun p vs F' H1 x1 hp r1 =>
 k _ _ _ (x1.trans (Ext.new x1.sub hp)) ⟨p, vs, rfl, Rd.of ai, Paired.imp2 (fun _ _ z => r.mono (aB (x1.sub.free hp)) z) r1⟩
theorem ev_tup1 (ha:EV Γ ta oa r):EV Γ (tTup (aH ta tNil)) oa (rT1 r) := by
 intro C F σ H Q a S e1 k
 exact ha C F σ H _ a S e1 fun x F' H' x1 r1 => ⟨by show 1 ≤ sizeLine; decide, fun p hp => k _ _ _ (x1.trans (Ext.new x1.sub hp)) ⟨p, x, rfl, ai, r.mono (aB (x1.sub.free hp)) r1⟩⟩
theorem eQ (ha:EV Γ ta oa r) (hb:EV Γ tb ob s):EV Γ (tTup (aH ta (aH tb tNil))) (oa.bind fun a => ob.bind fun b => some (a, b)) (rT2 r s) := by
 intro C F σ H Q c S e k
 refine oq12 (a9 e) fun a e1 e => ?_
 refine oq12 (a9 e) fun b e2 e => ?_
 cases e
 exact EV.two (q := fun x y H2 => [x, y].length ≤ sizeLine ∧ ∀ p, H2 p = none → Q (.ref p) (upd H2 p (.tup [x, y]))) ha hb S e1 e2 fun x y F' H' x1 r1 r2 => ⟨by show 2 ≤ sizeLine; decide, fun p hp => k _ _ _ (x1.trans (Ext.new x1.sub hp)) ⟨p, x, y, rfl, ai, r.mono (aB (x1.sub.free hp)) r1, s.mono (aB (x1.sub.free hp)) r2⟩⟩
theorem jq (ha:EV Γ ta oa r) (hb:EV Γ tb ob s) (hc:EV Γ tc oc q):EV Γ (tTup (aH ta (aH tb (aH tc tNil)))) (oa.bind fun a => ob.bind fun b => oc.bind fun c => some (a, b, c)) (rT3 r s q) := by
 intro C F σ H Q c S e k
 refine oq12 (a9 e) fun a e1 e => ?_
 refine oq12 (a9 e) fun b e2 e => ?_
 refine oq12 (a9 e) fun c e3 e => ?_
 cases e
 refine EV.two (q := fun x y H2 => tc σ H2 fun z H3 => [x, y, z].length ≤ sizeLine ∧ ∀ p, H3 p = none → Q (.ref p) (upd H3 p (.tup [x, y, z]))) ha hb S e1 e2 fun x y F' H' x1 r1 r2 => ?_
 refine hc C F' σ H' _ c (S.grow x1) e3 fun z F2 H2 x2 r3 => ⟨by show 3 ≤ sizeLine; decide, fun p hp => ?_⟩
 have e := aB (o := .tup [x, y, z]) (x2.sub.free hp)
 exact k _ _ _ ((x1.trans x2).trans (Ext.new x2.sub hp)) ⟨p, x, y, z, rfl, ai, r.mono (x2.ff.trans e) r1, s.mono (x2.ff.trans e) r2, q.mono e r3⟩
theorem tup_ix {n:Int} {T:Type} {u:Rp T} {o:Option T} (get:T → γ) (h:EV Γ ta o u) (hg:∀ F H v a Q, Same F H → u.rel F v a → (∀ w, q.rel F w (get a) → Q w H) → rIxT K v (.int n) H Q):EV Γ (tOp (rIxT K) ta (tC (.int n))) (o.bind fun p => some (get p)) q := by
 intro C F σ H Q c S e k
 refine oq12 (a9 e) fun a e1 e => ?_
 cases e
 exact h C F σ H _ a S e1 fun v F' H' x1 r1 => hg F' H' v a _ x1.sub r1 fun w rw => k w F' H' x1 rw
theorem jr {o:Option (α × β)} (h:EV Γ ta o (rT2 r s)):EV Γ (tOp (rIxT K) ta (tC (.int 0))) (o.bind fun p => some p.1) r := tup_ix (·.1) h fun F H v a Q sb ⟨p, x, y, e, h1, h2, h3⟩ k => ⟨p, _, _, x, e, rfl, SqT.of (sb _ _ h1), rfl, k x h2⟩
theorem cH {o:Option (α × β)} (h:EV Γ ta o (rT2 r s)):EV Γ (tOp (rIxT K) ta (tC (.int 1))) (o.bind fun p => some p.2) s := tup_ix (·.2) h fun F H v a Q sb ⟨p, x, y, e, h1, h2, h3⟩ k => ⟨p, _, _, y, e, rfl, SqT.of (sb _ _ h1), rfl, k y h3⟩
theorem bM:EVs Γ 0 tNil (some []) r := fun C F σ H Q xs S e k => by cases e; exact k [] F H (Ext.refl S.sub) rfl .nil
theorem aQ {n:Nat} {o:Option (List α)} (h:EV Γ ta oa r) (h':EVs Γ n t o r):EVs Γ (n + 1) (aH ta t) (oa.bind fun a => o.bind fun b => some (a :: b)) r := by
 intro C F σ H Q c S e k
 refine oq12 (a9 e) fun a e1 e => ?_
 refine oq12 (a9 e) fun b e2 e => ?_
 cases e
 exact h C F σ H _ a S e1 fun v F' H' x1 r1 => h' C F' σ H' _ b (S.grow x1) e2 fun vs F2 H2 x2 l r2 => k _ F2 H2 (x1.trans x2) (by simp [l]) (.cons (r.mono x2.ff r1) r2)
theorem bN {n:Nat} {o:Option (List α)} (h:EVs Γ n t o r) (hn:n ≤ 16777216 := by decide):EVL Γ (tLst t) o r := fun C F σ H Q xs S e k => h C F σ H _ xs S e fun vs F' H' x1 l r1 => ⟨by rw [l, sizeLine_eq]; exact hn, fun p hp => k p vs F' H' x1 hp r1⟩
theorem bn {rl:Rp (List α)} {o:Option (List α)} (sq:Sq K rl r) (h:EV Γ ta o rl) (hi:EV Γ tb oi rInt):EV Γ (tOp (rIxL K) ta tb) (o.bind fun xs => oi.bind fun i => Pu.at_ xs i) r :=
 gU (r := rl) (s := rInt) (fun F H x y a b c Q sb hx r2 e3 k => by
  refine oq23 (sq.get hx) fun p vs e h1 h2 => ?_
  refine oq12 (lX h2 e3) fun v h3 h4 => ?_
  exact ⟨p, vs, b, v, e, r2, sb.seq h1, h3, k v h4⟩) h hi
theorem ev_ixD {o:Option (List (Int × α))} (h:EV Γ ta o (rD r)) (hi:EV Γ tb oi rInt):EV Γ (tDGet ta tb) (o.bind fun xs => oi.bind fun i => Pu.find xs i) r := by
 intro C F σ H Q c S e k
 refine oq12 (a9 e) fun a e1 e => ?_
 refine oq12 (a9 e) fun b e2 e => ?_
 refine EV.two (q := fun x y H2 => ∃ a v, x = .ref a ∧ DGet H2 a y (some v) ∧ Q v H2) h hi S e1 e2 fun x y F' H' x1 ⟨p, ws, e3, h1, h2⟩ r2 => ?_
 refine oq12 ((g8 (k := b) h2).1 c e) fun v h3 h4 => ?_
 exact (oi23 p v e3 (.inl (oi23 ws (.inl b) (.inl (x1.sub _ _ h1)) r2 h3.symm)) (k v F' H' x1 h4))
theorem evl_cat {o o':Option (List α)} (h:EV Γ ta o (rL r)) (h':EV Γ tb o' (rL r)):EVL Γ (tOp rCatS ta tb) (o.bind fun xs => o'.bind fun ys => Pu.cat xs ys) r := by
 intro C F σ H Q c S e k
 refine oq12 (a9 e) fun a e1 e => ?_
 refine oq12 (a9 e) fun b e2 e => ?_
 unfold Pu.cat at e
 split at e
 ·rename_i hl
  cases e
  exact EV.two (q := fun x y H2 => rCatS x y H2 Q) h h' S e1 e2 fun x y F' H' x1 ⟨p, vs, e3, h1, h2⟩ ⟨p', vs', e4, h3, h4⟩ => ⟨p, p', vs, vs', e3, e4, x1.sub.rd h1, x1.sub.rd h3, by rw [h2.length, h4.length, sizeLine_eq]; exact hl, fun p hp => k p _ F' H' x1 hp (Paired.app h2 h4)⟩
 ·cases e
theorem eo_some (h:EV Γ ta oi rInt):EO Γ (tPart ta) (oi.bind fun i => some (some i)) := by
 intro C F σ H Q c S e k
 refine oq12 (a9 e) fun a e1 e => ?_
 cases e
 exact h C F σ H _ a S e1 fun v F' H' x1 r1 => (oi12 a r1 (k F' H' x1))
theorem evl_cut {rl:Rp (List α)} {o:Option (List α)} {tl th:TO} {ol oh:Option (Option Int)} (sq:Sq K rl r) (h:EV Γ ta o rl) (h1:EO Γ tl ol) (h2:EO Γ th oh):EVL Γ (tSl (rSlL K) ta tl th) (o.bind fun xs => ol.bind fun lo => oh.bind fun hi => some (Pu.cut xs lo hi)) r := by
 intro C F σ H Q c S e k
 refine oq12 (a9 e) fun a e1 e => ?_
 refine oq12 (a9 e) fun lo e2 e => ?_
 refine oq12 (a9 e) fun hi e3 e => ?_
 cases e
 refine h C F σ H _ a S e1 fun x F1 H1 x1 hx => ?_
 refine oq23 (sq.get hx) fun p vs e4 z1 z2 => ?_
 exact h1 C F1 σ H1 _ lo (S.grow x1) e2 fun F2 H2 x2 => h2 C F2 σ H2 _ hi ((S.grow x1).grow x2) e3 fun F3 H3 x3 =>
  ⟨p, vs, e4, x3.sub.seq (x3.ff.seq (x2.ff.seq z1)), fun p hp => k p _ F3 H3 ((x1.trans x2).trans x3) hp (lY (Paired.imp2 (fun _ _ z => r.mono (x2.ff.trans x3.ff) z) z2))⟩
theorem cz {rl:Rp (List α)} {o:Option (List α)} (sq:Sq K rl r) (h:EV Γ ta o rl):EV Γ (tCB (rLen K) (aH ta tNil)) (o.bind fun xs => some (Pu.ln xs)) rInt := by
 intro C F σ H Q c S e k
 refine oq12 (a9 e) fun a e1 e => ?_
 cases e
 refine h C F σ H _ a S e1 fun v F' H' x1 hv => ?_
 refine oq23 (sq.get hv) fun p vs e2 h1 h2 => ?_
 exact ⟨p, vs, by rw [e2], .inl (x1.sub.seq h1), k _ F' H' x1 (by rw [h2.length]; rfl)⟩
theorem evl_list {rl:Rp (List α)} {o:Option (List α)} (sq:Sq K rl r) (h:EV Γ ta o rl):EVL Γ (tCB (jn K) (aH ta tNil)) o r := fun C F σ H Q xs S e k => h C F σ H _ xs S e fun v F' H' x1 hv => by
 refine oq23 (sq.get hv) fun p vs e2 h1 h2 => ?_
 exact ⟨p, vs, by rw [e2], .inl (x1.sub.seq h1), fun l hl => k l vs F' H' x1 hl h2⟩
theorem m5 (h:EV Γ ta oi rInt):EV Γ (tCB (fun xs H Q => ∃ i, xs = [.int i] ∧ Q (.int (if i < 0 then -i else i)) H) (aH ta tNil)) (oi.bind fun i => some (Pu.ab i)) rInt := by
 intro C F σ H Q c S e k
 refine oq12 (a9 e) fun a e1 e => ?_
 cases e
 exact h C F σ H _ a S e1 fun v F' H' x1 r1 => ⟨a, by rw [r1], k _ F' H' x1 rfl⟩
theorem eS {oj:Option Int} (h:EV Γ ta oi rInt) (h':EV Γ tb oj rInt):EV Γ (tCB (fun xs H Q => ∃ i j, xs = [.int i, .int j] ∧ Q (.int (if j < i then j else i)) H) (aH ta (aH tb tNil))) (oi.bind fun i => oj.bind fun j => some (Pu.mn i j)) rInt := by
 intro C F σ H Q c S e k
 refine oq12 (a9 e) fun a e1 e => ?_
 refine oq12 (a9 e) fun b e2 e => ?_
 cases e
 exact EV.two (q := fun x y H2 => ∃ i j, [x, y] = [.int i, .int j] ∧ Q (.int (if j < i then j else i)) H2) h h' S e1 e2 fun x y F' H' x1 r1 r2 => (oi22 a b (by rw [r1, r2]) (k _ F' H' x1 rfl))
theorem eT {oj:Option Int} (h:EV Γ ta oi rInt) (h':EV Γ tb oj rInt):EV Γ (tCB (fun xs H Q => ∃ i j, xs = [.int i, .int j] ∧ Q (.int (if j > i then j else i)) H) (aH ta (aH tb tNil))) (oi.bind fun i => oj.bind fun j => some (Pu.mx i j)) rInt := by
 intro C F σ H Q c S e k
 refine oq12 (a9 e) fun a e1 e => ?_
 refine oq12 (a9 e) fun b e2 e => ?_
 cases e
 exact EV.two (q := fun x y H2 => ∃ i j, [x, y] = [.int i, .int j] ∧ Q (.int (if j > i then j else i)) H2) h h' S e1 e2 fun x y F' H' x1 r1 r2 => (oi22 a b (by rw [r1, r2]) (k _ F' H' x1 rfl))
theorem TyOf.same {F H:Hp} {v:V} {t:Value} (e:Same F H) (h:TyOf K F v t):TyOf K H v t := by
 cases h with
 | non => exact .non
 | bl x => exact .bl x
 | int i => exact .int i
 | str x => exact .str x
 | flt x => exact .flt x
 | lst h => exact .lst (e _ _ h)
 | frz h => exact .frz (e _ _ h)
 | tup h => exact .tup (e _ _ h)
 | dK h => exact .dK (e _ _ h)
 | dT h => exact .dT (e _ _ h)
 | ins h a b c d f => exact .ins (e _ _ h) a b c d f
theorem gY {T:String} {f:α → Bool} (h:EV Γ ta oa r) (hf:∀ F v a, r.rel F v a → ∃ t, TyOf K F v t ∧ PySem.W.kitOne K t (.type T) = some (f a)):EV Γ (tCB (rIsi K T) (aH ta (aH (tC (.ty T)) tNil))) (oa.bind fun a => some (f a)) aM := by
 intro C F σ H Q c S e k
 refine oq12 (a9 e) fun a e1 e => ?_
 cases e
 refine h C F σ H _ a S e1 fun v F' H' x1 r1 => ?_
 refine oq12 (hf F' v a r1) fun t h1 h2 => ?_
 exact ⟨v, t, f a, rfl, h1.same x1.sub, h2, k _ F' H' x1 rfl⟩
theorem js:PySem.W.kitOne K (.type "NoneType") (.type "int") = some false := by with_unfolding_all rfl
theorem iF:PySem.W.kitOne K (.type "NoneType") (.type "bool") = some false := by with_unfolding_all rfl
theorem isi_oi (F:Hp) (v:V) (a:Option Int) (h:(rOp rInt).rel F v a):∃ t, TyOf K F v t ∧ PySem.W.kitOne K t (.type "int") = some (a.isSome) := by
 cases a with
 | none => cases h; exact (oi12 _ .non js)
 | some i => cases h; exact (oi12 _ (.int i) kr)
theorem isi_ob (F:Hp) (v:V) (a:Option Int) (h:(rOp rInt).rel F v a):∃ t, TyOf K F v t ∧ PySem.W.kitOne K t (.type "bool") = some ((fun _ => false) a) := by
 cases a with
 | none => cases h; exact (oi12 _ .non iF)
 | some i => cases h; exact (oi12 _ (.int i) jm)
theorem isi_ll (F:Hp) (v:V) (a:List α) (h:(rL r).rel F v a):∃ t, TyOf K F v t ∧ PySem.W.kitOne K t (.type "list") = some ((fun _ => true) a) := by
 obtain ⟨p, vs, rfl, (h | ⟨o, h⟩), _⟩ := h
 ·exact (oi12 _ (.lst h) dR)
 ·exact (oi12 _ (.frz h) dR)
theorem isi_t3 (F:Hp) (v:V) (a:α × β × γ) (h:(rT3 r s q).rel F v a):∃ t, TyOf K F v t ∧ PySem.W.kitOne K t (.type "tuple") = some ((fun _ => true) a) := by
 obtain ⟨p, x, y, z, rfl, h, _⟩ := h
 exact (oi12 _ (.tup h) ku)
end
end L2
namespace L2
open PySem PySem.Spec PyProof.Rows
variable [Kon]
section
variable {Γ:List Slot} {α β γ δ τ S T R:Type} {r:Rp α} {s:Rp β} {q:Rp γ} {ta tb tc td:TE} {oa:Option α} {ob:Option β} {K:PySem.W.Frag} {oi:Option Int}
theorem eU {F H F' H':Hp} {p:Addr} {u:HO} (hF:F p = none) (hH:H p = some u) (e:Ext (upd F p u) H F' H') (nu:dg u := by trivial):Ext F H (del F' p) H' ∧ F' p = some u := by
 refine ⟨⟨e.hh, fun b o h => ?_, fun b o h => e.sub b o (c5 h).2, fun b o h => ?_, fun z b ps q => e.nt (gT z nu) b ps (c5 q).2⟩, e.ff p u ai⟩
 ·have n:b ≠ p := ao h hF
  rw [cf n]
  exact e.ff b o (by rw [ac n]; exact h)
 ·refine oq02 (c5 h) fun n h => ?_
  rcases e.nw b o h with z | z
  ·rw [ac n] at z; exact .inl z
  ·exact .inr z
theorem SR.borrow {C:Fc} {F H:Hp} {σ:St} {i:Nat} {φ:Addr → Prop} {xs:List α} (S:SR C F Γ σ H) (hi:Γ[i]? = some (.ol r φ xs)):∃ p vs, F p = none ∧ H p = some (.lst vs) ∧ SR C (upd F p (.lst vs)) (Γ.set i (.fr (rL r) xs)) σ H := by
 refine oq12 (S.at_ i _ hi) fun o h1 zz => oq26 zz fun p vs eq4_ h2 h3 h4 h5 h6 => ?_; subst eq4_
 exact (oi23 p vs h4 h5 (S.freeze hi p _ _ rfl rfl h1 h3 h4 h5 ⟨_, rfl, p, vs, rfl, Rd.of ai, Paired.imp2 (fun _ _ z => Rp.mono _ (aB h4) z) h6⟩ trivial))
theorem SR.borrowD {C:Fc} {F H:Hp} {σ:St} {i:Nat} {φ:Addr → Prop} {kvs:List (Int × α)} (S:SR C F Γ σ H) (hi:Γ[i]? = some (.od r φ kvs)):∃ p ws, F p = none ∧ H p = some (.dK ws) ∧ SR C (upd F p (.dK ws)) (Γ.set i (.fr (rD r) kvs)) σ H := by
 refine oq12 (S.at_ i _ hi) fun o h1 zz => oq26 zz fun p vs eq4_ h2 h3 h4 h5 h6 => ?_; subst eq4_
 exact (oi23 p vs h4 h5 (S.freeze hi p _ _ rfl rfl h1 h3 h4 h5 ⟨_, rfl, p, vs, rfl, ai, Paired.imp2 (fun _ _ z => ⟨z.1, Rp.mono _ (aB h4) z.2⟩) h6⟩ trivial))
noncomputable abbrev brw (Γ:List Slot) (i:Nat) {α:Type} (r:Rp α) (xs:List α):List Slot := Γ.set i (.fr (rL r) xs)
noncomputable abbrev brwD (Γ:List Slot) (i:Nat) {α:Type} (r:Rp α) (kvs:List (Int × α)):List Slot := Γ.set i (.fr (rD r) kvs)
theorem ev_borD {φ:Addr → Prop} {kvs:List (Int × α)} (i:Nat) (hi:Γ[i]? = some (.od r φ kvs)) (fl:Flat s) (h:EV (brwD Γ i r kvs) tb ob s):EV Γ tb ob s := by
 intro C F σ H Q b S e k
 refine oq23 (S.borrowD hi) fun p vs h1 h2 S' => ?_
 refine h C _ σ H Q b S' e fun v F' H' x1 r1 => ?_
 refine oq02 (eU h1 h2 x1) fun x2 h3 => ?_
 exact k v _ H' x2 (fl h3 trivial r1)
theorem evl_borD {φ:Addr → Prop} {kvs:List (Int × α)} {o:Option (List β)} (i:Nat) (hi:Γ[i]? = some (.od r φ kvs)) (fl:Flat s) (h:EVL (brwD Γ i r kvs) tb o s):EVL Γ tb o s := by
 intro C F σ H Q b S e k
 refine oq23 (S.borrowD hi) fun p vs h1 h2 S' => ?_
 refine h C _ σ H Q b S' e fun v ws F' H' x1 hv r1 => ?_
 refine oq02 (eU h1 h2 x1) fun x2 h3 => ?_
 exact k v ws _ H' x2 hv (Paired.imp2 (fun _ _ z => fl h3 trivial z) r1)
theorem et_bor {φ:Addr → Prop} {xs:List α} {t:TT} {o:Option Bool} (i:Nat) (hi:Γ[i]? = some (.ol r φ xs)) (h:ET (brw Γ i r xs) t o):ET Γ t o := by
 intro C F σ H Q b S e k
 refine oq23 (S.borrow hi) fun p vs h1 h2 S' => ?_
 refine h C _ σ H Q b S' e fun F' H' x1 => ?_
 refine oq02 (eU h1 h2 x1) fun x2 h3 => ?_
 exact k _ H' x2
theorem bA {rl:Rp (List α)} {o:Option (List α)} (sq:Sq K rl r) (h:EV Γ ta o rl):IV Γ (iList K ta) o r := fun C F σ H R xs S e k => h C F σ H _ xs S e fun v F' H' x1 hv => by
 refine oq23 (sq.get hv) fun p vs e2 h1 h2 => ?_
 exact (oi13 p e2 ⟨vs, x1.sub.seq h1⟩ (k _ F' H' x1
  ⟨fun i H2 sb hi => ⟨vs, vs[i]'(by rw [h2.length]; exact hi), sb.seq h1, by simp⟩, fun H2 sb => ⟨vs, sb.seq h1, by rw [h2.length]; exact nz6 _⟩, fun i H2 x H3 F1 sb hi ⟨e3, y⟩ s1 s2 => by
    subst e3
    obtain ⟨w, g1, g2⟩ := bu h2 (List.getElem?_eq_getElem hi)
    have ex:x = w := Option.some.inj ((y vs (sb.seq h1)).symm.trans g1)
    subst ex
    exact (oi23 F1 (xs[i]) (List.getElem?_eq_getElem hi) (Ext.refl s2) (r.mono s1 g2))⟩))
theorem gZ {F:Hp} {n:Nat} {f:Nat → Int} {J:It} (hj:J = ⟨fun i _ => i < n, fun i H x H' => H' = H ∧ x = .int (f i), fun i _ => n ≤ i⟩):Walks J F rInt ((List.range n).map f) := by
 subst hj
 refine ⟨fun i H _ hi => by simpa using hi, fun H _ => by simp, fun i H2 x H3 F1 sb hi ⟨e3, y⟩ s1 s2 => ?_⟩
 subst e3 y
 have hi':i < n := by simpa using hi
 exact (oi23 F1 (f i) (by simp [hi']) (Ext.refl s2) rfl)
theorem jt (h:EV Γ ta oi rInt):IV Γ (iRng1 (aH ta tNil)) (oi.bind fun j => Pu.rng1 j) rInt := by
 intro C F σ H R xs S e k
 refine oq12 (a9 e) fun j e1 e => ?_
 unfold Pu.rng1 at e
 split at e
 ·rename_i hb
  cases e
  refine h C F σ H _ j S e1 fun v F' H' x1 r1 => ⟨j, by rw [r1], hb.1, hb.2, k _ F' H' x1 ?_⟩
  refine gZ (f := fun i => (i:Int)) ?_
  unfold Itr
  simp
 ·cases e
theorem iv_rng2 {oj:Option Int} (h:EV Γ ta oi rInt) (h':EV Γ tb oj rInt):IV Γ (iRng2 (aH ta (aH tb tNil))) (oi.bind fun i => oj.bind fun j => Pu.rng2 i j) rInt := by
 intro C F σ H R xs S e k
 refine oq12 (a9 e) fun i e1 e => ?_
 refine oq12 (a9 e) fun j e2 e => ?_
 unfold Pu.rng2 at e
 split at e
 ·rename_i hb
  cases e
  refine EV.two (q := fun x y H2 => ∃ i j:Int, [x, y] = [.int i, .int j] ∧ (-(2 ^ 62) ≤ i ∧ i < 2 ^ 62 ∧ -(2 ^ 62) ≤ j ∧ j < 2 ^ 62) ∧ R (Itr i (j - i).toNat) H2) h h' S e1 e2 fun x y F' H' x1 r1 r2 => (oi23 i j (by rw [r1, r2]) hb (k _ F' H' x1 ?_))
  exact gZ (f := fun k => i + (k:Int)) rfl
 ·cases e
theorem iv_enum {rl:Rp (List α)} {o:Option (List α)} (sq:Sq K rl r) (h:EV Γ ta o rl):IV Γ (iEnum K (aH ta tNil)) (o.bind fun xs => some (Pu.enum xs)) (rT2 rInt r) := by
 intro C F σ H R ys S e k
 refine oq12 (a9 e) fun xs e1 e => ?_
 cases e
 refine h C F σ H _ xs S e1 fun v F' H' x1 hv => ?_
 refine oq23 (sq.get hv) fun p vs e2 h1 h2 => ?_
 refine ⟨p, by rw [e2], ⟨vs, x1.sub.seq h1⟩, k _ F' H' x1 ?_⟩
 have len:(Pu.enum xs).length = vs.length := by unfold Pu.enum; simp [h2.length]
 refine ⟨fun i H2 sb hi => ⟨vs, vs[i]'(by rw [← len]; exact hi), sb.seq h1, by simp⟩, fun H2 sb => ⟨vs, sb.seq h1, by rw [len]; exact nz6 _⟩, fun i H2 x H3 F1 sb hi y s1 s2 => ?_⟩
 refine oq24 y fun t z e4 ht e5 hz => ?_
 subst e4 e5
 have hi':i < xs.length := by rw [← h2.length, ← len]; exact hi
 obtain ⟨w, g1, g2⟩ := bu h2 (List.getElem?_eq_getElem hi')
 have ex:z = w := Option.some.inj ((hz vs (sb.seq h1)).symm.trans g1)
 subst ex
 refine ⟨_, ((i:Int), xs[i]), ?_, Ext.new s2 ht, t, _, _, rfl, ai, rfl, r.mono (s1.trans (aB (s2.free ht))) g2⟩
 unfold Pu.enum
 rw [List.getElem?_map, List.getElem?_zipIdx, List.getElem?_eq_getElem hi']
 simp
theorem iv_zip {o:Option (List α)} {o':Option (List β)} (h:EV Γ ta o (rL r)) (h':EV Γ tb o' (rL s)):IV Γ (iZip K (aH ta (aH tb tNil))) (o.bind fun xs => o'.bind fun ys => some (xs.zip ys)) (rT2 r s) := by
 intro C F σ H R zs S e k
 refine oq12 (a9 e) fun xs e1 e => ?_
 refine oq12 (a9 e) fun ys e2 e => ?_
 cases e
 refine EV.two (q := fun x y H2 => ∃ a b, [x, y] = [.ref a, .ref b] ∧ (∃ xs, SqL K H2 a xs) ∧ (∃ ys, SqL K H2 b ys) ∧ R (Itz K a b) H2) h h' S e1 e2 fun x y F' H' x1 ⟨p, vs, e3, h1, h2⟩ ⟨p', vs', e4, h3, h4⟩ => ⟨p, p', by rw [e3, e4], ⟨vs, .inl (x1.sub.rd h1)⟩, ⟨vs', .inl (x1.sub.rd h3)⟩, k _ F' H' x1 ?_⟩
 have len:(xs.zip ys).length = min vs.length vs'.length := by simp [h2.length, h4.length]
 refine ⟨fun i H2 sb hi => ⟨vs, vs', vs[i]'(by omega), vs'[i]'(by omega), .inl (sb.rd h1), .inl (sb.rd h3), by simp, by simp⟩, fun H2 sb => ⟨vs, vs', .inl (sb.rd h1), .inl (sb.rd h3), by omega⟩, fun i H2 x H3 F1 sb hi y s1 s2 => ?_⟩
 refine oq35 y fun t u z e4 ht e5 hz hz' => ?_
 subst e4 e5
 have hi1:i < xs.length := by rw [← h2.length]; omega
 have hi2:i < ys.length := by rw [← h4.length]; omega
 obtain ⟨w, g1, g2⟩ := bu h2 (List.getElem?_eq_getElem hi1)
 obtain ⟨w', g3, g4⟩ := bu h4 (List.getElem?_eq_getElem hi2)
 have ex:u = w := Option.some.inj ((hz vs (.inl (sb.rd h1))).symm.trans g1)
 have ex':z = w' := Option.some.inj ((hz' vs' (.inl (sb.rd h3))).symm.trans g3)
 subst ex ex'
 have e := s1.trans (aB (o := .tup [u, z]) (s2.free ht))
 refine ⟨_, (xs[i], ys[i]), ?_, Ext.new s2 ht, t, _, _, rfl, ai, r.mono e g2, s.mono e g4⟩
 rw [List.getElem?_zip_eq_some]
 exact ⟨List.getElem?_eq_getElem hi1, List.getElem?_eq_getElem hi2⟩
noncomputable def GV (Γ:List Slot) (m:Nat) (g:TG) (r:Rp α) (Γt:α → List Slot):Prop := ∀ C F σ H v x k, SR C F Γ σ H → r.rel F v x → (∀ σ', SR C F (Γt x) σ' H → ((∀ j, j < m → σ[j]? = some none) → Wk σ σ') → k σ' H) → g v σ H k
theorem Wk.refl:∀ {a:St}, Wk a a
 | [] => trivial
 | none :: r => Wk.refl (a := r)
 | some _ :: r => ⟨rfl, Wk.refl (a := r)⟩
theorem Wk.set:∀ {a b:St} {i:Nat} {v:V}, Wk a b → a[i]? = some none → Wk a (b.set i (some v))
 | [], [], _, _, _, e => by simp at e
 | none :: r, o :: t, 0, v, h, e => h
 | none :: r, o :: t, i + 1, v, h, e => Wk.set (a := r) (b := t) (i := i) h (by simpa using e)
 | some x :: r, o :: t, 0, v, h, e => by simp at e
 | some x :: r, o :: t, i + 1, v, h, e => ⟨h.1, Wk.set (a := r) (b := t) (i := i) h.2 (by simpa using e)⟩
 | [], _ :: _, _, _, h, _ => False.elim h
 | none :: _, [], _, _, h, _ => False.elim h
 | some _ :: _, [], _, _, h, _ => False.elim h
theorem aR (i:Nat):GV Γ (i + 1) (dP i) r (fun x => Γ.set i (.fr r x)) := fun C F σ H v x k S h q => q _ (S.setF i h) fun z => Wk.refl.set (z i (by exact Nat.lt_succ_self _))
theorem gq (i j:Nat):GV Γ (i + j + 1) (gTup K 2 (gCons (dP i) (gCons (dP j) gNil))) (rT2 r s) (fun x => (Γ.set i (.fr r x.1)).set j (.fr s x.2)) := fun C F σ H v x k S ⟨p, a, b, e, h1, h2, h3⟩ q =>
 ⟨p, _, e, SqT.of (S.sub _ _ h1), rfl, a, [b], rfl, b, [], rfl, rfl, q _ ((S.setF i h2).setF j h3) fun z => (Wk.refl.set (z i (by exact Nat.lt_succ_of_le (Nat.le_add_right _ _)))).set (z j (by exact Nat.lt_succ_of_le (Nat.le_add_left _ _)))⟩
noncomputable def csl (loc:List Str) (cap:List (Str × Nat)) (Γ:List Slot):List Slot := loc.map (fun _ => Slot.any) ++ cap.map fun p => (Γ[p.2]?).getD .any
theorem SR.comp {C:Fc} {F H:Hp} {σ:St} {loc:List Str} {cap:List (Str × Nat)} (S:SR C F Γ σ H) (hc:(cap.map (·.2)).Nodup):SR C F (csl loc cap Γ) (st0 loc cap σ) H := by
 have get:∀ (i:Nat) s, (csl loc cap Γ)[i]? = some s → s = .any ∨ ∃ p, loc.length ≤ i ∧ cap[i - loc.length]? = some p ∧ Γ[p.2]? = some s := fun i s h => by
  unfold csl at h
  by_cases hi:i < loc.length
  ·rw [List.getElem?_append_left (by simpa using hi), List.getElem?_map] at h
   cases q:loc[i]? with
   | none => rw [q] at h; cases h
   | some _ => rw [q] at h; cases h; exact .inl rfl
  ·rw [List.getElem?_append_right (by simp; exact Nat.not_lt.mp hi), List.length_map, List.getElem?_map] at h
   cases q:cap[i - loc.length]? with
   | none => rw [q] at h; cases h
   | some p =>
    rw [q] at h
    have h:(Γ[p.2]?).getD .any = s := by simpa using h
    cases q2:Γ[p.2]? with
    | none => rw [q2] at h; exact .inl h.symm
    | some s' => rw [q2] at h; cases h; exact .inr (oi13 p (by exact Nat.not_lt.mp hi) rfl q2)
 have stg:∀ (i:Nat) p, loc.length ≤ i → cap[i - loc.length]? = some p → (st0 loc cap σ)[i]? = some (σ[p.2]?).join := fun i p hi h => by
  unfold st0
  rw [List.getElem?_append_right (by simp; exact hi), List.length_map, List.getElem?_map, h]
  rfl
 refine ⟨S.toFr, by unfold st0 csl; simp, fun i s h => ?_, fun i j s t p h1 h2 o1 o2 e1 e2 => ?_⟩
 ·rcases get i s h with rfl | ⟨p, hi, h1, h2⟩
  ·have:i < (st0 loc cap σ).length := by
    have := (List.getElem?_eq_some_iff.mp h).1
    unfold csl at this; unfold st0
    simpa using this
   exact (oi12 _ (List.getElem?_eq_getElem this) trivial)
  ·refine oq12 (S.at_ _ s h2) fun o h3 h4 => ?_
   exact (oi12 o (by rw [stg i p hi h1, h3]; rfl) h4)
 ·rcases get i s h1 with rfl | ⟨p1, hi1, g1, g2⟩
  ·cases o1
  rcases get j t h2 with rfl | ⟨p2, hi2, g3, g4⟩
  ·cases o2
  have e3:σ[p1.2]? = some (some (.ref p)) := by
   refine oq12 (S.at_ _ s g2) fun o h3 _ => ?_
   rw [stg i p1 hi1 g1, h3] at e1
   rw [h3]; exact e1
  have e4:σ[p2.2]? = some (some (.ref p)) := by
   refine oq12 (S.at_ _ t g4) fun o h3 _ => ?_
   rw [stg j p2 hi2 g3, h3] at e2
   rw [h3]; exact e2
  have e5 := S.inj _ _ s t p g2 g4 o1 o2 e3 e4
  have a1:(cap.map (·.2))[i - loc.length]? = some p1.2 := by rw [List.getElem?_map, g1]; rfl
  have a2:(cap.map (·.2))[j - loc.length]? = some p1.2 := by rw [List.getElem?_map, g3, e5]; rfl
  have l1 := (List.getElem?_eq_some_iff.mp a1).1
  have l2 := (List.getElem?_eq_some_iff.mp a2).1
  have:i - loc.length = j - loc.length := (List.getElem?_inj l1 hc).mp (a1.trans a2.symm)
  omega
end
end L2
namespace Pu
variable {β α:Type} {t:β → Option Bool} {f:β → Option α}
theorem dJ:∀ (l m:List β), bb t f (l ++ m) = (bb t f l).bind fun a => (bb t f m).bind fun b => some (a ++ b)
 | [], m => by cases h:bb t f m <;> simp [bb, h]
 | x :: l, m => by
  rw [List.cons_append, bb, bb, dJ l m]
  cases t x with
  | none => rfl
  | some b =>
   cases b with
   | false => simp
   | true =>
    simp
    cases f x with
    | none => rfl
    | some a =>
     cases h1:bb t f l with
     | none => rfl
     | some as => cases h2:bb t f m <;> simp
theorem fM:∀ {l:List β} {as:List α}, bb t f l = some as → as.length ≤ l.length
 | [], as, h => by cases h; simp
 | x :: l, as, h => by
  rw [bb] at h
  refine oq12 (L2.a9 h) fun b _ h => ?_
  cases b with
  | false => rw [if_neg Bool.false_ne_true] at h; have := fM h; simp; exact nz5 (nz2 this (Nat.lt_succ_self _))
  | true =>
   rw [if_pos rfl] at h
   refine oq12 (L2.a9 h) fun a _ h => ?_
   refine oq12 (L2.a9 h) fun as' h1 h => ?_
   cases h
   have := fM h1
   simp; exact this
theorem compF_at {xs:List β} {as:List α} (h:bb t f xs = some as) {i:Nat} {x:β} (hx:xs[i]? = some x):∃ p b, bb t f (xs.take i) = some p ∧ t x = some b ∧ (b = true → ∃ c, f x = some c ∧ bb t f (xs.take (i + 1)) = some (p ++ [c])) ∧ (b = false → bb t f (xs.take (i + 1)) = some p) := by
 have hi := (List.getElem?_eq_some_iff.mp hx).1
 have ex := (List.getElem?_eq_some_iff.mp hx).2
 have e:xs = xs.take i ++ (x :: xs.drop (i + 1)) := by rw [← ex, List.getElem_cons_drop, List.take_append_drop]
 rw [e, dJ] at h
 refine oq12 (L2.a9 h) fun p h1 h => ?_
 refine oq12 (L2.a9 h) fun w h2 _ => ?_
 rw [bb] at h2
 refine oq12 (L2.a9 h2) fun b h3 h2 => ?_
 have et:xs.take (i + 1) = xs.take i ++ [x] := by rw [← ex, List.take_append_getElem]
 refine (oi24 p b h1 h3 (fun hb => ?_) (fun hb => ?_))
 ·subst hb
  rw [if_pos rfl] at h2
  refine oq12 (L2.a9 h2) fun c h4 _ => ?_
  exact (oi12 c h4 (by rw [et, dJ, h1]; simp [bb, h3, h4]))
 ·subst hb
  rw [et, dJ, h1]; simp [bb, h3]
theorem kB:∀ (xs:List β), iV f xs = bb (fun _ => some true) f xs
 | [] => rfl
 | x :: xs => by rw [iV, bb, kB xs]; simp
end Pu
namespace L2
open PySem PySem.Spec PyProof.Rows
variable [Kon]
section
variable {Γ:List Slot} {α β γ δ τ S T R:Type} {r:Rp α} {rb:Rp β} {K:PySem.W.Frag}
theorem compIf_at {J:It} {loc:List Str} {cap:List (Str × Nat)} {g:TG} {tt:TT} {te:TE} {t:β → Option Bool} {f:β → Option α} {m:Nat} {Γt:β → List Slot} {C:Fc} {F' H1:Hp} {σ:St} {Q:VK} {xs:List β} {as:List α} (S:SR C F' Γ σ H1) (W:Walks J F' rb xs) (hc:(cap.map (·.2)).Nodup) (hm:m ≤ loc.length) (hg:GV (csl loc cap Γ) m g rb Γt)
  (ht:∀ x, ET (Γt x) tt (t x)) (he:∀ x, EV (Γt x) te (f x) r) (e:Pu.cy t f xs = some as) (k:∀ p vs F2 H2, Ext F' H1 F2 H2 → H2 p = none → Paired (r.rel F2) vs as → Q (.ref p) (upd H2 p (.lst vs))) (D:Addr) (hD:H1 D = none):cGoal g tt te loc cap σ D Q J H1 := by
 unfold Pu.cy at e
 split at e
 case isFalse => cases e
 rename_i hl
 have sn:∀ j, j < m → (st0 loc cap σ)[j]? = some none := fun j hj => by
  unfold st0
  rw [List.getElem?_append_left (by simp; exact nz1 hj hm), List.getElem?_map, List.getElem?_eq_getElem (by exact nz1 hj hm)]
  rfl
 refine comp_it (n := xs.length) (fun i ys H2 => ∃ F1 G p, H2 = upd G D (.lst ys) ∧ G D = none ∧ Ext F' H1 F1 G ∧ Pu.bb t f (xs.take i) = some p ∧ Paired (r.rel F1) ys p) (oi35 F' H1 ([]) rfl hD (Ext.refl S.sub) (by rw [List.take_zero]; rfl) .nil) ?_ ?_ ?_ ?_ ?_
 ·intro i ys H2 _ zq; refine oq32 zq fun F1 G p eq3_ _ => ?_; subst eq3_; exact ai
 ·intro i ys H2 hi zq; refine oq34 zq fun F1 G p eq3_ hG x2 _ => ?_; subst eq3_; exact W.go i _ (x2.ff.trans (x2.sub.trans (aB hG))) hi
 ·intro ys H2 zq; refine oq34 zq fun F1 G p eq3_ hG x2 _ => ?_; subst eq3_; exact W.stop _ (x2.ff.trans (x2.sub.trans (aB hG)))
 ·rintro i ys H2 x H' hi ⟨F1, G, p, rfl, hG, x2, hp, pr⟩ y
  have sFH := x2.sub.trans (aB (o := .lst ys) hG)
  refine oq23 (W.yld i _ x H' F1 (x2.ff.trans sFH) hi y x2.ff sFH) fun F2 a ha x3 ra => ?_
  have F1D:F1 D = none := x2.sub.free hG
  have noD:∀ {A B:Hp}, Ext F1 (upd G D (.lst ys)) A B → A D = none := fun {A B} x => by
   cases q:A D with
   | none => rfl
   | some o =>
    rcases x.nw D o q with z | z
    ·rw [F1D] at z; cases z
    ·rw [ai] at z; cases z
  have S3:SR C F2 (csl loc cap Γ) (st0 loc cap σ) H' := ((((S.grow x2).comp hc).grow (Ext.newH x2.sub hG)).grow x3)
  have fin:∀ {A B:Hp} {zs:List V} {pp:List α}, Ext F1 (upd G D (.lst ys)) A B → Pu.bb t f (xs.take (i + 1)) = some pp → Paired (r.rel A) zs pp → ∃ F1 G p, upd B D (.lst zs) = upd G D (.lst zs) ∧ G D = none ∧ Ext F' H1 F1 G ∧ Pu.bb t f (xs.take (i + 1)) = some p ∧ Paired (r.rel F1) zs p := fun {A B zs pp} x hpp pz => by
   refine (oi35 A (del B D) pp ?_ kx ⟨sm_del (x2.hh.trans ((lP (o := .lst ys) hG trivial).trans x.hh)) hD (x.hh.kp D (.lst ys) trivial ai) trivial, x2.ff.trans x.ff, fun b o h => ?_, fun b o h => ?_, fun z => x.nt (x2.nt z)⟩ hpp pz)
   ·funext b; unfold upd del; split <;> rfl
   ·rw [cf (ao h (noD x))]; exact x.sub b o h
   ·rcases x.nw b o h with z | z
    ·exact x2.nw b o z
    ·have n:b ≠ D := by rintro rfl; rw [ai] at z; cases z
     rw [ac n] at z; exact .inr (x2.hh.un z)
  refine oq24 (Pu.compF_at e ha) fun p' b h1 h2 h3 h4 => ?_
  rw [hp] at h1
  cases h1
  refine hg C F2 _ H' x a _ S3 ra fun σ' S4 wk => ⟨wk sn, ?_⟩
  refine ht a C F2 σ' H' _ b S4 h2 fun F3 H3 x4 => ?_
  cases b with
  | false =>
   have hB:H3 D = some (.lst ys) := (x3.trans x4).hh.kp D (.lst ys) trivial ai
   refine oq35 (fin (x3.trans x4) (h4 rfl) (Paired.imp2 (fun _ _ z => r.mono (x3.ff.trans x4.ff) z) pr)) fun F5 G5 p5 q1 q2 q3 q4 q5 => ?_
   refine ⟨F5, G5, p5, ?_, q2, q3, q4, q5⟩
   rw [← q1]
   funext b; unfold upd; split
   ·rename_i z; rw [z]; exact hB
   ·rfl
  | true =>
   refine oq12 (h3 rfl) fun c h5 h6 => ?_
   refine he a C F3 σ' H3 _ c (S4.grow x4) h5 fun v F4 H4 x5 rv => ?_
   have x6 := (x3.trans x4).trans x5
   refine (oi03 (x6.hh.kp D (.lst ys) trivial ai) ?_ (fin x6 h6 (Paired.app (Paired.imp2 (fun _ _ z => r.mono x6.ff z) pr) (.cons rv .nil))))
   have := Pu.fM hp
   rw [pr.length, sizeLine_eq]
   rw [List.length_take] at this
   omega
 ·intro ys H2 zq; refine oq35 zq fun F1 G p eq3_ hG x2 hp pr => ?_; subst eq3_
  rw [List.take_length, e] at hp
  cases hp
  exact k D ys F1 G x2 hG pr
theorem eB {wi:TI} {loc:List Str} {cap:List (Str × Nat)} {g:TG} {tt:TT} {te:TE} {ox:Option (List β)} {t:β → Option Bool} {f:β → Option α} {m:Nat} {Γt:β → List Slot} (hi:IV Γ wi ox rb) (hc:(cap.map (·.2)).Nodup) (hm:m ≤ loc.length) (hg:GV (csl loc cap Γ) m g rb Γt)
  (ht:∀ x, ET (Γt x) tt (t x)) (he:∀ x, EV (Γt x) te (f x) r):EVL Γ (tComp wi loc cap g tt te) (ox.bind fun xs => Pu.cy t f xs) r := by
 intro C F σ H Q as S e k
 refine oq12 (a9 e) fun xs e1 e => ?_
 exact hi C F σ H _ xs S e1 fun J F' H1 x1 W D hD => compIf_at (S.grow x1) W hc hm hg ht he e (fun p vs F2 H2 x2 => k p vs F2 H2 (x1.trans x2)) D hD
theorem cA {wi:TI} {loc:List Str} {cap:List (Str × Nat)} {g:TG} {te:TE} {ox:Option (List β)} {f:β → Option α} {m:Nat} {Γt:β → List Slot} (hi:IV Γ wi ox rb) (hc:(cap.map (·.2)).Nodup) (hm:m ≤ loc.length) (hg:GV (csl loc cap Γ) m g rb Γt)
  (he:∀ x, EV (Γt x) te (f x) r):EVL Γ (tComp wi loc cap g tTrue te) (ox.bind fun xs => Pu.comp f xs) r := by
 have h := eB (t := fun _ => some true) hi hc hm hg (fun _ => et_true) he
 have e:(fun xs => Pu.cy (fun _ => some true) f xs) = fun xs => Pu.comp f xs := by
  funext xs; unfold Pu.cy Pu.comp; rw [Pu.kB]
 rw [e] at h; exact h
end
end L2
namespace L2
open PySem PySem.Spec PyProof.Rows
variable [Kon]
section
variable {α β γ δ τ S T R:Type}
noncomputable def BV (Γ:List Slot) (t:TS) (o:Option T) (fin:Fc → T → Ends → Prop):Prop := ∀ C F σ H D x, SR C F Γ σ H → o = some x → fin C x D → t D σ H
noncomputable def finV (r:Rp α):Fc → α → Ends → Prop := fun C a D => ∀ v F H, Fr C F H → r.rel F v a → D.rt v H
noncomputable def finL (r:Rp α):Fc → List α → Ends → Prop := fun C xs D => ∀ p vs F H, Fr C F H → H p = none → Paired (r.rel F) vs xs → D.rt (.ref p) (upd H p (.lst vs))
theorem tbg_del {H:Hp} {p:Addr} {u:HO} (g:TbG H) (h:H p = some u) (a:Own u):TbG (del H p) := by
 have nt:∀ {c:Addr} {o:HO}, H c = some o → ¬ Own o → c ≠ p := fun {c o} q n z => by subst z; rw [h] at q; cases q; exact n a
 refine ⟨fun P hP => ?_, fun P ps q => ?_⟩
 ·refine oq11 (g.there P hP) fun ps e1 => ?_
  exact ⟨ps, by rw [cf (nt e1 fun z => z)]; exact e1⟩
 ·refine oq02 (c5 q) fun n q => ?_
  refine oq02 (g.good P ps q) fun g1 g2 => ?_
  exact ⟨g1, fun pos cv hc => by refine oq12 (g2 pos cv hc) fun c e3 e4 => ?_; exact (oi12 c e3 (by rw [cf (nt e4 fun z => z)]; exact e4))⟩
structure RFin (rf:Fc → R → Ends → Prop):Prop where
 lo:∀ {C F x D}, Same C.L F → rf C x D → rf { C with L := F } x D
 en:∀ {C x D nx bk ct}, rf C x D → rf C x { D with nx := nx, bk := bk, ct := ct }
theorem rfV {r:Rp α}:RFin (finV r) := ⟨fun e h v F H f q => h v F H (f.raise e) q, fun h => h⟩
noncomputable def finS (Γf:S → List Slot):Fc → S → Ends → Prop := fun C s D => ∀ F σ H, SR C F (Γf s) σ H → D.nx σ H ∧ D.ct σ H
noncomputable def finC (Γf:S → List Slot) (rf:Fc → R → Ends → Prop):Fc → Pu.Ctl S R → Ends → Prop := fun C c D => match c with
 | .nx s => ∀ F σ H, SR C F (Γf s) σ H → D.nx σ H ∧ D.ct σ H
 | .bk s => ∀ F σ H, SR C F (Γf s) σ H → D.bk σ H
 | .rt r => rf C r D
noncomputable def finJ (Γj:S → List Slot):Fc → S → Ends → Prop := fun C s D => ∀ F σ H, SR C F (Γj s) σ H → D.nx σ H
end
section
variable {Γ:List Slot} {α β γ δ τ S T R:Type} {r:Rp α} {s:Rp β} {ta tb tc td te:TE} {oa:Option α} {ob:Option β} {K:PySem.W.Frag} {oi:Option Int} {u t t':TS} {o o':Option T} {fin:Fc → T → Ends → Prop}
theorem BV.cast (h:BV Γ t o fin) (e:o' = o):BV Γ t o' fin := e ▸ h
theorem bp (h:BV Γ (tSeq t iL) o fin):BV Γ t o fin := h
theorem h9 (h:BV Γ (tSeq t (tSeq t' u)) o fin):BV Γ (tSeq (tSeq t t') u) o fin := h
theorem bq (h:BV Γ u o fin):BV Γ (tSeq iL u) o fin := h
theorem aA {f:α → Option T} (i:Nat) (he:EV Γ te oa r) (h:∀ a, BV (Γ.set i (.fr r a)) u (f a) fin):BV Γ (tSeq (tAsg te (dP i)) u) (oa.bind f) fin := by
 intro C F σ H D x S e k
 refine oq12 (a9 e) fun a e1 e => ?_
 exact he C F σ H _ a S e1 fun v F' H' x1 r1 => h a C F' _ H' D x ((S.grow x1).setF i r1) e k
theorem gr {ol:Option (List α)} {f:List α → Option T} (i:Nat) (he:EVL Γ te ol r) (h:∀ a, BV (Γ.set i (.ol r tt_ a)) u (f a) fin):BV Γ (tSeq (tAsg te (dP i)) u) (ol.bind f) fin := by
 intro C F σ H D x S e k
 refine oq12 (a9 e) fun a e1 e => ?_
 exact he C F σ H _ a S e1 fun p vs F' H' x1 hp r1 => h a C F' _ _ D x ((S.grow x1).setO i hp rfl ⟨p, vs, rfl, trivial, (S.grow x1).keep.free hp, x1.sub.free hp, ai, r1⟩) e k
theorem bv_setD {ol:Option (List (Int × α))} {f:List (Int × α) → Option T} (i:Nat) (he:EVD Γ te ol r) (h:∀ a, BV (Γ.set i (.od r tt_ a)) u (f a) fin):BV Γ (tSeq (tAsg te (dP i)) u) (ol.bind f) fin := by
 intro C F σ H D x S e k
 refine oq12 (a9 e) fun a e1 e => ?_
 exact he C F σ H _ a S e1 fun p vs F' H' x1 hp r1 => h a C F' _ _ D x ((S.grow x1).setO i hp rfl ⟨p, vs, rfl, trivial, (S.grow x1).keep.free hp, x1.sub.free hp, ai, r1⟩) e k
theorem cI {tt:TT} {oc:Option Bool} (hc:ET Γ tt oc) (h1:BV Γ (tSeq t u) o fin) (h2:BV Γ (tSeq t' u) o' fin):BV Γ (tSeq (tIfS tt t t') u) (oc.bind fun b => if b = true then o else o') fin := by
 intro C F σ H D x S e k
 refine oq12 (a9 e) fun b e1 e => ?_
 refine hc C F σ H _ b S e1 fun F' H' x1 => ?_
 cases b with
 | true => exact h1 C F' σ H' D x (S.grow x1) e k
 | false => exact h2 C F' σ H' D x (S.grow x1) e k
theorem bv_join {Γj:S → List Slot} {oj:Option S} {f:S → Option T} (h1:BV Γ t oj (finJ Γj)) (h:∀ s, BV (Γj s) u (f s) fin):BV Γ (tSeq t u) (oj.bind f) fin := by
 intro C F σ H D x S e k
 refine oq12 (a9 e) fun s e1 e => ?_
 exact h1 C F σ H _ s S e1 fun F' σ' H' S' => h s C F' σ' H' D x S' e k
theorem kC {Γj:S → List Slot} (st:S) (hs:SubL Γ (Γj st)):BV Γ iL (some st) (finJ Γj) := fun C F σ H D x S e k => by
 cases e
 refine oq12 (S.weak hs) fun F' _ S' => ?_
 exact k F' σ H S'
theorem aP (he:EV Γ te oa r):BV Γ (tRet te) oa (finV r) := fun C F σ H D x S e k => he C F σ H _ x S e fun v F' H' x1 r1 => k v F' H' (S.toFr.grow x1) r1
theorem cJ {ol:Option (List α)} (he:EVL Γ te ol r):BV Γ (tRet te) ol (finL r) := fun C F σ H D x S e k => he C F σ H _ x S e fun p vs F' H' x1 hp r1 => k p vs F' H' (S.toFr.grow x1) hp r1
theorem ju {φ:Addr → Prop} {xs:List α} (i:Nat) (hi:Γ[i]? = some (.ol r φ xs)):BV Γ (tRet (tVar i)) (some xs) (finL r) := fun C F σ H D x S e k => by
 cases e
 refine oq12 (S.at_ i _ hi) fun o h1 zz => oq26 zz fun p vs eq4_ h2 h3 h4 h5 h6 => ?_; subst eq4_
 refine ⟨.ref p, h1, ?_⟩
 have eH:H = upd (del H p) p (.lst vs) := by
  funext b; unfold upd del; split
  ·rename_i z; rw [z]; exact h5
  ·rfl
 rw [eH]
 have sd:Sm C.H0 (del H p) := sm_del S.keep h3 h5 trivial
 refine k p vs F (del H p) ⟨sd, S.low, fun b o h => ?_, S.base, S.nt, tbg_del S.tg h5 trivial⟩ kx h6
 rw [cf (ao h h4)]; exact S.sub b o h
theorem bY (h:BV Γ (tRet te) o fin):BV Γ (tSeq (tRet te) u) o fin := fun C F σ H D x S e k => h C F σ H D x S e k
theorem bv_retC {Γf:S → List Slot} {rf:Fc → R → Ends → Prop} {oR:Option R} (h:BV Γ (tRet te) oR rf):BV Γ (tRet te) (oR.bind fun a => some (.rt a)) (finC Γf rf) := fun C F σ H D x S e k => by
 refine oq12 (a9 e) fun a e1 e => ?_
 cases e
 exact h C F σ H D a S e1 k
theorem br {Γf:S → List Slot} (st:S) (hs:SubL Γ (Γf st)):BV Γ iL (some st) (finS Γf) := fun C F σ H D x S e k => by
 cases e
 refine oq12 (S.weak hs) fun F' _ S' => ?_
 exact (k F' σ H S').1
theorem kD {Γf:S → List Slot} {rf:Fc → R → Ends → Prop} (st:S) (hs:SubL Γ (Γf st)):BV Γ iL (some (.nx st)) (finC Γf rf) := fun C F σ H D x S e k => by
 cases e
 refine oq12 (S.weak hs) fun F' _ S' => ?_
 exact (k F' σ H S').1
end
end L2
namespace Pu
variable {S R β:Type}
end Pu
namespace L2
open PySem PySem.Spec PyProof.Rows
variable [Kon]
section
variable {Γ:List Slot} {α β γ δ τ S T R:Type} {r:Rp α} {s:Rp β} {rb:Rp β} {ta tb tc td te:TE} {oa:Option α} {ob:Option β} {K:PySem.W.Frag} {oi:Option Int} {u t t' tl:TS} {o o':Option T} {fin:Fc → T → Ends → Prop}
theorem bv_forC {wi:TI} {g:TG} {ox:Option (List β)} {Γf:S → List Slot} {Γt:S → β → List Slot} {m:Nat} {body:S → β → Option (Pu.Ctl S R)} {rf:Fc → R → Ends → Prop} {f:S → Option T} {e:R → T} (st:S) (hi:IV Γ wi ox rb) (hs:SubL Γ (Γf st)) (hg:∀ s, GV (Γf s) m g rb (Γt s))
  (hb:∀ s x, BV (Γt s x) tl (body s x) (finC Γf rf)) (hr:RFin rf) (he:∀ C x D, fin C (e x) D → rf C x D) (h:∀ s, BV (Γf s) u (f s) fin):BV Γ (tSeq (tFor wi g tl) u) (ox.bind fun xs => Pu.andThen (Pu.forC body xs st) f e) fin := by
 intro C F σ H D x S0 e0 k
 refine oq12 (a9 e0) fun xs e1 e0 => ?_
 refine hi C F σ H _ xs S0 e1 fun J F' H1 x1 W => ?_
 refine oq12 ((S0.grow x1).weak hs) fun F2 f2 S2 => ?_
 have L1:Same C.L F2 := S2.low
 refine ⟨fun i m σ H => ∃ F3 s', m = xs.length - i ∧ i ≤ xs.length ∧ SR { C with L := F2 } F3 (Γf s') σ H ∧ Pu.andThen (Pu.forC body (xs.drop i) s') f e = some x, ⟨xs.length, F2, st, by simp, Nat.zero_le _, S2.lower, by rw [List.drop_zero]; exact e0⟩, ?_⟩
 intro i m σ H zq; refine oq24 zq fun F3 s' eq2_ hil S3 e3 => ?_; subst eq2_
 by_cases hlt:i < xs.length
 ·refine .inr ⟨W.go i H (f2.trans (S3.low.trans S3.sub)) hlt, fun σ' H' => ∃ F3 s', i + 1 ≤ xs.length ∧ SR { C with L := F2 } F3 (Γf s') σ' H' ∧ Pu.andThen (Pu.forC body (xs.drop (i + 1)) s') f e = some x,
   fun σ' H' zq => oq23 zq fun F3 s' h1 h2 h3 => ⟨xs.length - (i + 1), by omega, F3, s', rfl, h1, h2, h3⟩, fun v H' y => ?_⟩
  refine oq23 (W.yld i H v H' F3 (f2.trans (S3.low.trans S3.sub)) hlt y (f2.trans S3.low) S3.sub) fun F4 a ha x4 ra => ?_
  have ea:xs[i] = a := (List.getElem?_eq_some_iff.mp ha).2
  rw [← List.getElem_cons_drop (h := hlt), ea, Pu.forC] at e3
  unfold Pu.andThen at e3
  refine oq12 (a9 e3) fun c1 e4 e5 => ?_
  refine oq12 (a9 e4) fun c e6 e7 => ?_
  refine hg s' _ F4 σ H' v a _ (S3.grow x4) ra fun σ' S4 _ => ?_
  refine hb s' a _ F4 σ' H' _ c S4 e6 ?_
  cases c with
  | nx s2 => exact fun F5 σ5 H5 S5 => ⟨⟨F5, s2, hlt, S5, by unfold Pu.andThen; rw [show Pu.forC body (xs.drop (i + 1)) s2 = some c1 from e7]; exact e5⟩, ⟨F5, s2, hlt, S5, by unfold Pu.andThen; rw [show Pu.forC body (xs.drop (i + 1)) s2 = some c1 from e7]; exact e5⟩⟩
  | bk s2 =>
   cases e7
   exact fun F5 σ5 H5 S5 => h s2 C F5 σ5 H5 D x (S5.raise L1) e5 k
  | rt r2 =>
   cases e7
   cases e5
   exact hr.en (hr.lo L1 (hr.en (nx := u D) (bk := D.bk) (ct := D.ct) (he C r2 D k)))
 ·have ei:i = xs.length := by exact Nat.le_antisymm hil (Nat.not_lt.mp hlt)
  subst ei
  rw [List.drop_length, Pu.forC] at e3
  exact .inl ⟨W.stop H (f2.trans (S3.low.trans S3.sub)), h s' C F3 σ H D x (S3.raise L1) e3 k⟩
theorem bO {wi:TI} {g:TG} {ox:Option (List β)} {Γf:S → List Slot} {Γt:S → β → List Slot} {m:Nat} {body:S → β → Option S} {f:S → Option T} (st:S) (hi:IV Γ wi ox rb) (hs:SubL Γ (Γf st)) (hg:∀ s, GV (Γf s) m g rb (Γt s))
  (hb:∀ s x, BV (Γt s x) tl (body s x) (finS Γf)) (h:∀ s, BV (Γf s) u (f s) fin):BV Γ (tSeq (tFor wi g tl) u) (ox.bind fun xs => (Pu.forS body xs st).bind f) fin := by
 intro C F σ H D x S0 e0 k
 refine oq12 (a9 e0) fun xs e1 e0 => ?_
 refine hi C F σ H _ xs S0 e1 fun J F' H1 x1 W => ?_
 refine oq12 ((S0.grow x1).weak hs) fun F2 f2 S2 => ?_
 have L1:Same C.L F2 := S2.low
 refine ⟨fun i m σ H => ∃ F3 s', m = xs.length - i ∧ i ≤ xs.length ∧ SR { C with L := F2 } F3 (Γf s') σ H ∧ (Pu.forS body (xs.drop i) s').bind f = some x, ⟨xs.length, F2, st, by simp, Nat.zero_le _, S2.lower, by rw [List.drop_zero]; exact e0⟩, ?_⟩
 intro i m σ H zq; refine oq24 zq fun F3 s' eq2_ hil S3 e3 => ?_; subst eq2_
 by_cases hlt:i < xs.length
 ·refine .inr ⟨W.go i H (f2.trans (S3.low.trans S3.sub)) hlt, fun σ' H' => ∃ F3 s', i + 1 ≤ xs.length ∧ SR { C with L := F2 } F3 (Γf s') σ' H' ∧ (Pu.forS body (xs.drop (i + 1)) s').bind f = some x,
   fun σ' H' zq => oq23 zq fun F3 s' h1 h2 h3 => ⟨xs.length - (i + 1), by omega, F3, s', rfl, h1, h2, h3⟩, fun v H' y => ?_⟩
  refine oq23 (W.yld i H v H' F3 (f2.trans (S3.low.trans S3.sub)) hlt y (f2.trans S3.low) S3.sub) fun F4 a ha x4 ra => ?_
  have ea:xs[i] = a := (List.getElem?_eq_some_iff.mp ha).2
  rw [← List.getElem_cons_drop (h := hlt), ea, Pu.forS] at e3
  refine oq12 (a9 e3) fun c1 e4 e5 => ?_
  refine oq12 (a9 e4) fun c e6 e7 => ?_
  refine hg s' _ F4 σ H' v a _ (S3.grow x4) ra fun σ' S4 _ => ?_
  refine hb s' a _ F4 σ' H' _ c S4 e6 ?_
  exact fun F5 σ5 H5 S5 => ⟨⟨F5, c, hlt, S5, by rw [e7]; exact e5⟩, ⟨F5, c, hlt, S5, by rw [e7]; exact e5⟩⟩
 ·have ei:i = xs.length := by exact Nat.le_antisymm hil (Nat.not_lt.mp hlt)
  subst ei
  rw [List.drop_length, Pu.forS] at e3
  exact .inl ⟨W.stop H (f2.trans (S3.low.trans S3.sub)), h s' C F3 σ H D x (S3.raise L1) e3 k⟩
section
variable {φ:Addr → Prop} {xs:List α} {kvs:List (Int × α)}
theorem dM {f:List α → Option T} (i:Nat) (hi:Γ[i]? = some (.ol r φ xs)) (he:EV Γ te oa r) (h:∀ ys, BV (Γ.set i (.ol r φ ys)) u (f ys) fin):BV Γ (tSeq (tDrop (tBM K "list" rAppend (tVar i) (aH te tNil))) u) (oa.bind fun a => (Pu.app xs a).bind f) fin := by
 intro C F σ H D x S e k
 refine oq12 (a9 e) fun a e1 e => ?_
 refine oq12 (a9 e) fun ys e2 e => ?_
 refine oq12 (S.at_ i _ hi) fun o h1 zz => oq26 zz fun p vs eq4_ h2 h3 h4 h5 h6 => ?_; subst eq4_
 refine ⟨.ref p, h1, .inl ⟨rfl, vs, SqL.of h5⟩, he C F σ H _ a S e1 fun v F' H' x1 r1 => ?_⟩
 have S' := S.grow x1
 refine oq12 (S'.at_ i _ hi) fun o' q1 zz => oq26 zz fun p' vs' eq4_ q2 q3 q4 q5 q6 => ?_; subst eq4_
 rw [h1] at q1
 cases q1
 unfold Pu.app at e2
 split at e2
 ·rename_i hl
  cases e2
  refine ⟨p, vs', v, rfl, rfl, q5, by rw [q6.length, sizeLine_eq]; exact hl, ?_⟩
  exact h _ C F' σ _ D x (S'.chg hi rfl h1 q3 q4 rfl ⟨p, _, rfl, q2, q3, q4, ai, Paired.app q6 (.cons r1 .nil)⟩) e k
 ·cases e2
noncomputable def OwnAt (Γ:List Slot) (to:TE) (i:Nat):Prop := ∀ C F σ H Q v, SR C F Γ σ H → σ[i]? = some (some v) → Q v H → to σ H Q
theorem jv (i:Nat):OwnAt Γ (tVar i) i := fun _ _ _ _ _ v _ h q => ⟨v, h, q⟩
theorem bv_putG {to:TE} {f:List (Int × α) → Option T} (i:Nat) (ho:OwnAt Γ to i) (hi:Γ[i]? = some (.od r φ kvs)) (hk:EV Γ tb oi rInt) (he:EV Γ te oa r) (h:∀ ys, BV (Γ.set i (.od r φ ys)) u (f ys) fin) :
  BV Γ (tSeq (sDPut to tb te) u) (oa.bind fun a => oi.bind fun k => if kvs.length < 16777216 then f (Pu.put kvs k a) else none) fin := by
 intro C F σ H D x S e k
 refine oq12 (a9 e) fun a e1 e => ?_
 refine oq12 (a9 e) fun n e2 e => ?_
 split at e
 case isFalse => cases e
 rename_i hl
 refine he C F σ H _ a S e1 fun v F' H' x1 r1 => ?_
 refine oq12 (S.at_ i _ hi) fun o h1 zz => oq22 zz fun p vs eq4_ _ => ?_; subst eq4_
 refine ho C F' σ H' _ (.ref p) (S.grow x1) h1 (hk C F' σ H' _ n (S.grow x1) e2 fun w F2 H2 x2 r2 => ?_)
 have S' := (S.grow x1).grow x2
 refine oq12 (S'.at_ i _ hi) fun o' q1 zz => oq26 zz fun p' vs' eq4_ q2 q3 q4 q5 q6 => ?_; subst eq4_
 rw [h1] at q1
 cases q1
 cases r2
 refine (oi23 p _ rfl (DPut.k (k := Sum.inl n) q5 (by rw [q6.length, sizeLine_eq]; exact hl)) ?_)
 exact h _ C F2 σ _ D x (S'.chg hi rfl h1 q3 q4 rfl ⟨p, _, rfl, q2, q3, q4, ai, lZ (r.mono x2.ff r1) q6⟩) e k
theorem bv_put {f:List (Int × α) → Option T} (i:Nat) (hi:Γ[i]? = some (.od r φ kvs)) (hk:EV Γ tb oi rInt) (he:EV Γ te oa r) (h:∀ ys, BV (Γ.set i (.od r φ ys)) u (f ys) fin) :
  BV Γ (tSeq (sDPut (tVar i) tb te) u) (oa.bind fun a => oi.bind fun k => if kvs.length < 16777216 then f (Pu.put kvs k a) else none) fin := bv_putG i (jv i) hi hk he h
end
theorem evd_new:EVD Γ tDNewK (some []) r := fun C F σ H Q kvs S e k => by
 cases e
 exact fun p hp => k p [] F H (Ext.refl S.sub) hp .nil
end
section
variable {P:Program} {w:World} {K:PySem.W.Frag} {mg:Str → Option Value} {base:Heap} {x:Str} {st:Stmt} {N ps:List Str} {k:Nat} {τ γ:Type} {ra:RpA τ} {r:Rp γ}
theorem SR.begin_ {F H:Hp} {vs:List V} {a:τ} {n:Nat} (sb:Same F H) (nt:NT F) (tg:TbG H) (h:ra.rel F vs a) (hn:N.length - vs.length = n):SR ⟨H, F, F⟩ F (ra.slots a ++ List.replicate n .any) (start N vs) H := by
 refine oq02 (ra.ok h) fun l g => ?_
 have noown:∀ (i:Nat) s, (ra.slots a ++ List.replicate n .any)[i]? = some s → s.own = false := fun i s h => by
  by_cases hi:i < (ra.slots a).length
  ·rw [List.getElem?_append_left hi] at h; exact (g i s h).1
  ·rw [List.getElem?_append_right (by exact Nat.not_lt.mp hi)] at h
   have := List.mem_of_getElem? h
   rw [List.mem_replicate] at this
   rw [this.2]; rfl
 refine ⟨⟨Sm.refl _, Same.refl _, sb, fun b o h => .inl h, nt, tg⟩, ?_, fun i s hs => ?_, fun i j s t p h1 h2 o1 o2 _ _ => ?_⟩
 ·unfold start
  rw [List.length_append, List.length_append, List.length_map, List.length_replicate, List.length_replicate, l, ← hn, l]
 ·unfold start
  by_cases hi:i < (ra.slots a).length
  ·rw [List.getElem?_append_left hi] at hs
   refine oq02 (g i s hs) fun _ zz => oq12 zz fun v g1 g2 => ?_
   exact (oi12 (some v) (by rw [List.getElem?_append_left (by simp [l, hi]), List.getElem?_map, g1]; rfl) (g2 H H))
  ·rw [List.getElem?_append_right (by exact Nat.not_lt.mp hi)] at hs
   have hm := List.mem_of_getElem? hs
   rw [List.mem_replicate] at hm
   have hlt := (List.getElem?_eq_some_iff.mp hs).1
   rw [List.length_replicate] at hlt
   rw [hm.2]
   exact (oi12 none (by rw [List.getElem?_append_right (by simp; exact nz4 (nz3 l) (Nat.not_lt.mp hi)), List.length_map, List.getElem?_replicate, if_pos (by omega)]) trivial)
 ·rw [noown i s h1] at o1; cases o1
noncomputable abbrev m6 (P:Program) (w:World) (K:PySem.W.Frag) (mg:Str → Option Value) (base:Heap) (x:Str) (st:Stmt) (N:List Str) (k:Nat) (G:TS → Prop):Prop :=
 ∀ (f:Addr) (cdv:Value) (A:Around) (outer:List Env) (s:Shared) (H:Hp) (E:XK), Room k (A.deeper (envOfC x (ag st) s.heap.objs.size f cdv)) → ∃ t, PSs (cxOf CX0 P w K mg base N x (ag st) f cdv A outer s H E).nox (aY st) t ∧ G t
theorem ay.pV {f:τ → Option γ} {n:Nat} (D:ay K mg x st ps) (S:FnScope N ps (ag st)) (hl:∀ a, (ra.slots a).length = ps.length) (hn:N.length - ps.length = n)
  (h:m6 P w K mg base x st N k fun t => ∀ a, BV (ra.slots a ++ List.replicate n .any) t (f a) (finV r)):Has P w K mg base (k + 1) x ps (spV ra r f) := by
 refine D.has S (fun vs H Q E h => ?_) fun fa cdv A outer s H vs Q E hr hsp => ?_
 ·refine oq35 h fun F a c _ _ _ h1 _ => ?_; rw [(ra.ok h1).1, hl]
 ·refine oq12 (h fa cdv A outer s H E hr) fun t h1 h2 => ?_
  refine oq36 hsp fun F a c sb nt tg hr' hf q => ?_
  refine (oi12 t h1 (h2 a _ F _ H _ c (SR.begin_ sb nt tg hr' (by rw [(ra.ok hr').1, hl]; exact hn)) hf ?_))
  exact fun v F' H' fr rv => q v F' H' ⟨fr.keep, fr.low, fr.sub, fr.base, fun _ => fr.nt⟩ rv
theorem ay.pL {f:τ → Option (List γ)} {n:Nat} (D:ay K mg x st ps) (S:FnScope N ps (ag st)) (hl:∀ a, (ra.slots a).length = ps.length) (hn:N.length - ps.length = n)
  (h:m6 P w K mg base x st N k fun t => ∀ a, BV (ra.slots a ++ List.replicate n .any) t (f a) (finL r)):Has P w K mg base (k + 1) x ps (spL ra r f) := by
 refine D.has S (fun vs H Q E h => ?_) fun fa cdv A outer s H vs Q E hr hsp => ?_
 ·refine oq35 h fun F a c _ _ _ h1 _ => ?_; rw [(ra.ok h1).1, hl]
 ·refine oq12 (h fa cdv A outer s H E hr) fun t h1 h2 => ?_
  refine oq36 hsp fun F a c sb nt tg hr' hf q => ?_
  refine (oi12 t h1 (h2 a _ F _ H _ c (SR.begin_ sb nt tg hr' (by rw [(ra.ok hr').1, hl]; exact hn)) hf ?_))
  exact fun p vs F' H' fr hp rv => q p vs F' H' ⟨fr.keep, fr.low, fr.sub, fr.base, fun _ => fr.nt⟩ hp rv
end
end L2
namespace L2
open PySem PySem.Spec PyProof.Rows
structure Dt {α:Type} [DecidableEq α] (r:Rp α) where
 dat:α → PyData
 n:Nat
 ok:∀ {K:PySem.W.Frag} {H v a}, r.rel H v a → DatV K H (dat a) v
 lay:∀ a, (dat a).canLay0 = true
 dep:∀ a, (dat a).depth ≤ n
 eqv:∀ a b, PyData.eqv (dat a) (dat b) = decide (a = b)
noncomputable def dInt:Dt rInt := ⟨.int, 0, fun h => by unfold DatV; exact h, fun _ => by rw [PyData.canLay0], fun _ => by rw [PyData.depth]; exact nz6 _, fun a b => by rw [PyData.eqv, Bool.eq_iff_iff]; simp⟩
section
variable {α β γ:Type} [DecidableEq α] [DecidableEq β] [DecidableEq γ] {r:Rp α} {s:Rp β} {q:Rp γ}
theorem kE {K:PySem.W.Frag} {H:Hp} (d:Dt r):∀ {vs:List V} {xs:List α}, Paired (r.rel H) vs xs → bC K H (xs.map d.dat) vs
 | _, _, .nil => by unfold bC; rfl
 | _, _, .cons h t => by rw [List.map_cons]; unfold bC; exact (oi23 _ _ rfl (d.ok h) (kE d t))
theorem layAll (d:Dt r):∀ xs:List α, PyData.canLayAll0 (xs.map d.dat) = true
 | [] => by simp [PyData.canLayAll0]
 | x :: xs => by rw [List.map_cons, PyData.canLayAll0, layAll d xs, d.lay]; rfl
theorem depAll (d:Dt r):∀ xs:List α, PyData.depthAll (xs.map d.dat) ≤ d.n
 | [] => by simp [PyData.depthAll]
 | x :: xs => by
  rw [List.map_cons, PyData.depthAll]
  have := depAll d xs
  have := d.dep x
  omega
theorem iX (d:Dt r):∀ xs ys:List α, PyData.eqvAll (xs.map d.dat) (ys.map d.dat) = decide (xs = ys)
 | [], [] => by simp [PyData.eqvAll]
 | [], _ :: _ => by simp [PyData.eqvAll]
 | _ :: _, [] => by simp [PyData.eqvAll]
 | x :: xs, y :: ys => by
  rw [List.map_cons, List.map_cons, PyData.eqvAll, iX d xs ys, d.eqv]
  by_cases h:x = y <;> by_cases h':xs = ys <;> simp [h, h']
noncomputable def dL (d:Dt r):Dt (rL r) := ⟨fun xs => .list (xs.map d.dat), d.n + 1, fun {K H v a} h => by
  refine oq23 h fun p vs eq2_ h1 h2 => ?_; subst eq2_
  unfold DatV; exact (oi23 p vs rfl (.inl h1) (kE d h2)),
 fun a => by rw [PyData.canLay0]; exact layAll d a, fun a => by rw [PyData.depth]; have := depAll d a; exact nz2 this (Nat.lt_succ_self _), fun a b => by rw [PyData.eqv]; exact iX d a b⟩
theorem ev_neD [Kon] {Γ:List Slot} {K:PySem.W.Frag} {ta tb:TE} {oa ob:Option α} (d:Dt r) (ha:EV Γ ta oa r) (hb:EV Γ tb ob r) (hn:d.n ≤ 60 := by decide):EV Γ (tOp (rNeD K) ta tb) (oa.bind fun a => ob.bind fun b => some (!decide (a = b))) aM :=
 gU (r := r) (s := r) (fun F H x y a b c Q sb r1 r2 e k => by
  cases e
  refine ⟨_, _, d.ok (r.mono sb r1), d.ok (r.mono sb r2), d.lay _, d.lay _, ?_, ?_⟩
  ·have := d.dep a; omega
  ·rw [d.eqv]; exact k _ rfl) ha hb
end
end L2
namespace L2
open PySem PySem.Spec PyProof.Rows
variable [Kon]
section
variable {Γ:List Slot} {α β γ:Type} {r:Rp α} {ta tb tc:TE} {K:PySem.W.Frag} {ox oy:Option Int} {n m v:Int}
theorem d6 (ha:EV Γ ta ox rInt) (hb:EV Γ tb (some n) rInt) (hn:0 < n):EV Γ (tOp (rI (fun _ j => 0 < j) fun i j => .int (i % j)) ta tb) (ox.bind fun a => some (a % n)) rInt :=
 (gW ha hb).cast (by unfold Pu.fmod; simp [hn])
theorem kF (ha:EV Γ ta ox rInt) (hb:EV Γ tb (some n) rInt) (hn:0 < n ∧ n < 2 ^ 64):EV Γ (tOp (rI (fun _ j => 0 < j ∧ j < 2 ^ 64) fun i j => .int (i / j)) ta tb) (ox.bind fun a => some (a / n)) rInt :=
 (dI ha hb).cast (by unfold Pu.fdiv; simp only [nza, if_pos hn])
theorem eW (ha:EV Γ ta ox rInt) (hb:EV Γ tb (some n) rInt) (hn:-(2 ^ 64) < n ∧ n < 2 ^ 64):EV Γ (tOp (rI CMul fun i j => .int (i * j)) ta tb) (ox.bind fun a => some (a * n)) rInt :=
 (dm ha hb).cast (by
  have e:∀ a, Pu.mul a n = some (a * n) := fun a => if_pos (.inr hn)
  simp only [nza, e])
theorem hJ (ha:EV Γ ta (some n) rInt) (hb:EV Γ tb ox rInt) (hn:-(2 ^ 64) < n ∧ n < 2 ^ 64):EV Γ (tOp (rI CMul fun i j => .int (i * j)) ta tb) (ox.bind fun a => some (n * a)) rInt :=
 (dm ha hb).cast (by
  have e:∀ a, Pu.mul n a = some (n * a) := fun a => if_pos (.inl hn)
  simp only [nza, e])
theorem ev_powT (ha:EV Γ ta (some n) rInt) (hb:EV Γ tb (some m) rInt) (h:Pu.pow n m = some v):EV Γ (tOp (rI CPow fun i j => .int (i ^ j.toNat)) ta tb) (some v) rInt :=
 (ev_pow ha hb).cast (by simp only [nza, h])
section
variable {t u:TT} {a b:Bool}
theorem jw (h:ET Γ t (some a)) (h':ET Γ u (some b)):ET Γ (tAnd t u) (some (a && b)) := by
 have := et_and h h'
 cases a <;> exact this
theorem m7 (h:ET Γ t (some a)) (h':ET Γ u (some b)):ET Γ (tOr t u) (some (a || b)) := by
 have := et_or h h'
 cases a <;> exact this
theorem jx (h:EV Γ ta (some a) aM) (h':EV Γ tb (some b) aM):EV Γ (tAndV ta tb) (some (a && b)) aM := by
 have := ev_and h h'
 cases a <;> exact this
theorem ev_ifxT {x y:α} (ht:ET Γ t (some a)) (ha:EV Γ ta (some x) r) (hb:EV Γ tb (some y) r):EV Γ (tIf t ta tb) (some (if a = true then x else y)) r := by
 have := lW ht ha hb
 cases a <;> exact this
theorem fN {g g':Int → Int → Bool} {x y z:Int} (ha:EV Γ ta (some x) rInt) (hb:EV Γ tb (some y) rInt) (hc:EV Γ tc (some z) rInt):EV Γ (jd (rI0 fun i j => .bl (g i j)) (rI0 fun i j => .bl (g' i j)) ta tb tc) (some (g x y && g' y z)) aM :=
 (ev_chain ha hb hc).cast (by simp only [nza]; cases g x y <;> rfl)
end
end
noncomputable def m8 (K:PySem.W.Frag):Sp := fun vs H Q _ => ∃ (a:Addr) (ns:List Int), vs = [.ref a] ∧ Ints K H a ns ∧ ns.length ≤ 63 ∧ TbG H ∧ ∀ H', Q (.bl true) H'
theorem paired_ints {H:Hp}:∀ ns:List Int, Paired (rInt.rel H) (ns.map V.int) ns
 | [] => .nil
 | _ :: ns => .cons rfl (paired_ints ns)
noncomputable def ntF (H:Hp):Hp := fun b => match H b with
 | some (.tbl _) => none
 | x => x
theorem kG {H:Hp} {b:Addr} {o:HO} (h:ntF H b = some o):H b = some o ∧ dg o := by
 unfold ntF at h
 split at h
 ·cases h
 ·rename_i x hx
  refine ⟨h, ?_⟩
  cases o with
  | tbl ps => exact absurd h (hx ps)
  | _ => trivial
theorem ntF_of {H:Hp} {b:Addr} {o:HO} (h:H b = some o) (n:dg o):ntF H b = some o := by
 unfold ntF
 split
 ·rename_i ps e; rw [h] at e; cases e; exact n.elim
 ·exact h
theorem ntF_seq {K:PySem.W.Frag} {H:Hp} {a:Addr} {xs:List V} (h:SqL K H a xs):SqL K (ntF H) a xs := by
 rcases h with (h | ⟨o, h⟩) | h
 ·exact .inl (.inl (ntF_of h trivial))
 ·exact .inl (.inr ⟨o, ntF_of h trivial⟩)
 ·exact .inr h
theorem Fun.law {P:Program} {w:World} {K:PySem.W.Frag} {mg:Str → Option Value} {base:Heap} {st:Stmt} {N:List Str} {p:Str} {k n:Nat} {f:Addr} {fd:FuncData} {fl:List Int → Option Bool} (F:Fun K "law" "law" st f fd) (S:FnScope N [p] (ag st)) (hn:N.length - 1 = n) (hl:∀ ns, ns.length ≤ 63 → fl ns = some true)
  (h:m6 P w K mg base "law" st N k fun t => ∀ a, BV ((aOne (rScr K)).slots a ++ List.replicate n .any) t (fl a) (finV aM)):FnOk P w K mg base CX0 (k + 1) f fd [p] (m8 K) := by
 refine F.ok S (fun vs H Q E h => ?_) (fun cdv A outer s H vs Q E hr hsp => ?_)
 ·refine oq22 h fun a ns eq2_ _ => ?_; subst eq2_; rfl
 ·refine oq12 (h f cdv A outer s H E hr) fun t h1 h2 => ?_
  refine oq25 hsp fun a ns eq2_ hS hlen tg q => ?_; subst eq2_
  refine (oi12 t h1 (h2 ns _ (ntF H) _ H _ true (SR.begin_ (ra := aOne (rScr K)) (fun b o h => (kG h).1) (fun b ps h => (kG h).2) tg ⟨.ref a, rfl, a, _, rfl, ntF_seq hS, paired_ints ns⟩ hn) (hl ns hlen) ?_))
  intro v F' H' _ rv
  cases rv
  exact q H'
@[reducible] noncomputable def kon0:Kon := ⟨[], fun _ => ""⟩
theorem tbg0 {H:Hp} (h:Only H):@TbG kon0 H := @TbG.mk kon0 H (fun P hP => nomatch hP) fun P ps e => by
 rcases h P with z | ⟨o, xs, z⟩
 ·rw [z] at e; cases e
 ·rw [z] at e; cases e
end L2
namespace Pu
noncomputable def lt2 (a b:Int × Int):Bool := decide (a.1 < b.1 ∨ a.1 = b.1 ∧ a.2 < b.2)
noncomputable def le2 (a b:Int × Int):Bool := decide (a.1 < b.1 ∨ a.1 = b.1 ∧ a.2 ≤ b.2)
noncomputable def srtP (ps:List (Int × Int)):List (Int × Int) := ps.mergeSort le2
theorem bS (ps:List (Int × Int)):(srtP ps).Perm ps := List.mergeSort_perm _ _
theorem fO (a b c:Int × Int) (h1:le2 a b = true) (h2:le2 b c = true):le2 a c = true := by
 unfold le2 at *; simp only [decide_eq_true_eq] at *; omega
theorem fP (a b:Int × Int):(le2 a b || le2 b a) = true := by
 unfold le2; simp only [Bool.or_eq_true, decide_eq_true_eq]; omega
theorem dq (ps:List (Int × Int)):(srtP ps).Pairwise fun a b => le2 a b = true := List.pairwise_mergeSort fO fP ps
theorem kH {a b:Int × Int} (h1:le2 a b = true) (h2:le2 b a = true):a = b := by
 unfold le2 at *; simp only [decide_eq_true_eq] at *
 obtain ⟨a1, a2⟩ := a; obtain ⟨b1, b2⟩ := b
 simp only at *
 have e1:a1 = b1 := by omega
 have e2:a2 = b2 := by omega
 rw [e1, e2]
theorem c7 {α:Type} {le:α → α → Prop} (anti:∀ a b, le a b → le b a → a = b) {l m:List α} (hp:l.Perm m) (hl:l.Pairwise le) (hm:m.Pairwise le):l = m :=
 hp.eq_of_pairwise (fun a b _ _ h1 h2 => anti a b h1 h2) hl hm
end Pu
namespace L2
open PySem PySem.Spec PyProof.Rows
variable [Kon]
section
variable {X:Cx} {K:PySem.W.Frag}
theorem op_neDK (h:X.K = K) (hu:X.A.units + 64 < cLine):OpR X (compareOp .NotEq) (rNeD K) := by
 subst h
 intro pins s σ H x y v u Q I rx ry h
 refine oq26 h fun dx dy h1 h2 c1 c2 dp q => ?_
 refine oq11 (DatV.reads I h1 rx) fun as ra => ?_
 refine oq11 (DatV.reads I h2 ry) fun bs rb => ?_
 exact SeqAt.compareNe_reads ra rb c1 c2 (by omega) ⟨.bl _, H, I, rfl, q⟩
end
section
variable {prog:Program} {w:World} {A:Around} {E:Value → Shared → Prop} {s:Shared} {κ:SortKind} {c:Nat → Nat → Bool} {vs:List Value}
open PySem.W
noncomputable def bQ (vs:List Value) (p:Array Nat):Array Value := List.toArray (p.toList.map fun i => vs.getD i Value.none)
theorem hO (p:Array Nat):(bQ vs p).size = p.size := by unfold bQ; simp
end
section
variable {X:Cx} {K:PySem.W.Frag}
open PySem.W
theorem hU (a b:Int × Int):HT.lexLt [a.1, a.2] [b.1, b.2] = Pu.lt2 a b := by
 unfold Pu.lt2 HT.lexLt HT.lexLt HT.lexLt
 by_cases h:a.1 = b.1
 ·rw [if_pos h]
  by_cases h':a.2 = b.2
  ·rw [if_pos h', Bool.eq_iff_iff]; simp; omega
  ·rw [if_neg h', Bool.eq_iff_iff]; simp; omega
 ·rw [if_neg h, Bool.eq_iff_iff]; simp; omega
noncomputable def cm (h:Heap) (vs:List Value) (ps:List (Int × Int)):Prop := Paired (fun v p => ∃ a o xs n t u, v = Value.ref a ∧ h.get? a = some o ∧ o.cls = .type "tuple" ∧ o.data = .seq xs n ∧ xs = #[Value.int p.1 t, Value.int p.2 u]) vs ps
theorem cm.kept {h h':Heap} {vs:List Value} {ps:List (Int × Int)} (p:cm h vs ps) (k:∀ b o, h.get? b = some o → h'.get? b = some o):cm h' vs ps := Paired.imp2 (fun _ _ zq => oq63 zq fun a o xs n t u e1 e2 e3 => (oi63 a o xs n t u e1 (k _ _ e2) e3)) p
theorem cm.tups {h:Heap}:∀ {vs:List Value} {ps:List (Int × Int)}, cm h vs ps → ∃ fs, KatTups h vs fs ∧ fs.length = ps.length ∧ ∀ v ∈ fs, ∃ i t, v = Value.int i t
 | _, _, .nil => (oi13 ([]) trivial rfl (fun _ h => nomatch h))
 | _, _, .cons z r => by
  refine oq65 z fun a o xs n t u e1 e2 e3 e4 e5 => ?_
  refine oq13 (cm.tups r) fun fs g1 g2 g3 => ?_
  subst e1 e5
  refine (oi13 (_ :: fs) (KatTups.cons e2 e3 e4 rfl g1) (by simp [g2]) (fun v hv => ?_))
  rcases List.mem_cons.mp hv with rfl | hv
  ·exact (oi21 _ _ rfl)
  ·exact g3 v hv
theorem iY {prog:Program} {w:World} {A:Around} {s:Shared} {vs:List Value} {ps:List (Int × Int)} (p:cm s.heap vs ps) {i j:Nat} {C:Bool → Shared → Prop} (hi:i < vs.length) (hj:j < vs.length) (h:C (Pu.lt2 (ps.getD i (0, 0)) (ps.getD j (0, 0))) s) :
  kas_ask prog w A (tuples' true) vs i j C s := by
 have hl:vs.length = ps.length := Paired.length p
 have at':∀ k, k < vs.length → ∃ a o xs n t u, vs.getD k Value.none = Value.ref a ∧ s.heap.get? a = some o ∧ o.data = .seq xs n ∧ xs = #[Value.int (ps.getD k (0, 0)).1 t, Value.int (ps.getD k (0, 0)).2 u] := fun k hk => by
  obtain ⟨y, e, a, o, xs, n, t, u, e1, e2, e3, e4, e5⟩ := c0 p (List.getElem?_eq_getElem hk)
  have h1:vs.getD k Value.none = vs[k] := by simp [hk]
  have h2:ps.getD k (0, 0) = y := by simp [e]
  rw [h1, h2]
  exact (oi64 a o xs n t u e1 e2 e4 e5)
 refine oq64 (at' i hi) fun a o xs n t u e1 e2 e3 e4 => ?_
 refine oq64 (at' j hj) fun a' o' xs' n' t' u' f1 f2 f3 f4 => ?_
 unfold kas_ask
 rw [e1, f1]
 generalize ps.getD i (0, 0) = x at *
 generalize ps.getD j (0, 0) = y at *
 subst e4 f4
 refine kat_lt e2 e3 f2 f3 ?_
 refine kat_cons (wpAny_eqBool_int ?_)
 have second:x.1 = y.1 → KatLex prog w A true (decide ((#[Value.int x.1 t, Value.int x.2 u]:Array Value).size < (#[Value.int y.1 t', Value.int y.2 u']:Array Value).size)) C [(Value.int x.2 u, Value.int y.2 u')] 1 s := fun h1 => by
  refine kat_cons (wpAny_eqBool_int ?_)
  by_cases h2:x.2 = y.2
  ·rw [show (x.2 == y.2) = true by simpa using h2]
   refine kat_yes (kat_nil ?_)
   have e:Pu.lt2 x y = false := by unfold Pu.lt2; rw [decide_eq_false_iff_not]; omega
   rw [e] at h
   exact h
  ·rw [show (x.2 == y.2) = false by simpa using h2]
   refine kat_no (kat_one _ _ ?_)
   refine lt_int ?_
   have e:Pu.lt2 x y = decide (x.2 < y.2) := by unfold Pu.lt2; rw [Bool.eq_iff_iff]; simp; omega
   rw [e] at h
   exact h
 by_cases h1:x.1 = y.1
 ·rw [show (x.1 == y.1) = true by simpa using h1]
  exact kat_yes (second h1)
 ·rw [show (x.1 == y.1) = false by simpa using h1]
  refine kat_no ?_
  refine oneLt_int ?_
  have e:Pu.lt2 x y = decide (x.1 < y.1) := by unfold Pu.lt2; rw [Bool.eq_iff_iff]; simp; omega
  rw [e] at h
  exact h
theorem iZ {ps:List (Int × Int)} (hn:ps.Nodup):Srt.Lin (fun i j => Pu.lt2 (ps.getD i (0, 0)) (ps.getD j (0, 0))) ps.length := by
 refine ⟨fun i _ => ?_, fun i j k _ _ _ h1 h2 => ?_, fun i j hi hj hne h => ?_⟩
 ·unfold Pu.lt2; rw [decide_eq_false_iff_not]; omega
 ·unfold Pu.lt2 at *; rw [decide_eq_true_eq] at *; omega
 ·have ne:ps.getD i (0, 0) ≠ ps.getD j (0, 0) := by
   intro e
   have e1:ps.getD i (0, 0) = ps[i] := by simp [hi]
   have e2:ps.getD j (0, 0) = ps[j] := by simp [hj]
   rw [e1, e2] at e
   exact hne ((List.getElem_inj hn).mp e)
  generalize ps.getD i (0, 0) = x at *
  generalize ps.getD j (0, 0) = y at *
  unfold Pu.lt2 at *
  rw [decide_eq_false_iff_not] at h
  rw [decide_eq_true_eq]
  obtain ⟨x1, x2⟩ := x; obtain ⟨y1, y2⟩ := y
  have:¬ (x1 = y1 ∧ x2 = y2) := fun z => ne (by rw [z.1, z.2])
  simp only at *
  omega
theorem Vals.pairs {X:Cx} {pins:List (Addr × Obj)} {σ:St} {H:Hp} {s:Shared} (I:Inv X pins σ H s):∀ {vs:List V} {its:List Value} {ps:List (Int × Int)}, Vals vs its → Paired ((rT2 rInt rInt).rel H) vs ps → cm s.heap its ps
 | _, _, _, .nil, .nil => .nil
 | _, _, _, .cons r t, .cons z q => by
  refine .cons ?_ (Vals.pairs I t q)
  refine oq34 z fun p a b e1 e2 e3 e4 => ?_
  subst e1
  cases r
  cases e3
  cases e4
  refine oq02 ((show aG X.prog X.w H s.heap p (.tup [.int _, .int _]) from I.hok p _ e2)) fun _ zz => oq12 zz fun its' rv zz => oq13 zz fun o h1 h2 zz => oq11 zz fun n h3 => ?_
  cases rv with
  | cons r1 rv =>
   cases rv with
   | cons r2 rv =>
    cases rv
    refine oq11 r1 fun t1 eq1_ => ?_; subst eq1_
    refine oq11 r2 fun t2 eq1_ => ?_; subst eq1_
    exact (oi65 p o _ n t1 t2 rfl h1 h2 h3 rfl)
theorem up_srt {ps:List (Int × Int)} (hn:ps.Nodup) {p:Array Nat} (a:Srt.Arr ps.length p) (u:Srt.Up (fun i j => Pu.lt2 (ps.getD i (0, 0)) (ps.getD j (0, 0))) p ps.length):p.toList.map (fun i => ps.getD i (0, 0)) = Pu.srtP ps := by
 have e0:ps = (List.range ps.length).map fun i => ps.getD i (0, 0) := by
  apply List.ext_getElem
  ·simp
  ·intro i h1 h2; simp [h1]
 refine Pu.c7 (le := fun a b => Pu.le2 a b = true) (fun a b => Pu.kH) ?_ ?_ (Pu.dq ps)
 ·refine List.Perm.trans ?_ (Pu.bS ps).symm
  have := a.pm.map fun i => ps.getD i (0, 0)
  rw [← e0] at this
  exact this
 ·rw [List.pairwise_iff_getElem]
  intro i j hi hj hij
  have hsz:p.toList.length = ps.length := by rw [Array.length_toList]; exact a.sz
  rw [List.length_map] at hi hj
  have h := u i j hij (by exact nz1 hj (nz3 hsz))
  have g:∀ k (hk:k < p.toList.length), Srt.at' p k = p.toList[k] := fun k hk => by
   unfold Srt.at'
   simp at hk
   simp [hk]
  rw [g i hi, g j hj] at h
  rw [List.getElem_map, List.getElem_map]
  unfold Pu.lt2 at h
  unfold Pu.le2
  rw [decide_eq_true_eq] at *
  omega
end
section
variable {X:Cx} {K:PySem.W.Frag}
open PySem.W
theorem eX {α β:Type} {F:α → β → Prop} {l:List α} {m:List β} {x:α} {y:β} (p:Paired F l m) {i:Nat} (hi:i < l.length):F (l.getD i x) (m.getD i y) := by
 obtain ⟨b, e1, e2⟩ := c0 p (List.getElem?_eq_getElem hi)
 have h1:l.getD i x = l[i] := by simp [hi]
 have h2:m.getD i y = b := by simp [e1]
 rw [h1, h2]; exact e2
theorem bf {α β γ:Type} {F:β → γ → Prop} {f:α → β} {g:α → γ}:∀ {l:List α}, (∀ a ∈ l, F (f a) (g a)) → Paired F (l.map f) (l.map g)
 | [], _ => .nil
 | a :: l, h => .cons (h a (List.mem_cons.mpr (.inl rfl))) (bf fun b hb => h b (List.mem_cons.mpr (.inr hb)))
end
section
variable {Γ:List Slot} {α β:Type} {ta tb:TE} {K:PySem.W.Frag}
theorem cB {F:Hp}:∀ {vs:List V} {ns:List Int}, Paired (rInt.rel F) vs ns → vs = ns.map V.int
 | _, _, .nil => rfl
 | _, _, .cons h t => by rw [List.map_cons, ← cB t]; cases h; rfl
end
end L2
namespace Pu
variable {α:Type}
end Pu
namespace L2
open PySem PySem.Spec PyProof.Rows
variable [Kon]
section
variable {X:Cx} {K:PySem.W.Frag}
end
section
variable {Γ:List Slot} {α β T S:Type} {r:Rp α} {ta tb te:TE} {K:PySem.W.Frag} {o:Option (List Int)} {oi:Option Int}
theorem ev_ltT2 {o o':Option (Int × Int)} (h:EV Γ ta o (rT2 rInt rInt)) (h':EV Γ tb o' (rT2 rInt rInt)):EV Γ (tOp (rLtT K) ta tb) (o.bind fun a => o'.bind fun b => some (Pu.lt2 a b)) aM :=
 gU (r := rT2 rInt rInt) (s := rT2 rInt rInt) (fun F H x y a b c Q sb ⟨p, u, v, e1, h1, h2, h3⟩ ⟨p', u', v', e2, h4, h5, h6⟩ e k => by
  cases e
  cases h2; cases h3; cases h5; cases h6
  exact ⟨p, p', [a.1, a.2], [b.1, b.2], e1, e2, SqT.of (sb _ _ h1), SqT.of (sb _ _ h4), by rw [hU]; exact k _ rfl⟩) h h'
end
section
variable {Γ:List Slot} {α β T S R:Type} {r:Rp α} {rb:Rp β} {ta tb te:TE} {K:PySem.W.Frag} {u tl:TS} {fin:Fc → T → Ends → Prop} {φ:Addr → Prop} {xs:List α}
end
end L2
namespace L2
open PySem PySem.Spec PyProof.Rows
variable [Kon]
section
variable {prog:Program} {w:World} {A:Around} {E:Value → Shared → Prop} {s:Shared} {vs ks:List Value} {a kS:Addr}
open PySem.W
noncomputable def dt (prog:Program) (w:World) (A:Around) (f:Value) (kS:Addr) (Fi:List Value → Shared → Prop):List Value → List Value → Shared → Prop
 | [], ks, s => Fi ks s
 | x :: r, ks, s => wpAny (model prog w) A (call f [x]) (fun k s1 => (∃ e, s1.heap.get? kS = some (seqObj "list" (List.toArray ks) e)) ∧
   dt prog w A f kS Fi r (ks ++ [k]) { s1 with heap := s1.heap.update kS (Obj.mapSeq (·.push k)) }) (fun _ _ => False) s
noncomputable def d7 (prog:Program) (w:World) (A:Around) (a:Addr) (e1:Nat) (kS:Addr) (vs:List Value) (P:PySem.Fin → Shared → Prop) (ks:List Value) (s:Shared):Prop :=
 s.heap.get? a = some (seqObj "list" #[] e1) ∧ ∃ (κ:SortKind) (c:Nat → Nat → Bool), Srt.Lin c vs.length ∧ (2 ≤ vs.length → ∀ Q':SortKind → Shared → Prop, Q' κ s → wpAny (model prog w) A (keyKind' (List.toArray ks)) Q' (fun _ _ => False) s) ∧
  (∀ i j C, i < vs.length → j < vs.length → C (c i j) s → kas_ask prog w A κ ks i j C s) ∧
  ∀ p, Srt.Arr vs.length p → Srt.Up c p vs.length → P (.done (.ret .none)) { s with heap := (s.heap.update kS (Obj.mapSeq fun _ => #[])).update a (Obj.mapSeq fun _ => bQ vs p) }
end
end L2
namespace L2
open PySem PySem.Spec PyProof.Rows
variable [Kon]
noncomputable def g9 (X:Cx) (A:Around) (N':List Str) (qual:Str) (scope:Scope) (f:Addr) (cd:Value) (cl:List (Str × Addr)) (s:Shared) (H:Hp):Cx where
 prog := X.prog
 w := X.w
 K := X.K
 mg := X.mg
 base := X.base
 A := A.deeper (PySem.W.envX qual scope s.heap.objs.size f cd cl)
 N := N'
 s₀ := s
 H₀ := H
 env := PySem.W.envX qual scope s.heap.objs.size f cd cl
 outer := X.stack
 stack := PySem.W.envX qual scope s.heap.objs.size f cd cl :: X.stack
 ex := []
 fn := fun _ => false
 calm := true
 pn := []
 xe := fun _ _ => False
structure LamScope (X:Cx) (x:Str) (cap:List (Str × Nat)) (scope:Scope):Prop where
 kind:scope.kind = .function
 co:scope.isCoroutine = false
 gen:scope.isGenerator = false
 nocell:∀ y ∈ scope.names, y.2 ≠ .cell
 par:scope.names.lookup x = some .local
 free0:freeOk scope.names X.env.scope.names = true
 cap:iU X scope cap
noncomputable def cW (v:V) (cap:List (Str × Nat)) (σ:St):St := some v :: cap.map fun p => (σ[p.2]?).join
structure LamCl (X:Cx) (scope:Scope) (cl:List (Str × Addr)):Prop where
 of:∀ x c, cl.lookup x = some c → X.env.cells.lookup x = some c
 has:∀ y ∈ scope.names, y.2 = .free → ∃ c, cl.lookup y.1 = some c
section
variable {X:Cx} {A:Around} {pins:List (Addr × Obj)} {σ:St} {H:Hp} {s:Shared} {x:Str} {cap:List (Str × Nat)} {scope:Scope} {cl:List (Str × Addr)} {qual:Str} {f:Addr} {cd:Value}
theorem inv_lam {h1:Heap} {t':Nat} {v:V} {u:Value} (S:LamScope X x cap scope) (C:LamCl X scope cl) (I:Inv X pins σ H s) (hA:A.frames = some X.stack) (hh:A.handled = none) (r:RelV v u)
  (hns:h1.Ns s.heap.objs.size (fun y => [(x, u)].reverse.lookup y)) (hk:∀ b o, s.heap.get? b = some o → h1.get? b = some o) :
  Inv (g9 X A (x :: cap.map (·.1)) qual scope f cd cl s H) [] (cW v cap σ) H { s with heap := h1, toks := t' } := by
 have noA:∀ b:Addr, b ∉ (g9 X A (x :: cap.map (·.1)) qual scope f cd cl s H).ex := fun b z => absurd (show b ∈ ([]:List Addr) from z) (by simp)
 refine ⟨⟨I.ok.mod, S.kind, rfl, rfl, nz6 _, fun y z c h1 h2 => I.ok.inj y z c (C.of y c h1) (C.of z c h2), fun y hy => ?_, fun y c h _ => absurd (show (false = true) from h) (by decide), fun _ => hh, Around.frames_deeper hA, .inr ⟨rfl, rfl⟩, fun b z => absurd z (noA b), I.bs,
   nz4 I.ok.bsz I.sz, fun b _ _ => noA b, fun b z => absurd z (noA b), I.stack, I.stkFree⟩,
  rfl, I.bare, Un.kept hk, (oi12 _ hns (fun i y z e1 e2 e3 => ?_)), fun y c e => ?_, I.hok.fresh (nz6 _), fun y c e => I.freeC y c (C.of y c e), fun p hp => absurd (show p ∈ ([]:List (Addr × Obj)) from hp) (by simp), I.hok.kept hk, by simp [g9, cW]⟩
 ·have hy:scope.names.lookup y = some .cell ∨ scope.names.lookup y = some .free := hy
  rcases hy with hy | hy
  ·exact absurd rfl (S.nocell _ (PySem.mem_of_lookup hy))
  ·exact C.has _ (PySem.mem_of_lookup hy) rfl
 ·cases i with
  | zero =>
   have e1:some x = some y := e1
   have e2:some (some v) = some (some z) := e2
   cases e1; cases e2
   exact (oi12 u r (.inl ⟨S.par, by simp⟩))
  | succ i =>
   have e1:(cap.map (·.1))[i]? = some y := e1
   have e2:(cap.map fun p => (σ[p.2]?).join)[i]? = some (some z) := e2
   rw [List.getElem?_map] at e1 e2
   cases q:cap[i]? with
   | none => rw [q] at e1; cases e1
   | some p =>
    rw [q] at e1 e2
    have e1:p.1 = y := Option.some.inj e1
    have e2:(σ[p.2]?).join = some z := Option.some.inj e2
    subst e1
    have e4:σ[p.2]? = some (some z) := by
     cases q2:σ[p.2]? with
     | none => rw [q2] at e2; cases e2
     | some o => rw [q2] at e2; exact congrArg some e2
    refine oq03 (S.cap.get p (List.mem_of_getElem? q)) fun c1 c2 c3 => ?_
    refine oq12 I.loc fun m _ hl => ?_
    have vis:Vis X.env.scope p.1 := by
     rcases c3 with k | k
     ·exact .inr (.inl k)
     ·exact .inr (.inr k)
    refine oq12 (hl p.2 p.1 z c1 e4 vis) fun u' r' l => ?_
    refine (oi12 u' r' (.inr ⟨.inr c2, ?_⟩))
    rcases l with ⟨k, _⟩ | ⟨_, c, e, hc⟩
    ·rcases c3 with z | z
     ·rw [k] at z; cases z
     ·rw [k] at z; cases z
    ·refine oq11 (C.has (p.1, .free) (PySem.mem_of_lookup c2) rfl) fun c' hc' => ?_
     have:c' = c := Option.some.inj ((C.of _ _ hc').symm.trans e)
     subst this
     refine oq12 hc fun o ho hd => ?_
     exact ⟨c', hc', o, hk _ o ho, hd⟩
 ·refine oq22 (I.cell y c (C.of y c e)) fun v o ho hd => ?_
  exact ⟨v, o, hk _ o ho, hd⟩
open PySem.W in
theorem jy {params:Arguments} {body:Expr} {pm ctv:Value} {c':Addr} {tb:TE} {v:V} {u:Value} {Q:VK} (S:LamScope X x cap scope) (C:LamCl X scope cl) (I:Inv X pins σ H s) (ho:s.heap.get? f = some (kla_obj "<lambda>" qual params body scope cl pm c' ctv))
  (hA:A.frames = some X.stack) (hh:A.handled = none) (hd:A.depth < recursionLimit) (hc:H c' = some (.ext (aL c' qual))) (hb:∀ cl pm cd ct u, bindArgs (kla_fn "<lambda>" qual params body scope cl pm cd ct) ⟨[u], []⟩ = pure [(x, u)])
  (hp:PE (g9 X A (x :: cap.map (·.1)) qual scope f (.ref c') cl s H) body tb) (r:RelV v u) (h:tb (cW v cap σ) H Q):wpAny (model X.prog X.w) A (call (.ref f) [u]) (EP X pins σ Q) (fun _ _ => False) s := by
 have hcd:s.heap.CodeRec (.ref c') qual := (show aG X.prog X.w H s.heap c' (.ext (aL c' qual)) from I.hok c' _ hc).1
 refine wpAny_call (codeAny_mono (R := fun r s' => match r with | .ok (.ret u') => EP X pins σ Q u' s' | _ => False) (kla_callFunE hd ho rfl S.co S.gen rfl hcd ?_) fun r s' hr => ?_)
 ·rw [hb]
  refine wpAny_pure (wpAny_newFunctionEnv S.nocell (fun y hy => ?_) (fun h₁ hns hsb => ⟨I.nolimit.fresh _ hsb, ?_⟩) S.kind)
  ·rw [List.mem_singleton.mp hy]; exact S.par
  have hk₁:∀ b o, s.heap.get? b = some o → h₁.get? b = some o := fun b o e => hsb.extBut b o (nz7 (Heap.lt_size e)) (Heap.get?_push_of_some _ e)
  refine kla_codeExpr (wpAny_mono (hp [] _ _ H Q (inv_lam (qual := qual) (f := f) (cd := .ref c') S C I hA hh r hns hk₁) h) (fun u' s' he => ?_) fun _ _ z => z.elim)
  refine oq23 he fun v' H' J rv q => ?_
  exact I.after ⟨v', H', J.os, J.bare, J.base, J.hok, rv, q⟩
 ·cases r with
  | error e => exact hr.elim
  | ok fl =>
   cases fl with
   | ret u => exact hr
   | next => exact hr.elim
   | brk => exact hr.elim
   | cont => exact hr.elim
end
noncomputable def BM (mg:Str → Option Value) (base:Heap):Prop := ∃ bm ob, mg "__builtins__" = some (.ref bm) ∧ bm ≠ builtinsNs ∧ base.get? bm = some ob ∧ ob.cls = .type "module" ∧ ob.dict = some builtinsNs ∧ ob.data = .plain
noncomputable def TbSt (P:Addr) (H H':Hp):Prop := H' = H ∨ ∃ (ps:Array Value) (c:Addr) (pos:Pos), H P = some (.tbl ps) ∧ codeAmong pos ps.toList = none ∧ H c = none ∧ c ≠ P ∧
 H' = upd (upd H P (.tbl (ps ++ #[rawInt pos.line, rawInt pos.col, .ref c]))) c (.ext (aL c (Kon.Q P)))
theorem iG {pos pos':Pos} {c cv:Value} (l:List Value) (h:TriplesOk l) (hc:codeAmong pos' (l ++ [rawInt pos.line, rawInt pos.col, c]) = some cv):codeAmong pos' l = some cv ∨ cv = c := by
 fun_induction TriplesOk l with
 | case1 =>
  simp only [List.nil_append, rawInt, codeAmong] at hc
  split at hc
  ·cases hc; exact .inr rfl
  ·cases hc
 | case2 a t b u x rest ih =>
  simp only [List.cons_append, codeAmong] at hc ⊢
  split at hc
  ·rename_i z; rw [if_pos z]; exact .inl hc
  ·rename_i z; rw [if_neg z]; exact ih h hc
 | case3 l h1 h2 => exact h.elim
theorem TbSt.sm {P:Addr} {H H':Hp} (t:TbSt P H H'):Sm H H' := by
 rcases t with rfl | ⟨ps, c, pos, hP, hnf, hc, hcP, rfl⟩
 ·exact Sm.refl _
 have old:∀ b o, b ≠ P → H b = some o → upd (upd H P (.tbl (ps ++ #[rawInt pos.line, rawInt pos.col, .ref c]))) c (.ext (aL c (Kon.Q P))) b = some o := fun b o nb q => by
  rw [ac (ao q hc), ac nb]; exact q
 have atP:upd (upd H P (.tbl (ps ++ #[rawInt pos.line, rawInt pos.col, .ref c]))) c (.ext (aL c (Kon.Q P))) P = some (.tbl (ps ++ #[rawInt pos.line, rawInt pos.col, .ref c])) := by rw [ac (Ne.symm hcP), ai]
 refine ⟨fun b o n q => old b o (fun e => ?_) q, fun b qs q => ?_, fun g => ⟨fun P' hP' => ?_, fun P' qs q => ?_⟩⟩
 ·subst e; rw [hP] at q; cases q; exact n
 ·by_cases e:b = P
  ·subst e; rw [hP] at q; cases q; exact ⟨_, atP⟩
  ·exact ⟨#[], by rw [old b _ e q]; simp⟩
 ·refine oq11 (g.there P' hP') fun qs e => ?_
  by_cases e':P' = P
  ·subst e'; exact ⟨_, atP⟩
  ·exact ⟨qs, old _ _ e' e⟩
 ·by_cases e':P' = P
  ·subst e'
   rw [atP] at q
   cases q
   refine oq02 (g.good P' ps hP) fun g1 g2 => ?_
   have el:(ps ++ #[rawInt pos.line, rawInt pos.col, Value.ref c]).toList = ps.toList ++ [rawInt pos.line, rawInt pos.col, Value.ref c] := by simp
   rw [el]
   refine ⟨TriplesOk_snoc _ _ _ _ g1, fun pos' cv hcv => ?_⟩
   rcases iG _ g1 hcv with z | z
   ·refine oq12 (g2 pos' cv z) fun c2 e1 e2 => ?_
    exact (oi12 c2 e1 (old _ _ (fun e => by rw [e, hP] at e2; cases e2) e2))
   ·exact (oi12 c z ai)
  ·have nc:P' ≠ c := by rintro rfl; rw [ai] at q; cases q
   rw [ac nc, ac e'] at q
   refine oq02 (g.good P' qs q) fun g1 g2 => ?_
   exact ⟨g1, fun pos' cv hcv => by refine oq12 (g2 pos' cv hcv) fun c2 e1 e2 => ?_; exact (oi12 c2 e1 (old _ _ (fun e => by rw [e, hP] at e2; cases e2) e2))⟩
section
variable {X:Cx} {pins:List (Addr × Obj)} {σ:St} {H:Hp} {s:Shared} {x:Str} {cap:List (Str × Nat)} {scope:Scope} {c P:Addr} {params:Arguments} {body:Expr} {pos:Pos}
theorem Inv.addPin {f:Addr} {o:Obj} (I:Inv X pins σ H s) (h1:s.heap.get? f = some o) (h2:H f = none) (h3:f ≠ X.env.locals) (h4:f ∉ X.fs) (h5:∀ v, o.data ≠ .cell v):Inv X ((f, o) :: pins) σ H s :=
 I.pins_of fun p hp => by
  rcases List.mem_cons.mp hp with rfl | hp
  ·exact (oi05 h1 h2 h3 h4 h5)
  ·exact I.pin p (List.mem_append_right _ hp)
open PySem.W in
theorem mk_lam {Q:Value → Shared → Prop} (I:Inv X pins σ H s) (S:LamScope X x cap scope) (tg:TbG H) (hT:P ∈ Kon.T) (hq:Kon.Q P = X.env.qual ++ "<lambda>") (hcode:X.env.code = .ref c) (hC:codeHdIn X.K c P = true) (bm:BM X.mg X.base) (hdef:defaultsOf params X.env = ([], []))
  (h:∀ f cl pm c' ctv H' s', Inv X ((f, kla_obj "<lambda>" (Kon.Q P) params body scope cl pm c' ctv) :: pins) σ H' s' → TbSt P H H' → H' c' = some (.ext (aL c' (Kon.Q P))) → LamCl X scope cl → Q (.ref f) s') :
  wpAny (model X.prog X.w) X.A (eval (.Lambda params body scope pos) X.env) Q X.xe s := by
 refine oq11 (tg.there P hT) fun ps hP => ?_
 refine oq02 (tg.good P ps hP) fun t1 t2 => ?_
 have hPo:s.heap.get? P = some (tabObj ps) := (show aG X.prog X.w H s.heap P (.tbl ps) from I.hok P _ hP)
 refine oq13 (e8 (scope := scope) (env := X.env) fun y hy hf => I.ok.has y.1 (gP S.free0 y hy hf)) fun cl hcl hcl1 hcl2 => ?_
 have CL:LamCl X scope cl := ⟨hcl1, hcl2⟩
 have hgs := I.mod.glob.keeps I.bk
 refine oq26 bm fun b ob b1 b2 b3 b4 b5 b6 => ?_
 have b3' := I.bk _ _ b3
 have hgP:mainGlobals ≠ P := fun q => by
  refine oq33 hgs fun o es ep e hd _ => ?_
  rw [q, hPo] at e; cases e; cases hd
 have hbP:b ≠ P := fun q => by rw [q, hPo] at b3'; cases b3'; cases b4
 have hbG:b ≠ mainGlobals := fun q => by
  refine oq33 hgs fun o es ep e hd _ => ?_
  rw [q, e] at b3'; cases b3'; rw [hd] at b6; cases b6
 have bat:s.heap.BuiltinsAt X.mg P := ⟨b, ob, b1, b2, hbG, hbP, b3', b4, b5, b6⟩
 have CD := codeHd_of_K I.kIn hC
 refine kla_eval hdef ?_
 rw [← hq]
 cases hf:codeAmong pos ps.toList with
 | some cv =>
  refine oq12 (t2 pos cv hf) fun c' eq1_ e2 => ?_; subst eq1_
  refine kla_makeFunctionHit (mg := X.mg) hcl I.ok.glob hgs hcode CD hPo t1 hf bat fun ctv h' tk hk hsz => ?_
  have I1:Inv X pins σ H { s with heap := h'.push (kla_obj "<lambda>" (Kon.Q P) params body scope cl ((X.mg "__name__").getD .none) c' ctv), toks := tk } := I.kept fun b u e => Heap.get?_push_of_some _ (hk b u e)
  exact h h'.objs.size cl ((X.mg "__name__").getD .none) c' ctv H _ (I1.addPin (Heap.get?_push_size _ rfl) (I.hok.fresh hsz) (Nat.ne_of_gt (nz1 I.lt hsz)) (I.nofs hsz) fun v z => nomatch z) (.inl rfl) e2 CL
 | none =>
  refine kla_makeFunction (mg := X.mg) hcl I.ok.glob hgs hcode CD hPo t1 hf hgP bat fun c' ctv h' tk hx hge hlt hrec htb => ?_
  have hcn:H c' = none := I.hok.fresh hge
  have hcP:c' ≠ P := fun z => by rw [z, hP] at hcn; cases hcn
  have hPL:P ≠ X.env.locals := fun z => by rw [z] at hP; rw [I.free] at hP; cases hP
  have hsz:s.heap.objs.size ≤ h'.objs.size := nz5 (nz2 hge hlt)
  have unt:∀ b, H b = none → b ≠ P := fun b n z => by rw [z, hP] at n; cases n
  have kp:∀ b o, b ≠ P → s.heap.get? b = some o → (h'.push (kla_obj "<lambda>" (Kon.Q P) params body scope cl ((X.mg "__name__").getD .none) c' ctv)).get? b = some o := fun b o nb e => Heap.get?_push_of_some _ (hx b o nb e)
  have hP2:(h'.push (kla_obj "<lambda>" (Kon.Q P) params body scope cl ((X.mg "__name__").getD .none) c' ctv)).get? P = some (tabObj (ps ++ #[rawInt pos.line, rawInt pos.col, .ref c'])) := Heap.get?_push_of_some _ htb
  have lkO:∀ b o, b ≠ P → H b = some o → upd (upd H P (.tbl (ps ++ #[rawInt pos.line, rawInt pos.col, .ref c']))) c' (.ext (aL c' (Kon.Q P))) b = some o := fun b o nb q => by
   rw [ac (ao q hcn), ac nb]; exact q
  have lkP:upd (upd H P (.tbl (ps ++ #[rawInt pos.line, rawInt pos.col, .ref c']))) c' (.ext (aL c' (Kon.Q P))) P = some (.tbl (ps ++ #[rawInt pos.line, rawInt pos.col, .ref c'])) := by rw [ac (Ne.symm hcP), ai]
  have I1:Inv X pins σ (upd (upd H P (.tbl (ps ++ #[rawInt pos.line, rawInt pos.col, .ref c']))) c' (.ext (aL c' (Kon.Q P)))) { s with heap := h'.push (kla_obj "<lambda>" (Kon.Q P) params body scope cl ((X.mg "__name__").getD .none) c' ctv), toks := tk } := by
   refine I.step (g' := s.gens) (d' := s.drawn) (ch := []) (fun _ z => nomatch z) (fun b o _ _ _ e n => kp b o (unt b n) e) (fun b o _ _ _ e n => ⟨o.slots, kp b o (unt b n) e⟩) (fun b o _ e n => ?_) (fun b o _ e => ?_) (fun b xs q => ?_) (fun b o u q => ?_) (fun b qs q => ?_) (fun m hm => ?_) (fun a o q => ?_) I.bare
   ·rw [ac (nz7 (nz1 (Heap.lt_size e) hge)), ac (unt b n)]; exact n
   ·by_cases z:b = P
    ·subst z; exact ⟨_, hP2⟩
    ·exact ⟨o, kp b o z e⟩
   ·exact lkO b _ (fun z => by rw [z, hP] at q; cases q) q
   ·exact lkO b _ (fun z => by rw [z, hP] at q; cases q) q
   ·by_cases z:b = P
    ·subst z; rw [hP] at q; cases q; exact ⟨_, lkP⟩
    ·exact ⟨#[], by rw [lkO b _ z q]; simp⟩
   ·exact (hm.extBut hx (Ne.symm hPL)).push _
   ·by_cases z:a = c'
    ·subst z
     rw [ai] at q
     cases q
     refine oq44 hrec fun c2 oc vs t e2 hoc hd hv => ?_
     cases e2
     refine ⟨⟨a, oc, vs, t, rfl, Heap.get?_push_of_some _ hoc, hd, hv⟩, ⟨oc, Heap.get?_push_of_some _ hoc⟩, fun h1 h2 ⟨c3, oc3, vs3, t3, e3, z1, z2, z3⟩ kk => ?_⟩
     cases e3
     exact ⟨a, oc3, vs3, t3, rfl, kk _ z1, z2, z3⟩
    ·by_cases z2:a = P
     ·subst z2; rw [lkP] at q; cases q; exact hP2
     ·rw [ac z, ac z2] at q
      refine (I.hok a o q).stay (fun b u hb e => kp b u ?_ e) (fun b q => lkO b _ (fun z => by rw [z, hP] at q; cases q) q) fun b xs q => lkO b _ (fun z => by rw [z, hP] at q; cases q) q
      rcases hb with rfl | hb
      ·exact z2
      ·intro e; rw [e, hP] at hb; cases hb
  exact h h'.objs.size cl ((X.mg "__name__").getD .none) c' ctv _ _ (I1.addPin (Heap.get?_push_size _ rfl) (by rw [ac (Nat.ne_of_gt hlt), ac (fun z => by rw [z] at hsz; exact absurd (nz1 (I.hok.lt hP) hsz) (Nat.lt_irrefl _))]; exact I.hok.fresh hsz) (Nat.ne_of_gt (nz1 I.lt hsz)) (I.nofs hsz) fun v z => nomatch z)
   (.inr (oi35 ps c' pos hP hf hcn hcP rfl)) ai CL
end
end L2
namespace Pu
theorem getD_at {α:Type} {l:List α} {i:Nat} {d:α} (h:i < l.length):l.getD i d = l[i] := by simp [h]
noncomputable def keysOf (g:Int → Option (Int × Int)):List Int → Option (List (Int × Int))
 | [] => some []
 | x :: xs => (g x).bind fun k => (keysOf g xs).bind fun ks => some (k :: ks)
noncomputable def srtK (ns:List Int) (ps:List (Int × Int)):List Int := ((ps.zip ns).mergeSort fun a b => le2 a.1 b.1).map (·.2)
noncomputable def sortK (g:Int → Option (Int × Int)) (ns:List Int):Option (List Int) := (keysOf g ns).bind fun ps => if ns.length < 64 ∧ ps.Nodup then some (srtK ns ps) else none
theorem hV {g:Int → Option (Int × Int)}:∀ {ns:List Int} {ps:List (Int × Int)}, keysOf g ns = some ps → ps.length = ns.length
 | [], ps, h => by cases h; rfl
 | n :: ns, ps, h => by
  unfold keysOf at h
  refine oq12 (L2.a9 h) fun k _ h => ?_
  refine oq12 (L2.a9 h) fun ks e h => ?_
  cases h
  rw [List.length_cons, List.length_cons, hV e]
theorem srtK_of {ns:List Int} {ps:List (Int × Int)} (hl:ps.length = ns.length) (hn:ps.Nodup) {ix:List Nat} (hi:∀ i ∈ ix, i < ns.length) (h:ix.map (fun i => ps.getD i (0, 0)) = srtP ps):ix.map (fun i => ns.getD i 0) = srtK ns ps := by
 have hz:ix.map (fun i => (ps.zip ns).getD i ((0, 0), 0)) = (ps.zip ns).mergeSort fun a b => le2 a.1 b.1 := by
  have key:((ps.zip ns).mergeSort fun a b => le2 a.1 b.1).map (·.1) = srtP ps := by
   refine c7 (le := fun a b => le2 a b = true) (fun a b => kH) ?_ ?_ (dq ps)
   ·refine List.Perm.trans ((List.mergeSort_perm _ _).map _) ?_
    rw [show (ps.zip ns).map (·.1) = ps by rw [List.map_fst_zip]; exact nz3 hl]
    exact (bS ps).symm
   ·rw [List.pairwise_map]
    exact List.pairwise_mergeSort (fun a b c => fO a.1 b.1 c.1) (fun a b => fP a.1 b.1) (ps.zip ns)
  have inj:∀ a ∈ ps.zip ns, ∀ b ∈ ps.zip ns, a.1 = b.1 → a = b := by
   intro a ha b hb e
   obtain ⟨i, hi, rfl⟩ := List.mem_iff_getElem.mp ha
   obtain ⟨j, hj, rfl⟩ := List.mem_iff_getElem.mp hb
   simp only [List.getElem_zip] at e ⊢
   have:i = j := (List.getElem_inj hn).mp e
   subst this
   rfl
  have e1:(ix.map fun i => (ps.zip ns).getD i ((0, 0), 0)).map (·.1) = ((ps.zip ns).mergeSort fun a b => le2 a.1 b.1).map (·.1) := by
   rw [key, ← h, List.map_map]
   apply List.map_congr_left
   intro i hi'
   have h1 := hi i hi'
   show ((ps.zip ns).getD i ((0, 0), 0)).1 = ps.getD i (0, 0)
   rw [getD_at (by simp; omega), getD_at (by exact nz1 h1 (nz3 hl.symm))]
   simp
  have lm:∀ (l m:List ((Int × Int) × Int)), (∀ a ∈ l, a ∈ ps.zip ns) → (∀ a ∈ m, a ∈ ps.zip ns) → l.map (·.1) = m.map (·.1) → l = m := by
   intro l
   induction l with
   | nil => intro m _ _ e; cases m with
    | nil => rfl
    | cons _ _ => cases e
   | cons a l ih => intro m h1 h2 e; cases m with
    | nil => cases e
    | cons b m =>
     rw [List.map_cons, List.map_cons] at e
     injection e with e3 e4
     rw [inj a (h1 a (by simp)) b (h2 b (by simp)) e3, ih m (fun x hx => h1 x (by simp [hx])) (fun x hx => h2 x (by simp [hx])) e4]
  refine lm _ _ (fun a ha => ?_) (fun a ha => (List.mergeSort_perm _ _).subset ha) e1
  refine oq12 (List.mem_map.mp ha) fun i hi' eq2_ => ?_; subst eq2_
  have h1 := hi i hi'
  rw [getD_at (by simp; omega)]
  exact List.getElem_mem _
 unfold srtK
 rw [← hz, List.map_map]
 apply List.map_congr_left
 intro i hi'
 have h1 := hi i hi'
 show ns.getD i 0 = ((ps.zip ns).getD i ((0, 0), 0)).2
 rw [getD_at (l := ps.zip ns) (by simp; omega), getD_at h1]
 simp
end Pu
namespace L2
open PySem PySem.Spec PyProof.Rows
variable [Kon]
noncomputable def hW (tb:TE) (st:V → St) (fin:List V → Hp → Prop):List V → List V → Hp → Prop
 | [], ks, H => fin ks H
 | x :: r, ks, H => tb (st x) H fun k H' => hW tb st fin r (ks ++ [k]) H'
noncomputable def m9 (vs:List V) (Q:VK) (ks:List V) (H:Hp):Prop := ∃ ps:List (Int × Int), Paired ((rT2 rInt rInt).rel H) ks ps ∧ ks.length = vs.length ∧ ps.Nodup ∧
 ∀ q (ix:List Nat), H q = none → (∀ i ∈ ix, i < vs.length) → ix.map (fun i => ps.getD i (0, 0)) = Pu.srtP ps → Q (.ref q) (upd H q (.lst (ix.map fun i => vs.getD i .non)))
theorem Sm.seq {K:PySem.W.Frag} {H H':Hp} {a:Addr} {xs:List V} (e:Sm H H') (h:SqL K H a xs):SqL K H' a xs := by
 rcases h with (h | ⟨o, h⟩) | h
 ·exact .inl (.inl (e.kp _ _ trivial h))
 ·exact .inl (.inr ⟨o, e.kp _ _ trivial h⟩)
 ·exact .inr h
section
variable {X:Cx} {A:Around} {pins:List (Addr × Obj)} {σ:St} {H:Hp} {s:Shared} {x:Str} {cap:List (Str × Nat)} {scope:Scope} {cl:List (Str × Addr)} {f:Addr} {cd:Value}
theorem Inv.relist {kS:Addr} {o o':Obj} {h':Heap} (I:Inv X ((kS, o) :: pins) σ H s) (hz:X.s₀.heap.objs.size ≤ kS) (hp:∀ p ∈ X.pn ++ pins, p.1 ≠ kS) (hc:∀ v, o'.data ≠ .cell v) (k:∀ b ob, b ≠ kS → s.heap.get? b = some ob → h'.get? b = some ob) (h:h'.get? kS = some o') :
  Inv X ((kS, o') :: pins) σ H { s with heap := h' } := by
 refine oq05 (I.pin (kS, o) (List.mem_append_right _ (List.mem_cons.mpr (.inl rfl)))) fun p1 p2 p3 p4 p5 => ?_
 have I0:Inv X pins σ H s := I.pins_of fun p hp => I.pin p (List.mem_append_right _ (List.mem_cons.mpr (.inr hp)))
 have I1:Inv X pins σ H { s with heap := h' } := I0.turned (t' := s.toks) k p2 p3 (.inr hz) (fun y c e z => by
  refine oq22 (I.cell y c e) fun v ob ho hd => ?_
  rw [z] at ho
  have:some ob = some o := ho.symm.trans p1
  cases this
  exact p5 v hd) hp
 exact I1.addPin h p2 p3 p4 hc
open PySem.W in
theorem kI {params:Arguments} {body:Expr} {pm ctv:Value} {c':Addr} {qual:Str} {tb:TE} {D kS:Addr} {oD:Obj} {Fi:List Value → Shared → Prop} {fin:List V → Hp → Prop} (S:LamScope X x cap scope) (C:LamCl X scope cl)
  (hA:A.frames = some X.stack) (hh:A.handled = none) (hd:A.depth < recursionLimit) (hb:∀ cl pm cd ct u, bindArgs (kla_fn "<lambda>" qual params body scope cl pm cd ct) ⟨[u], []⟩ = pure [(x, u)])
  (hp:∀ f cd cl s H, PE (g9 X A (x :: cap.map (·.1)) qual scope f cd cl s H) body tb) (hz:X.s₀.heap.objs.size ≤ kS) (hpn:∀ p ∈ X.pn ++ ((D, oD) :: (f, kla_obj "<lambda>" qual params body scope cl pm c' ctv) :: pins), p.1 ≠ kS)
  (hfin:∀ (e:Nat) ks kvs H s, Inv X ((kS, seqObj "list" (List.toArray kvs) e) :: (D, oD) :: (f, kla_obj "<lambda>" qual params body scope cl pm c' ctv) :: pins) σ H s → Vals ks kvs → fin ks H → Fi kvs s) :
  ∀ (r:List V) (its:List Value) (ks:List V) (kvs:List Value) (e:Nat) (H:Hp) (s:Shared), Inv X ((kS, seqObj "list" (List.toArray kvs) e) :: (D, oD) :: (f, kla_obj "<lambda>" qual params body scope cl pm c' ctv) :: pins) σ H s →
   Vals r its → Vals ks kvs → (hW (fun σ H Q => H c' = some (.ext (aL c' qual)) ∧ tb σ H Q) (fun v => cW v cap σ) fin r ks H) → dt X.prog X.w A (.ref f) kS Fi its kvs s
 | _, _, ks, kvs, e, H, s, I, .nil, rk, h => hfin e ks kvs H s I rk h
 | _, _, ks, kvs, e, H, s, I, .cons (a := v) (b := u) r t, rk, h => by
  refine oq02 h fun h0 h => ?_
  have po := I.pin (f, kla_obj "<lambda>" qual params body scope cl pm c' ctv) (by simp)
  refine wpAny_mono (jy S C I po.1 hA hh hd h0 hb (hp _ _ _ _ _) r h) (fun k s1 he => ?_) fun _ _ z => z
  refine oq23 he fun kv H1 I1 rv q => ?_
  have pk := I1.pin (kS, seqObj "list" (List.toArray kvs) e) (by simp)
  refine ⟨⟨e, pk.1⟩, ?_⟩
  have ea:(List.toArray kvs).push k = List.toArray (kvs ++ [k]) := by simp
  obtain ⟨e2, hn⟩:∃ e2, (s1.heap.update kS (Obj.mapSeq (·.push k))).get? kS = some (seqObj "list" (List.toArray (kvs ++ [k])) e2) := ⟨_, by rw [← ea]; exact get?_update_seq pk.1 (·.push k)⟩
  exact kI S C hA hh hd hb hp hz hpn hfin _ _ _ _ e2 H1 _ (I1.relist hz hpn (fun v z => nomatch z) (fun b ob nb q => by rw [Heap.get?_update_ne _ _ _ _ nb]; exact q) hn) t (rk.append (.cons rv .nil)) q
open PySem.W in
end
end L2
namespace L2
open PySem PySem.Spec PyProof.Rows
variable [Kon]
theorem TbSt.ext {P:Addr} {F H H':Hp} (t:TbSt P H H') (sb:Same F H) (nt:NT F):Ext F H F H' := ⟨t.sm, Same.refl _, fun b o h => t.sm.kp b o (by
 cases o with
 | tbl ps => exact absurd h (nt b ps)
 | _ => trivial) (sb b o h), fun _ _ h => .inl h, fun z => z⟩
section
variable {Γ:List Slot} {te tb:TE} {K:PySem.W.Frag} {P:Addr} {cap:List (Str × Nat)}
theorem key_ev {C:Fc} {F0 H0:Hp} {σ:St} {c:Addr} {q:Str} {x:Str} {g:Int → Option (Int × Int)} {fin:List V → Hp → Prop} {ps:List (Int × Int)} (hc:(cap.map (·.2)).Nodup) (hb:∀ a, EV ((csl [x] cap Γ).set 0 (.fr rInt a)) tb (g a) (rT2 rInt rInt))
  (hfin:∀ F H ks, Ext F0 H0 F H → Paired ((rT2 rInt rInt).rel F) ks ps → fin ks H):∀ (r:List Int) (ks:List V) (kp pr:List (Int × Int)) (F H:Hp), SR C F Γ σ H → Ext F0 H0 F H → H c = some (.ext (aL c q)) → Paired ((rT2 rInt rInt).rel F) ks kp → Pu.keysOf g r = some pr → kp ++ pr = ps →
   hW (fun σ H Q => H c = some (.ext (aL c q)) ∧ tb σ H Q) (fun v => cW v cap σ) fin (r.map V.int) ks H
 | [], ks, kp, pr, F, H, S, x0, h0, hk, e, ep => by
  cases e
  rw [List.append_nil] at ep
  subst ep
  exact hfin F H ks x0 hk
 | a :: r, ks, kp, pr, F, H, S, x0, h0, hk, e, ep => by
  unfold Pu.keysOf at e
  refine oq12 (a9 e) fun k e1 e => ?_
  refine oq12 (a9 e) fun ks' e2 e => ?_
  cases e
  refine ⟨h0, hb a C F _ H _ k ((S.comp (loc := [x]) hc).setF 0 (r := rInt) (a := a) (v := .int a) rfl) e1 fun v F' H' x1 rv => ?_⟩
  exact key_ev hc hb hfin r _ (kp ++ [k]) ks' F' H' (S.grow x1) (x0.trans x1) (x1.hh.kp _ _ trivial h0) (Paired.app (Paired.imp2 (fun _ _ z => Rp.mono _ x1.ff z) hk) (.cons rv .nil)) e2 (by rw [List.append_assoc]; exact ep)
end
noncomputable def cC (K:PySem.W.Frag) (mg:Str → Option Value) (x:Str) (st:Stmt) (ps:List Str) (c:Addr):Prop := ∃ f fd, Fun K x x st f fd ∧ Binds K fd ps [] ∧ mg x = some (.ref f) ∧ fd.code = .ref c
theorem def_mkC {K:PySem.W.Frag} {mg:Str → Option Value} {h:Heap} {x:Str} {st:Stmt} {ps:List Str} {f c:Addr} {oc:Value} {od an:Option Addr} {osl:Array (Option Value)} {kV doc pm cdv ct:Value} (X:K.In h) (G:h.Ns mainGlobals mg)
  (a:PySem.W.nsIn K mainGlobals x = some (some (.ref f))) (l:K.lookup f = some ⟨oc, od, .func (PySem.W.fnOf x x (bF st) (aY st) (ag st) .none kV doc pm an cdv ct), osl⟩) (hcd:PySem.W.codeIn K cdv x = true) (k:PySem.W.keepIn K (.ref f) = true) (hc:cdv = .ref c)
  (hb:∀ (kV doc pm:Value) (an:Option Addr) (cdv ct:Value) (us:List Value), us.length = ps.length → bindArgs (PySem.W.fnOf x x (bF st) (aY st) (ag st) .none kV doc pm an cdv ct) ⟨us, []⟩ = pure (ps.zip us)):cC K mg x st ps c :=
 ⟨f, _, gN (st := st) l hcd k, (gN (st := st) l hcd k).binds hb, PySem.W.mg_of X G a, hc⟩
section
variable {P:Program} {w:World} {K:PySem.W.Frag} {mg:Str → Option Value} {base:Heap} {x:Str} {st:Stmt} {N ps:List Str} {k:Nat} {c:Addr} {τ γ:Type} {ra:RpA τ} {r:Rp γ}
theorem cC.has {sp:Sp} (D:cC K mg x st ps c) (S:FnScope N ps (ag st)) (len:∀ vs H Q E, sp vs H Q E → vs.length = ps.length)
  (hbody:∀ (f:Addr) (A:Around) (outer:List Env) (s:Shared) (H:Hp) (vs:List V) (Q:VK) (E:XK), Room k (A.deeper (envOfC x (ag st) s.heap.objs.size f (.ref c))) → sp vs H Q E →
   ∃ t, PSs (cxOf CX0 P w K mg base N x (ag st) f (.ref c) A outer s H E).nox (aY st) t ∧ t { nx := fun _ H' => Q .non H', rt := Q } (start N vs) H):Has P w K mg base (k + 1) x ps sp := by
 refine oq24 D fun f fd F b hm hc => ?_
 refine ⟨f, fd, ?_, hm, F.kp, b⟩
 refine oq71 F.ex fun oc od kV doc pm an cdv zz => oq23 zz fun ct osl e lk hcd => ?_
 subst e
 obtain rfl:cdv = .ref c := hc
 refine fn_of lk hcd S len fun A outer s H vs Q E hr hsp => ?_
 refine oq12 (hbody f A outer s H vs Q E hr hsp) fun t h q => ?_
 exact (oi12 t h.nox q)
noncomputable abbrev BodyAtC (P:Program) (w:World) (K:PySem.W.Frag) (mg:Str → Option Value) (base:Heap) (x:Str) (st:Stmt) (N:List Str) (k:Nat) (c:Addr) (G:TS → Prop):Prop :=
 ∀ (f:Addr) (A:Around) (outer:List Env) (s:Shared) (H:Hp) (E:XK), Room k (A.deeper (envOfC x (ag st) s.heap.objs.size f (.ref c))) → ∃ t, PSs (cxOf CX0 P w K mg base N x (ag st) f (.ref c) A outer s H E).nox (aY st) t ∧ G t
theorem cC.pV {f:τ → Option γ} {n:Nat} (D:cC K mg x st ps c) (S:FnScope N ps (ag st)) (hl:∀ a, (ra.slots a).length = ps.length) (hn:N.length - ps.length = n)
  (h:BodyAtC P w K mg base x st N k c fun t => ∀ a, BV (ra.slots a ++ List.replicate n .any) t (f a) (finV r)):Has P w K mg base (k + 1) x ps (spV ra r f) := by
 refine D.has S (fun vs H Q E h => ?_) fun fa A outer s H vs Q E hr hsp => ?_
 ·refine oq35 h fun F a c _ _ _ h1 _ => ?_; rw [(ra.ok h1).1, hl]
 ·refine oq12 (h fa A outer s H E hr) fun t h1 h2 => ?_
  refine oq36 hsp fun F a c sb nt tg hr' hf q => ?_
  refine (oi12 t h1 (h2 a _ F _ H _ c (SR.begin_ sb nt tg hr' (by rw [(ra.ok hr').1, hl]; exact hn)) hf ?_))
  exact fun v F' H' fr rv => q v F' H' ⟨fr.keep, fr.low, fr.sub, fr.base, fun _ => fr.nt⟩ rv
theorem cC.pL {f:τ → Option (List γ)} {n:Nat} (D:cC K mg x st ps c) (S:FnScope N ps (ag st)) (hl:∀ a, (ra.slots a).length = ps.length) (hn:N.length - ps.length = n)
  (h:BodyAtC P w K mg base x st N k c fun t => ∀ a, BV (ra.slots a ++ List.replicate n .any) t (f a) (finL r)):Has P w K mg base (k + 1) x ps (spL ra r f) := by
 refine D.has S (fun vs H Q E h => ?_) fun fa A outer s H vs Q E hr hsp => ?_
 ·refine oq35 h fun F a c _ _ _ h1 _ => ?_; rw [(ra.ok h1).1, hl]
 ·refine oq12 (h fa A outer s H E hr) fun t h1 h2 => ?_
  refine oq36 hsp fun F a c sb nt tg hr' hf q => ?_
  refine (oi12 t h1 (h2 a _ F _ H _ c (SR.begin_ sb nt tg hr' (by rw [(ra.ok hr').1, hl]; exact hn)) hf ?_))
  exact fun p vs F' H' fr hp rv => q p vs F' H' ⟨fr.keep, fr.low, fr.sub, fr.base, fun _ => fr.nt⟩ hp rv
end
end L2
namespace L2
open PySem PySem.Spec PyProof.Rows
@[reducible] noncomputable def konL (l:List (Addr × Str)):Kon := ⟨l.map (·.1), fun b => ((l.find? fun p => p.1 == b).map (·.2)).getD ""⟩
noncomputable def gs (K:PySem.W.Frag) (T:List Addr) (a:Addr) (H:Hp):Prop := ∀ b u, H b = some u → (b = a ∧ K.lookup a = none ∧ ∃ o xs, u = .frz o (.lst xs)) ∨ (b ∈ T ∧ u = .tbl #[])
theorem law_callT [Kon] {P:Program} {w:World} {K:PySem.W.Frag} {mg mb:Str → Option Value} {CX:CXT} {k:Nat} {fa a:Addr} {fd:FuncData} {x:Str} {sp:Sp} {s₁:Shared} {vs:List Value} {ns:List Int}
  (KX:K.In s₁.heap) (hns:s₁.heap.Ns mainGlobals mg) (hb:s₁.heap.Ns builtinsNs mb) (hbb:∀ x:Str, x ≠ "__name__" → mb x = bootBuiltins x) (hlim:s₁.heap.NoLimit) (hbm:BM mg s₁.heap) (hg:s₁.gens = #[])
  (ha:s₁.heap.get? a = some { cls := .type "list", data := .seq vs.toArray }) (hi:IntsAre vs ns) (hl:ns.length ≤ sizeLine) (hr:Room k callerA)
  (hT:∀ P ∈ Kon.T, s₁.heap.get? P = some (PySem.W.tabObj #[]) ∧ (∃ c, PySem.W.codeHdIn K c P = true) ∧ K.lookup P = none)
  (F:∀ base:Heap, K.In base → base.Ns mainGlobals mg → BM mg base → FnOk P w K mg base CX k fa fd [x] sp) (hbind:∀ (s:Shared) (u:Value), BindsTo s fd ⟨[u], []⟩ [(x, u)])
  (hsp:∀ H:Hp, TbG H → SqL K H a (ns.map V.int) → sp [.ref a] H (fun v _ => v = .bl true) fun _ _ _ => False)
  (hCX:∀ H e s', CX [] H s₁ (fun _ _ _ => False) e s' → False) :
  codeAny (model P w) callerA (.call (.ref fa) ⟨[.ref a], []⟩) (fun r s' => r = .ok (.ret (.bool true)) ∧ OldK s₁.heap s'.heap ∧ s'.os = s₁.os ∧ AllBare s'.gens) s₁ := by
 have rv := fH hi
 have lenV := hi.length
 have aT:a ∉ Kon.T := fun z => by
  have := (hT a z).1
  rw [ha] at this; cases this
 have core:∀ H:Hp, gs K Kon.T a H → TbG H → SqL K H a (ns.map V.int) → HOk P w H s₁.heap →
   codeAny (model P w) callerA (.call (.ref fa) ⟨[.ref a], []⟩) (fun r s' => r = .ok (.ret (.bool true)) ∧ OldK s₁.heap s'.heap ∧ s'.os = s₁.os ∧ AllBare s'.gens) s₁ := by
  intro H hA tg hS hok
  have free:∀ {b:Addr} {o:Obj}, s₁.heap.get? b = some o → (∀ xs n, o.data ≠ .seq xs n) → (∀ xs, o.data ≠ .fields xs) → H b = none := fun {b o} e d1 d2 => by
   cases q:H b with
   | none => rfl
   | some u =>
    rcases hA b u q with ⟨z, _⟩ | ⟨z, _⟩
    ·rw [z, ha] at e; cases e; exact absurd rfl (d1 _ _)
    ·rw [(hT b z).1] at e; cases e; exact absurd rfl (d2 _)
  have nsK:∀ {b:Addr} {m:Str → Option Value}, s₁.heap.Ns b m → (hidT s₁.heap H).Ns b m := fun {b m} ⟨o, es, ep, e, d, r⟩ => ⟨o, es, ep, gD e (free e (fun _ _ z => by rw [d] at z; cases z) fun _ z => by rw [d] at z; cases z), d, r⟩
  have hKb:K.In (hidT s₁.heap H) := fun b o e => gD (KX b o e) (by
   cases q:H b with
   | none => rfl
   | some u =>
    rcases hA b u q with ⟨z, z2, _⟩ | ⟨z, _⟩
    ·rw [z, z2] at e; cases e
    ·rw [(hT b z).2.2] at e; cases e)
  have hM:Mod K mg (hidT s₁.heap H) := ⟨hKb, nsK hns, (oi12 mb (nsK hb) hbb), oq12 hlim fun mc h1 h2 => ⟨mc, nsK h1, h2⟩⟩
  have hB:BM mg (hidT s₁.heap H) := by
   refine oq26 hbm fun bm ob b1 b2 b3 b4 b5 b6 => ?_
   exact ⟨bm, ob, b1, b2, gD b3 (free b3 (fun _ _ z => by rw [b6] at z; cases z) fun _ z => by rw [b6] at z; cases z), b4, b5, b6⟩
  have e0:Env0 P w K mg (hidT s₁.heap H) callerA [] s₁ H := ⟨rfl, hM, fun b o e => of_hidT e, nz3 (hidT_size _ _), trivial, fun b hb => absurd (show b ∈ ([]:List Addr) from hb) (by simp), hok, .of_eq hg⟩
  refine codeAny_mono ((F _ hKb (nsK hns) hB).run callerA [] s₁ H ⟨[.ref a], []⟩ [.ref a] [.ref a] _ _ hr e0 (hbind s₁ (.ref a)) (.cons rfl .nil) (hsp H tg hS)) fun r s' h => ?_
  cases r with
  | error e => exact (hCX H e s' h).elim
  | ok fl =>
   cases fl with
   | next => exact False.elim h
   | brk => exact False.elim h
   | cont => exact False.elim h
   | ret u =>
    refine oq26 h fun v H' os bare un hok' r' q => ?_
    have q':v = .bl true := q
    subst q'
    obtain rfl:u = Value.bool true := r'
    have nof:∀ b:Addr, b ∉ frs ([]:List Env) := fun b z => absurd (show b ∈ ([]:List Addr) from z) (by simp)
    refine (oi04 rfl ⟨fun b o e => ?_, fun b o e => un.there b o e (by simp)⟩ os bare)
    cases q:H b with
    | none => exact .inl (un.keep b o e q (nof b) (by simp))
    | some u =>
     rcases hA b u q with ⟨_, _, ob, xs, z⟩ | ⟨z, z2⟩
     ·subst z
      have z2 := un.frzs b ob _ q
      refine oq02 (hok b _ q) fun e1 _ => ?_
      refine oq02 (hok' b _ z2) fun e2 _ => ?_
      rw [e] at e1; cases e1
      exact .inl e2
     ·subst z2
      refine oq11 (un.tbls b #[] q) fun more z3 => ?_
      have z4:s'.heap.get? b = some (PySem.W.tabObj (#[] ++ more)) := (show aG P w H' s'.heap b (.tbl (#[] ++ more)) from hok' b _ z3)
      refine oq03 (hT b z) fun t1 nn1 _ => ?_; refine oq11 nn1 fun c t2 => ?_
      rw [t1] at e
      cases e
      exact .inr (.inl ⟨((PySem.W.codeHd_of_K KX t2).tab t1).isCodeTable, rfl, #[], more, rfl, z4⟩)
 classical
 have tgOf:∀ H:Hp, (∀ P ∈ Kon.T, H P = some (.tbl #[])) → gs K Kon.T a H → TbG H := fun H h1 h2 => ⟨fun P hP => ⟨#[], h1 P hP⟩, fun P ps e => by
  rcases h2 P _ e with ⟨_, _, o, xs, z⟩ | ⟨_, z⟩
  ·cases z
  ·cases z; exact ⟨trivial, fun pos cv h => by simp [codeAmong] at h⟩⟩
 cases hk:K.lookup a with
 | some o =>
  have e := KX a o hk
  rw [ha] at e
  cases e
  have s1:gs K Kon.T a (fun b => if b ∈ Kon.T then some (.tbl #[]) else none) := fun b u z => by
   by_cases hb:b ∈ Kon.T
   ·exact .inr ⟨hb, (Option.some.inj ((if_pos hb).symm.trans z)).symm⟩
   ·exact nomatch (if_neg hb).symm.trans z
  refine core (fun b => if b ∈ Kon.T then some (.tbl #[]) else none) s1 (tgOf _ (fun P hP => if_pos hP) s1) (.inr (oi36 _ vs.toArray _ hk rfl rfl rfl (by rw [List.size_toArray, lenV]; exact hl) (by simpa using rv))) fun b u z => ?_
  rcases s1 b u z with ⟨_, z2, _⟩ | ⟨z1, z2⟩
  ·rw [hk] at z2; cases z2
  ·subst z2; exact (hT b z1).1
 | none =>
  have s1:gs K Kon.T a (fun b => if b = a then some (.frz { cls := .type "list", data := .seq vs.toArray } (.lst (ns.map V.int))) else if b ∈ Kon.T then some (.tbl #[]) else none) := fun b u z => by
   by_cases hb:b = a
   ·exact .inl ⟨hb, hk, _, _, (Option.some.inj ((if_pos hb).symm.trans z)).symm⟩
   ·have z := (if_neg hb).symm.trans z
    by_cases hb:b ∈ Kon.T
    ·exact .inr ⟨hb, (Option.some.inj ((if_pos hb).symm.trans z)).symm⟩
    ·exact nomatch (if_neg hb).symm.trans z
  refine core _ s1 (tgOf _ (fun P hP => (if_neg fun z:P = a => aT (z ▸ hP)).trans (if_pos hP)) s1) (.inl (.inr ⟨{ cls := .type "list", data := .seq vs.toArray }, if_pos rfl⟩)) fun b u z => ?_
  by_cases hb:b = a
  ·have z' := (if_pos hb).symm.trans z
   cases z'
   subst hb
   exact ⟨ha, by rw [List.length_map]; exact hl, vs, _, rv, ha⟩
  ·have z' := (if_neg hb).symm.trans z
   by_cases hb:b ∈ Kon.T
   ·have z' := (if_pos hb).symm.trans z'
    cases z'
    exact (hT b hb).1
   ·exact nomatch (if_neg hb).symm.trans z'
theorem walk_ofT [Kon] {l:PySem.W.OpenLaw} {n k:Nat} {q:Program} {loose:List Str} {XP:(Str → Option Value) → Heap → Prop} {YP:World → Heap → Prop} {d:DefRec} {K:Params → PySem.W.Frag} {sp:World → Sp} {x:Str}
  (hn:l.most = some n) (hn2:n ≤ sizeLine) (hdf:d.params.defaults = []) (hr:Room k callerA)
  (hY:∀ (w:World) (h:Heap), YP w h → (K w.params).In h ∧ ∀ P ∈ Kon.T, h.get? P = some (PySem.W.tabObj #[]))
  (hC:∀ (w:World), ∀ P ∈ Kon.T, (K w.params).lookup P = none)
  (F:∀ (w:World) (mg:Str → Option Value) (fa:Addr) (h:Heap), (K w.params).In h → h.Ns mainGlobals mg → mg d.name = some (.ref fa) →
   ∃ fd:FuncData, (∀ (s:Shared) (u:Value), BindsTo s fd ⟨[u], []⟩ [(x, u)]) ∧ (∀ P ∈ Kon.T, ∃ c, PySem.W.codeHdIn (K w.params) c P = true) ∧
    ∀ base:Heap, (K w.params).In base → base.Ns mainGlobals mg → BM mg base → FnOk l.prog w (K w.params) mg base CX0 k fa fd [x] (sp w))
  (hsp:∀ (w:World) (H:Hp) (a:Addr) (ns:List Int), ns.length ≤ n → TbG H → SqL (K w.params) H a (ns.map V.int) → sp w [.ref a] H (fun v _ => v = .bl true) fun _ _ _ => False) :
  PySem.W.WalkO q loose XP YP l.row.toRowW d [] (fun f vs => PySem.call f vs) := by
 refine Att.km hn hdf fun w s₀ s₁ mg mb fa o pm cd doc a vs ns G Y ho hd _ hmg hobj hints hlen hg => ?_
 refine oq02 (hY w _ Y) fun KX KT => ?_
 refine oq13 (F w mg fa _ KX G.T.g hmg) fun fd hb hcd hF => ?_
 exact law_callT KX G.T.g G.T.b G.T.builtins G.T.nolimit G.T.bmain hg hobj hints (nz4 hlen hn2) hr (fun P hP => (oi03 (KT P hP) (hcd P hP) (hC w P hP))) hF hb (fun H tg hS => hsp w H a ns hlen tg hS) fun H e s' z => z
end L2
namespace Pu
noncomputable def lrng (j:Int):Option (List Int) := if -(2 ^ 62) ≤ j ∧ j < 2 ^ 62 ∧ j.toNat ≤ 16777216 then some (nats j.toNat) else none
end Pu
namespace L2
open PySem PySem.Spec PyProof.Rows
variable [Kon]
structure LamAt (K:PySem.W.Frag) (mg:Str → Option Value) (base:Heap) (c P:Addr) (x:Str):Prop where
 bm:BM mg base
 hd:PySem.W.codeHdIn K c P = true
 mem:P ∈ Kon.T
 nm:Kon.Q P = (x ++ ".<locals>.") ++ "<lambda>"
section
variable {X:Cx} {a:Expr} {te:TE} {p p2 pos pos2:Pos}
noncomputable def tRng (te:TE):TE := fun σ H Q => te σ H fun v H1 => ∃ j:Int, v = .int j ∧ -(2 ^ 62) ≤ j ∧ j < 2 ^ 62 ∧ ∀ q, H1 q = none → Q (.ref q) (upd H1 q (.rng 0 j))
theorem pe_rng (he:PE X a te) (hg:Gl X "range") (hm:X.mg "range" = none) (hs:starEach [a] X.env = [(false, eval a X.env)] := by rfl):PE X (.Call (.Name "range" p) [a] [] pos) (tRng te) := by
 intro pins s σ H Q I h
 have h1:(aH te tNil) σ H fun xs H1 => ∃ j:Int, xs = [.int j] ∧ -(2 ^ 62) ≤ j ∧ j < 2 ^ 62 ∧ ∀ q, H1 q = none → Q (.ref q) (upd H1 q (.rng 0 j)) := by
  show te σ H fun x H1 => ∃ j:Int, [x] = [.int j] ∧ -(2 ^ 62) ≤ j ∧ j < 2 ^ 62 ∧ ∀ q, H1 q = none → Q (.ref q) (upd H1 q (.rng 0 j))
  have e:(fun (x:V) H1 => ∃ j:Int, [x] = [.int j] ∧ -(2 ^ 62) ≤ j ∧ j < 2 ^ 62 ∧ ∀ q, H1 q = none → Q (.ref q) (upd H1 q (.rng 0 j))) = fun x H1 => ∃ j:Int, x = .int j ∧ -(2 ^ 62) ≤ j ∧ j < 2 ^ 62 ∧ ∀ q, H1 q = none → Q (.ref q) (upd H1 q (.rng 0 j)) := by
   funext x H1; simp
  rw [e]; exact h
 refine wpAny_Call_Name_kw (cN I hg hm boot_range (PyProof.Rows.callWith_type1 (thn (a7 he aa hs pos pins s σ H _ I h1) fun us s1 zq => oq23 zq fun vs H1 I1 r1 q1 => ?_) hs rfl))
 refine oq14 q1 fun j e q1 q2 q => ?_
 subst e
 cases r1 with
 | cons r rr =>
  cases rr
  refine oq11 r fun t eq1_ => ?_; subst eq1_
  exact call_range_1 ⟨.ref _, _, I1.laid (o := .rng 0 j) (fun b o e => Heap.get?_push_of_some _ e) (nz6 _) ⟨_, _, _, Heap.get?_push_size _ rfl⟩, rfl, q _ (I1.hok.fresh (nz6 _))⟩
noncomputable def rListR:List V → Hp → VK → Prop := fun xs H Q => ∃ r j, xs = [.ref r] ∧ H r = some (.rng 0 j) ∧ -(2 ^ 62) ≤ j ∧ j < 2 ^ 62 ∧ j.toNat ≤ 16777216 ∧ ∀ q, H q = none → Q (.ref q) (upd H q (.lst ((Pu.nats j.toNat).map V.int)))
theorem ma (hc:X.calm = true):ci X (.type "list") rListR := by
 intro pins s σ H xs us Q I r hh
 refine oq26 hh fun l j eq2_ hR h1 h2 h3 q => ?_; subst eq2_
 refine oq12 (vals1 r) fun u eq1_ ru => ?_; subst eq1_
 cases ru
 refine oq31 ((show aG X.prog X.w H s.heap l (.rng 0 j) from I.hok l _ hR)) fun t u v ho => ?_
 refine call_list_range (n := j.toNat) (I.ok.hd hc) ho (small_one (by omega) (by omega) h1 h2) (by rw [rangeSize_one]; split <;> omega) (by omega) fun h' tk acc c' hk hD hacc => ?_
 have hl:acc.toList.length = j.toNat := by rw [Array.length_toList]; exact hacc.1
 refine ⟨.ref _, _, I.laid (t' := tk) (o := .lst ((Pu.nats j.toNat).map V.int)) hk (nz6 _) ⟨?_, acc.toList, c', ?_, by rw [hD]⟩, rfl, q _ (I.hok.fresh (nz6 _))⟩
 ·rw [sizeLine_eq]; simp [Pu.nats]; omega
 ·refine fH ?_
  have key:∀ (l:List Value) (k:Nat), (∀ (i:Nat) v, l[i]? = some v → ∃ t, v = Value.int ((k + i:Nat):Int) t) → IntsAre l ((List.range' k l.length).map fun (i:Nat) => (i:Int)) := by
   intro l
   induction l with
   | nil => exact fun k _ => .nil
   | cons x l ih =>
    intro k hx
    refine oq11 (hx 0 x rfl) fun t e => ?_
    subst e
    rw [List.length_cons, List.range'_succ, List.map_cons]
    refine .cons _ t (ih (k + 1) fun i v e => ?_)
    refine oq11 (hx (i + 1) v (by simpa using e)) fun t e2 => ?_
    exact ⟨t, by rw [e2]; congr 2; try omega⟩
  have := key acc.toList 0 fun i v e => by
   obtain ⟨t, e2⟩ := hacc.2 i v (by rw [← Array.getElem?_toList]; exact e)
   exact ⟨t, by rw [e2]; congr 1; try omega⟩
  rw [hl] at this
  unfold Pu.nats
  rw [List.range_eq_range']
  exact this
end
theorem kJ {Γ:List Slot} {te:TE} {oi:Option Int} (h:EV Γ te oi rInt):EVL Γ (tCB rListR (aH (tRng te) tNil)) (oi.bind fun j => Pu.lrng j) rInt := by
 intro C F σ H Q xs S e k
 refine oq12 (a9 e) fun j e1 e => ?_
 unfold Pu.lrng at e
 split at e
 ·rename_i hh
  cases e
  refine h C F σ H _ j S e1 fun v F' H' x1 r1 => (oi14 j r1 hh.1 hh.2.1 (fun q hq => ⟨q, j, rfl, ai, hh.1, hh.2.1, hh.2.2, fun l hl => k l _ F' _ (x1.trans (Ext.newH x1.sub hq)) hl (paired_ints _)⟩))
 ·cases e
end L2
namespace Pu
noncomputable def gb (g:Int → Option (Int × Int)):List Int → Int → Int × Int → Option Int
 | [], b, _ => some b
 | x :: xs, b, kb => (g x).bind fun k => if lt2 k kb = true then gb g xs x k else gb g xs b kb
noncomputable def minK (g:Int → Option (Int × Int)):List Int → Option Int
 | [] => none
 | x :: xs => (g x).bind fun k => gb g xs x k
end Pu
namespace L2
open PySem PySem.Spec PyProof.Rows
variable [Kon]
noncomputable def fQ (tb:TE) (st:V → St) (sq:Hp → Prop) (Q:VK):List V → V → V → Hp → Prop
 | [], b, _, H => sq H ∧ Q b H
 | x :: r, b, kb, H => sq H ∧ tb (st x) H fun k H' => ∃ pk pb, (rT2 rInt rInt).rel H' k pk ∧ (rT2 rInt rInt).rel H' kb pb ∧ (if Pu.lt2 pk pb = true then fQ tb st sq Q r x k H' else fQ tb st sq Q r b kb H')
noncomputable def tMinK (K:PySem.W.Frag) (P:Addr) (cap:List (Str × Nat)) (te tb:TE):TE := fun σ H Q => te σ H fun v H1 => ∃ p x r, v = .ref p ∧ SqL K H1 p (x :: r) ∧ TbG H1 ∧
 ∀ H2 c, TbSt P H1 H2 → H2 c = some (.ext (aL c (Kon.Q P))) → H2 c = some (.ext (aL c (Kon.Q P))) ∧ tb (cW x cap σ) H2 fun k H' => fQ (fun σ H Q => H c = some (.ext (aL c (Kon.Q P))) ∧ tb σ H Q) (fun x => cW x cap σ) (fun H => SqL K H p (x :: r)) Q r x k H'
section
variable {X:Cx} {pins:List (Addr × Obj)} {σ:St} {H:Hp} {s:Shared} {x:Str} {cap:List (Str × Nat)} {scope:Scope} {cl:List (Str × Addr)} {f:Addr} {cd:Value}
theorem Inv.swap {a b:Addr × Obj} (I:Inv X (a :: b :: pins) σ H s):Inv X (b :: a :: pins) σ H s := I.pins_of fun p hp => I.pin p (List.mem_append_right _ (by
 simp only [List.mem_cons] at hp ⊢
 rcases hp with h | h | h
 ·exact .inr (.inl h)
 ·exact .inl h
 ·exact .inr (.inr h)))
theorem Inv.drop1 {a:Addr × Obj} (I:Inv X (a :: pins) σ H s):Inv X pins σ H s := I.pins_of fun p hp => I.pin p (List.mem_append_right _ (List.mem_cons.mpr (.inr hp)))
theorem Inv.relistT {kS:Addr} {o o':Obj} {h':Heap} {t':Nat} (I:Inv X ((kS, o) :: pins) σ H s) (hz:X.s₀.heap.objs.size ≤ kS) (hp:∀ p ∈ X.pn ++ pins, p.1 ≠ kS) (hc:∀ v, o'.data ≠ .cell v) (k:∀ b ob, b ≠ kS → s.heap.get? b = some ob → h'.get? b = some ob) (h:h'.get? kS = some o') :
  Inv X ((kS, o') :: pins) σ H { s with heap := h', toks := t' } := by
 have I1 := (I.relist hz hp hc k h).tok t'
 exact I1
theorem pair_lt {a b:V} {u v:Value} {pa pb:Int × Int} {A:Around} {E:Value → Shared → Prop} {Q:Value → Shared → Prop} (I:Inv X pins σ H s) (ra:RelV a u) (rb:RelV b v) (ha:(rT2 rInt rInt).rel H a pa) (hb:(rT2 rInt rInt).rel H b pb) (hu:A.units < cLine) (h:Q (.bool (Pu.lt2 pa pb)) s) :
  wpAny (model X.prog X.w) A (compareOp .Lt u v) Q E s := by
 refine oq34 ha fun p a1 a2 eq3_ h1 h2 h3 => ?_; subst eq3_
 refine oq34 hb fun p' b1 b2 eq3_ h4 h5 h6 => ?_; subst eq3_
 cases ra; cases rb
 cases h2; cases h3; cases h5; cases h6
 refine oq13 (I.tuple (SqT.of (K := X.K) h1)) fun its r1 p1 _ => ?_
 refine oq13 (I.tuple (SqT.of (K := X.K) h4)) fun its2 r2 p2 _ => ?_
 have i1:IntsAre its.toArray.toList [pa.1, pa.2] := intsAre_of (by simpa using r1)
 have i2:IntsAre its2.toArray.toList [pb.1, pb.2] := intsAre_of (by simpa using r2)
 refine HT.dY p1 p2 i1 i2 hu ?_
 rw [hU]; exact h
open PySem.W in
theorem jz {params:Arguments} {body:Expr} {pm ctv:Value} {c':Addr} {qual:Str} {tb:TE} {I9 S9 l:Addr} {vs:List V} {Q:VK} (S:LamScope X x cap scope) (C:LamCl X scope cl)
  (hA:X.A.frames = some X.stack) (hh:X.A.handled = none) (hd:X.A.depth < recursionLimit) (hu:X.A.in1.units < cLine) (hb:∀ cl pm cd ct u, bindArgs (kla_fn "<lambda>" qual params body scope cl pm cd ct) ⟨[u], []⟩ = pure [(x, u)])
  (hp:∀ f cd cl s H, PE (g9 X X.A.in1 (x :: cap.map (·.1)) qual scope f cd cl s H) body tb) (hzI:X.s₀.heap.objs.size ≤ I9) (hzS:X.s₀.heap.objs.size ≤ S9) (hIS:I9 < S9)
  (hpn:∀ p ∈ X.pn ++ ((f, kla_obj "<lambda>" qual params body scope cl pm c' ctv) :: pins), p.1 < I9) :
  ∀ (r:List V) (j:Nat) (bV kV:V) (vb kb:Value) (c:Nat) (oI:Obj) (H:Hp) (s:Shared), vs.drop j = r → j ≤ vs.length →
   Inv X ((S9, seqObj "list" #[vb, kb] c) :: (I9, oI) :: (f, kla_obj "<lambda>" qual params body scope cl pm c' ctv) :: pins) σ H s → s.heap.IsListIter I9 l j → RelV bV vb → RelV kV kb →
   fQ (fun σ H Q => H c' = some (.ext (aL c' qual)) ∧ tb σ H Q) (fun v => cW v cap σ) (fun H => SqL X.K H l vs) Q r bV kV H →
   codeAny (model X.prog X.w) X.A (.builtin "min.loop" ⟨[.ref I9, .ref f, .ref S9], []⟩) (fun r s' => match r with | .ok (.ret u) => EP X ((f, kla_obj "<lambda>" qual params body scope cl pm c' ctv) :: pins) σ Q u s' | _ => False) s
 | [], j, bV, kV, vb, kb, c, oI, H, s, er, hj, I, hit, rb, rk, h => by
  refine oq02 h fun hS hq => ?_
  have hjl:j = vs.length := by
   have := congrArg List.length er
   simp at this; (clear hq hS rk rb hit I er hpn hIS hzS hzI hp hb hu hd hh hA C S; omega)
  subst hjl
  have pS := I.pin (S9, seqObj "list" #[vb, kb] c) (by simp)
  have pI := I.pin (I9, oI) (by simp)
  refine oq13 (I.list hS) fun its rv ht hz => ?_
  have hlI:l ≠ I9 := fun z => by
   refine oq13 ht.isList fun o ho hc _ => ?_
   refine oq13 hit fun o2 ho2 hc2 _ => ?_
   rw [z, ho2] at ho; cases ho; rw [hc2] at hc; simp at hc
  have W := Walks.list (prog := X.prog) (w := X.w) (A := X.A.in1) hh I9 l hlI its.toArray
  have hsz:its.toArray.size = vs.length := by rw [List.size_toArray, ← rv.length]
  refine codeAny_builtin PySem.F.entry_min_loop ?_
  rw [Around.under_plainId PySem.F.plain_min_loop _]
  show wpAny _ X.A.in1 (seqItems? (.ref S9) >>= _) _ _ _
  refine wpAny_bind (wpAny_seqItems pS.1 rfl ?_)
  show wpAny _ X.A.in1 (tryCatch (pyNext (.ref I9)) _ >>= _) _ _ _
  refine wpAny_bind (wpAny_tryCatch (W.done _ _ _ ⟨by rw [hsz]; exact hit, ht.isList⟩ fun h' tk' hk' => ?_))
  have hk2:∀ b o, b ≠ I9 → s.heap.get? b = some o → h'.get? b = some o := fun b o nb e => hk' b o (by simpa using nb) e
  have hS' := hk2 S9 _ (Nat.ne_of_gt hIS) pS.1
  show wpAny _ X.A.in1 (updateSeq S9 (fun _ => #[]) >>= _) _ _ _
  refine wpAny_bind ?_
  refine wpAny_updateSeq hS' rfl (wpAny_bind (wpAny_letGo (wpAny_pure ?_)))
  have I0:Inv X ((f, kla_obj "<lambda>" qual params body scope cl pm c' ctv) :: pins) σ H s := I.drop1.drop1
  have noc:∀ a o, (a, o) ∈ X.pn ++ ((S9, seqObj "list" #[vb, kb] c) :: (I9, oI) :: (f, kla_obj "<lambda>" qual params body scope cl pm c' ctv) :: pins) → ∀ y c, X.env.cells.lookup y = some c → c ≠ a := fun a o hm y c e z => by
   refine oq22 (I.cell y c e) fun v ob ho hd => ?_
   refine oq05 (I.pin (a, o) hm) fun q1 _ _ _ q5 => ?_
   rw [z] at ho
   have:some ob = some o := ho.symm.trans q1
   cases this
   exact q5 v hd
  have I1 := I0.turned (t' := tk') hk2 pI.2.1 pI.2.2.1 (.inr hzI) (noc I9 oI (by simp)) fun p hp => nz7 (hpn p hp)
  have I2 := I1.turned (h' := h'.update S9 (Obj.mapSeq fun _ => #[])) (t' := tk') (it := S9) (fun b o nb e => by rw [Heap.get?_update_ne _ _ _ _ nb]; exact e) pS.2.1 pS.2.2.1 (.inr hzS) (noc S9 _ (by simp; exact .inr (.inl rfl))) fun p hp => nz7 (nz8 (hpn p hp) hIS)
  exact ⟨bV, H, I2, rb, hq⟩
 | y :: r, j, bV, kV, vb, kb, c, oI, H, s, er, hj, I, hit, rb, rk, h => by
  refine oq03 h fun hS h0 h => ?_
  have hjl:j < vs.length := by
   have := congrArg List.length er
   simp at this; omega
  have ey:vs[j]? = some y := by
   have:(vs.drop j)[0]? = some y := by rw [er]; rfl
   rw [List.getElem?_drop] at this; simpa using this
  have er':vs.drop (j + 1) = r := by
   have:(vs.drop j).drop 1 = r := by rw [er]; rfl
   rw [List.drop_drop] at this; exact this
  have pS := I.pin (S9, seqObj "list" #[vb, kb] c) (by simp)
  have pI := I.pin (I9, oI) (by simp)
  refine oq13 (I.list hS) fun its rv ht hz => ?_
  have hlI:l ≠ I9 := fun z => by
   refine oq13 ht.isList fun o ho hc _ => ?_
   refine oq13 hit fun o2 ho2 hc2 _ => ?_
   rw [z, ho2] at ho; cases ho; rw [hc2] at hc; simp at hc
  have W := Walks.list (prog := X.prog) (w := X.w) (A := X.A.in1) hh I9 l hlI its.toArray
  have hsz:its.toArray.size = vs.length := by rw [List.size_toArray, ← rv.length]
  refine codeAny_builtin PySem.F.entry_min_loop ?_
  rw [Around.under_plainId PySem.F.plain_min_loop _]
  show wpAny _ X.A.in1 (seqItems? (.ref S9) >>= _) _ _ _
  refine wpAny_bind (wpAny_seqItems pS.1 rfl ?_)
  show wpAny _ X.A.in1 (tryCatch (pyNext (.ref I9)) _ >>= _) _ _ _
  refine wpAny_bind (wpAny_tryCatch (W.item j _ _ _ (by rw [hsz]; exact hjl) ⟨hit, ht.isList⟩ fun v h' tk' hP hst' hk' => ?_))
  have hv:its[j]? = some v := by simpa using hP
  refine oq12 (rv.get ey) fun u9 hu9 ru => ?_
  have:u9 = v := Option.some.inj (hu9.symm.trans hv)
  subst this
  have hk2:∀ b o, b ≠ I9 → s.heap.get? b = some o → h'.get? b = some o := fun b o nb e => hk' b o (by simpa using nb) e
  refine oq13 (id hst'.1) fun oI' hoI' hoc hod => ?_
  have neI:∀ p ∈ X.pn ++ ((S9, seqObj "list" #[vb, kb] c) :: (f, kla_obj "<lambda>" qual params body scope cl pm c' ctv) :: pins), p.1 ≠ I9 := fun p hp => by
   simp only [List.mem_append, List.mem_cons] at hp
   rcases hp with hp | rfl | hp
   ·exact nz7 (hpn p (by simp [hp]))
   ·exact Nat.ne_of_gt hIS
   ·exact nz7 (hpn p (by simp only [List.mem_append, List.mem_cons]; exact .inr hp))
  have neS:∀ p ∈ X.pn ++ ((I9, oI') :: (f, kla_obj "<lambda>" qual params body scope cl pm c' ctv) :: pins), p.1 ≠ S9 := fun p hp => by
   simp only [List.mem_append, List.mem_cons] at hp
   rcases hp with hp | rfl | hp
   ·exact nz7 (nz8 (hpn p (by simp [hp])) hIS)
   ·exact nz7 hIS
   ·exact nz7 (nz8 (hpn p (by simp only [List.mem_append, List.mem_cons]; exact .inr hp)) hIS)
  have I1 := (I.swap.relistT (t' := tk') hzI neI (fun w z => by rw [hod] at z; cases z) hk2 hoI').swap
  show wpAny _ X.A.in1 (tryCatch (holding [u9] (call (.ref f) [u9])) _ >>= _) _ _ _
  have po := I1.pin (f, kla_obj "<lambda>" qual params body scope cl pm c' ctv) (by simp)
  refine wpAny_bind (wpAny_tryCatch (wpAny_holding (wpAny_mono (jy (A := X.A.in1) S C I1 po.1 hA hh hd h0 hb (hp _ _ _ _ _) ru h) (fun k s2 he => ?_) fun _ _ z => z.elim)))
  refine oq23 he fun kv H2 I2 rkv zz => oq23 zz fun pk pb g1 g2 g3 => ?_
  have pS2 := I2.pin (S9, seqObj "list" #[vb, kb] c) (by simp)
  have pI2 := I2.pin (I9, oI') (by simp)
  have hit2:s2.heap.IsListIter I9 l (j + 1) := ⟨oI', pI2.1, hoc, hod⟩
  show wpAny _ X.A.in1 (tryCatch (holding [u9, k] (richCompare .Lt k kb >>= _)) _ >>= _) _ _ _
  refine wpAny_bind (wpAny_tryCatch (wpAny_holding (wpAny_bind (pair_lt (A := X.A.in1) I2 rkv rk g1 g2 hu ?_))))
  refine wpAny_bind (wpAny_holding (wpAny_truthy_bool ?_))
  refine wpAny_bind (wpAny_letGo (wpAny_pure ?_))
  cases hb':Pu.lt2 pk pb with
  | true =>
   rw [hb', if_pos rfl] at g3
   obtain ⟨c2, hc2⟩:∃ c2, (s2.heap.update S9 (Obj.mapSeq fun _ => #[u9, k])).get? S9 = some (seqObj "list" #[u9, k] c2) := ⟨_, get?_update_seq pS2.1 fun _ => #[u9, k]⟩
   simp only [if_true]
   refine wpAny_bind ?_
   refine wpAny_updateSeq pS2.1 rfl (wpAny_bind (wpAny_letGo ?_))
   have I3 := I2.relist (o' := seqObj "list" #[u9, k] c2) (h' := s2.heap.update S9 (Obj.mapSeq fun _ => #[u9, k])) hzS neS (fun w z => nomatch z) (fun b o nb e => by rw [Heap.get?_update_ne _ _ _ _ nb]; exact e) hc2
   have hit3:(s2.heap.update S9 (Obj.mapSeq fun _ => #[u9, k])).IsListIter I9 l (j + 1) := ⟨oI', by rw [Heap.get?_update_ne _ _ _ _ (nz7 hIS)]; exact pI2.1, hoc, hod⟩
   exact wpAny_pure ⟨plainId_quiet PySem.F.plain_min_loop _, jz S C hA hh hd hu hb hp hzI hzS hIS hpn r (j + 1) y kv u9 k c2 oI' H2 _ er' (by exact hjl) I3 hit3 ru rkv g3⟩
  | false =>
   rw [hb', if_neg Bool.false_ne_true] at g3
   simp only [Bool.false_eq_true, if_false]
   refine wpAny_bind (wpAny_letGo ?_)
   exact wpAny_pure ⟨plainId_quiet PySem.F.plain_min_loop _, jz S C hA hh hd hu hb hp hzI hzS hIS hpn r (j + 1) bV kV vb kb c oI' H2 _ er' (by exact hjl) I2 hit2 rb rk g3⟩
open PySem.W in
theorem pe_minK {P c:Addr} {params:Arguments} {body e:Expr} {p pos kpos lpos:Pos} {te tb:TE} (he:PE X e te) (hr:Room 3 X.A) (hm:X.mg "min" = none) (bm:BM X.mg X.base) (hC:codeHdIn X.K c P = true) (hT:P ∈ Kon.T) (hq:Kon.Q P = X.env.qual ++ "<lambda>") (hcode:X.env.code = .ref c)
  (S:LamScope X x cap scope) (hb:∀ cl pm cd ct u, bindArgs (kla_fn "<lambda>" (Kon.Q P) params body scope cl pm cd ct) ⟨[u], []⟩ = pure [(x, u)])
  (hp:∀ f cd cl s H, PE (g9 X X.A.in1 (x :: cap.map (·.1)) (Kon.Q P) scope f cd cl s H) body tb) (hg:Gl X "min" := by rfl) (hdef:defaultsOf params X.env = ([], []) := by rfl)
  (hst:starEach [e] X.env = (false, eval e X.env) :: starEach [] X.env := by rfl) (hpl:(backTo pos (starEach [e] X.env)).any (·.1) = false := by rfl) :
  PE X (.Call (.Name "min" p) [e] [⟨some "key", .Lambda params body scope lpos, kpos⟩] pos) (tMinK X.K P cap te tb) := by
 intro pins s σ H Q I h
 refine wpAny_Call_Name_kw (cN I hg hm eh ?_)
 refine PyProof.Rows.callWith_kw ?_ (by rw [hst]; rfl) hpl
 have h1:(aH te tNil) σ H fun xs H1 => match xs with
  | [v] => ∃ p x r, v = .ref p ∧ SqL X.K H1 p (x :: r) ∧ TbG H1 ∧ ∀ H2 c, TbSt P H1 H2 → H2 c = some (.ext (aL c (Kon.Q P))) → H2 c = some (.ext (aL c (Kon.Q P))) ∧ tb (cW x cap σ) H2 fun k H' => fQ (fun σ H Q => H c = some (.ext (aL c (Kon.Q P))) ∧ tb σ H Q) (fun x => cW x cap σ) (fun H => SqL X.K H p (x :: r)) Q r x k H'
  | _ => False := h
 refine thn (a7 he aa hst pos pins s σ H _ I h1) ?_
 intro us s1 zq; refine oq23 zq fun vv H1 I1 r q => ?_
 show wpAny _ _ (evalAll ((do let v ← eval (.Lambda params body scope lpos) X.env; standAt pos; pure v) :: [])) _ _ s1
 match vv, q with
 | [v], q =>
  obtain ⟨l, y, rest, rfl, hS, tg, q⟩ := q
  obtain ⟨u, rfl, ru⟩ := vals1 r
  cases ru
  refine wpAny_evalAll_cons (wpAny_bind (mk_lam (P := P) I1 S tg hT hq hcode hC bm hdef fun f cl pm c' ctv H2 s2 I2 ts hc' CL => wpAny_bind (wpAny_standAt (wpAny_pure (wpAny_evalAll_nil ?_)))))
  show wpAny _ _ (call (.builtin "min") [.ref l] [(Str.ofString "key", .ref f)]) _ _ s2
  obtain ⟨h0, q⟩ := q H2 c' ts hc'
  have hS2 := ts.sm.seq hS
  refine oq13 (I2.list hS2) fun its rv ht hz => ?_
  have hname:(toString "min" ++ toString ".loop":String) = "min.loop" := by decide
  refine kmk_tree PySem.F.kind_min PySem.F.plain_min PySem.F.entry_min (kmk_min_key _ _) ?_
  show wpAny _ X.A.in1 (Builtin.Builtins.bindParams "min" ["key", "default"] 0 ⟨[], [(Str.ofString "key", .ref f)]⟩ >>= _) _ _ s2
  refine wpAny_bind (wpAny_of_eq (show Builtin.Builtins.bindParams "min" ["key", "default"] 0 ⟨[], [(Str.ofString "key", .ref f)]⟩ = pure [some (.ref f), none] from rfl) ?_)
  refine wpAny_bind (wpAny_pure ?_)
  refine wpAny_bind (wpAny_pyIter_list ht.isList ?_)
  refine wpAny_bind (wpAny_newList ?_ (Nat.zero_le _))
  rw [hname]
  generalize hI9:s2.heap.objs.size = I9
  have hS9:(s2.heap.push { cls := .type "list_iterator", data := .fields #[.ref l, .int 0 0] }).objs.size = I9 + 1 := by rw [← hI9]; exact size_push' ..
  have gI:((s2.heap.push { cls := .type "list_iterator", data := .fields #[.ref l, .int 0 0] }).push (seqObj "list" #[] 0)).get? I9 = some { cls := .type "list_iterator", data := .fields #[.ref l, .int 0 0] } := by
   rw [← hI9]; exact Heap.get?_push_of_some _ (Heap.get?_push_size _ rfl)
  have gS:((s2.heap.push { cls := .type "list_iterator", data := .fields #[.ref l, .int 0 0] }).push (seqObj "list" #[] 0)).get? (I9 + 1) = some (seqObj "list" #[] 0) := by rw [← hS9]; exact Heap.get?_push_size _ rfl
  refine wpAny_pure ⟨plainId_quiet PySem.F.plain_min_loop _, ?_⟩
  rw [hS9]
  have big:∀ b, I9 ≤ b → H2 b = none ∧ b ≠ X.env.locals ∧ b ∉ X.fs := fun b hb => (oi03 (I2.hok.fresh (by exact nz4 (nz3 hI9) hb)) (Nat.ne_of_gt (nz1 I2.lt (by exact nz4 (nz3 hI9) hb))) (I2.nofs (by exact nz4 (nz3 hI9) hb)))
  have I3:Inv X ((f, kla_obj "<lambda>" (Kon.Q P) params body scope cl pm c' ctv) :: pins) σ H2 { s2 with heap := (s2.heap.push { cls := .type "list_iterator", data := .fields #[.ref l, .int 0 0] }).push (seqObj "list" #[] 0) } := I2.kept (t' := s2.toks) fun b o e => Heap.get?_push_of_some _ (Heap.get?_push_of_some _ e)
  have I4 := I3.addPin (f := I9) gI (big I9 (nz6 _)).1 (big I9 (nz6 _)).2.1 (big I9 (nz6 _)).2.2 fun v z => nomatch z
  have I5 := I4.addPin (f := I9 + 1) (o := seqObj "list" #[] 0) gS (big (I9 + 1) (Nat.le_succ _)).1 (big (I9 + 1) (Nat.le_succ _)).2.1 (big (I9 + 1) (Nat.le_succ _)).2.2 fun v z => nomatch z
  have old:∀ p ∈ X.pn ++ ((f, kla_obj "<lambda>" (Kon.Q P) params body scope cl pm c' ctv) :: pins), p.1 < I9 := fun p hp => by rw [← hI9]; exact Heap.lt_size (I2.pin p hp).1
  have hzI:X.s₀.heap.objs.size ≤ I9 := by rw [← hI9]; exact I2.sz
  refine oq13 (I5.list hS2) fun its3 rv3 ht3 _ => ?_
  have hlI:l ≠ I9 := nz7 (by refine oq12 ht.isList fun o ho _ => ?_; rw [← hI9]; exact Heap.lt_size ho)
  have W := Walks.list (prog := X.prog) (w := X.w) (A := X.A.in1) hr.hd I9 l hlI its3.toArray
  have hsz:0 < its3.toArray.size := by rw [List.size_toArray, ← rv3.length]; simp
  have hun:X.A.in1.units < cLine := by have := hr.un; show X.A.units + 1 < _; omega
  have hdp:X.A.depth < recursionLimit := by have := hr.dp; (clear hun hsz W hlI ht3 rv3 hzI old I5 I4 I3 big gS gI hS9 hI9 hname hz ht rv hS2 q h0 CL hc' ts I2 r tg hS I1 h1 h I hpl hst hdef hg hp hb S hcode hq hT hC bm hm hr he; omega)
  have res:codeAny (model X.prog X.w) X.A (.builtin "min.loop" ⟨[.ref I9, .ref f, .ref (I9 + 1)], []⟩) (fun r s' => match r with | .ok (.ret u) => EP X ((f, kla_obj "<lambda>" (Kon.Q P) params body scope cl pm c' ctv) :: pins) σ Q u s' | _ => False)
    { s2 with heap := (s2.heap.push { cls := .type "list_iterator", data := .fields #[.ref l, .int 0 0] }).push (seqObj "list" #[] 0) } := by
   refine codeAny_builtin PySem.F.entry_min_loop ?_
   rw [Around.under_plainId PySem.F.plain_min_loop _]
   show wpAny _ X.A.in1 (seqItems? (.ref (I9 + 1)) >>= _) _ _ _
   refine wpAny_bind (wpAny_seqItems gS rfl ?_)
   show wpAny _ X.A.in1 (tryCatch (pyNext (.ref I9)) _ >>= _) _ _ _
   refine wpAny_bind (wpAny_tryCatch (W.item 0 _ _ _ hsz ⟨⟨_, gI, rfl, rfl⟩, ht3.isList⟩ fun v h' tk' hP hst' hk' => ?_))
   have hv:its3[0]? = some v := by simpa using hP
   refine oq12 (rv3.get (i := 0) (x := y) rfl) fun u9 hu9 ru => ?_
   have:u9 = v := Option.some.inj (hu9.symm.trans hv)
   subst this
   have hk2:∀ b o, b ≠ I9 → ((s2.heap.push { cls := .type "list_iterator", data := .fields #[.ref l, .int 0 0] }).push (seqObj "list" #[] 0)).get? b = some o → h'.get? b = some o := fun b o nb e => hk' b o (by simpa using nb) e
   refine oq13 (id hst'.1) fun oI' hoI' hoc hod => ?_
   have neI:∀ p ∈ X.pn ++ ((I9 + 1, seqObj "list" #[] 0) :: (f, kla_obj "<lambda>" (Kon.Q P) params body scope cl pm c' ctv) :: pins), p.1 ≠ I9 := fun p hp => by
    simp only [List.mem_append, List.mem_cons] at hp
    rcases hp with hp | rfl | hp
    ·exact nz7 (old p (by simp [hp]))
    ·exact Nat.ne_of_gt (Nat.lt_succ_self _)
    ·exact nz7 (old p (by simp only [List.mem_append, List.mem_cons]; exact .inr hp))
   have neS:∀ p ∈ X.pn ++ ((I9, oI') :: (f, kla_obj "<lambda>" (Kon.Q P) params body scope cl pm c' ctv) :: pins), p.1 ≠ I9 + 1 := fun p hp => by
    simp only [List.mem_append, List.mem_cons] at hp
    rcases hp with hp | rfl | hp
    ·exact nz7 (Nat.lt_succ_of_lt (old p (by simp [hp])))
    ·exact nz7 (Nat.lt_succ_self _)
    ·exact nz7 (Nat.lt_succ_of_lt (old p (by simp only [List.mem_append, List.mem_cons]; exact .inr hp)))
   have I6 := (I5.swap.relistT (t' := tk') hzI neI (fun w z => by rw [hod] at z; cases z) hk2 hoI').swap
   show wpAny _ X.A.in1 (tryCatch (holding [u9] (call (.ref f) [u9])) _ >>= _) _ _ _
   have po := I6.pin (f, kla_obj "<lambda>" (Kon.Q P) params body scope cl pm c' ctv) (by simp)
   refine wpAny_bind (wpAny_tryCatch (wpAny_holding (wpAny_mono (jy (A := X.A.in1) S CL I6 po.1 I.ok.frames hr.hd hdp h0 hb (hp _ _ _ _ _) ru q) (fun k s3 he => ?_) fun _ _ z => z.elim)))
   refine oq23 he fun kv H3 I7 rkv g3 => ?_
   have pS2 := I7.pin (I9 + 1, seqObj "list" #[] 0) (by simp)
   have pI2 := I7.pin (I9, oI') (by simp)
   obtain ⟨c2, hc2⟩:∃ c2, (s3.heap.update (I9 + 1) (Obj.mapSeq fun _ => #[u9, k])).get? (I9 + 1) = some (seqObj "list" #[u9, k] c2) := ⟨_, get?_update_seq pS2.1 fun _ => #[u9, k]⟩
   show wpAny _ X.A.in1 (updateSeq (I9 + 1) (fun _ => #[u9, k]) >>= _) _ _ _
   refine wpAny_bind ?_
   refine wpAny_updateSeq pS2.1 rfl ?_
   rw [hname]
   have I8 := I7.relist (o' := seqObj "list" #[u9, k] c2) (h' := s3.heap.update (I9 + 1) (Obj.mapSeq fun _ => #[u9, k])) (Nat.le_succ_of_le hzI) neS (fun w z => nomatch z) (fun b o nb e => by rw [Heap.get?_update_ne _ _ _ _ nb]; exact e) hc2
   exact wpAny_pure ⟨plainId_quiet PySem.F.plain_min_loop _, jz (vs := y :: rest) S CL I.ok.frames hr.hd hdp hun hb hp hzI (Nat.le_succ_of_le hzI) (Nat.lt_succ_self _) old rest 1 y kv u9 k c2 oI' H3 _ rfl (by simp) I8 ⟨oI', by rw [Heap.get?_update_ne _ _ _ _ (nz7 (Nat.lt_succ_self _))]; exact pI2.1, hoc, hod⟩ ru rkv g3⟩
  refine codeAny_mono res fun r s' hr' => ?_
  cases r with
  | error e => exact hr'.elim
  | ok fl =>
   cases fl with
   | ret u =>
    refine oq23 ((show EP X ((f, kla_obj "<lambda>" (Kon.Q P) params body scope cl pm c' ctv) :: pins) σ Q u s' from hr')) fun v9 H9 I9' r9 q9 => ?_
    exact ⟨v9, H9, I9'.drop1, r9, q9⟩
   | next => exact hr'.elim
   | brk => exact hr'.elim
   | cont => exact hr'.elim
end
section
variable {Γ:List Slot} {te tb:TE} {K:PySem.W.Frag} {P:Addr} {cap:List (Str × Nat)}
theorem md {C:Fc} {F0 H0:Hp} {σ:St} {c l:Addr} {q:Str} {x:Str} {g:Int → Option (Int × Int)} {vs:List V} {Q:VK} {res:Int} (hc:(cap.map (·.2)).Nodup) (hb:∀ a, EV ((csl [x] cap Γ).set 0 (.fr rInt a)) tb (g a) (rT2 rInt rInt))
  (hfin:∀ F H, Ext F0 H0 F H → Q (.int res) H):∀ (r:List Int) (b:Int) (kV:V) (kb:Int × Int) (F H:Hp), SR C F Γ σ H → Ext F0 H0 F H → H c = some (.ext (aL c q)) → Rd F l (.lst vs) → (rT2 rInt rInt).rel F kV kb → Pu.gb g r b kb = some res →
   fQ (fun σ H Q => H c = some (.ext (aL c q)) ∧ tb σ H Q) (fun v => cW v cap σ) (fun H => SqL K H l vs) Q (r.map V.int) (.int b) kV H
 | [], b, kV, kb, F, H, S, x0, h0, hl, hk, e => by
  cases e
  exact ⟨.inl (S.sub.rd hl), hfin F H x0⟩
 | a :: r, b, kV, kb, F, H, S, x0, h0, hl, hk, e => by
  unfold Pu.gb at e
  refine oq12 (a9 e) fun k e1 e => ?_
  refine ⟨.inl (S.sub.rd hl), h0, hb a C F _ H _ k ((S.comp (loc := [x]) hc).setF 0 (r := rInt) (a := a) (v := .int a) rfl) e1 fun v F' H' x1 rv => (oi23 k kb (Rp.mono _ x1.sub rv) (Rp.mono _ (x1.ff.trans x1.sub) hk) ?_)⟩
  cases hlt:Pu.lt2 k kb with
  | true =>
   rw [hlt, if_pos rfl] at e
   rw [if_pos rfl]
   exact md hc hb hfin r a v k F' H' (S.grow x1) (x0.trans x1) (x1.hh.kp _ _ trivial h0) (x1.ff.rd hl) rv e
  | false =>
   rw [hlt, if_neg Bool.false_ne_true] at e
   rw [if_neg Bool.false_ne_true]
   exact md hc hb hfin r b kV kb F' H' (S.grow x1) (x0.trans x1) (x1.hh.kp _ _ trivial h0) (x1.ff.rd hl) (Rp.mono _ x1.ff hk) e
theorem ev_minK {o:Option (List Int)} {g:Int → Option (Int × Int)} {x:Str} (hc:(cap.map (·.2)).Nodup) (h:EV Γ te o (rL rInt)) (hb:∀ a, EV ((csl [x] cap Γ).set 0 (.fr rInt a)) tb (g a) (rT2 rInt rInt)):EV Γ (tMinK K P cap te tb) (o.bind fun xs => Pu.minK g xs) rInt := by
 intro C F σ H Q res S e k
 refine oq12 (a9 e) fun ns e1 e => ?_
 refine h C F σ H _ ns S e1 fun v F1 H1 x1 zq => oq23 zq fun p vs e3 h1 h2 => ?_
 have ev := cB h2
 subst ev
 cases ns with
 | nil => cases e
 | cons a r =>
  unfold Pu.minK at e
  refine oq12 (a9 e) fun ka e2 e => ?_
  refine (oi34 p (.int a) (r.map V.int) e3 (.inl (x1.sub.rd h1)) ((S.grow x1).tg) (fun H2 c ts h0 => ⟨h0, ?_⟩))
  have x2 := ts.ext (S.grow x1).sub (S.grow x1).nt
  have S2 := (S.grow x1).grow x2
  refine hb a C F1 _ H2 _ ka ((S2.comp (loc := [x]) hc).setF 0 (r := rInt) (a := a) (v := .int a) rfl) e2 fun v F' H' x3 rv => ?_
  exact md hc hb (fun F H x4 => k _ F H x4 rfl) r a v ka F' H' (S2.grow x3) ((x1.trans x2).trans x3) (x3.hh.kp _ _ trivial h0) (x3.ff.rd h1) rv e
end
end L2
namespace L2
open PySem PySem.Spec PyProof.Rows
noncomputable abbrev End_ := List (Int × (Option Int × Option Int))
variable [Kon]
section
variable {Γ:List Slot} {ta:TE} {K:PySem.W.Frag} {CM CW:Addr}
section
variable {α γ τ:Type} {r:Rp α} {q:Rp γ} {ra:RpA τ} {t:TA} {C:Addr} {m:Str} {o:Option α} {oτ:Option τ}
end
end
end L2
namespace L2
open PySem PySem.Spec PyProof.Rows
variable [Kon]
section
variable {X:Cx} {pins:List (Addr × Obj)} {σ:St} {H:Hp} {s:Shared}
end
section
variable {C:Fc} {F H:Hp} {Γ:List Slot} {σ:St}
theorem SR.mut {p:Addr} {u u':HO} {F' H':Hp} {s s':Slot} {g:Nat} (S:SR C F Γ σ H) (hg:Γ[g]? = some s) (hs:s.own = true) (hp:σ[g]? = some (some (.ref p))) (h0:C.H0 p = none) (hu:H p = some u) (fr:Fr ⟨del H p, F, F⟩ F' H') (hs':s'.own = true) (h:SlOk C.H0 F' H' s' (some (.ref p))) :
  SR C F' (Γ.set g s') σ H' := by
 have oth:∀ (j:Nat) t q, j ≠ g → Γ[j]? = some t → t.own = true → σ[j]? = some (some (.ref q)) → q ≠ p := fun j t q n q1 o1 e1 z => by subst z; exact n (S.inj j g t s _ q1 hg o1 hs e1 hp)
 have kp:∀ b o, b ≠ p → dg o → H b = some o → H' b = some o := fun b o n nt q => fr.keep.kp b o nt (by show del H p b = some o; rw [cf n]; exact q)
 have sm:Sm C.H0 H' := by
  refine ⟨fun b o n q => kp b o (ao q h0) n (S.keep.kp b o n q), fun b ps q => ?_, fun _ => fr.tg⟩
  refine oq11 (S.keep.tb b ps q) fun m1 e1 => ?_
  obtain ⟨m2, e2⟩ := fr.keep.tb b _ (show del H p b = _ by rw [cf (ao q h0)]; exact e1)
  exact ⟨m1 ++ m2, by rw [e2, Array.append_assoc]⟩
 have fn:∀ q o, q ≠ p → F q = none → H q = some o → Own o → F' q = none := fun q o n f e hu => by
  cases z:F' q with
  | none => rfl
  | some w =>
   rcases fr.base q w z with y | y
   ·exact nomatch f.symm.trans y
   ·have y:UnT (del H p q) := y
    rw [cf n] at y; exact (un_own y e hu).elim
 refine ⟨⟨sm, S.low.trans fr.low, fr.sub, fun b o q => ?_, fr.nt, fr.tg⟩, by rw [List.length_set]; exact S.len, fun j t q => ?_, fun j k a b p' q1 q2 o1 o2 e1 e2 => ?_⟩
 ·rcases fr.base b o q with z | z
  ·exact S.base b o z
  ·by_cases e:b = p
   ·subst e; exact .inr (un_no h0)
   ·have z:UnT (del H p b) := z
    rw [cf e] at z
    exact .inr (S.keep.un z)
 ·rcases get_set q with ⟨rfl, rfl, hl⟩ | ⟨hne, q⟩
  ·exact (oi12 _ hp h)
  ·refine oq12 (S.at_ j t q) fun o h1 h2 => ?_
   refine (oi12 o h1 ?_)
   cases t with
   | any => trivial
   | fr r a => refine oq12 h2 fun v z1 z2 => ?_; exact ⟨v, z1, r.mono fr.low z2⟩
   | ol r φ xs =>
    refine oq26 h2 fun p' vs h3 h4 h5 h6 h7 h8 => ?_
    subst h3
    have n := oth j _ p' (Ne.symm hne) q rfl h1
    exact ⟨p', vs, rfl, h4, h5, fn p' _ n h6 h7 trivial, kp p' _ n trivial h7, Paired.imp2 (fun _ _ z => r.mono fr.low z) h8⟩
   | od r φ kvs =>
    refine oq26 h2 fun p' vs h3 h4 h5 h6 h7 h8 => ?_
    subst h3
    have n := oth j _ p' (Ne.symm hne) q rfl h1
    exact ⟨p', vs, rfl, h4, h5, fn p' _ n h6 h7 trivial, kp p' _ n trivial h7, Paired.imp2 (fun _ _ z => ⟨z.1, r.mono fr.low z.2⟩) h8⟩
   | on a rows =>
    refine oq25 h2 fun p' us h3 h5 h6 h7 h8 => ?_
    subst h3
    have n := oth j _ p' (Ne.symm hne) q rfl h1
    exact ⟨p', us, rfl, h5, fn p' _ n h6 h7 trivial, kp p' _ n trivial h7, h8.mono fr.low⟩
   | ot r kvs =>
    refine oq25 h2 fun p' us h3 h5 h6 h7 h8 => ?_
    subst h3
    have n := oth j _ p' (Ne.symm hne) q rfl h1
    exact ⟨p', us, rfl, h5, fn p' _ n h6 h7 trivial, kp p' _ n trivial h7, Paired.imp2 (fun _ _ z => ⟨z.1, r.mono fr.low z.2⟩) h8⟩
 ·have own':∀ (j:Nat) x, (Γ.set g s')[j]? = some x → x.own = true → ∃ y, Γ[j]? = some y ∧ y.own = true := fun j x q o => by
   rcases get_set q with ⟨rfl, rfl, _⟩ | ⟨_, q⟩
   ·exact ⟨s, hg, hs⟩
   ·exact ⟨x, q, o⟩
  obtain ⟨a', r1, r2⟩ := own' j a q1 o1
  obtain ⟨b', r3, r4⟩ := own' k b q2 o2
  exact S.inj j k a' b' p' r1 r3 r2 r4 e1 e2
end
section
variable {Γ:List Slot} {C:Fc} {F H:Hp} {σ:St} {CM CW p hh:Addr} {i g g1 g2:Nat} {rows:List (List Int)} {reach:Int} {ended:End_} {homes:List (Option Int)}
end
section
variable {Γ:List Slot} {α β:Type} {s:Rp β} {tb:TE} {ob:Option β} {CM CW p hh:Addr} {rows:List (List Int)} {reach:Int} {ended:End_} {homes:List (Option Int)}
end
end L2
namespace L2
open PySem PySem.Spec PyProof.Rows
variable [Kon]
section
variable {P:Program} {w:World} {K:PySem.W.Frag} {mg:Str → Option Value} {base:Heap} {m qual:Str} {st:Stmt} {N ps:List Str} {k:Nat} {C:Addr} {τ γ:Type} {ra:RpA τ} {r:Rp γ}
end
section
variable {P:Program} {w:World} {K:PySem.W.Frag} {mg:Str → Option Value} {base:Heap} {m qual:Str} {st:Stmt} {N ps:List Str} {k:Nat} {CM:Addr} {τ γ:Type} {ra:RpA τ} {r:Rp γ}
end
section
variable {Γ:List Slot} {α τ:Type} {r:Rp α} {ta tb:TE} {oa:Option α} {CM CW p hh:Addr} {rows:List (List Int)} {reach:Int} {ended:End_} {g:Nat} {K:PySem.W.Frag}
end
end L2
namespace L2
open PySem PySem.Spec PyProof.Rows
variable [Kon]
section
variable {P:Program} {w:World} {K:PySem.W.Frag} {mg:Str → Option Value} {base:Heap} {m qual:Str} {st:Stmt} {N ps:List Str} {k:Nat} {CM CW:Addr} {τ:Type} {ra:RpA τ}
end
section
variable {Γ:List Slot} {T τ:Type} {CM CW hh p:Addr} {rows:List (List Int)} {reach:Int} {homes:List (Option Int)} {ended:End_} {u:TS} {fin:Fc → T → Ends → Prop} {K:PySem.W.Frag}
end
end L2
namespace L2
open PySem PySem.Spec PyProof.Rows
variable [Kon]
theorem TbG.poke {H:Hp} {x:Addr} {o:HO} (g:TbG H) (n:dg o) (h1:∀ φ, H x ≠ some (.ext φ)) (h2:∀ ps, H x ≠ some (.tbl ps)):TbG (upd H x o) := by
 refine ⟨fun P hP => ?_, fun P ps q => ?_⟩
 ·refine oq11 (g.there P hP) fun ps e => ?_
  exact ⟨ps, by rw [ac (fun z => by rw [z] at e; exact h2 ps e)]; exact e⟩
 ·by_cases e:P = x
  ·subst e; rw [ai] at q; cases q; exact n.elim
  ·rw [ac e] at q
   refine oq02 (g.good P ps q) fun g1 g2 => ?_
   exact ⟨g1, fun pos cv hc => by refine oq12 (g2 pos cv hc) fun c e3 e4 => ?_; exact (oi12 c e3 (by rw [ac (fun z => by rw [z] at e4; exact h1 _ e4)]; exact e4))⟩
section
variable {Γ:List Slot} {T:Type} {CM CW:Addr} {u:TS} {fin:Fc → T → Ends → Prop} {f:List (List Int) → Option (List (Option Int))}
end
end L2
namespace L2
open PySem PySem.Spec PyProof.Rows
variable [Kon]
section
variable {P:Program} {w:World} {K:PySem.W.Frag} {mg:Str → Option Value} {base:Heap} {x qual:Str} {st:Stmt} {N ps:List Str} {k:Nat} {C:Addr}
end
end L2
namespace L2
open PySem PySem.Spec PyProof.Rows
section
variable {X:Cx} {K:PySem.W.Frag}
theorem op_catTK (h:X.K = K):OpR X (binaryOp .Add) (rCatT K) := by subst h; exact op_catT
end
variable [Kon]
section
variable {Γ:List Slot} {K:PySem.W.Frag} {ta tb:TE}
end
section
variable {Γ:List Slot} {α β S T R:Type} {r:Rp α} {s:Rp β} {tb:TE} {K:PySem.W.Frag} {u tl:TS} {fin:Fc → T → Ends → Prop}
end
end L2
namespace Pu
end Pu
namespace L2
open PySem PySem.Spec PyProof.Rows
section
variable {X:Cx} {K:PySem.W.Frag}
end
section
variable [Kon] {Γ:List Slot} {α:Type} {r:Rp α} {ta:TE} {K:PySem.W.Frag}
end
end L2
namespace Pu
end Pu
namespace L2
open PySem PySem.Spec PyProof.Rows
section
variable {prog:Program} {w:World} {A:Around} {E:Value → Shared → Prop} {s:Shared}
end
section
variable {X:Cx} {pins:List (Addr × Obj)} {σ:St} {H:Hp} {s:Shared} {a:Addr} {A:Around} {E:Value → Shared → Prop} {u:Value}
end
section
variable [Kon] {Γ:List Slot} {α:Type} {r:Rp α} {ta tb:TE} {K:PySem.W.Frag}
end
end L2
namespace Pu
end Pu
namespace L2
open PySem PySem.Spec PyProof.Rows
variable [Kon]
section
variable {X:Cx} {pins:List (Addr × Obj)} {σ:St} {H:Hp} {s:Shared} {x:Str} {cap:List (Str × Nat)} {scope:Scope} {cl:List (Str × Addr)} {f:Addr} {cd:Value}
open PySem.W in
open PySem.W in
end
section
variable {Γ:List Slot} {te tb:TE} {K:PySem.W.Frag} {P:Addr} {cap:List (Str × Nat)}
end
end L2
namespace L2
open PySem PySem.Spec PyProof.Rows
variable [Kon]
section
variable {Γ:List Slot} {α β:Type} {r:Rp α} {rb:Rp β} {te:TE}
end
end L2
namespace Pu
end Pu
namespace L2
open PySem PySem.Spec PyProof.Rows
variable [Kon]
section
variable {Γ:List Slot} {C:Fc} {F H:Hp} {σ:St} {q:Addr} {i g:Nat} {row:List Int} {tail:List (List Int)}
end
section
variable {Γ:List Slot} {α β:Type} {s:Rp β} {tb:TE} {ob:Option β} {q:Addr} {row:List Int} {tail:List (List Int)}
end
section
variable {Γ:List Slot} {T:Type} {te:TE} {u:TS} {fin:Fc → T → Ends → Prop} {K:PySem.W.Frag}
end
section
variable {Γ:List Slot} {α β:Type} {r:Rp α} {s:Rp β} {ta tb:TE} {oa:Option α} {ob:Option β} {K:PySem.W.Frag}
end
section
variable {prog:Program} {w:World} {A:Around} {E:Value → Shared → Prop} {s:Shared}
end
section
variable {Γ:List Slot} {α β:Type} {r:Rp α} {s:Rp β} {K:PySem.W.Frag}
end
end L2
namespace L2
open PySem PySem.Spec PyProof.Rows
section
variable {α:Type}
theorem len1:∀ {us:List α}, us.length = 1 → ∃ a, us = [a]
 | [a], _ => ⟨a, rfl⟩
theorem len2 {us:List α} (h:us.length = 2):∃ a1 a2, us = [a1, a2] := by
 cases us with
 | nil => cases h
 | cons a us =>
  refine oq11 (len1 (Nat.succ.inj h)) fun a2 eq1_ => ?_; subst eq1_
  exact (oi21 a a2 rfl)
theorem len3 {us:List α} (h:us.length = 3):∃ a1 a2 a3, us = [a1, a2, a3] := by
 cases us with
 | nil => cases h
 | cons a us =>
  refine oq21 (len2 (Nat.succ.inj h)) fun a2 a3 eq2_ => ?_; subst eq2_
  exact (oi31 a a2 a3 rfl)
theorem len4 {us:List α} (h:us.length = 4):∃ a1 a2 a3 a4, us = [a1, a2, a3, a4] := by
 cases us with
 | nil => cases h
 | cons a us =>
  refine oq31 (len3 (Nat.succ.inj h)) fun a2 a3 a4 eq3_ => ?_; subst eq3_
  exact (oi41 a a2 a3 a4 rfl)
theorem len5 {us:List α} (h:us.length = 5):∃ a1 a2 a3 a4 a5, us = [a1, a2, a3, a4, a5] := by
 cases us with
 | nil => cases h
 | cons a us =>
  refine oq41 (len4 (Nat.succ.inj h)) fun a2 a3 a4 a5 eq4_ => ?_; subst eq4_
  exact (oi51 a a2 a3 a4 a5 rfl)
end
variable [Kon]
section
variable {τ:Type} {ra:RpA τ} {CM CW:Addr}
section
variable {P:Program} {w:World} {K:PySem.W.Frag} {mg:Str → Option Value} {base:Heap} {x:Str} {st:Stmt} {N ps:List Str} {k:Nat}
end
section
variable {Γ:List Slot} {t:TA} {oτ:Option τ} {K:PySem.W.Frag}
end
end
end L2
namespace L2
open PySem PySem.Spec PyProof.Rows
variable [Kon]
theorem kK {F:Hp} {vs:List V} {xs:List Int} (h:Paired (rInt.rel F) vs xs):Paired ((rOp rInt).rel F) vs (xs.map some) := by
 induction h with
 | nil => exact .nil
 | cons r _ ih => exact .cons r ih
theorem kL {Γ:List Slot} {t:TE} {o:Option (List Int)} (h:EV Γ t o (rL rInt)):EV Γ t (o.bind fun xs => some (xs.map some)) (rL (rOp rInt)) := fun C F σ H Q a S e k => by
 refine oq12 (a9 e) fun xs e1 e2 => ?_
 cases e2
 exact h C F σ H Q xs S e1 fun v F' H' x zq => oq23 zq fun p vs h1 h2 h3 => k v F' H' x ⟨p, vs, h1, h2, kK h3⟩
section
variable (q:Addr) (row:List Int) (tail:List (List Int))
end
section
variable {q:Addr} {row:List Int} {tail:List (List Int)} {π:Nat → V}
variable {C:Fc} {F H:Hp} {σ:St} {Γ Δ:List Slot} {i g:Nat}
end
end L2
namespace Tab
open PySem
section
variable {prog:Program} {w:World} {A:Around} {E:Value → Shared → Prop} {s:Shared} {a:Addr} {ks:List Int} {v:Int} {u:Tok}
end
section
variable {prog:Program} {w:World} {A:Around} {E:Value → Shared → Prop} {s:Shared} {a I:Addr} {ks:List Int} {o:Obj} {es:Array (Int × Value)} {ep i n:Nat} {t:SetTable} {f0:Value}
end
section
variable {prog:Program} {w:World} {A:Around} {E:Value → Shared → Prop} {s:Shared} {a I:Addr} {ks:List Int} {o:Obj} {es:Array (Int × Value)} {ep i n:Nat} {t:SetTable} {f0:Value}
end
section
variable {prog:Program} {w:World} {A:Around} {E:Value → Shared → Prop} {s:Shared} {a I:Addr} {ks:List Int}
end
open PyProof.Rows
section
variable {prog:Program} {w:World} {A:Around} {E:Value → Shared → Prop} {s:Shared} {a l:Addr} {ks:List Int}
end
end Tab
namespace L2
open PySem PySem.Spec PyProof.Rows
variable [Kon]
section
variable {X:Cx} {K:PySem.W.Frag}
end
section
variable {Γ:List Slot} {ta:TE} {K:PySem.W.Frag} {P:Program} {w:World} {o:Option (List Int)}
end
end L2
namespace L2
open PySem PySem.Spec PyProof.Rows
section
variable {X:Cx} {pins:List (Addr × Obj)} {σ:St} {H:Hp} {s:Shared} {a:Addr} {u u':HO}
theorem Inv.swp (I:Inv X pins σ H s) (h:H a = some u) (h1:∀ xs, u ≠ .tup xs) (h2:∀ ps, u ≠ .tbl ps) (h3:∀ x, u ≠ .own x) (hz:∀ o v, X.H₀ a ≠ some (.frz o v)) (new:aG X.prog X.w (upd H a u') s.heap a u'):Inv X pins σ (upd H a u') s := by
 have ne:∀ b, H b = none → b ≠ a := fun b e => (ao h e).symm
 have no:∀ b o, H b = some o → o ≠ u → upd H a u' b = some o := fun b o e n => (ac (fun (z:b = a) => n (Option.some.inj (e.symm.trans (z ▸ h))))).trans e
 refine ⟨I.ok, I.os, I.bare, ⟨I.base.keep, I.base.slot, fun b o e n hx => (ac (ne b (I.base.free b o e n hx))).trans (I.base.free b o e n hx), I.base.there, fun b xs e => no b _ (I.base.tups b xs e) fun z => h1 xs z.symm, fun b o v e => (ac (fun (z:b = a) => hz o v (z ▸ e))).trans (I.base.frzs b o v e), fun b ps e => ?_⟩, I.loc, I.cell, (ac (ne _ I.free)).trans I.free, fun x c e => (ac (ne _ (I.freeC x c e))).trans (I.freeC x c e), fun p hp => ?_, fun b o e => ?_, I.len⟩
 ·refine oq11 (I.base.tbls b ps e) fun m z => ⟨m, no b _ z fun y => h2 _ y.symm⟩
 ·have z := I.pin p hp
  exact ⟨z.1, (ac (ne _ z.2.1)).trans z.2.1, z.2.2⟩
 ·by_cases eb:b = a
  ·subst eb; rw [ai] at e; cases e; exact new
  ·rw [ac eb] at e
   exact (I.hok b o e).stay (fun _ _ _ q => q) (fun c q => no c _ q fun y => h3 _ y.symm) fun c xs q => no c _ q fun y => h1 _ y.symm
end
end L2
namespace L2
open PySem PySem.Spec PyProof.Rows
noncomputable abbrev Rd_ := List (Int × Int)
noncomputable abbrev Dr_ := List (Int × Option Int)
variable [Kon]
section
variable {Γ:List Slot} {ta:TE} {K:PySem.W.Frag} {CR:Addr}
end
section
variable {C:Fc} {F H F' H':Hp} {Γ:List Slot} {σ:St} {p:Addr} {i g:Nat}
section
variable {α β γ δ:Type} {r0:Rp α} {a0:α} {s:Rp β} {y:β} {r:Rp γ} {kvs:List (Int × γ)} {q:Rp δ} {tb:TE}
end
end
end L2
namespace L2
open PySem PySem.Spec PyProof.Rows
variable [Kon]
section
variable {P:Program} {w:World} {K:PySem.W.Frag} {mg:Str → Option Value} {base:Heap} {m qual:Str} {st:Stmt} {N ps:List Str} {k:Nat} {CR:Addr} {τ γ:Type} {ra:RpA τ} {r:Rp γ}
end
section
variable {P:Program} {w:World} {K:PySem.W.Frag} {mg:Str → Option Value} {base:Heap} {m qual:Str} {st:Stmt} {N ps:List Str} {k:Nat} {CR:Addr} {τ:Type} {ra:RpA τ}
end
section
variable {Γ:List Slot} {T τ:Type} {CR pa pb:Addr} {rows:List (List Int)} {reach:Int} {rd:Rd_} {dr:Dr_} {u:TS} {fin:Fc → T → Ends → Prop} {K:PySem.W.Frag}
end
end L2
namespace L2
open PySem PySem.Spec PyProof.Rows
variable [Kon]
section
variable {Γ:List Slot} {T:Type} {CR:Addr} {u:TS} {fin:Fc → T → Ends → Prop} {f:List (List Int) → Option Dr_}
end
end L2
namespace Pu
end Pu
namespace L2
open PySem PySem.Spec PyProof.Rows
variable [Kon]
section
variable {Γ:List Slot} {T:Type} {te:TE} {u:TS} {fin:Fc → T → Ends → Prop} {K:PySem.W.Frag} {φ:Addr → Prop} {xs:List Int} {oi:Option Int}
end
end L2
namespace L2
open PySem PySem.Spec PyProof.Rows
variable [Kon]
section
variable {Γ:List Slot} {C:Fc} {F H:Hp} {σ:St} {q1 q2:Addr} {i g1 g2:Nat} {top:Int} {way ins:List Int}
end
section
variable {Γ:List Slot} {β:Type} {s:Rp β} {tb:TE} {ob:Option β} {q1 q2:Addr} {top:Int} {way ins:List Int}
end
section
variable {P:Program} {w:World} {K:PySem.W.Frag} {mg:Str → Option Value} {base:Heap} {x:Str} {st:Stmt} {N ps:List Str} {k:Nat} {τ:Type} {ra:RpA τ}
end
section
variable {Γ:List Slot} {T τ:Type} {u:TS} {fin:Fc → T → Ends → Prop} {ra:RpA τ} {t:TA} {oτ:Option τ} {f:τ → Option (Int × List Int × List Int)}
end
end L2
namespace Pu
end Pu
namespace L2
open PySem PySem.Spec PyProof.Rows
variable [Kon]
section
variable {Γ:List Slot} {C:Fc} {F H:Hp} {σ:St} {q1 q2:Addr} {i g1 g2:Nat} {row last:List Int} {mid:List (List Int)}
end
section
variable {Γ:List Slot} {β:Type} {s:Rp β} {tb:TE} {ob:Option β} {q1 q2:Addr} {row last:List Int} {mid:List (List Int)}
end
section
variable {Γ:List Slot} {T:Type} {u:TS} {fin:Fc → T → Ends → Prop} {K:PySem.W.Frag} {α:Type} {r:Rp α} {φ:Addr → Prop} {xs:List α} {to te:TE} {o:Option T}
end
section
variable {Γ:List Slot} {α β:Type} {r:Rp α} {s:Rp β} {ta tb:TE} {oa:Option α} {ob:Option β}
end
section
variable {Γ:List Slot} {T:Type} {te:TE} {u:TS} {fin:Fc → T → Ends → Prop} {K:PySem.W.Frag}
end
end L2
namespace Tim
open PySem PySem.W PyProof.Rows
structure Cx (M:Model) (A:Around) (s:Shared) (κ:SortKind) (f:Nat → Keyed) (T:Nat → Nat → Prop) (X:Nat → Prop):Prop where
 ask:∀ i j, X i → X j → ∀ C:Bool → Prop, (T i j → C true) → (i = j ∨ T j i → C false) → wpAny M A (keyLt' κ (f i).1 (f j).1) (fun b s' => s' = s ∧ C b) (fun _ _ => False) s
 tr:∀ {i j k}, T i j → T j k → T i k
 irr:∀ {i}, ¬ T i i
noncomputable abbrev ar (f:Nat → Keyed) (l:List Nat):Array Keyed := List.toArray (l.map f)
noncomputable abbrev St (κ:SortKind) (f:Nat → Keyed) (l:List Nat) (pd:Array (Nat × Nat × Nat)) (g:Nat):SortSt := SortSt.mk' κ (ar f l) pd g none
section
variable {M:Model} {A:Around} {E:Value → Shared → Prop} {s:Shared} {κ:SortKind} {f:Nat → Keyed} {T:Nat → Nat → Prop} {X:Nat → Prop}
theorem ar_get {l:List Nat} {i x:Nat} (h:l[i]? = some x):(ar f l)[i]? = some (f x) := by
 show (List.toArray (l.map f))[i]? = _
 rw [List.getElem?_toArray, List.getElem?_map, h]; rfl
theorem kM (K:Cx M A s κ f T X) {i j:Nat} {Q:Option Bool → SortSt → Prop} {st:SortSt} (hk:kindOf st = κ) (hi:X i) (hj:X j) (h1:T i j → Q (some true) st) (h0:i = j ∨ T j i → Q (some false) st) :
  wpS M A E s (lt' (f i) (f j)) Q st := by
 rw [lt'_eq]
 refine wpS_bind (wpS_get ?_)
 rw [hk]
 refine wpS_bind (wpS_lift (wpAny_attempt (wpAny_mono (K.ask i j hi hj (fun b => Q (some b) st) h1 h0) (fun b s' z => ⟨z.1, wpS_pure z.2⟩) fun _ _ z => z.elim)))
theorem bv {l:List Nat} {i x:Nat} {Q:Keyed → SortSt → Prop} {st:SortSt} (h:l[i]? = some x) (q:Q (f x) st):wpS M A E s (elem' (ar f l) i) Q st := by
 rw [elem'_eq, ar_get h]
 exact wpS_pure q
theorem eZ (K:Cx M A s κ f T X) {l:List Nat} {pd:Array (Nat × Nat × Nat)} {g a b i j:Nat} {Q:Option Bool → SortSt → Prop} (ha:l[a]? = some i) (hb:l[b]? = some j) (hi:X i) (hj:X j) (h1:T i j → Q (some true) (St κ f l pd g)) (h0:i = j ∨ T j i → Q (some false) (St κ f l pd g)) :
  wpS M A E s (ltAt' a b) Q (St κ f l pd g) := by
 rw [ltAt'_eq]
 refine wpS_bind (wpS_get ?_)
 show wpS _ _ _ _ (do let x ← elem' (ar f l) a; let y ← elem' (ar f l) b; lt' x y) Q _
 exact wpS_bind (bv ha (wpS_bind (bv hb (kM K rfl hi hj h1 h0))))
theorem hZ {R:Nat → Nat → Prop} {V:List Nat} {n i j x y:Nat} (h:(V.take n).Pairwise R) (hij:i < j) (hj:j < n) (hx:V[i]? = some x) (hy:V[j]? = some y):R x y := by
 have gx:(V.take n)[i]? = some x := by rw [List.getElem?_take_of_lt (nz8 hij hj)]; exact hx
 have gy:(V.take n)[j]? = some y := by rw [List.getElem?_take_of_lt hj]; exact hy
 refine Exists.elim (List.getElem?_eq_some_iff.mp gx) fun lx ex => Exists.elim (List.getElem?_eq_some_iff.mp gy) fun ly ey => ?_
 rw [← ex, ← ey]
 exact List.pairwise_iff_getElem.mp h i j lx ly hij
theorem jA {R:Nat → Nat → Prop} (tr:∀ i j k, R i j → R j k → R i k) {V:List Nat} {n x y:Nat} (h:(V.take n).Pairwise R) (h1:1 ≤ n) (hy:V[n - 1]? = some y) (hx:V[n]? = some x) (r:R y x):(V.take (n + 1)).Pairwise R := by
 rw [List.take_succ, hx]
 refine List.pairwise_append.mpr ⟨h, List.pairwise_singleton _ _, fun a ha b hb => ?_⟩
 rw [List.mem_singleton.mp hb]
 refine oq11 (List.getElem_of_mem ha) fun k e => Exists.elim e fun hk e => ?_
 have hkn:k < n := nz1 hk (List.length_take_le _ _)
 have ga:V[k]? = some a := by rw [← List.getElem?_take_of_lt hkn, ← e]; exact List.getElem?_eq_getElem hk
 rcases Nat.lt_or_ge k (n - 1) with z | z
 ·exact tr _ _ _ (hZ h z (Nat.sub_lt h1 Nat.one_pos) ga hy) r
 ·have:k = n - 1 := by omega
  rw [this, hy] at ga
  exact Option.some.inj ga ▸ r
theorem cK {U V:List Nat} {n:Nat}:(U ++ V)[U.length + n]? = V[n]? := by
 rw [List.getElem?_append_right (Nat.le_add_right _ _), Nat.add_sub_cancel_left]
theorem gu {U V:List Nat} {n:Nat} (h:1 ≤ n):(U ++ V)[U.length + n - 1]? = V[n - 1]? := by
 rw [Nat.add_sub_assoc h]; exact cK
noncomputable def asc (lo a m:Nat):StateT SortSt Sem (Option (Option Nat) × Nat) := forIn [a:m] ((none, a):Option (Option Nat) × Nat) fun _ r => do
 match ← ltAt' (lo + r.2) (lo + r.2 - 1) with
 | some b => if b = true then pure (ForInStep.done (none, r.2)) else pure (ForInStep.yield (none, r.2 + 1))
 | _ => pure (ForInStep.done (some none, r.2))
theorem nd_ne {V:List Nat} (h:V.Nodup) {i j x y:Nat} (hx:V[i]? = some x) (hy:V[j]? = some y) (n:i ≠ j):x ≠ y := fun e => by
 refine Exists.elim (List.getElem?_eq_some_iff.mp hx) fun lx ex => Exists.elim (List.getElem?_eq_some_iff.mp hy) fun ly ey => ?_
 exact n ((List.getElem_inj h).mp (ex.trans (e.trans ey.symm)))
theorem has {V:List Nat} {i:Nat} (h:i < V.length):∃ x, V[i]? = some x ∧ x ∈ V := ⟨V[i], List.getElem?_eq_getElem h, List.getElem_mem h⟩
theorem asc_ok (K:Cx M A s κ f T X) {U V:List Nat} {pd:Array (Nat × Nat × Nat)} {g a:Nat} {Q:Option (Option Nat) × Nat → SortSt → Prop} (nd:V.Nodup) (hX:∀ x ∈ V, X x) (h1:1 ≤ a) (ha:a ≤ V.length) (hp:(V.take a).Pairwise T)
  (h:∀ n, a ≤ n → n ≤ V.length → (V.take n).Pairwise T → (n = V.length ∨ ∃ x y, V[n]? = some x ∧ V[n - 1]? = some y ∧ T x y) → Q (none, n) (St κ f (U ++ V) pd g)):wpS M A E s (asc U.length a V.length) Q (St κ f (U ++ V) pd g) := by
 unfold asc
 refine wpS_forRange (I := fun i c st => c = (none, i) ∧ st = St κ f (U ++ V) pd g ∧ a ≤ i ∧ (V.take i).Pairwise T) ?_ ?_ ⟨rfl, rfl, nz6 _, hp⟩
 ·intro i c st hi1 hi2 z
  refine oq04 z fun e1 e2 e3 e4 => ?_
  subst e1; subst e2
  dsimp only
  refine oq12 (has hi2) fun x hx mx => oq12 (has (V := V) (i := i - 1) (by omega)) fun y hy my => ?_
  refine wpS_bind (eZ K (cK.trans hx) ((gu (by omega)).trans hy) (hX x mx) (hX y my) (fun t => ?_) fun t => ?_)
  ·exact wpS_pure (h i e3 (nz5 hi2) e4 (.inr ⟨x, y, hx, hy, t⟩))
  ·refine wpS_pure ⟨rfl, rfl, Nat.le_succ_of_le e3, jA (R := T) (fun _ _ _ => K.tr) e4 (by omega) hy hx (t.resolve_left (nd_ne nd hx hy (by omega)))⟩
 ·intro c st z
  refine oq04 z fun e1 e2 e3 e4 => ?_
  rw [Nat.max_eq_right ha] at e1 e4
  subst e1; subst e2
  exact h _ ha (nz6 _) e4 (.inl rfl)
theorem kN {α:Type} {U V:List α} {n:Nat} (hn:n ≤ V.length):mirror (List.toArray (U ++ V)) U.length (U.length + n) ((U.length + n - U.length) / 2) = List.toArray (U ++ ((V.take n).reverse ++ V.drop n)) := by
 apply Array.ext_getElem?
 intro k
 rw [getElem?_mirror_all (by rw [List.size_toArray, List.length_append]; omega), List.getElem?_toArray, List.getElem?_toArray, List.getElem?_toArray]
 have lr:((V.take n).reverse).length = n := by rw [List.length_reverse, List.length_take, Nat.min_eq_left hn]
 by_cases h1:k < U.length
 ·rw [if_neg (by omega), List.getElem?_append_left h1, List.getElem?_append_left h1]
 ·have e:k = U.length + (k - U.length) := by omega
  generalize k - U.length = d at e
  subst e
  by_cases h2:d < n
  ·rw [if_pos (by omega), List.getElem?_append_right (by omega), List.getElem?_append_right (by omega), List.getElem?_append_left (by rw [lr]; omega), List.getElem?_reverse (by rw [List.length_take, Nat.min_eq_left hn]; omega), List.length_take, Nat.min_eq_left hn, List.getElem?_take_of_lt (by omega)]
   congr 1; omega
  ·rw [if_neg (by omega), List.getElem?_append_right (by omega), List.getElem?_append_right (by omega), List.getElem?_append_right (by rw [lr]; omega), lr, List.getElem?_drop]
   congr 1; omega
theorem rev_ok {U V:List Nat} {pd:Array (Nat × Nat × Nat)} {g n:Nat} {Q:Unit → SortSt → Prop} (hn:n ≤ V.length) (h:Q () (St κ f (U ++ ((V.take n).reverse ++ V.drop n)) pd g)):wpS M A E s (reverseSlice' U.length (U.length + n)) Q (St κ f (U ++ V) pd g) := by
 rw [reverseSlice'_eq]
 refine wpS_modify ?_
 have e := kN (U := U.map f) (V := V.map f) (n := n) (by rw [List.length_map]; exact hn)
 rw [List.length_map, ← List.map_append, ← List.map_take, ← List.map_drop, ← List.map_reverse, ← List.map_append, ← List.map_append] at e
 show Q () (SortSt.mk' κ (mirror (List.toArray ((U ++ V).map f)) U.length (U.length + n) ((U.length + n - U.length) / 2)) pd g none)
 rw [e]
 exact h
theorem run_ok (K:Cx M A s κ f T X) {U V:List Nat} {pd:Array (Nat × Nat × Nat)} {g:Nat} {Q:Option Nat → SortSt → Prop} (nd:V.Nodup) (hX:∀ x ∈ V, X x) (h1:1 ≤ V.length)
  (h:∀ n V', V'.Perm V → 1 ≤ n → n ≤ V.length → (V'.take n).Pairwise T → Q (some n) (St κ f (U ++ V') pd g)):wpS M A E s (countRun' U.length V.length) Q (St κ f (U ++ V) pd g) := by
 rw [countRun'_eq]
 refine wpS_bind (asc_ok K nd hX (nz6 1) h1 ?_ fun n n1 n2 n3 n4 => ?_)
 ·cases V with
  | nil => exact .nil
  | cons a V => exact List.pairwise_singleton _ _
 ·dsimp only
  by_cases e:n = V.length
  ·rw [if_pos (by rw [e]; exact beq_self_eq_true _)]
   exact wpS_pure (h n V (.refl _) n1 n2 n3)
  ·rw [if_neg (fun z => e (eq_of_beq z))]
   refine oq23 (n4.resolve_left e) fun x y hx hy t => ?_
   have n5:n < V.length := Nat.lt_of_le_of_ne n2 e
   by_cases e2:n > 1
   ·rw [if_pos e2]
    refine oq12 (has (V := V) (i := 0) (by omega)) fun z hz mz => ?_
    have tz:T z y := hZ n3 (by omega) (by omega) hz hy
    refine wpS_bind (eZ K (a := U.length) (b := U.length + n - 1) ((congrArg (fun k => (U ++ V)[k]?) (Nat.add_zero _).symm).trans (cK.trans hz)) ((gu n1).trans hy) (hX z mz) (hX y (List.mem_of_getElem? hy)) (fun _ => ?_) fun w => ?_)
    ·exact wpS_pure (h n V (.refl _) n1 n2 n3)
    ·exact (w.elim (fun q => K.irr (q ▸ tz)) fun q => K.irr (K.tr q tz)).elim
   ·rw [if_neg e2]
    have en:n = 1 := by omega
    subst en
    refine wpS_bind (wpS_lift (wpAny_rule ⟨rfl, ?_⟩))
    refine wpS_bind (wpS_mono (wpS_forRange (I := fun i c st => c = (none, i, 0) ∧ st = St κ f (U ++ V) pd g ∧ 2 ≤ i ∧ (V.take i).Pairwise fun a b => T b a) (Q := fun c st => ∃ n, c = (none, n, 0) ∧ st = St κ f (U ++ V) pd g ∧ 2 ≤ n ∧ n ≤ V.length ∧ (V.take n).Pairwise fun a b => T b a) ?_ ?_ ⟨rfl, rfl, nz6 _, ?_⟩) ?_)
    ·intro i c st hi1 hi2 z
     refine oq04 z fun e1 e2 e3 e4 => ?_
     subst e1; subst e2
     dsimp only
     refine oq12 (has hi2) fun x hx mx => oq12 (has (V := V) (i := i - 1) (by omega)) fun y hy my => ?_
     refine wpS_bind (eZ K (cK.trans hx) ((gu (by omega)).trans hy) (hX x mx) (hX y my) (fun t => ?_) fun t => ?_)
     ·exact wpS_pure ⟨rfl, rfl, Nat.le_succ_of_le e3, jA (R := fun a b => T b a) (fun _ _ _ p q => K.tr q p) e4 (by omega) hy hx t⟩
     ·refine wpS_bind (eZ K ((gu (by omega)).trans hy) (cK.trans hx) (hX y my) (hX x mx) (fun t => ?_) fun t2 => ?_)
      ·exact wpS_pure ⟨i, rfl, rfl, e3, nz5 hi2, e4⟩
      ·exact absurd (t.resolve_left (nd_ne nd hx hy (by omega))) fun q => t2.elim (fun r => K.irr (r ▸ q)) fun r => K.irr (K.tr q r)
    ·intro c st z
     refine oq04 z fun e1 e2 e3 e4 => ?_
     rw [Nat.max_eq_right (show 1 + 1 ≤ V.length by omega)] at e1 e4
     exact ⟨_, e1, e2, by omega, nz6 _, e4⟩
    ·exact jA (R := fun a b => T b a) (n := 1) (fun _ _ _ p q => K.tr q p) (by cases V with
      | nil => exact .nil
      | cons a V => exact List.pairwise_singleton _ _) (nz6 _) hy hx t
    ·intro c st z
     refine oq15 z fun n e1 e2 e3 e4 e5 => ?_
     subst e1; subst e2
     dsimp only
     rw [if_neg (Nat.lt_irrefl 0)]
     refine wpS_bind (rev_ok e4 ?_)
     have lr:((V.take n).reverse).length = n := by rw [List.length_reverse, List.length_take, Nat.min_eq_left e4]
     have pm:((V.take n).reverse ++ V.drop n).Perm V := ((List.reverse_perm _).append_right _).trans (by rw [List.take_append_drop])
     have ln := pm.length_eq
     rw [← ln]
     refine wpS_bind (asc_ok K (pm.nodup_iff.mpr nd) (fun x hx => hX x (pm.mem_iff.mp hx)) (by omega) (by rw [ln]; exact e4) ?_ fun m m1 m2 m3 _ => ?_)
     ·rw [List.take_left' lr]
      exact List.pairwise_reverse.mpr e5
     ·exact wpS_pure (h m _ pm (by omega) (by rw [← ln]; exact m2) m3)
theorem kO {α:Type} {P Y Z:List α} {x:α}:bubble (List.toArray (P ++ (Y ++ x :: Z))) (P.length + Y.length) Y.length = List.toArray (P ++ x :: (Y ++ Z)) := by
 apply Array.ext_getElem?
 intro k
 rw [getElem?_bubble (by rw [List.size_toArray, List.length_append, List.length_append, List.length_cons]; omega) _ (by omega)]
 simp only [List.getElem?_toArray]
 have top:(P ++ (Y ++ x :: Z))[P.length + Y.length]? = some x := by rw [List.getElem?_append_right (by omega), List.getElem?_append_right (by omega), show P.length + Y.length - P.length - Y.length = 0 by omega]; rfl
 by_cases h1:k < P.length
 ·rw [if_neg (by omega), if_neg (by omega), List.getElem?_append_left h1, List.getElem?_append_left h1]
 ·have e:k = P.length + (k - P.length) := by omega
  generalize k - P.length = d at e
  subst e
  rw [List.getElem?_append_right (l₁ := P) (l₂ := x :: (Y ++ Z)) (by omega), Nat.add_sub_cancel_left]
  cases d with
  | zero => rw [if_pos (by omega), top]; rfl
  | succ d =>
   rw [if_neg (by omega), List.getElem?_cons_succ]
   by_cases h2:d < Y.length
   ·rw [if_pos (by omega), List.getElem?_append_left h2, List.getElem?_append_right (by omega), List.getElem?_append_left (by omega)]
    congr 1; omega
   ·rw [if_neg (by omega), List.getElem?_append_right (by omega), List.getElem?_append_right (by omega), List.getElem?_append_right (by omega), show P.length + (d + 1) - P.length - Y.length = (d - Y.length) + 1 by omega]
    rfl
theorem cut_at {V:List Nat} {k:Nat} (h:k < V.length):∃ Y x Z, V = Y ++ x :: Z ∧ Y.length = k := ⟨V.take k, V[k], V.drop (k + 1), by rw [← List.drop_eq_getElem_cons h, List.take_append_drop], by rw [List.length_take]; omega⟩
theorem mv_ok {U Y Z:List Nat} {pd:Array (Nat × Nat × Nat)} {g x l:Nat} {Q:Unit → SortSt → Prop} (hl:l ≤ Y.length) (h:Q () (St κ f (U ++ (Y.take l ++ x :: (Y.drop l ++ Z))) pd g)):wpS M A E s (moveDown' (U.length + Y.length) (U.length + l)) Q (St κ f (U ++ (Y ++ x :: Z)) pd g) := by
 rw [moveDown'_eq]
 refine wpS_modify ?_
 have e := kO (P := U.map f ++ (Y.take l).map f) (Y := (Y.drop l).map f) (x := f x) (Z := Z.map f)
 have l1:(U.map f ++ (Y.take l).map f).length = U.length + l := by rw [List.length_append, List.length_map, List.length_map, List.length_take]; omega
 have l2:((Y.drop l).map f).length = Y.length - l := by rw [List.length_map, List.length_drop]
 rw [l1, l2, show U.length + l + (Y.length - l) = U.length + Y.length by omega, List.append_assoc, ← List.append_assoc ((Y.take l).map f), ← List.map_append, List.take_append_drop, List.append_assoc] at e
 show Q () (SortSt.mk' κ (bubble (List.toArray ((U ++ (Y ++ x :: Z)).map f)) (U.length + Y.length) (U.length + Y.length - (U.length + l))) pd g none)
 rw [show U.length + Y.length - (U.length + l) = Y.length - l by omega]
 have e2:(U ++ (Y ++ x :: Z)).map f = U.map f ++ (Y.map f ++ f x :: Z.map f) := by simp only [List.map_append, List.map_cons]
 have e3:(U ++ (Y.take l ++ x :: (Y.drop l ++ Z))).map f = U.map f ++ ((Y.take l).map f ++ f x :: ((Y.drop l).map f ++ Z.map f)) := by simp only [List.map_append, List.map_cons]
 rw [e2, e, ← e3]
 exact h
theorem ins_pw (K:Cx M A s κ f T X) {Y Z:List Nat} {l x:Nat} (hl:l ≤ Y.length) (hp:Y.Pairwise T) (h0:∀ j y, j < l → Y[j]? = some y → T y x) (h1:∀ j y, l ≤ j → Y[j]? = some y → T x y):((Y.take l ++ x :: (Y.drop l ++ Z)).take (Y.length + 1)).Pairwise T := by
 have e:(Y.take l ++ x :: (Y.drop l ++ Z)).take (Y.length + 1) = Y.take l ++ x :: Y.drop l := by
  have l1:(Y.take l ++ x :: Y.drop l).length = Y.length + 1 := by rw [List.length_append, List.length_cons, List.length_take, List.length_drop]; omega
  rw [← List.cons_append, ← List.append_assoc]
  exact List.take_left' l1
 have q := hp
 rw [← List.take_append_drop l Y] at q
 have q := List.pairwise_append.mp q
 rw [e]
 have a0:∀ y ∈ Y.take l, T y x := fun y hy => oq11 (List.getElem_of_mem hy) fun j z => Exists.elim z fun hj z => by
  have hjl:j < l := nz1 hj (List.length_take_le _ _)
  exact h0 j y hjl (by rw [← List.getElem?_take_of_lt hjl, ← z]; exact List.getElem?_eq_getElem hj)
 have a1:∀ y ∈ Y.drop l, T x y := fun y hy => oq11 (List.getElem_of_mem hy) fun j z => Exists.elim z fun hj z => h1 (l + j) y (Nat.le_add_right _ _) (by rw [← List.getElem?_drop, ← z]; exact List.getElem?_eq_getElem hj)
 refine List.pairwise_append.mpr ⟨q.1, List.pairwise_cons.mpr ⟨a1, q.2.1⟩, fun a ha b hb => ?_⟩
 rcases List.mem_cons.mp hb with z | z
 ·rw [z]; exact a0 a ha
 ·exact K.tr (a0 a ha) (a1 b z)
theorem bin_ok (K:Cx M A s κ f T X) {U V:List Nat} {pd:Array (Nat × Nat × Nat)} {g n ok:Nat} {Q:Bool → SortSt → Prop} (nd:V.Nodup) (hX:∀ x ∈ V, X x) (h1:1 ≤ ok) (ho:ok ≤ n) (hn:n ≤ V.length) (hp:(V.take ok).Pairwise T)
  (h:∀ V', V'.Perm V → (V'.take n).Pairwise T → Q true (St κ f (U ++ V') pd g)):wpS M A E s (binarySort' U.length n ok) Q (St κ f (U ++ V) pd g) := by
 rw [binarySort'_eq, Nat.max_eq_left h1]
 refine wpS_bind (wpS_mono (wpS_forRange (I := fun k c st => c = (none, ()) ∧ ∃ V', st = St κ f (U ++ V') pd g ∧ V'.Perm V ∧ (V'.take k).Pairwise T) (Q := fun c st => c = (none, ()) ∧ ∃ V', st = St κ f (U ++ V') pd g ∧ V'.Perm V ∧ (V'.take n).Pairwise T) ?_ ?_ ⟨rfl, V, rfl, .refl _, hp⟩) ?_)
 ·intro k c st hk1 hk2 z
  refine oq02 z fun e1 z => oq13 z fun V' e2 pm pk => ?_
  subst e1; subst e2
  dsimp only
  have kl:k < V'.length := by rw [pm.length_eq]; omega
  refine oq32 (cut_at kl) fun Y x Z eV eY => ?_
  subst eV; subst eY
  have py:Y.Pairwise T := by rw [List.take_left] at pk; exact pk
  have xx:X x := hX x (pm.mem_iff.mp (List.mem_append_right _ (.head _)))
  have gx:(Y ++ x :: Z)[Y.length]? = some x := by rw [List.getElem?_append_right (nz6 _), Nat.sub_self]; rfl
  have nd' := pm.nodup_iff.mpr nd
  refine wpS_bind (wpS_mono (wpS_forRange (I := fun i c st => st = St κ f (U ++ (Y ++ x :: Z)) pd g ∧ ∃ l r, c = (none, l, r) ∧ l ≤ r ∧ r ≤ Y.length ∧ r - l ≤ Y.length - i ∧ (∀ j y, j < l → Y[j]? = some y → T y x) ∧ ∀ j y, r ≤ j → Y[j]? = some y → T x y)
   (Q := fun c st => st = St κ f (U ++ (Y ++ x :: Z)) pd g ∧ ∃ l r, c = (none, l, r) ∧ l ≤ Y.length ∧ (∀ j y, j < l → Y[j]? = some y → T y x) ∧ ∀ j y, l ≤ j → Y[j]? = some y → T x y) ?_ ?_ ⟨rfl, 0, Y.length, rfl, Nat.zero_le _, nz6 _, nz6 _, fun _ _ z => absurd z (Nat.not_lt_zero _), fun j y z w => absurd (List.getElem?_eq_some_iff.mp w).1 (Nat.not_lt.mpr z)⟩) ?_)
  ·intro i c st _ hi z
   refine oq02 z fun e1 z => oq26 z fun l r e2 z1 z2 z3 z4 z5 => ?_
   subst e1; subst e2
   dsimp only
   by_cases lr:l ≥ r
   ·rw [if_pos lr]
    have:l = r := Nat.le_antisymm z1 lr
    subst this
    exact wpS_pure ⟨rfl, l, l, rfl, z2, z4, z5⟩
   ·rw [if_neg lr]
    have m2:(l + r) / 2 < r := by omega
    refine oq12 (has (V := Y) (i := (l + r) / 2) (by omega)) fun y hy my => ?_
    have gy:(Y ++ x :: Z)[(l + r) / 2]? = some y := by rw [List.getElem?_append_left (by omega)]; exact hy
    refine wpS_bind (eZ K (cK.trans gx) (cK.trans gy) xx (hX y (pm.mem_iff.mp (List.mem_append_left _ my))) (fun t => ?_) fun t => ?_)
    ·refine wpS_pure ⟨rfl, l, (l + r) / 2, rfl, by omega, by omega, by omega, z4, fun j w hj hw => ?_⟩
     rcases Nat.lt_or_ge ((l + r) / 2) j with q | q
     ·exact K.tr t (hZ (n := Y.length) (by rw [List.take_length]; exact py) q (List.getElem?_eq_some_iff.mp hw).1 hy hw)
     ·have:j = (l + r) / 2 := by omega
      rw [this, hy] at hw
      exact Option.some.inj hw ▸ t
    ·have t := t.resolve_left (nd_ne nd' gx gy (by omega))
     refine wpS_pure ⟨rfl, (l + r) / 2 + 1, r, rfl, by omega, by omega, by omega, fun j w hj hw => ?_, z5⟩
     rcases Nat.lt_or_ge j ((l + r) / 2) with q | q
     ·exact K.tr (hZ (n := Y.length) (by rw [List.take_length]; exact py) q (by omega) hw hy) t
     ·have:j = (l + r) / 2 := by omega
      rw [this, hy] at hw
      exact Option.some.inj hw ▸ t
  ·intro c st z
   refine oq02 z fun e1 z => oq26 z fun l r e2 z1 z2 z3 z4 z5 => ?_
   have:l = r := by omega
   subst this
   exact ⟨e1, l, l, e2, z2, z4, z5⟩
  ·intro c st z
   refine oq02 z fun e1 z => oq24 z fun l r e2 z2 z4 z5 => ?_
   subst e1; subst e2
   dsimp only
   refine wpS_bind (mv_ok z2 (wpS_pure ⟨rfl, _, rfl, ?_, ins_pw K z2 py z4 z5⟩))
   refine List.Perm.trans ?_ pm
   have:(Y ++ x :: Z) = Y.take l ++ (Y.drop l ++ x :: Z) := by rw [← List.append_assoc, List.take_append_drop]
   rw [this]
   exact List.Perm.append_left _ List.perm_middle.symm
 ·intro c st z
  rw [Nat.max_eq_right ho] at z
  exact z
 ·intro c st z
  refine oq02 z fun e1 z => oq13 z fun V' e2 pm pk => ?_
  subst e1; subst e2
  exact wpS_pure (h V' pm pk)
noncomputable def gal:Bool → Keyed → Array Keyed → Nat → Nat → Nat → StateT SortSt Sem (Option Nat) := sortPriv% PySem.Builtin.gallop
noncomputable def bey (L:Bool) (k:Keyed) (r:Array Keyed) (b i:Nat):StateT SortSt Sem (Option Bool) := do
 let y ← elem' r (b + i)
 if L then lt' y k else return (← lt' k y).map (!·)
theorem gal_eq (L:Bool) (k:Keyed) (r:Array Keyed) (b n h:Nat):gal L k r b n h = (do
  let mut u := 0
  let mut v := 1
  let mut p := 0
  let mut q := 0
  let some w ← bey L k r b h | return none
  if w then
   let m := n - h
   for _ in [0:n] do
    if v ≥ m then break
    let some o ← bey L k r b (h + v) | return none
    if !o then break
    u := v
    v := 2 * v + 1
   p := h + u + 1
   q := h + min v m
  else
   let m := h + 1
   for _ in [0:n] do
    if v ≥ m then break
    let some o ← bey L k r b (h - v) | return none
    if o then break
    u := v
    v := 2 * v + 1
   p := h + 1 - min v m
   q := h - u
  for _ in [0:n] do
   if p ≥ q then break
   let m := p + (q - p) / 2
   let some o ← bey L k r b m | return none
   if o then p := m + 1 else q := m
  return some q) := rfl
theorem jB (K:Cx M A s κ f T X) {L:Bool} {l:List Nat} {ky b i x:Nat} {Q:Option Bool → SortSt → Prop} {st:SortSt} (hk:kindOf st = κ) (hy:X ky) (hx:X x) (g:l[b + i]? = some x) (ne:x ≠ ky) (h1:T x ky → Q (some true) st) (h0:T ky x → Q (some false) st) :
  wpS M A E s (bey L (f ky) (ar f l) b i) Q st := by
 unfold bey
 refine wpS_bind (bv g ?_)
 cases L with
 | true => exact kM K hk hx hy h1 fun z => h0 (z.resolve_left ne)
 | false => exact wpS_bind (kM K hk hy hx (fun z => wpS_pure (h0 z)) fun z => wpS_pure (h1 (z.resolve_left (Ne.symm ne))))
noncomputable def gtl (L:Bool) (k:Keyed) (r:Array Keyed) (b n p q:Nat):StateT SortSt Sem (Option Nat) := do
 let mut p := p
 let mut q := q
 for _ in [0:n] do
  if p ≥ q then break
  let m := p + (q - p) / 2
  let some o ← bey L k r b m | return none
  if o then p := m + 1 else q := m
 return some q
theorem gtl_ok (K:Cx M A s κ f T X) {L:Bool} {l:List Nat} {ky b n p q:Nat} {Q:Option Nat → SortSt → Prop} {st:SortSt} {d:Nat → Nat} (hk:kindOf st = κ) (hy:X ky) (hX:∀ i, i < n → X (d i)) (g:∀ i, i < n → l[b + i]? = some (d i)) (ne:∀ i, i < n → d i ≠ ky)
  (mo:∀ i j, i < j → j < n → T (d i) (d j)) (pq:p ≤ q) (qn:q ≤ n) (h0:∀ i, i < p → T (d i) ky) (h1:∀ i, q ≤ i → i < n → T ky (d i)) (h:∀ k, k ≤ n → (∀ i, i < k → T (d i) ky) → (∀ i, k ≤ i → i < n → T ky (d i)) → Q (some k) st):wpS M A E s (gtl L (f ky) (ar f l) b n p q) Q st := by
 unfold gtl
 refine wpS_bind (wpS_mono (wpS_forRange (I := fun i c st' => st' = st ∧ ∃ u v, c = (none, u, v) ∧ u ≤ v ∧ v ≤ n ∧ v - u ≤ n - i ∧ (∀ i, i < u → T (d i) ky) ∧ ∀ i, v ≤ i → i < n → T ky (d i))
  (Q := fun c st' => st' = st ∧ ∃ u v, c = (none, u, v) ∧ v ≤ n ∧ (∀ i, i < v → T (d i) ky) ∧ ∀ i, v ≤ i → i < n → T ky (d i)) ?_ ?_ ⟨rfl, p, q, rfl, pq, qn, nz4 (Nat.sub_le _ _) qn, h0, h1⟩) ?_)
 ·intro i c st' _ hi z
  refine oq02 z fun e1 z => oq26 z fun u v e2 z1 z2 z3 z4 z5 => ?_
  subst e1; subst e2
  dsimp only
  by_cases c:u ≥ v
  ·rw [if_pos c]
   have:u = v := Nat.le_antisymm z1 c
   exact wpS_pure ⟨rfl, u, v, rfl, z2, this ▸ z4, z5⟩
  ·rw [if_neg c]
   have hm:u + (v - u) / 2 < n := by omega
   refine wpS_bind (jB K hk hy (hX _ hm) (g _ hm) (ne _ hm) (fun t => ?_) fun t => ?_)
   ·refine wpS_pure ⟨rfl, _, _, rfl, by omega, z2, by omega, fun j hj => ?_, z5⟩
    rcases Nat.lt_or_ge j (u + (v - u) / 2) with w | w
    ·exact K.tr (mo _ _ w hm) t
    ·rw [show j = u + (v - u) / 2 by omega]; exact t
   ·refine wpS_pure ⟨rfl, _, _, rfl, by omega, by omega, by omega, z4, fun j hj hn => ?_⟩
    rcases Nat.lt_or_ge (u + (v - u) / 2) j with w | w
    ·exact K.tr t (mo _ _ w hn)
    ·rw [show j = u + (v - u) / 2 by omega]; exact t
 ·intro c st' z
  refine oq02 z fun e1 z => oq26 z fun u v e2 z1 z2 z3 z4 z5 => ?_
  have:u = v := by omega
  exact ⟨e1, u, v, e2, z2, this ▸ z4, z5⟩
 ·intro c st' z
  refine oq02 z fun e1 z => oq24 z fun u v e2 z2 z4 z5 => ?_
  subst e1; subst e2
  exact wpS_pure (h v z2 z4 z5)
theorem jC (K:Cx M A s κ f T X) {L:Bool} {l:List Nat} {ky b n hint:Nat} {Q:Option Nat → SortSt → Prop} {st:SortSt} {d:Nat → Nat} (hk:kindOf st = κ) (hy:X ky) (hX:∀ i, i < n → X (d i)) (g:∀ i, i < n → l[b + i]? = some (d i)) (ne:∀ i, i < n → d i ≠ ky)
  (mo:∀ i j, i < j → j < n → T (d i) (d j)) (hh:hint < n) (h:∀ k, k ≤ n → (∀ i, i < k → T (d i) ky) → (∀ i, k ≤ i → i < n → T ky (d i)) → Q (some k) st):wpS M A E s (gal L (f ky) (ar f l) b n hint) Q st := by
 rw [gal_eq]
 refine wpS_bind (jB K hk hy (hX _ hh) (g _ hh) (ne _ hh) (fun t => ?_) fun t => ?_)
 ·refine wpS_bind (wpS_mono (wpS_forRange (I := fun i c st' => st' = st ∧ ∃ u v, c = (none, u, v) ∧ u < v ∧ i < v ∧ u < n - hint ∧ T (d (hint + u)) ky)
   (Q := fun c st' => st' = st ∧ ∃ u v, c = (none, u, v) ∧ u < v ∧ u < n - hint ∧ T (d (hint + u)) ky ∧ (v ≥ n - hint ∨ (v < n - hint ∧ T ky (d (hint + v))))) ?_ ?_ ⟨rfl, 0, 1, rfl, Nat.one_pos, Nat.one_pos, Nat.sub_pos_of_lt hh, t⟩) ?_)
  ·intro i c st' _ hi z
   refine oq02 z fun e1 z => oq25 z fun u v e2 z1 z2 z3 z4 => ?_
   subst e1; subst e2
   dsimp only
   by_cases c:v ≥ n - hint
   ·rw [if_pos c]
    exact wpS_pure ⟨rfl, u, v, rfl, z1, z3, z4, .inl c⟩
   ·rw [if_neg c]
    have hm:hint + v < n := by omega
    refine wpS_bind (jB K hk hy (hX _ hm) (g _ hm) (ne _ hm) (fun t => ?_) fun t => ?_)
    ·exact wpS_pure ⟨rfl, _, _, rfl, by omega, by omega, by omega, t⟩
    ·exact wpS_pure ⟨rfl, u, v, rfl, z1, z3, z4, .inr ⟨by omega, t⟩⟩
  ·intro c st' z
   refine oq02 z fun e1 z => oq25 z fun u v e2 z1 z2 z3 z4 => ?_
   exact ⟨e1, u, v, e2, z1, z3, z4, .inl (by omega)⟩
  ·intro c st' z
   refine oq02 z fun e1 z => oq25 z fun u v e2 z1 z3 z4 z5 => ?_
   subst e1; subst e2
   refine gtl_ok (p := hint + u + 1) (q := hint + min v (n - hint)) K hk hy hX g ne mo (by omega) (by omega) (fun j hj => ?_) (fun j hj hn => ?_) h
   ·rcases Nat.lt_or_ge j (hint + u) with w | w
    ·exact K.tr (mo _ _ w (by omega)) z4
    ·rw [show j = hint + u by omega]; exact z4
   ·rcases z5 with z5 | z5
    ·omega
    ·rcases Nat.lt_or_ge (hint + v) j with w | w
     ·exact K.tr z5.2 (mo _ _ w hn)
     ·rw [show j = hint + v by omega]; exact z5.2
 ·refine wpS_bind (wpS_mono (wpS_forRange (I := fun i c st' => st' = st ∧ ∃ u v, c = (none, u, v) ∧ u < v ∧ i < v ∧ u < hint + 1 ∧ T ky (d (hint - u)))
   (Q := fun c st' => st' = st ∧ ∃ u v, c = (none, u, v) ∧ u < v ∧ u < hint + 1 ∧ T ky (d (hint - u)) ∧ (v ≥ hint + 1 ∨ (v < hint + 1 ∧ T (d (hint - v)) ky))) ?_ ?_ ⟨rfl, 0, 1, rfl, Nat.one_pos, Nat.one_pos, Nat.succ_pos _, t⟩) ?_)
  ·intro i c st' _ hi z
   refine oq02 z fun e1 z => oq25 z fun u v e2 z1 z2 z3 z4 => ?_
   subst e1; subst e2
   dsimp only
   by_cases c:v ≥ hint + 1
   ·rw [if_pos c]
    exact wpS_pure ⟨rfl, u, v, rfl, z1, z3, z4, .inl c⟩
   ·rw [if_neg c]
    have hm:hint - v < n := by omega
    refine wpS_bind (jB K hk hy (hX _ hm) (g _ hm) (ne _ hm) (fun t => ?_) fun t => ?_)
    ·exact wpS_pure ⟨rfl, u, v, rfl, z1, z3, z4, .inr ⟨by omega, t⟩⟩
    ·exact wpS_pure ⟨rfl, _, _, rfl, by omega, by omega, by omega, t⟩
  ·intro c st' z
   refine oq02 z fun e1 z => oq25 z fun u v e2 z1 z2 z3 z4 => ?_
   exact ⟨e1, u, v, e2, z1, z3, z4, .inl (by omega)⟩
  ·intro c st' z
   refine oq02 z fun e1 z => oq25 z fun u v e2 z1 z3 z4 z5 => ?_
   subst e1; subst e2
   refine gtl_ok (p := hint + 1 - min v (hint + 1)) (q := hint - u) K hk hy hX g ne mo (by omega) (by omega) (fun j hj => ?_) (fun j hj hn => ?_) h
   ·rcases z5 with z5 | z5
    ·omega
    ·rcases Nat.lt_or_ge j (hint - v) with w | w
     ·exact K.tr (mo _ _ w (by omega)) z5.2
     ·rw [show j = hint - v by omega]; exact z5.2
   ·rcases Nat.lt_or_ge (hint - u) j with w | w
    ·exact K.tr z4 (mo _ _ w hn)
    ·rw [show j = hint - u by omega]; exact z4
end
end Tim
namespace Tim
open PySem PySem.W PyProof.Rows
section
variable {M:Model} {A:Around} {E:Value → Shared → Prop} {s:Shared} {κ:SortKind} {f:Nat → Keyed} {T:Nat → Nat → Prop} {X:Nat → Prop}
noncomputable def mlo:Array Keyed → Array Keyed → StateT SortSt Sem (Array Keyed) := sortPriv% PySem.Builtin.mergeLo
noncomputable def mhi:Array Keyed → Array Keyed → StateT SortSt Sem (Array Keyed) := sortPriv% PySem.Builtin.mergeHi
noncomputable def smg:Nat → StateT SortSt Sem Unit := sortPriv% PySem.Builtin.setMinGallop
theorem jD (g:Nat):smg g = modify fun z => SortSt.mk' (kindOf z) (arrOf z) (pendingOf z) g (failedOf z) := rfl
noncomputable def fA (x y o:Array Keyed) (i j:Nat):Array Keyed := o ++ x.extract i x.size ++ y.extract j y.size
noncomputable abbrev Z2 := Option (Array Keyed) × Array Keyed × Nat × Nat × Nat × Nat × Nat
noncomputable def q4 (x y:Array Keyed) (i g c d:Nat) (o:Array Keyed) (j:Nat):StateT SortSt Sem (ForInStep Z2) := do
 let z ← elem' x i
 if i + 1 + 1 == x.size then pure (.done (some (fA y x (o.push z) j (i + 1)), o.push z, i + 1, j, g, c, d))
 else if c < 7 && d < 7 then pure (.done (none, o.push z, i + 1, j, g, c, d)) else pure (.yield (none, o.push z, i + 1, j, g, c, d))
noncomputable def q3 (x y:Array Keyed) (i g c d:Nat) (o:Array Keyed) (j:Nat):StateT SortSt Sem (ForInStep Z2) := do
 match ← gal true (← elem' x i) y j (y.size - j) 0 with
 | some k => if k > 0 then (if j + k == y.size then pure (.done (some (fA x y (o ++ y.extract j (j + k)) i (j + k)), o ++ y.extract j (j + k), i, j + k, g, c, k)) else q4 x y i g c k (o ++ y.extract j (j + k)) (j + k)) else q4 x y i g c k o j
 | _ => pure (.done (some (fA x y o i j), o, i, j, g, c, d))
noncomputable def q2 (x y:Array Keyed) (j g c d:Nat) (o:Array Keyed) (i:Nat):StateT SortSt Sem (ForInStep Z2) := do
 let z ← elem' y j
 if j + 1 == y.size then pure (.done (some (fA x y (o.push z) i (j + 1)), o.push z, i, j + 1, g, c, d)) else q3 x y i g c d (o.push z) (j + 1)
noncomputable def q1 (x y o:Array Keyed) (i j c d g:Nat):StateT SortSt Sem (ForInStep Z2) := do
 smg g
 match ← gal false (← elem' y j) x i (x.size - i) 0 with
 | some k => if k > 0 then (if i + k + 1 == x.size then pure (.done (some (fA y x (o ++ x.extract i (i + k)) j (i + k)), o ++ x.extract i (i + k), i + k, j, g, k, d)) else if i + k == x.size then pure (.done (some (fA x y (o ++ x.extract i (i + k)) (i + k) j), o ++ x.extract i (i + k), i + k, j, g, k, d)) else q2 x y j g k d (o ++ x.extract i (i + k)) (i + k)) else q2 x y j g k d o i
 | _ => pure (.done (some (fA x y o i j), o, i, j, g, c, d))
noncomputable abbrev Z1 := Option (Array Keyed) × Array Keyed × Nat × Nat × Nat × Nat
noncomputable def w1 (x y:Array Keyed) (g:Nat) (z:Z1):StateT SortSt Sem (ForInStep Z1) := do
 match ← lt' (← elem' y z.2.2.2.1) (← elem' x z.2.2.1) with
 | some w =>
  if w = true then do
   let e ← elem' y z.2.2.2.1
   if z.2.2.2.1 + 1 == y.size then pure (.done (some (fA x y (z.2.1.push e) z.2.2.1 (z.2.2.2.1 + 1)), z.2.1.push e, z.2.2.1, z.2.2.2.1 + 1, 0, z.2.2.2.2.2 + 1))
   else if z.2.2.2.2.2 + 1 ≥ g then pure (.done (none, z.2.1.push e, z.2.2.1, z.2.2.2.1 + 1, 0, z.2.2.2.2.2 + 1)) else pure (.yield (none, z.2.1.push e, z.2.2.1, z.2.2.2.1 + 1, 0, z.2.2.2.2.2 + 1))
  else do
   let e ← elem' x z.2.2.1
   if z.2.2.1 + 1 + 1 == x.size then pure (.done (some (fA y x (z.2.1.push e) z.2.2.2.1 (z.2.2.1 + 1)), z.2.1.push e, z.2.2.1 + 1, z.2.2.2.1, z.2.2.2.2.1 + 1, 0))
   else if z.2.2.2.2.1 + 1 ≥ g then pure (.done (none, z.2.1.push e, z.2.2.1 + 1, z.2.2.2.1, z.2.2.2.2.1 + 1, 0)) else pure (.yield (none, z.2.1.push e, z.2.2.1 + 1, z.2.2.2.1, z.2.2.2.2.1 + 1, 0))
 | _ => pure (.done (some (fA x y z.2.1 z.2.2.1 z.2.2.2.1), z.2.1, z.2.2.1, z.2.2.2.1, z.2.2.2.2.1, z.2.2.2.2.2))
theorem mlo_eq (x y:Array Keyed):mlo x y = (do
  rule "list.sort.merge-lo"
  let mut o:Array Keyed := #[← elem' y 0]
  let mut i := 0
  let mut j := 1
  if j == y.size then return fA x y o i j
  if i + 1 == x.size then return fA y x o j i
  let mut g := gallopOf (← get)
  for _ in [0:x.size + y.size] do
   let mut c := 0
   let mut d := 0
   for _ in [0:x.size + y.size] do
    let some w ← lt' (← elem' y j) (← elem' x i) | return fA x y o i j
    if w then
     o := o.push (← elem' y j); j := j + 1; d := d + 1; c := 0
     if j == y.size then return fA x y o i j
     if d ≥ g then break
    else
     o := o.push (← elem' x i); i := i + 1; c := c + 1; d := 0
     if i + 1 == x.size then return fA y x o j i
     if c ≥ g then break
   rule "list.sort.gallop"
   g := g + 1
   for _ in [0:x.size + y.size] do
    if g > 1 then g := g - 1
    smg g
    let some k ← gal false (← elem' y j) x i (x.size - i) 0 | return fA x y o i j
    c := k
    if k > 0 then
     o := o ++ x.extract i (i + k); i := i + k
     if i + 1 == x.size then return fA y x o j i
     if i == x.size then return fA x y o i j
    o := o.push (← elem' y j); j := j + 1
    if j == y.size then return fA x y o i j
    let some k ← gal true (← elem' x i) y j (y.size - j) 0 | return fA x y o i j
    d := k
    if k > 0 then
     o := o ++ y.extract j (j + k); j := j + k
     if j == y.size then return fA x y o i j
    o := o.push (← elem' x i); i := i + 1
    if i + 1 == x.size then return fA y x o j i
    if c < 7 && d < 7 then break
   g := g + 1
   smg g
  unsupported "internal:list.sort.merge-bound") := rfl
theorem eC (x y:List Nat):ar f x ++ ar f y = ar f (x ++ y) := by
 show List.toArray _ ++ List.toArray _ = List.toArray ((x ++ y).map f)
 rw [List.append_toArray, List.map_append]
theorem f6 (x:List Nat) (a:Nat):(ar f x).push (f a) = ar f (x ++ [a]) := by
 show (List.toArray _).push _ = List.toArray ((x ++ [a]).map f)
 rw [List.push_toArray, List.map_append]; rfl
theorem bB (x:List Nat):(ar f x).size = x.length := by
 show (List.toArray (x.map f)).size = _
 rw [List.size_toArray, List.length_map]
theorem i0 (x:List Nat) (i j:Nat):(ar f x).extract i j = ar f ((x.drop i).take (j - i)) := by
 show (List.toArray (x.map f)).extract i j = List.toArray (((x.drop i).take (j - i)).map f)
 rw [List.extract_toArray, List.extract_eq_take_drop, List.map_take, List.map_drop]
theorem ar_end (x:List Nat) (i:Nat):(ar f x).extract i (ar f x).size = ar f (x.drop i) := by
 rw [i0, bB, List.take_of_length_le (by rw [List.length_drop]; exact nz6 _)]
theorem fA_ar (a b o:List Nat) (i j:Nat):fA (ar f a) (ar f b) (ar f o) i j = ar f (o ++ a.drop i ++ b.drop j) := by
 unfold fA
 rw [ar_end, ar_end, eC, eC]
structure JJ (T:Nat → Nat → Prop) (o P R al:List Nat):Prop where
 pm:(o ++ (P ++ R)).Perm al
 p1:(o ++ P).Pairwise T
 p2:(o ++ R).Pairwise T
theorem JJ.flip {o P R al:List Nat} (h:JJ T o P R al):JJ T o R P al := ⟨(List.Perm.append_left _ List.perm_append_comm).trans h.pm, h.p2, h.p1⟩
theorem JJ.mv {o U P R al:List Nat} (h:JJ T o (U ++ P) R al) (hu:∀ u ∈ U, ∀ r ∈ R, T u r):JJ T (o ++ U) P R al := by
 have p1 := h.p1
 rw [← List.append_assoc] at p1
 have p2 := List.pairwise_append.mp h.p2
 have p3 := List.pairwise_append.mp p1
 refine ⟨by have := h.pm; simpa only [List.append_assoc] using this, p1, List.pairwise_append.mpr ⟨p3.1, p2.2.1, fun x hx r hr => ?_⟩⟩
 exact (List.mem_append.mp hx).elim (fun z => p2.2.2 x z r hr) fun z => hu x z r hr
theorem JJ.end {o P R al:List Nat} (h:JJ T o P R al) (e:R = []):(o ++ P ++ R).Perm al ∧ (o ++ P ++ R).Pairwise T := by
 subst e
 refine ⟨by have := h.pm; simpa only [List.append_nil] using this, by rw [List.append_nil]; exact h.p1⟩
theorem JJ.last {o P R al:List Nat} (h:JJ T o P R al) (hu:∀ p ∈ P, ∀ r ∈ R, T r p):(o ++ R ++ P).Perm al ∧ (o ++ R ++ P).Pairwise T := by
 have p1 := List.pairwise_append.mp h.p1
 have p2 := List.pairwise_append.mp h.p2
 refine ⟨by rw [List.append_assoc]; exact h.flip.pm, List.pairwise_append.mpr ⟨h.p2, p1.2.1, fun x hx p hp => ?_⟩⟩
 exact (List.mem_append.mp hx).elim (fun z => p1.2.2 x z p hp) fun z => hu p hp x z
theorem f7 {a:List Nat} {i x:Nat} (h:a[i]? = some x):a.drop i = [x] ++ a.drop (i + 1) := by
 refine Exists.elim (List.getElem?_eq_some_iff.mp h) fun l e => ?_
 rw [List.drop_eq_getElem_cons l, e]; rfl
theorem drop_k {a:List Nat} {i k:Nat}:a.drop i = (a.drop i).take k ++ a.drop (i + k) := by
 rw [← List.drop_drop, List.take_append_drop]
theorem f9 {a:List Nat} {i u:Nat} (h:u ∈ a.drop i):∃ t, a[i + t]? = some u := oq11 (List.getElem_of_mem h) fun t z => Exists.elim z fun ht z => ⟨t, by rw [← List.getElem?_drop, ← z]; exact List.getElem?_eq_getElem ht⟩
theorem mem_dt {a:List Nat} {i k u:Nat} (h:u ∈ (a.drop i).take k):∃ t, t < k ∧ a[i + t]? = some u := oq11 (List.getElem_of_mem h) fun t z => Exists.elim z fun ht z => by
 have tk:t < k := nz1 ht (List.length_take_le _ _)
 exact ⟨t, tk, by rw [← List.getElem?_drop, ← List.getElem?_take_of_lt tk, ← z]; exact List.getElem?_eq_getElem ht⟩
structure Two (T:Nat → Nat → Prop) (X:Nat → Prop) (a b:List Nat):Prop where
 pa:a.Pairwise T
 pb:b.Pairwise T
 xa:∀ x ∈ a, X x
 xb:∀ x ∈ b, X x
 ne:∀ x ∈ a, ∀ y ∈ b, x ≠ y
 la:∀ x, a[a.length - 1]? = some x → ∀ y ∈ b, T y x
 fb:∀ y, b[0]? = some y → ∀ x ∈ a, T y x
theorem i3 {a:List Nat} (h:a.Pairwise T) {i j x y:Nat} (hij:i < j) (hx:a[i]? = some x) (hy:a[j]? = some y):T x y :=
 hZ (n := a.length) (by rw [List.take_length]; exact h) hij (List.getElem?_eq_some_iff.mp hy).1 hx hy
theorem eD (K:Cx M A s κ f T X) {b:List Nat} (h:b.Pairwise T) {j u y:Nat} (hy:b[j]? = some y) (t:T u y):∀ r ∈ b.drop j, T u r := fun r hr => oq11 (f9 hr) fun k hk => by
 cases k with
 | zero => rw [Nat.add_zero, hy] at hk; exact Option.some.inj hk ▸ t
 | succ k => exact K.tr t (i3 h (by omega) hy hk)
noncomputable def Fn (T:Nat → Nat → Prop) (f:Nat → Keyed) (al:List Nat) (r:Array Keyed):Prop := ∃ p:List Nat, r = ar f p ∧ p.Perm al ∧ p.Pairwise T
noncomputable def Wn (T:Nat → Nat → Prop) (f:Nat → Keyed) (a b:List Nat) (N:Nat) (o:Array Keyed) (i j:Nat):Prop :=
 ∃ o', o = ar f o' ∧ JJ T o' (a.drop i) (b.drop j) (a ++ b) ∧ i + 1 < a.length ∧ j < b.length ∧ N ≤ i + j
noncomputable def Wm (T:Nat → Nat → Prop) (f:Nat → Keyed) (a b:List Nat) (N:Nat) (r:Option (Array Keyed)) (o:Array Keyed) (i j:Nat):Prop :=
 (∃ z, r = some z ∧ Fn T f (a ++ b) z) ∨ (r = none ∧ Wn T f a b N o i j)
theorem jE {a b o:List Nat} {i j:Nat} (h:JJ T o (a.drop i) (b.drop j) (a ++ b)) (e:j = b.length):Fn T f (a ++ b) (fA (ar f a) (ar f b) (ar f o) i j) :=
 ⟨_, fA_ar a b o i j, h.end (List.drop_eq_nil_of_le (nz3 e.symm))⟩
theorem fn_endA {a b o:List Nat} {i j:Nat} (h:JJ T o (a.drop i) (b.drop j) (a ++ b)) (e:i = a.length):Fn T f (a ++ b) (fA (ar f a) (ar f b) (ar f o) i j) := by
 refine ⟨_, fA_ar a b o i j, ?_⟩
 have e':a.drop i = [] := List.drop_eq_nil_of_le (nz3 e.symm)
 have := h.flip.end e'
 rw [e', List.append_nil] at this ⊢
 exact this
theorem gv {a b o:List Nat} {i j:Nat} (H:Two T X a b) (h:JJ T o (a.drop i) (b.drop j) (a ++ b)) (e:i + 1 = a.length):Fn T f (a ++ b) (fA (ar f b) (ar f a) (ar f o) j i) := by
 refine ⟨_, fA_ar b a o j i, h.last fun p hp r hr => ?_⟩
 refine oq11 (f9 hp) fun t ht => ?_
 have := (List.getElem?_eq_some_iff.mp ht).1
 refine H.la p ?_ r (List.mem_of_mem_drop hr)
 rw [← ht]; congr 1; omega
noncomputable def P1 (T:Nat → Nat → Prop) (f:Nat → Keyed) (a b:List Nat) (N:Nat):ForInStep Z1 → Prop
 | .done z => Wm T f a b N z.1 z.2.1 z.2.2.1 z.2.2.2.1
 | .yield z => z.1 = none ∧ Wn T f a b N z.2.1 z.2.2.1 z.2.2.2.1
noncomputable def P2 (T:Nat → Nat → Prop) (f:Nat → Keyed) (a b:List Nat) (N:Nat):ForInStep Z2 → Prop
 | .done z => Wm T f a b N z.1 z.2.1 z.2.2.1 z.2.2.2.1
 | .yield z => z.1 = none ∧ Wn T f a b N z.2.1 z.2.2.1 z.2.2.2.1
theorem w1_ok (K:Cx M A s κ f T X) {a b:List Nat} (H:Two T X a b) {N g i j c d:Nat} {o:Array Keyed} {st:SortSt} {Q:ForInStep Z1 → SortSt → Prop} (hk:kindOf st = κ) (W:Wn T f a b N o i j) (h:∀ r, P1 T f a b (N + 1) r → Q r st) :
  wpS M A E s (w1 (ar f a) (ar f b) g (none, o, i, j, c, d)) Q st := by
 refine oq15 W fun o' e J hi hj hN => ?_
 subst e
 refine oq12 (has (V := a) (i := i) (by omega)) fun x hx mx => oq12 (has (V := b) (i := j) hj) fun y hy my => ?_
 unfold w1
 dsimp only
 refine wpS_bind (bv hy (wpS_bind (bv hx (wpS_bind (kM K hk (H.xb y my) (H.xa x mx) (fun t => ?_) fun t => ?_)))))
 ·have J':JJ T (o' ++ [y]) (a.drop i) (b.drop (j + 1)) (a ++ b) := by
   have := J.flip
   rw [f7 hy] at this
   exact (this.mv fun u hu => by rw [List.mem_singleton.mp hu]; exact eD K H.pa hx t).flip
  refine wpS_bind (bv hy ?_)
  rw [f6, bB]
  by_cases e:j + 1 = b.length
  ·rw [if_pos (by rw [e]; exact beq_self_eq_true _)]
   exact wpS_pure (h _ (.inl ⟨_, rfl, jE J' e⟩))
  ·rw [if_neg (fun z => e (eq_of_beq z))]
   have w:Wn T f a b (N + 1) (ar f (o' ++ [y])) i (j + 1) := ⟨_, rfl, J', hi, by omega, by omega⟩
   by_cases q:d + 1 ≥ g
   ·rw [if_pos q]; exact wpS_pure (h _ (.inr ⟨rfl, w⟩))
   ·rw [if_neg q]; exact wpS_pure (h _ ⟨rfl, w⟩)
 ·have t := t.resolve_left (Ne.symm (H.ne x mx y my))
  have J':JJ T (o' ++ [x]) (a.drop (i + 1)) (b.drop j) (a ++ b) := by
   have := J
   rw [f7 hx] at this
   exact this.mv fun u hu => by rw [List.mem_singleton.mp hu]; exact eD K H.pb hy t
  refine wpS_bind (bv hx ?_)
  rw [f6, bB]
  by_cases e:i + 1 + 1 = a.length
  ·rw [if_pos (by rw [e]; exact beq_self_eq_true _)]
   exact wpS_pure (h _ (.inl ⟨_, rfl, gv H J' e⟩))
  ·rw [if_neg (fun z => e (eq_of_beq z))]
   have w:Wn T f a b (N + 1) (ar f (o' ++ [x])) (i + 1) j := ⟨_, rfl, J', by omega, hj, by omega⟩
   by_cases q:c + 1 ≥ g
   ·rw [if_pos q]; exact wpS_pure (h _ (.inr ⟨rfl, w⟩))
   ·rw [if_neg q]; exact wpS_pure (h _ ⟨rfl, w⟩)
theorem q4_ok (K:Cx M A s κ f T X) {a b:List Nat} (H:Two T X a b) {N g i j c d x y:Nat} {o:List Nat} {st:SortSt} {Q:ForInStep Z2 → SortSt → Prop} (J:JJ T o (a.drop i) (b.drop j) (a ++ b)) (hi:i + 1 < a.length) (hj:j < b.length) (hN:N ≤ i + j) (hx:a[i]? = some x) (hy:b[j]? = some y) (t:T x y) (h:∀ r, P2 T f a b N r → Q r st) :
  wpS M A E s (q4 (ar f a) (ar f b) i g c d (ar f o) j) Q st := by
 unfold q4
 have J':JJ T (o ++ [x]) (a.drop (i + 1)) (b.drop j) (a ++ b) := by
  have := J
  rw [f7 hx] at this
  exact this.mv fun u hu => by rw [List.mem_singleton.mp hu]; exact eD K H.pb hy t
 refine wpS_bind (bv hx ?_)
 rw [f6, bB]
 by_cases e:i + 1 + 1 = a.length
 ·rw [if_pos (by rw [e]; exact beq_self_eq_true _)]
  exact wpS_pure (h _ (.inl ⟨_, rfl, gv H J' e⟩))
 ·rw [if_neg (fun z => e (eq_of_beq z))]
  have w:Wn T f a b N (ar f (o ++ [x])) (i + 1) j := ⟨_, rfl, J', by omega, hj, by omega⟩
  by_cases q:(decide (c < 7) && decide (d < 7)) = true
  ·rw [if_pos q]; exact wpS_pure (h _ (.inr ⟨rfl, w⟩))
  ·rw [if_neg q]; exact wpS_pure (h _ ⟨rfl, w⟩)
theorem dd {a:List Nat} {i t:Nat} (h:t < a.length - i):a[i + t]? = some ((a[i + t]?).getD 0) := by
 rw [List.getElem?_eq_getElem (by omega)]; rfl
theorem dd_mem {a:List Nat} {i t:Nat} (h:t < a.length - i):(a[i + t]?).getD 0 ∈ a := List.mem_of_getElem? (dd h)
theorem galR (K:Cx M A s κ f T X) {L:Bool} {a:List Nat} {i ky:Nat} {Q:Option Nat → SortSt → Prop} {st:SortSt} (hk:kindOf st = κ) (hy:X ky) (hX:∀ x ∈ a, X x) (ne:∀ x ∈ a, x ≠ ky) (pa:a.Pairwise T) (hi:i < a.length)
  (h:∀ k, k ≤ a.length - i → (∀ u ∈ (a.drop i).take k, T u ky) → (∀ u, a[i + k]? = some u → T ky u) → Q (some k) st):wpS M A E s (gal L (f ky) (ar f a) i ((ar f a).size - i) 0) Q st := by
 rw [bB]
 refine jC K (d := fun t => (a[i + t]?).getD 0) hk hy (fun t ht => hX _ (dd_mem ht)) (fun t ht => dd ht) (fun t ht => ne _ (dd_mem ht)) (fun p q pq hq => i3 pa (i := i + p) (j := i + q) (by omega) (dd (by omega)) (dd hq)) (by omega) fun k hk' h0 h1 => h k hk' (fun u hu => ?_) fun u hu => ?_
 ·refine oq12 (mem_dt hu) fun t ht e => ?_
  have := h0 t ht
  rw [e] at this
  exact this
 ·have := h1 k (nz6 _) (by have := (List.getElem?_eq_some_iff.mp hu).1; omega)
  rw [hu] at this
  exact this
theorem q3_ok (K:Cx M A s κ f T X) {a b:List Nat} (H:Two T X a b) {N g i j c d:Nat} {o:List Nat} {st:SortSt} {Q:ForInStep Z2 → SortSt → Prop} (hk:kindOf st = κ) (J:JJ T o (a.drop i) (b.drop j) (a ++ b)) (hi:i + 1 < a.length) (hj:j < b.length) (hN:N ≤ i + j) (h:∀ r, P2 T f a b N r → Q r st) :
  wpS M A E s (q3 (ar f a) (ar f b) i g c d (ar f o) j) Q st := by
 unfold q3
 refine oq12 (has (V := a) (i := i) (by omega)) fun x hx mx => ?_
 refine wpS_bind (bv hx (wpS_bind (galR K hk (H.xa x mx) H.xb (fun y hy => Ne.symm (H.ne x mx y hy)) H.pb hj fun k hk' h0 h1 => ?_)))
 dsimp only
 have J':JJ T (o ++ (b.drop j).take k) (a.drop i) (b.drop (j + k)) (a ++ b) := by
  have := J.flip
  rw [drop_k (a := b) (i := j) (k := k)] at this
  exact (this.mv fun u hu => eD K H.pa hx (h0 u hu)).flip
 by_cases kz:k > 0
 ·rw [if_pos kz, i0, eC, Nat.add_sub_cancel_left, bB]
  by_cases e:j + k = b.length
  ·rw [if_pos (by rw [e]; exact beq_self_eq_true _)]
   exact wpS_pure (h _ (.inl ⟨_, rfl, jE J' e⟩))
  ·rw [if_neg (fun z => e (eq_of_beq z))]
   refine oq12 (has (V := b) (i := j + k) (by omega)) fun y hy my => ?_
   exact q4_ok K H J' hi (by omega) (by omega) hx hy (h1 y hy) h
 ·rw [if_neg kz]
  have:k = 0 := by omega
  subst this
  refine oq12 (has (V := b) (i := j) (by omega)) fun y hy my => ?_
  exact q4_ok K H J hi hj hN hx hy (h1 y hy) h
theorem q2_ok (K:Cx M A s κ f T X) {a b:List Nat} (H:Two T X a b) {N g i j c d x y:Nat} {o:List Nat} {st:SortSt} {Q:ForInStep Z2 → SortSt → Prop} (hk:kindOf st = κ) (J:JJ T o (a.drop i) (b.drop j) (a ++ b)) (hi:i + 1 < a.length) (hj:j < b.length) (hN:N ≤ i + j) (hx:a[i]? = some x) (hy:b[j]? = some y) (t:T y x) (h:∀ r, P2 T f a b N r → Q r st) :
  wpS M A E s (q2 (ar f a) (ar f b) j g c d (ar f o) i) Q st := by
 unfold q2
 have J':JJ T (o ++ [y]) (a.drop i) (b.drop (j + 1)) (a ++ b) := by
  have := J.flip
  rw [f7 hy] at this
  exact (this.mv fun u hu => by rw [List.mem_singleton.mp hu]; exact eD K H.pa hx t).flip
 refine wpS_bind (bv hy ?_)
 rw [f6, bB]
 by_cases e:j + 1 = b.length
 ·rw [if_pos (by rw [e]; exact beq_self_eq_true _)]
  exact wpS_pure (h _ (.inl ⟨_, rfl, jE J' e⟩))
 ·rw [if_neg (fun z => e (eq_of_beq z))]
  exact q3_ok K H hk J' hi (by omega) (by omega) h
theorem q1_ok (K:Cx M A s κ f T X) {a b:List Nat} (H:Two T X a b) {N g g0 i j c d:Nat} {o:Array Keyed} {l:List Nat} {pd:Array (Nat × Nat × Nat)} {Q:ForInStep Z2 → SortSt → Prop} (W:Wn T f a b N o i j) (h:∀ r, P2 T f a b N r → Q r (St κ f l pd g)) :
  wpS M A E s (q1 (ar f a) (ar f b) o i j c d g) Q (St κ f l pd g0) := by
 refine oq15 W fun o' e J hi hj hN => ?_
 subst e
 unfold q1
 rw [jD]
 refine wpS_bind (wpS_modify ?_)
 show wpS M A E s _ Q (St κ f l pd g)
 refine oq12 (has (V := b) (i := j) hj) fun y hy my => ?_
 refine wpS_bind (bv hy (wpS_bind (galR K rfl (H.xb y my) H.xa (fun x hx => H.ne x hx y my) H.pa (by omega) fun k hk' h0 h1 => ?_)))
 dsimp only
 have J':JJ T (o' ++ (a.drop i).take k) (a.drop (i + k)) (b.drop j) (a ++ b) := by
  have := J
  rw [drop_k (a := a) (i := i) (k := k)] at this
  exact this.mv fun u hu => eD K H.pb hy (h0 u hu)
 by_cases kz:k > 0
 ·rw [if_pos kz, i0, eC, Nat.add_sub_cancel_left, bB]
  by_cases e:i + k + 1 = a.length
  ·rw [if_pos (by rw [e]; exact beq_self_eq_true _)]
   exact wpS_pure (h _ (.inl ⟨_, rfl, gv H J' e⟩))
  ·rw [if_neg (fun z => e (eq_of_beq z))]
   by_cases e2:i + k = a.length
   ·rw [if_pos (by rw [e2]; exact beq_self_eq_true _)]
    exact wpS_pure (h _ (.inl ⟨_, rfl, fn_endA J' e2⟩))
   ·rw [if_neg (fun z => e2 (eq_of_beq z))]
    refine oq12 (has (V := a) (i := i + k) (by omega)) fun x hx mx => ?_
    exact q2_ok K H rfl J' (by omega) hj (by omega) hx hy (h1 x hx) h
 ·rw [if_neg kz]
  have:k = 0 := by omega
  subst this
  refine oq12 (has (V := a) (i := i) (by omega)) fun x hx mx => ?_
  exact q2_ok K H rfl J hi hj hN hx hy (h1 x hx) h
theorem Wn.le {a b:List Nat} {N N' i j:Nat} {o:Array Keyed} (h:Wn T f a b N o i j) (q:N' ≤ N):Wn T f a b N' o i j := oq15 h fun o' e J hi hj hN => ⟨o', e, J, hi, hj, nz4 q hN⟩
theorem Wm.le {a b:List Nat} {N N' i j:Nat} {r:Option (Array Keyed)} {o:Array Keyed} (h:Wm T f a b N r o i j) (q:N' ≤ N):Wm T f a b N' r o i j := h.imp id fun z => ⟨z.1, z.2.le q⟩
theorem mlo_ok (K:Cx M A s κ f T X) {a b:List Nat} (H:Two T X a b) (ha:1 ≤ a.length) (hb:1 ≤ b.length) {g0:Nat} {l:List Nat} {pd:Array (Nat × Nat × Nat)} {Q:Array Keyed → SortSt → Prop} (h:∀ r g, Fn T f (a ++ b) r → Q r (St κ f l pd g)) :
  wpS M A E s (mlo (ar f a) (ar f b)) Q (St κ f l pd g0) := by
 rw [mlo_eq]
 refine wpS_bind (wpS_lift (wpAny_rule ⟨rfl, ?_⟩))
 refine oq12 (has (V := b) (i := 0) hb) fun y hy my => ?_
 refine wpS_bind (bv hy ?_)
 have J:JJ T [y] (a.drop 0) (b.drop 1) (a ++ b) := by
  have j0:JJ T [] b a (a ++ b) := ⟨show (b ++ a).Perm (a ++ b) from List.perm_append_comm, H.pb, H.pa⟩
  have e:b = [y] ++ b.drop 1 := f7 hy
  have j0:JJ T [] ([y] ++ b.drop 1) a (a ++ b) := e ▸ j0
  exact (j0.mv fun u hu => by rw [List.mem_singleton.mp hu]; exact H.fb y hy).flip
 have sa := bB (f := f) a
 have sb := bB (f := f) b
 dsimp only
 rw [show (#[f y]:Array Keyed) = ar f [y] from rfl]
 by_cases e:1 = b.length
 ·rw [if_pos (by rw [sb, ← e]; rfl)]
  exact wpS_pure (h _ _ (jE J e))
 ·rw [if_neg (fun z => e ((eq_of_beq z).trans sb))]
  by_cases e2:0 + 1 = a.length
  ·rw [if_pos (by rw [sa, ← e2]; rfl)]
   exact wpS_pure (h _ _ (gv H J e2))
  ·rw [if_neg (fun z => e2 ((eq_of_beq z).trans sa))]
   refine wpS_bind (wpS_get (wpS_bind (wpS_mono (wpS_forRange (I := fun n c st => (∃ g, st = St κ f l pd g) ∧ c.1 = none ∧ Wn T f a b n c.2.1 c.2.2.1 c.2.2.2.1) (Q := fun c st => (∃ g, st = St κ f l pd g) ∧ ∃ z, c.1 = some z ∧ Fn T f (a ++ b) z) ?_ ?_ ⟨⟨g0, rfl⟩, rfl, [y], rfl, J, show 0 + 1 < a.length by omega, show 1 < b.length by omega, Nat.zero_le _⟩) ?_)))
   ·intro n c st _ hn z
    refine oq03 z fun eg e1 W => oq11 eg fun g1 eg => ?_
    subst eg
    refine wpS_bind (wpS_mono (wpS_forRange (I := fun m c st' => st' = St κ f l pd g1 ∧ c.1 = none ∧ Wn T f a b (n + m) c.2.1 c.2.2.1 c.2.2.2.1) (Q := fun c st' => st' = St κ f l pd g1 ∧ Wm T f a b (n + 1) c.1 c.2.1 c.2.2.1 c.2.2.2.1) ?_ ?_ ⟨rfl, rfl, W⟩) ?_)
    ·intro m c st _ hm z
     refine oq03 z fun e1 e2 W => ?_
     subst e1
     refine w1_ok (i := c.2.2.1) (j := c.2.2.2.1) (c := c.2.2.2.2.1) (d := c.2.2.2.2.2) K H rfl W fun r p => ?_
     cases r with
     | done z => exact ⟨rfl, Wm.le p (by omega)⟩
     | yield z => exact ⟨rfl, p⟩
    ·intro c st z
     exact ⟨z.1, .inr ⟨z.2.1, z.2.2.le (by omega)⟩⟩
    ·intro c st z
     refine oq02 z fun e1 W => ?_
     subst e1
     rcases W with W | W
     ·refine oq12 W fun z e w => ?_
      rw [e]
      exact wpS_pure ⟨⟨_, rfl⟩, z, rfl, w⟩
     ·rw [W.1]
      refine wpS_bind (wpS_lift (wpAny_rule ⟨rfl, ?_⟩))
      refine wpS_bind (wpS_mono (wpS_forRange (I := fun m c st' => (∃ g, st' = St κ f l pd g) ∧ c.1 = none ∧ Wn T f a b (n + 1) c.2.1 c.2.2.1 c.2.2.2.1) (Q := fun c st' => (∃ g, st' = St κ f l pd g) ∧ Wm T f a b (n + 1) c.1 c.2.1 c.2.2.1 c.2.2.2.1) ?_ ?_ ⟨⟨_, rfl⟩, rfl, W.2⟩) ?_)
      ·intro m c st _ hm z
       refine oq03 z fun eg e2 W => oq11 eg fun g2 eg => ?_
       subst eg
       by_cases q:c.2.2.2.2.1 > 1
       ·rw [if_pos q]
        exact q1_ok (i := c.2.2.1) (j := c.2.2.2.1) (g := c.2.2.2.2.1 - 1) (c := c.2.2.2.2.2.1) (d := c.2.2.2.2.2.2) K H W fun r p => by cases r <;> exact ⟨⟨_, rfl⟩, p⟩
       ·rw [if_neg q]
        exact q1_ok (i := c.2.2.1) (j := c.2.2.2.1) (g := c.2.2.2.2.1) (c := c.2.2.2.2.2.1) (d := c.2.2.2.2.2.2) K H W fun r p => by cases r <;> exact ⟨⟨_, rfl⟩, p⟩
      ·intro c st z
       exact ⟨z.1, .inr z.2⟩
      ·intro c st z
       refine oq02 z fun eg W => oq11 eg fun g2 eg => ?_
       subst eg
       rcases W with W | W
       ·refine oq12 W fun z e w => ?_
        rw [e]
        exact wpS_pure ⟨⟨_, rfl⟩, z, rfl, w⟩
       ·rw [W.1]
        rw [jD]
        exact wpS_bind (wpS_modify (wpS_pure ⟨⟨_, rfl⟩, rfl, W.2⟩))
   ·intro c st z
    refine oq03 z fun eg e1 W => oq15 W fun o' _ _ w1 w2 w3 => ?_
    rw [sa, sb] at w3
    omega
   ·intro c st z
    refine oq02 z fun eg z => oq12 z fun v e w => oq11 eg fun g2 eg => ?_
    subst eg
    rw [e]
    exact wpS_pure (h v g2 w)
end
end Tim
namespace Tim
open PySem PySem.W PyProof.Rows
section
variable {M:Model} {A:Around} {E:Value → Shared → Prop} {s:Shared} {κ:SortKind} {f:Nat → Keyed} {T:Nat → Nat → Prop} {X:Nat → Prop}
noncomputable def fB (x y o:Array Keyed) (p q:Nat):Array Keyed := x.extract 0 p ++ y.extract 0 q ++ o.reverse
noncomputable abbrev Y2 := Option (Array Keyed) × Nat × Nat × Array Keyed × Nat × Nat × Nat
noncomputable def h4 (x y:Array Keyed) (p g c d:Nat) (o:Array Keyed) (q:Nat):StateT SortSt Sem (ForInStep Y2) := do
 let z ← elem' x (p - 1)
 if p - 1 == 0 then pure (.done (some (fB x y (o.push z) (p - 1) q), p - 1, q, o.push z, g, c, d))
 else if c < 7 && d < 7 then pure (.done (none, p - 1, q, o.push z, g, c, d)) else pure (.yield (none, p - 1, q, o.push z, g, c, d))
noncomputable def h3 (x y:Array Keyed) (p g c d:Nat) (o:Array Keyed) (q:Nat):StateT SortSt Sem (ForInStep Y2) := do
 match ← gal true (← elem' x (p - 1)) y 0 q (q - 1) with
 | some t => if q - t > 0 then (if t == 1 then pure (.done (some (fB y x (o ++ (y.extract t q).reverse) t p), p, t, o ++ (y.extract t q).reverse, g, c, q - t)) else if t == 0 then pure (.done (some (fB x y (o ++ (y.extract t q).reverse) p t), p, t, o ++ (y.extract t q).reverse, g, c, q - t)) else h4 x y p g c (q - t) (o ++ (y.extract t q).reverse) t) else h4 x y p g c (q - t) o q
 | _ => pure (.done (some (fB x y o p q), p, q, o, g, c, d))
noncomputable def h2 (x y:Array Keyed) (q g c d:Nat) (o:Array Keyed) (p:Nat):StateT SortSt Sem (ForInStep Y2) := do
 let z ← elem' y (q - 1)
 if q - 1 == 1 then pure (.done (some (fB y x (o.push z) (q - 1) p), p, q - 1, o.push z, g, c, d)) else h3 x y p g c d (o.push z) (q - 1)
noncomputable def h1 (x y:Array Keyed) (p q:Nat) (o:Array Keyed) (c d g:Nat):StateT SortSt Sem (ForInStep Y2) := do
 smg g
 match ← gal false (← elem' y (q - 1)) x 0 p (p - 1) with
 | some t => if p - t > 0 then (if t == 0 then pure (.done (some (fB x y (o ++ (x.extract t p).reverse) t q), t, q, o ++ (x.extract t p).reverse, g, p - t, d)) else h2 x y q g (p - t) d (o ++ (x.extract t p).reverse) t) else h2 x y q g (p - t) d o p
 | _ => pure (.done (some (fB x y o p q), p, q, o, g, c, d))
noncomputable abbrev Y1 := Option (Array Keyed) × Nat × Nat × Array Keyed × Nat × Nat
noncomputable def v1 (x y:Array Keyed) (g:Nat) (z:Y1):StateT SortSt Sem (ForInStep Y1) := do
 match ← lt' (← elem' y (z.2.2.1 - 1)) (← elem' x (z.2.1 - 1)) with
 | some w =>
  if w = true then do
   let e ← elem' x (z.2.1 - 1)
   if z.2.1 - 1 == 0 then pure (.done (some (fB x y (z.2.2.2.1.push e) (z.2.1 - 1) z.2.2.1), z.2.1 - 1, z.2.2.1, z.2.2.2.1.push e, z.2.2.2.2.1 + 1, 0))
   else if z.2.2.2.2.1 + 1 ≥ g then pure (.done (none, z.2.1 - 1, z.2.2.1, z.2.2.2.1.push e, z.2.2.2.2.1 + 1, 0)) else pure (.yield (none, z.2.1 - 1, z.2.2.1, z.2.2.2.1.push e, z.2.2.2.2.1 + 1, 0))
  else do
   let e ← elem' y (z.2.2.1 - 1)
   if z.2.2.1 - 1 == 1 then pure (.done (some (fB y x (z.2.2.2.1.push e) (z.2.2.1 - 1) z.2.1), z.2.1, z.2.2.1 - 1, z.2.2.2.1.push e, 0, z.2.2.2.2.2 + 1))
   else if z.2.2.2.2.2 + 1 ≥ g then pure (.done (none, z.2.1, z.2.2.1 - 1, z.2.2.2.1.push e, 0, z.2.2.2.2.2 + 1)) else pure (.yield (none, z.2.1, z.2.2.1 - 1, z.2.2.2.1.push e, 0, z.2.2.2.2.2 + 1))
 | _ => pure (.done (some (fB x y z.2.2.2.1 z.2.1 z.2.2.1), z.2.1, z.2.2.1, z.2.2.2.1, z.2.2.2.2.1, z.2.2.2.2.2))
theorem mhi_eq (x y:Array Keyed):mhi x y = (do
  rule "list.sort.merge-hi"
  let mut p := x.size - 1
  let mut q := y.size
  let mut o:Array Keyed := #[← elem' x p]
  if p == 0 then return fB x y o p q
  if q == 1 then return fB y x o q p
  let mut g := gallopOf (← get)
  for _ in [0:x.size + y.size] do
   let mut c := 0
   let mut d := 0
   for _ in [0:x.size + y.size] do
    let some w ← lt' (← elem' y (q - 1)) (← elem' x (p - 1)) | return fB x y o p q
    if w then
     p := p - 1; o := o.push (← elem' x p); c := c + 1; d := 0
     if p == 0 then return fB x y o p q
     if c ≥ g then break
    else
     q := q - 1; o := o.push (← elem' y q); d := d + 1; c := 0
     if q == 1 then return fB y x o q p
     if d ≥ g then break
   rule "list.sort.gallop"
   g := g + 1
   for _ in [0:x.size + y.size] do
    if g > 1 then g := g - 1
    smg g
    let some t ← gal false (← elem' y (q - 1)) x 0 p (p - 1) | return fB x y o p q
    let k := p - t
    c := k
    if k > 0 then
     o := o ++ (x.extract t p).reverse; p := t
     if p == 0 then return fB x y o p q
    q := q - 1; o := o.push (← elem' y q)
    if q == 1 then return fB y x o q p
    let some t ← gal true (← elem' x (p - 1)) y 0 q (q - 1) | return fB x y o p q
    let k := q - t
    d := k
    if k > 0 then
     o := o ++ (y.extract t q).reverse; q := t
     if q == 1 then return fB y x o q p
     if q == 0 then return fB x y o p q
    p := p - 1; o := o.push (← elem' x p)
    if p == 0 then return fB x y o p q
    if c < 7 && d < 7 then break
   g := g + 1
   smg g
  unsupported "internal:list.sort.merge-bound") := rfl
theorem ar_rev (x:List Nat):(ar f x).reverse = ar f x.reverse := by
 show (List.toArray (x.map f)).reverse = List.toArray (x.reverse.map f)
 rw [List.reverse_toArray, List.map_reverse]
theorem fe (x:List Nat) (a:Nat):(ar f x.reverse).push (f a) = ar f (a :: x).reverse := by
 rw [f6, List.reverse_cons]
theorem ar_exR (x a:List Nat) (t p:Nat):ar f x.reverse ++ ((ar f a).extract t p).reverse = ar f ((a.drop t).take (p - t) ++ x).reverse := by
 rw [i0, ar_rev, eC, List.reverse_append]
theorem fB_ar (a b o:List Nat) (p q:Nat):fB (ar f a) (ar f b) (ar f o.reverse) p q = ar f (a.take p ++ b.take q ++ o) := by
 unfold fB
 rw [i0, i0, eC, ar_rev, eC, List.reverse_reverse]; rfl
structure KK (T:Nat → Nat → Prop) (P R o al:List Nat):Prop where
 pm:((P ++ R) ++ o).Perm al
 p1:(P ++ o).Pairwise T
 p2:(R ++ o).Pairwise T
theorem KK.flip {o P R al:List Nat} (h:KK T P R o al):KK T R P o al := ⟨(List.Perm.append_right _ List.perm_append_comm).trans h.pm, h.p2, h.p1⟩
theorem KK.mv {o U P R al:List Nat} (h:KK T (P ++ U) R o al) (hu:∀ u ∈ U, ∀ r ∈ R, T r u):KK T P R (U ++ o) al := by
 have p1 := h.p1
 rw [List.append_assoc] at p1
 have p2 := List.pairwise_append.mp h.p2
 have p3 := List.pairwise_append.mp p1
 refine ⟨List.Perm.trans ?_ h.pm, p1, List.pairwise_append.mpr ⟨p2.1, p3.2.1, fun r hr x hx => ?_⟩⟩
 ·rw [← List.append_assoc]
  refine List.Perm.append_right _ ?_
  rw [List.append_assoc, List.append_assoc]
  exact List.Perm.append_left _ List.perm_append_comm
 ·exact (List.mem_append.mp hx).elim (fun z => hu x z r hr) fun z => p2.2.2 r hr x z
theorem KK.end {o P R al:List Nat} (h:KK T P R o al) (e:P = []):(P ++ R ++ o).Perm al ∧ (P ++ R ++ o).Pairwise T := by
 subst e
 exact ⟨h.pm, h.p2⟩
theorem KK.last {o P R al:List Nat} (h:KK T P R o al) (hu:∀ r ∈ R, ∀ p ∈ P, T r p):(R ++ P ++ o).Perm al ∧ (R ++ P ++ o).Pairwise T := by
 have p1 := List.pairwise_append.mp h.p1
 have p2 := List.pairwise_append.mp h.p2
 refine ⟨h.flip.pm, ?_⟩
 rw [List.append_assoc]
 refine List.pairwise_append.mpr ⟨p2.1, h.p1, fun r hr x hx => ?_⟩
 exact (List.mem_append.mp hx).elim (fun z => hu r hr x z) fun z => p2.2.2 r hr x z
theorem fg {a:List Nat} {p x:Nat} (h:a[p - 1]? = some x) (hp:1 ≤ p):a.take p = a.take (p - 1) ++ [x] := by
 rw [show p = p - 1 + 1 by omega, List.take_succ, Nat.add_sub_cancel, h]; rfl
theorem take_k {a:List Nat} {t p:Nat} (h:t ≤ p):a.take p = a.take t ++ (a.drop t).take (p - t) := by
 rw [← List.drop_take]
 conv => lhs; rw [← List.take_append_drop t (a.take p), List.take_take, Nat.min_eq_left h]
theorem i4 {a:List Nat} {k u:Nat} (h:u ∈ a.take k):∃ t, t < k ∧ a[t]? = some u := oq11 (List.getElem_of_mem h) fun t z => Exists.elim z fun ht z => by
 have tk:t < k := nz1 ht (List.length_take_le _ _)
 exact ⟨t, tk, by rw [← List.getElem?_take_of_lt tk, ← z]; exact List.getElem?_eq_getElem ht⟩
theorem jF (K:Cx M A s κ f T X) {b:List Nat} (h:b.Pairwise T) {q u y:Nat} (hy:b[q - 1]? = some y) (t:T y u):∀ r ∈ b.take q, T r u := fun r hr => oq12 (i4 hr) fun k hk e => by
 rcases Nat.lt_or_ge k (q - 1) with z | z
 ·exact K.tr (i3 h z e hy) t
 ·rw [show k = q - 1 by omega, hy] at e
  exact Option.some.inj e ▸ t
theorem galH (K:Cx M A s κ f T X) {L:Bool} {a:List Nat} {p ky:Nat} {Q:Option Nat → SortSt → Prop} {st:SortSt} (hk:kindOf st = κ) (hy:X ky) (hX:∀ x ∈ a, X x) (ne:∀ x ∈ a, x ≠ ky) (pa:a.Pairwise T) (hp:p ≤ a.length) (h1:1 ≤ p)
  (h:∀ t, t ≤ p → (∀ u ∈ a.take t, T u ky) → (∀ u ∈ (a.drop t).take (p - t), T ky u) → Q (some t) st):wpS M A E s (gal L (f ky) (ar f a) 0 p (p - 1)) Q st := by
 have at0:∀ i, i < p → a[0 + i]? = some ((a[i]?).getD 0) := fun i hi => by rw [Nat.zero_add, List.getElem?_eq_getElem (by omega)]; rfl
 have mem:∀ i, i < p → (a[i]?).getD 0 ∈ a := fun i hi => List.mem_of_getElem? (at0 i hi)
 refine jC K (d := fun t => (a[t]?).getD 0) hk hy (fun t ht => hX _ (mem t ht)) at0 (fun t ht => ne _ (mem t ht)) (fun p' q pq hq => i3 pa (i := 0 + p') (j := 0 + q) (by omega) (at0 _ (by omega)) (at0 _ hq)) (by omega) fun t ht h0 h1 => h t ht (fun u hu => ?_) fun u hu => ?_
 ·refine oq12 (i4 hu) fun i hi e => ?_
  have := h0 i hi
  rw [e] at this
  exact this
 ·refine oq12 (mem_dt hu) fun i hi e => ?_
  have := h1 (t + i) (by omega) (by omega)
  rw [e] at this
  exact this
noncomputable def Vn (T:Nat → Nat → Prop) (f:Nat → Keyed) (a b:List Nat) (N:Nat) (o:Array Keyed) (p q:Nat):Prop :=
 ∃ o', o = ar f o'.reverse ∧ KK T (a.take p) (b.take q) o' (a ++ b) ∧ (1 ≤ p ∧ p ≤ a.length) ∧ (2 ≤ q ∧ q ≤ b.length) ∧ N + p + q ≤ a.length + b.length
noncomputable def Vm (T:Nat → Nat → Prop) (f:Nat → Keyed) (a b:List Nat) (N:Nat) (r:Option (Array Keyed)) (o:Array Keyed) (i j:Nat):Prop :=
 (∃ z, r = some z ∧ Fn T f (a ++ b) z) ∨ (r = none ∧ Vn T f a b N o i j)
theorem jG {a b o:List Nat} {p q:Nat} (h:KK T (a.take p) (b.take q) o (a ++ b)) (e:p = 0):Fn T f (a ++ b) (fB (ar f a) (ar f b) (ar f o.reverse) p q) := ⟨_, fB_ar a b o p q, h.end (by rw [e, List.take_zero])⟩
theorem gn_endB {a b o:List Nat} {p q:Nat} (h:KK T (a.take p) (b.take q) o (a ++ b)) (e:q = 0):Fn T f (a ++ b) (fB (ar f a) (ar f b) (ar f o.reverse) p q) := by
 refine ⟨_, fB_ar a b o p q, ?_⟩
 have e':b.take q = [] := by rw [e, List.take_zero]
 have := h.flip.end e'
 rw [e', List.append_nil]
 rw [e', List.nil_append] at this
 exact this
theorem gw {a b o:List Nat} {p q:Nat} (H:Two T X a b) (h:KK T (a.take p) (b.take q) o (a ++ b)) (e:q = 1):Fn T f (a ++ b) (fB (ar f b) (ar f a) (ar f o.reverse) q p) := by
 refine ⟨_, fB_ar b a o q p, h.last fun r hr x hx => ?_⟩
 refine oq12 (i4 hr) fun i hi z => ?_
 rw [show i = 0 by omega] at z
 exact H.fb r z x (List.mem_of_mem_take hx)
noncomputable def S1' (T:Nat → Nat → Prop) (f:Nat → Keyed) (a b:List Nat) (N:Nat):ForInStep Y1 → Prop
 | .done z => Vm T f a b N z.1 z.2.2.2.1 z.2.1 z.2.2.1
 | .yield z => z.1 = none ∧ Vn T f a b N z.2.2.2.1 z.2.1 z.2.2.1
noncomputable def S2' (T:Nat → Nat → Prop) (f:Nat → Keyed) (a b:List Nat) (N:Nat):ForInStep Y2 → Prop
 | .done z => Vm T f a b N z.1 z.2.2.2.1 z.2.1 z.2.2.1
 | .yield z => z.1 = none ∧ Vn T f a b N z.2.2.2.1 z.2.1 z.2.2.1
theorem v1_ok (K:Cx M A s κ f T X) {a b:List Nat} (H:Two T X a b) {N g p q c d:Nat} {o:Array Keyed} {st:SortSt} {Q:ForInStep Y1 → SortSt → Prop} (hk:kindOf st = κ) (W:Vn T f a b N o p q) (h:∀ r, S1' T f a b (N + 1) r → Q r st) :
  wpS M A E s (v1 (ar f a) (ar f b) g (none, p, q, o, c, d)) Q st := by
 refine oq15 W fun o' e J hp hq hN => ?_
 subst e
 refine oq12 (has (V := a) (i := p - 1) (by omega)) fun x hx mx => oq12 (has (V := b) (i := q - 1) (by omega)) fun y hy my => ?_
 unfold v1
 dsimp only
 refine wpS_bind (bv hy (wpS_bind (bv hx (wpS_bind (kM K hk (H.xb y my) (H.xa x mx) (fun t => ?_) fun t => ?_)))))
 ·have J':KK T (a.take (p - 1)) (b.take q) ([x] ++ o') (a ++ b) := by
   have := J
   rw [fg hx hp.1] at this
   exact this.mv fun u hu => by rw [List.mem_singleton.mp hu]; exact jF K H.pb hy t
  refine wpS_bind (bv hx ?_)
  rw [fe]
  by_cases e:p - 1 = 0
  ·rw [if_pos (by rw [e]; exact beq_self_eq_true _)]
   exact wpS_pure (h _ (.inl ⟨_, rfl, jG J' e⟩))
  ·rw [if_neg (fun z => e (eq_of_beq z))]
   have w:Vn T f a b (N + 1) (ar f (x :: o').reverse) (p - 1) q := ⟨_, rfl, J', by omega, hq, by omega⟩
   by_cases q:c + 1 ≥ g
   ·rw [if_pos q]; exact wpS_pure (h _ (.inr ⟨rfl, w⟩))
   ·rw [if_neg q]; exact wpS_pure (h _ ⟨rfl, w⟩)
 ·have t := t.resolve_left (Ne.symm (H.ne x mx y my))
  have J':KK T (a.take p) (b.take (q - 1)) ([y] ++ o') (a ++ b) := by
   have := J.flip
   rw [fg hy (by omega)] at this
   exact (this.mv fun u hu => by rw [List.mem_singleton.mp hu]; exact jF K H.pa hx t).flip
  refine wpS_bind (bv hy ?_)
  rw [fe]
  by_cases e:q - 1 = 1
  ·rw [if_pos (by rw [e]; exact beq_self_eq_true _)]
   exact wpS_pure (h _ (.inl ⟨_, rfl, gw H J' e⟩))
  ·rw [if_neg (fun z => e (eq_of_beq z))]
   have w:Vn T f a b (N + 1) (ar f (y :: o').reverse) p (q - 1) := ⟨_, rfl, J', hp, by omega, by omega⟩
   by_cases q:d + 1 ≥ g
   ·rw [if_pos q]; exact wpS_pure (h _ (.inr ⟨rfl, w⟩))
   ·rw [if_neg q]; exact wpS_pure (h _ ⟨rfl, w⟩)
theorem h4_ok (K:Cx M A s κ f T X) {a b:List Nat} (H:Two T X a b) {N g p q c d x:Nat} {o:List Nat} {st:SortSt} {Q:ForInStep Y2 → SortSt → Prop} (J:KK T (a.take p) (b.take q) o (a ++ b)) (hp:1 ≤ p ∧ p ≤ a.length) (hq:2 ≤ q ∧ q ≤ b.length) (hN:N + p + q ≤ a.length + b.length) (hx:a[p - 1]? = some x) (t:∀ u ∈ b.take q, T u x) (h:∀ r, S2' T f a b N r → Q r st) :
  wpS M A E s (h4 (ar f a) (ar f b) p g c d (ar f o.reverse) q) Q st := by
 unfold h4
 have J':KK T (a.take (p - 1)) (b.take q) ([x] ++ o) (a ++ b) := by
  have := J
  rw [fg hx hp.1] at this
  exact this.mv fun u hu => by rw [List.mem_singleton.mp hu]; exact t
 refine wpS_bind (bv hx ?_)
 rw [fe]
 by_cases e:p - 1 = 0
 ·rw [if_pos (by rw [e]; exact beq_self_eq_true _)]
  exact wpS_pure (h _ (.inl ⟨_, rfl, jG J' e⟩))
 ·rw [if_neg (fun z => e (eq_of_beq z))]
  have w:Vn T f a b N (ar f (x :: o).reverse) (p - 1) q := ⟨_, rfl, J', by omega, hq, by omega⟩
  by_cases z:(decide (c < 7) && decide (d < 7)) = true
  ·rw [if_pos z]; exact wpS_pure (h _ (.inr ⟨rfl, w⟩))
  ·rw [if_neg z]; exact wpS_pure (h _ ⟨rfl, w⟩)
theorem h3_ok (K:Cx M A s κ f T X) {a b:List Nat} (H:Two T X a b) {N g p q c d:Nat} {o:List Nat} {st:SortSt} {Q:ForInStep Y2 → SortSt → Prop} (hk:kindOf st = κ) (J:KK T (a.take p) (b.take q) o (a ++ b)) (hp:1 ≤ p ∧ p ≤ a.length) (hq:2 ≤ q ∧ q ≤ b.length) (hN:N + p + q ≤ a.length + b.length) (h:∀ r, S2' T f a b N r → Q r st) :
  wpS M A E s (h3 (ar f a) (ar f b) p g c d (ar f o.reverse) q) Q st := by
 unfold h3
 refine oq12 (has (V := a) (i := p - 1) (by omega)) fun x hx mx => ?_
 refine wpS_bind (bv hx (wpS_bind (galH K hk (H.xa x mx) H.xb (fun y hy => Ne.symm (H.ne x mx y hy)) H.pb hq.2 (by omega) fun t ht h0 h1 => ?_)))
 dsimp only
 have J':KK T (a.take p) (b.take t) ((b.drop t).take (q - t) ++ o) (a ++ b) := by
  have := J.flip
  rw [take_k ht] at this
  exact (this.mv fun u hu => jF K H.pa hx (h1 u hu)).flip
 by_cases kz:q - t > 0
 ·rw [if_pos kz, ar_exR]
  by_cases e:t = 1
  ·rw [if_pos (by rw [e]; exact beq_self_eq_true _)]
   exact wpS_pure (h _ (.inl ⟨_, rfl, gw H J' e⟩))
  ·rw [if_neg (fun z => e (eq_of_beq z))]
   by_cases e2:t = 0
   ·rw [if_pos (by rw [e2]; exact beq_self_eq_true _)]
    exact wpS_pure (h _ (.inl ⟨_, rfl, gn_endB J' e2⟩))
   ·rw [if_neg (fun z => e2 (eq_of_beq z))]
    exact h4_ok K H J' hp (by omega) (by omega) hx h0 h
 ·rw [if_neg kz]
  have:t = q := by omega
  subst this
  exact h4_ok K H J hp hq hN hx h0 h
theorem h2_ok (K:Cx M A s κ f T X) {a b:List Nat} (H:Two T X a b) {N g p q c d y:Nat} {o:List Nat} {st:SortSt} {Q:ForInStep Y2 → SortSt → Prop} (hk:kindOf st = κ) (J:KK T (a.take p) (b.take q) o (a ++ b)) (hp:1 ≤ p ∧ p ≤ a.length) (hq:2 ≤ q ∧ q ≤ b.length) (hN:N + p + q ≤ a.length + b.length) (hy:b[q - 1]? = some y) (t:∀ u ∈ a.take p, T u y) (h:∀ r, S2' T f a b N r → Q r st) :
  wpS M A E s (h2 (ar f a) (ar f b) q g c d (ar f o.reverse) p) Q st := by
 unfold h2
 have J':KK T (a.take p) (b.take (q - 1)) ([y] ++ o) (a ++ b) := by
  have := J.flip
  rw [fg hy (by omega)] at this
  exact (this.mv fun u hu => by rw [List.mem_singleton.mp hu]; exact t).flip
 refine wpS_bind (bv hy ?_)
 rw [fe]
 by_cases e:q - 1 = 1
 ·rw [if_pos (by rw [e]; exact beq_self_eq_true _)]
  exact wpS_pure (h _ (.inl ⟨_, rfl, gw H J' e⟩))
 ·rw [if_neg (fun z => e (eq_of_beq z))]
  exact h3_ok K H hk J' hp (by omega) (by omega) h
theorem h1_ok (K:Cx M A s κ f T X) {a b:List Nat} (H:Two T X a b) {N g g0 p q c d:Nat} {o:Array Keyed} {l:List Nat} {pd:Array (Nat × Nat × Nat)} {Q:ForInStep Y2 → SortSt → Prop} (W:Vn T f a b N o p q) (h:∀ r, S2' T f a b N r → Q r (St κ f l pd g)) :
  wpS M A E s (h1 (ar f a) (ar f b) p q o c d g) Q (St κ f l pd g0) := by
 refine oq15 W fun o' e J hp hq hN => ?_
 subst e
 unfold h1
 rw [jD]
 refine wpS_bind (wpS_modify ?_)
 show wpS M A E s _ Q (St κ f l pd g)
 refine oq12 (has (V := b) (i := q - 1) (by omega)) fun y hy my => ?_
 refine wpS_bind (bv hy (wpS_bind (galH K rfl (H.xb y my) H.xa (fun x hx => H.ne x hx y my) H.pa hp.2 hp.1 fun t ht h0 h1 => ?_)))
 dsimp only
 have J':KK T (a.take t) (b.take q) ((a.drop t).take (p - t) ++ o') (a ++ b) := by
  have := J
  rw [take_k ht] at this
  exact this.mv fun u hu => jF K H.pb hy (h1 u hu)
 by_cases kz:p - t > 0
 ·rw [if_pos kz, ar_exR]
  by_cases e:t = 0
  ·rw [if_pos (by rw [e]; exact beq_self_eq_true _)]
   exact wpS_pure (h _ (.inl ⟨_, rfl, jG J' e⟩))
  ·rw [if_neg (fun z => e (eq_of_beq z))]
   exact h2_ok K H rfl J' (by omega) hq (by omega) hy h0 h
 ·rw [if_neg kz]
  have:t = p := by omega
  subst this
  exact h2_ok K H rfl J hp hq hN hy h0 h
theorem Vn.le {a b:List Nat} {N N' i j:Nat} {o:Array Keyed} (h:Vn T f a b N o i j) (q:N' ≤ N):Vn T f a b N' o i j := oq15 h fun o' e J hi hj hN => ⟨o', e, J, hi, hj, by omega⟩
theorem Vm.le {a b:List Nat} {N N' i j:Nat} {r:Option (Array Keyed)} {o:Array Keyed} (h:Vm T f a b N r o i j) (q:N' ≤ N):Vm T f a b N' r o i j := h.imp id fun z => ⟨z.1, z.2.le q⟩
theorem mhi_ok (K:Cx M A s κ f T X) {a b:List Nat} (H:Two T X a b) (ha:1 ≤ a.length) (hb:1 ≤ b.length) {g0:Nat} {l:List Nat} {pd:Array (Nat × Nat × Nat)} {Q:Array Keyed → SortSt → Prop} (h:∀ r g, Fn T f (a ++ b) r → Q r (St κ f l pd g)) :
  wpS M A E s (mhi (ar f a) (ar f b)) Q (St κ f l pd g0) := by
 rw [mhi_eq]
 refine wpS_bind (wpS_lift (wpAny_rule ⟨rfl, ?_⟩))
 refine oq12 (has (V := a) (i := a.length - 1) (by omega)) fun x hx mx => ?_
 have sa := bB (f := f) a
 have sb := bB (f := f) b
 have J:KK T (a.take (a.length - 1)) (b.take b.length) [x] (a ++ b) := by
  have j0:KK T a b [] (a ++ b) := ⟨by rw [List.append_nil], by rw [List.append_nil]; exact H.pa, by rw [List.append_nil]; exact H.pb⟩
  have e:a = a.take (a.length - 1) ++ [x] := (List.take_length (l := a)).symm.trans (fg hx ha)
  have j0:KK T (a.take (a.length - 1) ++ [x]) b [] (a ++ b) := e ▸ j0
  rw [List.take_length]
  exact j0.mv fun u hu => by rw [List.mem_singleton.mp hu]; exact H.la x hx
 refine wpS_bind (bv (x := x) (by rw [sa, hx]) ?_)
 rw [show (#[f x]:Array Keyed) = ar f [x].reverse from rfl]
 dsimp only
 rw [sa, sb]
 by_cases e:a.length - 1 = 0
 ·rw [if_pos (by rw [e]; rfl)]
  exact wpS_pure (h _ _ (jG J e))
 ·rw [if_neg (fun z => e (eq_of_beq z))]
  by_cases e2:b.length = 1
  ·rw [if_pos (by rw [e2]; rfl)]
   exact wpS_pure (h _ _ (gw H J e2))
  ·rw [if_neg (fun z => e2 (eq_of_beq z))]
   refine wpS_bind (wpS_get (wpS_bind (wpS_mono (wpS_forRange (I := fun n c st => (∃ g, st = St κ f l pd g) ∧ c.1 = none ∧ Vn T f a b n c.2.2.2.1 c.2.1 c.2.2.1) (Q := fun c st => (∃ g, st = St κ f l pd g) ∧ ∃ z, c.1 = some z ∧ Fn T f (a ++ b) z) ?_ ?_ ⟨⟨g0, rfl⟩, rfl, [x], rfl, J, show 1 ≤ a.length - 1 ∧ a.length - 1 ≤ a.length by omega, show 2 ≤ b.length ∧ b.length ≤ b.length by omega, show 0 + (a.length - 1) + b.length ≤ a.length + b.length by omega⟩) ?_)))
   ·intro n c st _ hn z
    refine oq03 z fun eg e1 W => oq11 eg fun g1 eg => ?_
    subst eg
    refine wpS_bind (wpS_mono (wpS_forRange (I := fun m c st' => st' = St κ f l pd g1 ∧ c.1 = none ∧ Vn T f a b (n + m) c.2.2.2.1 c.2.1 c.2.2.1) (Q := fun c st' => st' = St κ f l pd g1 ∧ Vm T f a b (n + 1) c.1 c.2.2.2.1 c.2.1 c.2.2.1) ?_ ?_ ⟨rfl, rfl, W⟩) ?_)
    ·intro m c st _ hm z
     refine oq03 z fun e1 e2 W => ?_
     subst e1
     refine v1_ok (p := c.2.1) (q := c.2.2.1) (c := c.2.2.2.2.1) (d := c.2.2.2.2.2) K H rfl W fun r p => ?_
     cases r with
     | done z => exact ⟨rfl, Vm.le p (by omega)⟩
     | yield z => exact ⟨rfl, p⟩
    ·intro c st z
     exact ⟨z.1, .inr ⟨z.2.1, z.2.2.le (by omega)⟩⟩
    ·intro c st z
     refine oq02 z fun e1 W => ?_
     subst e1
     rcases W with W | W
     ·refine oq12 W fun z e w => ?_
      rw [e]
      exact wpS_pure ⟨⟨_, rfl⟩, z, rfl, w⟩
     ·rw [W.1]
      refine wpS_bind (wpS_lift (wpAny_rule ⟨rfl, ?_⟩))
      refine wpS_bind (wpS_mono (wpS_forRange (I := fun m c st' => (∃ g, st' = St κ f l pd g) ∧ c.1 = none ∧ Vn T f a b (n + 1) c.2.2.2.1 c.2.1 c.2.2.1) (Q := fun c st' => (∃ g, st' = St κ f l pd g) ∧ Vm T f a b (n + 1) c.1 c.2.2.2.1 c.2.1 c.2.2.1) ?_ ?_ ⟨⟨_, rfl⟩, rfl, W.2⟩) ?_)
      ·intro m c st _ hm z
       refine oq03 z fun eg e2 W => oq11 eg fun g2 eg => ?_
       subst eg
       by_cases q:c.2.2.2.2.1 > 1
       ·rw [if_pos q]
        exact h1_ok (p := c.2.1) (q := c.2.2.1) (g := c.2.2.2.2.1 - 1) (c := c.2.2.2.2.2.1) (d := c.2.2.2.2.2.2) K H W fun r p => by cases r <;> exact ⟨⟨_, rfl⟩, p⟩
       ·rw [if_neg q]
        exact h1_ok (p := c.2.1) (q := c.2.2.1) (g := c.2.2.2.2.1) (c := c.2.2.2.2.2.1) (d := c.2.2.2.2.2.2) K H W fun r p => by cases r <;> exact ⟨⟨_, rfl⟩, p⟩
      ·intro c st z
       exact ⟨z.1, .inr z.2⟩
      ·intro c st z
       refine oq02 z fun eg W => oq11 eg fun g2 eg => ?_
       subst eg
       rcases W with W | W
       ·refine oq12 W fun z e w => ?_
        rw [e]
        exact wpS_pure ⟨⟨_, rfl⟩, z, rfl, w⟩
       ·rw [W.1]
        rw [jD]
        exact wpS_bind (wpS_modify (wpS_pure ⟨⟨_, rfl⟩, rfl, W.2⟩))
   ·intro c st z
    refine oq03 z fun eg e1 W => oq15 W fun o' _ _ w1 w2 w3 => ?_
    omega
   ·intro c st z
    refine oq02 z fun eg z => oq12 z fun v e w => oq11 eg fun g2 eg => ?_
    subst eg
    rw [e]
    exact wpS_pure (h v g2 w)
end
end Tim
namespace Tim
open PySem PySem.W PyProof.Rows
section
variable {M:Model} {A:Around} {E:Value → Shared → Prop} {s:Shared} {κ:SortKind} {f:Nat → Keyed} {T:Nat → Nat → Prop} {X:Nat → Prop}
theorem mat_eq (i:Nat):mergeAt' i = (do
  let z ← get
  let (some (sa, na, pw), some (sb, nb, _)) := ((pendingOf z)[i]?, (pendingOf z)[i + 1]?) | unsupported "internal:list.sort.pending"
  set (SortSt.mk' (kindOf z) (arrOf z) (((pendingOf z).setIfInBounds i (sa, na + nb, pw)).eraseIdxIfInBounds (i + 1)) (gallopOf z) (failedOf z))
  let some k ← gal false (← elem' (arrOf z) sb) (arrOf z) sa na 0 | return false
  let (sa, na) := (sa + k, na - k)
  if na == 0 then return true
  let some nb ← gal true (← elem' (arrOf z) (sa + na - 1)) (arrOf z) sb nb (nb - 1) | return false
  if nb == 0 then return true
  let w ← if na ≤ nb then mlo ((arrOf z).extract sa sb) ((arrOf z).extract sb (sb + nb)) else mhi ((arrOf z).extract sa sb) ((arrOf z).extract sb (sb + nb))
  modify fun z => setArr z (w.toList.zipIdx.foldl (fun a (p, j) => a.setIfInBounds (sa + j) p) (arrOf z))
  return (failedOf (← get)).isNone) := rfl
theorem wpS_set {σ:Type} {Q:PUnit → σ → Prop} {st st':σ} (h:Q ⟨⟩ st'):wpS M A E s (set st':StateT σ Sem PUnit) Q st := by
 unfold wpS; rw [StateT.run_set]; exact wpAny_pure ⟨rfl, h⟩
theorem wr {α:Type} {R:List α} {b:Nat}:∀ (w P O:List α) (n:Nat), O.length = w.length → P.length = b + n → (w.zipIdx n).foldl (fun a (q:α × Nat) => a.setIfInBounds (b + q.2) q.1) (List.toArray (P ++ (O ++ R))) = List.toArray (P ++ (w ++ R))
 | [], P, [], _, _, _ => rfl
 | [], _, _ :: _, _, h, _ => nomatch h
 | _ :: _, _, [], _, h, _ => nomatch h
 | c :: w, P, o :: O, n, h, hp => by
  rw [List.zipIdx_cons, List.foldl_cons]
  have e:(List.toArray (P ++ (o :: O ++ R))).setIfInBounds (b + n) c = List.toArray ((P ++ [c]) ++ (O ++ R)) := by
   rw [List.setIfInBounds_toArray, ← hp, List.set_append_right _ _ (nz6 _), Nat.sub_self, List.append_assoc]; rfl
  rw [e, wr w (P ++ [c]) O (n + 1) (Nat.succ.inj h) (by rw [List.length_append, hp]; rfl), List.append_assoc]; rfl
theorem pd_get {α:Type} {L L2:List α} {a b:α}:(List.toArray (L ++ a :: b :: L2))[L.length]? = some a ∧ (List.toArray (L ++ a :: b :: L2))[L.length + 1]? = some b := by
 rw [List.getElem?_toArray, List.getElem?_toArray, List.getElem?_append_right (nz6 _), List.getElem?_append_right (Nat.le_add_right _ 1), Nat.sub_self, Nat.add_sub_cancel_left]
 exact ⟨rfl, rfl⟩
theorem pd_set {α:Type} {L L2:List α} {a b v:α}:((List.toArray (L ++ a :: b :: L2)).setIfInBounds L.length v).eraseIdxIfInBounds (L.length + 1) = List.toArray (L ++ v :: L2) := by
 rw [List.setIfInBounds_toArray, List.set_append_right _ _ (nz6 _), Nat.sub_self]
 apply Array.toList_inj.mp
 rw [Array.toList_eraseIdxIfInBounds]
 show (L ++ v :: b :: L2).eraseIdx (L.length + 1) = _
 rw [List.eraseIdx_append_of_length_le (Nat.le_add_right _ 1), Nat.add_sub_cancel_left]; rfl
theorem mid_get {U W V:List Nat} {i x:Nat} (h:W[i]? = some x):(U ++ (W ++ V))[U.length + i]? = some x := by
 rw [cK, List.getElem?_append_left (List.getElem?_eq_some_iff.mp h).1]; exact h
theorem mid_ex (U W V:List Nat):(ar f (U ++ (W ++ V))).extract U.length (U.length + W.length) = ar f W := by
 rw [i0, List.drop_left, Nat.add_sub_cancel_left, List.take_left]
theorem pw_mem {x y:List Nat} (h:(x ++ y).Pairwise T) {a b:Nat} (ha:a ∈ x) (hb:b ∈ y):T a b := (List.pairwise_append.mp h).2.2 a ha b hb
theorem mat_ok (K:Cx M A s κ f T X) {L1 L2:List (Nat × Nat × Nat)} {U x y V:List Nat} {p1 p2 g:Nat} {Q:Bool → SortSt → Prop} (hX:∀ u ∈ x ++ y, X u) (nd:(x ++ y).Nodup) (px:x.Pairwise T) (py:y.Pairwise T) (hx:1 ≤ x.length) (hy:1 ≤ y.length)
  (h:∀ m g', m.Perm (x ++ y) → m.Pairwise T → Q true (St κ f (U ++ (m ++ V)) (List.toArray (L1 ++ (U.length, x.length + y.length, p1) :: L2)) g')) :
  wpS M A E s (mergeAt' L1.length) Q (St κ f (U ++ (x ++ (y ++ V))) (List.toArray (L1 ++ (U.length, x.length, p1) :: (U.length + x.length, y.length, p2) :: L2)) g) := by
 rw [mat_eq]
 refine wpS_bind (wpS_get ?_)
 show wpS M A E s (match ((List.toArray (L1 ++ (U.length, x.length, p1) :: (U.length + x.length, y.length, p2) :: L2))[L1.length]?, (List.toArray (L1 ++ (U.length, x.length, p1) :: (U.length + x.length, y.length, p2) :: L2))[L1.length + 1]?) with
  | (some (sa, na, pw), some (sb, nb, _)) => _
  | _ => _) Q _
 rw [pd_get.1, pd_get.2]
 dsimp only
 refine wpS_bind (wpS_set ?_)
 rw [pd_set]
 show wpS M A E s _ Q (St κ f (U ++ (x ++ (y ++ V))) (List.toArray (L1 ++ (U.length, x.length + y.length, p1) :: L2)) g)
 have el:U ++ (x ++ (y ++ V)) = (U ++ x) ++ (y ++ V) := (List.append_assoc _ _ _).symm
 have lU:(U ++ x).length = U.length + x.length := List.length_append
 have gx:∀ {i u}, x[i]? = some u → (U ++ (x ++ (y ++ V)))[U.length + i]? = some u := fun h => mid_get h
 have gy:∀ {i u}, y[i]? = some u → (U ++ (x ++ (y ++ V)))[U.length + x.length + i]? = some u := fun h => by rw [el, ← lU]; exact mid_get h
 have ex:∀ i, i < x.length → x[i]? = some ((x[i]?).getD 0) := fun i hi => by rw [List.getElem?_eq_getElem hi]; rfl
 have ey:∀ i, i < y.length → y[i]? = some ((y[i]?).getD 0) := fun i hi => by rw [List.getElem?_eq_getElem hi]; rfl
 have ne:∀ a ∈ x, ∀ b ∈ y, a ≠ b := (List.nodup_append.mp nd).2.2
 refine oq12 (has (V := y) (i := 0) hy) fun y0 hy0 my0 => oq12 (has (V := x) (i := x.length - 1) (by omega)) fun lx hlx mlx => ?_
 refine wpS_bind (bv (gy hy0) (wpS_bind (jC K (d := fun i => (x[i]?).getD 0) rfl (hX y0 (List.mem_append_right _ my0)) (fun i hi => hX _ (List.mem_append_left _ (List.mem_of_getElem? (ex i hi)))) (fun i hi => gx (ex i hi)) (fun i hi => ne _ (List.mem_of_getElem? (ex i hi)) y0 my0) (fun i j ij hj => i3 px ij (ex i (nz8 ij hj)) (ex j hj)) hx fun k hk h0 h1 => ?_)))
 have x1:∀ u ∈ x.take k, T u y0 := fun u hu => oq12 (i4 hu) fun i hi e => by have := h0 i hi; rw [e] at this; exact this
 have x2:∀ u ∈ x.drop k, T y0 u := fun u hu => oq11 (f9 hu) fun i e => by have := h1 (k + i) (Nat.le_add_right _ _) (List.getElem?_eq_some_iff.mp e).1; rw [e] at this; exact this
 have y0y:∀ u, T u y0 → ∀ r ∈ y, T u r := fun u t r hr => eD K py hy0 t r (by rw [List.drop_zero]; exact hr)
 dsimp only
 by_cases z:x.length - k = 0
 ·rw [if_pos (by rw [z]; rfl)]
  refine wpS_pure ?_
  have e:x.take k = x := List.take_of_length_le (by omega)
  rw [e] at x1
  have := h (x ++ y) g (.refl _) (List.pairwise_append.mpr ⟨px, py, fun a ha b hb => y0y a (x1 a ha) b hb⟩)
  rw [List.append_assoc] at this
  exact this
 ·rw [if_neg (fun q => z (eq_of_beq q))]
  have lx':∀ u ∈ x, u = lx ∨ T u lx := fun u hu => oq11 (List.getElem_of_mem hu) fun i e => Exists.elim e fun hi e => by
   have e':x[i]? = some u := by rw [← e]; exact List.getElem?_eq_getElem hi
   rcases Nat.lt_or_ge i (x.length - 1) with q | q
   ·exact .inr (i3 px q e' hlx)
   ·rw [show i = x.length - 1 by omega, hlx] at e'
    exact .inl (Option.some.inj e').symm
  refine wpS_bind (bv (x := lx) (by rw [show U.length + k + (x.length - k) - 1 = U.length + (x.length - 1) by omega]; exact gx hlx) (wpS_bind (jC K (d := fun i => (y[i]?).getD 0) rfl (hX lx (List.mem_append_left _ mlx)) (fun i hi => hX _ (List.mem_append_right _ (List.mem_of_getElem? (ey i hi)))) (fun i hi => gy (ey i hi)) (fun i hi => Ne.symm (ne lx mlx _ (List.mem_of_getElem? (ey i hi)))) (fun i j ij hj => i3 py ij (ey i (nz8 ij hj)) (ey j hj)) (by omega) fun t ht t0 t1 => ?_)))
  have y1:∀ u ∈ y.take t, T u lx := fun u hu => oq12 (i4 hu) fun i hi e => by have := t0 i hi; rw [e] at this; exact this
  have y2:∀ u ∈ y.drop t, T lx u := fun u hu => oq11 (f9 hu) fun i e => by have := t1 (t + i) (Nat.le_add_right _ _) (List.getElem?_eq_some_iff.mp e).1; rw [e] at this; exact this
  have y2x:∀ a ∈ x, ∀ b ∈ y.drop t, T a b := fun a ha b hb => (lx' a ha).elim (fun e => e ▸ y2 b hb) fun q => K.tr q (y2 b hb)
  dsimp only
  by_cases z2:t = 0
  ·rw [if_pos (by rw [z2]; rfl)]
   refine wpS_pure ?_
   rw [z2, List.drop_zero] at y2x
   have := h (x ++ y) g (.refl _) (List.pairwise_append.mpr ⟨px, py, y2x⟩)
   rw [List.append_assoc] at this
   exact this
  ·rw [if_neg (fun q => z2 (eq_of_beq q))]
   have lk:(U ++ x.take k).length = U.length + k := by rw [List.length_append, List.length_take, Nat.min_eq_left hk]
   have l2:(x.drop k).length = x.length - k := List.length_drop
   have l3:(y.take t).length = t := by rw [List.length_take, Nat.min_eq_left ht]
   have E1:(ar f (U ++ (x ++ (y ++ V)))).extract (U.length + k) (U.length + x.length) = ar f (x.drop k) := by
    have := mid_ex (f := f) (U ++ x.take k) (x.drop k) (y ++ V)
    rw [lk, l2, show U.length + k + (x.length - k) = U.length + x.length by omega, List.append_assoc, ← List.append_assoc (x.take k), List.take_append_drop] at this
    exact this
   have E2:(ar f (U ++ (x ++ (y ++ V)))).extract (U.length + x.length) (U.length + x.length + t) = ar f (y.take t) := by
    have := mid_ex (f := f) (U ++ x) (y.take t) (y.drop t ++ V)
    rw [lU, l3, List.append_assoc, ← List.append_assoc (y.take t), List.take_append_drop] at this
    exact this
   have H:Two T X (x.drop k) (y.take t) := by
    refine ⟨px.sublist (List.drop_sublist _ _), py.sublist (List.take_sublist _ _), fun u hu => hX u (List.mem_append_left _ (List.mem_of_mem_drop hu)), fun u hu => hX u (List.mem_append_right _ (List.mem_of_mem_take hu)), fun a ha b hb => ne a (List.mem_of_mem_drop ha) b (List.mem_of_mem_take hb), fun v hv => ?_, fun v hv => ?_⟩
    ·rw [l2, List.getElem?_drop, show k + (x.length - k - 1) = x.length - 1 by omega, hlx] at hv
     exact Option.some.inj hv ▸ y1
    ·rw [List.getElem?_take_of_lt (by omega), hy0] at hv
     exact Option.some.inj hv ▸ x2
   have fin:∀ r g', Fn T f (x.drop k ++ y.take t) r → wpS M A E s (do
     modify fun z => setArr z (r.toList.zipIdx.foldl (fun a (p, j) => a.setIfInBounds (U.length + k + j) p) (arrOf z))
     return (failedOf (← get)).isNone) Q (St κ f (U ++ (x ++ (y ++ V))) (List.toArray (L1 ++ (U.length, x.length + y.length, p1) :: L2)) g') := fun r g' w => by
    refine oq13 w fun m e pm pw => ?_
    subst e
    refine wpS_bind (wpS_modify (wpS_bind (wpS_get (wpS_pure ?_))))
    have hm:((x.take k ++ m) ++ y.drop t).Perm (x ++ y) := by
     have q:(x.take k ++ m ++ y.drop t).Perm (x.take k ++ (x.drop k ++ y.take t) ++ y.drop t) := (pm.append_left _).append_right _
     rw [← List.append_assoc (x.take k), List.take_append_drop, List.append_assoc x, List.take_append_drop] at q
     exact q
    have hp:((x.take k ++ m) ++ y.drop t).Pairwise T := by
     refine List.pairwise_append.mpr ⟨List.pairwise_append.mpr ⟨px.sublist (List.take_sublist _ _), pw, fun a ha b hb => ?_⟩, py.sublist (List.drop_sublist _ _), fun a ha b hb => ?_⟩
     ·rcases List.mem_append.mp (pm.mem_iff.mp hb) with q | q
      ·exact pw_mem (x := x.take k) (y := x.drop k) (by rw [List.take_append_drop]; exact px) ha q
      ·exact y0y a (x1 a ha) b (List.mem_of_mem_take q)
     ·rcases List.mem_append.mp ha with q | q
      ·exact y2x a (List.mem_of_mem_take q) b hb
      ·rcases List.mem_append.mp (pm.mem_iff.mp q) with q | q
       ·exact y2x a (List.mem_of_mem_drop q) b hb
       ·exact pw_mem (x := y.take t) (y := y.drop t) (by rw [List.take_append_drop]; exact py) q hb
    have W := wr (R := (y.drop t ++ V).map f) (b := U.length + k) (m.map f) ((U ++ x.take k).map f) ((x.drop k ++ y.take t).map f) 0 (by rw [List.length_map, List.length_map, pm.length_eq]) (by rw [List.length_map, lk]; rfl)
    rw [← List.map_append, ← List.map_append, ← List.map_append, ← List.map_append] at W
    have q1:U ++ x.take k ++ (x.drop k ++ y.take t ++ (y.drop t ++ V)) = U ++ (x ++ (y ++ V)) := by
     simp only [List.append_assoc]
     rw [← List.append_assoc (y.take t), List.take_append_drop, ← List.append_assoc (x.take k), List.take_append_drop]
    have q2:U ++ x.take k ++ (m ++ (y.drop t ++ V)) = U ++ ((x.take k ++ m ++ y.drop t) ++ V) := by simp only [List.append_assoc]
    rw [q1, q2] at W
    have := h _ g' hm hp
    show Q true (SortSt.mk' κ ((List.map f m).zipIdx.foldl (fun a (q:Keyed × Nat) => a.setIfInBounds (U.length + k + q.2) q.1) (List.toArray ((U ++ (x ++ (y ++ V))).map f))) _ g' none)
    rw [W]
    exact this
   show wpS M A E s (do
     let w ← if x.length - k ≤ t then mlo ((ar f (U ++ (x ++ (y ++ V)))).extract (U.length + k) (U.length + x.length)) ((ar f (U ++ (x ++ (y ++ V)))).extract (U.length + x.length) (U.length + x.length + t)) else mhi ((ar f (U ++ (x ++ (y ++ V)))).extract (U.length + k) (U.length + x.length)) ((ar f (U ++ (x ++ (y ++ V)))).extract (U.length + x.length) (U.length + x.length + t))
     modify fun z => setArr z (w.toList.zipIdx.foldl (fun a (p, j) => a.setIfInBounds (U.length + k + j) p) (arrOf z))
     return (failedOf (← get)).isNone) Q _
   rw [E1, E2]
   by_cases c:x.length - k ≤ t
   ·rw [if_pos c]
    exact wpS_bind (mlo_ok K H (by omega) (by omega) fin)
   ·rw [if_neg c]
    exact wpS_bind (mhi_ok K H (by omega) (by omega) fin)
noncomputable def sts:Nat → List (List Nat) → List (Nat × Nat)
 | _, [] => []
 | k, r :: R => (k, r.length) :: sts (k + r.length) R
theorem gz:∀ (R1 R2:List (List Nat)) (k:Nat), sts k (R1 ++ R2) = sts k R1 ++ sts (k + R1.flatten.length) R2
 | [], _, k => rfl
 | r :: R1, R2, k => by
  show (k, r.length) :: sts (k + r.length) (R1 ++ R2) = (k, r.length) :: (sts (k + r.length) R1 ++ sts (k + (r ++ R1.flatten).length) R2)
  rw [gz R1 R2, List.length_append, Nat.add_assoc]
theorem jH:∀ (R:List (List Nat)) (k:Nat), (sts k R).length = R.length
 | [], _ => rfl
 | r :: R, k => congrArg Nat.succ (jH R (k + r.length))
noncomputable abbrev pr2 (e:Nat × Nat × Nat):Nat × Nat := (e.1, e.2.1)
structure Okl (T:Nat → Nat → Prop) (L:List (Nat × Nat × Nat)) (R:List (List Nat)):Prop where
 mp:L.map pr2 = sts 0 R
 rn:∀ r ∈ R, 1 ≤ r.length ∧ r.Pairwise T
theorem Okl.len {L:List (Nat × Nat × Nat)} {R:List (List Nat)} (h:Okl T L R):L.length = R.length := by
 rw [← List.length_map (f := pr2), h.mp, jH]
theorem two_at {R:List (List Nat)} {i:Nat} (h:i + 1 < R.length):∃ R1 x y R2, R = R1 ++ x :: y :: R2 ∧ R1.length = i :=
 ⟨R.take i, R[i], R[i + 1], R.drop (i + 2), by rw [← List.drop_eq_getElem_cons, ← List.drop_eq_getElem_cons, List.take_append_drop], by rw [List.length_take]; omega⟩
theorem mst_ok (K:Cx M A s κ f T X) {L:List (Nat × Nat × Nat)} {R:List (List Nat)} {V:List Nat} {i g:Nat} {Q:Bool → SortSt → Prop} (O:Okl T L R) (hi:i + 1 < L.length) (nd:(R.flatten ++ V).Nodup) (hX:∀ x ∈ R.flatten ++ V, X x)
  (h:∀ R' L' g', Okl T L' R' → L'.length + 1 = L.length → R'.flatten.Perm R.flatten → Q true (St κ f (R'.flatten ++ V) (List.toArray L') g')):wpS M A E s (mergeAt' i) Q (St κ f (R.flatten ++ V) (List.toArray L) g) := by
 refine oq42 (two_at (R := R) (i := i) (by rw [← O.len]; exact hi)) fun R1 x y R2 eR e1 => ?_
 subst eR
 have mp := O.mp
 rw [gz] at mp
 refine oq23 (List.map_eq_append_iff.mp mp) fun L1 L3 eL m1 m2 => ?_
 refine oq23 (List.map_eq_cons_iff.mp m2) fun e L4 eL3 ee m3 => oq23 (List.map_eq_cons_iff.mp m3) fun e' L2 eL4 ee' m4 => ?_
 subst eL; subst eL3; subst eL4
 have l1:L1.length = i := by rw [← e1, ← jH R1 0, ← m1, List.length_map]
 have q1:e = (R1.flatten.length, x.length, e.2.2) := by
  have a := congrArg Prod.fst ee
  have b := congrArg Prod.snd ee
  rw [Nat.zero_add] at a
  exact Prod.ext a (Prod.ext b rfl)
 have q2:e' = (R1.flatten.length + x.length, y.length, e'.2.2) := by
  have a := congrArg Prod.fst ee'
  have b := congrArg Prod.snd ee'
  rw [Nat.zero_add] at a
  exact Prod.ext a (Prod.ext b rfl)
 have fl:(R1 ++ x :: y :: R2).flatten = R1.flatten ++ (x ++ (y ++ R2.flatten)) := by
  rw [List.flatten_append]; rfl
 have ox := O.rn x (List.mem_append_right _ (.head _))
 have oy := O.rn y (List.mem_append_right _ (.tail _ (.head _)))
 rw [fl] at nd hX h ⊢
 have ap:(R1.flatten ++ (x ++ (y ++ R2.flatten))) ++ V = R1.flatten ++ (x ++ (y ++ (R2.flatten ++ V))) := by simp only [List.append_assoc]
 rw [ap] at nd hX ⊢
 rw [q1, q2, ← l1]
 have sub:(x ++ y).Sublist (R1.flatten ++ (x ++ (y ++ (R2.flatten ++ V)))) := by
  refine List.Sublist.trans ?_ (List.sublist_append_right _ _)
  rw [← List.append_assoc]
  exact List.sublist_append_left _ _
 refine mat_ok K (fun u hu => hX u (sub.subset hu)) (nd.sublist sub) ox.2 oy.2 ox.1 oy.1 fun m g' pm pw => ?_
 have := h (R1 ++ m :: R2) (L1 ++ (R1.flatten.length, x.length + y.length, e.2.2) :: L2) g' ⟨?_, fun r hr => ?_⟩ ?_ ?_
 ·rw [List.flatten_append, List.append_assoc] at this
  show Q true (St κ f (R1.flatten ++ (m ++ (R2.flatten ++ V))) _ g')
  rw [← List.append_assoc m]
  exact this
 ·rw [gz, List.map_append, m1, List.map_cons, m4]
  show _ ++ (_ :: _) = _ ++ ((0 + R1.flatten.length, m.length) :: sts (0 + R1.flatten.length + m.length) R2)
  rw [pm.length_eq, List.length_append, Nat.zero_add]
  rw [Nat.add_assoc]
 ·rcases List.mem_append.mp hr with q | q
  ·exact O.rn r (List.mem_append_left _ q)
  ·rcases List.mem_cons.mp q with q | q
   ·rw [q]; exact ⟨by rw [pm.length_eq, List.length_append]; omega, pw⟩
   ·exact O.rn r (List.mem_append_right _ (.tail _ (.tail _ q)))
 ·rw [List.length_append, List.length_append]; rfl
 ·rw [List.flatten_append]
  refine List.Perm.append_left _ ?_
  show (m ++ R2.flatten).Perm _
  rw [← List.append_assoc]
  exact pm.append_right _
noncomputable def u3 (lo n:Nat):StateT SortSt Sem (ForInStep (Option Unit × Nat)) := do
 modify fun z => setPending z ((pendingOf z).push (lo, n, 0))
 pure (.yield (none, lo + n))
theorem map_mod {L:List (Nat × Nat × Nat)} {i:Nat} {w:Nat × Nat × Nat → Nat × Nat × Nat} (h:∀ e, pr2 (w e) = pr2 e):(L.modify i w).map pr2 = L.map pr2 := by
 apply List.ext_getElem?
 intro k
 rw [List.getElem?_map, List.getElem?_map, List.getElem?_modify]
 cases L[k]? with
 | none => rfl
 | some e =>
  show some (pr2 (if i = k then w e else e)) = some (pr2 e)
  by_cases c:i = k
  ·rw [if_pos c, h]
  ·rw [if_neg c]
noncomputable def Rs (κ:SortKind) (f:Nat → Keyed) (T:Nat → Nat → Prop) (l0:List Nat) (lo:Nat) (st:SortSt):Prop :=
 ∃ R V L g, st = St κ f (R.flatten ++ V) (List.toArray L) g ∧ lo = R.flatten.length ∧ Okl T L R ∧ (R.flatten ++ V).Perm l0
theorem u3_ok {l0:List Nat} {R:List (List Nat)} {V:List Nat} {L:List (Nat × Nat × Nat)} {g n:Nat} {Q:ForInStep (Option Unit × Nat) → SortSt → Prop} (O:Okl T L R) (pm:(R.flatten ++ V).Perm l0) (h1:1 ≤ n) (hn:n ≤ V.length) (pv:(V.take n).Pairwise T)
  (h:∀ lo' st, R.flatten.length + n = lo' → Rs κ f T l0 lo' st → Q (.yield (none, lo')) st):wpS M A E s (u3 R.flatten.length n) Q (St κ f (R.flatten ++ V) (List.toArray L) g) := by
 unfold u3
 refine wpS_bind (wpS_modify (wpS_pure (h _ _ rfl ?_)))
 have ln:(V.take n).length = n := by rw [List.length_take, Nat.min_eq_left hn]
 have fl:(R ++ [V.take n]).flatten = R.flatten ++ V.take n := by rw [List.flatten_append, List.flatten_cons, List.flatten_nil, List.append_nil]
 refine ⟨R ++ [V.take n], V.drop n, L ++ [(R.flatten.length, n, 0)], g, ?_, ?_, ⟨?_, fun r hr => ?_⟩, ?_⟩
 ·rw [fl, List.append_assoc, List.take_append_drop]
  show SortSt.mk' κ (ar f (R.flatten ++ V)) ((List.toArray L).push (R.flatten.length, n, 0)) g none = _
  rw [List.push_toArray]
 ·rw [fl, List.length_append, ln]
 ·rw [List.map_append, O.mp, gz]
  show _ ++ [_] = _ ++ [(0 + R.flatten.length, (V.take n).length)]
  rw [ln, Nat.zero_add]
 ·rcases List.mem_append.mp hr with q | q
  ·exact O.rn r q
  ·rw [List.mem_singleton.mp q, ln]; exact ⟨h1, pv⟩
 ·rw [fl, List.append_assoc, List.take_append_drop]; exact pm
theorem br2 {β:Type} {H:Nat → List Nat → Prop} {mr:Nat} {m1:Nat → List Nat → StateT SortSt Sem β} {tl:Nat → StateT SortSt Sem β} {Q:β → SortSt → Prop} {sx:List Nat → SortSt} (P:Nat → SortSt → Prop) (h:∀ n' st', P n' st' → wpS M A E s (tl n') Q st') (hn:∀ n V, H n V → P n (sx V)) (h1:(∀ n' st', P n' st' → wpS M A E s (tl n') Q st') → ∀ n V, H n V → n < mr → wpS M A E s (m1 n V) Q (sx V)) :
  ∀ n V, H n V → wpS M A E s (if n < mr then m1 n V else tl n) Q (sx V) := fun n V k => by
 by_cases q:n < mr
 ·rw [if_pos q]; exact h1 h n V k q
 ·rw [if_neg q]; exact h n _ (hn n V k)
theorem ite_lt {p:Prop} [Decidable p] {a b c:Nat} (ha:a + 1 < c) (hb:b + 1 < c):(if p then a else b) + 1 < c := by
 by_cases q:p
 ·rw [if_pos q]; exact ha
 ·rw [if_neg q]; exact hb
theorem bw:∀ (R:List (List Nat)), (∀ r ∈ R, 1 ≤ r.length) → R.length ≤ R.flatten.length
 | [], _ => nz6 _
 | r :: R, h => by
  rw [List.flatten_cons, List.length_append, List.length_cons]
  have := bw R fun x hx => h x (.tail _ hx)
  have := h r (.head _)
  omega
theorem sort_ok (K:Cx M A s κ f T X) {l0:List Nat} (nd:l0.Nodup) (hX:∀ x ∈ l0, X x) {g0:Nat} {Q:Unit → SortSt → Prop}
  (h:∀ p st, arrOf st = ar f p → failedOf st = none → p.Perm l0 → p.Pairwise T → Q () st):wpS M A E s sortRuns' Q (St κ f l0 #[] g0) := by
 rw [sortRuns'_eq]
 refine wpS_bind (wpS_get ?_)
 have sz:(arrOf (St κ f l0 #[] g0)).size = l0.length := bB l0
 dsimp only
 rw [sz]
 refine wpS_bind (wpS_mono (wpS_forRange (I := fun i c st => c.1 = none ∧ Rs κ f T l0 c.2 st ∧ min i l0.length ≤ c.2) (Q := fun c st => c.1 = none ∧ Rs κ f T l0 c.2 st ∧ l0.length ≤ c.2) ?_ ?_ ⟨rfl, ⟨[], l0, [], g0, rfl, rfl, ⟨rfl, fun _ z => nomatch z⟩, .refl _⟩, nz4 (Nat.min_le_left _ _) (nz6 _)⟩) ?_)
 ·intro i c st _ hi z
  refine oq03 z fun e W le => ?_
  by_cases cc:c.2 ≥ l0.length
  ·rw [if_pos cc]; exact wpS_pure ⟨rfl, W, cc⟩
  ·rw [if_neg cc]
   refine oq44 W fun R V L g e1 e2 O pm => ?_
   subst e1
   rw [e2] at cc le ⊢
   have lv:l0.length - R.flatten.length = V.length := by rw [← pm.length_eq, List.length_append, Nat.add_sub_cancel_left]
   have nv:V.Nodup := (pm.nodup_iff.mpr nd).sublist (List.sublist_append_right _ _)
   have xv:∀ x ∈ V, X x := fun x hx => hX x (pm.mem_iff.mp (List.mem_append_right _ hx))
   rw [lv]
   refine wpS_bind (run_ok K nv xv (by omega) fun n V' pv n1 n2 pw => ?_)
   have pm':(R.flatten ++ V').Perm l0 := (pv.append_left _).trans pm
   rw [← pv.length_eq] at n2 ⊢
   dsimp only
   have hh:V'.Perm V ∧ 1 ≤ n ∧ n ≤ V'.length ∧ (V'.take n).Pairwise T := ⟨pv, n1, n2, pw⟩
   clear pw n2 n1 pm' pv
   revert n V'
   refine br2 (β := ForInStep (Option Unit × Nat)) (fun n' st' => ∃ V2, st' = St κ f (R.flatten ++ V2) (List.toArray L) g ∧ V2.Perm V ∧ 1 ≤ n' ∧ n' ≤ V.length ∧ (V2.take n').Pairwise T) ?_ (fun n V' z => ⟨V', rfl, z.1, z.2.1, z.1.length_eq ▸ z.2.2.1, z.2.2.2⟩) fun hh n V' z q => oq04 z fun pv n1 n2 pw => ?_
   ·intro n' st' z
    refine oq15 z fun V2 e3 p2 m1 m2 w2 => ?_
    subst e3
    have pm2:(R.flatten ++ V2).Perm l0 := (p2.append_left _).trans pm
    rw [← p2.length_eq] at m2
    have fin:∀ (R':List (List Nat)) (L':List (Nat × Nat × Nat)) g', Okl T L' R' → R'.flatten.Perm R.flatten → wpS M A E s (u3 R.flatten.length n') (fun r st' => match r with | .done c' => c'.1 = none ∧ Rs κ f T l0 c'.2 st' ∧ l0.length ≤ c'.2 | .yield c' => c'.1 = none ∧ Rs κ f T l0 c'.2 st' ∧ min (i + 1) l0.length ≤ c'.2) (St κ f (R'.flatten ++ V2) (List.toArray L') g') := fun R' L' g' O' pm' => by
     rw [← pm'.length_eq]
     exact u3_ok O' ((pm'.append_right V2).trans pm2) m1 m2 w2 fun lo' st' e w => ⟨rfl, w, show min (i + 1) l0.length ≤ lo' by rw [pm'.length_eq] at e; omega⟩
    refine wpS_bind (wpS_get ?_)
    generalize eb:(pendingOf (St κ f (R.flatten ++ V2) (List.toArray L) g)).back? = w
    cases w with
    | none => exact fin R L g O (.refl _)
    | some w =>
     have ne:L ≠ [] := fun z => by rw [z] at eb; cases eb
     refine wpS_bind (wpS_mono (wpS_forRange (I := fun _ c st => c = (none, ()) ∧ ∃ R' L' g', st = St κ f (R'.flatten ++ V2) (List.toArray L') g' ∧ Okl T L' R' ∧ R'.flatten.Perm R.flatten ∧ L' ≠ []) (Q := fun c st => c = (none, ()) ∧ ∃ R' L' g', st = St κ f (R'.flatten ++ V2) (List.toArray L') g' ∧ Okl T L' R' ∧ R'.flatten.Perm R.flatten ∧ L' ≠ []) ?_ (fun _ _ z => z) ⟨rfl, R, L, g, rfl, O, .refl _, ne⟩) ?_)
     ·intro i c st _ _ z
      refine oq02 z fun e1 z => oq34 z fun R' L' g' e2 O' pm' ne' => ?_
      subst e1; subst e2
      refine wpS_bind (wpS_get ?_)
      have es:(pendingOf (St κ f (R'.flatten ++ V2) (List.toArray L') g')).size = L'.length := List.size_toArray ..
      generalize e3:(if (pendingOf (St κ f (R'.flatten ++ V2) (List.toArray L') g')).size > 1 then (pendingOf (St κ f (R'.flatten ++ V2) (List.toArray L') g'))[(pendingOf (St κ f (R'.flatten ++ V2) (List.toArray L') g')).size - 2]? else none) = v
      cases v with
      | none => exact wpS_pure ⟨rfl, R', L', g', rfl, O', pm', ne'⟩
      | some v =>
       have big:1 < L'.length := by
        by_cases q:(pendingOf (St κ f (R'.flatten ++ V2) (List.toArray L') g')).size > 1
        ·exact es ▸ q
        ·rw [if_neg q] at e3; cases e3
       dsimp only
       split
       ·exact wpS_pure ⟨rfl, R', L', g', rfl, O', pm', ne'⟩
       ·have pq := (pm'.append_right V2).trans pm2
        refine wpS_bind (mst_ok K O' (i := (pendingOf (St κ f (R'.flatten ++ V2) (List.toArray L') g')).size - 2) (by rw [es]; omega) (pq.nodup_iff.mpr nd) (fun x hx => hX x (pq.mem_iff.mp hx)) fun R2 L2 g2 O2 l2 p2 => ?_)
        refine wpS_pure ⟨rfl, R2, L2, g2, rfl, O2, p2.trans pm', fun z => ?_⟩
        rw [z] at l2
        exact absurd big (by rw [← l2]; exact Nat.lt_irrefl _)
     ·intro c st z
      refine oq02 z fun e1 z => oq34 z fun R' L' g' e2 O' pm' ne' => ?_
      subst e1; subst e2
      refine wpS_bind (wpS_modify ?_)
      have em:∀ w, ((List.toArray L').modify ((List.toArray L').size - 1) w) = List.toArray (L'.modify ((List.toArray L').size - 1) w) := fun w => by rw [List.modify_toArray]
      show wpS M A E s (u3 R.flatten.length n') _ (St κ f (R'.flatten ++ V2) ((List.toArray L').modify ((List.toArray L').size - 1) _) g')
      rw [em]
      refine fin R' _ g' ⟨Eq.trans (map_mod ?_) O'.mp, O'.rn⟩ pm'
      exact fun _ => rfl
   ·refine wpS_bind (wpS_lift (wpAny_rule ⟨rfl, ?_⟩))
    exact wpS_bind (bin_ok K (pv.nodup_iff.mpr nv) (fun x hx => xv x (pv.mem_iff.mp hx)) n1 (by omega) (by omega) pw fun V2 p2 w2 => hh _ _ ⟨V2, rfl, p2.trans pv, by omega, by have := pv.length_eq; omega, w2⟩)
 ·intro c st z
  refine oq03 z fun e W le => ⟨e, W, ?_⟩
  rw [show min (max 0 l0.length) l0.length = l0.length by omega] at le
  exact le
 ·intro c st z
  refine oq03 z fun e W le => oq44 W fun R V L g e1 e2 O pm => ?_
  have lv := pm.length_eq
  rw [List.length_append] at lv
  have vn:V = [] := List.length_eq_zero_iff.mp (by omega)
  subst vn
  subst e1
  rw [e]
  rw [List.append_nil] at pm
  have lr := bw R fun r hr => (O.rn r hr).1
  refine wpS_bind (wpS_mono (wpS_forRange (I := fun i c st => c = (none, ()) ∧ ∃ R L g, st = St κ f (R.flatten ++ []) (List.toArray L) g ∧ Okl T L R ∧ R.flatten.Perm l0 ∧ L.length ≤ l0.length - i) (Q := fun c st => c = (none, ()) ∧ ∃ R L g, st = St κ f (R.flatten ++ []) (List.toArray L) g ∧ Okl T L R ∧ R.flatten.Perm l0 ∧ L.length ≤ 1) ?_ ?_ ⟨rfl, R, L, g, rfl, O, pm, by rw [O.len, ← pm.length_eq]; exact lr⟩) ?_)
  ·intro i c st _ hi z
   refine oq02 z fun e1 z => oq34 z fun R L g e2 O pm le => ?_
   subst e1; subst e2
   refine wpS_bind (wpS_get ?_)
   show wpS M A E s (if (List.toArray L).size ≤ 1 then _ else _) _ _
   have es:(List.toArray L).size = L.length := List.size_toArray ..
   by_cases q:(List.toArray L).size ≤ 1
   ·rw [if_pos q]
    exact wpS_pure ⟨rfl, R, L, g, rfl, O, pm, es ▸ q⟩
   ·rw [if_neg q]
    have pq:(R.flatten ++ []).Perm l0 := by rw [List.append_nil]; exact pm
    refine wpS_bind (mst_ok K O ?_ (pq.nodup_iff.mpr nd) (fun x hx => hX x (pq.mem_iff.mp hx)) fun R2 L2 g2 O2 l2 p2 => ?_)
    ·exact ite_lt (show (List.toArray L).size - 2 - 1 + 1 < L.length by omega) (show (List.toArray L).size - 2 + 1 < L.length by omega)
    ·exact wpS_pure ⟨rfl, R2, L2, g2, rfl, O2, p2.trans pm, by omega⟩
  ·intro c st z
   refine oq02 z fun e1 z => oq34 z fun R L g e2 O pm le => ⟨e1, R, L, g, e2, O, pm, by omega⟩
  ·intro c st z
   refine oq02 z fun e1 z => oq34 z fun R L g e2 O pm le => ?_
   subst e1; subst e2
   refine wpS_pure (h R.flatten _ (by rw [List.append_nil]) rfl pm ?_)
   rw [O.len] at le
   match R, le, O with
   | [], _, _ => exact .nil
   | [r], _, O => rw [List.flatten_cons, List.flatten_nil, List.append_nil]; exact (O.rn r (.head _)).2
   | _ :: _ :: _, le, _ => exact absurd le (by simp)
end
end Tim
namespace Pu
noncomputable def jI (g:Int → Option (Int × Int)) (ns:List Int):Option (List Int) := (keysOf g ns).bind fun ps => if ns.length < 1000000 ∧ ps.Nodup then some (srtK ns ps) else none
end Pu
namespace L2
open PySem PySem.Spec PyProof.Rows
variable [Kon]
section
variable {prog:Program} {w:World} {A:Around} {E:Value → Shared → Prop} {s:Shared} {vs ks:List Value} {a kS:Addr}
open PySem.W
theorem tim_run {κ:SortKind} {c:Nat → Nat → Bool} (hl:ks.length = vs.length) (L:Srt.Lin c vs.length) (hc:∀ i j C, i < vs.length → j < vs.length → C (c i j) s → kas_ask prog w A κ ks i j C s) :
  wpAny (model prog w) A ((sortRuns').run (SortSt.mk' κ (ks.toArray.zip vs.toArray) #[] 7 none)) (fun r s2 => s2 = s ∧ ∃ p:Array Nat, Srt.Arr vs.length p ∧ Srt.Up c p vs.length ∧ arrOf r.2 = p.map (kas_item (ks.toArray.zip vs.toArray)) ∧ failedOf r.2 = none) E s := by
 have K:Tim.Cx (model prog w) A s κ (kas_item (ks.toArray.zip vs.toArray)) (fun i j => i < vs.length ∧ j < vs.length ∧ c i j = true) (fun i => i < vs.length) := by
  refine ⟨fun i j hi hj C h1 h0 => ?_, fun {i j k} x y => ⟨x.1, y.2.1, L.tr i j k x.1 x.2.1 y.2.1 x.2.2 y.2.2⟩, fun {i} x => by rw [L.irr i x.1] at x; exact nomatch x.2.2⟩
  have q := hc i j (fun b s' => s' = s ∧ C b) hi hj ⟨rfl, by
   cases e:c i j with
   | true => exact h1 ⟨hi, hj, e⟩
   | false =>
    by_cases z:i = j
    ·exact h0 (.inl z)
    ·exact h0 (.inr ⟨hj, hi, L.tot i j hi hj z e⟩)⟩
  rw [kat_ask_eq hl] at q
  exact q
 have e := kas_range (ks.toArray.zip vs.toArray)
 rw [show (ks.toArray.zip vs.toArray).size = vs.length by simp [hl]] at e
 have est:SortSt.mk' κ (ks.toArray.zip vs.toArray) #[] 7 none = Tim.St κ (kas_item (ks.toArray.zip vs.toArray)) (List.range vs.length) #[] 7 := by
  show _ = SortSt.mk' κ (List.toArray ((List.range vs.length).map (kas_item (ks.toArray.zip vs.toArray)))) #[] 7 none
  rw [← List.map_toArray, e]
 rw [est]
 refine Tim.sort_ok (E := E) K (l0 := List.range vs.length) List.nodup_range (fun x hx => List.mem_range.mp hx) (Q := fun _ st => ∃ p:Array Nat, Srt.Arr vs.length p ∧ Srt.Up c p vs.length ∧ arrOf st = p.map (kas_item (ks.toArray.zip vs.toArray)) ∧ failedOf st = none) fun p st ha hf pm pw => ?_
 have lp:p.length = vs.length := by rw [pm.length_eq, List.length_range]
 refine ⟨List.toArray p, ⟨by rw [List.size_toArray, lp], pm⟩, fun i j hij hj => ?_, by rw [ha, List.map_toArray], hf⟩
 have hj':j < p.length := lp ▸ hj
 have hi':i < p.length := nz8 hij hj'
 have z := (List.pairwise_iff_getElem.mp pw) i j hi' hj' hij
 have gt:∀ k (h:k < p.length), Srt.at' (List.toArray p) k = p[k] := fun k h => by simp [Srt.at', Array.getD, h]
 rw [gt i hi', gt j hj']
 exact z.2.2
theorem i5 {st:SortSt} {e e1:Nat} {p:Array Nat} {P:PySem.Fin → Shared → Prop} (hka:kS ≠ a) (hk:s.heap.get? kS = some (seqObj "list" (List.toArray ks) e)) (ha:s.heap.get? a = some (seqObj "list" #[] e1)) (hz:ks.length < 1000000)
  (ho:(arrOf st).map (·.2) = bQ vs p) (hf:failedOf st = none) (hp:p.size < 1000000) (h:P (.done (.ret .none)) { s with heap := (s.heap.update kS (Obj.mapSeq fun _ => #[])).update a (Obj.mapSeq fun _ => bQ vs p) }) :
  wpAny (model prog w) A (ksk_tail a false e1 (.ref kS) st) P E s := by
 have ha':(s.heap.update kS (Obj.mapSeq fun _ => (#[]:Array Value))).get? a = some (seqObj "list" #[] e1) := by rw [Heap.get?_update_ne _ _ _ _ (Ne.symm hka)]; exact ha
 unfold ksk_tail
 rw [ho]
 simp only [Bool.false_eq_true, if_false]
 refine wpAny_bind (listUpdate_at hk rfl ?_ (by rw [List.size_toArray, sizeLine_eq]; exact nz5 (nz8 hz (by decide))) (Nat.zero_le _))
 refine wpAny_bind (wpAny_letGo ?_)
 refine wpAny_bind (seqEpoch_at ha' rfl ?_)
 refine wpAny_bind (listUpdate_at ha' rfl ?_ (Nat.zero_le _) (by rw [hO, sizeLine_eq]; exact Nat.le_succ_of_le (nz5 (nz8 hp (by decide)))))
 rw [hf]
 simp only [bne_self_eq_false, Bool.false_eq_true, if_false]
 exact wpAny_pure h
theorem keys_endW {e e1:Nat} {P:PySem.Fin → Shared → Prop} (hka:kS ≠ a) (hk:s.heap.get? kS = some (seqObj "list" (List.toArray ks) e)) (hl:ks.length = vs.length) (h64:vs.length < 1000000) (h:d7 prog w A a e1 kS vs P ks s) :
  wpAny (model prog w) A (ksk_end a false vs.toArray e1 (.ref kS) (List.toArray ks)) P E s := by
 refine oq02 h fun ha zz => oq24 zz fun κ c L hkd hc fin => ?_
 unfold ksk_end
 simp only [Bool.false_eq_true, if_false]
 by_cases h2:vs.toArray.size < 2
 ·rw [if_pos h2, if_pos h2]
  refine wpAny_bind (wpAny_pure ?_)
  rw [StateT.run_pure]
  refine wpAny_bind (wpAny_pure ?_)
  have sz:vs.length < 2 := by simpa using h2
  refine i5 (p := List.toArray (List.range vs.length)) hka hk ha (by exact nz2 (nz3 hl) h64) ?_ rfl (by simp; exact h64) (fin _ ⟨by simp, by simp⟩ fun i j hij hj => by omega)
  have e2 := kas_range (ks.toArray.zip vs.toArray)
  rw [show (ks.toArray.zip vs.toArray).size = vs.length by simp [hl]] at e2
  exact kat_snds (st := SortSt.mk' general' (ks.toArray.zip vs.toArray) #[] 7 none) hl e2.symm
 ·rw [if_neg h2, if_neg h2]
  have h2':2 ≤ vs.length := by simpa using Nat.not_lt.mp h2
  refine wpAny_bind (wpAny_mono (hkd h2' (fun κ' s' => κ' = κ ∧ s' = s) ⟨rfl, rfl⟩) ?_ fun _ _ z => z.elim)
  intro κ' s' zq; refine oq02 zq fun eq0_ eq1_ => ?_; subst eq0_; subst eq1_
  refine wpAny_bind (wpAny_mono (tim_run (κ := κ') hl L hc) ?_ fun _ _ z => z)
  rintro ⟨⟨⟩, st'⟩ s2 ⟨rfl, p, b1, b2, b3, b4⟩
  exact i5 hka hk ha (by exact nz2 (nz3 hl) h64) (kat_snds hl b3) b4 (by rw [b1.sz]; exact h64) (fin p b1 b2)
theorem i6 {f:Value} {Fi:List Value → Shared → Prop} {n:Nat} {body:Value → PUnit → Sem (ForInStep PUnit)} (hn:n < 1000000)
  (hb:∀ x l (s1:Shared) (C:Value → Shared → Prop), List.length l < 1000000 → wpAny (model prog w) A (call f [x]) (fun k s2 => (∃ e, s2.heap.get? kS = some (seqObj "list" (List.toArray l) e)) ∧ C k { s2 with heap := s2.heap.update kS (Obj.mapSeq (·.push k)) }) (fun _ _ => False) s1 →
   wpAny (model prog w) A (body x ⟨⟩) (fun r s2 => r = .yield ⟨⟩ ∧ ∃ k, (∃ e, s2.heap.get? kS = some (seqObj "list" (List.toArray (l ++ [k])) e)) ∧ C k s2) E s1):∀ (r l:List Value) (s1:Shared), l.length + r.length = n →
   (∃ e, s1.heap.get? kS = some (seqObj "list" (List.toArray l) e)) → dt prog w A f kS Fi r l s1 →
   wpAny (model prog w) A (forIn r PUnit.unit body) (fun _ s2 => ∃ l, (∃ e, s2.heap.get? kS = some (seqObj "list" (List.toArray l) e)) ∧ l.length = n ∧ Fi l s2) E s1
 | [], l, s1, hl, hk, h => by
  rw [List.forIn_nil]
  exact wpAny_pure (oi13 l hk (by simpa using hl) h)
 | x :: r, l, s1, hl, hk, h => by
  rw [List.length_cons] at hl
  rw [List.forIn_cons]
  refine wpAny_bind (wpAny_mono (hb x l s1 _ (by omega) h) ?_ fun _ _ z => z)
  intro q s2 zq; refine oq02 zq fun eq0_ zz => oq12 zz fun k hk' h2 => ?_; subst eq0_
  exact i6 hn hb r (l ++ [k]) s2 (by rw [List.length_append, List.length_singleton]; omega) hk' h2
theorem me {f:Value} {e1:Nat} {P:PySem.Fin → Shared → Prop} (hka:kS ≠ a) (hk:s.heap.get? kS = some (seqObj "list" #[] 0)) (h64:vs.length < 1000000) (h:dt prog w A f kS (d7 prog w A a e1 kS vs P) vs [] s) :
  wpAny (model prog w) A (ksk_rest a f false vs.toArray e1 (.ref kS)) P E s := by
 unfold ksk_rest
 refine wpAny_bind (wpAny_rule ?_)
 first
  | rw [List.forIn_toArray]
  | rw [← Array.forIn_toList]
 refine wpAny_bind (wpAny_mono (i6 (kS := kS) h64 (fun x l s1 C hz hx => ?_) vs [] s (by simp) ⟨0, hk⟩ h) ?_ fun _ _ z => z)
 ·refine wpAny_bind (wpAny_attempt (wpAny_mono hx ?_ fun _ _ z => z.elim))
  rintro k s2 ⟨⟨e, he⟩, hC⟩
  have ea:(List.toArray l).push k = List.toArray (l ++ [k]) := by simp
  have hn:∃ e2, (s2.heap.update kS (Obj.mapSeq (·.push k))).get? kS = some (seqObj "list" (List.toArray (l ++ [k])) e2) := ⟨_, by rw [← ea]; exact get?_update_seq he (·.push k)⟩
  refine wpAny_bind (listUpdate_at he rfl ?_ (by rw [List.size_toArray, sizeLine_eq]; exact nz5 (nz8 hz (by decide))) (by rw [Array.size_push, List.size_toArray, sizeLine_eq]; omega))
  exact wpAny_pure ⟨rfl, k, hn, hC⟩
 ·rintro _ s2 ⟨l, ⟨e, he⟩, hl, fin⟩
  refine wpAny_bind (listItems_at he rfl ?_)
  exact keys_endW hka he hl h64 fin
theorem i7 {f:Value} {n:Nat} {P:PySem.Fin → Shared → Prop} (ho:s.heap.get? a = some (seqObj "list" vs.toArray n)) (h64:vs.length < 1000000)
  (h:∀ (e1:Nat) (kS:Addr) (h':Heap), (∀ b o, b ≠ a → s.heap.get? b = some o → h'.get? b = some o) → h'.get? a = some (seqObj "list" #[] e1) → h'.get? kS = some (seqObj "list" #[] 0) → s.heap.objs.size ≤ kS → kS < h'.objs.size →
   dt prog w A f kS (d7 prog w A a e1 kS vs P) vs [] { s with heap := h' }):wpAny (model prog w) A (ksk_tree a f false) P E s := by
 have ha:a < s.heap.objs.size := Heap.lt_size ho
 obtain ⟨e1, ho1⟩:∃ e1, (s.heap.update a (Obj.mapSeq fun _ => (#[]:Array Value))).get? a = some (seqObj "list" #[] e1) := ⟨_, get?_update_seq ho (fun _ => #[])⟩
 have hz:((s.heap.update a (Obj.mapSeq fun _ => (#[]:Array Value))).push (seqObj "tuple" vs.toArray 0)).objs.size = s.heap.objs.size + 1 := by rw [size_push', Heap.size_update]
 unfold ksk_tree
 refine wpAny_bind (listItems_at ho rfl ?_)
 refine wpAny_bind (listUpdate_at ho rfl ?_ (by rw [List.size_toArray, sizeLine_eq]; exact nz5 (nz8 h64 (by decide))) (Nat.zero_le _))
 refine wpAny_bind (seqEpoch_at ho1 rfl ?_)
 refine wpAny_bind (wpAny_newTuple ?_ (by show vs.length ≤ _; rw [sizeLine_eq]; exact nz5 (nz8 h64 (by decide))))
 refine wpAny_bind (wpAny_newList ?_ (Nat.zero_le _))
 refine wpAny_holding ?_
 have hkS:(((s.heap.update a (Obj.mapSeq fun _ => (#[]:Array Value))).push (seqObj "tuple" vs.toArray 0)).push (seqObj "list" #[] 0)).get? ((s.heap.update a (Obj.mapSeq fun _ => (#[]:Array Value))).push (seqObj "tuple" vs.toArray 0)).objs.size = some (seqObj "list" #[] 0) := Heap.get?_push_size _ rfl
 refine me (s := { s with heap := ((s.heap.update a (Obj.mapSeq fun _ => (#[]:Array Value))).push (seqObj "tuple" vs.toArray 0)).push (seqObj "list" #[] 0) }) (by rw [hz]; exact Nat.ne_of_gt (Nat.lt_succ_of_lt ha)) hkS h64 (h e1 _ _ (fun b o nb q => ?_) ?_ hkS (by rw [hz]; exact Nat.le_succ _) (Heap.lt_size hkS))
 ·refine Heap.get?_push_of_some _ (Heap.get?_push_of_some _ ?_)
  rw [Heap.get?_update_ne _ _ _ _ nb]; exact q
 ·exact Heap.get?_push_of_some _ (Heap.get?_push_of_some _ ho1)
theorem kP {l q:Addr} {Q:Value → Shared → Prop} (hl:s.heap.IsList l vs.toArray) (h64:vs.length < 1000000)
  (h:∀ (D:Addr) (e1:Nat) (kS:Addr) (h':Heap), (∀ b o, s.heap.get? b = some o → h'.get? b = some o) → h'.get? D = some (seqObj "list" #[] e1) → h'.get? kS = some (seqObj "list" #[] 0) → s.heap.objs.size ≤ D → D < kS → kS < h'.objs.size →
   dt prog w A.in1.in1 (.ref q) kS (d7 prog w A.in1.in1 D e1 kS vs fun f s' => Q (.ref D) s') vs [] { s with heap := h' }) :
  wpAny (model prog w) A (call (.builtin "sorted") [.ref l] [(Str.ofString "key", .ref q)]) Q E s := by
 refine call_function_entry_kw kind_sorted plain_sorted entry_sorted (ksk_s1 _ _) ?_
 unfold Builtin.«sorted»
 refine wpAny_bind (m := checkCount "sorted" 1 1 _) (wpAny_pure ?_)
 refine wpAny_bind (collect_list hl ?_ (by rw [sizeLine_eq]; exact nz5 (nz8 h64 (by decide))))
 refine wpAny_bind (wpAny_newList ?_ (by rw [sizeLine_eq]; exact nz5 (nz8 h64 (by decide))))
 have hsz:((s.heap.push (seqObj "list" #[] 0)).update s.heap.objs.size (Obj.mapSeq (· ++ vs.toArray))).objs.size = s.heap.objs.size + 1 := by
  rw [Heap.size_update, size_push']
 have hoL:(((s.heap.push (seqObj "list" #[] 0)).update s.heap.objs.size (Obj.mapSeq (· ++ vs.toArray))).push (seqObj "list" vs.toArray 0)).get? (s.heap.objs.size + 1) = some (seqObj "list" vs.toArray 0) := by
  rw [← hsz]; exact Heap.get?_push_size _ rfl
 have keep:∀ b o, s.heap.get? b = some o → b ≠ s.heap.objs.size + 1 ∧ (((s.heap.push (seqObj "list" #[] 0)).update s.heap.objs.size (Obj.mapSeq (· ++ vs.toArray))).push (seqObj "list" vs.toArray 0)).get? b = some o := fun b o q => by
  have hlt:b < s.heap.objs.size := Heap.lt_size q
  refine ⟨nz7 (Nat.lt_succ_of_lt hlt), Heap.get?_push_of_some _ ?_⟩
  rw [Heap.get?_update_ne _ _ _ _ (nz7 hlt)]
  exact Heap.get?_push_of_some _ q
 show wpAny _ _ _ _ _ { s with heap := ((s.heap.push (seqObj "list" #[] 0)).update s.heap.objs.size (Obj.mapSeq (· ++ vs.toArray))).push (seqObj "list" vs.toArray 0) }
 rw [hsz]
 refine wpAny_bind (wpAny_holding (wpAny_call_entry_kw slot_list_sort ⟨_, hoL, rfl⟩ entry_list_sort ?_ (ksk_l1 _ _)))
 rw [ksk_t1]
 refine i7 (s := { s with heap := ((s.heap.push (seqObj "list" #[] 0)).update s.heap.objs.size (Obj.mapSeq (· ++ vs.toArray))).push (seqObj "list" vs.toArray 0) }) hoL h64 fun e1 kS h' k1 k2 k3 k4 k5 => ?_
 have hDk:s.heap.objs.size + 1 < kS := by
  have:(((s.heap.push (seqObj "list" #[] 0)).update s.heap.objs.size (Obj.mapSeq (· ++ vs.toArray))).push (seqObj "list" vs.toArray 0)).objs.size = s.heap.objs.size + 2 := by rw [size_push', hsz]
  have k4':s.heap.objs.size + 2 ≤ kS := by rw [← this]; exact k4
  (clear k5 k4 k3 k2 k1 keep hoL hsz h h64 hl; omega)
 have hh := h (s.heap.objs.size + 1) e1 kS h' (fun b o q => k1 b o (keep b o q).1 (keep b o q).2) k2 k3 (Nat.le_succ _) hDk k5
 have mono:∀ (r l:List Value) (s1:Shared), dt prog w A.in1.in1 (.ref q) kS (d7 prog w A.in1.in1 (s.heap.objs.size + 1) e1 kS vs fun f s' => Q (.ref (s.heap.objs.size + 1)) s') r l s1 →
   dt prog w A.in1.in1 (.ref q) kS (d7 prog w A.in1.in1 (s.heap.objs.size + 1) e1 kS vs fun fin s' => ∃ v, fin = .done (.ret v) ∧ wpAny (model prog w) A.in1 (ret (.ref (s.heap.objs.size + 1))) (fun fin s' => ∃ v, fin = .done (.ret v) ∧ Q v s') E s') r l s1 := by
  intro r
  induction r with
  | nil => exact fun l s1 zq => oq02 zq fun z0 zz => oq24 zz fun κ c z1 z2 z3 z4 => ⟨z0, κ, c, z1, z2, z3, fun p a1 a2 => (oi12 _ rfl (wpAny_pure (oi12 _ rfl (z4 p a1 a2))))⟩
  | cons x r ih => exact fun l s1 z => wpAny_mono z (fun k s2 z2 => ⟨z2.1, ih _ _ z2.2⟩) fun _ _ z => z
 exact mono _ _ _ hh
end
noncomputable def tSortKW (K:PySem.W.Frag) (P:Addr) (cap:List (Str × Nat)) (te tb:TE):TE := fun σ H Q => te σ H fun v H1 => ∃ p vs, v = .ref p ∧ SqL K H1 p vs ∧ vs.length < 1000000 ∧ TbG H1 ∧
 ∀ H2 c, TbSt P H1 H2 → H2 c = some (.ext (aL c (Kon.Q P))) → hW (fun σ H Q => H c = some (.ext (aL c (Kon.Q P))) ∧ tb σ H Q) (fun x => cW x cap σ) (m9 vs Q) vs [] H2
section
variable {X:Cx} {A:Around} {pins:List (Addr × Obj)} {σ:St} {H:Hp} {s:Shared} {x:Str} {cap:List (Str × Nat)} {scope:Scope} {cl:List (Str × Addr)} {f:Addr} {cd:Value}
theorem mf {D kS:Addr} {e e1:Nat} {ks vs:List V} {kvs its:List Value} {Q:VK} {P':List (Addr × Obj)} (I:Inv X ((kS, seqObj "list" (List.toArray kvs) e) :: (D, seqObj "list" #[] e1) :: pins) σ H s) (hDk:D < kS) (hz:X.s₀.heap.objs.size ≤ D)
  (hpn:∀ p ∈ X.pn ++ pins, p.1 ≠ kS ∧ p.1 ≠ D) (h64:vs.length < 1000000) (rk:Vals ks kvs) (rv:Vals vs its) (h:m9 vs Q ks H):d7 X.prog X.w A D e1 kS its (fun _ s' => EP X pins σ Q (.ref D) s') kvs s := by
 refine oq14 h fun ps hP hl hnd q => ?_
 have pk := I.pin (kS, seqObj "list" (List.toArray kvs) e) (by simp)
 have pd := I.pin (D, seqObj "list" #[] e1) (by simp)
 have l1 := rk.length
 have l2 := rv.length
 have l3 := hP.length
 have pa := Vals.pairs I rk hP
 have el:its.length = ps.length := by exact Nat.le_antisymm (nz4 (nz3 l2.symm) (nz4 (nz3 hl.symm) (nz3 l3))) (nz4 (nz3 l3.symm) (nz4 (nz3 hl) (nz3 l2)))
 refine ⟨pd.1, tuples' true, fun i j => Pu.lt2 (ps.getD i (0, 0)) (ps.getD j (0, 0)), by rw [el]; exact iZ hnd, fun h2 Q' hq => ?_, fun i j C hi hj hC => iY pa (by exact nz1 hi (nz4 (nz3 l2.symm) (nz4 (nz3 hl.symm) (nz3 l1)))) (by exact nz1 hj (nz4 (nz3 l2.symm) (nz4 (nz3 hl.symm) (nz3 l1)))) hC, fun p1 a1 u1 => ?_⟩
 ·refine oq13 pa.tups fun fs g1 g2 g3 => ?_
  refine PySem.W.kat_kind (T := .type "int") g1 (by omega) (fun v hv => ?_) rfl hq
  refine oq21 (g3 v hv) fun i t eq2_ => ?_; subst eq2_
  exact .now
 ·rw [el] at a1 u1
  have eu := up_srt hnd a1 u1
  have hlt:∀ i ∈ p1.toList, i < ps.length := fun i hi => by
   have := a1.pm.subset hi
   simpa using this
  have neD:∀ b o, b ≠ kS → b ≠ D → s.heap.get? b = some o → ((s.heap.update kS (Obj.mapSeq fun _ => #[])).update D (Obj.mapSeq fun _ => bQ its p1)).get? b = some o := fun b o n1 n2 e => by
   rw [Heap.get?_update_ne _ _ _ _ n2, Heap.get?_update_ne _ _ _ _ n1]; exact e
  have hD1:(s.heap.update kS (Obj.mapSeq fun _ => (#[]:Array Value))).get? D = some (seqObj "list" #[] e1) := by rw [Heap.get?_update_ne _ _ _ _ (nz7 hDk)]; exact pd.1
  obtain ⟨e2, hD2⟩:∃ e2, ((s.heap.update kS (Obj.mapSeq fun _ => #[])).update D (Obj.mapSeq fun _ => bQ its p1)).get? D = some (seqObj "list" (bQ its p1) e2) := ⟨_, get?_update_seq hD1 fun _ => bQ its p1⟩
  have unt:∀ b o, H b = some o → b ≠ kS ∧ b ≠ D := fun b o z => ⟨ao z pk.2.1, ao z pd.2.1⟩
  have noc:∀ y c, X.env.cells.lookup y = some c → c ≠ kS ∧ c ≠ D := fun y c z => by
   refine oq22 (I.cell y c z) fun v ob ho hd => ?_
   refine ⟨fun w => ?_, fun w => ?_⟩
   ·rw [w] at ho; exact pk.2.2.2.2 v (by rw [← Option.some.inj (ho.symm.trans pk.1)]; exact hd)
   ·rw [w] at ho; exact pd.2.2.2.2 v (by rw [← Option.some.inj (ho.symm.trans pd.1)]; exact hd)
  have I0:Inv X pins σ H s := I.pins_of fun p hp => I.pin p (List.mem_append_right _ (List.mem_cons.mpr (.inr (List.mem_cons.mpr (.inr hp)))))
  have I1:Inv X pins σ (upd H D (.lst (p1.toList.map fun i => vs.getD i .non))) { s with heap := (s.heap.update kS (Obj.mapSeq fun _ => #[])).update D (Obj.mapSeq fun _ => bQ its p1) } := by
   refine I0.step (g' := s.gens) (d' := s.drawn) (t' := s.toks) (ch := [kS, D]) (fun b hb => ?_) (fun b o _ _ hc e _ => neD b o (fun z => hc (by simp [z])) (fun z => hc (by simp [z])) e) (fun b o _ _ hc e _ => ⟨o.slots, neD b o (fun z => hc (by simp [z])) (fun z => hc (by simp [z])) e⟩)
    (fun b o hc _ n => by rw [ac fun z => hc (by simp [z])]; exact n) (fun b o hc e => ⟨o, neD b o (fun z => hc (by simp [z])) (fun z => hc (by simp [z])) e⟩) (fun b xs z => by rw [ac (unt b _ z).2]; exact z) (fun b o u z => by rw [ac (unt b _ z).2]; exact z) (fun b ps z => ⟨#[], by rw [ac (unt b _ z).2, z]; simp⟩) (fun m hm => ?_) (fun a o z => ?_) I.bare
   ·have hb:b = kS ∨ b = D := by simpa using hb
    rcases hb with rfl | rfl
    ·exact (oi04 (.inr (nz4 hz (nz5 hDk))) pk.2.2.1 (fun y c z => (noc y c z).1) (fun p hp => (hpn p hp).1))
    ·exact (oi04 (.inr hz) pd.2.2.1 (fun y c z => (noc y c z).2) (fun p hp => (hpn p hp).2))
   ·refine oq32 hm fun o es ep ho r => ?_
    exact ⟨o, es, ep, neD _ o (Ne.symm pk.2.2.1) (Ne.symm pd.2.2.1) ho, r⟩
   ·by_cases w:a = D
    ·subst w
     rw [ai] at z
     cases z
     refine ⟨by rw [List.length_map, Array.length_toList, a1.sz, sizeLine_eq]; exact nz5 (nz2 (nz3 l3.symm) (nz2 (nz3 hl) (nz8 h64 (by decide)))), p1.toList.map fun i => its.getD i Value.none, e2, bf fun i hi => eX rv (by have := hlt i hi; exact nz1 this (nz4 (nz3 l3.symm) (nz3 hl))), hD2⟩
    ·rw [ac w] at z
     refine (I.hok a o z).stay (fun b u hb e => ?_) (fun b z => by rw [ac (unt b _ z).2]; exact z) fun b xs z => by rw [ac (unt b _ z).2]; exact z
     rcases hb with rfl | hb
     ·exact neD _ _ (unt _ _ z).1 (unt _ _ z).2 e
     ·exact neD _ _ (unt _ _ hb).1 (unt _ _ hb).2 e
  exact ⟨.ref D, _, I1, rfl, q D _ pd.2.1 (fun i hi => by have := hlt i hi; exact nz1 this (nz4 (nz3 l3.symm) (nz3 hl))) eu⟩
open PySem.W in
theorem pe_sortKW {P c:Addr} {params:Arguments} {body e:Expr} {p pos kpos lpos:Pos} {te tb:TE} (he:PE X e te) (hr:Room 3 X.A) (hm:X.mg "sorted" = none) (bm:BM X.mg X.base) (hC:codeHdIn X.K c P = true) (hT:P ∈ Kon.T) (hq:Kon.Q P = X.env.qual ++ "<lambda>") (hcode:X.env.code = .ref c)
  (S:LamScope X x cap scope) (hb:∀ cl pm cd ct u, bindArgs (kla_fn "<lambda>" (Kon.Q P) params body scope cl pm cd ct) ⟨[u], []⟩ = pure [(x, u)])
  (hp:∀ f cd cl s H, PE (g9 X X.A.in1.in1 (x :: cap.map (·.1)) (Kon.Q P) scope f cd cl s H) body tb) (hg:Gl X "sorted" := by rfl) (hdef:defaultsOf params X.env = ([], []) := by rfl)
  (hst:starEach [e] X.env = (false, eval e X.env) :: starEach [] X.env := by rfl) (hpl:(backTo pos (starEach [e] X.env)).any (·.1) = false := by rfl) :
  PE X (.Call (.Name "sorted" p) [e] [⟨some "key", .Lambda params body scope lpos, kpos⟩] pos) (tSortKW X.K P cap te tb) := by
 intro pins s σ H Q I h
 refine wpAny_Call_Name_kw (cN I hg hm fJ ?_)
 refine PyProof.Rows.callWith_kw ?_ (by rw [hst]; rfl) hpl
 have h1:(aH te tNil) σ H fun xs H1 => match xs with
  | [v] => ∃ p vs, v = .ref p ∧ SqL X.K H1 p vs ∧ vs.length < 1000000 ∧ TbG H1 ∧ ∀ H2 c, TbSt P H1 H2 → H2 c = some (.ext (aL c (Kon.Q P))) → hW (fun σ H Q => H c = some (.ext (aL c (Kon.Q P))) ∧ tb σ H Q) (fun x => cW x cap σ) (m9 vs Q) vs [] H2
  | _ => False := h
 refine thn (a7 he aa hst pos pins s σ H _ I h1) ?_
 intro us s1 zq; refine oq23 zq fun vv H1 I1 r q => ?_
 show wpAny _ _ (evalAll ((do let v ← eval (.Lambda params body scope lpos) X.env; standAt pos; pure v) :: [])) _ _ s1
 match vv, q with
 | [v], q =>
  obtain ⟨l, vs, rfl, hS, h64, tg, q⟩ := q
  obtain ⟨u, rfl, ru⟩ := vals1 r
  cases ru
  refine wpAny_evalAll_cons (wpAny_bind (mk_lam (P := P) I1 S tg hT hq hcode hC bm hdef fun f cl pm c' ctv H2 s2 I2 ts hc' CL => wpAny_bind (wpAny_standAt (wpAny_pure (wpAny_evalAll_nil ?_)))))
  show wpAny _ _ (call (.builtin "sorted") [.ref l] [(Str.ofString "key", .ref f)]) _ _ s2
  obtain ⟨its, rv, ht, hz⟩ := I2.list (ts.sm.seq hS)
  have lv := rv.length
  refine kP ht.isList (by exact nz2 (nz3 lv.symm) h64) fun D e1 kS h' k1 k2 k3 k4 k5 k6 => ?_
  have I3:Inv X ((f, kla_obj "<lambda>" (Kon.Q P) params body scope cl pm c' ctv) :: pins) σ H2 { s2 with heap := h' } := I2.kept (t' := s2.toks) k1
  have big:∀ b, s2.heap.objs.size ≤ b → H2 b = none ∧ b ≠ X.env.locals ∧ b ∉ X.fs := fun b hb => (oi03 (I2.hok.fresh hb) (Nat.ne_of_gt (nz1 I2.lt hb)) (I2.nofs hb))
  have I4 := I3.addPin (f := D) (o := seqObj "list" #[] e1) k2 (big D k4).1 (big D k4).2.1 (big D k4).2.2 fun v z => nomatch z
  have k4':s2.heap.objs.size ≤ kS := nz4 k4 (nz5 k5)
  have I5 := I4.addPin (f := kS) (o := seqObj "list" #[] 0) k3 (big kS k4').1 (big kS k4').2.1 (big kS k4').2.2 fun v z => nomatch z
  have old:∀ p ∈ X.pn ++ ((f, kla_obj "<lambda>" (Kon.Q P) params body scope cl pm c' ctv) :: pins), p.1 < s2.heap.objs.size := fun p hp => Heap.lt_size (I2.pin p hp).1
  have hpn:∀ p ∈ X.pn ++ ((D, seqObj "list" #[] e1) :: (f, kla_obj "<lambda>" (Kon.Q P) params body scope cl pm c' ctv) :: pins), p.1 ≠ kS := fun p hp => by
   rcases List.mem_append.mp hp with hp | hp
   ·exact nz7 (nz1 (old p (List.mem_append_left _ hp)) k4')
   ·rcases List.mem_cons.mp hp with rfl | hp
    ·exact nz7 k5
    ·exact nz7 (nz1 (old p (List.mem_append_right _ hp)) k4')
  refine kI (A := X.A.in1.in1) (oD := seqObj "list" #[] e1) S CL I.ok.frames hr.hd (by have := hr.dp; show X.A.depth < _; omega) hb hp (nz4 I2.sz k4') hpn (fun e2 ks kvs H3 s3 J rk hk => ?_) vs its [] [] 0 H2 _ I5 rv .nil (q H2 c' ts hc')
  have K := mf (A := X.A.in1.in1) (pins := (f, kla_obj "<lambda>" (Kon.Q P) params body scope cl pm c' ctv) :: pins) (P' := pins) J k5 (nz4 I2.sz k4) (fun p hp => ⟨nz7 (nz1 (old p hp) k4'), nz7 (nz1 (old p hp) k4)⟩) h64 rk rv hk
  refine oq02 K fun z0 zz => oq24 zz fun κ cc z1 z2 z3 z4 => ?_
  refine ⟨z0, κ, cc, z1, z2, z3, fun p a1 a2 => ?_⟩
  refine oq23 (z4 p a1 a2) fun v9 H9 I9 r9 q9 => ?_
  exact ⟨v9, H9, I9.pins_of fun p hp => I9.pin p (List.mem_append_right _ (List.mem_cons.mpr (.inr hp))), r9, q9⟩
end
section
variable {Γ:List Slot} {te tb:TE} {K:PySem.W.Frag} {P:Addr} {cap:List (Str × Nat)}
theorem mh {o:Option (List Int)} {g:Int → Option (Int × Int)} {x:Str} (hc:(cap.map (·.2)).Nodup) (h:EV Γ te o (rL rInt)) (hb:∀ a, EV ((csl [x] cap Γ).set 0 (.fr rInt a)) tb (g a) (rT2 rInt rInt)):EVL Γ (tSortKW K P cap te tb) (o.bind fun xs => Pu.jI g xs) rInt := by
 intro C F σ H Q xs S e k
 refine oq12 (a9 e) fun ns e1 e => ?_
 unfold Pu.jI at e
 refine oq12 (a9 e) fun ps e2 e => ?_
 split at e
 ·rename_i hh
  refine oq02 hh fun h64 hnd => ?_
  cases e
  have hl := Pu.hV e2
  refine h C F σ H _ ns S e1 fun v F1 H1 x1 zq => oq23 zq fun p vs e3 h1 h2 => ?_
  have ev := cB h2
  subst ev
  refine (oi25 p _ e3 (.inl (x1.sub.rd h1)) (by rw [List.length_map]; exact h64) ((S.grow x1).tg) (fun H2 c ts h0 => ?_))
  have x2 := ts.ext (S.grow x1).sub (S.grow x1).nt
  refine key_ev (ps := ps) hc hb (fun F' H' ks x3 hk => ?_) ns [] [] ps F1 H2 ((S.grow x1).grow x2) (x1.trans x2) h0 .nil e2 rfl
  refine ⟨ps, Paired.imp2 (fun _ _ z => Rp.mono _ x3.sub z) hk, by rw [hk.length, List.length_map, hl], hnd, fun q ix hq hi hx => ?_⟩
  rw [List.length_map] at hi
  refine k q _ F' H' x3 hq ?_
  rw [← Pu.srtK_of hl hnd hi hx]
  refine bf fun i hi' => ?_
  have := hi i hi'
  show (ns.map V.int).getD i .non = .int (ns.getD i 0)
  simp [this]
 ·cases e
end
end L2
namespace Pu
end Pu
namespace L2
open PySem PySem.Spec PyProof.Rows
section
variable {prog:Program} {w:World} {A:Around} {E:Value → Shared → Prop} {s:Shared} {I S:Addr} {fp wr:List Addr} {n:Nat} {P:Nat → Value → Prop} {Sx:Nat → Heap → Prop} {g:Heap} {R:Result → Shared → Prop} {bt:Nat → Nat → Bool}
noncomputable abbrev Std (g h:Heap):Prop := ∀ b o, g.get? b = some o → h.get? b = some o
theorem Std.on {h h':Heap} (k:Std g h) (fw:∀ b ∈ wr, g.get? b = none) (fs:g.get? S = none) (q:∀ b o, b ∉ wr → b ≠ S → h.get? b = some o → h'.get? b = some o):Std g h' := fun b o e =>
 q b o (fun z => nomatch (fw b z).symm.trans e) (fun z => nomatch (z ▸ fs).symm.trans e) (k b o e)
theorem minT_go (W:PySem.Walks prog w A.in1 I fp wr n P Sx) (nS:S ∉ fp) (fw:∀ b ∈ wr, g.get? b = none) (fs:g.get? S = none)
  (ask:∀ i j x y (s:Shared) (Q:Value → Shared → Prop) (E:Value → Shared → Prop), Std g s.heap → P i x → P j y → Q (.bool (bt i j)) s → wpAny (model prog w) A.in1 (richCompare .Lt x y) Q E s) :
  ∀ (k j:Nat) (s:Shared) (x:Value) (c:Nat), j + 1 + k = n → Std g s.heap → Sx (j + 1) s.heap → P (argBest bt j) x → s.heap.get? S = some (seqObj "list" #[x, x] c) →
   (∀ v h' tk, P (argBest bt (n - 1)) v → (∀ b o, b ∉ wr → b ≠ S → s.heap.get? b = some o → h'.get? b = some o) → R (.ok (.ret v)) { s with heap := h', toks := tk }) →
   codeAny (model prog w) A (.builtin "min.loop" ⟨[.ref I, .none, .ref S], []⟩) R s := by
 have nW:S ∉ wr := fun h => nS (W.sub _ h)
 have nm:(toString "min" ++ toString ".loop":String) = "min.loop" := by decide
 intro k
 induction k with
 | zero =>
  intro j s x c hj sg st px hS fin
  have e:j + 1 = n := hj
  refine codeAny_builtin PySem.F.entry_min_loop (Around.under_plainId PySem.F.plain_min_loop _ ▸ ?_)
  show wpAny _ A.in1 (seqItems? (.ref S) >>= _) _ _ _
  refine wpAny_bind (wpAny_seqItems hS rfl (wpAny_bind (wpAny_tryCatch (W.done s _ _ (e ▸ st) fun h' tk kp => ?_))))
  have hS' := kp S _ nW hS
  refine wpAny_bind (wpAny_updateSeq hS' rfl (wpAny_bind (wpAny_letGo (wpAny_pure ?_))))
  refine fin x _ tk (by rw [← e]; exact px) fun b o q1 q2 z => ?_
  rw [Heap.get?_update_ne _ _ _ _ q2]; exact kp b o q1 z
 | succ k ih =>
  intro j s x c hj sg st px hS fin
  have lt:j + 1 < n := by omega
  refine codeAny_builtin PySem.F.entry_min_loop (Around.under_plainId PySem.F.plain_min_loop _ ▸ ?_)
  show wpAny _ A.in1 (seqItems? (.ref S) >>= _) _ _ _
  refine wpAny_bind (wpAny_seqItems hS rfl (wpAny_bind (wpAny_tryCatch (W.item (j + 1) s _ _ lt st fun v h' tk pv st' kp => ?_))))
  have hS' := kp S _ nW hS
  have sg':Std g h' := sg.on (S := S) fw fs fun b o q1 _ z => kp b o q1 z
  show wpAny _ A.in1 (tryCatch (holding [v, v] (richCompare .Lt v x >>= _)) _ >>= _) _ _ _
  refine wpAny_bind (wpAny_tryCatch (wpAny_holding (wpAny_bind (ask (j + 1) (argBest bt j) v x _ _ _ sg' pv px (wpAny_bind (wpAny_holding (wpAny_truthy_bool (wpAny_bind (wpAny_letGo (wpAny_pure ?_))))))))))
  cases e:bt (j + 1) (argBest bt j) with
  | true =>
   obtain ⟨c2, hc2⟩:∃ c2, (h'.update S (Obj.mapSeq fun _ => #[v, v])).get? S = some (seqObj "list" #[v, v] c2) := ⟨_, get?_update_seq hS' fun _ => #[v, v]⟩
   have kp2:∀ b o, b ∉ wr → b ≠ S → s.heap.get? b = some o → (h'.update S (Obj.mapSeq fun _ => #[v, v])).get? b = some o := fun b o q1 q2 z => by
    rw [Heap.get?_update_ne _ _ _ _ q2]; exact kp b o q1 z
   simp only [if_true]
   refine wpAny_bind (wpAny_updateSeq hS' rfl (wpAny_bind (wpAny_letGo ?_)))
   rw [nm]
   refine wpAny_pure ⟨plainId_quiet PySem.F.plain_min_loop _, ih (j + 1) _ v c2 (by omega) (sg.on fw fs kp2) (W.frame _ _ _ st' fun b hb o z => ?_) (by simp only [argBest, e, if_true]; exact pv) hc2 fun v2 h2 tk2 p2 kp3 => ?_⟩
   ·have nb:b ≠ S := fun q => nS (q ▸ hb)
    show (h'.update S (Obj.mapSeq fun _ => #[v, v])).get? b = some o
    rw [Heap.get?_update_ne _ _ _ _ nb]; exact z
   ·exact fin v2 h2 tk2 p2 fun b o q1 q2 z => kp3 b o q1 q2 (kp2 b o q1 q2 z)
  | false =>
   simp only [Bool.false_eq_true, if_false]
   refine wpAny_bind (wpAny_letGo ?_)
   rw [nm]
   refine wpAny_pure ⟨plainId_quiet PySem.F.plain_min_loop _, ih (j + 1) _ x c (by omega) sg' st' (by simp only [argBest, e, Bool.false_eq_true, if_false]; exact px) hS' fun v2 h2 tk2 p2 kp3 => ?_⟩
   exact fin v2 h2 tk2 p2 fun b o q1 q2 z => kp3 b o q1 q2 (kp b o q1 z)
end
section
variable {X:Cx} {K:PySem.W.Frag}
end
section
variable [Kon] {Γ:List Slot} {ta:TE} {K:PySem.W.Frag}
end
section
variable [Kon] {Γ:List Slot} {T α β:Type} {r:Rp α} {q:Rp β} {ta tb:TE} {oa:Option α} {ob:Option β} {u:TS} {fin:Fc → T → Ends → Prop}
theorem bv_par {f:α → β → Option T} (i j:Nat) (ha:EV Γ ta oa r) (hb:EV Γ tb ob q) (h:∀ a b, BV ((Γ.set i (.fr r a)).set j (.fr q b)) u (f a b) fin):BV Γ (tSeq (tPar i j (aH ta (aH tb tNil))) u) (oa.bind fun a => ob.bind fun b => f a b) fin := by
 intro C F σ H D x S e k
 refine oq12 (a9 e) fun a e1 e => oq12 (a9 e) fun b e2 e => ?_
 exact ha C F σ H _ a S e1 fun v F1 H1 x1 r1 => hb C F1 σ H1 _ b (S.grow x1) e2 fun w F2 H2 x2 r2 => ⟨v, w, rfl, h a b C F2 _ H2 D x ((((S.grow x1).grow x2).setF i (r.mono x2.ff r1)).setF j r2) e k⟩
end
noncomputable def mi:List Expr → List Int → Bool
 | [], [] => true
 | .Constant (.int i) _ _ :: es, n :: ns => decide (i = n) && mi es ns
 | _, _ => false
noncomputable def tInts (ns:List Int):TA := fun _ H Q => Q (ns.map V.int) H
theorem pa_ints {X:Cx}:∀ {es:List Expr} {ns:List Int}, mi es ns = true → PA X es (tInts ns)
 | [], [], _ => aa
 | .Constant (.int i) j p :: es, n :: ns, h => by
  have h':(decide (i = n) && mi es ns) = true := h
  rw [Bool.and_eq_true, decide_eq_true_eq] at h'
  have e := h'.1
  subst e
  exact a7 (ae (j := j) (pos := p)) (pa_ints h'.2)
theorem evl_ints [Kon] {Γ:List Slot} (ns:List Int) (h:ns.length ≤ 1000):EVL Γ (tLst (tInts ns)) (some ns) rInt := by
 intro C F σ H Q xs S e k
 cases e
 exact ⟨by rw [List.length_map, sizeLine_eq]; omega, fun q hq => k q _ F H (Ext.refl S.sub) hq (paired_ints _)⟩
end L2
namespace Pu
open PySem
end Pu
namespace L2
open PySem PySem.Spec PyProof.Rows
section
variable {X:Cx} {K:PySem.W.Frag}
end
section
variable [Kon] {Γ:List Slot} {ta tb:TE} {K:PySem.W.Frag} {oa ob:Option Str} {oi:Option Int}
end
end L2
namespace L2
open PySem PySem.Spec PyProof.Rows
variable [Kon]
section
variable {Γ:List Slot} {C:Fc} {F H:Hp} {σ:St} {q:Addr} {i g:Nat} {row:List Int} {tail rows:List (List Int)}
end
section
variable {Γ:List Slot} {β:Type} {s:Rp β} {tb:TE} {ob:Option β} {q:Addr} {row:List Int} {tail rows:List (List Int)}
end
section
variable {Γ:List Slot} {T:Type} {te:TE} {u:TS} {fin:Fc → T → Ends → Prop} {K:PySem.W.Frag} {rows:List (List Int)} {φ:Addr → Prop}
end
end L2
namespace Pu
noncomputable def i8 (ps:List (Int × Int)):Option (List (Int × Int)) := if ps.length < 1000000 ∧ ps.Nodup then some (srtP ps) else none
end Pu
namespace L2
open PySem PySem.Spec PyProof.Rows
variable [Kon]
section
variable {prog:Program} {w:World} {A:Around} {E:Value → Shared → Prop} {s:Shared} {κ:SortKind} {c:Nat → Nat → Bool} {vs:List Value}
open PySem.W
theorem du {a:Addr} {n:Nat} {P:PySem.Fin → Shared → Prop} (ho:s.heap.get? a = some (seqObj "list" vs.toArray n)) (h64:vs.length < 1000000) (L:Srt.Lin c vs.length)
  (hk:2 ≤ vs.length → ∀ h':Heap, (∀ b o, b ≠ a → s.heap.get? b = some o → h'.get? b = some o) → ∀ Q':SortKind → Shared → Prop, Q' κ { s with heap := h' } → wpAny (model prog w) A (keyKind' vs.toArray) Q' E { s with heap := h' })
  (hc:∀ h':Heap, (∀ b o, b ≠ a → s.heap.get? b = some o → h'.get? b = some o) → ∀ i j C, i < vs.length → j < vs.length → C (c i j) { s with heap := h' } → kas_ask prog w A κ vs i j C { s with heap := h' })
  (h:∀ p, Srt.Arr vs.length p → Srt.Up c p vs.length → P (.done (.ret .none)) { s with heap := sortedHeap s.heap a vs (bQ vs p) }) :
  wpAny (model prog w) A (Builtin.«list.sort» ⟨[.ref a], []⟩) P E s := by
 have ha:a < s.heap.objs.size := Heap.lt_size ho
 obtain ⟨e1, ho1⟩:∃ e1, (s.heap.update a (Obj.mapSeq fun _ => (#[]:Array Value))).get? a = some (seqObj "list" #[] e1) := ⟨_, get?_update_seq ho (fun _ => #[])⟩
 generalize hh3:((s.heap.update a (Obj.mapSeq fun _ => (#[]:Array Value))).push (seqObj "tuple" vs.toArray 0)).push (seqObj "list" #[] 0) = h3
 have ho6:h3.get? a = some (seqObj "list" #[] e1) := by
  rw [← hh3]; exact Heap.get?_push_of_some _ (Heap.get?_push_of_some _ ho1)
 have keep:∀ b o, b ≠ a → s.heap.get? b = some o → h3.get? b = some o := fun b o nb q => by
  rw [← hh3]
  refine Heap.get?_push_of_some _ (Heap.get?_push_of_some _ ?_)
  rw [Heap.get?_update_ne _ _ _ _ nb]; exact q
 have fin:∀ p, Srt.Arr vs.length p → Srt.Up c p vs.length → P (.done (.ret .none)) { s with heap := h3.update a (Obj.mapSeq fun _ => bQ vs p) } := fun p a1 a2 => by
  rw [← hh3]; exact h p a1 a2
 rw [list_sort_plain]
 refine wpAny_bind (listItems_at ho rfl ?_)
 refine wpAny_bind (listUpdate_at ho rfl ?_ (by rw [List.size_toArray, sizeLine_eq]; exact nz5 (nz8 h64 (by decide))) (Nat.zero_le _))
 refine wpAny_bind (seqEpoch_at ho1 rfl ?_)
 refine wpAny_bind (wpAny_newTuple ?_ (by show vs.length ≤ _; rw [sizeLine_eq]; exact nz5 (nz8 h64 (by decide))))
 refine wpAny_bind (wpAny_newList ?_ (Nat.zero_le _))
 refine wpAny_holding ?_
 show wpAny (model prog w) A _ P E { s with heap := ((s.heap.update a (Obj.mapSeq fun _ => (#[]:Array Value))).push (seqObj "tuple" vs.toArray 0)).push (seqObj "list" #[] 0) }
 rw [hh3]
 dsimp only
 have hsz:vs.toArray.size = vs.length := by simp
 by_cases h2:vs.toArray.size < 2
 ·rw [if_pos h2, if_pos h2]
  refine wpAny_bind (wpAny_pure ?_)
  rw [StateT.run_pure]
  refine wpAny_bind (wpAny_pure ?_)
  dsimp only
  refine wpAny_bind (seqEpoch_at ho6 rfl ?_)
  refine wpAny_bind (listUpdate_at ho6 rfl ?_ (Nat.zero_le _) (by rw [Array.size_map]; show (pairsOf vs).size ≤ _; rw [pairsOf_size, sizeLine_eq]; exact Nat.le_succ_of_le (nz5 (nz8 h64 (by decide)))))
  simp only [bne_self_eq_false, Bool.false_eq_true, if_false]
  have ep:(arrOf (SortSt.mk' general' (vs.toArray.zip vs.toArray) #[] 7 none)).map (·.2) = bQ vs (List.toArray (List.range vs.length)) := by
   have e := kas_range (pairsOf vs)
   rw [pairsOf_size] at e
   show (pairsOf vs).map (·.2) = _
   conv => lhs; rw [← e]
   unfold bQ
   apply Array.toList_inj.mp
   rw [Array.map_map, Array.toList_map]
   exact List.map_congr_left fun i _ => by show (kas_item (pairsOf vs) i).2 = _; rw [kas_item_eq]
  refine wpAny_pure ?_
  rw [ep]
  exact fin _ ⟨by simp, by simp⟩ fun i j hij hj => by omega
 ·rw [if_neg h2, if_neg h2]
  have h2':2 ≤ vs.length := by exact nz4 (Nat.not_lt.mp h2) (nz3 hsz)
  refine wpAny_bind (hk h2' h3 keep _ ?_)
  refine wpAny_bind (wpAny_mono (tim_run (s := { s with heap := h3 }) (ks := vs) (κ := κ) rfl L (hc h3 keep)) ?_ fun _ _ e => e)
  rintro ⟨⟨⟩, st'⟩ s' ⟨rfl, p, b1, b2, b3, b4⟩
  dsimp only
  have hout:(arrOf st').map (·.2) = bQ vs p := kat_snds rfl b3
  rw [hout]
  refine wpAny_bind (seqEpoch_at ho6 rfl ?_)
  refine wpAny_bind (listUpdate_at ho6 rfl ?_ (Nat.zero_le _) (by rw [hO, b1.sz, sizeLine_eq]; exact Nat.le_succ_of_le (nz5 (nz8 h64 (by decide)))))
  rw [b4]
  simp only [bne_self_eq_false, Bool.false_eq_true, if_false]
  exact wpAny_pure (fin p b1 b2)
theorem kQ {l:Addr} {Q:Value → Shared → Prop} (hl:s.heap.IsList l vs.toArray) (h64:vs.length < 1000000) (L:Srt.Lin c vs.length)
  (hk:2 ≤ vs.length → ∀ h':Heap, (∀ b o, s.heap.get? b = some o → h'.get? b = some o) → ∀ Q':SortKind → Shared → Prop, Q' κ { s with heap := h' } → wpAny (model prog w) A.in1.in1 (keyKind' vs.toArray) Q' E { s with heap := h' })
  (hc:∀ h':Heap, (∀ b o, s.heap.get? b = some o → h'.get? b = some o) → ∀ i j C, i < vs.length → j < vs.length → C (c i j) { s with heap := h' } → kas_ask prog w A.in1.in1 κ vs i j C { s with heap := h' })
  (h:∀ p, Srt.Arr vs.length p → Srt.Up c p vs.length → Q (.ref (s.heap.objs.size + 1)) { s with heap := sortedAll s.heap vs (bQ vs p) }) :
  wpAny (model prog w) A (call (.builtin "sorted") [.ref l]) Q E s := by
 refine Calls.call_function_entry kind_sorted plain_sorted entry_sorted (args_sorted1 _) ?_
 unfold Builtin.«sorted»
 refine wpAny_bind (m := checkCount "sorted" 1 1 _) (wpAny_pure ?_)
 refine wpAny_bind (collect_list hl ?_ (by rw [sizeLine_eq]; exact nz5 (nz8 h64 (by decide))))
 refine wpAny_bind (wpAny_newList ?_ (by rw [sizeLine_eq]; exact nz5 (nz8 h64 (by decide))))
 have hsz:((s.heap.push (seqObj "list" #[] 0)).update s.heap.objs.size (Obj.mapSeq (· ++ vs.toArray))).objs.size = s.heap.objs.size + 1 := by
  rw [Heap.size_update, size_push']
 have hoL:(((s.heap.push (seqObj "list" #[] 0)).update s.heap.objs.size (Obj.mapSeq (· ++ vs.toArray))).push (seqObj "list" vs.toArray 0)).get? (s.heap.objs.size + 1) = some (seqObj "list" vs.toArray 0) := by
  rw [← hsz]; exact Heap.get?_push_size _ rfl
 have keep:∀ b o, s.heap.get? b = some o → b ≠ s.heap.objs.size + 1 ∧ (((s.heap.push (seqObj "list" #[] 0)).update s.heap.objs.size (Obj.mapSeq (· ++ vs.toArray))).push (seqObj "list" vs.toArray 0)).get? b = some o := fun b o q => by
  have hlt:b < s.heap.objs.size := Heap.lt_size q
  refine ⟨nz7 (Nat.lt_succ_of_lt hlt), Heap.get?_push_of_some _ ?_⟩
  rw [Heap.get?_update_ne _ _ _ _ (nz7 hlt)]
  exact Heap.get?_push_of_some _ q
 show wpAny _ _ _ _ _ { s with heap := ((s.heap.push (seqObj "list" #[] 0)).update s.heap.objs.size (Obj.mapSeq (· ++ vs.toArray))).push (seqObj "list" vs.toArray 0) }
 rw [hsz]
 refine wpAny_bind (wpAny_holding (wpAny_call_entry slot_list_sort ⟨_, hoL, rfl⟩ entry_list_sort
  (du (s := { s with heap := ((s.heap.push (seqObj "list" #[] 0)).update s.heap.objs.size (Obj.mapSeq (· ++ vs.toArray))).push (seqObj "list" vs.toArray 0) }) hoL h64 L
   (fun h2 h' k => hk h2 h' fun b o q => k b o (keep b o q).1 (keep b o q).2) (fun h' k => hc h' fun b o q => k b o (keep b o q).1 (keep b o q).2) fun p a1 a2 => (oi12 _ rfl ?_)) (args_list_sort _)))
 exact wpAny_pure (oi12 _ rfl (h p a1 a2))
end
section
variable {X:Cx} {K:PySem.W.Frag}
open PySem.W
end
section
variable {Γ:List Slot} {α β:Type} {ta tb:TE} {K:PySem.W.Frag}
end
end L2
namespace Pu
noncomputable def lt3 (a b:Int × Int × Int):Bool := decide (a.1 < b.1 ∨ a.1 = b.1 ∧ (a.2.1 < b.2.1 ∨ a.2.1 = b.2.1 ∧ a.2.2 < b.2.2))
noncomputable def le3 (a b:Int × Int × Int):Bool := decide (a.1 < b.1 ∨ a.1 = b.1 ∧ (a.2.1 < b.2.1 ∨ a.2.1 = b.2.1 ∧ a.2.2 ≤ b.2.2))
noncomputable def srtT (ps:List (Int × Int × Int)):List (Int × Int × Int) := ps.mergeSort le3
noncomputable def jJ (ps:List (Int × Int × Int)):Option (List (Int × Int × Int)) := if ps.length < 1000000 ∧ ps.Nodup then some (srtT ps) else none
theorem j1 (ps:List (Int × Int × Int)):(srtT ps).Perm ps := List.mergeSort_perm _ _
theorem le3_trans (a b c:Int × Int × Int) (h1:le3 a b = true) (h2:le3 b c = true):le3 a c = true := by
 unfold le3 at *; simp only [decide_eq_true_eq] at *; omega
theorem le3_total (a b:Int × Int × Int):(le3 a b || le3 b a) = true := by
 unfold le3; simp only [Bool.or_eq_true, decide_eq_true_eq]; omega
theorem gc (ps:List (Int × Int × Int)):(srtT ps).Pairwise fun a b => le3 a b = true := List.pairwise_mergeSort le3_trans le3_total ps
theorem kR {a b:Int × Int × Int} (h1:le3 a b = true) (h2:le3 b a = true):a = b := by
 unfold le3 at *; simp only [decide_eq_true_eq] at *
 obtain ⟨a1, a2, a3⟩ := a; obtain ⟨b1, b2, b3⟩ := b
 simp only at *
 have e1:a1 = b1 := by omega
 have e2:a2 = b2 := by omega
 have e3:a3 = b3 := by omega
 rw [e1, e2, e3]
end Pu
namespace L2
open PySem PySem.Spec PyProof.Rows
variable [Kon]
section
variable {X:Cx} {K:PySem.W.Frag}
open PySem.W
noncomputable def cL (h:Heap) (vs:List Value) (ps:List (Int × Int × Int)):Prop := Paired (fun v p => ∃ a o xs n t u w, v = Value.ref a ∧ h.get? a = some o ∧ o.cls = .type "tuple" ∧ o.data = .seq xs n ∧ xs = #[Value.int p.1 t, Value.int p.2.1 u, Value.int p.2.2 w]) vs ps
theorem cL.kept {h h':Heap} {vs:List Value} {ps:List (Int × Int × Int)} (p:cL h vs ps) (k:∀ b o, h.get? b = some o → h'.get? b = some o):cL h' vs ps := Paired.imp2 (fun _ _ ⟨a, o, xs, n, t, u, w, e1, e2, e3⟩ => ⟨a, o, xs, n, t, u, w, e1, k _ _ e2, e3⟩) p
theorem cL.tups {h:Heap}:∀ {vs:List Value} {ps:List (Int × Int × Int)}, cL h vs ps → ∃ fs, KatTups h vs fs ∧ fs.length = ps.length ∧ ∀ v ∈ fs, ∃ i t, v = Value.int i t
 | _, _, .nil => (oi13 ([]) trivial rfl (fun _ h => nomatch h))
 | _, _, .cons z r => by
  obtain ⟨a, o, xs, n, t, u, w, e1, e2, e3, e4, e5⟩ := z
  refine oq13 (cL.tups r) fun fs g1 g2 g3 => ?_
  subst e1 e5
  refine (oi13 (_ :: fs) (KatTups.cons e2 e3 e4 rfl g1) (by simp [g2]) (fun v hv => ?_))
  rcases List.mem_cons.mp hv with rfl | hv
  ·exact (oi21 _ _ rfl)
  ·exact g3 v hv
theorem ask_trips {prog:Program} {w:World} {A:Around} {s:Shared} {vs:List Value} {ps:List (Int × Int × Int)} (p:cL s.heap vs ps) {i j:Nat} {C:Bool → Shared → Prop} (hi:i < vs.length) (hj:j < vs.length) (h:C (Pu.lt3 (ps.getD i (0, 0, 0)) (ps.getD j (0, 0, 0))) s) :
  kas_ask prog w A (tuples' true) vs i j C s := by
 have hl:vs.length = ps.length := Paired.length p
 have at':∀ k, k < vs.length → ∃ a o xs n t u w, vs.getD k Value.none = Value.ref a ∧ s.heap.get? a = some o ∧ o.data = .seq xs n ∧ xs = #[Value.int (ps.getD k (0, 0, 0)).1 t, Value.int (ps.getD k (0, 0, 0)).2.1 u, Value.int (ps.getD k (0, 0, 0)).2.2 w] := fun k hk => by
  obtain ⟨y, e, a, o, xs, n, t, u, w, e1, e2, e3, e4, e5⟩ := c0 p (List.getElem?_eq_getElem hk)
  have h1:vs.getD k Value.none = vs[k] := by simp [hk]
  have h2:ps.getD k (0, 0, 0) = y := by simp [e]
  rw [h1, h2]
  exact ⟨a, o, xs, n, t, u, w, e1, e2, e4, e5⟩
 obtain ⟨a, o, xs, n, t, u, q, e1, e2, e3, e4⟩ := at' i hi
 obtain ⟨a', o', xs', n', t', u', q', f1, f2, f3, f4⟩ := at' j hj
 unfold kas_ask
 rw [e1, f1]
 generalize ps.getD i (0, 0, 0) = x at *
 generalize ps.getD j (0, 0, 0) = y at *
 subst e4 f4
 refine kat_lt e2 e3 f2 f3 ?_
 refine kat_cons (wpAny_eqBool_int ?_)
 by_cases h1:x.1 = y.1
 ·rw [show (x.1 == y.1) = true by simpa using h1]
  refine kat_yes ?_
  refine kat_cons (wpAny_eqBool_int ?_)
  by_cases h2:x.2.1 = y.2.1
  ·rw [show (x.2.1 == y.2.1) = true by simpa using h2]
   refine kat_yes ?_
   refine kat_cons (wpAny_eqBool_int ?_)
   by_cases h3:x.2.2 = y.2.2
   ·rw [show (x.2.2 == y.2.2) = true by simpa using h3]
    refine kat_yes (kat_nil ?_)
    have e:Pu.lt3 x y = false := by unfold Pu.lt3; rw [decide_eq_false_iff_not]; omega
    rw [e] at h
    exact h
   ·rw [show (x.2.2 == y.2.2) = false by simpa using h3]
    refine kat_no (kat_one _ _ ?_)
    refine lt_int ?_
    have e:Pu.lt3 x y = decide (x.2.2 < y.2.2) := by unfold Pu.lt3; rw [Bool.eq_iff_iff]; simp; omega
    rw [e] at h
    exact h
  ·rw [show (x.2.1 == y.2.1) = false by simpa using h2]
   refine kat_no (kat_one _ _ ?_)
   refine lt_int ?_
   have e:Pu.lt3 x y = decide (x.2.1 < y.2.1) := by unfold Pu.lt3; rw [Bool.eq_iff_iff]; simp; omega
   rw [e] at h
   exact h
 ·rw [show (x.1 == y.1) = false by simpa using h1]
  refine kat_no ?_
  refine oneLt_int ?_
  have e:Pu.lt3 x y = decide (x.1 < y.1) := by unfold Pu.lt3; rw [Bool.eq_iff_iff]; simp; omega
  rw [e] at h
  exact h
theorem lin_trips {ps:List (Int × Int × Int)} (hn:ps.Nodup):Srt.Lin (fun i j => Pu.lt3 (ps.getD i (0, 0, 0)) (ps.getD j (0, 0, 0))) ps.length := by
 refine ⟨fun i _ => ?_, fun i j k _ _ _ h1 h2 => ?_, fun i j hi hj hne h => ?_⟩
 ·unfold Pu.lt3; rw [decide_eq_false_iff_not]; omega
 ·unfold Pu.lt3 at *; rw [decide_eq_true_eq] at *; omega
 ·have ne:ps.getD i (0, 0, 0) ≠ ps.getD j (0, 0, 0) := by
   intro e
   have e1:ps.getD i (0, 0, 0) = ps[i] := by simp [hi]
   have e2:ps.getD j (0, 0, 0) = ps[j] := by simp [hj]
   rw [e1, e2] at e
   exact hne ((List.getElem_inj hn).mp e)
  generalize ps.getD i (0, 0, 0) = x at *
  generalize ps.getD j (0, 0, 0) = y at *
  unfold Pu.lt3 at *
  rw [decide_eq_false_iff_not] at h
  rw [decide_eq_true_eq]
  obtain ⟨x1, x2, x3⟩ := x; obtain ⟨y1, y2, y3⟩ := y
  have:¬ (x1 = y1 ∧ x2 = y2 ∧ x3 = y3) := fun z => ne (by rw [z.1, z.2.1, z.2.2])
  simp only at *
  omega
noncomputable def rSortTW (K:PySem.W.Frag):List V → Hp → VK → Prop := fun xs H Q => ∃ p vs ps, xs = [.ref p] ∧ SqL K H p vs ∧ Paired ((rT3 rInt rInt rInt).rel H) vs ps ∧ ps.length < 1000000 ∧ ps.Nodup ∧ ∀ q (ix:List Nat), H q = none → (∀ i ∈ ix, i < vs.length) → ix.map (fun i => ps.getD i (0, 0, 0)) = Pu.srtT ps → Q (.ref q) (upd H q (.lst (ix.map fun i => vs.getD i .non)))
theorem Vals.trips {X:Cx} {pins:List (Addr × Obj)} {σ:St} {H:Hp} {s:Shared} (I:Inv X pins σ H s):∀ {vs:List V} {its:List Value} {ps:List (Int × Int × Int)}, Vals vs its → Paired ((rT3 rInt rInt rInt).rel H) vs ps → cL s.heap its ps
 | _, _, _, .nil, .nil => .nil
 | _, _, _, .cons r t, .cons z q => by
  refine .cons ?_ (Vals.trips I t q)
  obtain ⟨p, a, b, c, e1, e2, e3, e4, e5⟩ := z
  subst e1
  cases r
  cases e3
  cases e4
  cases e5
  refine oq02 ((show aG X.prog X.w H s.heap p (.tup [.int _, .int _, .int _]) from I.hok p _ e2)) fun _ zz => oq12 zz fun its' rv zz => oq13 zz fun o h1 h2 zz => oq11 zz fun n h3 => ?_
  cases rv with
  | cons r1 rv =>
   cases rv with
   | cons r2 rv =>
    cases rv with
    | cons r3 rv =>
     cases rv
     refine oq11 r1 fun t1 eq1_ => ?_; subst eq1_
     refine oq11 r2 fun t2 eq1_ => ?_; subst eq1_
     refine oq11 r3 fun t3 eq1_ => ?_; subst eq1_
     exact ⟨p, o, _, n, t1, t2, t3, rfl, h1, h2, h3, rfl⟩
theorem up_srtT {ps:List (Int × Int × Int)} (hn:ps.Nodup) {p:Array Nat} (a:Srt.Arr ps.length p) (u:Srt.Up (fun i j => Pu.lt3 (ps.getD i (0, 0, 0)) (ps.getD j (0, 0, 0))) p ps.length):p.toList.map (fun i => ps.getD i (0, 0, 0)) = Pu.srtT ps := by
 have e0:ps = (List.range ps.length).map fun i => ps.getD i (0, 0, 0) := by
  apply List.ext_getElem
  ·simp
  ·intro i h1 h2; simp [h1]
 refine Pu.c7 (le := fun a b => Pu.le3 a b = true) (fun a b => Pu.kR) ?_ ?_ (Pu.gc ps)
 ·refine List.Perm.trans ?_ (Pu.j1 ps).symm
  have := a.pm.map fun i => ps.getD i (0, 0, 0)
  rw [← e0] at this
  exact this
 ·rw [List.pairwise_iff_getElem]
  intro i j hi hj hij
  have hsz:p.toList.length = ps.length := by rw [Array.length_toList]; exact a.sz
  rw [List.length_map] at hi hj
  have h := u i j hij (by exact nz1 hj (nz3 hsz))
  have g:∀ k (hk:k < p.toList.length), Srt.at' p k = p.toList[k] := fun k hk => by
   unfold Srt.at'
   simp at hk
   simp [hk]
  rw [g i hi, g j hj] at h
  rw [List.getElem_map, List.getElem_map]
  unfold Pu.lt3 at h
  unfold Pu.le3
  rw [decide_eq_true_eq] at *
  omega
theorem kT (h:X.K = K):ci X (.builtin "sorted") (rSortTW K) := by
 subst h
 intro pins s σ H xs us Q I r hh
 refine oq36 hh fun p vs ps eq3_ hS hP h64 hnd q => ?_; subst eq3_
 refine oq12 (vals1 r) fun u eq1_ ru => ?_; subst eq1_
 cases ru
 refine oq13 (I.list hS) fun its rv ht hz => ?_
 have hl := rv.length
 have hl2 := hP.length
 have pa := Vals.trips I rv hP
 have el:its.length = ps.length := by exact Nat.le_antisymm (nz4 (nz3 hl.symm) (nz3 hl2)) (nz4 (nz3 hl2.symm) (nz3 hl))
 refine kQ (κ := tuples' true) (c := fun i j => Pu.lt3 (ps.getD i (0, 0, 0)) (ps.getD j (0, 0, 0))) ht.isList (by exact nz2 (nz3 el) h64) (by rw [el]; exact lin_trips hnd) (fun h2 h' k Q' hq => ?_) (fun h' k i j C hi hj hC => ask_trips (s := { s with heap := h' }) (pa.kept k) hi hj hC) fun p1 a1 u1 => ?_
 ·refine oq13 ((pa.kept k).tups) fun fs g1 g2 g3 => ?_
  refine kat_kind (s := { s with heap := h' }) (T := .type "int") g1 (by omega) (fun v hv => ?_) rfl hq
  refine oq21 (g3 v hv) fun i t eq2_ => ?_; subst eq2_
  exact .now
 ·rw [el] at a1 u1
  have eu := up_srtT hnd a1 u1
  refine oq11 (sortedAll_at s.heap its (bQ its p1)) fun ep hat => ?_
  have hlt:∀ i ∈ p1.toList, i < ps.length := fun i hi => by
   have := a1.pm.subset hi
   simpa using this
  refine ⟨.ref _, _, I.laid (t' := s.toks) (o := .lst (p1.toList.map fun i => vs.getD i .non)) (fun b ob q => sortedAll_old q) (Nat.le_succ _) ⟨?_, p1.toList.map fun i => its.getD i Value.none, ep, ?_, hat⟩, rfl, q _ _ (I.hok.fresh (Nat.le_succ _)) (fun i hi => by have := hlt i hi; exact nz1 this (nz3 hl2.symm)) eu⟩
  ·rw [List.length_map, Array.length_toList, a1.sz, sizeLine_eq]; exact nz5 (nz8 h64 (by decide))
  ·exact bf fun i hi => eX rv (by have := hlt i hi; exact nz1 this (nz3 hl2.symm))
end
section
variable {Γ:List Slot} {α β:Type} {ta tb:TE} {K:PySem.W.Frag}
theorem mj {o:Option (List (Int × Int × Int))} (h:EV Γ ta o (rL (rT3 rInt rInt rInt))):EVL Γ (tCB (rSortTW K) (aH ta tNil)) (o.bind fun ps => Pu.jJ ps) (rT3 rInt rInt rInt) := by
 intro C F σ H Q xs S e k
 refine oq12 (a9 e) fun ps e1 e => ?_
 unfold Pu.jJ at e
 split at e
 ·rename_i h64
  cases e
  refine h C F σ H _ ps S e1 fun v F' H' x1 zq => oq23 zq fun p vs e2 h1 h2 => ?_
  refine ⟨p, vs, ps, by rw [e2], .inl (x1.sub.rd h1), Paired.imp2 (fun _ _ z => Rp.mono _ x1.sub z) h2, h64.1, h64.2, fun q ix hq hi hx => ?_⟩
  refine k q _ F' H' x1 hq ?_
  rw [← hx]
  exact bf fun i h => eX h2 (hi i h)
 ·cases e
end
end L2
namespace Pu
noncomputable def aD {α:Type} (kvs:List ((Int × Int) × α)) (k:Int × Int):Option α := (kvs.find? fun kv => decide (kv.1 = k)).map (·.2)
noncomputable def putT {α:Type} (kvs:List ((Int × Int) × α)) (k:Int × Int) (v:α):List ((Int × Int) × α) :=
 if (kvs.any fun kv => decide (kv.1 = k)) = true then kvs.map (fun kv => if kv.1 = k then (kv.1, v) else kv) else kvs ++ [(k, v)]
end Pu
namespace L2
open PySem PySem.Spec PyProof.Rows
variable [Kon]
noncomputable abbrev keyT (k:Int × Int):List Key := [.inl k.1, .inl k.2]
theorem i9 {a b:Int × Int} (h:keyT a = keyT b):a = b := by
 obtain ⟨a1, a2⟩ := a; obtain ⟨b1, b2⟩ := b
 simp only [keyT, List.cons.injEq, Sum.inl.injEq, and_true] at h
 rw [h.1, h.2]
theorem bP {α:Type} {r:Rp α} {F:Hp} {k:Int × Int}:∀ {ws:List (List Key × V)} {kvs:List ((Int × Int) × α)}, Paired (tRel r F) ws kvs → (∀ a, Pu.aD kvs k = some a → ∃ v, valV ws (keyT k) = some v ∧ r.rel F v a) ∧ (Pu.aD kvs k = none → valV ws (keyT k) = none)
 | _, _, .nil => ⟨fun a h => (nomatch h), fun _ => rfl⟩
 | w :: ws, kv :: kvs, .cons h t => by
  refine oq02 h fun e1 e2 => ?_
  by_cases q:kv.1 = k
  ·have e3:w.1 = keyT k := by rw [e1, q]
   have ef:Pu.aD (kv :: kvs) k = some kv.2 := by unfold Pu.aD; rw [List.find?_cons_of_pos (by simpa using q)]; rfl
   rw [ef, di e3]
   exact ⟨fun a h => by cases h; exact (oi12 _ rfl e2), fun h => (nomatch h)⟩
  ·have e3:¬ w.1 = keyT k := by rw [e1]; intro z; exact q (i9 z)
   have ef:Pu.aD (kv :: kvs) k = Pu.aD kvs k := by unfold Pu.aD; rw [List.find?_cons_of_neg (by simpa using q)]
   rw [ef, dj e3]
   exact bP t
theorem gd {α:Type} {r:Rp α} {F:Hp} {k:Int × Int}:∀ {ws:List (List Key × V)} {kvs:List ((Int × Int) × α)}, Paired (tRel r F) ws kvs → (ws.any fun kv => decide (kv.1 = keyT k)) = kvs.any fun kv => decide (kv.1 = k)
 | _, _, .nil => rfl
 | w :: ws, kv :: kvs, .cons h t => by
  rw [List.any_cons, List.any_cons, gd t, h.1]
  congr 1
  rw [Bool.eq_iff_iff, decide_eq_true_eq, decide_eq_true_eq]
  exact ⟨fun z => i9 z, fun z => by rw [z]⟩
theorem gf {α:Type} {r:Rp α} {F:Hp} {k:Int × Int} {v:V} {a:α} (hv:r.rel F v a) {ws:List (List Key × V)} {kvs:List ((Int × Int) × α)} (p:Paired (tRel r F) ws kvs):Paired (tRel r F) (putK ws (keyT k) v) (Pu.putT kvs k a) := by
 unfold putK Pu.putT
 rw [gd p]
 split
 ·refine Paired.mapB (fun w kv h => ?_) p
  by_cases q:kv.1 = k
  ·rw [if_pos q, if_pos (by rw [h.1, q])]; exact ⟨h.1, hv⟩
  ·rw [if_neg q, if_neg (by rw [h.1]; intro z; exact q (i9 z))]; exact h
 ·exact Paired.app p (.cons ⟨rfl, hv⟩ .nil)
theorem key2 {H:Hp} {v:V} {k:Int × Int} (h:(rT2 rInt rInt).rel H v k):∃ b, v = .ref b ∧ H b = some (.tup ((keyT k).map kV)) := by
 refine oq34 h fun p a b e1 e2 e3 e4 => ?_
 cases e3
 cases e4
 exact ⟨p, e1, e2⟩
noncomputable def rDT {α:Type} (r:Rp α):Rp (List ((Int × Int) × α)) := ⟨fun H v kvs => ∃ p ws, v = .ref p ∧ H p = some (.dT ws) ∧ Paired (tRel r H) ws kvs,
 fun e zq => oq23 zq fun p ws h1 h2 h3 => (oi23 p ws h1 (e _ _ h2) (Paired.imp2 (fun _ _ q => ⟨q.1, r.mono e q.2⟩) h3))⟩
section
variable {Γ:List Slot} {α β T:Type} {r:Rp α} {s:Rp β} {ta tb tc te:TE} {oa:Option α} {ob:Option β} {oi:Option (Int × Int)} {kvs:List ((Int × Int) × α)} {u:TS} {fin:Fc → T → Ends → Prop}
theorem SR.borrowT {C:Fc} {F H:Hp} {σ:St} {i:Nat} (S:SR C F Γ σ H) (hi:Γ[i]? = some (.ot r kvs)):∃ p ws, F p = none ∧ H p = some (.dT ws) ∧ SR C (upd F p (.dT ws)) (Γ.set i (.fr (rDT r) kvs)) σ H := by
 refine oq12 (S.at_ i _ hi) fun o h1 zz => oq25 zz fun p vs eq4_ h3 h4 h5 h6 => ?_; subst eq4_
 exact (oi23 p vs h4 h5 (S.freeze hi p _ _ rfl rfl h1 h3 h4 h5 ⟨_, rfl, p, vs, rfl, ai, Paired.imp2 (fun _ _ z => ⟨z.1, Rp.mono _ (aB h4) z.2⟩) h6⟩ trivial))
noncomputable abbrev brwT (Γ:List Slot) (i:Nat) {α:Type} (r:Rp α) (kvs:List ((Int × Int) × α)):List Slot := Γ.set i (.fr (rDT r) kvs)
theorem ev_borT (i:Nat) (hi:Γ[i]? = some (.ot r kvs)) (fl:Flat s) (h:EV (brwT Γ i r kvs) tb ob s):EV Γ tb ob s := by
 intro C F σ H Q b S e k
 refine oq23 (S.borrowT hi) fun p vs h1 h2 S' => ?_
 refine h C _ σ H Q b S' e fun v F' H' x1 r1 => ?_
 refine oq02 (eU h1 h2 x1) fun x2 h3 => ?_
 exact k v _ H' x2 (fl h3 trivial r1)
theorem evl_borT {o:Option (List β)} (i:Nat) (hi:Γ[i]? = some (.ot r kvs)) (fl:Flat s) (h:EVL (brwT Γ i r kvs) tb o s):EVL Γ tb o s := by
 intro C F σ H Q b S e k
 refine oq23 (S.borrowT hi) fun p vs h1 h2 S' => ?_
 refine h C _ σ H Q b S' e fun v ws F' H' x1 hv r1 => ?_
 refine oq02 (eU h1 h2 x1) fun x2 h3 => ?_
 exact k v ws _ H' x2 hv (Paired.imp2 (fun _ _ z => fl h3 trivial z) r1)
theorem ev_ixDT {o:Option (List ((Int × Int) × α))} (h:EV Γ ta o (rDT r)) (hi:EV Γ tb oi (rT2 rInt rInt)):EV Γ (tDGet ta tb) (o.bind fun xs => oi.bind fun i => Pu.aD xs i) r := by
 intro C F σ H Q c S e k
 refine oq12 (a9 e) fun a e1 e => ?_
 refine oq12 (a9 e) fun b e2 e => ?_
 refine EV.two (q := fun x y H2 => ∃ a v, x = .ref a ∧ DGet H2 a y (some v) ∧ Q v H2) h hi S e1 e2 fun x y F' H' x1 ⟨p, ws, e3, h1, h2⟩ r2 => ?_
 refine oq12 ((bP (k := b) h2).1 c e) fun v h3 h4 => ?_
 refine oq12 (key2 r2) fun kb e4 h5 => ?_
 exact ⟨p, v, e3, .inr ⟨ws, keyT b, kb, .inl (x1.sub _ _ h1), e4, x1.sub _ _ h5, h3.symm⟩, k v F' H' x1 h4⟩
theorem ev_dget2T {o:Option (List ((Int × Int) × α))} (h:EV Γ ta o (rDT r)) (hi:EV Γ tb oi (rT2 rInt rInt)) (hx:EV Γ tc oa r):EV Γ (tDGet2 ta tb tc) (o.bind fun d => oi.bind fun k => oa.bind fun x => some ((Pu.aD d k).getD x)) r := by
 intro C F σ H Q c S e k
 refine oq12 (a9 e) fun d e1 e => ?_
 refine oq12 (a9 e) fun i e2 e => ?_
 refine oq12 (a9 e) fun x e3 e => ?_
 cases e
 refine h C F σ H _ d S e1 fun v F' H' x1 zq => oq23 zq fun p ws e4 h1 h2 => (oi13 p e4 (.inr ⟨ws, .inl (x1.sub _ _ h1)⟩) (hi C F' σ H' _ i (S.grow x1) e2 fun y F2 H2 x2 r2 => hx C F2 σ H2 _ x ((S.grow x1).grow x2) e3 fun z F3 H3 x3 r3 => ?_))
 have h1':H3 p = some (.dT ws) := x3.sub _ _ ((x2.ff.trans x3.ff) _ _ h1)
 have h2':Paired (tRel r F3) ws d := Paired.imp2 (fun _ _ q => ⟨q.1, r.mono (x2.ff.trans x3.ff) q.2⟩) h2
 refine oq12 (key2 r2) fun kb e4 h5 => ?_
 refine ⟨valV ws (keyT i), .inr ⟨ws, keyT i, kb, .inl h1', e4, x3.sub _ _ (x3.ff _ _ h5), rfl⟩, k _ F3 H3 ((x1.trans x2).trans x3) ?_⟩
 refine oq02 (bP (k := i) h2') fun g1 g2 => ?_
 cases q:Pu.aD d i with
 | none => rw [g2 q]; exact r3
 | some w => refine oq12 (g1 w q) fun v h3 h4 => ?_; rw [h3]; exact h4
theorem bv_newT {f:List ((Int × Int) × α) → Option T} (i:Nat) (h:∀ a, BV (Γ.set i (.ot r a)) u (f a) fin):BV Γ (tSeq (tAsg tDNewT (dP i)) u) ((some []).bind f) fin := by
 intro C F σ H D x S e k
 exact fun p hp => h [] C F _ _ D x (S.setO i hp rfl ⟨p, [], rfl, S.keep.free hp, S.sub.free hp, ai, .nil⟩) e k
theorem bv_putT {f:List ((Int × Int) × α) → Option T} (i:Nat) (hi:Γ[i]? = some (.ot r kvs)) (hk:EV Γ tb oi (rT2 rInt rInt)) (he:EV Γ te oa r) (h:∀ ys, BV (Γ.set i (.ot r ys)) u (f ys) fin) :
  BV Γ (tSeq (sDPut (tVar i) tb te) u) (oa.bind fun a => oi.bind fun k => if kvs.length < 16777216 then f (Pu.putT kvs k a) else none) fin := by
 intro C F σ H D x S e k
 refine oq12 (a9 e) fun a e1 e => ?_
 refine oq12 (a9 e) fun n e2 e => ?_
 split at e
 case isFalse => cases e
 rename_i hl
 refine he C F σ H _ a S e1 fun v F' H' x1 r1 => ?_
 refine oq12 (S.at_ i _ hi) fun o h1 zz => oq22 zz fun p vs eq4_ _ => ?_; subst eq4_
 refine jv i C F' σ H' _ (.ref p) (S.grow x1) h1 (hk C F' σ H' _ n (S.grow x1) e2 fun w F2 H2 x2 r2 => ?_)
 have S' := (S.grow x1).grow x2
 refine oq12 (S'.at_ i _ hi) fun o' q1 zz => oq25 zz fun p' vs' eq4_ q3 q4 q5 q6 => ?_; subst eq4_
 rw [h1] at q1
 cases q1
 refine oq12 (key2 r2) fun kb e4 h5 => ?_
 subst e4
 refine (oi23 p _ rfl (DPut.t (k := keyT n) q5 (x2.sub _ _ h5) (by rw [q6.length, sizeLine_eq]; exact hl)) ?_)
 exact h _ C F2 σ _ D x (S'.chg hi rfl h1 q3 q4 rfl ⟨p, _, rfl, q3, q4, ai, gf (r.mono x2.ff r1) q6⟩) e k
end
end L2
namespace Pu
noncomputable def defT {α:Type} (kvs:List ((Int × Int) × α)) (k:Int × Int) (v:α):List ((Int × Int) × α) := match aD kvs k with
 | some _ => kvs
 | none => putT kvs k v
end Pu
namespace L2
open PySem PySem.Spec PyProof.Rows
theorem kU {prog:Program} {w:World} {K:Type} [DecidableEq K] {knd:HeapKind prog w K} {A:Around} {E:Value → Shared → Prop} {s:Shared} {d a:Addr} {k:K} {xs:List (K × Addr × Value)} {v:Value} {Q:Value → Shared → Prop} (hu:knd.room A.in1) (hkey:knd.is s.heap k a) (hd:(d == sysModules) = false) (hm:s.heap.DictOfH knd d xs) (hsz:xs.length ≤ sizeLine)
  (h1:∀ p, atKey xs k = some p → Q p.2 { s with toks := s.toks + knd.draws k })
  (h0:atKey xs k = none → ∀ h', h'.DictOfH knd d (storedH xs k a v) → Heap.SameBut d s.heap h' → Q v { s with heap := h', toks := s.toks + knd.draws k }) :
  wpAny (model prog w) A (call (.builtin "dict.setdefault") [.ref d, .ref a, v]) Q E s := by
 refine wpAny_call_entry PySem.F.slot_dict_setdefault hm.typeIs PySem.F.entry_dict_setdefault ?_ (PySem.F.args_dict_setdefault_3 _ _ _)
 unfold Builtin.«dict.setdefault»
 refine wpAny_bind ?_
 unfold Builtin.Dict.keyAndDefault
 refine wpAny_bind (wpAny_notOrdered_dict hm.typeIs ?_)
 show wpAny _ _ (pure (d, Value.ref a, some v)) _ _ s
 refine wpAny_pure ?_
 show wpAny _ _ (if (d == sysModules) = true then _ else (dictSetDefault d (.ref a) v >>= _)) _ _ s
 rw [if_neg (by rw [hd]; exact Bool.false_ne_true)]
 obtain ⟨o, es, ep, ho, hc, hdd, he, his, hn⟩ := hm
 refine wpAny_bind ?_
 unfold dictSetDefault
 try with_reducible refine wpAny_holding ?_
 refine wpAny_bind (knd.pyHash hu hkey ?_)
 refine wpAny_bind (wpAny_dictFind_heap (s := { s with toks := s.toks + knd.draws k }) hu hkey ho hdd he his hn ?_ ?_)
 ·intro hno
  have hnot:k ∉ xs.map (·.1) := not_mem_keys_of_get hno
  have hat := atKey_none_of_get hno
  refine wpAny_bind (wpAny_rule (wpAny_bind (wpAny_updateDictKeys (hz := by have e := size_of_entries he; omega) (s := { s with toks := s.toks + knd.draws k }) ho hdd (wpAny_pure (wpAny_pure ⟨v, rfl, h0 hat _ ⟨_, _, ep + 1, Heap.get?_update_self _ ho (Obj.isFreed_of_dict (Obj.data_mapDictKeys hdd _)),
   hc.mapDictKeys _, Obj.data_mapDictKeys hdd _, ?_, ?_, ?_⟩ (Heap.SameBut.update ..)⟩)))))
  ·rw [storedH_new hat]
   simp [he, entryOfKey]
  ·rw [storedH_new hat]
   intro x hx
   rcases List.mem_append.mp hx with hx | hx
   ·exact knd.keeps (his x hx) ho hdd (Heap.SameBut.update ..)
   ·simp only [List.mem_singleton] at hx
    subst hx
    exact knd.keeps hkey ho hdd (Heap.SameBut.update ..)
  ·rw [storedH_new hat]
   rw [List.map_append, List.nodup_append]
   refine ⟨hn, by simp, ?_⟩
   intro x hx y hy
   simp only [List.map_cons, List.map_nil, List.mem_singleton] at hy
   subst hy
   exact fun e => hnot (e ▸ hx)
 ·intro j p hj
  refine wpAny_bind (wpAny_dictEntries (s := { s with toks := s.toks + knd.draws k }) ho hdd ?_)
  rw [entry_at he j, hj]
  exact wpAny_bind (wpAny_rule (wpAny_pure (wpAny_pure ⟨_, rfl, h1 p (atKey_of_get hn hj)⟩)))
variable [Kon]
noncomputable def tDDef (td ty tx:TE):TE := fun σ H Q => td σ H fun x H1 => ∃ a, x = .ref a ∧ IsD H1 a ∧ ty σ H1 fun y H2 => tx σ H2 fun z H3 => ∃ kvs k b, H3 a = some (.dT kvs) ∧ y = .ref b ∧ H3 b = some (.tup (k.map kV)) ∧ kvs.length < sizeLine ∧
 (∀ v, valV kvs k = some v → Q v H3) ∧ (valV kvs k = none → Q z (upd H3 a (.dT (putK kvs k z))))
section
variable {X:Cx} {pins:List (Addr × Obj)} {σ:St} {H:Hp} {s:Shared} {a b:Addr} {v:V} {r:Value} {A:Around} {E:Value → Shared → Prop} {kvs:List (List Key × V)} {k:List Key}
theorem d_setdef {Q:Value → Shared → Prop} (hu:A.units + 1 < cLine) (I:Inv X pins σ H s) (e:H a = some (.dT kvs)) (eb:H b = some (.tup (k.map kV))) (l:kvs.length < sizeLine) (rv:RelV v r)
  (h1:∀ v', valV kvs k = some v' → ∀ w' s', Inv X pins σ H s' → RelV v' w' → Q w' s') (h0:valV kvs k = none → ∀ s', Inv X pins σ (upd H a (.dT (putK kvs k v))) s' → Q r s') :
  wpAny (model X.prog X.w) A (call (.builtin "dict.setdefault") [.ref a, .ref b, r]) Q E s := by
 refine oq03 (dt_of I.hok e) fun z hd zz => oq12 zz fun xs rel dd => ?_
 have hz:xs.length ≤ sizeLine := by rw [← Paired.length rel]; exact z
 have hl:(putK kvs k v).length ≤ sizeLine := by have := dk kvs k v; omega
 have hv := rel.val k
 refine kU (tupleKind_room_in1 hu) (gM I.hok eb) hd dd hz (fun p hp => ?_) fun hn h' dd' hs => ?_
 ·rw [hp] at hv
  cases q:valV kvs k with
  | none => rw [q] at hv; cases hv
  | some v' =>
   rw [q] at hv
   refine h1 v' q _ _ (I.tok _) ?_
   refine oq12 (RelO.some_of (v := v') (o := some p.2) hv) fun w' e1 e2 => ?_
   cases e1
   exact e2
 ·rw [hn] at hv
  have q:valV kvs k = none := by
   cases q:valV kvs k with
   | none => rfl
   | some v' => rw [q] at hv; cases hv
  refine h0 q _ ?_
  refine oq36 dd' fun q es ep hq h2 h3 h4 _ h5 => ?_
  refine ji I (by rw [e]; exact True.intro) hs ⟨q, hq⟩ ⟨hl, hd, _, (rel.put k eb rv).keeps fun c ys ec => ?_, q, es, ep, hq, h2, h3, h4, h5⟩
  rw [ac (ne_of ec e (fun z => nomatch z))]
  exact ec
end
section
variable {X:Cx} {o e f:Expr} {apos cpos:Pos} {td ty tx:TE}
theorem pe_ddef (hu:X.A.units + 1 < cLine) (ho:PE X o td) (he:PE X e ty) (hf:PE X f tx) (m:M2 X o "setdefault" apos e f cpos):PE X (.Call (.Attribute o "setdefault" apos) [e, f] [] cpos) (tDDef td ty tx) := by
 intro pins s σ H Q I h
 refine wpAny_Call_method m.base m.few m.line PySem.F.plainAttrs_dict PySem.F.slot_dict_setdefault PySem.F.type_dict_setdefault (thn (ho pins s σ H _ I h) fun u s1 zq => oq23 zq fun x H1 I1 rx zz => oq13 zz fun a ex d q1 => ?_)
 subst ex
 obtain rfl:u = Value.ref a := rx
 refine oq03 (lN I1 d) fun t1 t2 _ => ?_
 refine ⟨t1, t2, ?_⟩
 rw [m.trees]
 refine Calls.callWith_builtin rfl (Calls.evalArgs_plain (Calls.spliced_cons (thn (he pins s1 σ H1 _ I1 q1) fun iv s2 zq => oq23 zq fun y H2 I2 ry q2 =>
  Calls.spliced_cons (thn (hf pins s2 σ H2 _ I2 q2) fun fv s3 zq => oq23 zq fun z H3 I3 rz zz => Calls.spliced_nil ?_))))
 obtain ⟨kvs, k, b, g1, g2, g3, g4, g5, g6⟩ := zz
 subst g2
 obtain rfl:iv = Value.ref b := ry
 exact d_setdef hu I3 g1 g3 g4 rz (fun v' e1 w' s' I4 rw' => ⟨v', H3, I4, rw', g5 v' e1⟩) fun e0 s' I4 => ⟨z, _, I4, rz, g6 e0⟩
end
section
variable {Γ:List Slot} {α β T:Type} {r:Rp α} {tb te:TE} {oa:Option α} {oi:Option (Int × Int)} {kvs:List ((Int × Int) × α)} {u:TS} {fin:Fc → T → Ends → Prop}
theorem slot_same {i:Nat} {s:Slot} (h:Γ[i]? = some s):Γ.set i s = Γ := by
 apply List.ext_getElem?
 intro j
 rw [List.getElem?_set]
 split
 ·rename_i e; subst e; split
  ·exact h.symm
  ·rename_i z; rw [List.getElem?_eq_none (Nat.le_of_not_lt z)] at h; cases h
 ·rfl
theorem bv_defT {f:List ((Int × Int) × α) → Option T} (i:Nat) (hi:Γ[i]? = some (.ot r kvs)) (hk:EV Γ tb oi (rT2 rInt rInt)) (he:EV Γ te oa r) (h:∀ ys, BV (Γ.set i (.ot r ys)) u (f ys) fin) :
  BV Γ (tSeq (tDrop (tDDef (tVar i) tb te)) u) (oi.bind fun k => oa.bind fun a => if kvs.length < 16777216 then f (Pu.defT kvs k a) else none) fin := by
 intro C F σ H D x S e k
 refine oq12 (a9 e) fun n e2 e => ?_
 refine oq12 (a9 e) fun a e1 e => ?_
 split at e
 case isFalse => cases e
 rename_i hl
 refine oq12 (S.at_ i _ hi) fun o h1 zz => oq25 zz fun p vs eq4_ _ _ h5 _ => ?_; subst eq4_
 show tDDef (tVar i) tb te σ H (fun _ H' => u D σ H')
 unfold tDDef
 refine jv i C F σ H _ (.ref p) S h1 ?_
 refine ⟨p, rfl, .inr ⟨vs, .inl h5⟩, hk C F σ H _ n S e2 fun w F2 H2 x2 r2 => he C F2 σ H2 _ a (S.grow x2) e1 fun v F3 H3 x3 r3 => ?_⟩
 have S' := (S.grow x2).grow x3
 refine oq12 (S'.at_ i _ hi) fun o' q1 zz => oq25 zz fun p' vs' eq4_ q3 q4 q5 q6 => ?_; subst eq4_
 rw [h1] at q1
 cases q1
 refine oq12 (key2 r2) fun kb e4 h6 => ?_
 refine ⟨vs', keyT n, kb, q5, e4, x3.sub _ _ (x3.ff _ _ h6), by rw [q6.length, sizeLine_eq]; exact hl, fun v' hv => ?_, fun hn => ?_⟩
 ·have ef:Pu.defT kvs n a = kvs := by
   unfold Pu.defT
   cases q:Pu.aD kvs n with
   | some _ => rfl
   | none => rw [(bP (k := n) q6).2 q] at hv; cases hv
  rw [ef] at e
  have S2 := h kvs C F3 σ H3 D x
  rw [slot_same hi] at S2
  exact S2 S' e k
 ·have ef:Pu.defT kvs n a = Pu.putT kvs n a := by
   unfold Pu.defT
   cases q:Pu.aD kvs n with
   | none => rfl
   | some b => refine oq12 ((bP (k := n) q6).1 b q) fun v' h7 _ => ?_; rw [h7] at hn; cases hn
  rw [ef] at e
  exact h _ C F3 σ _ D x (S'.chg hi rfl h1 q3 q4 rfl ⟨p, _, rfl, q3, q4, ai, gf r3 q6⟩) e k
end
end L2
namespace L2
open PySem PySem.Spec PyProof.Rows
noncomputable def ck (h:Heap) (d:Addr) (es:Array DictEntry) (ep:Nat):Prop := ∃ o, h.get? d = some o ∧ o.ExactDict ∧ o.data = .dict es ep
theorem ck.at_ {h h':Heap} {d:Addr} {es:Array DictEntry} {ep:Nat} (x:ck h d es ep) (k:∀ o, h.get? d = some o → h'.get? d = some o):ck h' d es ep := let ⟨o, a, b⟩ := x; ⟨o, k o a, b⟩
theorem ck.typeIs {s:Shared} {d:Addr} {es:Array DictEntry} {ep:Nat} (x:ck s.heap d es ep):s.TypeIs (.ref d) "dict" := let ⟨o, a, b, _⟩ := x; ⟨o, a, b.1⟩
section
variable {prog:Program} {w:World} {A:Around} {E:Value → Shared → Prop} {s:Shared} {d it:Addr} {es:Array DictEntry} {ep i:Nat}
theorem ent_iter {Q:Value → Shared → Prop} (hd:(d == sysModules) = false) (hm:ck s.heap d es ep)
  (hQ:Q (.ref s.heap.objs.size) { s with heap := s.heap.push { cls := .type "dict_keyiterator", data := .fields #[.ref d, .int 0 0, .int es.size 0, .int ep 0] } }):wpAny (model prog w) A (pyIter (.ref d)) Q E s := by
 have hT := hm.typeIs
 obtain ⟨o, ho, hc, hdat⟩ := hm
 refine wpAny_pyIter_slot hT PySem.F.slot_dict_iter (wpAny_call_entry PySem.F.slot_dict_iter hT PySem.F.entry_dict_iter ?_ (PySem.F.args_dict_iter_1 _))
 unfold Builtin.«dict.__iter__»
 refine wpAny_bind ?_
 unfold Builtin.Dict.dictSlotNone
 refine wpAny_bind (wpAny_notOrdered_dict hT ?_)
 show wpAny _ _ (pure (Value.ref d)) _ _ s
 refine wpAny_pure ?_
 show wpAny _ _ (Builtin.Dict.showsAll d >>= _) _ _ s
 unfold Builtin.Dict.showsAll
 rw [if_neg (by rw [hd]; exact Bool.false_ne_true)]
 refine wpAny_bind (wpAny_pure (wpAny_bind (wpAny_dictEntries ho hdat (wpAny_bind (wpAny_dictEpoch ho hdat ?_)))))
 refine wpAny_bind (wpAny_newObj_type (wpAny_pure ⟨_, rfl, "dict_keyiterator", _, ⟨_, Heap.get?_push_size _ rfl, rfl⟩, PySem.F.slot_dict_keyiterator_next.lookup, ?_⟩))
 simpa [rawInt] using hQ
theorem ent_step {Q:Option Value → Shared → Prop} (hit:s.heap.IsKeyIter it d i es.size ep) (hm:ck s.heap d es ep) (h1:∀ h:i < es.size, ∀ h', h'.IsKeyIter it d (i + 1) es.size ep → Heap.SameBut it s.heap h' → Q (some es[i].key) { s with heap := h' }) (h:i < es.size) :
  wpAny (model prog w) A (pyNext (.ref it)) Q E s := by
 obtain ⟨o, ho, hc, hd⟩ := id hit
 obtain ⟨od, hod, hcd, hdd⟩ := hm
 unfold pyNext
 refine wpAny_bind (wpAny_attempt (wpAny_callSpecial?_slot (name := Str.ofString "__next__") hit.typeIs PySem.F.slot_dict_keyiterator_next
  (wpAny_call_entry PySem.F.slot_dict_keyiterator_next hit.typeIs PySem.F.entry_dict_keyiterator_next ?_ (PySem.F.args_dict_keyiterator_next_1 _))))
 refine wpAny_bind (wpAny_pure (wpAny_bind (wpAny_bind ?_)))
 first | refine wpAny_bind (wpAny_typeNameOfWhole_keyiter hit.typeIs (wpAny_pure ?_)) | refine wpAny_bind (wpAny_typeNameOf_keyiter hit.typeIs (wpAny_pure ?_))
 refine wpAny_bind (wpAny_fieldsOf ho hd ?_)
 simp only [show Builtin.Dict_items.ownsTuple "dict_keyiterator" = false by decide, Bool.false_eq_true, if_false]
 show wpAny _ _ (if (Value.ref d == Value.none) = true then _ else _) _ _ s
 rw [if_neg (show ¬ ((Value.ref d == Value.none) = true) from Bool.false_ne_true)]
 refine wpAny_bind (wpAny_pure (wpAny_bind (wpAny_dictEntries hod hdd ?_)))
 rw [if_neg (by simp)]
 refine wpAny_bind (wpAny_pure (wpAny_bind (wpAny_dictEpoch hod hdd ?_)))
 rw [if_neg (by simp)]
 refine wpAny_pure ?_
 simp only [show ¬ ((i:Int) < 0) from by omega, if_false, Int.toNat_natCast, Array.getElem?_eq_getElem h]
 refine wpAny_bind ?_
 first | refine wpAny_bind (wpAny_typeNameOfWhole_keyiter hit.typeIs (wpAny_pure ?_)) | refine wpAny_bind (wpAny_typeNameOf_keyiter hit.typeIs (wpAny_pure ?_))
 refine wpAny_bind (wpAny_isOneOf_keyiter hit.typeIs ?_)
 show wpAny _ _ (setField (.ref it) 1 (rawInt ((i:Int) + 1)) >>= _) _ _ s
 refine wpAny_bind (wpAny_setField ho hd (by simp) ?_)
 have hit':(s.heap.update it (Obj.mapFields (·.setIfInBounds 1 (rawInt ((i:Int) + 1))))).IsKeyIter it d (i + 1) es.size ep :=
  ⟨_, Heap.get?_update_self _ ho (Obj.isFreed_of_fields (Obj.data_mapFields hd _)), (Obj.cls_mapFields ..).trans hc, by rw [Obj.data_mapFields hd]; simp [rawInt]⟩
 refine wpAny_bind (wpAny_holding ?_)
 refine wpAny_bind (wpAny_isOneOf_keyiter (s := { s with heap := s.heap.update it (Obj.mapFields (·.setIfInBounds 1 (rawInt ((i:Int) + 1)))) }) hit'.typeIs ?_)
 show wpAny _ _ (pure es[i].key) _ _ _
 exact wpAny_pure (wpAny_pure ⟨_, rfl, wpAny_pure (h1 h _ hit' (Heap.SameBut.update ..))⟩)
theorem ent_end {Q:Option Value → Shared → Prop} (hh:A.handled = none) (hit:s.heap.IsKeyIter it d es.size es.size ep) (hm:ck s.heap d es ep) (hQ:∀ h', Heap.ExtBut it s.heap h' → Q none { s with heap := h' }) :
  wpAny (model prog w) A (pyNext (.ref it)) Q E s := by
 obtain ⟨o, ho, hc, hd⟩ := id hit
 obtain ⟨od, hod, hcd, hdd⟩ := hm
 unfold pyNext
 refine wpAny_bind (wpAny_attempt (wpAny_callSpecial?_slot (name := Str.ofString "__next__") hit.typeIs PySem.F.slot_dict_keyiterator_next
  (wpAny_call_entry PySem.F.slot_dict_keyiterator_next hit.typeIs PySem.F.entry_dict_keyiterator_next ?_ (PySem.F.args_dict_keyiterator_next_1 _))))
 refine wpAny_bind (wpAny_pure (wpAny_bind (wpAny_bind ?_)))
 first | refine wpAny_bind (wpAny_typeNameOfWhole_keyiter hit.typeIs (wpAny_pure ?_)) | refine wpAny_bind (wpAny_typeNameOf_keyiter hit.typeIs (wpAny_pure ?_))
 refine wpAny_bind (wpAny_fieldsOf ho hd ?_)
 simp only [show Builtin.Dict_items.ownsTuple "dict_keyiterator" = false by decide, Bool.false_eq_true, if_false]
 show wpAny _ _ (if (Value.ref d == Value.none) = true then _ else _) _ _ s
 rw [if_neg (show ¬ ((Value.ref d == Value.none) = true) from Bool.false_ne_true)]
 refine wpAny_bind (wpAny_pure (wpAny_bind (wpAny_dictEntries hod hdd ?_)))
 rw [if_neg (by simp)]
 refine wpAny_bind (wpAny_pure (wpAny_bind (wpAny_dictEpoch hod hdd ?_)))
 rw [if_neg (by simp)]
 refine wpAny_pure ?_
 simp only [show ¬ ((es.size:Int) < 0) from by omega, if_false, Int.toNat_natCast, Array.getElem?_eq_none (nz6 es.size)]
 refine wpAny_bind ?_
 first | refine wpAny_bind (wpAny_typeNameOfWhole_keyiter hit.typeIs (wpAny_pure ?_)) | refine wpAny_bind (wpAny_typeNameOf_keyiter hit.typeIs (wpAny_pure ?_))
 show wpAny _ _ (setField (.ref it) 0 .none >>= _) _ _ s
 refine wpAny_bind (wpAny_setField ho hd (by simp) ?_)
 show wpAny _ _ (newExc (.type "StopIteration") [] >>= _) _ _ _
 refine wpAny_bind ?_
 simp only [newExc, newTuple]
 refine wpAny_bind (wpAny_newObj_type ?_ (by size_fits))
 refine wpAny_bind (m := firstArgMember _ _) (wpAny_of_eq (a := Value.none) (by first | rfl | (simp only [firstArgMember]; rfl)) ?_)
 refine wpAny_newObj_type ?_ (by size_fits)
 simp only [raiseNew]
 refine wpAny_bind (wpAny_handled ?_)
 rw [show A.in1.handled = none from hh]
 refine wpAny_bind (wpAny_pure (wpAny_throw ?_))
 refine wpAny_bind (wpAny_isInstance (T := "StopIteration") (b := true) ⟨_, Heap.get?_push_size _ rfl, rfl⟩ isSubtype_stop ?_)
 exact wpAny_pure (hQ _ (((Heap.SameBut.update ..).extBut.push _).push _))
theorem ent_walks (hh:A.handled = none) (I d:Addr) (hne:d ≠ I) (es:Array DictEntry) (ep:Nat) :
  PySem.Walks prog w A I [I, d] [I] es.size (fun i v => ∃ h:i < es.size, v = es[i].key) (fun i h => h.IsKeyIter I d i es.size ep ∧ ck h d es ep) where
 sub := fun b hb => by simp at hb; simp [hb]
 frame := fun _ _ _ st hk => ⟨st.1.at fun o e => hk I (by simp) o e, st.2.at_ fun o e => hk d (by simp) o e⟩
 item := fun i s Q E hi st hQ => ent_step st.1 st.2 (fun h h' hit' hs' => hQ _ h' s.toks ⟨h, rfl⟩ ⟨hit', st.2.at_ fun o e => hs'.extBut d o hne e⟩ fun b o hb e => hs'.extBut b o (fun h => hb (by simp [h])) e) hi
 done := fun s Q E st hQ => ent_end hh st.1 st.2 fun h' he' => hQ h' s.toks fun b o hb e => he' b o (fun h => hb (by simp [h])) e
 self := fun _ _ _ _ st hQ => wpAny_pyIter_keyiter st.1 hQ
theorem ent_src (lo:(d == sysModules) = false):PySem.W.KdlSrc prog w "dict" d d es.size (fun i v => ∃ h:i < es.size, v = es[i].key) (fun h => ck h d es ep) where
 type := fun _ hm => hm.typeIs
 there := fun _ hm => oq12 hm fun o ho _ => ⟨Heap.lt_size ho, Heap.lt_size ho⟩
 keep := fun _ _ hm hk => hm.at_ fun o e => hk d (.inl rfl) o e
 notList := by decide
 notTuple := by decide
 hint := fun _ _ _ _ hm hq => PySem.W.kdl_hint_dict hm.typeIs hq
 iter := fun _ _ hh hm => ⟨_, _, (fun _ _ hq => ent_iter lo hm hq), ent_walks hh _ d (oq12 hm fun o ho _ => nz7 (Heap.lt_size ho)) es ep, ⟨⟨_, Heap.get?_push_size _ rfl, rfl, rfl⟩, hm.at_ fun o e => Heap.get?_push_of_some _ e⟩⟩
end
end L2
namespace L2
open PySem PySem.Spec PyProof.Rows
variable [Kon]
theorem kW {H:Hp}:∀ {ws:List (List Key × V)} {xs:List (List Key × Addr × Value)} {ks:List (Int × Int)}, KT H ws xs → ws.map (·.1) = ks.map keyT → Paired ((rT2 rInt rInt).rel H) (xs.map fun x => V.ref x.2.1) ks
 | _, _, [], .nil, _ => .nil
 | _, _, [], .cons _ _, e => nomatch e
 | _, _, _ :: _, .nil, e => nomatch e
 | _, _, k :: ks, .cons h t, e => by
  rw [List.map_cons, List.map_cons] at e
  injection e with e1 e2
  refine .cons ⟨_, .int k.1, .int k.2, rfl, ?_, rfl, rfl⟩ (kW t e2)
  rw [h.2.1, e1]; rfl
section
variable {X:Cx} {K:PySem.W.Frag}
open PySem.W
noncomputable def rSortDT:List V → Hp → VK → Prop := fun xs H Q => ∃ p ws ks, xs = [.ref p] ∧ H p = some (.dT ws) ∧ ws.map (·.1) = ks.map keyT ∧ ks.length < 1000000 ∧ ks.Nodup ∧ ∀ q vs, H q = none → Paired ((rT2 rInt rInt).rel H) vs (Pu.srtP ks) → Q (.ref q) (upd H q (.lst vs))
theorem kX (hc:X.calm = true):ci X (.builtin "sorted") rSortDT := by
 intro pins s σ H xs us Q I r hh
 refine oq36 hh fun p ws ks eq3_ hD hK h64 hnd q => ?_; subst eq3_
 refine oq12 (vals1 r) fun u eq1_ ru => ?_; subst eq1_
 cases ru
 refine oq03 (dt_of I.hok hD) fun hz lo zz => oq12 zz fun xs rel dd => ?_
 obtain ⟨o, es, ep, ho, hx, hd, he, his, hn⟩ := dd
 have hat:ck s.heap p es ep := ⟨o, ho, hx, hd⟩
 have hes:es.size = xs.length := size_of_entries he
 have lx:ws.length = xs.length := Paired.length rel
 have lk:ws.length = ks.length := by have := congrArg List.length hK; simpa using this
 refine Calls.call_function_entry kind_sorted plain_sorted entry_sorted (args_sorted1 _) ?_
 unfold Builtin.«sorted»
 refine wpAny_bind (m := checkCount "sorted" 1 1 _) (wpAny_pure ?_)
 refine wpAny_bind (kdu_collect (A := X.A.in1) (ent_src (es := es) (ep := ep) lo) (I.ok.hd hc) hat (by rw [hes, ← lx]; exact hz) fun h' tk acc hk hacc => ?_)
 have I1 := I.kept (t' := tk) hk
 have eacc:acc.toList = xs.map fun x => Value.ref x.2.1 := by
  apply List.ext_getElem
  ·rw [Array.length_toList, hacc.1, List.length_map, hes]
  ·intro i h1 h2
   obtain ⟨hi, e1⟩ := hacc.2 i _ (Array.getElem?_eq_getElem (by rw [Array.length_toList] at h1; exact h1))
   have e2 := entry_at he i
   rw [Array.getElem?_eq_getElem hi] at e2
   rw [List.length_map] at h2
   rw [List.getElem?_eq_getElem h2] at e2
   have e3 := Option.some.inj e2
   rw [Array.getElem_toList, e1, e3, List.getElem_map]
   rfl
 have hP:Paired ((rT2 rInt rInt).rel H) (xs.map fun x => V.ref x.2.1) ks := kW rel hK
 have rv:Vals (xs.map fun x => V.ref x.2.1) acc.toList := by rw [eacc]; exact bf fun x _ => rfl
 have pa := Vals.pairs I1 rv hP
 have el:acc.toList.length = ks.length := by rw [eacc, List.length_map]; omega
 have hl2 := hP.length
 refine wpAny_bind (wpAny_newList ?_ (by rw [el, sizeLine_eq]; exact nz5 (nz8 h64 (by decide))))
 have hoL:(h'.push (seqObj "list" acc.toList.toArray 0)).get? h'.objs.size = some (seqObj "list" acc.toList.toArray 0) := Heap.get?_push_size _ rfl
 have kp:∀ h2:Heap, (∀ b o, b ≠ h'.objs.size → (h'.push (seqObj "list" acc.toList.toArray 0)).get? b = some o → h2.get? b = some o) → ∀ b o, h'.get? b = some o → h2.get? b = some o := fun h2 k b o z => k b o (nz7 (Heap.lt_size z)) (Heap.get?_push_of_some _ z)
 refine wpAny_bind (wpAny_holding (wpAny_call_entry slot_list_sort ⟨_, hoL, rfl⟩ entry_list_sort
  (du (κ := tuples' true) (c := fun i j => Pu.lt2 (ks.getD i (0, 0)) (ks.getD j (0, 0))) (s := { s with heap := h'.push (seqObj "list" acc.toList.toArray 0), toks := tk }) hoL (by exact nz2 (nz3 el) h64) (by rw [el]; exact iZ hnd) (fun h2 h3 k Q' hq => ?_)
   (fun h3 k i j C hi hj hC => iY (s := { s with heap := h3, toks := tk }) (pa.kept (kp h3 k)) hi hj hC) fun p1 a1 u1 => (oi12 _ rfl ?_)) (args_list_sort _)))
 ·refine oq13 ((pa.kept (kp h3 k)).tups) fun fs g1 g2 g3 => ?_
  refine kat_kind (s := { s with heap := h3, toks := tk }) (T := .type "int") g1 (by omega) (fun v hv => ?_) rfl hq
  refine oq21 (g3 v hv) fun i t eq2_ => ?_; subst eq2_
  exact .now
 ·rw [el] at a1 u1
  have eu := up_srt hnd a1 u1
  refine oq11 (sortedHeap_at (out := bQ acc.toList p1) hoL) fun e1 hat1 => ?_
  have hlt:∀ i ∈ p1.toList, i < ks.length := fun i hi => by
   have := a1.pm.subset hi
   simpa using this
  refine wpAny_pure ⟨_, rfl, .ref _, _, I1.laid (t' := tk) (o := .lst (p1.toList.map fun i => (xs.map fun x => V.ref x.2.1).getD i .non)) (fun b ob q => ?_) (nz6 _) ⟨?_, p1.toList.map fun i => acc.toList.getD i Value.none, e1, ?_, hat1⟩, rfl, q _ _ (I1.hok.fresh (nz6 _)) ?_⟩
  ·have hlt:b < h'.objs.size := Heap.lt_size q
   rw [sortedHeap_old (nz7 hlt) (by rw [size_push']; exact Nat.lt_succ_of_lt hlt)]
   exact Heap.get?_push_of_some _ q
  ·rw [List.length_map, Array.length_toList, a1.sz, sizeLine_eq]; exact nz5 (nz8 h64 (by decide))
  ·exact bf fun i hi => eX rv (by have := hlt i hi; exact nz1 this (nz3 hl2.symm))
  ·rw [← eu]
   exact bf fun i h => eX hP (by have := hlt i h; exact nz1 this (nz3 hl2.symm))
end
noncomputable def tpl (F H:Hp):Hp := fun b => match F b with
 | some o => some o
 | none => match H b with
  | some (.tup xs) => some (.tup xs)
  | _ => none
theorem ia {F H:Hp} {b:Addr} {o:HO} (h:tpl F H b = some o):F b = some o ∨ ∃ xs, o = .tup xs ∧ H b = some (.tup xs) := by
 unfold tpl at h
 split at h
 ·rename_i u e; exact .inl (e.trans h)
 ·split at h
  ·rename_i xs e; cases h; exact .inr ⟨xs, rfl, e⟩
  ·cases h
theorem tpl_of {F H:Hp} {b:Addr} {xs:List V} (s:Same F H) (h:H b = some (.tup xs)):tpl F H b = some (.tup xs) := by
 unfold tpl
 split
 ·rename_i u e; rw [← s _ _ e]; exact h
 ·rw [h]
theorem kY {F H:Hp} (s:Same F H):Ext F H (tpl F H) H := by
 refine ⟨Sm.refl _, fun b o h => ?_, fun b o h => ?_, fun b o h => ?_, fun z b ps h => ?_⟩
 ·unfold tpl; rw [h]
 ·rcases ia h with q | ⟨xs, rfl, q⟩
  ·exact s b o q
  ·exact q
 ·rcases ia h with q | ⟨xs, rfl, q⟩
  ·exact .inl q
  ·exact .inr (by rw [q]; trivial)
 ·rcases ia h with q | ⟨xs, e, q⟩
  ·exact z b ps q
  ·cases e
theorem j2 {α:Type} {r:Rp α} {F:Hp}:∀ {ws:List (List Key × V)} {kvs:List ((Int × Int) × α)}, Paired (tRel r F) ws kvs → ws.map (·.1) = (kvs.map (·.1)).map keyT
 | _, _, .nil => rfl
 | _, _, .cons h t => by rw [List.map_cons, List.map_cons, List.map_cons, ← j2 t, h.1]
end L2
namespace L2
open PySem PySem.Spec PyProof.Rows
variable [Kon]
theorem ev_cat21 {Γ:List Slot} {K:PySem.W.Frag} {ta tb:TE} {α β γ:Type} {r:Rp α} {s:Rp β} {q:Rp γ} {o:Option (α × β)} {o':Option γ} (h:EV Γ ta o (rT2 r s)) (h':EV Γ tb o' (rT1 q)):EV Γ (tOp (rCatT K) ta tb) (o.bind fun a => o'.bind fun b => some (a.1, a.2, b)) (rT3 r s q) := by
 intro C F σ H Q c S e k
 refine oq12 (a9 e) fun a e1 e => ?_
 refine oq12 (a9 e) fun b e2 e => ?_
 cases e
 refine EV.two (q := fun x y H2 => rCatT K x y H2 Q) h h' S e1 e2 fun x y F' H' x1 ⟨p, u, v, e3, h1, h2, h3⟩ ⟨p', w, e4, h4, h5⟩ => ⟨p, p', [u, v], [w], e3, e4, SqT.of (x1.sub _ _ h1), SqT.of (x1.sub _ _ h4), by simp, by rw [sizeLine_eq]; simp, (fun z => nomatch z), fun _ q9 hq => ?_⟩
 have x2 := Ext.new (o := .tup [u, v, w]) x1.sub hq
 exact k _ _ _ (x1.trans x2) ⟨q9, u, v, w, rfl, ai, Rp.mono _ x2.ff h2, Rp.mono _ x2.ff h3, Rp.mono _ x2.ff h5⟩
end L2
namespace L2
open PySem PySem.Spec PyProof.Rows
section
variable {prog:Program} {w:World} {A:Around} {E:Value → Shared → Prop} {s:Shared} {I S:Addr} {fp wr:List Addr} {n:Nat} {P:Nat → Value → Prop} {Sx:Nat → Heap → Prop} {g:Heap} {R:Result → Shared → Prop} {bt:Nat → Nat → Bool}
theorem maxT_go (W:PySem.Walks prog w A.in1 I fp wr n P Sx) (nS:S ∉ fp) (fw:∀ b ∈ wr, g.get? b = none) (fs:g.get? S = none)
  (ask:∀ i j x y (s:Shared) (Q:Value → Shared → Prop) (E:Value → Shared → Prop), Std g s.heap → P i x → P j y → Q (.bool (bt i j)) s → wpAny (model prog w) A.in1 (richCompare .Gt x y) Q E s) :
  ∀ (k j:Nat) (s:Shared) (x:Value) (c:Nat), j + 1 + k = n → Std g s.heap → Sx (j + 1) s.heap → P (argBest bt j) x → s.heap.get? S = some (seqObj "list" #[x, x] c) →
   (∀ v h' tk, P (argBest bt (n - 1)) v → (∀ b o, b ∉ wr → b ≠ S → s.heap.get? b = some o → h'.get? b = some o) → R (.ok (.ret v)) { s with heap := h', toks := tk }) →
   codeAny (model prog w) A (.builtin "max.loop" ⟨[.ref I, .none, .ref S], []⟩) R s := by
 have nW:S ∉ wr := fun h => nS (W.sub _ h)
 have nm:(toString "max" ++ toString ".loop":String) = "max.loop" := by decide
 intro k
 induction k with
 | zero =>
  intro j s x c hj sg st px hS fin
  have e:j + 1 = n := hj
  refine codeAny_builtin PySem.F.entry_max_loop (Around.under_plainId PySem.F.plain_max_loop _ ▸ ?_)
  show wpAny _ A.in1 (seqItems? (.ref S) >>= _) _ _ _
  refine wpAny_bind (wpAny_seqItems hS rfl (wpAny_bind (wpAny_tryCatch (W.done s _ _ (e ▸ st) fun h' tk kp => ?_))))
  have hS' := kp S _ nW hS
  refine wpAny_bind (wpAny_updateSeq hS' rfl (wpAny_bind (wpAny_letGo (wpAny_pure ?_))))
  refine fin x _ tk (by rw [← e]; exact px) fun b o q1 q2 z => ?_
  rw [Heap.get?_update_ne _ _ _ _ q2]; exact kp b o q1 z
 | succ k ih =>
  intro j s x c hj sg st px hS fin
  have lt:j + 1 < n := by omega
  refine codeAny_builtin PySem.F.entry_max_loop (Around.under_plainId PySem.F.plain_max_loop _ ▸ ?_)
  show wpAny _ A.in1 (seqItems? (.ref S) >>= _) _ _ _
  refine wpAny_bind (wpAny_seqItems hS rfl (wpAny_bind (wpAny_tryCatch (W.item (j + 1) s _ _ lt st fun v h' tk pv st' kp => ?_))))
  have hS' := kp S _ nW hS
  have sg':Std g h' := sg.on (S := S) fw fs fun b o q1 _ z => kp b o q1 z
  show wpAny _ A.in1 (tryCatch (holding [v, v] (richCompare .Gt v x >>= _)) _ >>= _) _ _ _
  refine wpAny_bind (wpAny_tryCatch (wpAny_holding (wpAny_bind (ask (j + 1) (argBest bt j) v x _ _ _ sg' pv px (wpAny_bind (wpAny_holding (wpAny_truthy_bool (wpAny_bind (wpAny_letGo (wpAny_pure ?_))))))))))
  cases e:bt (j + 1) (argBest bt j) with
  | true =>
   obtain ⟨c2, hc2⟩:∃ c2, (h'.update S (Obj.mapSeq fun _ => #[v, v])).get? S = some (seqObj "list" #[v, v] c2) := ⟨_, get?_update_seq hS' fun _ => #[v, v]⟩
   have kp2:∀ b o, b ∉ wr → b ≠ S → s.heap.get? b = some o → (h'.update S (Obj.mapSeq fun _ => #[v, v])).get? b = some o := fun b o q1 q2 z => by
    rw [Heap.get?_update_ne _ _ _ _ q2]; exact kp b o q1 z
   simp only [if_true]
   refine wpAny_bind (wpAny_updateSeq hS' rfl (wpAny_bind (wpAny_letGo ?_)))
   rw [nm]
   refine wpAny_pure ⟨plainId_quiet PySem.F.plain_max_loop _, ih (j + 1) _ v c2 (by omega) (sg.on fw fs kp2) (W.frame _ _ _ st' fun b hb o z => ?_) (by simp only [argBest, e, if_true]; exact pv) hc2 fun v2 h2 tk2 p2 kp3 => ?_⟩
   ·have nb:b ≠ S := fun q => nS (q ▸ hb)
    show (h'.update S (Obj.mapSeq fun _ => #[v, v])).get? b = some o
    rw [Heap.get?_update_ne _ _ _ _ nb]; exact z
   ·exact fin v2 h2 tk2 p2 fun b o q1 q2 z => kp3 b o q1 q2 (kp2 b o q1 q2 z)
  | false =>
   simp only [Bool.false_eq_true, if_false]
   refine wpAny_bind (wpAny_letGo ?_)
   rw [nm]
   refine wpAny_pure ⟨plainId_quiet PySem.F.plain_max_loop _, ih (j + 1) _ x c (by omega) sg' st' (by simp only [argBest, e, Bool.false_eq_true, if_false]; exact px) hS' fun v2 h2 tk2 p2 kp3 => ?_⟩
   exact fin v2 h2 tk2 p2 fun b o q1 q2 z => kp3 b o q1 q2 (kp b o q1 z)
theorem minT_two {a b:Value} {Q:Value → Shared → Prop} (hh:A.handled = none)
  (ask:∀ i j x y (s':Shared) (Q:Value → Shared → Prop) (E:Value → Shared → Prop), Std s.heap s'.heap → [a, b][i]? = some x → [a, b][j]? = some y → Q (.bool (bt i j)) s' → wpAny (model prog w) A.in1 (richCompare .Lt x y) Q E s')
  (fin:∀ v h' tk, [a, b][argBest bt 1]? = some v → Std s.heap h' → Q v { s with heap := h', toks := tk }):wpAny (model prog w) A (call (.builtin "min") [a, b]) Q E s := by
 have nm:(toString "min" ++ toString ".loop":String) = "min.loop" := by decide
 refine call_function_tree PySem.F.kind_min PySem.F.plain_min PySem.F.entry_min (PySem.F.args_min2 _ _) ?_
 show wpAny _ A.in1 (Builtin.Builtins.bindParams "min" ["key", "default"] 0 ⟨[], []⟩ >>= _) _ _ s
 refine wpAny_bind (wpAny_of_eq (show Builtin.Builtins.bindParams "min" ["key", "default"] 0 ⟨[], []⟩ = pure [none, none] from rfl) ?_)
 show wpAny _ A.in1 (newTuple [a, b] >>= _) _ _ s
 refine wpAny_bind (wpAny_newObj_type ?_)
 have ask2:∀ i j x y (s':Shared) (Q:Value → Shared → Prop) (E:Value → Shared → Prop), Std (s.heap.push { cls := .type "tuple", data := .seq #[a, b] }) s'.heap → [a, b][i]? = some x → [a, b][j]? = some y → Q (.bool (bt i j)) s' → wpAny (model prog w) A.in1 (richCompare .Lt x y) Q E s' :=
  fun i j x y s' Q E k => ask i j x y s' Q E fun b o e => k b o (Heap.get?_push_of_some _ e)
 have fin2:∀ v h' tk, [a, b][argBest bt ([a, b].length - 1)]? = some v → Std (s.heap.push { cls := .type "tuple", data := .seq #[a, b] }) h' → Q v { s with heap := h', toks := tk } := fun v h' tk p k => fin v h' tk p fun b o e => k b o (Heap.get?_push_of_some _ e)
 have hl2:({ s with heap := s.heap.push { cls := .type "tuple", data := .seq #[a, b] } }:Shared).heap.IsTuple s.heap.objs.size [a, b].toArray := ⟨_, Heap.get?_push_size _ rfl, rfl, 0, rfl⟩
 have ne:0 < [a, b].length := by simp
 clear ask fin
 show wpAny _ A.in1 (pyIter (.ref s.heap.objs.size) >>= _) _ _ { s with heap := s.heap.push { cls := .type "tuple", data := .seq #[a, b] } }
 generalize s.heap.objs.size = l at *
 obtain ⟨s0, es0⟩:∃ s0:Shared, s0 = { s with heap := s.heap.push { cls := .type "tuple", data := .seq #[a, b] } } := ⟨_, rfl⟩
 have fin3:∀ v h' tk, [a, b][argBest bt ([a, b].length - 1)]? = some v → Std s0.heap h' → Q v { s0 with heap := h', toks := tk } := by subst es0; exact fin2
 have ask3:∀ i j x y (s':Shared) (Q:Value → Shared → Prop) (E:Value → Shared → Prop), Std s0.heap s'.heap → [a, b][i]? = some x → [a, b][j]? = some y → Q (.bool (bt i j)) s' → wpAny (model prog w) A.in1 (richCompare .Lt x y) Q E s' := by subst es0; exact ask2
 have hl:s0.heap.IsTuple l [a, b].toArray := by subst es0; exact hl2
 rw [← es0]
 clear ask2 fin2 hl2 es0
 generalize [a, b] = its at *
 have ll:l < s0.heap.objs.size := oq12 hl fun o ho _ => Heap.lt_size ho
 refine wpAny_bind (wpAny_pyIter_tuple hl ?_)
 refine wpAny_bind (wpAny_newList ?_ (Nat.zero_le _))
 rw [nm]
 generalize eI:s0.heap.objs.size = I9
 have e9:(s0.heap.push { cls := .type "tuple_iterator", data := .fields #[.ref l, .int 0 0] }).objs.size = I9 + 1 := by rw [← eI]; exact size_push' ..
 have gI:((s0.heap.push { cls := .type "tuple_iterator", data := .fields #[.ref l, .int 0 0] }).push (seqObj "list" #[] 0)).get? I9 = some { cls := .type "tuple_iterator", data := .fields #[.ref l, .int 0 0] } := by
  rw [← eI]; exact Heap.get?_push_of_some _ (Heap.get?_push_size _ rfl)
 have gS:((s0.heap.push { cls := .type "tuple_iterator", data := .fields #[.ref l, .int 0 0] }).push (seqObj "list" #[] 0)).get? (I9 + 1) = some (seqObj "list" #[] 0) := by rw [← e9]; exact Heap.get?_push_size _ rfl
 have old:Std s0.heap ((s0.heap.push { cls := .type "tuple_iterator", data := .fields #[.ref l, .int 0 0] }).push (seqObj "list" #[] 0)) := fun b o e => Heap.get?_push_of_some _ (Heap.get?_push_of_some _ e)
 have none_:∀ b, I9 ≤ b → s0.heap.get? b = none := fun b hb => by
  cases q:s0.heap.get? b with
  | none => rfl
  | some o => exact absurd (Heap.lt_size q) (Nat.not_lt.mpr (eI ▸ hb))
 have lI:l ≠ I9 := nz7 (eI ▸ ll)
 have W := PySem.Walks.tuple (prog := prog) (w := w) (A := A.in1) hh I9 l lI its.toArray
 have hl2:((s0.heap.push { cls := .type "tuple_iterator", data := .fields #[.ref l, .int 0 0] }).push (seqObj "list" #[] 0)).IsTuple l its.toArray := (hl.push _).push _
 have nS:I9 + 1 ∉ [I9, l] := fun z => by
  rcases List.mem_cons.mp z with z | z
  ·exact absurd z (Nat.succ_ne_self _)
  ·have e := List.mem_singleton.mp z
   have l2:l < I9 := nz1 ll (nz3 eI)
   exact absurd (e ▸ l2:I9 + 1 < I9) (Nat.not_lt.mpr (Nat.le_succ _))
 refine wpAny_pure ⟨plainId_quiet PySem.F.plain_min_loop _, ?_⟩
 rw [e9]
 refine codeAny_builtin PySem.F.entry_min_loop (Around.under_plainId PySem.F.plain_min_loop _ ▸ ?_)
 show wpAny _ A.in1 (seqItems? (.ref (I9 + 1)) >>= _) _ _ _
 have ne':0 < its.toArray.size := by rw [List.size_toArray]; exact ne
 refine wpAny_bind (wpAny_seqItems gS rfl (wpAny_bind (wpAny_tryCatch (W.item 0 _ _ _ ne' ⟨⟨_, gI, rfl, rfl⟩, hl2⟩ fun v h' tk pv st' kp => ?_))))
 have hS' := kp (I9 + 1) _ (fun z => absurd (List.mem_singleton.mp z) (Nat.succ_ne_self _)) gS
 obtain ⟨c2, hc2⟩:∃ c2, (h'.update (I9 + 1) (Obj.mapSeq fun _ => #[v, v])).get? (I9 + 1) = some (seqObj "list" #[v, v] c2) := ⟨_, get?_update_seq hS' fun _ => #[v, v]⟩
 have kp2:Std s0.heap (h'.update (I9 + 1) (Obj.mapSeq fun _ => #[v, v])) := fun b o z => by
  have lt:b < I9 := eI ▸ Heap.lt_size z
  rw [Heap.get?_update_ne _ _ _ _ (nz7 (Nat.lt_succ_of_lt lt))]
  exact kp b o (fun q => absurd (List.mem_singleton.mp q) (nz7 lt)) (old b o z)
 show wpAny _ A.in1 (updateSeq (I9 + 1) (fun _ => #[v, v]) >>= _) _ _ _
 refine wpAny_bind (wpAny_updateSeq hS' rfl ?_)
 rw [nm]
 have at0:∀ {i:Nat} {v:Value}, its.toArray[i]? = some v → its[i]? = some v := fun h => by rw [List.getElem?_toArray] at h; exact h
 refine wpAny_pure ⟨plainId_quiet PySem.F.plain_min_loop _, minT_go (n := its.toArray.size) W nS (fun b hb => by rw [List.mem_singleton.mp hb]; exact none_ _ (nz6 _)) (none_ _ (Nat.le_succ _)) (fun i j x y s' Q E k h1 h2 q => ask3 i j x y s' Q E k (at0 h1) (at0 h2) q) (its.toArray.size - 1) 0 _ v c2 (by omega) kp2 (W.frame _ _ _ st' fun b hb o z => ?_) pv hc2 fun v2 h2 tk2 p2 kp3 => ?_⟩
 ·have nb:b ≠ I9 + 1 := fun q => nS (q ▸ hb)
  show (h'.update (I9 + 1) (Obj.mapSeq fun _ => #[v, v])).get? b = some o
  rw [Heap.get?_update_ne _ _ _ _ nb]; exact z
 ·refine fin3 v2 h2 tk2 (by rw [List.size_toArray] at p2; exact at0 p2) fun b o z => ?_
  have lt:b < I9 := eI ▸ Heap.lt_size z
  exact kp3 b o (fun q => absurd (List.mem_singleton.mp q) (nz7 lt)) (nz7 (Nat.lt_succ_of_lt lt)) (kp2 b o z)
theorem maxT_two {a b:Value} {Q:Value → Shared → Prop} (hh:A.handled = none)
  (ask:∀ i j x y (s':Shared) (Q:Value → Shared → Prop) (E:Value → Shared → Prop), Std s.heap s'.heap → [a, b][i]? = some x → [a, b][j]? = some y → Q (.bool (bt i j)) s' → wpAny (model prog w) A.in1 (richCompare .Gt x y) Q E s')
  (fin:∀ v h' tk, [a, b][argBest bt 1]? = some v → Std s.heap h' → Q v { s with heap := h', toks := tk }):wpAny (model prog w) A (call (.builtin "max") [a, b]) Q E s := by
 have nm:(toString "max" ++ toString ".loop":String) = "max.loop" := by decide
 refine call_function_tree PySem.F.kind_max PySem.F.plain_max PySem.F.entry_max (PySem.F.args_max2 _ _) ?_
 show wpAny _ A.in1 (Builtin.Builtins.bindParams "max" ["key", "default"] 0 ⟨[], []⟩ >>= _) _ _ s
 refine wpAny_bind (wpAny_of_eq (show Builtin.Builtins.bindParams "max" ["key", "default"] 0 ⟨[], []⟩ = pure [none, none] from rfl) ?_)
 show wpAny _ A.in1 (newTuple [a, b] >>= _) _ _ s
 refine wpAny_bind (wpAny_newObj_type ?_)
 have ask2:∀ i j x y (s':Shared) (Q:Value → Shared → Prop) (E:Value → Shared → Prop), Std (s.heap.push { cls := .type "tuple", data := .seq #[a, b] }) s'.heap → [a, b][i]? = some x → [a, b][j]? = some y → Q (.bool (bt i j)) s' → wpAny (model prog w) A.in1 (richCompare .Gt x y) Q E s' :=
  fun i j x y s' Q E k => ask i j x y s' Q E fun b o e => k b o (Heap.get?_push_of_some _ e)
 have fin2:∀ v h' tk, [a, b][argBest bt ([a, b].length - 1)]? = some v → Std (s.heap.push { cls := .type "tuple", data := .seq #[a, b] }) h' → Q v { s with heap := h', toks := tk } := fun v h' tk p k => fin v h' tk p fun b o e => k b o (Heap.get?_push_of_some _ e)
 have hl2:({ s with heap := s.heap.push { cls := .type "tuple", data := .seq #[a, b] } }:Shared).heap.IsTuple s.heap.objs.size [a, b].toArray := ⟨_, Heap.get?_push_size _ rfl, rfl, 0, rfl⟩
 have ne:0 < [a, b].length := by simp
 clear ask fin
 show wpAny _ A.in1 (pyIter (.ref s.heap.objs.size) >>= _) _ _ { s with heap := s.heap.push { cls := .type "tuple", data := .seq #[a, b] } }
 generalize s.heap.objs.size = l at *
 obtain ⟨s0, es0⟩:∃ s0:Shared, s0 = { s with heap := s.heap.push { cls := .type "tuple", data := .seq #[a, b] } } := ⟨_, rfl⟩
 have fin3:∀ v h' tk, [a, b][argBest bt ([a, b].length - 1)]? = some v → Std s0.heap h' → Q v { s0 with heap := h', toks := tk } := by subst es0; exact fin2
 have ask3:∀ i j x y (s':Shared) (Q:Value → Shared → Prop) (E:Value → Shared → Prop), Std s0.heap s'.heap → [a, b][i]? = some x → [a, b][j]? = some y → Q (.bool (bt i j)) s' → wpAny (model prog w) A.in1 (richCompare .Gt x y) Q E s' := by subst es0; exact ask2
 have hl:s0.heap.IsTuple l [a, b].toArray := by subst es0; exact hl2
 rw [← es0]
 clear ask2 fin2 hl2 es0
 generalize [a, b] = its at *
 have ll:l < s0.heap.objs.size := oq12 hl fun o ho _ => Heap.lt_size ho
 refine wpAny_bind (wpAny_pyIter_tuple hl ?_)
 refine wpAny_bind (wpAny_newList ?_ (Nat.zero_le _))
 rw [nm]
 generalize eI:s0.heap.objs.size = I9
 have e9:(s0.heap.push { cls := .type "tuple_iterator", data := .fields #[.ref l, .int 0 0] }).objs.size = I9 + 1 := by rw [← eI]; exact size_push' ..
 have gI:((s0.heap.push { cls := .type "tuple_iterator", data := .fields #[.ref l, .int 0 0] }).push (seqObj "list" #[] 0)).get? I9 = some { cls := .type "tuple_iterator", data := .fields #[.ref l, .int 0 0] } := by
  rw [← eI]; exact Heap.get?_push_of_some _ (Heap.get?_push_size _ rfl)
 have gS:((s0.heap.push { cls := .type "tuple_iterator", data := .fields #[.ref l, .int 0 0] }).push (seqObj "list" #[] 0)).get? (I9 + 1) = some (seqObj "list" #[] 0) := by rw [← e9]; exact Heap.get?_push_size _ rfl
 have old:Std s0.heap ((s0.heap.push { cls := .type "tuple_iterator", data := .fields #[.ref l, .int 0 0] }).push (seqObj "list" #[] 0)) := fun b o e => Heap.get?_push_of_some _ (Heap.get?_push_of_some _ e)
 have none_:∀ b, I9 ≤ b → s0.heap.get? b = none := fun b hb => by
  cases q:s0.heap.get? b with
  | none => rfl
  | some o => exact absurd (Heap.lt_size q) (Nat.not_lt.mpr (eI ▸ hb))
 have lI:l ≠ I9 := nz7 (eI ▸ ll)
 have W := PySem.Walks.tuple (prog := prog) (w := w) (A := A.in1) hh I9 l lI its.toArray
 have hl2:((s0.heap.push { cls := .type "tuple_iterator", data := .fields #[.ref l, .int 0 0] }).push (seqObj "list" #[] 0)).IsTuple l its.toArray := (hl.push _).push _
 have nS:I9 + 1 ∉ [I9, l] := fun z => by
  rcases List.mem_cons.mp z with z | z
  ·exact absurd z (Nat.succ_ne_self _)
  ·have e := List.mem_singleton.mp z
   have l2:l < I9 := nz1 ll (nz3 eI)
   exact absurd (e ▸ l2:I9 + 1 < I9) (Nat.not_lt.mpr (Nat.le_succ _))
 refine wpAny_pure ⟨plainId_quiet PySem.F.plain_max_loop _, ?_⟩
 rw [e9]
 refine codeAny_builtin PySem.F.entry_max_loop (Around.under_plainId PySem.F.plain_max_loop _ ▸ ?_)
 show wpAny _ A.in1 (seqItems? (.ref (I9 + 1)) >>= _) _ _ _
 have ne':0 < its.toArray.size := by rw [List.size_toArray]; exact ne
 refine wpAny_bind (wpAny_seqItems gS rfl (wpAny_bind (wpAny_tryCatch (W.item 0 _ _ _ ne' ⟨⟨_, gI, rfl, rfl⟩, hl2⟩ fun v h' tk pv st' kp => ?_))))
 have hS' := kp (I9 + 1) _ (fun z => absurd (List.mem_singleton.mp z) (Nat.succ_ne_self _)) gS
 obtain ⟨c2, hc2⟩:∃ c2, (h'.update (I9 + 1) (Obj.mapSeq fun _ => #[v, v])).get? (I9 + 1) = some (seqObj "list" #[v, v] c2) := ⟨_, get?_update_seq hS' fun _ => #[v, v]⟩
 have kp2:Std s0.heap (h'.update (I9 + 1) (Obj.mapSeq fun _ => #[v, v])) := fun b o z => by
  have lt:b < I9 := eI ▸ Heap.lt_size z
  rw [Heap.get?_update_ne _ _ _ _ (nz7 (Nat.lt_succ_of_lt lt))]
  exact kp b o (fun q => absurd (List.mem_singleton.mp q) (nz7 lt)) (old b o z)
 show wpAny _ A.in1 (updateSeq (I9 + 1) (fun _ => #[v, v]) >>= _) _ _ _
 refine wpAny_bind (wpAny_updateSeq hS' rfl ?_)
 rw [nm]
 have at0:∀ {i:Nat} {v:Value}, its.toArray[i]? = some v → its[i]? = some v := fun h => by rw [List.getElem?_toArray] at h; exact h
 refine wpAny_pure ⟨plainId_quiet PySem.F.plain_max_loop _, maxT_go (n := its.toArray.size) W nS (fun b hb => by rw [List.mem_singleton.mp hb]; exact none_ _ (nz6 _)) (none_ _ (Nat.le_succ _)) (fun i j x y s' Q E k h1 h2 q => ask3 i j x y s' Q E k (at0 h1) (at0 h2) q) (its.toArray.size - 1) 0 _ v c2 (by omega) kp2 (W.frame _ _ _ st' fun b hb o z => ?_) pv hc2 fun v2 h2 tk2 p2 kp3 => ?_⟩
 ·have nb:b ≠ I9 + 1 := fun q => nS (q ▸ hb)
  show (h'.update (I9 + 1) (Obj.mapSeq fun _ => #[v, v])).get? b = some o
  rw [Heap.get?_update_ne _ _ _ _ nb]; exact z
 ·refine fin3 v2 h2 tk2 (by rw [List.size_toArray] at p2; exact at0 p2) fun b o z => ?_
  have lt:b < I9 := eI ▸ Heap.lt_size z
  exact kp3 b o (fun q => absurd (List.mem_singleton.mp q) (nz7 lt)) (nz7 (Nat.lt_succ_of_lt lt)) (kp2 b o z)
end
end L2
namespace L2
open PySem PySem.Spec PyProof.Rows
variable [Kon]
noncomputable def ml:List V → Hp → VK → Prop := fun xs H Q => ∃ x y a b, xs = [x, y] ∧ (rT2 rInt rInt).rel H x a ∧ (rT2 rInt rInt).rel H y b ∧ Q (if Pu.lt2 b a = true then y else x) H
theorem fh {X:Cx} {pins:List (Addr × Obj)} {σ:St} {H:Hp} {s:Shared} {x y:V} {u u':Value} {a b:Int × Int} (I:Inv X pins σ H s) (ru:RelV x u) (ru':RelV y u') (ra:(rT2 rInt rInt).rel H x a) (rb:(rT2 rInt rInt).rel H y b) {i:Nat} {z:Value} {h':Heap} (k:Std s.heap h') (e:[u, u'][i]? = some z) :
  ∃ a' o xs n t u, z = Value.ref a' ∧ h'.get? a' = some o ∧ o.cls = .type "tuple" ∧ o.data = .seq xs n ∧ xs = #[Value.int ([a, b].getD i (0, 0)).1 t, Value.int ([a, b].getD i (0, 0)).2 u] := by
 have pa:cm s.heap [u, u'] [a, b] := Vals.pairs I (.cons ru (.cons ru' .nil)) (.cons ra (.cons rb .nil))
 obtain ⟨y, ey, c, o, xs, n, t, u, e1, e2, e3, e4, e5⟩ := c0 (pa.kept k) e
 have e0:[a, b].getD i (0, 0) = y := by rw [List.getD_eq_getElem?_getD, ey]; rfl
 rw [e0]
 exact ⟨c, o, xs, n, t, u, e1, e2, e3, e4, e5⟩
theorem mq {X:Cx} (hc:X.calm = true) (hu:X.A.in1.units < cLine):ci X (.builtin "min") ml := by
 intro pins s σ H xs us Q I r h
 obtain ⟨x, y, a, b, rfl, ra, rb, q⟩ := h
 obtain ⟨u, u', rfl, ru, ru'⟩ := vals2 r
 refine minT_two (bt := fun i j => Pu.lt2 ([a, b].getD i (0, 0)) ([a, b].getD j (0, 0))) (I.ok.hd hc) (fun i j x y s' Q' E' k e1 e2 hq => ?_) fun v h' tk ev k => ?_
 ·obtain ⟨a, o, xs, n, t, u, rfl, g1, g2, g3, rfl⟩ := fh I ru ru' ra rb k e1
  obtain ⟨a', o', xs', n', t', u', rfl, f1, f2, f3, rfl⟩ := fh I ru ru' ra rb k e2
  refine HT.dY ⟨o, g1, g2, n, g3⟩ ⟨o', f1, f2, n', f3⟩ (.cons _ _ (.cons _ _ .nil)) (.cons _ _ (.cons _ _ .nil)) hu ?_
  rw [hU]; exact hq
 ·cases e:Pu.lt2 b a with
  | true =>
   have e1:argBest (fun i j => Pu.lt2 ([a, b].getD i (0, 0)) ([a, b].getD j (0, 0))) 1 = 1 := by simp [argBest, e]
   rw [e1] at ev
   cases ev
   exact ⟨y, H, I.kept k, ru', by rw [if_pos e] at q; exact q⟩
  | false =>
   have e1:argBest (fun i j => Pu.lt2 ([a, b].getD i (0, 0)) ([a, b].getD j (0, 0))) 1 = 0 := by simp [argBest, e]
   rw [e1] at ev
   cases ev
   exact ⟨x, H, I.kept k, ru, by rw [if_neg (by rw [e]; exact Bool.false_ne_true)] at q; exact q⟩
theorem ev_min2P {Γ:List Slot} {ta tb:TE} {oa ob:Option (Int × Int)} (h:EV Γ ta oa (rT2 rInt rInt)) (h':EV Γ tb ob (rT2 rInt rInt)):EV Γ (tCB ml (aH ta (aH tb tNil))) (oa.bind fun a => ob.bind fun b => some (if Pu.lt2 b a = true then b else a)) (rT2 rInt rInt) := by
 intro C F σ H Q c S e k
 refine oq12 (a9 e) fun a e1 e => ?_
 refine oq12 (a9 e) fun b e2 e => ?_
 cases e
 refine EV.two (q := fun x y H2 => ml [x, y] H2 Q) h h' S e1 e2 fun x y F' H' x1 r1 r2 => ⟨x, y, a, b, rfl, Rp.mono _ x1.sub r1, Rp.mono _ x1.sub r2, ?_⟩
 refine k _ F' H' x1 ?_
 split
 ·exact r2
 ·exact r1
end L2
namespace L2
open PySem PySem.Spec PyProof.Rows
section
open PySem.SeqAt
open PySem.AutoSeq1 (wpAny_loadPart')
open PySem.MeetsSeq PySem.MeetsSeq2 PySem.MeetsSeq3
theorem kZ (l b:Addr) (x1 x2 y1 y2:Int) (t u t' u':Tok) (n n2:Nat) (dd dd2:Option Addr) (sl sl2:Array (Option Value)) :
  Meets (Builtin.«tuple.__gt__» ⟨[.ref l, .ref b], []⟩)
   (fun _ R s => s.heap.get? l = some { cls := .type "tuple", dict := dd, data := .seq #[.int x1 t, .int x2 u] n, slots := sl } ∧ s.heap.get? b = some { cls := .type "tuple", dict := dd2, data := .seq #[.int y1 t', .int y2 u'] n2, slots := sl2 } ∧
    R (.ok (.ret (.bool (Pu.lt2 (y1, y2) (x1, x2))))) s) :=
 .of_wp fun prog w A R s h => by
  obtain ⟨hp, g, d, tk, os⟩ := s
  obtain ⟨hl, hb, h⟩ := h
  have f2 := AutoSeq1.sub_tuple_tuple
  wp_walk using wpAny_loadPart' hl, wpAny_loadPart' hb, wpAny_forIn_list _ (fun rest b s' => b.1 = none ∧ s' = ⟨hp, g, d, tk, os⟩ ∧
   (rest = [(.int x1 t, .int y1 t'), (.int x2 u, .int y2 u')] ∨ (rest = [(.int x2 u, .int y2 u')] ∧ x1 = y1) ∨ (rest = [] ∧ x1 = y1 ∧ x2 = y2))) _
  case turn =>
   rintro ⟨x, y⟩ rest b s' ⟨hb', rfl, hz⟩
   rcases hz with hz | ⟨hz, e1⟩ | ⟨hz, _⟩
   ·injection hz with hxy hrest
    injection hxy with hx hy
    subst hx hy
    refine oq12 (HT.gL A.in1 ⟨hp, g, d, tk, os⟩ x1 t y1 t') fun e he hiff => ?_
    refine wpAny_bind (he prog w _ _ ?_)
    cases e with
    | true =>
     wp_walk
     exact ⟨rfl, rfl, .inr (.inl ⟨hrest, hiff.mp rfl⟩)⟩
    | false =>
     have ne:x1 ≠ y1 := fun q => absurd (hiff.mpr q) Bool.false_ne_true
     have ev:Pu.lt2 (y1, y2) (x1, x2) = decide (x1 > y1) := by unfold Pu.lt2; rw [Bool.eq_iff_iff]; simp; omega
     rw [ev] at h
     have hri := fun (E:Value → Shared → Prop) (Q:Value → Shared → Prop) (h:Q (.bool (decide (x1 > y1))) ⟨hp, g, d, tk, os⟩) => (PyProof.Rows.gt_int h:wpAny (model prog w) A.in1 (compareOp .Gt (.int x1 t) (.int y1 t')) Q E ⟨hp, g, d, tk, os⟩)
     have hri2:∀ (E:Value → Shared → Prop) (Q:Value → Shared → Prop) (_:Q (.bool (decide (x1 > y1))) ⟨hp, g, d, tk, os⟩), wpAny (model prog w) A.in1 (richCompare .Gt (.int x1 t) (.int y1 t')) Q E ⟨hp, g, d, tk, os⟩ := hri
     wp_walk using hri2
     exact ⟨_, rfl, by simpa using h⟩
   ·injection hz with hxy hrest
    injection hxy with hx hy
    subst hx hy
    refine oq12 (HT.gL A.in1 ⟨hp, g, d, tk, os⟩ x2 u y2 u') fun e he hiff => ?_
    refine wpAny_bind (he prog w _ _ ?_)
    cases e with
    | true =>
     wp_walk
     exact ⟨rfl, rfl, .inr (.inr ⟨hrest, e1, hiff.mp rfl⟩)⟩
    | false =>
     have ne:x2 ≠ y2 := fun q => absurd (hiff.mpr q) Bool.false_ne_true
     have ev:Pu.lt2 (y1, y2) (x1, x2) = decide (x2 > y2) := by unfold Pu.lt2; rw [Bool.eq_iff_iff]; simp; omega
     rw [ev] at h
     have hri2:∀ (E:Value → Shared → Prop) (Q:Value → Shared → Prop) (_:Q (.bool (decide (x2 > y2))) ⟨hp, g, d, tk, os⟩), wpAny (model prog w) A.in1 (richCompare .Gt (.int x2 u) (.int y2 u')) Q E ⟨hp, g, d, tk, os⟩ := fun E Q h => (PyProof.Rows.gt_int h:wpAny (model prog w) A.in1 (compareOp .Gt (.int x2 u) (.int y2 u')) Q E ⟨hp, g, d, tk, os⟩)
     wp_walk using hri2
     exact ⟨_, rfl, by simpa using h⟩
   ·cases hz
  case fin =>
   rintro ⟨b1, b2⟩ s' ⟨hb', rfl, hz⟩
   simp only at hb'
   subst hb'
   rcases hz with hz | ⟨hz, _⟩ | ⟨_, e1, e2⟩
   ·cases hz
   ·cases hz
   have ev:Pu.lt2 (y1, y2) (x1, x2) = false := by unfold Pu.lt2; rw [decide_eq_false_iff_not]; simp; omega
   rw [ev] at h
   wp_walk
   exact ⟨_, rfl, by simpa [Builtin.Tuple.tupleCompareSizes] using h⟩
  case h =>
   exact ⟨rfl, rfl, .inl rfl⟩
end
end L2
namespace L2
open PySem PySem.Spec PyProof.Rows
theorem gt_pairs {prog:Program} {w:World} {A:Around} {E:Value → Shared → Prop} {s:Shared} {l b:Addr} {x y:Int × Int} {t u t' u':Tok} {Q:Value → Shared → Prop} (hl:IsTup s.heap l #[.int x.1 t, .int x.2 u]) (hb:IsTup s.heap b #[.int y.1 t', .int y.2 u'])
  (hu:A.units < cLine) (h:Q (.bool (Pu.lt2 y x)) s):wpAny (model prog w) A (richCompare .Gt (.ref l) (.ref b)) Q E s := by
 obtain ⟨⟨cls, dd, data, sl⟩, ho, hc, n, hd⟩ := id hl
 obtain ⟨⟨cls2, dd2, data2, sl2⟩, ho2, hc2, n2, hd2⟩ := id hb
 simp only at hc hd hc2 hd2
 subst hc hd hc2 hd2
 exact richCompare_meets_room (op := .Gt) ⟨_, ho, rfl⟩ ⟨_, ho2, rfl⟩ PySem.F.slot_tuple_gt PySem.F.entry_tuple_gt (PySem.F.args_tuple_gt_2 _ _) (kZ l b x.1 x.2 y.1 y.2 t u t' u' n n2 dd dd2 sl sl2)
  ⟨ho, ho2, show Value.bool (Pu.lt2 y x) ≠ Value.notImplemented ∧ Q (.bool (Pu.lt2 y x)) s from ⟨(fun x => nomatch x), h⟩⟩ hu
variable [Kon]
noncomputable def mt:List V → Hp → VK → Prop := fun xs H Q => ∃ x y a b, xs = [x, y] ∧ (rT2 rInt rInt).rel H x a ∧ (rT2 rInt rInt).rel H y b ∧ Q (if Pu.lt2 a b = true then y else x) H
theorem mw {X:Cx} (hc:X.calm = true) (hu:X.A.in1.units < cLine):ci X (.builtin "max") mt := by
 intro pins s σ H xs us Q I r h
 obtain ⟨x, y, a, b, rfl, ra, rb, q⟩ := h
 obtain ⟨u, u', rfl, ru, ru'⟩ := vals2 r
 refine maxT_two (bt := fun i j => Pu.lt2 ([a, b].getD j (0, 0)) ([a, b].getD i (0, 0))) (I.ok.hd hc) (fun i j x y s' Q' E' k e1 e2 hq => ?_) fun v h' tk ev k => ?_
 ·obtain ⟨a, o, xs, n, t, u, rfl, g1, g2, g3, rfl⟩ := fh I ru ru' ra rb k e1
  obtain ⟨a', o', xs', n', t', u', rfl, f1, f2, f3, rfl⟩ := fh I ru ru' ra rb k e2
  exact gt_pairs ⟨o, g1, g2, n, g3⟩ ⟨o', f1, f2, n', f3⟩ hu hq
 ·cases e:Pu.lt2 a b with
  | true =>
   have e1:argBest (fun i j => Pu.lt2 ([a, b].getD j (0, 0)) ([a, b].getD i (0, 0))) 1 = 1 := by simp [argBest, e]
   rw [e1] at ev
   cases ev
   exact ⟨y, H, I.kept k, ru', by rw [if_pos e] at q; exact q⟩
  | false =>
   have e1:argBest (fun i j => Pu.lt2 ([a, b].getD j (0, 0)) ([a, b].getD i (0, 0))) 1 = 0 := by simp [argBest, e]
   rw [e1] at ev
   cases ev
   exact ⟨x, H, I.kept k, ru, by rw [if_neg (by rw [e]; exact Bool.false_ne_true)] at q; exact q⟩
theorem ev_max2P {Γ:List Slot} {ta tb:TE} {oa ob:Option (Int × Int)} (h:EV Γ ta oa (rT2 rInt rInt)) (h':EV Γ tb ob (rT2 rInt rInt)):EV Γ (tCB mt (aH ta (aH tb tNil))) (oa.bind fun a => ob.bind fun b => some (if Pu.lt2 a b = true then b else a)) (rT2 rInt rInt) := by
 intro C F σ H Q c S e k
 refine oq12 (a9 e) fun a e1 e => ?_
 refine oq12 (a9 e) fun b e2 e => ?_
 cases e
 refine EV.two (q := fun x y H2 => mt [x, y] H2 Q) h h' S e1 e2 fun x y F' H' x1 r1 r2 => ⟨x, y, a, b, rfl, Rp.mono _ x1.sub r1, Rp.mono _ x1.sub r2, ?_⟩
 refine k _ F' H' x1 ?_
 split
 ·exact r2
 ·exact r1
end L2
namespace L2
open PySem PySem.Spec PyProof.Rows
section
variable {prog:Program} {w:World} {A:Around} {E:Value → Shared → Prop} {s:Shared} {d it v:Addr} {es:Array DictEntry} {ep i:Nat} {ok ov:Value}
theorem itm_call {Q:Value → Shared → Prop} (hd:(d == sysModules) = false) (hm:ck s.heap d es ep)
  (h:Q (.ref s.heap.objs.size) { s with heap := s.heap.push { cls := .type "dict_items", data := .fields #[.ref d] } }):wpAny (model prog w) A (call (.builtin "dict.items") [.ref d]) Q E s := by
 refine wpAny_call_entry PySem.F.slot_dict_items hm.typeIs PySem.F.entry_dict_items ?_ (PySem.F.args_dict_items_1 _)
 unfold Builtin.«dict.items»
 refine wpAny_bind ?_
 unfold Builtin.Dict.noArgs
 refine wpAny_bind (wpAny_notOrdered_dict hm.typeIs ?_)
 show wpAny _ _ (pure d) _ _ s
 refine wpAny_pure ?_
 show wpAny _ _ (Builtin.Dict.showsAll d >>= _) _ _ s
 unfold Builtin.Dict.showsAll
 rw [if_neg (by rw [hd]; exact Bool.false_ne_true)]
 refine wpAny_bind (wpAny_pure ?_)
 exact wpAny_bind (wpAny_newObj_type (wpAny_pure ⟨_, rfl, h⟩))
theorem itm_iter {Q:Value → Shared → Prop} (hv:s.heap.IsItemsView v d) (hm:ck s.heap d es ep)
  (hQ:Q (.ref s.heap.objs.size) { s with heap := s.heap.push { cls := .type "dict_itemiterator", data := .fields #[.none, .bool false, .ref d, .int 0 0, .int es.size 0, .int ep 0, .none, .none] } }) :
  wpAny (model prog w) A (pyIter (.ref v)) Q E s := by
 obtain ⟨ov, hov, hcv, hdv⟩ := id hv
 obtain ⟨o, ho, hc, hdat⟩ := hm
 refine wpAny_pyIter_slot hv.typeIs PySem.F.slot_dict_items_iter (wpAny_call_entry PySem.F.slot_dict_items_iter hv.typeIs PySem.F.entry_dict_items_iter ?_ (PySem.F.args_dict_items_iter_1 _))
 unfold Builtin.«dict_items.__iter__»
 refine wpAny_bind (wpAny_pure ?_)
 refine wpAny_bind ?_
 unfold Builtin.Dict_items.dictOf
 refine wpAny_bind (wpAny_field hov hdv (x := .ref d) rfl (wpAny_pure ?_))
 refine wpAny_bind ?_
 unfold Builtin.Dict_items.newIterator
 refine wpAny_bind (wpAny_dictEntries ho hdat ?_)
 refine wpAny_bind (wpAny_dictEpoch ho hdat ?_)
 have hown:Builtin.Dict_items.ownsTuple "dict_itemiterator" = true := by decide
 simp only [hown, if_true]
 refine wpAny_newObj_type (wpAny_pure ⟨_, rfl, "dict_itemiterator", _, ⟨_, Heap.get?_push_size _ rfl, rfl⟩, PySem.F.slot_dict_itemiterator_next.lookup, ?_⟩)
  (by simp only [sizeOk, Builtin.Dict_items.ownedTupleFields, List.size_toArray, List.length_append, List.length_cons, List.length_nil, sizeLine_eq]; omega)
 simpa [rawInt, Builtin.Dict_items.ownedTupleFields] using hQ
theorem itm_step {Q:Option Value → Shared → Prop} (hit:IsItemIter s.heap it d i es.size ep ok ov) (hm:ck s.heap d es ep) (hlt':i < es.size)
  (hQ:∀ h', IsItemIterOut h' it d (i + 1) es.size ep es[i].key es[i].val s.heap.objs.size →
   h'.get? s.heap.objs.size = some { cls := .type "tuple", data := .seq #[es[i].key, es[i].val] } → h'.objs.size = s.heap.objs.size + 1 →
   (∀ b o, b ≠ it → s.heap.get? b = some o → h'.get? b = some o) → Q (some (.ref s.heap.objs.size)) { s with heap := h' }) :
  wpAny (model prog w) A (pyNext (.ref it)) Q E s := by
 obtain ⟨hp, g, dr, tk, os⟩ := s
 obtain ⟨od, hod, hcd, hdd⟩ := hm
 have hT:Shared.TypeIs ⟨hp, g, dr, tk, os⟩ (.ref it) "dict_itemiterator" := ⟨_, hit, rfl⟩
 unfold pyNext
 refine wpAny_bind (wpAny_attempt (wpAny_callSpecial?_slot (name := Str.ofString "__next__") hT PySem.F.slot_dict_itemiterator_next
  (wpAny_call_entry PySem.F.slot_dict_itemiterator_next hT PySem.F.entry_dict_itemiterator_next ?_ (PySem.F.args_dict_itemiterator_next_1 _))))
 refine wpAny_bind (wpAny_pure ?_)
 refine wpAny_bind ?_
 refine wpAny_bind ?_
 first | refine wpAny_bind (wpAny_typeNameOfWhole_itemiter hT (wpAny_pure ?_)) | refine wpAny_bind (wpAny_typeNameOf_itemiter hT (wpAny_pure ?_))
 refine wpAny_bind (wpAny_fieldsOf hit rfl ?_)
 have hown:Builtin.Dict_items.ownsTuple "dict_itemiterator" = true := by decide
 simp only [hown, if_true]
 show wpAny _ _ (if (Value.ref d == Value.none) = true then _ else _) _ _ _
 rw [if_neg (show ¬ ((Value.ref d == Value.none) = true) from Bool.false_ne_true)]
 refine wpAny_bind (wpAny_pure ?_)
 refine wpAny_bind (wpAny_dictEntries hod hdd ?_)
 rw [if_neg (by simp)]
 refine wpAny_bind (wpAny_pure ?_)
 refine wpAny_bind (wpAny_dictEpoch hod hdd ?_)
 rw [if_neg (by simp)]
 refine wpAny_pure ?_
 simp only [show ¬ ((i:Int) < 0) from by omega, if_false, Int.toNat_natCast, Array.getElem?_eq_getElem hlt']
 refine wpAny_bind ?_
 first | refine wpAny_bind (wpAny_typeNameOfWhole_itemiter hT (wpAny_pure ?_)) | refine wpAny_bind (wpAny_typeNameOf_itemiter hT (wpAny_pure ?_))
 refine wpAny_bind (wpAny_isOneOf_itemiter hT ?_)
 show wpAny _ _ (setField (.ref it) 3 (rawInt ((i:Int) + 1)) >>= _) _ _ ⟨hp, g, dr, tk, os⟩
 refine wpAny_bind (wpAny_setField_rec hit (by simp) fun h₁ he₁ hs₁ => ?_)
 replace hs₁:Heap.SameBut it hp h₁ := hs₁
 replace he₁:IsItemIter h₁ it d (i + 1) es.size ep ok ov := by
  have e:((i + 1:Nat):Int) = (i:Int) + 1 := by omega
  unfold IsItemIter; rw [e]; simpa [rawInt] using he₁
 have hT₁:Shared.TypeIs ⟨h₁, g, dr, tk, os⟩ (.ref it) "dict_itemiterator" := ⟨_, he₁, rfl⟩
 refine wpAny_bind (wpAny_holding ?_)
 refine wpAny_bind (wpAny_isOneOf_itemiter hT₁ ?_)
 refine wpAny_bind (wpAny_isOneOf_itemiter hT₁ ?_)
 show wpAny _ _ (Builtin.Dict_items.pairFromOwner (.ref it) 6 es[i].key es[i].val) _ _ ⟨h₁, g, dr, tk, os⟩
 unfold Builtin.Dict_items.pairFromOwner
 refine wpAny_bind (wpAny_newTuple ?_)
 have he₂:IsItemIter (h₁.push { cls := .type "tuple", data := .seq #[es[i].key, es[i].val] }) it d (i + 1) es.size ep ok ov := Heap.get?_push_of_some _ he₁
 generalize hh₂:h₁.push { cls := .type "tuple", data := .seq #[es[i].key, es[i].val] } = h₂ at he₂
 have hz₁:h₁.objs.size = hp.objs.size := hs₁.1
 have hil:it < hp.objs.size := Heap.lt_size hit
 have ht₂:h₂.get? hp.objs.size = some { cls := .type "tuple", data := .seq #[es[i].key, es[i].val] } := by rw [← hh₂, ← hz₁]; exact Heap.get?_push_size _ rfl
 have hz₂:h₂.objs.size = hp.objs.size + 1 := by rw [← hh₂, Heap.size_push, hz₁]
 have hk₂:∀ b o, b ≠ it → hp.get? b = some o → h₂.get? b = some o := fun b o hb e => by rw [← hh₂]; exact Heap.get?_push_of_some _ (hs₁.extBut b o hb e)
 show wpAny _ _ (Builtin.Dict_items.ownedTupleIsFree (.ref it) >>= _) _ _ ⟨h₂, g, dr, tk, os⟩
 rw [hz₁]
 clear hh₂ he₁ hs₁ hT₁ hz₁ h₁
 refine wpAny_bind ?_
 unfold Builtin.Dict_items.ownedTupleIsFree
 refine wpAny_bind (wpAny_field he₂ rfl (x := .none) rfl (wpAny_pure ?_))
 simp only [if_true]
 refine wpAny_bind (wpAny_field he₂ rfl (x := ok) rfl ?_)
 refine wpAny_bind (wpAny_field he₂ rfl (x := ov) rfl ?_)
 refine wpAny_bind (wpAny_setField_rec he₂ (by simp) fun h₃ he₃ hs₃ => ?_)
 replace hs₃:Heap.SameBut it h₂ h₃ := hs₃
 replace he₃:IsItemIter h₃ it d (i + 1) es.size ep es[i].key ov := he₃
 refine wpAny_bind (wpAny_setField_rec he₃ (by simp) fun h₄ he₄ hs₄ => ?_)
 replace hs₄:Heap.SameBut it h₃ h₄ := hs₄
 replace he₄:IsItemIter h₄ it d (i + 1) es.size ep es[i].key es[i].val := he₄
 refine wpAny_bind (wpAny_setField_rec he₄ (by simp) fun h₅ he₅ hs₅ => ?_)
 replace hs₅:Heap.SameBut it h₄ h₅ := hs₅
 replace he₅:IsItemIterOut h₅ it d (i + 1) es.size ep es[i].key es[i].val hp.objs.size := he₅
 refine wpAny_bind (wpAny_setField_rec he₅ (by simp) fun h₆ he₆ hs₆ => ?_)
 replace hs₆:Heap.SameBut it h₅ h₆ := hs₆
 replace he₆:IsItemIterOut h₆ it d (i + 1) es.size ep es[i].key es[i].val hp.objs.size := he₆
 refine wpAny_bind (wpAny_letGo (wpAny_pure (wpAny_pure ⟨_, rfl, wpAny_pure (hQ h₆ he₆ ?_ ?_ ?_)⟩)))
 ·exact hs₆.extBut _ _ (Nat.ne_of_gt hil) (hs₅.extBut _ _ (Nat.ne_of_gt hil) (hs₄.extBut _ _ (Nat.ne_of_gt hil) (hs₃.extBut _ _ (Nat.ne_of_gt hil) ht₂)))
 ·show h₆.objs.size = hp.objs.size + 1
  rw [hs₆.1, hs₅.1, hs₄.1, hs₃.1, hz₂]
 ·exact fun b o hb e => hs₆.extBut b o hb (hs₅.extBut b o hb (hs₄.extBut b o hb (hs₃.extBut b o hb (hk₂ b o hb e))))
theorem itm_end {Q:Option Value → Shared → Prop} (hh:A.handled = none) (hit:IsItemIter s.heap it d i es.size ep ok ov) (hm:ck s.heap d es ep) (hge:es.size ≤ i)
  (hQ:∀ h', Heap.ExtBut it s.heap h' → Q none { s with heap := h' }):wpAny (model prog w) A (pyNext (.ref it)) Q E s := by
 obtain ⟨od, hod, hcd, hdd⟩ := hm
 have hT:s.TypeIs (.ref it) "dict_itemiterator" := ⟨_, hit, rfl⟩
 unfold pyNext
 refine wpAny_bind (wpAny_attempt (wpAny_callSpecial?_slot (name := Str.ofString "__next__") hT PySem.F.slot_dict_itemiterator_next
  (wpAny_call_entry PySem.F.slot_dict_itemiterator_next hT PySem.F.entry_dict_itemiterator_next ?_ (PySem.F.args_dict_itemiterator_next_1 _))))
 refine wpAny_bind (wpAny_pure ?_)
 refine wpAny_bind ?_
 refine wpAny_bind ?_
 first | refine wpAny_bind (wpAny_typeNameOfWhole_itemiter hT (wpAny_pure ?_)) | refine wpAny_bind (wpAny_typeNameOf_itemiter hT (wpAny_pure ?_))
 refine wpAny_bind (wpAny_fieldsOf hit rfl ?_)
 have hown:Builtin.Dict_items.ownsTuple "dict_itemiterator" = true := by decide
 simp only [hown, if_true]
 show wpAny _ _ (if (Value.ref d == Value.none) = true then _ else _) _ _ s
 rw [if_neg (show ¬ ((Value.ref d == Value.none) = true) from Bool.false_ne_true)]
 refine wpAny_bind (wpAny_pure ?_)
 refine wpAny_bind (wpAny_dictEntries hod hdd ?_)
 rw [if_neg (by simp)]
 refine wpAny_bind (wpAny_pure ?_)
 refine wpAny_bind (wpAny_dictEpoch hod hdd ?_)
 rw [if_neg (by simp)]
 refine wpAny_pure ?_
 simp only [show ¬ ((i:Int) < 0) from by omega, if_false, Int.toNat_natCast, Array.getElem?_eq_none hge]
 refine wpAny_bind ?_
 first | refine wpAny_bind (wpAny_typeNameOfWhole_itemiter hT (wpAny_pure ?_)) | refine wpAny_bind (wpAny_typeNameOf_itemiter hT (wpAny_pure ?_))
 show wpAny _ _ (setField (.ref it) 2 .none >>= _) _ _ s
 refine wpAny_bind (wpAny_setField hit rfl (by simp) ?_)
 show wpAny _ _ (newExc (.type "StopIteration") [] >>= _) _ _ _
 refine wpAny_bind ?_
 simp only [newExc, newTuple]
 refine wpAny_bind (wpAny_newObj_type ?_ (by size_fits))
 refine wpAny_bind (m := firstArgMember _ _) (wpAny_of_eq (a := Value.none) (by first | rfl | (simp only [firstArgMember]; rfl)) ?_)
 refine wpAny_newObj_type ?_ (by size_fits)
 simp only [raiseNew]
 refine wpAny_bind (wpAny_handled ?_)
 rw [show A.in1.handled = none from hh]
 refine wpAny_bind (wpAny_pure (wpAny_throw ?_))
 refine wpAny_bind (wpAny_isInstance (T := "StopIteration") (b := true) ⟨_, Heap.get?_push_size _ rfl, rfl⟩ isSubtype_stop ?_)
 exact wpAny_pure (hQ _ (((Heap.SameBut.update ..).extBut.push _).push _))
end
noncomputable def Iti (a:Addr) (o:Obj) (ws:List (List Key × V)):It :=
 ⟨fun i H => H a = some (.frz o (.dT ws)) ∧ i < ws.length, fun i H x H' => ∃ p b k v, x = .ref p ∧ H p = none ∧ H' = upd H p (.tup [.ref b, v]) ∧ ws[i]? = some (k, v) ∧ H b = some (.tup (k.map kV)), fun i H => H a = some (.frz o (.dT ws)) ∧ ws.length ≤ i⟩
theorem mB {P:Program} {w:World} {H:Hp} {h:Heap} {a:Addr} {o:Obj} {ws:List (List Key × V)} (x:aG P w H h a (.frz o (.dT ws))):∃ es ep, o.data = .dict es ep ∧ ck h a es ep ∧ es.size = ws.length ∧ (a == sysModules) = false ∧ ∀ i (hi:i < es.size), ∃ k v b u, ws[i]? = some (k, v) ∧ H b = some (.tup (k.map kV)) ∧ es[i].key = .ref b ∧ es[i].val = u ∧ RelV v u := by
 obtain ⟨ho, l, lo, xs, rel, o', es, ep, e1, e2, e3, e4, e5⟩ := x
 have eo:o' = o := Option.some.inj (e1.symm.trans ho)
 subst eo
 have hes:es.size = xs.length := size_of_entries e4
 have lx:ws.length = xs.length := Paired.length rel
 refine ⟨es, ep, e3, ⟨o', e1, e2, e3⟩, hes.trans lx.symm, lo, fun i hi => ?_⟩
 have hx:i < xs.length := hes ▸ hi
 obtain ⟨y, g1, g2, g3, g4⟩ := bu rel (List.getElem?_eq_getElem hx)
 have e6 := entry_at e4 i
 rw [Array.getElem?_eq_getElem hi, List.getElem?_eq_getElem hx] at e6
 have e7 := Option.some.inj e6
 exact ⟨y.1, y.2, xs[i].2.1, xs[i].2.2, g1, g3, by rw [e7]; rfl, by rw [e7]; rfl, g4⟩
theorem mC {P:Program} {w:World} {K:PySem.W.Frag} {elts:List Expr} {x1:Nat} {pos:Pos} {o:Obj} {ws:List (List Key × V)} {es:Array DictEntry} {ep:Nat} (a it:Addr) (hd:o.data = .dict es ep) :
  Turn P w K (.Tuple elts x1 pos) (Iti a o ws) [it] it (fun i h => ∃ ok ov, IsItemIter h it a i es.size ep ok ov) where
 mem := by simp
 obj := fun i h st b hb => by
  have e:b = it := by simpa using hb
  subst e
  refine oq21 st fun ok ov st => ?_
  exact ⟨_, st, fun v q => by have q':Data.fields _ = Data.cell v := q; cases q'⟩
 keep := fun i h h' st k => oq21 st fun ok ov st => ⟨ok, ov, k it (by simp) _ st⟩
 item := by
  intro X hP hw hK hc i pins s σ H E I hf st hg
  subst hP hw hK
  refine oq21 st fun ok ov st => oq02 hg fun ha hlt => ?_
  obtain ⟨es', ep', hd', hm, hz, lo, hat⟩ := mB (I.hok a _ ha)
  rw [hd] at hd'
  cases hd'
  have hi:i < es.size := hz ▸ hlt
  obtain ⟨k, v, b, u, g1, g2, g3, g4, g5⟩ := hat i hi
  refine itm_step st hm hi fun h1 heo ht1 hz1 hk1 => ?_
  rw [g3, g4] at heo ht1
  refine (oi12 _ rfl (wpAny_letOwnedTupleGo_items heo fun h2 he2 hs2 => ?_))
  replace hs2:Heap.SameBut it h1 h2 := hs2
  have hlt:it < s.heap.objs.size := Heap.lt_size st
  have hk2:∀ b o, b ∉ [it] → s.heap.get? b = some o → h2.get? b = some o := fun b o hb q => by
   have b1:b ≠ it := fun z => hb (by simp [z])
   exact (hs2.2 b b1).trans (hk1 b o b1 q)
  have t2:h2.get? s.heap.objs.size = some { cls := .type "tuple", data := .seq #[.ref b, u] } := (hs2.2 _ (Nat.ne_of_gt hlt)).trans ht1
  refine (oi25 (.ref s.heap.objs.size) _ (I.turnNew (t' := s.toks) (ch := [it]) (a := s.heap.objs.size) (o := .tup [.ref b, v]) hf (nz6 _) hk2 ?_) rfl ⟨_, b, k, v, rfl, I.hok.fresh (nz6 _), rfl, g1, g2⟩ ⟨.ref b, u, he2⟩ (fun c hb => ?_))
  ·exact ⟨by show 2 ≤ sizeLine; decide, [.ref b, u], .cons rfl (.cons g5 .nil), ⟨_, t2, rfl, _, rfl⟩⟩
  ·have f := hf c hb
   have e:c = it := by simpa using hb
   rw [ac (by rw [e]; exact nz7 hlt)]; exact f.1
 done := by
  intro X hP hw hK hc i pins s σ H E I hf st hg
  subst hP hw hK
  refine oq21 st fun ok ov st => oq02 hg fun ha hge => ?_
  obtain ⟨es', ep', hd', hm, hz, lo, hat⟩ := mB (I.hok a _ ha)
  rw [hd] at hd'
  cases hd'
  exact itm_end (I.ok.hd hc) st hm (hz ▸ hge) fun h' eb => ⟨rfl, I.turnedL (t' := s.toks) (ch := [it]) hf fun b o hb q => eb b o (fun z => hb (by simp [z])) q⟩
 self := fun _ _ _ _ _ st h => oq21 st fun ok ov st => PySem.W.kcp_self st h
noncomputable def iItemsT (td:TE):TI := fun σ H R => td σ H fun x H1 => ∃ a o ws, x = .ref a ∧ H1 a = some (.frz o (.dT ws)) ∧ R (Iti a o ws) H1
theorem pi_itemsT {X:Cx} {elts:List Expr} {x1:Nat} {tpos apos cpos:Pos} {e:Expr} {td:TE} (he:PE X e td) (hbase:attributeBase e "items" X.env (eval e X.env) = eval e X.env := by rfl) (hline:(apos.endLine == cpos.line) = true := by rfl) :
  PI X (.Tuple elts x1 tpos) (.Call (.Attribute e "items" apos) [] [] cpos) (iItemsT td) := by
 intro pins s σ H R I h
 refine wpAny_Call_method0_late hbase hline (thn (he pins s σ H _ I h) fun v s1 zq => oq23 zq fun x H1 I1 r1 zz => oq33 zz fun a o ws ex ha q => ?_)
 subst ex
 cases r1
 refine oq03 (lN I1 (.inr ⟨ws, .inr ⟨o, ha⟩⟩)) fun t1 t2 lo => ?_
 obtain ⟨es, ep, hd, hm, hz, _, hat⟩ := mB (I1.hok a _ ha)
 refine ⟨"dict", "dict.items", PySem.F.plainAttrs_dict, PySem.F.slot_dict_items, PySem.F.type_dict_items, t1, t2, Calls.callWith_builtin rfl (PySem.evalArgs_none (itm_call lo hm ?_))⟩
 refine itm_iter (d := a) (es := es) (ep := ep) ⟨_, Heap.get?_push_size _ rfl, rfl, rfl⟩ (hm.at_ fun o e => Heap.get?_push_of_some _ e) ?_
 refine ⟨s1.heap.objs.size + 1, [s1.heap.objs.size + 1], _, _, H1, by rw [size_push'], I1.kept (t' := s1.toks) fun b o e => Heap.get?_push_of_some _ (Heap.get?_push_of_some _ e), mC a _ hd, ⟨.none, .none, ?_⟩, fun b hb => ?_, q⟩
 ·have := Heap.get?_push_size (s1.heap.push { cls := .type "dict_items", data := .fields #[.ref a] }) (o := { cls := .type "dict_itemiterator", data := .fields #[.none, .bool false, .ref a, .int 0 0, .int es.size 0, .int ep 0, .none, .none] }) rfl
  rw [size_push'] at this
  exact this
 ·have e:b = s1.heap.objs.size + 1 := by simpa using hb
  subst e
  exact I1.fpOk (Nat.le_succ _) (I1.hok.fresh (Nat.le_succ _))
noncomputable def tFzT (t:TE):TE := fun σ H Q => ∃ a ws, H a = some (.dT ws) ∧ ∀ o, t σ (upd H a (.frz o (.dT ws))) fun v H' => H' a = some (.frz o (.dT ws)) ∧ Q v (upd H' a (.dT ws))
theorem dt_upd {P:Program} {w:World} {H:Hp} {h:Heap} {a:Addr} {ws:List (List Key × V)} {u:HO} (x:aG P w H h a (.dT ws)) (hn:∀ xs, H a ≠ some (.tup xs)):aG P w (upd H a u) h a (.dT ws) := by
 obtain ⟨l, lo, xs, rel, rest⟩ := x
 exact ⟨l, lo, xs, KT.keeps rel fun c ys ec => (ac (fun (z:c = a) => hn ys (by rw [← z]; exact ec))).trans ec, rest⟩
theorem pe_fzT {X:Cx} {e:Expr} {t:TE} (h:PE X e t):PE X e (tFzT t) := by
 intro pins s σ H Q I zq
 refine oq22 zq fun a ws ha q => ?_
 have ok := I.hok a _ ha
 obtain ⟨o, ho⟩:∃ o, s.heap.get? a = some o := oq03 ok fun _ _ zz => oq12 zz fun xs _ zz => oq34 zz fun o _ _ e _ _ _ => ⟨o, e⟩
 have hz:∀ o v, X.H₀ a ≠ some (.frz o v) := fun o v z => nomatch (I.base.frzs a o v z).symm.trans ha
 have I1:Inv X pins σ (upd H a (.frz o (.dT ws))) s := I.swp ha nofun nofun nofun hz ⟨ho, dt_upd ok fun xs z => nomatch ha.symm.trans z⟩
 refine thn (h pins s σ _ _ I1 (q o)) fun v s1 z => oq23 z fun x H' I2 r z => oq02 z fun e z => ?_
 exact ⟨x, _, I2.swp (u' := .dT ws) e nofun nofun nofun hz (dt_upd (I2.hok a _ e).2 fun xs z => nomatch e.symm.trans z), r, z⟩
noncomputable def rDzT {α:Type} (r:Rp α):Rp (List ((Int × Int) × α)) := ⟨fun H v kvs => ∃ p o ws, v = .ref p ∧ H p = some (.frz o (.dT ws)) ∧ Paired (tRel r H) ws kvs,
 fun e zq => oq33 zq fun p o ws h1 h2 h3 => oi33 p o ws h1 (e _ _ h2) (Paired.imp2 (fun _ _ q => ⟨q.1, r.mono e q.2⟩) h3)⟩
noncomputable def Thw {α:Type} (r:Rp α):Prop := ∀ {F:Hp} {p:Addr} {o:Obj} {u:HO} {v:V} {a:α}, F p = some (.frz o u) → r.rel F v a → r.rel (del F p) v a
theorem thw_t3:Thw (rT3 rInt rInt rInt) := fun h zq => oq45 zq fun q a b c h1 h2 h3 h4 h5 => ⟨q, a, b, c, h1, (cf (fun z => nomatch (z ▸ h2).symm.trans h)).trans h2, h3, h4, h5⟩
variable [Kon]
section
variable {Γ:List Slot} {ta tc:TE} {α β:Type} {r:Rp α} {s:Rp β} {kvs:List ((Int × Int) × α)}
theorem iv_itemsT {o:Option (List ((Int × Int) × α))} (h:EV Γ ta o (rDzT r)):IV Γ (iItemsT ta) o (rT2 (rT2 rInt rInt) r) := fun C F σ H R kvs S e k => by
 refine h C F σ H _ kvs S e fun v F' H' x1 hv => ?_
 refine oq33 hv fun p ob ws e2 h1 h2 => ?_
 refine ⟨p, ob, ws, e2, x1.sub _ _ h1, k _ F' H' x1 ⟨fun i H2 sb hi => ⟨sb _ _ h1, by rw [h2.length]; exact hi⟩, fun H2 sb => ⟨sb _ _ h1, by rw [h2.length]; exact nz6 _⟩, fun i H2 x H3 F1 sb hi y s1 s2 => ?_⟩⟩
 obtain ⟨q, b, kk, vv, e3, hq, e4, hw, hb⟩ := y
 subst e3 e4
 obtain ⟨w', g1, g2⟩ := bu h2 (List.getElem?_eq_getElem hi)
 have ew:w' = (kk, vv) := Option.some.inj (g1.symm.trans hw)
 subst ew
 have ek:kk = [.inl kvs[i].1.1, .inl kvs[i].1.2] := g2.1
 subst ek
 have et := kY s2
 have nb:b ≠ q := ao hb hq
 refine ⟨_, kvs[i], List.getElem?_eq_getElem hi, et.trans (Ext.new et.sub hq), q, .ref b, vv, rfl, ai, ⟨b, .int kvs[i].1.1, .int kvs[i].1.2, rfl, (ac nb).trans (tpl_of s2 hb), rfl, rfl⟩, r.mono (s1.trans (et.ff.trans (aB (et.sub.free hq)))) g2.2⟩
theorem ext_thawT {F H F' H':Hp} {p:Addr} {ob:Obj} {ws:List (List Key × V)} (hF:F p = none) (hH:H p = some (.dT ws)) (e:Ext (upd F p (.frz ob (.dT ws))) (upd H p (.frz ob (.dT ws))) F' H'):Ext F H (del F' p) (upd H' p (.dT ws)) ∧ F' p = some (.frz ob (.dT ws)) ∧ H' p = some (.frz ob (.dT ws)) := by
 have hF' := e.ff p _ ai
 have hH' := e.sub p _ hF'
 refine ⟨⟨⟨fun b o n h => ?_, fun b ps h => ?_, fun tg => ?_⟩, fun b o h => ?_, fun b o h => ?_, fun b o h => ?_, fun z b ps q => e.nt (gT z trivial) b ps (c5 q).2⟩, hF', hH'⟩
 ·by_cases eb:b = p
  ·subst eb; rw [ai, ← h]; exact hH.symm
  ·rw [ac eb]; exact e.hh.kp b o n ((ac eb).trans h)
 ·have eb:b ≠ p := fun z => nomatch (z ▸ h).symm.trans hH
  refine oq11 (e.hh.tb b ps ((ac eb).trans h)) fun m q => ⟨m, (ac eb).trans q⟩
 ·exact (e.hh.tg (tg.poke trivial (fun _ z => nomatch hH.symm.trans z) fun _ z => nomatch hH.symm.trans z)).poke trivial (fun _ z => nomatch hH'.symm.trans z) fun _ z => nomatch hH'.symm.trans z
 ·have eb:b ≠ p := ao h hF
  rw [cf eb]; exact e.ff b o ((ac eb).trans h)
 ·exact (ac (c5 h).1).trans (e.sub b o (c5 h).2)
 ·refine oq02 (c5 h) fun n h => (e.nw b o h).imp (fun z => ?_) fun z => ?_
  ·rw [ac n] at z; exact z
  ·rw [ac n] at z; exact z
theorem SR.fzT {C:Fc} {F H:Hp} {σ:St} {p:Addr} {ws:List (List Key × V)} (i:Nat) (S:SR C F Γ σ H) (hi:Γ[i]? = some (.ot r kvs)) (h1:σ[i]? = some (some (.ref p))) (h3:C.H0 p = none) (h4:F p = none) (h5:H p = some (.dT ws)) (h6:Paired (tRel r F) ws kvs) (ob:Obj) :
  SR C (upd F p (.frz ob (.dT ws))) (Γ.set i (.fr (rDzT r) kvs)) σ (upd H p (.frz ob (.dT ws))) := by
 have tg:TbG (upd H p (.frz ob (.dT ws))) := S.tg.poke trivial (fun _ z => nomatch h5.symm.trans z) fun _ z => nomatch h5.symm.trans z
 have ff:Same F (upd F p (.frz ob (.dT ws))) := aB h4
 refine ⟨⟨⟨fun b u n e => (ac (ao e h3)).trans (S.keep.kp b u n e), fun b ps e => oq11 (S.keep.tb b ps e) fun m z => ⟨m, (ac (ao e h3)).trans z⟩, fun _ => tg⟩, S.low.trans ff, fun b u e => ?_, fun b u e => ?_, gT S.nt trivial, tg⟩, (List.length_set ..).symm ▸ S.len, fun j t q => ?_, fun j k a b c w1 w2 o1 o2 z1 z2 => ?_⟩
 ·by_cases eb:b = p
  ·subst eb; rw [ai] at e ⊢; exact e
  ·rw [ac eb] at e ⊢; exact S.sub b u e
 ·by_cases eb:b = p
  ·subst eb; exact .inr (un_no h3)
  ·rw [ac eb] at e; exact S.base b u e
 ·rcases get_set q with ⟨rfl, rfl, _⟩ | ⟨n, q⟩
  ·exact ⟨_, h1, _, rfl, p, ob, ws, rfl, ai, Paired.imp2 (fun _ _ z => ⟨z.1, r.mono ff z.2⟩) h6⟩
  ·refine oq12 (S.at_ j t q) fun w y1 y2 => oi12 w y1 ?_
   cases t with
   | any => trivial
   | fr r a => exact oq12 y2 fun v z1 z2 => ⟨v, z1, r.mono ff z2⟩
   | ol r φ xs =>
    refine oq26 y2 fun q' vs k1 k2 k3 k4 k5 k6 => ?_
    have nq:q' ≠ p := fun z => nomatch (z ▸ k5).symm.trans h5
    exact ⟨q', vs, k1, k2, k3, (ac nq).trans k4, (ac nq).trans k5, Paired.imp2 (fun _ _ z => r.mono ff z) k6⟩
   | od r φ kvs =>
    refine oq26 y2 fun q' vs k1 k2 k3 k4 k5 k6 => ?_
    have nq:q' ≠ p := fun z => nomatch (z ▸ k5).symm.trans h5
    exact ⟨q', vs, k1, k2, k3, (ac nq).trans k4, (ac nq).trans k5, Paired.imp2 (fun _ _ z => ⟨z.1, r.mono ff z.2⟩) k6⟩
   | on a rows =>
    refine oq25 y2 fun q' us k1 k3 k4 k5 k6 => ?_
    have nq:q' ≠ p := fun z => nomatch (z ▸ k5).symm.trans h5
    exact ⟨q', us, k1, k3, (ac nq).trans k4, (ac nq).trans k5, k6.mono ff⟩
   | ot r kvs =>
    refine oq25 y2 fun q' us k1 k3 k4 k5 k6 => ?_
    have nq:q' ≠ p := fun z => n (S.inj i j _ _ p hi q rfl rfl h1 (y1.trans (by rw [k1, z])))
    exact ⟨q', us, k1, k3, (ac nq).trans k4, (ac nq).trans k5, Paired.imp2 (fun _ _ z => ⟨z.1, r.mono ff z.2⟩) k6⟩
 ·rcases get_set w1 with ⟨rfl, rfl, _⟩ | ⟨n1, w1⟩
  ·cases o1
  rcases get_set w2 with ⟨rfl, rfl, _⟩ | ⟨n2, w2⟩
  ·cases o2
  exact S.inj j k a b c w1 w2 o1 o2 z1 z2
theorem evl_fzT {oc:Option (List β)} (i:Nat) (hi:Γ[i]? = some (.ot r kvs)) (fl:Thw s) (h:EVL (Γ.set i (.fr (rDzT r) kvs)) tc oc s):EVL Γ (tFzT tc) oc s := by
 intro C F σ H Q xs S e k
 refine oq12 (S.at_ i _ hi) fun o h1 zz => oq25 zz fun p ws eq4_ h3 h4 h5 h6 => ?_; subst eq4_
 refine ⟨p, ws, h5, fun ob => ?_⟩
 refine h C _ σ _ _ xs (S.fzT i hi h1 h3 h4 h5 h6 ob) e fun q vs F' H' x1 hq r1 => ?_
 refine oq03 (ext_thawT h4 h5 x1) fun x2 k3 k4 => ?_
 have npb:q ≠ p := (ao k4 hq).symm
 refine ⟨(ac (Ne.symm npb)).trans k4, ?_⟩
 have ee:upd (upd H' q (.lst vs)) p (.dT ws) = upd (upd H' p (.dT ws)) q (.lst vs) := by
  funext b; unfold upd; split
  ·rename_i z; rw [if_neg (fun y => npb (y.symm.trans z))]
  ·rfl
 rw [ee]
 exact k q vs _ _ x2 ((ac npb).trans hq) (Paired.imp2 (fun _ _ z => fl k3 z) r1)
theorem mD {o:Option (List ((Int × Int) × α))} (h:EV Γ ta o (rDT r)):EVL Γ (tCB rSortDT (aH ta tNil)) (o.bind fun kvs => Pu.i8 (kvs.map (·.1))) (rT2 rInt rInt) := by
 intro C F σ H Q xs S e k
 refine oq12 (a9 e) fun kvs e1 e => ?_
 unfold Pu.i8 at e
 split at e
 case isFalse => cases e
 rename_i h64
 cases e
 refine h C F σ H _ kvs S e1 fun v F' H' x1 hv => ?_
 refine oq23 hv fun p ws e2 h5 h6 => ?_
 subst e2
 refine ⟨p, ws, kvs.map (·.1), rfl, x1.sub _ _ h5, j2 h6, h64.1, h64.2, fun q vs hq pr => k q vs (tpl F' H') H' (x1.trans (kY x1.sub)) hq (Paired.imp2 (fun v x z => ?_) pr)⟩
 refine oq34 z fun p a b e1 e2 e3 e4 => ?_
 exact ⟨p, a, b, e1, tpl_of x1.sub e2, e3, e4⟩
theorem ib {K:PySem.W.Frag} {o:Option (α × α × α)} (h:EV Γ ta o (rT3 r r r)):EVL Γ (tCB (jn K) (aH ta tNil)) (o.bind fun x => some [x.1, x.2.1, x.2.2]) r := fun C F σ H Q xs S e k => by
 refine oq12 (a9 e) fun x e1 e => ?_
 cases e
 refine h C F σ H _ x S e1 fun v F' H' x1 hv => ?_
 refine oq45 hv fun p a b c e2 h1 h2 h3 h4 => ?_
 exact ⟨p, [a, b, c], by rw [e2], .inr (SqT.of (x1.sub _ _ h1)), fun l hl => k l [a, b, c] F' H' x1 hl (.cons h2 (.cons h3 (.cons h4 .nil)))⟩
end
end L2
namespace L2
open PySem PySem.Spec PyProof.Rows
section
variable {prog:Program} {w:World} {A:Around} {E:Value → Shared → Prop} {s:Shared} {I S:Addr} {fp wr:List Addr} {n:Nat} {P:Nat → Value → Prop} {Sx:Nat → Heap → Prop} {R:Result → Shared → Prop} {bt:Nat → Nat → Bool}
end
end L2
namespace Pf
open PySem L2
noncomputable def mixed (p_number:Int) (p_k:Int):Option (Int) :=
 ((((Pu.mul p_k p_k).bind fun x1 => some (x1 * 2503)).bind fun x2 => some (((p_number % 100000000000000000000) * 40503) + x2)).bind fun x3 => some (x3 + 11)).bind fun x4 => some (x4 % 2147483587)
noncomputable def bx (p_size:(Int × Int)) (p_reach:Int) (p_cell:Int):Option (List (Int)) :=
 (Pu.fdiv p_cell p_size.2).bind fun row2 => (Pu.fmod p_cell p_size.2).bind fun column4 => (some (if (decide (p_reach = 8)) = true then 2 else 1)).bind fun most_steps6 => (Pu.rng2 (Pu.mx 0 (row2 - 1)) (Pu.mn p_size.1 (row2 + 2))).bind fun x17 => (Pu.forS (fun (s9:(List (Int))) (x8:Int) => (Pu.rng2 (Pu.mx 0 (column4 - 1)) (Pu.mn p_size.2 (column4 + 2))).bind fun x16 => (Pu.forS (fun (s11:(List (Int))) (x10:Int) => if (decide (0 < (Pu.ab (x8 - row2)) + (Pu.ab (x10 - column4))) && decide ((Pu.ab (x8 - row2)) + (Pu.ab (x10 - column4)) ≤ most_steps6)) = true then ((Pu.mul x8 p_size.2).bind fun x12 => some (x12 + x10)).bind fun x15 => (Pu.app s11 x15).bind fun found14 => some (found14) else some (s11)) x16 s9).bind fun (s11:(List (Int))) => some (s11)) x17 ([])).bind fun (s9:(List (Int))) => some (s9)
noncomputable def bG (p_script:List Int) (p_k:Int):Option (Int) :=
 if (decide (p_k < Pu.ln p_script)) = true then Pu.at_ p_script p_k else some (0)
noncomputable def height (p_number:Int) (p_k:Int) (p_way:Int):Option (Int) :=
 (Pf.mixed p_number p_k).bind fun part2 => if (decide (p_way = 0)) = true then some (part2 % 4) else if (decide (p_way = 1)) = true then some (part2 % 12) else if (decide (p_way = 2)) = true then some (p_number % (1000000000000000000 + 1)) else Pu.at_ ([part2 % 3, 1000000000000000000 - (part2 % 3)]) ((part2 / 3) % 2)
noncomputable def folded (p_heights_here:List (Int)) (p_columns:Int):Option (List (List (Int))) :=
 (Pu.rng3 0 (((Pu.ln p_heights_here) - p_columns) + 1) p_columns).bind fun x2 => Pu.comp (fun (y1:Int) => some (Pu.cut p_heights_here (some y1) (some (y1 + p_columns)))) x2
noncomputable def floor (p_script:List Int) (p_first:Int):Option (List (List (Int))) :=
 ((Pf.bG p_script p_first).bind fun x1 => some (x1 % 5)).bind fun way3 => (Pu.comp (fun (y4:(Int × Int)) => Pf.height y4.2 y4.1 (way3 % 4)) (Pu.enum (Pu.cut p_script (some (p_first + 1)) (some (p_first + 61))))).bind fun heights_here6 => (if (decide (heights_here6 = [])) = true then ((((Pf.bG p_script p_first).bind fun x8 => some (x8 / 5)).bind fun x9 => some (x9 % (1000000000000000000 + 1))).bind fun x10 => some ([x10])).bind fun heights_here12 => some (heights_here12) else some (heights_here6)).bind fun s7 => ((((Pf.bG p_script p_first).bind fun x13 => some (x13 / 5)).bind fun x14 => Pu.fmod x14 (Pu.mn 12 (Pu.ln s7))).bind fun x15 => some (1 + x15)).bind fun columns17 => (if (decide (way3 = 4)) = true then (some (Pu.mx 1 (Pu.mn columns17 ((Pu.ln s7) / 3)))).bind fun columns20 => some (columns20) else some (columns17)).bind fun s18 => Pf.folded s7 (Pu.mx s18 (0 - ((0 - (Pu.ln s7)) / 12)))
noncomputable def reach (p_script:List Int) (p_first:Int):Option (Int) :=
 (((Pf.bG p_script p_first).bind fun x1 => Pf.mixed x1 7).bind fun x2 => some (x2 % 2)).bind fun x3 => Pu.at_ ([4, 8]) x3
noncomputable def jK (p_floor_here:List (List (Int))):Option (List (Int)) :=
 (Pu.forS (fun (s3:(List (Int))) (x2:List (Int)) => (Pu.cat s3 x2).bind fun heights_here5 => some (heights_here5)) p_floor_here ([])).bind fun (s3:(List (Int))) => some (s3)
noncomputable def next (p_size:(Int × Int)) (p_reach_here:Int) (p_cell:Int):Option (List (Int)) :=
 (some (p_size)).bind fun t2 => (Pu.forS (fun (s5:(List (Int))) (x4:Int) => (Pu.forS (fun (s7:(List (Int))) (x6:Int) => ((Pu.fdiv p_cell t2.2).bind fun x8 => some (x8 + x4)).bind fun row10 => ((Pu.fmod p_cell t2.2).bind fun x11 => some (x11 + x6)).bind fun column13 => (some ((decide (0 ≤ row10) && decide (row10 < t2.1)) && (decide (0 ≤ column13) && decide (column13 < t2.2)))).bind fun inside15 => if (inside15 && ((decide (((Pu.ab x4) + (Pu.ab x6)) = 1)) || ((decide (p_reach_here = 8)) && (decide (((Pu.ab x4) + (Pu.ab x6)) = 2))))) = true then ((Pu.mul row10 t2.2).bind fun x17 => some (x17 + column13)).bind fun x20 => (Pu.app s7 x20).bind fun found19 => some (found19) else some (s7)) ([-1, 0, 1]) s5).bind fun (s7:(List (Int))) => some (s7)) ([-1, 0, 1]) ([])).bind fun (s5:(List (Int))) => some (s5)
noncomputable def size_of (p_floor:List (List (Int))):Option ((Int × Int)) :=
 (if (!p_floor.isEmpty) = true then (Pu.at_ p_floor 0).bind fun x1 => some (Pu.ln x1) else some (0)).bind fun columns3 => some ((Pu.ln p_floor, columns3))
noncomputable def cp (p_floor:List (List (Int))) (p_cell:Int):Option (Int) :=
 ((Pf.size_of p_floor).bind fun x1 => some (x1.2)).bind fun columns3 => ((Pu.fdiv p_cell columns3).bind fun x4 => Pu.at_ p_floor x4).bind fun x5 => (Pu.fmod p_cell columns3).bind fun x6 => Pu.at_ x5 x6
noncomputable def aK (p_floor:List (List (Int))) (p_cell:Int):Option ((Int × Int)) :=
 (Pf.cp p_floor p_cell).bind fun x1 => some ((x1, p_cell))
noncomputable def bi (p_floor:List (List (Int))) (p_one:Int) (p_other:Int):Option (Bool) :=
 (Pf.aK p_floor p_one).bind fun x1 => (Pf.aK p_floor p_other).bind fun x2 => some (Pu.lt2 x1 x2)
noncomputable def bc (p_floor:List (List (Int))):Option (List (Int)) :=
 (Pf.size_of p_floor).bind fun size2 => (Pu.mul size2.1 size2.2).bind fun x3 => Pu.lrng x3
noncomputable def in_order (p_floor:List (List (Int))):Option (List (Int)) :=
 (Pf.bc p_floor).bind fun x2 => Pu.sortK (fun (c1:Int) => Pf.aK p_floor c1) x2
noncomputable def bg (p_floor:List (List (Int))) (p_cells:List (Int)):Option (Int) :=
 Pu.minK (fun (c1:Int) => Pf.aK p_floor c1) p_cells
noncomputable def bH (p_script:List Int) (p_k:Int) (p_top:Int):Option (Int) :=
 ((Pf.bG p_script p_k).bind fun x1 => some (x1 % 100000000000000000000)).bind fun cell3 => ((((Pu.mul (p_k + 1) (p_k + 7)).bind fun x4 => some (x4 * 69621)).bind fun x5 => some ((cell3 * 48271) + x5)).bind fun x6 => some (x6 % 2147483647)).bind fun high8 => (((((Pu.mul p_k p_k).bind fun x9 => some (x9 * 40692)).bind fun x10 => some ((cell3 * 16807) + x10)).bind fun x11 => some (x11 + 7)).bind fun x12 => some (x12 % 2147483629)).bind fun low14 => Pu.fmod ((high8 * 2147483629) + low14) (p_top + 1)
noncomputable def aV (p_script:List Int) (p_k:Int) (p_kind:Int) (p_row:Int) (p_column:Int):Option (Int) :=
 if (decide (p_kind = 3)) = true then (some (([0, 1, 0, 2, 0, 1, 0, 3, 0, 1, 0, 2]:List Int))).bind fun nest2 => (((Pu.at_ nest2 p_row).bind fun x3 => (Pu.at_ nest2 p_column).bind fun x4 => some (x3 + x4)).bind fun x5 => some (5 * x5)).bind fun x6 => (Pf.bH p_script p_k 3).bind fun x7 => some (x6 + x7) else if (decide (p_kind = 4)) = true then (Pf.bH p_script p_k 9).bind fun x8 => some (((6 * (Pu.ab (p_row - 5))) + (5 * ((p_row + p_column) % 3))) + x8) else (Pu.at_ ([3, 11, 1000000000000000000]) p_kind).bind fun x9 => Pf.bH p_script p_k x9
noncomputable def cX (p_script:List Int) (p_most:Int):Option (List (List (Int))) :=
 (Pf.bG p_script 0).bind fun head2 => (((Pu.fdiv (((Pu.ln (Pu.cut p_script (some 3) (some 63))) + (1 + (head2 % 12))) - 1) (1 + (head2 % 12))).bind fun x4 => some (Pu.mn 12 x4)).bind fun x5 => some (Pu.mx 1 x5)).bind fun rows7 => (if (decide (((head2 / 12) % 8) = 3)) = true then some (12) else some (rows7)).bind fun s8 => (((Pu.fdiv p_most (1 + (head2 % 12))).bind fun x10 => some (Pu.mx 1 x10)).bind fun x11 => some (Pu.mn s8 x11)).bind fun rows13 => (Pu.rng1 rows13).bind fun x26 => (Pu.forS (fun (s17:(List (List (Int)))) (x16:Int) => ((Pu.mul x16 (1 + (head2 % 12))).bind fun x18 => some (3 + x18)).bind fun at20 => ((Pu.rng1 (1 + (head2 % 12))).bind fun x22 => Pu.comp (fun (y21:Int) => Pf.aV p_script (at20 + y21) ((head2 / 96) % 5) x16 y21) x22).bind fun x25 => (Pu.app s17 x25).bind fun floor_here24 => some (floor_here24)) x26 ([])).bind fun (s17:(List (List (Int)))) => some (s17)
noncomputable def dN (p_floor_here:List (List (Int))):Option (List ((Int × Int))) :=
 (Pu.forS (fun (s3:(List (Int))) (x2:List (Int)) => (Pu.cat s3 x2).bind fun heights5 => some (heights5)) p_floor_here ([])).bind fun (s3:(List (Int))) => Pu.comp (fun (y6:(Int × Int)) => some ((y6.2, y6.1))) (Pu.enum s3)
noncomputable def dO (p_floor_here:List (List (Int))) (p_reach:Int) (p_cell:Int):Option (List (Int)) :=
 (((Pu.at_ p_floor_here 0).bind fun x1 => some (Pu.ln x1)).bind fun x24 => some ((Pu.ln p_floor_here, x24))).bind fun t4 => ((Pu.fdiv p_cell t4.2).bind fun x22 => (Pu.fmod p_cell t4.2).bind fun x23 => some ((x22, x23))).bind fun t7 => (Pu.forS (fun (s10:(List (Int))) (x9:Int) => (Pu.forS (fun (s12:(List (Int))) (x11:Int) => (some (!decide ((decide (x9 = 0)) = (decide (x11 = 0))))).bind fun straight14 => (some ((decide (0 ≤ t7.1 + x9) && decide (t7.1 + x9 < t4.1)) && (decide (0 ≤ t7.2 + x11) && decide (t7.2 + x11 < t4.2)))).bind fun inside16 => if (inside16 && (straight14 || ((decide (p_reach = 8)) && ((!decide (x9 = 0)) && (!decide (x11 = 0)))))) = true then (((Pu.mul x9 t4.2).bind fun x17 => some (p_cell + x17)).bind fun x18 => some (x18 + x11)).bind fun x21 => (Pu.app s12 x21).bind fun found20 => some (found20) else some (s12)) ([-1, 0, 1]) s10).bind fun (s12:(List (Int))) => some (s12)) ([-1, 0, 1]) ([])).bind fun (s10:(List (Int))) => some (s10)
noncomputable def j3 (p_falls_here:List (Option (Int))):Option (List (Int)) :=
 (Pu.rng1 (Pu.ln p_falls_here)).bind fun x11 => (Pu.forS (fun (s3:(List (Int))) (x2:Int) => (Pu.whS (fun (s4:Int) => (Pu.at_ p_falls_here s4).bind fun x5 => some (x5.isSome)) (fun (s4:Int) => ((Pu.at_ p_falls_here s4).bind fun x7 => x7).bind fun cell8 => some (cell8)) 100000 x2).bind fun (s4:Int) => (Pu.app s3 s4).bind fun found10 => some (found10)) x11 ([])).bind fun (s3:(List (Int))) => some (s3)
noncomputable def fi (p_floor:List (List (Int))) (p_reach:Int) (p_cell:Int):Option (Option (Int)) :=
 ((Pf.size_of p_floor).bind fun x1 => Pf.bx x1 p_reach p_cell).bind fun around3 => ((Pu.cat around3 ([p_cell])).bind fun x4 => Pf.bg p_floor x4).bind fun earliest6 => some (if (decide (earliest6 = p_cell)) = true then none else some (earliest6))
noncomputable def c8 (p_floor:List (List (Int))) (p_reach:Int):Option (List (Option (Int))) :=
 (Pf.bc p_floor).bind fun x2 => Pu.comp (fun (y1:Int) => Pf.fi p_floor p_reach y1) x2
noncomputable def aZ (p_floor:List (List (Int))):Option (List (Int)) :=
 (Pf.bc p_floor).bind fun x2 => Pu.jI (fun (c1:Int) => Pf.aK p_floor c1) x2
noncomputable def be (p_floor:List (List (Int))) (p_reach:Int):Option (List (Int)) :=
 (Pf.c8 p_floor p_reach).bind fun falls2 => (Pf.aZ p_floor).bind fun x16 => (Pu.forS (fun (s5:(List (Int × Int))) (x4:Int) => (((Pu.at_ falls2 x4).bind fun x6 => some (x6.isNone)).bind fun x9 => if x9 = true then some (x4) else ((Pu.at_ falls2 x4).bind fun x7 => x7).bind fun x8 => Pu.find s5 x8).bind fun x13 => if (s5).length < 16777216 then (fun bottoms12 => some (bottoms12)) (Pu.put s5 x4 (x13)) else none) x16 ([])).bind fun (s5:(List (Int × Int))) => (Pf.bc p_floor).bind fun x15 => Pu.comp (fun (y14:Int) => Pu.find s5 y14) x15
noncomputable def dv (p_found:Option (Int)) (p_due:Option (Int)):Option (Bool) :=
 if (p_due.isNone) = true then some (p_found.isNone) else some (p_found.isSome && ((!false) && (decide (p_found = p_due))))
noncomputable def bT (p_found:List (Option (Int))) (p_due:List (Option (Int))):Option (Bool) :=
 if ((!true) || (!decide ((Pu.ln p_found) = (Pu.ln p_due)))) = true then some (false) else Pu.andThen (Pu.forC (fun (s2:Unit) (x1:((Option (Int)) × (Option (Int)))) => ((Pf.dv x1.1 x1.2).bind fun x3 => some (!x3)).bind fun x4 => if x4 = true then some (.rt (false)) else some (.nx ())) (p_found.zip p_due) ()) (fun (s2:Unit) => some (true)) (fun x => x)
noncomputable def cb (p_floor_here:List (List (Int))) (p_reach:Int) (p_bottoms:List (Int)):Option (List ((Int × Int × Int))) :=
 (Pf.dN p_floor_here).bind fun keys_here2 => (Pu.rng1 (Pu.ln keys_here2)).bind fun x25 => (Pu.forS (fun (s5:(List ((Int × Int) × (Int × Int)))) (x4:Int) => (Pf.dO p_floor_here p_reach x4).bind fun x22 => (Pu.forS (fun (s7:(List ((Int × Int) × (Int × Int)))) (x6:Int) => ((Pu.at_ p_bottoms x4).bind fun x8 => (Pu.at_ p_bottoms x6).bind fun x9 => some (decide (x8 < x9))).bind fun x21 => if x21 = true then ((Pu.at_ p_bottoms x4).bind fun x10 => (Pu.at_ p_bottoms x6).bind fun x11 => some ((x10, x11))).bind fun pair13 => ((Pu.at_ keys_here2 x4).bind fun x14 => (Pu.at_ keys_here2 x6).bind fun x15 => some (if Pu.lt2 x14 x15 = true then x15 else x14)).bind fun later17 => if (s7).length < 16777216 then (fun touched20 => some (touched20)) (Pu.putT s7 pair13 (if Pu.lt2 later17 ((Pu.aD s7 pair13).getD later17) = true then later17 else (Pu.aD s7 pair13).getD later17)) else none else some (s7)) x22 s5).bind fun (s7:(List ((Int × Int) × (Int × Int)))) => some (s7)) x25 ([])).bind fun (s5:(List ((Int × Int) × (Int × Int)))) => (Pu.comp (fun (y23:(((Int × Int)) × ((Int × Int)))) => some ((y23.1.1, y23.1.2, y23.2.2))) s5).bind fun x24 => Pu.jJ x24
noncomputable def pairs_at (p_floor:List (List (Int))) (p_reach:Int) (p_basins:List (Int)) (p_cell:Int):Option (List ((Int × Int))) :=
 (Pu.at_ p_basins p_cell).bind fun own2 => ((Pf.size_of p_floor).bind fun x3 => Pf.bx x3 p_reach p_cell).bind fun around5 => (Pu.cy (fun (y6:Int) => Pf.bi p_floor y6 p_cell) (fun (y6:Int) => Pu.at_ p_basins y6) around5).bind fun bottoms8 => Pu.cy (fun (y9:Int) => some (!decide (y9 = own2))) (fun (y9:Int) => some ((Pu.mn own2 y9, Pu.mx own2 y9))) bottoms8
noncomputable def bE (p_floor:List (List (Int))) (p_reach:Int):Option (List ((Int × Int × Int))) :=
 (Pf.be p_floor p_reach).bind fun basins2 => (Pf.aZ p_floor).bind fun x15 => (Pu.forS (fun (s5:(List ((Int × Int) × Int))) (x4:Int) => (Pf.pairs_at p_floor p_reach basins2 x4).bind fun x10 => (Pu.forS (fun (s7:(List ((Int × Int) × Int))) (x6:(Int × Int)) => if (s7).length < 16777216 then (fun found9 => some (found9)) (Pu.defT s7 x6 x4) else none) x10 s5).bind fun (s7:(List ((Int × Int) × Int))) => some (s7)) x15 ([])).bind fun (s5:(List ((Int × Int) × Int))) => (Pu.i8 (s5.map (·.1))).bind fun x14 => Pu.comp (fun (y11:(Int × Int)) => ((Pu.aD s5 y11).bind fun x12 => some ((x12))).bind fun x13 => some ((y11.1, y11.2, x13))) x14
noncomputable def bI (p_found:List ((Int × Int × Int))) (p_due:List ((Int × Int × Int))):Option (Bool) :=
 if ((!true) || (!decide ((Pu.ln p_found) = (Pu.ln p_due)))) = true then some (false) else Pu.andThen (Pu.forC (fun (s2:Unit) (x1:(((Int × Int × Int)) × ((Int × Int × Int)))) => (if (!true) = true then some true else (Pf.bT (([x1.1.1, x1.1.2.1, x1.1.2.2]).map some) (([x1.2.1, x1.2.2.1, x1.2.2.2]).map some)).bind fun x3 => some (!x3)).bind fun x4 => if x4 = true then some (.rt (false)) else some (.nx ())) (p_found.zip p_due) ()) (fun (s2:Unit) => some (true)) (fun x => x)
noncomputable def cD (p_floor_here:List (List (Int))) (p_reach:Int):Option (Bool) :=
 (Pu.comp (fun (y1:List (Int)) => some (y1)) p_floor_here).bind fun handed3 => ((Pf.be p_floor_here p_reach).bind fun x4 => Pf.cb p_floor_here p_reach x4).bind fun due6 => (Pf.bE handed3 p_reach).bind fun found8 => (((Pf.bI found8 due6).bind fun x9 => some (!x9)).bind fun x10 => if x10 = true then some true else some (!decide (handed3 = p_floor_here))).bind fun x17 => if x17 = true then some (false) else (Pu.app found8 (0, 0, 0)).bind fun found12 => (((Pf.bE ([[0, 2, 1]]) p_reach).bind fun x13 => Pf.bI x13 ([(0, 2, 1)])).bind fun x14 => some (!x14)).bind fun x16 => if x16 = true then some (false) else (Pf.bE handed3 p_reach).bind fun x15 => Pf.bI x15 due6
noncomputable def fj (p_script:List Int):Option (Bool) :=
 (Pf.cX p_script 144).bind fun floor_here2 => (Pf.cD floor_here2 4).bind fun x3 => if x3 = true then Pf.cD floor_here2 8 else some false
end Pf
namespace Pu
variable {S R T β α:Type}
theorem ic {f:S → β → Option S} (I:Nat → S → Prop):∀ {xs:List β} {s:S}, I 0 s → (∀ i x s, xs[i]? = some x → I i s → ∃ s', f s x = some s' ∧ I (i + 1) s') → ∃ s', forS f xs s = some s' ∧ I xs.length s'
 | [], s, h0, _ => (oi12 s rfl h0)
 | x :: xs, s, h0, h => by
  refine oq12 (h 0 x s rfl h0) fun s1 e1 h1 => ?_
  refine oq12 (ic (fun i => I (i + 1)) (xs := xs) (s := s1) h1 fun i y t hy ht => h (i + 1) y t (by simpa using hy) ht) fun s2 e2 h2 => ?_
  exact (oi12 s2 (by rw [iW, e1]; exact e2) h2)
theorem l4 {f:S → β → Option (Ctl S R)} (I:Nat → S → Prop):∀ {xs:List β} {s:S}, I 0 s → (∀ i x s, xs[i]? = some x → I i s → ∃ s', f s x = some (.nx s') ∧ I (i + 1) s') → ∃ s', forC f xs s = some (.nx s') ∧ I xs.length s'
 | [], s, h0, _ => (oi12 s rfl h0)
 | x :: xs, s, h0, h => by
  refine oq12 (h 0 x s rfl h0) fun s1 e1 h1 => ?_
  refine oq12 (l4 (fun i => I (i + 1)) (xs := xs) (s := s1) h1 fun i y t hy ht => h (i + 1) y t (by simpa using hy) ht) fun s2 e2 h2 => ?_
  exact (oi12 s2 (by rw [forC_cons, e1]; exact e2) h2)
theorem forC_unit {f:Unit → β → Option (Ctl Unit R)} {xs:List β} (h:∀ x ∈ xs, f () x = some (.nx ())):forC f xs () = some (.nx ()) := by
 refine oq12 (l4 (f := f) (fun _ _ => True) (xs := xs) (s := ()) trivial fun i x s hx _ => (oi12 () (h x (List.mem_of_getElem? hx)) trivial)) fun s' e _ => ?_
 exact e
theorem mE {k:S → Option T} {e:R → T} {o:Option (Ctl S R)} {s:S} (h:o = some (.nx s)):andThen o k e = k s := by subst h; rfl
theorem fk {f:Unit → β → Option (Ctl Unit R)} {xs:List β} {k:Unit → Option T} {e:R → T} (h:∀ x ∈ xs, f () x = some (.nx ())):andThen (forC f xs ()) k e = k () := mE (forC_unit h)
theorem bU {f:S → β → Option S} {k:S → Option T} {o:Option T} (I:Nat → S → Prop) {xs:List β} {s:S} (h0:I 0 s) (h:∀ i x s, xs[i]? = some x → I i s → ∃ s', f s x = some s' ∧ I (i + 1) s') (hk:∀ s', I xs.length s' → k s' = o):(forS f xs s).bind k = o := by
 refine oq12 (ic I h0 h) fun s' e q => ?_
 rw [e]; exact hk s' q
theorem whS_inv {t:S → Option Bool} {f:S → Option S} (I:S → Prop) (μ:S → Nat) (h:∀ s, I s → ∃ b, t s = some b ∧ (b = true → ∃ s', f s = some s' ∧ I s' ∧ μ s' < μ s)):∀ {n:Nat} {s:S}, I s → μ s < n → ∃ s', whS t f n s = some s' ∧ I s' ∧ t s' = some false
 | 0, _, _, hn => absurd hn (Nat.not_lt_zero _)
 | n + 1, s, hI, hn => by
  refine oq12 (h s hI) fun b e1 e2 => ?_
  cases b with
  | false => exact (oi13 s (by rw [kA, e1]; rfl) hI e1)
  | true =>
   refine oq13 (e2 rfl) fun s1 e3 h1 h2 => ?_
   obtain ⟨s2, e4, h3, h4⟩ := whS_inv I μ h h1 (show μ s1 < n by exact nz1 h2 (Nat.le_of_lt_succ hn))
   exact (oi13 s2 (by rw [kA, e1, nza, if_pos rfl, e3]; exact e4) h3 h4)
theorem whS_ex {t:S → Option Bool} {f:S → Option S} {k:S → Option T} {P:T → Prop} (I:S → Prop) (μ:S → Nat) {n:Nat} {s:S} (h0:I s) (hn:μ s < n) (h:∀ s, I s → ∃ b, t s = some b ∧ (b = true → ∃ s', f s = some s' ∧ I s' ∧ μ s' < μ s)) (hk:∀ s', I s' → t s' = some false → ∃ o, k s' = some o ∧ P o):∃ o, (whS t f n s).bind k = some o ∧ P o := by
 refine oq13 (whS_inv I μ h h0 hn) fun s' e h1 h2 => ?_
 rw [e]; exact hk s' h1 h2
theorem fm {f:S → β → Option S} {k:S → Option T} {P:T → Prop} (I:Nat → S → Prop) {xs:List β} {s:S} (h0:I 0 s) (h:∀ i x s, xs[i]? = some x → I i s → ∃ s', f s x = some s' ∧ I (i + 1) s') (hk:∀ s', I xs.length s' → ∃ o, k s' = some o ∧ P o):∃ o, (forS f xs s).bind k = some o ∧ P o := by
 refine oq12 (ic I h0 h) fun s' e q => ?_
 rw [e]; exact hk s' q
theorem ie {n i:Nat} {x:Int} (h:(nats n)[i]? = some x):i < n ∧ x = (i:Int) := by
 unfold nats at h
 rw [List.getElem?_map] at h
 by_cases hi:i < n
 ·rw [List.getElem?_range hi] at h
  exact ⟨hi, (Option.some.inj h).symm⟩
 ·rw [List.getElem?_eq_none (by simp; exact Nat.not_lt.mp hi)] at h; cases h
theorem dw (n:Nat):(nats n).length = n := by unfold nats; simp
theorem nats_mem {n:Nat} {x:Int}:x ∈ nats n ↔ ∃ i:Nat, i < n ∧ x = (i:Int) := by
 unfold nats
 simp only [List.mem_map, List.mem_range]
 constructor
 ·intro zq; refine oq12 zq fun i h eq2_ => ?_; subst eq2_; exact (oi12 i h rfl)
 ·intro zq; refine oq12 zq fun i h eq2_ => ?_; subst eq2_; exact (oi12 i h rfl)
theorem fo {n:Nat} (h:n ≤ 1000000):rng1 (n:Int) = some (nats n) := by
 unfold rng1
 rw [if_pos ⟨by omega, by omega⟩, Int.toNat_natCast]
theorem rng2_ok {i j:Int} (h1:-1000000 ≤ i) (h2:i ≤ 1000000) (h3:-1000000 ≤ j) (h4:j ≤ 1000000):rng2 i j = some ((List.range (j - i).toNat).map fun (k:Nat) => i + (k:Int)) := by
 unfold rng2
 rw [if_pos (oi04 (by omega) (by omega) (by omega) (by omega))]
theorem fR {xs:List α} {a:α} (h:xs.length ≤ 1000000):app xs a = some (xs ++ [a]) := by
 unfold app
 rw [if_pos (by exact nz2 h (by decide))]
theorem cat_ok {xs ys:List α} (h:xs.length + ys.length ≤ 1000000):cat xs ys = some (xs ++ ys) := by
 unfold cat
 rw [if_pos (by exact nz5 (nz2 h (by decide)))]
theorem jL {i j:Int} (h:-(2 ^ 64) < i ∧ i < 2 ^ 64):mul i j = some (i * j) := by
 unfold mul
 rw [if_pos (.inl h)]
theorem jM {i j:Int} (h:-(2 ^ 64) < j ∧ j < 2 ^ 64):mul i j = some (i * j) := by
 unfold mul
 rw [if_pos (.inr h)]
theorem fq {i j:Int} (h:0 < j ∧ j < 2 ^ 64):fdiv i j = some (i / j) := by
 unfold fdiv
 rw [if_pos h]
theorem ft {i j:Int} (h:0 < j):fmod i j = some (i % j) := by
 unfold fmod
 rw [if_pos h]
theorem d8 {f:β → Option α} {g:β → α} {xs:List β} (hl:xs.length ≤ 1000000) (h:∀ x ∈ xs, f x = some (g x)):comp f xs = some (xs.map g) := by
 unfold comp
 rw [if_pos (by exact nz5 (nz2 hl (by decide)))]
 clear hl
 induction xs with
 | nil => rfl
 | cons x xs ih =>
  rw [lS, h x (List.mem_cons.mpr (.inl rfl)), nza, ih fun y hy => h y (List.mem_cons.mpr (.inr hy))]
  rfl
theorem j4 {t:β → Option Bool} {f:β → Option α} {p:β → Bool} {g:β → α} {xs:List β} (hl:xs.length ≤ 1000000) (ht:∀ x ∈ xs, t x = some (p x)) (h:∀ x ∈ xs, p x = true → f x = some (g x)):cy t f xs = some ((xs.filter p).map g) := by
 unfold cy
 rw [if_pos (by exact nz5 (nz2 hl (by decide)))]
 clear hl
 induction xs with
 | nil => rfl
 | cons x xs ih =>
  rw [bb, ht x (List.mem_cons.mpr (.inl rfl)), nza, ih (fun y hy => ht y (List.mem_cons.mpr (.inr hy))) fun y hy => h y (List.mem_cons.mpr (.inr hy))]
  cases q:p x with
  | false => rw [if_neg Bool.false_ne_true, List.filter_cons_of_neg (by simp [q])]
  | true =>
   rw [if_pos rfl, h x (List.mem_cons.mpr (.inl rfl)) q, List.filter_cons_of_pos q]
   rfl
theorem d9 {xs:List α} {i:Nat}:at_ xs (i:Int) = xs[i]? := by
 unfold at_ L2.atI L2.ixN
 rw [if_pos (by exact Int.ofNat_le.mpr (Nat.zero_le _))]
 by_cases h:i < xs.length
 ·rw [if_pos (by exact Int.ofNat_lt.mpr h)]; simp
 ·rw [if_neg (by exact Int.not_lt.mpr (Int.ofNat_le.mpr (Nat.not_lt.mp h)))]; simp; exact Nat.not_lt.mp h
theorem l5 (xs:List α):(enum xs).length = xs.length := by unfold enum; simp
end Pu
namespace Fl
noncomputable abbrev cl (l:List Nat):List Int := l.map fun (o:Nat) => (o:Int)
theorem bW (l:List Nat):(cl l).length = l.length := by simp
theorem eE {l:List Nat} {x:Int}:x ∈ cl l ↔ ∃ o, o ∈ l ∧ x = (o:Int) := by
 simp only [List.mem_map]
 constructor
 ·intro zq; refine oq12 zq fun o h eq2_ => ?_; subst eq2_; exact (oi12 o h rfl)
 ·intro zq; refine oq12 zq fun o h eq2_ => ?_; subst eq2_; exact (oi12 o h rfl)
theorem mF {l:List Nat} {x:Nat}:(x:Int) ∈ cl l ↔ x ∈ l := by
 rw [eE]
 constructor
 ·intro zq; refine oq12 zq fun o h e => ?_
  have:x = o := by omega
  rw [this]; exact h
 ·exact fun h => (oi12 x h rfl)
theorem mG (a b:Int):Pu.ab (a - b) = dif a b := rfl
end Fl
namespace Pf
open Fl Pu
theorem l6 {i j:Nat} (hi:i ≤ 1000) (hj:j ≤ 1000):rng2 (i:Int) (j:Int) = some ((List.range (j - i)).map fun (k:Nat) => ((i + k:Nat):Int)) := by
 rw [rng2_ok (by omega) (by exact Int.ofNat_le.mpr (nz5 (nz2 hi (by decide)))) (by omega) (by exact Int.ofNat_le.mpr (nz5 (nz2 hj (by decide)))), Int.toNat_sub]
 simp only [Int.natCast_add]
theorem mx_dn (R:Nat):Pu.mx 0 ((R:Int) - 1) = ((R - 1:Nat):Int) := by unfold Pu.mx; split <;> omega
theorem mn_up (m R:Nat):Pu.mn (m:Int) ((R:Int) + 2) = ((min m (R + 2):Nat):Int) := by unfold Pu.mn; split <;> omega
theorem l7 {a b:Nat} (h1:a ≤ b + 1) (h2:b ≤ a + 1):0 ≤ dif a b ∧ dif a b ≤ 1 := by unfold dif; split <;> omega
theorem near_iff {p q ms reach:Int} (b1:0 ≤ p ∧ p ≤ 1) (b2:0 ≤ q ∧ q ≤ 1) (e:ms = (if reach = 8 then 2 else 1)):(p + q = 1 ∨ (reach = 8 ∧ p = 1 ∧ q = 1)) ↔ (0 < p + q ∧ p + q ≤ ms) := by
 subst e; split <;> omega
theorem rng_get {α:Type} {f:Nat → α} {n j:Nat} {y:α} (h:((List.range n).map f)[j]? = some y):j < n ∧ y = f j := by
 rw [List.getElem?_map] at h
 refine oq12 (Option.map_eq_some_iff.mp h) fun k hk eq2_ => ?_; subst eq2_
 obtain ⟨h1, h2⟩ := List.getElem?_eq_some_iff.mp hk
 rw [List.length_range] at h1
 rw [List.getElem_range] at h2
 exact ⟨h1, by rw [h2]⟩
theorem l8 {R m:Nat} (h:R < m):R - 1 + (min m (R + 2) - (R - 1)) = min m (R + 2) := Nat.add_sub_cancel' (Nat.le_min.mpr ⟨nz4 (Nat.sub_le _ _) (nz5 h), nz4 (Nat.sub_le _ _) (Nat.le_add_right _ _)⟩)
theorem span_at {R m i:Nat} (h:i < min m (R + 2) - (R - 1)):R - 1 + i < m ∧ R - 1 + i ≤ R + 1 ∧ R ≤ R - 1 + i + 1 :=
 have q := Nat.lt_min.mp (Nat.add_lt_of_lt_sub' h)
 ⟨q.1, Nat.le_of_lt_succ q.2, Nat.le_add_of_sub_le (Nat.le_add_right _ _)⟩
theorem l9 {R m v:Nat} (h:min m (R + 2) ≤ v) (h2:v < m):R + 1 < v := by omega
theorem dS {m c x:Nat} {reach:Int} (hc0:0 < c) (hcm:c ≤ 1000) (hmm:m ≤ 1000) (hx:x < m * c):Pf.bx ((m:Int), (c:Int)) reach (x:Int) = some (cl (nbL m c reach x)) := by
 have hxr:x / c < m := Nat.div_lt_of_lt_mul (by rw [Nat.mul_comm]; exact hx)
 have hxc:x % c < c := Nat.mod_lt _ hc0
 have d1:((x:Nat):Int) / ((c:Nat):Int) = ((x / c:Nat):Int) := (Int.natCast_ediv x c).symm
 have d2:((x:Nat):Int) % ((c:Nat):Int) = ((x % c:Nat):Int) := (Int.natCast_emod x c).symm
 have c1:(0:Int) < (c:Int) := Int.ofNat_lt.mpr hc0
 have c2:((c:Nat):Int) < 2 ^ 64 := Int.lt_of_le_of_lt (Int.ofNat_le.mpr hcm) (by decide)
 unfold Pf.bx
 simp only
 rw [fq ⟨c1, c2⟩, nza, ft c1, nza, d1, d2, nza]
 generalize hR:x / c = R at hxr
 generalize hC:x % c = C at hxc
 generalize hms:(if (decide (reach = 8)) = true then (2:Int) else 1) = ms
 have ems:ms = (if reach = 8 then 2 else 1) := by rw [← hms]; simp
 have lR:R - 1 ≤ 1000 := nz4 (Nat.sub_le _ _) (nz4 (nz5 hxr) hmm)
 have lC:C - 1 ≤ 1000 := nz4 (Nat.sub_le _ _) (nz4 (nz5 hxc) hcm)
 rw [mx_dn, mn_up, mx_dn, mn_up, l6 lR (nz4 (Nat.min_le_left _ _) hmm), nza]
 have key:∀ (s:List Int) (r:Nat), r < m → r ≤ R + 1 → R ≤ r + 1 → s = cl ((List.range (r * c)).filter (adj c reach x)) →
   ∃ s', ((rng2 ((C - 1:Nat):Int) ((min c (C + 2):Nat):Int)).bind fun x16 => (Pu.forS (fun (s11:List Int) (x10:Int) => if (decide (0 < (Pu.ab ((r:Int) - (R:Int))) + (Pu.ab (x10 - (C:Int)))) && decide ((Pu.ab ((r:Int) - (R:Int))) + (Pu.ab (x10 - (C:Int))) ≤ ms)) = true then ((Pu.mul (r:Int) (c:Int)).bind fun x12 => some (x12 + x10)).bind fun x15 => (Pu.app s11 x15).bind fun found14 => some (found14) else some (s11)) x16 s).bind fun s11 => some s11) = some s' ∧ s' = cl ((List.range ((r + 1) * c)).filter (adj c reach x)) := by
  intro s r hr1 hr2 hr3 es
  have hrc:r * c + c ≤ m * c := by rw [← Nat.succ_mul]; exact Nat.mul_le_mul_right c hr1
  have hmc:m * c ≤ 1000000 := Nat.mul_le_mul hmm hcm
  rw [l6 lC (nz4 (Nat.min_le_left _ _) hcm), nza]
  refine (oi12 _ (bU (fun j s => s = cl ((List.range (r * c + (C - 1 + j))).filter (adj c reach x))) ?_ ?_ ?_) rfl)
  rotate_left 2
  ·rintro s' e2
   show some s' = some _
   congr 1
   rw [e2, Nat.add_mul, Nat.one_mul, List.length_map, List.length_range, l8 hxc, cT _ (r * c + min c (C + 2)) (r * c + c) (Nat.add_le_add_left (Nat.min_le_left _ _) _) fun o h1 h2 => ?_]
   refine oq11 (show ∃ k, o = r * c + k from ⟨o - r * c, (Nat.add_sub_cancel' (nz4 (Nat.le_add_right _ _) h1)).symm⟩) fun k eq1_ => ?_; subst eq1_
   have hk := Nat.lt_of_add_lt_add_left h2
   refine fZ (.inr ?_)
   rw [(gO (i := r) hk).2, hC]
   exact l9 (Nat.le_of_add_le_add_left h1) hk
  ·rw [es, Nat.add_zero, cT _ (r * c) _ (Nat.le_add_right _ _) fun o h1 h2 => ?_]
   refine oq11 (show ∃ k, o = r * c + k from ⟨o - r * c, (Nat.add_sub_cancel' h1).symm⟩) fun k eq1_ => ?_; subst eq1_
   have hk := Nat.lt_of_add_lt_add_left h2
   refine fZ (.inl ?_)
   rw [(gO (i := r) (nz8 (nz1 hk (Nat.sub_le _ _)) hxc)).2, hC]
   exact Nat.add_lt_of_lt_sub hk
  ·intro j y s hy es
   refine oq02 (rng_get hy) fun hj eq1_ => ?_; subst eq1_
   refine oq03 (span_at hj) fun k1 k2 k3 => ?_
   rw [show r * c + (C - 1 + (j + 1)) = r * c + (C - 1 + j) + 1 from rfl, iT, adj_at k1]
   generalize C - 1 + j = k at k1 k2 k3 es
   rw [mG, mG, hR, hC]
   have l2:s.length ≤ 1000000 := by
    rw [es, bW]
    refine nz4 (List.length_filter_le _ _) ?_
    rw [List.length_range]
    exact nz4 (Nat.add_le_add_left (nz5 k1) _) (nz4 hrc hmc)
   have iff := near_iff (l7 hr2 hr3) (l7 k2 k3) ems
   by_cases hcond:0 < dif (r:Nat) (R:Nat) + dif (k:Nat) (C:Nat) ∧ dif (r:Nat) (R:Nat) + dif (k:Nat) (C:Nat) ≤ ms
   ·refine (oi12 (s ++ [((r * c + k:Nat):Int)]) ?_ ?_)
    ·rw [if_pos (by simpa using hcond), jM ⟨Int.lt_trans (by decide) c1, c2⟩, nza, nza, fR l2, nza, Int.natCast_add, Int.natCast_mul]
    ·rw [decide_eq_true (iff.mpr hcond), if_pos rfl, es]; unfold cl; rw [List.map_append]; rfl
   ·refine (oi12 s ?_ ?_)
    ·rw [if_neg (by simpa using hcond)]
    ·rw [decide_eq_false fun h => hcond (iff.mp h), if_neg Bool.false_ne_true, List.append_nil]; exact es
 refine bU (fun i s => s = cl ((List.range ((R - 1 + i) * c)).filter (adj c reach x))) ?_ ?_ ?_
 rotate_left 2
 ·rintro s' e2
  rw [e2]
  congr 2
  unfold nbL
  rw [List.length_map, List.length_range, l8 hxr, cT _ (min m (R + 2) * c) (m * c) (Nat.mul_le_mul_right c (Nat.min_le_left _ _)) fun o h1 h2 => ?_]
  refine fY hc0 (.inr ?_)
  rw [hR]
  exact l9 ((Nat.le_div_iff_mul_le hc0).mpr h1) ((Nat.div_lt_iff_lt_mul hc0).mpr h2)
 ·rw [Nat.add_zero, cT _ 0 _ (Nat.zero_le _) fun o _ ho => ?_]
  ·rfl
  ·refine fY hc0 (.inl ?_)
   rw [hR]
   exact Nat.add_lt_of_lt_sub ((Nat.div_lt_iff_lt_mul hc0).mpr ho)
 ·intro i y s hy es
  refine oq02 (rng_get hy) fun hi eq1_ => ?_; subst eq1_
  refine oq03 (span_at hi) fun k1 k2 k3 => ?_
  exact key s (R - 1 + i) k1 k2 k3 es
end Pf
namespace Pf
open Fl Pu
theorem ig (ns:List Int) (k:Nat):Pf.bG ns (k:Int) = some (cellAt ns k) := by
 unfold Pf.bG cellAt Pu.ln
 by_cases h:k < ns.length
 ·rw [if_pos (by simpa using h), d9]; simp [h]
 ·rw [if_neg (by simpa using h)]; simp [h]
theorem mH (rows:List (List Int)) (h:rows.flatten.length ≤ 1000000):Pf.jK rows = some rows.flatten := by
 unfold Pf.jK
 refine bU (fun i s => s = (rows.take i).flatten) rfl ?_ fun s' e => by rw [e, List.take_length]
 intro i r s hr es
 have hi := (List.getElem?_eq_some_iff.mp hr).1
 have er := (List.getElem?_eq_some_iff.mp hr).2
 have e1:(rows.take (i + 1)).flatten = s ++ r := by
  have e0:rows.take (i + 1) = rows.take i ++ [rows[i]] := (List.take_append_getElem hi).symm
  rw [e0, es, er]; simp
 have hle:(s ++ r).length ≤ rows.flatten.length := by
  rw [← e1]
  have e2:rows.flatten = (rows.take (i + 1)).flatten ++ (rows.drop (i + 1)).flatten := by rw [← List.flatten_append, List.take_append_drop]
  rw [e2, List.length_append]; exact Nat.le_add_right _ _
 rw [List.length_append] at hle
 exact (oi12 (s ++ r) (by rw [cat_ok (by exact nz4 hle h)]; rfl) e1.symm)
end Pf
namespace Fl
noncomputable def hgt (rows:List (List Int)) (c x:Nat):Int := (rows.getD (x / c) []).getD (x % c) 0
theorem bw {rows:List (List Int)} {c:Nat} (h:∀ r ∈ rows, r.length = c):rows.flatten.length = rows.length * c := by
 induction rows with
 | nil => simp
 | cons r rs ih =>
  rw [List.flatten_cons, List.length_append, ih fun q hq => h q (List.mem_cons.mpr (.inr hq)), h r (List.mem_cons.mpr (.inl rfl)), List.length_cons, Nat.succ_mul]
  omega
theorem flat_get {rows:List (List Int)} {c:Nat} (hc:0 < c) (h:∀ r ∈ rows, r.length = c) {x:Nat} (hx:x < rows.length * c):rows.flatten[x]? = some (hgt rows c x) := by
 induction rows generalizing x with
 | nil => simp at hx
 | cons r rs ih =>
  have hr := h r (List.mem_cons.mpr (.inl rfl))
  rw [List.flatten_cons]
  by_cases hlt:x < c
  ·rw [List.getElem?_append_left (by exact nz1 hlt (nz3 hr.symm)), List.getElem?_eq_getElem (by exact nz1 hlt (nz3 hr.symm))]
   unfold hgt
   rw [Nat.div_eq_of_lt hlt, Nat.mod_eq_of_lt hlt]
   simp [hr, hlt]
  ·rw [List.getElem?_append_right (by exact nz4 (nz3 hr) (Nat.not_lt.mp hlt)), hr]
   rw [List.length_cons, Nat.succ_mul] at hx
   rw [ih (fun q hq => h q (List.mem_cons.mpr (.inr hq))) (by omega)]
   unfold hgt
   have e1:x / c = (x - c) / c + 1 := by rw [Nat.div_eq x c, if_pos ⟨hc, by exact Nat.not_lt.mp hlt⟩]
   have e2:x % c = (x - c) % c := by rw [Nat.mod_eq_sub_mod (by exact Nat.not_lt.mp hlt)]
   rw [e1, e2]
   simp
end Fl
namespace Pf
open Fl Pu
section
variable {rows:List (List Int)} {c:Nat}
theorem da (hp:0 < rows.length) (h:∀ r ∈ rows, r.length = c):Pf.size_of rows = some ((rows.length:Int), (c:Int)) := by
 unfold Pf.size_of
 cases rows with
 | nil => simp at hp
 | cons r rs =>
  have hr := h r (List.mem_cons.mpr (.inl rfl))
  rw [if_pos (by simp)]
  have e0:Pu.at_ (r :: rs) 0 = some r := d9 (i := 0)
  rw [e0, nza, nza]
  unfold Pu.ln
  rw [hr]
theorem jN (hc:0 < c) (hcm:c ≤ 1000) (h:∀ r ∈ rows, r.length = c) {x:Nat} (hx:x < rows.length * c):Pf.cp rows (x:Int) = some (hgt rows c x) := by
 have hp:0 < rows.length := by
  rcases Nat.eq_zero_or_pos rows.length with z | z
  ·rw [z] at hx; simp at hx
  ·exact z
 have hq:x / c < rows.length := Nat.div_lt_of_lt_mul (by rw [Nat.mul_comm]; exact hx)
 have hm:x % c < c := Nat.mod_lt _ hc
 unfold Pf.cp
 rw [da hp h, nza, nza, fq ⟨by omega, by omega⟩, nza, ft (by omega), ← Int.natCast_ediv, d9, List.getElem?_eq_getElem hq, nza, nza, ← Int.natCast_emod, d9]
 have hr := h _ (List.getElem_mem hq)
 rw [List.getElem?_eq_getElem (by exact nz1 hm (nz3 hr.symm))]
 unfold hgt
 simp [hq, hr, hm]
noncomputable def key (rows:List (List Int)) (c x:Nat):Int × Int := (hgt rows c x, (x:Int))
theorem cn (hc:0 < c) (hcm:c ≤ 1000) (h:∀ r ∈ rows, r.length = c) {x:Nat} (hx:x < rows.length * c):Pf.aK rows (x:Int) = some (key rows c x) := by
 unfold Pf.aK
 rw [jN hc hcm h hx]; rfl
theorem gl (hc:0 < c) (hcm:c ≤ 1000) (h:∀ r ∈ rows, r.length = c) {x y:Nat} (hx:x < rows.length * c) (hy:y < rows.length * c):Pf.bi rows (x:Int) (y:Int) = some (lt2 (key rows c x) (key rows c y)) := by
 unfold Pf.bi
 rw [cn hc hcm h hx, cn hc hcm h hy]; rfl
end
end Pf
namespace Fl
open Pu
noncomputable def hk (hs:List Int) (x:Nat):Int × Int := (hs.getD x 0, (x:Int))
theorem gA {rows:List (List Int)} {c:Nat} (hc:0 < c) (h:∀ r ∈ rows, r.length = c) {x:Nat} (hx:x < rows.length * c):hk rows.flatten x = Pf.key rows c x := by
 unfold hk Pf.key
 have := flat_get hc h hx
 rw [List.getD_eq_getElem?_getD, this]; rfl
theorem lt2_as {a b:Int × Int} (h1:lt2 a b = true):lt2 b a = false := by
 unfold lt2 at *; simp only [decide_eq_true_eq] at *; rw [decide_eq_false_iff_not]; omega
theorem lt2_ir (a:Int × Int):lt2 a a = false := by unfold lt2; rw [decide_eq_false_iff_not]; omega
structure Ord (hs:List Int) (os:List Nat):Prop where
 pm:os.Perm (List.range hs.length)
 up:os.Pairwise fun a b => lt2 (hk hs a) (hk hs b) = true
section
variable {hs:List Int} {os:List Nat}
theorem Ord.nd (o:Ord hs os):os.Nodup := (o.pm.nodup_iff).mpr List.nodup_range
theorem Ord.mem (o:Ord hs os) {x:Nat}:x ∈ os ↔ x < hs.length := by rw [o.pm.mem_iff, List.mem_range]
theorem Ord.len (o:Ord hs os):os.length = hs.length := by rw [o.pm.length_eq, List.length_range]
noncomputable abbrev rk (os:List Nat) (x:Nat):Nat := os.idxOf x
theorem Ord.rk_lt (o:Ord hs os) {x:Nat} (hx:x < hs.length):rk os x < hs.length := by rw [← o.len]; exact List.idxOf_lt_length_iff.mpr (o.mem.mpr hx)
theorem Ord.at_rk (o:Ord hs os) {x:Nat} (hx:x < hs.length):os[rk os x]? = some x := by
 have h := List.idxOf_lt_length_iff.mpr (o.mem.mpr hx)
 rw [List.getElem?_eq_getElem h, List.getElem_idxOf h]
theorem Ord.rk_at (o:Ord hs os) {i x:Nat} (h:os[i]? = some x):rk os x = i := by
 have hi := (List.getElem?_eq_some_iff.mp h).1
 have e := (List.getElem?_eq_some_iff.mp h).2
 rw [← e]
 exact o.nd.idxOf_getElem i hi
theorem Ord.lt_iff (o:Ord hs os) {x y:Nat} (hx:x < hs.length) (hy:y < hs.length):rk os x < rk os y ↔ lt2 (hk hs x) (hk hs y) = true := by
 have go:∀ {x y:Nat}, x < hs.length → y < hs.length → rk os x < rk os y → lt2 (hk hs x) (hk hs y) = true := fun {x y} hx hy h => by
  have h1 := o.at_rk hx
  have h2 := o.at_rk hy
  have e1 := (List.getElem?_eq_some_iff.mp h1)
  have e2 := (List.getElem?_eq_some_iff.mp h2)
  obtain ⟨l1, e1⟩ := e1
  obtain ⟨l2, e2⟩ := e2
  have := List.pairwise_iff_getElem.mp o.up _ _ l1 l2 h
  rw [e1, e2] at this
  exact this
 refine ⟨go hx hy, fun h => ?_⟩
 rcases Nat.lt_trichotomy (rk os x) (rk os y) with z | z | z
 ·exact z
 ·have e1 := o.at_rk hx
  rw [z, o.at_rk hy] at e1
  cases e1
  rw [lt2_ir] at h; cases h
 ·have := lt2_as (go hy hx z)
  rw [this] at h; cases h
theorem Ord.le_iff (o:Ord hs os) {x y:Nat} (hx:x < hs.length) (hy:y < hs.length):rk os x ≤ rk os y ↔ lt2 (hk hs y) (hk hs x) = false := by
 rw [← Nat.not_lt, o.lt_iff hy hx, Bool.not_eq_true]
end
end Fl
namespace Pf
open Fl Pu
theorem cM {S:Type} {α β:Type} {f:List α → β → Option (List α)} {p:β → Bool} {v:β → α} {B:Nat} (h:∀ s x, s.length ≤ B → f s x = some (if p x = true then s ++ [v x] else s)):∀ {xs:List β} {s:List α}, s.length + xs.length ≤ B → forS f xs s = some (s ++ (xs.filter p).map v)
 | [], s, _ => by simp [forS]
 | x :: xs, s, hl => by
  rw [List.length_cons] at hl
  rw [iW, h s x (by omega), nza]
  cases q:p x with
  | true => rw [if_pos rfl, cM (S := S) h (by simp; omega), List.filter_cons_of_pos q]; simp
  | false => rw [if_neg Bool.false_ne_true, cM (S := S) h (by omega), List.filter_cons_of_neg (by simp [q])]
noncomputable def stp (m c:Nat) (reach:Int) (R C:Nat) (d a:Int):Bool :=
 ((decide (0 ≤ (R:Int) + d) && decide ((R:Int) + d < (m:Int))) && (decide (0 ≤ (C:Int) + a) && decide ((C:Int) + a < (c:Int)))) && ((decide (Pu.ab d + Pu.ab a = 1)) || ((decide (reach = 8)) && (decide (Pu.ab d + Pu.ab a = 2))))
theorem j5 {m c x:Nat} {reach:Int} (hc0:0 < c) (hcm:c ≤ 1000) (hmm:m ≤ 1000) (hx:x < m * c):Pf.next ((m:Int), (c:Int)) reach (x:Int) = some (([-1, 0, 1]:List Int).flatMap fun d => (([-1, 0, 1]:List Int).filter (stp m c reach (x / c) (x % c) d)).map fun a => (((x / c:Nat):Int) + d) * (c:Int) + (((x % c:Nat):Int) + a)) := by
 have d1:((x:Nat):Int) / ((c:Nat):Int) = ((x / c:Nat):Int) := (Int.natCast_ediv x c).symm
 have d2:((x:Nat):Int) % ((c:Nat):Int) = ((x % c:Nat):Int) := (Int.natCast_emod x c).symm
 unfold Pf.next
 simp only [bs, fq (show 0 < ((c:Nat):Int) ∧ ((c:Nat):Int) < 2 ^ 64 by omega), ft (show 0 < ((c:Nat):Int) by exact Int.ofNat_lt.mpr hc0), d1, d2, jM (show -(2 ^ 64) < ((c:Nat):Int) ∧ ((c:Nat):Int) < 2 ^ 64 by omega)]
 generalize x / c = R
 generalize x % c = C
 have inner:∀ (d:Int) (s:List Int), s.length ≤ 100 → forS (fun (s7:List Int) (x6:Int) => if (((decide (0 ≤ (R:Int) + d) && decide ((R:Int) + d < (m:Int))) && (decide (0 ≤ (C:Int) + x6) && decide ((C:Int) + x6 < (c:Int)))) && ((decide (Pu.ab d + Pu.ab x6 = 1)) || ((decide (reach = 8)) && (decide (Pu.ab d + Pu.ab x6 = 2))))) = true then (Pu.app s7 (((R:Int) + d) * (c:Int) + ((C:Int) + x6))).bind fun f => some f else some s7) [-1, 0, 1] s =
   some (s ++ (([-1, 0, 1]:List Int).filter (stp m c reach R C d)).map fun a => ((R:Int) + d) * (c:Int) + ((C:Int) + a)) := fun d s hs => by
  refine cM (S := Unit) (B := 1000) (fun s x hs => ?_) (by simp; exact nz5 (nz2 hs (by decide)))
  show (if stp m c reach R C d x = true then _ else _) = _
  cases q:stp m c reach R C d x with
  | true => rw [if_pos rfl, if_pos rfl, fR (by exact nz5 (nz2 hs (by decide)))]; rfl
  | false => rw [if_neg Bool.false_ne_true, if_neg Bool.false_ne_true]
 have l3:∀ d, ((([-1, 0, 1]:List Int).filter (stp m c reach R C d)).map fun a => ((R:Int) + d) * (c:Int) + ((C:Int) + a)).length ≤ 3 := fun d => by
  rw [List.length_map]; exact List.length_filter_le _ _
 refine bU (fun i s => s = (([-1, 0, 1]:List Int).take i).flatMap (fun d => (([-1, 0, 1]:List Int).filter (stp m c reach R C d)).map fun a => ((R:Int) + d) * (c:Int) + ((C:Int) + a)) ∧ s.length ≤ 3 * i) ⟨rfl, by simp⟩ ?_ fun s e => by rw [e.1]; rfl
 intro i d s hd zq; refine oq02 zq fun es hs => ?_
 have hi:i < 3 := (List.getElem?_eq_some_iff.mp hd).1
 refine (oi13 _ (by rw [inner d s (by omega)]; rfl) ?_ ?_)
 ·have:([-1, 0, 1]:List Int).take (i + 1) = ([-1, 0, 1]:List Int).take i ++ [d] := by
   have e := (List.getElem?_eq_some_iff.mp hd).2
   rw [← e, List.take_append_getElem]
  rw [this, List.flatMap_append, es]
  simp
 ·rw [List.length_append]; have := l3 d; omega
theorem fS {m c R C:Nat} {reach d a:Int} (h:stp m c reach R C d a = true):∃ r k:Nat, (R:Int) + d = (r:Int) ∧ (C:Int) + a = (k:Int) ∧ r < m ∧ k < c ∧ (ab d + ab a = 1 ∨ (reach = 8 ∧ ab d + ab a = 2)) := by
 unfold stp at h
 simp only [Bool.and_eq_true, Bool.or_eq_true, decide_eq_true_eq] at h
 refine oq02 h fun nn1 h5 => ?_; refine oq03 nn1 fun nn2 h3 h4 => ?_; refine oq02 nn2 fun h1 h2 => ?_
 refine oq11 (Int.eq_ofNat_of_zero_le h1) fun r hr => ?_
 refine oq11 (Int.eq_ofNat_of_zero_le h3) fun k hk => ?_
 rw [hr] at h2
 rw [hk] at h4
 exact (oi25 r k hr hk (Int.ofNat_lt.mp h2) (Int.ofNat_lt.mp h4) h5)
theorem ii (a b:Int):a + (b - a) = b := by omega
theorem dif_ab {r R:Nat} {d:Int} (e:(R:Int) + d = (r:Int)):dif (r:Nat) (R:Nat) = ab d := by
 rw [← mG, ← e, Int.add_comm, Int.add_sub_cancel]
theorem ab_one {d:Int} (h:d = -1 ∨ d = 0 ∨ d = 1):0 ≤ ab d ∧ ab d ≤ 1 := by rcases h with rfl | rfl | rfl <;> decide
theorem one_ab {d:Int} (h:ab d ≤ 1):d = -1 ∨ d = 0 ∨ d = 1 := by unfold ab at h; split at h <;> omega
theorem ab_nn (d:Int):0 ≤ ab d := by unfold ab; split <;> omega
theorem two_of {p q reach:Int} (b1:0 ≤ p ∧ p ≤ 1) (b2:0 ≤ q ∧ q ≤ 1) (h:p + q = 1 ∨ (reach = 8 ∧ p + q = 2)):p + q = 1 ∨ (reach = 8 ∧ p = 1 ∧ q = 1) := by omega
theorem of_two {p q reach:Int} (b1:0 ≤ p) (b2:0 ≤ q) (h:p + q = 1 ∨ (reach = 8 ∧ p = 1 ∧ q = 1)):p ≤ 1 ∧ q ≤ 1 ∧ (p + q = 1 ∨ (reach = 8 ∧ p + q = 2)) := by omega
theorem in_rows {r k m c:Nat} (h1:r < m) (h2:k < c):r * c + k < m * c := by
 have := Nat.mul_le_mul_right c (Nat.succ_le_of_lt h1)
 rw [Nat.succ_mul] at this
 exact nz1 (Nat.add_lt_add_left h2 _) this
theorem next_eq {m c x:Nat} {reach:Int} (hc0:0 < c) (hcm:c ≤ 1000) (hmm:m ≤ 1000) (hx:x < m * c):Pf.next ((m:Int), (c:Int)) reach (x:Int) = some (cl (nbL m c reach x)) := by
 rw [j5 hc0 hcm hmm hx]
 congr 1
 have d3:∀ {d:Int}, d ∈ ([-1, 0, 1]:List Int) → d = -1 ∨ d = 0 ∨ d = 1 := fun {d} h => by simpa using h
 have d3':∀ {d:Int}, d = -1 ∨ d = 0 ∨ d = 1 → d ∈ ([-1, 0, 1]:List Int) := fun {d} h => by simpa using h
 have val:∀ {r k:Nat}, ((r:Int)) * (c:Int) + (k:Int) = ((r * c + k:Nat):Int) := by intro r k; rw [Int.natCast_add, Int.natCast_mul]
 have s2:(cl (nbL m c reach x)).Pairwise (· < ·) := by
  unfold cl nbL
  rw [List.pairwise_map]
  refine (List.pairwise_lt_range.filter _).imp fun h => ?_
  exact Int.ofNat_lt.mpr h
 have s1:(([-1, 0, 1]:List Int).flatMap fun d => (([-1, 0, 1]:List Int).filter (stp m c reach (x / c) (x % c) d)).map fun a => (((x / c:Nat):Int) + d) * (c:Int) + (((x % c:Nat):Int) + a)).Pairwise (· < ·) := by
  have base:([-1, 0, 1]:List Int).Pairwise (· < ·) := by decide
  rw [List.pairwise_flatMap]
  refine ⟨fun d _ => ?_, base.imp fun {d d'} hd u hu v hv => ?_⟩
  ·rw [List.pairwise_map]
   exact (base.filter _).imp fun {a b} h => Int.add_lt_add_left (Int.add_lt_add_left h _) _
  ·refine oq12 (List.mem_map.mp hu) fun a ha eq2_ => ?_; subst eq2_
   refine oq12 (List.mem_map.mp hv) fun a' ha' eq2_ => ?_; subst eq2_
   refine oq25 (fS (List.mem_filter.mp ha).2) fun r k e1 e2 _ h1 _ => ?_
   refine oq25 (fS (List.mem_filter.mp ha').2) fun r' k' e3 e4 _ h2 _ => ?_
   have hr:(r:Int) < (r':Int) := by rw [← e1, ← e3]; exact Int.add_lt_add_left hd _
   rw [e1, e2, e3, e4, val, val]
   exact Int.ofNat_lt.mpr (nz1 (in_rows (Int.ofNat_lt.mp hr) h1) (Nat.le_add_right _ _))
 have mem:∀ y:Int, y ∈ (([-1, 0, 1]:List Int).flatMap fun d => (([-1, 0, 1]:List Int).filter (stp m c reach (x / c) (x % c) d)).map fun a => (((x / c:Nat):Int) + d) * (c:Int) + (((x % c:Nat):Int) + a)) ↔ y ∈ cl (nbL m c reach x) := by
  intro y
  rw [List.mem_flatMap, eE]
  constructor
  ·intro zq; refine oq12 zq fun d hd hy => ?_
   refine oq12 (List.mem_map.mp hy) fun a ha eq2_ => ?_; subst eq2_
   refine oq02 (List.mem_filter.mp ha) fun ha1 ha2 => ?_
   refine oq25 (fS ha2) fun r k e1 e2 h1 h2 h3 => ?_
   refine (oi12 (r * c + k) (bK.mpr ⟨in_rows h1 h2, ?_⟩) (by rw [e1, e2, val]))
   rw [adj_at h2, decide_eq_true_eq, dif_ab e1, dif_ab e2]
   exact two_of (ab_one (d3 hd)) (ab_one (d3 ha1)) h3
  ·intro zq; refine oq12 zq fun o ho eq2_ => ?_; subst eq2_
   refine oq02 (bK.mp ho) fun h1 h2 => ?_
   have ho1:o / c < m := Nat.div_lt_of_lt_mul (by rw [Nat.mul_comm]; exact h1)
   have ho2:o % c < c := Nat.mod_lt _ hc0
   unfold adj at h2
   rw [decide_eq_true_eq] at h2
   refine oq03 (of_two (ab_nn _) (ab_nn _) h2) fun b1 b2 b3 => ?_
   refine (oi12 (((o / c:Nat):Int) - ((x / c:Nat):Int)) (d3' (one_ab b1)) (List.mem_map.mpr (oi12 (((o % c:Nat):Int) - ((x % c:Nat):Int)) (List.mem_filter.mpr ⟨d3' (one_ab b2), ?_⟩) ?_)))
   ·unfold stp
    simp only [Bool.and_eq_true, Bool.or_eq_true, decide_eq_true_eq, ii]
    exact ⟨(oi03 ⟨Int.natCast_nonneg _, Int.ofNat_lt.mpr ho1⟩ (Int.natCast_nonneg _) (Int.ofNat_lt.mpr ho2)), b3⟩
   ·rw [ii, ii, val, Nat.mul_comm, Nat.div_add_mod]
 have n1 := s1.imp (S := (· ≠ ·)) fun h => Int.ne_of_lt h
 have n2 := s2.imp (S := (· ≠ ·)) fun h => Int.ne_of_lt h
 exact c7 (le := (· < ·)) (fun a b h1 h2 => absurd h1 (by exact Int.not_lt.mpr (Int.le_of_lt h2))) ((List.perm_ext_iff_of_nodup n1 n2).mpr mem) s1 s2
end Pf
namespace Fl
open Pu
theorem nats_cl (n:Nat):nats n = cl (List.range n) := rfl
theorem ord_nd (hs:List Int):((List.range hs.length).map (hk hs)).Nodup := by
 rw [List.Nodup, List.pairwise_map]
 refine List.nodup_range.imp fun {a b} hab e => hab ?_
 have:(hk hs a).2 = (hk hs b).2 := by rw [e]
 unfold hk at this
 simp only at this
 omega
theorem srtK_ord (hs:List Int):∃ os, srtK (cl (List.range hs.length)) ((List.range hs.length).map (hk hs)) = cl os ∧ Ord hs os := by
 unfold srtK
 have ez:((List.range hs.length).map (hk hs)).zip (cl (List.range hs.length)) = (List.range hs.length).map fun (x:Nat) => (hk hs x, (x:Int)) := by
  unfold cl
  rw [List.zip_map']
 rw [ez]
 have pm := List.mergeSort_perm ((List.range hs.length).map fun (x:Nat) => (hk hs x, (x:Int))) fun a b => le2 a.1 b.1
 have so:(((List.range hs.length).map fun (x:Nat) => (hk hs x, (x:Int))).mergeSort fun a b => le2 a.1 b.1).Pairwise fun a b => le2 a.1 b.1 = true := List.pairwise_mergeSort (fun a b c => fO a.1 b.1 c.1) (fun a b => fP a.1 b.1) _
 generalize (((List.range hs.length).map fun (x:Nat) => (hk hs x, (x:Int))).mergeSort fun a b => le2 a.1 b.1) = qs at pm so
 have form:∀ q ∈ qs, q = (hk hs q.2.toNat, (q.2.toNat:Int)) := fun q hq => by
  refine oq12 (List.mem_map.mp (pm.mem_iff.mp hq)) fun i _ e => ?_
  rw [← e]; simp
 refine ⟨qs.map fun q => q.2.toNat, ?_, ?_, ?_⟩
 ·unfold cl
  rw [List.map_map]
  refine List.map_congr_left fun q hq => ?_
  have := form q hq
  rw [this]; simp
 ·have := pm.map fun q => q.2.toNat
  rw [List.map_map] at this
  refine this.trans ?_
  have e:((List.range hs.length).map ((fun q:(Int × Int) × Int => q.2.toNat) ∘ fun (x:Nat) => (hk hs x, (x:Int)))) = List.range hs.length := by
   conv => rhs; rw [← List.map_id (List.range hs.length)]
   refine List.map_congr_left fun i _ => ?_
   simp
  rw [e]
 ·rw [List.pairwise_map]
  have nd:qs.Nodup := by
   rw [pm.nodup_iff, List.Nodup, List.pairwise_map]
   refine List.nodup_range.imp fun {a b} hab e => hab ?_
   have := (Prod.mk.inj e).2
   omega
  refine (List.Pairwise.imp_of_mem ?_ (so.and nd))
  intro a b ha hb ⟨h1, h2⟩
  have fa := form a ha
  have fb := form b hb
  have ne:a.2.toNat ≠ b.2.toNat := fun z => h2 (by rw [fa, fb, z])
  rw [fa, fb] at h1
  simp only at h1
  unfold le2 at h1
  unfold lt2
  rw [decide_eq_true_eq] at *
  unfold hk at *
  simp only at *
  omega
end Fl
namespace Pf
open Fl Pu
section
variable {rows:List (List Int)} {c:Nat}
theorem db (hp:0 < rows.length) (hcm:c ≤ 1000) (hm:rows.length ≤ 1000) (h:∀ r ∈ rows, r.length = c):Pf.bc rows = some (cl (List.range (rows.length * c))) := by
 unfold Pf.bc
 have hb:rows.length * c ≤ 1000000 := by
  have := Nat.mul_le_mul hm hcm
  omega
 rw [da hp h, nza, jL ⟨by simp; omega, by simp; exact Int.ofNat_lt.mpr (nz2 hm (by decide))⟩, nza]
 have e:(rows.length:Int) * (c:Int) = ((rows.length * c:Nat):Int) := by simp
 simp only
 rw [e]
 unfold Pu.lrng
 rw [if_pos (oi03 (by omega) (by omega) (by omega)), Int.toNat_natCast, nats_cl]
theorem j6 {g:Int → Option (Int × Int)} {f:Nat → Int × Int}:∀ {l:List Nat}, (∀ x ∈ l, g (x:Int) = some (f x)) → Pu.keysOf g (cl l) = some (l.map f)
 | [], _ => rfl
 | x :: l, h => by
  show Pu.keysOf g ((x:Int) :: cl l) = _
  rw [Pu.keysOf, h x (List.mem_cons.mpr (.inl rfl)), nza, j6 fun y hy => h y (List.mem_cons.mpr (.inr hy))]
  rfl
end
end Pf
namespace Pu
variable {α:Type}
end Pu
namespace Fl
end Fl
namespace Gr
open Fl Pu
section
variable {β:Type} {nb:Nat → List Nat} {ok:Nat → Bool} {n x u j:Nat} {P:List (Int × β) → Prop} {v:β}
end
end Gr
namespace Pf
open Fl Pu Gr
section
variable {rows:List (List Int)} {c:Nat} {reach:Int} {x last:Nat}
end
end Pf
namespace Pu
variable {α:Type}
theorem find_put {d:List (Int × α)} {k j:Int} {v:α}:find (put d k v) j = if j = k then some v else find d j := by
 unfold put
 split
 ·rename_i h
  unfold find
  induction d with
  | nil => simp at h
  | cons e d ih =>
   rw [List.map_cons, List.find?_cons, List.find?_cons]
   by_cases hk:e.1 = k
   ·rw [if_pos hk]
    by_cases hj:j = k
    ·subst hj; simp [hk]
    ·rw [if_neg hj]
     have:¬ e.1 = j := fun z => hj (z.symm.trans hk)
     simp only [this, decide_false]
     by_cases hr:(d.any fun kv => decide (kv.1 = k)) = true
     ·have := ih hr
      rw [if_neg hj] at this
      exact this
     ·have e2:d.map (fun kv => if kv.1 = k then (kv.1, v) else kv) = d := by
       conv => rhs; rw [← List.map_id d]
       refine List.map_congr_left fun kv hkv => ?_
       rw [if_neg]
       ·rfl
       ·intro z
        exact hr (List.any_eq_true.mpr (oi12 kv hkv (by simp [z])))
      rw [e2]
   ·rw [if_neg hk]
    have hr:(d.any fun kv => decide (kv.1 = k)) = true := by
     rw [List.any_cons] at h
     simpa [hk] using h
    have := ih hr
    by_cases hj:e.1 = j
    ·subst hj
     simp [hk]
    ·simp only [hj, decide_false]
     exact this
 ·rename_i h
  unfold find
  rw [List.find?_append]
  by_cases hj:j = k
  ·subst hj
   have:(d.find? fun kv => decide (kv.1 = j)) = none := by
    rw [List.find?_eq_none]
    intro kv hkv z
    exact h (List.any_eq_true.mpr (oi12 kv hkv z))
   rw [this]; simp
  ·rw [if_neg hj]
   have:¬ k = j := fun z => hj z.symm
   simp [this]
theorem put_len {d:List (Int × α)} {k:Int} {v:α}:(put d k v).length ≤ d.length + 1 := by
 unfold put
 split
 ·rw [List.length_map]; exact nz5 (Nat.lt_succ_self _)
 ·simp
end Pu
namespace Fl
open Pu Gr
theorem Ord.inj {hs:List Int} {os:List Nat} (o:Ord hs os) (x y:Nat) (hx:x < hs.length) (hy:y < hs.length) (e:rk os x = rk os y):x = y := by
 have h1 := o.at_rk hx
 rw [e, o.at_rk hy] at h1
 exact (Option.some.inj h1).symm
end Fl
namespace Pf
open Fl Pu Gr
section
variable {rows:List (List Int)} {c:Nat} {reach:Int} {os:List Nat} {home:Nat → Option Nat} {par:Nat → Option (Nat × Nat)} {homes:List (Option Int)} {ended:L2.End_} {k n:Nat} {A:Nat → Nat → Prop}
theorem ik {hs:List Int} (o:Ord hs os) {g:Int → Option (Int × Int)} (hg:∀ x, x < hs.length → g (x:Int) = some (hk hs x)):∀ {l:List Nat} {b:Nat}, (∀ x ∈ l, x < hs.length) → b < hs.length → ∃ e:Nat, Pu.gb g (cl l) (b:Int) (hk hs b) = some (e:Int) ∧ (e = b ∨ e ∈ l) ∧ rk os e ≤ rk os b ∧ ∀ x ∈ l, rk os e ≤ rk os x
 | [], b, _, _ => (oi14 b rfl (.inl rfl) (nz6 _) (fun _ h => nomatch h))
 | x :: l, b, hl, hb => by
  have hx := hl x (List.mem_cons.mpr (.inl rfl))
  show ∃ e:Nat, Pu.gb g ((x:Int) :: cl l) (b:Int) (hk hs b) = _ ∧ _
  rw [Pu.gb, hg x hx, nza]
  cases q:lt2 (hk hs x) (hk hs b) with
  | true =>
   rw [if_pos rfl]
   refine oq14 (ik o hg (l := l) (b := x) (fun y hy => hl y (List.mem_cons.mpr (.inr hy))) hx) fun e h1 h2 h3 h4 => ?_
   have := (o.lt_iff hx hb).mpr q
   refine (oi14 e h1 ?_ (by exact nz5 (nz2 h3 this)) (fun y hy => ?_))
   ·rcases h2 with z | z
    ·exact .inr (List.mem_cons.mpr (.inl z))
    ·exact .inr (List.mem_cons.mpr (.inr z))
   ·rcases List.mem_cons.mp hy with z | z
    ·rw [z]; exact h3
    ·exact h4 y z
  | false =>
   rw [if_neg Bool.false_ne_true]
   refine oq14 (ik o hg (l := l) (b := b) (fun y hy => hl y (List.mem_cons.mpr (.inr hy))) hb) fun e h1 h2 h3 h4 => ?_
   have := (o.le_iff hb hx).mpr q
   refine (oi14 e h1 ?_ h3 (fun y hy => ?_))
   ·rcases h2 with z | z
    ·exact .inl z
    ·exact .inr (List.mem_cons.mpr (.inr z))
   ·rcases List.mem_cons.mp hy with z | z
    ·rw [z]; exact nz4 h3 this
    ·exact h4 y z
theorem im (hc:0 < c) (hcm:c ≤ 1000) (h:∀ r ∈ rows, r.length = c) (o:Ord rows.flatten os) {l:List Nat} (hl:∀ x ∈ l, x < rows.length * c) (ne:l ≠ []):∃ e:Nat, Pf.bg rows (cl l) = some (e:Int) ∧ e ∈ l ∧ ∀ x ∈ l, rk os e ≤ rk os x := by
 have hfl:rows.flatten.length = rows.length * c := bw h
 have hg:∀ x, x < rows.flatten.length → Pf.aK rows (x:Int) = some (hk rows.flatten x) := fun x hx => by
  rw [cn hc hcm h (by exact nz1 hx (nz3 hfl)), gA hc h (by exact nz1 hx (nz3 hfl))]
 unfold Pf.bg
 cases l with
 | nil => exact absurd rfl ne
 | cons b l =>
  have hb := hl b (List.mem_cons.mpr (.inl rfl))
  show ∃ e:Nat, Pu.minK (fun c1 => Pf.aK rows c1) ((b:Int) :: cl l) = _ ∧ _
  rw [Pu.minK, hg b (by exact nz1 hb (nz3 hfl.symm)), nza]
  obtain ⟨e, h1, h2, h3, h4⟩ := ik o (g := fun c1 => Pf.aK rows c1) hg (l := l) (b := b) (fun y hy => by have := hl y (List.mem_cons.mpr (.inr hy)); exact nz1 this (nz3 hfl.symm)) (by exact nz1 hb (nz3 hfl.symm))
  refine (oi13 e h1 ?_ (fun x hx => ?_))
  ·rcases h2 with z | z
   ·exact List.mem_cons.mpr (.inl z)
   ·exact List.mem_cons.mpr (.inr z)
  ·rcases List.mem_cons.mp hx with z | z
   ·rw [z]; exact h3
   ·exact h4 x z
theorem ord_at {hs:List Int} (o:Ord hs os) {i x:Nat} (h:os[i]? = some x):x < hs.length ∧ rk os x = i := ⟨o.mem.mp (List.mem_of_getElem? h), o.rk_at h⟩
end
theorem lb {α:Type} {l:List α} {p:α × α} (h:p ∈ l.zip l):p.1 = p.2 := by
 refine oq11 (List.mem_iff_getElem?.mp h) fun i hi => ?_
 obtain ⟨h1, h2⟩ := List.getElem?_zip_eq_some.mp hi
 rw [h1] at h2
 exact Option.some.inj h2
end Pf
namespace Fl
open Pu
structure ShpW (rows:List (List Int)) (c most:Nat):Prop where
 pos:0 < rows.length
 most12:rows.length ≤ 12
 cpos:0 < c
 cmost:c ≤ 12
 row:∀ r ∈ rows, r.length = c
 area:rows.length * c ≤ most
 hts:∀ r ∈ rows, ∀ x ∈ r, 0 ≤ x ∧ x ≤ 1000000000000000000
end Fl
namespace Pf
open Fl Pu
theorem dc (ns:List Int) {k:Nat} (hk:k ≤ 1000) {top:Int} (ht:0 ≤ top):∃ v, Pf.bH ns (k:Int) top = some v ∧ 0 ≤ v ∧ v ≤ top := by
 unfold Pf.bH
 have b1:-(2 ^ 64) < (k:Int) + 1 ∧ (k:Int) + 1 < 2 ^ 64 := by omega
 have b2:-(2 ^ 64) < (k:Int) ∧ (k:Int) < 2 ^ 64 := by omega
 simp only [ig, bs, jL b1, jL b2, ft (show 0 < top + 1 by omega)]
 refine ⟨_, rfl, Int.emod_nonneg _ (by omega), ?_⟩
 exact Int.le_of_lt_add_one (Int.emod_lt_of_pos _ (by omega))
theorem nest_at {i:Nat} (h:i < 12):∃ v, Pu.at_ ([0, 1, 0, 2, 0, 1, 0, 3, 0, 1, 0, 2]:List Int) (i:Int) = some v ∧ 0 ≤ v ∧ v ≤ 3 := by
 rw [d9]
 match i, h with
 | 0, _ => exact ⟨_, rfl, by decide, by decide⟩
 | 1, _ => exact ⟨_, rfl, by decide, by decide⟩
 | 2, _ => exact ⟨_, rfl, by decide, by decide⟩
 | 3, _ => exact ⟨_, rfl, by decide, by decide⟩
 | 4, _ => exact ⟨_, rfl, by decide, by decide⟩
 | 5, _ => exact ⟨_, rfl, by decide, by decide⟩
 | 6, _ => exact ⟨_, rfl, by decide, by decide⟩
 | 7, _ => exact ⟨_, rfl, by decide, by decide⟩
 | 8, _ => exact ⟨_, rfl, by decide, by decide⟩
 | 9, _ => exact ⟨_, rfl, by decide, by decide⟩
 | 10, _ => exact ⟨_, rfl, by decide, by decide⟩
 | 11, _ => exact ⟨_, rfl, by decide, by decide⟩
 | n + 12, h => exact absurd h (by omega)
theorem jO (ns:List Int) {k i j:Nat} (hk:k ≤ 1000) {kind:Int} (h0:0 ≤ kind) (h5:kind < 5) (hi:i < 12) (hj:j < 12):∃ v, Pf.aV ns (k:Int) kind (i:Int) (j:Int) = some v ∧ 0 ≤ v ∧ v ≤ 1000000000000000000 := by
 unfold Pf.aV
 by_cases c3:kind = 3
 ·rw [if_pos (by simpa using c3)]
  refine oq13 (nest_at hi) fun u e1 u1 u2 => oq13 (nest_at hj) fun v e2 v1 v2 => oq13 (dc ns hk (top := 3) (by decide)) fun w e3 w1 w2 => ?_
  simp only [e1, e2, e3, bs]
  exact ⟨_, rfl, by omega, by omega⟩
 ·rw [if_neg (by simpa using c3)]
  by_cases c4:kind = 4
  ·rw [if_pos (by simpa using c4)]
   refine oq13 (dc ns hk (top := 9) (by decide)) fun w e3 w1 w2 => ?_
   simp only [e3, bs]
   have a1:0 ≤ Pu.ab ((i:Int) - 5) ∧ Pu.ab ((i:Int) - 5) ≤ 6 := by unfold Pu.ab; split <;> omega
   exact ⟨_, rfl, by omega, by omega⟩
  ·rw [if_neg (by simpa using c4)]
   have t:∃ top, Pu.at_ ([3, 11, 1000000000000000000]:List Int) kind = some top ∧ 0 ≤ top ∧ top ≤ 1000000000000000000 := by
    have:kind = 0 ∨ kind = 1 ∨ kind = 2 := by omega
    rcases this with rfl | rfl | rfl
    ·exact ⟨3, rfl, by decide, by decide⟩
    ·exact ⟨11, rfl, by decide, by decide⟩
    ·exact ⟨1000000000000000000, rfl, by decide, by decide⟩
   refine oq13 t fun top e t1 t2 => oq13 (dc ns hk t1) fun w e3 w1 w2 => ?_
   simp only [e, e3, bs]
   exact ⟨_, rfl, w1, Int.le_trans w2 t2⟩
theorem mI {r q c:Nat} (h:r ≤ max 1 (q / c)) (hq:c ≤ q):r * c ≤ q := by
 have h1:r * c ≤ max 1 (q / c) * c := Nat.mul_le_mul_right c h
 refine nz4 h1 ?_
 by_cases z:1 ≤ q / c
 ·rw [Nat.max_eq_right z]; exact Nat.div_mul_le_self q c
 ·rw [Nat.max_eq_left (by omega), Nat.one_mul]; exact hq
theorem lc (ns:List Int) {most:Nat} (hm:12 ≤ most) (hM:most ≤ 144):∃ rows c, Pf.cX ns (most:Int) = some rows ∧ ShpW rows c most := by
 unfold Pf.cX
 have ca := ig ns 0
 rw [show ((0:Nat):Int) = 0 from rfl] at ca
 rw [ca, bs]
 generalize cellAt ns 0 = head
 obtain ⟨c, ec, c1, c2⟩:∃ c:Nat, 1 + head % 12 = (c:Int) ∧ 1 ≤ c ∧ c ≤ 12 := ⟨(1 + head % 12).toNat, by omega, by omega, by omega⟩
 rw [ec]
 have fc:0 < (c:Int) ∧ (c:Int) < 2 ^ 64 := by omega
 generalize (Pu.ln (Pu.cut ns (some 3) (some 63)):Int) = L
 simp only [fq fc, bs]
 obtain ⟨R1, eR1, r1⟩:∃ R1:Nat, Pu.mx 1 (Pu.mn 12 ((L + (c:Int) - 1) / (c:Int))) = (R1:Int) ∧ 1 ≤ R1 ∧ R1 ≤ 12 := by
  have h1 := Fl.mn_lel 12 ((L + (c:Int) - 1) / (c:Int))
  have h2 := Fl.le_mxl 1 (Pu.mn 12 ((L + (c:Int) - 1) / (c:Int)))
  have h3:Pu.mx 1 (Pu.mn 12 ((L + (c:Int) - 1) / (c:Int))) ≤ 12 := Fl.mx_le (by decide) h1
  have h2':1 ≤ Pu.mx 1 (Pu.mn 12 ((L + (c:Int) - 1) / (c:Int))) := h2
  exact ⟨(Pu.mx 1 (Pu.mn 12 ((L + (c:Int) - 1) / (c:Int)))).toNat, by omega, by omega, by omega⟩
 rw [eR1]
 obtain ⟨R2, eR2, r2⟩:∃ R2:Nat, (if (decide (((head / 12) % 8) = 3)) = true then some (12:Int) else some ((R1:Nat):Int)) = some (R2:Int) ∧ 1 ≤ R2 ∧ R2 ≤ 12 := by
  split
  ·exact ⟨12, rfl, by decide, by decide⟩
  ·exact ⟨R1, rfl, r1⟩
 rw [eR2, bs]
 obtain ⟨R, eR, r3⟩:∃ R:Nat, Pu.mn (R2:Int) (Pu.mx 1 ((most:Int) / (c:Int))) = (R:Int) ∧ 1 ≤ R ∧ R ≤ 12 ∧ R ≤ max 1 (most / c) := by
  rw [← Int.natCast_ediv]
  generalize most / c = q
  unfold Pu.mn Pu.mx
  split <;> split <;> first | exact ⟨R2, rfl, by omega, by omega, by omega⟩ | exact ⟨q, rfl, by omega, by omega, by omega⟩ | exact ⟨1, rfl, by omega, by omega, by omega⟩
 rw [eR]
 have e1:Pu.rng1 (R:Int) = some (nats R) := fo (by omega)
 have e2:Pu.rng1 (c:Int) = some (nats c) := fo (by omega)
 rw [e1, bs, e2]
 have kb:0 ≤ (head / 96) % 5 ∧ (head / 96) % 5 < 5 := ⟨Int.emod_nonneg _ (by decide), Int.emod_lt_of_pos _ (by decide)⟩
 have H:∃ rows, (Pu.forS (fun (s17:(List (List (Int)))) (x16:Int) => ((Pu.mul x16 (c:Int)).bind fun x18 => some (3 + x18)).bind fun at20 => ((some (nats c)).bind fun x22 => Pu.comp (fun (y21:Int) => Pf.aV ns (at20 + y21) ((head / 96) % 5) x16 y21) x22).bind fun x25 => (Pu.app s17 x25).bind fun floor_here24 => some (floor_here24)) (nats R) ([])).bind (fun (s17:(List (List (Int)))) => some (s17)) = some rows ∧ rows.length = R ∧ ∀ r ∈ rows, r.length = c ∧ ∀ x ∈ r, 0 ≤ x ∧ x ≤ 1000000000000000000 := by
  refine fm (fun i s => s.length = i ∧ ∀ r ∈ s, r.length = c ∧ ∀ x ∈ r, 0 ≤ x ∧ x ≤ 1000000000000000000) ⟨rfl, fun _ h => nomatch h⟩ ?_ fun s h => ⟨s, rfl, by rw [h.1, dw], h.2⟩
  intro i x s hx hs
  refine oq02 (ie hx) fun hi ex => ?_
  subst ex
  have mm:Pu.mul (i:Int) (c:Int) = some ((i:Int) * (c:Int)) := jL (by omega)
  have lt:i * c ≤ 144 := nz4 (Nat.mul_le_mul (nz5 (nz1 hi r3.2.1)) c2) (by decide)
  have hh:∀ y ∈ nats c, ∃ v, Pf.aV ns (3 + (i:Int) * (c:Int) + y) ((head / 96) % 5) (i:Int) y = some v ∧ 0 ≤ v ∧ v ≤ 1000000000000000000 := fun y hy => by
   refine oq12 (nats_mem.mp hy) fun j hj ey => ?_
   subst ey
   have e3:3 + (i:Int) * (c:Int) + (j:Int) = ((3 + i * c + j:Nat):Int) := by rw [Int.natCast_add, Int.natCast_add, Int.natCast_mul]; rfl
   rw [e3]
   exact jO ns (by omega) kb.1 kb.2 (by omega) (by omega)
  have cg:Pu.comp (fun (y21:Int) => Pf.aV ns (3 + (i:Int) * (c:Int) + y21) ((head / 96) % 5) (i:Int) y21) (nats c) = some ((nats c).map fun y => (Pf.aV ns (3 + (i:Int) * (c:Int) + y) ((head / 96) % 5) (i:Int) y).getD 0) := by
   refine d8 (by rw [dw]; omega) fun y hy => ?_
   refine oq12 (hh y hy) fun v e _ => ?_
   rw [e]; rfl
  have ap:Pu.app s ((nats c).map fun y => (Pf.aV ns (3 + (i:Int) * (c:Int) + y) ((head / 96) % 5) (i:Int) y).getD 0) = some (s ++ [(nats c).map fun y => (Pf.aV ns (3 + (i:Int) * (c:Int) + y) ((head / 96) % 5) (i:Int) y).getD 0]) := fR (by omega)
  refine ⟨_, by rw [mm, bs, bs, bs, cg, bs, ap]; rfl, by rw [List.length_append, hs.1]; rfl, fun r hr => ?_⟩
  rcases List.mem_append.mp hr with q | q
  ·exact hs.2 r q
  ·rw [List.mem_singleton.mp q]
   refine ⟨by rw [List.length_map, dw], fun v hv => ?_⟩
   refine oq12 (List.mem_map.mp hv) fun y hy ev => ?_
   refine oq12 (hh y hy) fun v' e' b => ?_
   rw [← ev, e']; exact b
 refine oq13 H fun rows e l q => ⟨rows, c, e, by rw [l]; exact r3.1, by rw [l]; exact r3.2.1, c1, c2, fun r hr => (q r hr).1, ?_, fun r hr => (q r hr).2⟩
 rw [l]; exact mI r3.2.2 (nz4 c2 hm)
section
variable {rows:List (List Int)} {c:Nat}
theorem dU (hp:0 < rows.length) (hc:0 < c) (hcm:c ≤ 900) (hm:rows.length ≤ 900) (h:∀ r ∈ rows, r.length = c):∃ os, Pf.aZ rows = some (cl os) ∧ Ord rows.flatten os := by
 have hfl:rows.flatten.length = rows.length * c := bw h
 have lt:rows.length * c < 1000000 := nz2 (Nat.mul_le_mul hm hcm) (by decide)
 refine oq12 (srtK_ord rows.flatten) fun os e o => ?_
 refine (oi12 os ?_ o)
 unfold Pf.aZ
 rw [db hp (by omega) (by omega) h, nza]
 unfold Pu.jI
 rw [j6 (f := hk rows.flatten) fun x hx => by
  have hx := List.mem_range.mp hx
  rw [cn hc (by omega) h hx, gA hc h hx], nza]
 rw [hfl] at e
 have nd := ord_nd rows.flatten
 rw [hfl] at nd
 rw [if_pos ⟨by rw [bW, List.length_range]; exact lt, nd⟩, e]
end
noncomputable def stq (m c:Nat) (reach:Int) (R C:Nat) (d a:Int):Bool :=
 ((decide (0 ≤ (R:Int) + d) && decide ((R:Int) + d < (m:Int))) && (decide (0 ≤ (C:Int) + a) && decide ((C:Int) + a < (c:Int)))) && ((!decide ((decide (d = 0)) = (decide (a = 0)))) || ((decide (reach = 8)) && ((!decide (d = 0)) && (!decide (a = 0)))))
theorem stq_eq {m c R C:Nat} {reach d a:Int} (hd:d ∈ ([-1, 0, 1]:List Int)) (ha:a ∈ ([-1, 0, 1]:List Int)):stq m c reach R C d a = stp m c reach R C d a := by
 have key:((!decide ((decide (d = 0)) = (decide (a = 0)))) || ((decide (reach = 8)) && ((!decide (d = 0)) && (!decide (a = 0))))) = ((decide (Pu.ab d + Pu.ab a = 1)) || ((decide (reach = 8)) && (decide (Pu.ab d + Pu.ab a = 2)))) := by
  have hd:d = -1 ∨ d = 0 ∨ d = 1 := by simpa using hd
  have ha:a = -1 ∨ a = 0 ∨ a = 1 := by simpa using ha
  cases q:decide (reach = 8) <;> rcases hd with rfl | rfl | rfl <;> rcases ha with rfl | rfl | rfl <;> rfl
 unfold stq stp
 rw [key]
theorem mJ {rows:List (List Int)} {c x:Nat} {reach:Int} (hp:0 < rows.length) (hc0:0 < c) (hcm:c ≤ 1000) (hmm:rows.length ≤ 1000) (h:∀ r ∈ rows, r.length = c) (hx:x < rows.length * c):Pf.dO rows reach (x:Int) = some (cl (nbL rows.length c reach x)) := by
 rw [← next_eq hc0 hcm hmm hx, j5 hc0 hcm hmm hx]
 obtain ⟨r0, e0⟩:∃ r0, rows[0]? = some r0 := ⟨rows[0], List.getElem?_eq_getElem hp⟩
 have l0:r0.length = c := h r0 (List.mem_of_getElem? e0)
 have a0:Pu.at_ rows 0 = some r0 := by rw [show (0:Int) = ((0:Nat):Int) from rfl, d9]; exact e0
 have d1:((x:Nat):Int) / ((c:Nat):Int) = ((x / c:Nat):Int) := (Int.natCast_ediv x c).symm
 have d2:((x:Nat):Int) % ((c:Nat):Int) = ((x % c:Nat):Int) := (Int.natCast_emod x c).symm
 have ln0:Pu.ln r0 = (c:Int) := by unfold Pu.ln; rw [l0]
 have lnr:Pu.ln rows = (rows.length:Int) := rfl
 unfold Pf.dO
 simp only [a0, bs, ln0, lnr, fq (show 0 < ((c:Nat):Int) ∧ ((c:Nat):Int) < 2 ^ 64 by omega), ft (show 0 < ((c:Nat):Int) by exact Int.ofNat_lt.mpr hc0), d1, d2, jM (show -(2 ^ 64) < ((c:Nat):Int) ∧ ((c:Nat):Int) < 2 ^ 64 by omega)]
 have ex:(x:Int) = ((x / c:Nat):Int) * (c:Int) + ((x % c:Nat):Int) := by
  rw [← Int.natCast_mul, ← Int.natCast_add, Nat.mul_comm, Nat.div_add_mod]
 have vv:∀ d a:Int, (x:Int) + d * (c:Int) + a = (((x / c:Nat):Int) + d) * (c:Int) + (((x % c:Nat):Int) + a) := fun d a => by
  rw [Int.add_mul]
  generalize d * (c:Int) = w
  generalize ((x / c:Nat):Int) * (c:Int) = v at ex ⊢
  omega
 simp only [vv]
 generalize x / c = R
 generalize x % c = C
 generalize rows.length = m
 have inner:∀ (d:Int) (s:List Int), d ∈ ([-1, 0, 1]:List Int) → s.length ≤ 100 → forS (fun (s7:List Int) (x6:Int) => if (((decide (0 ≤ (R:Int) + d) && decide ((R:Int) + d < (m:Int))) && (decide (0 ≤ (C:Int) + x6) && decide ((C:Int) + x6 < (c:Int)))) && ((!decide ((decide (d = 0)) = (decide (x6 = 0)))) || ((decide (reach = 8)) && ((!decide (d = 0)) && (!decide (x6 = 0)))))) = true then (Pu.app s7 (((R:Int) + d) * (c:Int) + ((C:Int) + x6))).bind fun f => some f else some s7) [-1, 0, 1] s =
   some (s ++ (([-1, 0, 1]:List Int).filter (stp m c reach R C d)).map fun a => ((R:Int) + d) * (c:Int) + ((C:Int) + a)) := fun d s hd hs => by
  rw [← List.filter_congr (p := stq m c reach R C d) fun a ha => stq_eq hd ha]
  refine cM (S := Unit) (B := 1000) (fun s x hs => ?_) (by simp; exact nz5 (nz2 hs (by decide)))
  show (if stq m c reach R C d x = true then _ else _) = _
  cases q:stq m c reach R C d x with
  | true => rw [if_pos rfl, if_pos rfl, fR (by exact nz5 (nz2 hs (by decide)))]; rfl
  | false => rw [if_neg Bool.false_ne_true, if_neg Bool.false_ne_true]
 have l3:∀ d, ((([-1, 0, 1]:List Int).filter (stp m c reach R C d)).map fun a => ((R:Int) + d) * (c:Int) + ((C:Int) + a)).length ≤ 3 := fun d => by
  rw [List.length_map]; exact List.length_filter_le _ _
 refine bU (fun i s => s = (([-1, 0, 1]:List Int).take i).flatMap (fun d => (([-1, 0, 1]:List Int).filter (stp m c reach R C d)).map fun a => ((R:Int) + d) * (c:Int) + ((C:Int) + a)) ∧ s.length ≤ 3 * i) ⟨rfl, by simp⟩ ?_ fun s e => by rw [e.1]; rfl
 intro i d s hd zq; refine oq02 zq fun es hs => ?_
 have hi:i < 3 := (List.getElem?_eq_some_iff.mp hd).1
 refine (oi13 _ (by rw [inner d s (List.mem_of_getElem? hd) (by omega)]; rfl) ?_ ?_)
 ·have:([-1, 0, 1]:List Int).take (i + 1) = ([-1, 0, 1]:List Int).take i ++ [d] := by
   have e := (List.getElem?_eq_some_iff.mp hd).2
   rw [← e, List.take_append_getElem]
  rw [this, List.flatMap_append, es]
  simp
 ·rw [List.length_append]; have := l3 d; omega
theorem mK {rows:List (List Int)} (h:rows.flatten.length ≤ 1000000):Pf.dN rows = some ((List.range rows.flatten.length).map (hk rows.flatten)) := by
 have hq := mH rows h
 unfold Pf.jK at hq
 unfold Pf.dN
 refine oq12 (L2.a9 hq) fun s e e2 => ?_
 have e3:s = rows.flatten := Option.some.inj e2
 rw [e, nza, e3, d8 (f := fun (y:Int × Int) => some (y.2, y.1)) (g := fun y => (y.2, y.1)) (by rw [l5]; exact h) fun x _ => rfl]
 congr 1
 apply List.ext_getElem?
 intro i
 rw [List.getElem?_map, List.getElem?_map]
 by_cases q:i < rows.flatten.length
 ·rw [List.getElem?_range q]
  have:(enum rows.flatten)[i]? = some ((i:Int), rows.flatten[i]) := by unfold enum; simp [q]
  rw [this]
  show some (rows.flatten[i], (i:Int)) = some (hk rows.flatten i)
  unfold hk; rw [List.getD_eq_getElem?_getD, List.getElem?_eq_getElem q]; rfl
 ·rw [List.getElem?_eq_none (by rw [l5]; omega), List.getElem?_eq_none (by rw [List.length_range]; omega)]; rfl
end Pf
namespace Fl
open Pu
structure Low (n:Nat) (nb:Nat → List Nat) (ρ:Nat → Nat) (E:Nat → Nat):Prop where
 mem:∀ x, x < n → E x = x ∨ E x ∈ nb x
 le:∀ x, x < n → ρ (E x) ≤ ρ x ∧ ∀ y ∈ nb x, ρ (E x) ≤ ρ y
 lt:∀ x, x < n → E x < n
 dn:∀ x, x < n → E x ≠ x → ρ (E x) < ρ x
noncomputable def bon (E:Nat → Nat):Nat → Nat → Nat
 | 0, x => x
 | k + 1, x => if E x = x then x else bon E k (E x)
section
variable {n:Nat} {nb:Nat → List Nat} {ρ E:Nat → Nat}
theorem lf (L:Low n nb ρ E):∀ (k x:Nat), x < n → ρ x ≤ k → bon E k x = bon E (k + 1) x
 | 0, x, hx, hk => by
  show x = if E x = x then x else _
  by_cases e:E x = x
  ·rw [if_pos e]
  ·exact absurd (L.dn x hx e) (by omega)
 | k + 1, x, hx, hk => by
  show (if E x = x then x else bon E k (E x)) = if E x = x then x else bon E (k + 1) (E x)
  by_cases e:E x = x
  ·rw [if_pos e, if_pos e]
  ·rw [if_neg e, if_neg e]
   exact lf L k (E x) (L.lt x hx) (by have := L.dn x hx e; omega)
theorem gB (L:Low n nb ρ E) {K:Nat} (hK:∀ x, x < n → ρ x ≤ K) {x:Nat} (hx:x < n):bon E K x = if E x = x then x else bon E K (E x) := by
 rw [lf L K x hx (hK x hx)]; rfl
end
theorem skol {n:Nat} {P:Nat → Nat → Prop} (H:∀ x, x < n → ∃ e, P x e):∃ E:Nat → Nat, ∀ x, x < n → P x (E x) :=
 ⟨fun x => if hx:x < n then (H x hx).choose else 0, fun x hx => by
  show P x (if h:x < n then (H x h).choose else 0)
  rw [dif_pos hx]; exact (H x hx).choose_spec⟩
noncomputable abbrev flL (n:Nat) (E:Nat → Nat):List (Option Int) := (List.range n).map fun x => if E x = x then none else some ((E x:Nat):Int)
theorem jP {n x:Nat} {E:Nat → Nat} (hx:x < n):Pu.at_ (flL n E) (x:Int) = some (if E x = x then none else some ((E x:Nat):Int)) := by
 rw [d9, List.getElem?_map, List.getElem?_range hx]; rfl
end Fl
namespace Pf
open Fl Pu
section
variable {rows:List (List Int)} {c:Nat} {os:List Nat} {reach:Int}
theorem low_of (hp:0 < rows.length) (hc:0 < c) (hcm':c ≤ 900) (hm':rows.length ≤ 900) (h:∀ r ∈ rows, r.length = c) (o:Ord rows.flatten os) :
  ∃ E, Low (rows.length * c) (nbL rows.length c reach) (rk os) E ∧ Pf.c8 rows reach = some (flL (rows.length * c) E) := by
 have hfl:rows.flatten.length = rows.length * c := bw h
 have hcm:c ≤ 1000 := by omega
 have hm:rows.length ≤ 1000 := by omega
 have hb':rows.length * c ≤ 900 * 900 := Nat.mul_le_mul hm' hcm'
 have hb:rows.length * c ≤ 1000000 := nz4 (Nat.mul_le_mul hm hcm) (by decide)
 have nbn:∀ x, ∀ y ∈ nbL rows.length c reach x, y < rows.length * c := fun x y hy => (bK.mp hy).1
 have H:∀ x, x < rows.length * c → ∃ e:Nat, Pf.bg rows (cl (nbL rows.length c reach x ++ [x])) = some (e:Int) ∧ e ∈ nbL rows.length c reach x ++ [x] ∧ ∀ y ∈ nbL rows.length c reach x ++ [x], rk os e ≤ rk os y := fun x hx =>
  im hc hcm h o (fun y hy => (List.mem_append.mp hy).elim (nbn x y) fun z => by rw [List.mem_singleton.mp z]; exact hx) (by simp)
 obtain ⟨E, hE⟩:∃ E:Nat → Nat, ∀ x, x < rows.length * c → Pf.bg rows (cl (nbL rows.length c reach x ++ [x])) = some (E x:Int) ∧ E x ∈ nbL rows.length c reach x ++ [x] ∧ ∀ y ∈ nbL rows.length c reach x ++ [x], rk os (E x) ≤ rk os y :=
  skol H
 have mem:∀ x, x < rows.length * c → E x = x ∨ E x ∈ nbL rows.length c reach x := fun x hx => (List.mem_append.mp (hE x hx).2.1).elim .inr fun z => .inl (List.mem_singleton.mp z)
 have lt:∀ x, x < rows.length * c → E x < rows.length * c := fun x hx => (mem x hx).elim (fun e => by rw [e]; exact hx) (nbn x _)
 refine ⟨E, ⟨mem, fun x hx => ⟨(hE x hx).2.2 x (List.mem_append_right _ (.head _)), fun y hy => (hE x hx).2.2 y (List.mem_append_left _ hy)⟩, lt, fun x hx ne => ?_⟩, ?_⟩
 ·have le := (hE x hx).2.2 x (List.mem_append_right _ (.head _))
  refine Nat.lt_of_le_of_ne le fun z => ne ?_
  exact Ord.inj o (E x) x (by rw [hfl]; exact lt x hx) (by rw [hfl]; exact hx) z
 ·unfold Pf.c8
  rw [db hp hcm hm h, nza, d8 (g := fun y:Int => if E y.toNat = y.toNat then none else some ((E y.toNat:Nat):Int)) (by rw [bW, List.length_range]; exact hb) fun y hy => ?_]
  ·unfold cl flL
   rw [List.map_map]
   rfl
  ·refine oq12 (eE.mp hy) fun x hx ey => ?_
   subst ey
   have hx := List.mem_range.mp hx
   unfold Pf.fi
   have e1:Pu.cat (cl (nbL rows.length c reach x)) [(x:Int)] = some (cl (nbL rows.length c reach x ++ [x])) := by
    rw [cat_ok (by rw [bW]; exact nz4 (Nat.add_le_add_right (jk _ _ _ _) 1) (by omega))]
    unfold cl; rw [List.map_append]; rfl
   rw [da hp h, nza, dS hc hcm hm hx, nza, e1, nza, (hE x hx).1, nza, Int.toNat_natCast]
   congr 1
   by_cases q:E x = x
   ·rw [if_pos (by simp [q]), if_pos q]
   ·rw [if_neg (by simp; omega), if_neg q]
theorem jQ {n:Nat} {nb:Nat → List Nat} {ρ E:Nat → Nat} (L:Low n nb ρ E) (hn:n ≤ 90000) (hK:∀ x, x < n → ρ x ≤ n):Pf.j3 (flL n E) = some (cl ((List.range n).map (bon E n))) := by
 unfold Pf.j3
 have ln:Pu.ln (flL n E) = ((n:Nat):Int) := by unfold Pu.ln flL; rw [List.length_map, List.length_range]
 rw [ln, fo (by omega), nza]
 refine bU (fun i s => s = (cl ((List.range n).map (bon E n))).take i) rfl ?_ fun s e => ?_
 ·intro i x s hx es
  refine oq02 (ie hx) fun hi ex => ?_
  subst ex
  have sl:s.length ≤ 1000000 := by rw [es, List.length_take, bW, List.length_map, List.length_range]; omega
  have W:∃ o, (Pu.whS (fun (s4:Int) => (Pu.at_ (flL n E) s4).bind fun x5 => some (x5.isSome)) (fun (s4:Int) => ((Pu.at_ (flL n E) s4).bind fun x7 => x7).bind fun cell8 => some (cell8)) 100000 (i:Int)).bind (fun (s4:Int) => (Pu.app s s4).bind fun found10 => some (found10)) = some o ∧ o = s ++ [((bon E n i:Nat):Int)] := by
   refine whS_ex (fun z => ∃ y:Nat, z = (y:Int) ∧ y < n ∧ bon E n y = bon E n i) (fun z => ρ z.toNat) ⟨i, rfl, hi, rfl⟩ (by have := hK i hi; rw [Int.toNat_natCast]; omega) ?_ ?_
   ·intro z zq
    refine oq13 zq fun y ey hy eb => ?_
    subst ey
    refine ⟨_, by rw [jP hy, nza], fun hs => ?_⟩
    by_cases q:E y = y
    ·rw [if_pos q] at hs; cases hs
    ·refine ⟨_, by rw [jP hy, nza, if_neg q]; rfl, ⟨E y, rfl, L.lt y hy, ?_⟩, ?_⟩
     ·rw [← eb, gB L hK hy, if_neg q]
     ·rw [Int.toNat_natCast, Int.toNat_natCast]; exact L.dn y hy q
   ·intro z zq ht
    refine oq13 zq fun y ey hy eb => ?_
    subst ey
    rw [jP hy, nza] at ht
    have q:E y = y := by
     by_cases q:E y = y
     ·exact q
     ·rw [if_neg q] at ht; cases ht
    have:y = bon E n i := by rw [← eb, gB L hK hy, if_pos q]
    refine ⟨_, by rw [fR sl]; rfl, by rw [this]⟩
  refine oq12 W fun o e eo => ⟨o, e, ?_⟩
  rw [eo, es]
  have gt:(cl ((List.range n).map (bon E n)))[i]? = some ((bon E n i:Nat):Int) := by unfold cl; rw [List.getElem?_map, List.getElem?_map, List.getElem?_range hi]; rfl
  rw [List.take_add_one, gt]; rfl
 ·rw [e, dw, List.take_of_length_le (by rw [bW, List.length_map, List.length_range]; exact nz6 _)]
theorem fu (hp:0 < rows.length) (hc:0 < c) (hcm':c ≤ 900) (hm':rows.length ≤ 900) (h:∀ r ∈ rows, r.length = c) (ho:Pf.aZ rows = some (cl os)) (o:Ord rows.flatten os) {E:Nat → Nat} (L:Low (rows.length * c) (nbL rows.length c reach) (rk os) E) (hf:Pf.c8 rows reach = some (flL (rows.length * c) E)) :
  Pf.be rows reach = some (cl ((List.range (rows.length * c)).map (bon E (rows.length * c)))) := by
 have hfl:rows.flatten.length = rows.length * c := bw h
 have hb':rows.length * c ≤ 900 * 900 := Nat.mul_le_mul hm' hcm'
 have hK:∀ x, x < rows.length * c → rk os x ≤ rows.length * c := fun x hx => nz5 (hfl ▸ o.rk_lt (by rw [hfl]; exact hx))
 unfold Pf.be
 rw [hf, nza, ho, nza]
 refine bU (fun i d => d.length ≤ i ∧ ∀ y, y < rows.length * c → find d (y:Int) = if rk os y < i then some ((bon E (rows.length * c) y:Nat):Int) else none) ⟨nz6 _, fun y _ => rfl⟩ ?_ fun d hd => ?_
 ·intro i x d hx hd
  unfold cl at hx
  rw [List.getElem?_map] at hx
  refine oq12 (Option.map_eq_some_iff.mp hx) fun z hz ez => ?_
  subst ez
  have oz := ord_at o hz
  have hz':z < rows.length * c := hfl ▸ oz.1
  have il:i < rows.length * c := by rw [← oz.2, ← hfl]; exact o.rk_lt oz.1
  have val:(((Pu.at_ (flL (rows.length * c) E) (z:Int)).bind fun x6 => some (x6.isNone)).bind fun x9 => if x9 = true then some (z:Int) else ((Pu.at_ (flL (rows.length * c) E) (z:Int)).bind fun x7 => x7).bind fun x8 => Pu.find d x8) = some ((bon E (rows.length * c) z:Nat):Int) := by
   rw [jP hz', nza, nza]
   by_cases q:E z = z
   ·rw [if_pos q, if_pos (show Option.isNone none = true from rfl), gB L hK hz', if_pos q]
   ·rw [if_neg q, if_neg (by simp), nza, nza, hd.2 _ (L.lt z hz'), if_pos (by rw [← oz.2]; exact L.dn z hz' q)]
    rw [gB L hK hz', if_neg q]
  refine ⟨_, by rw [val, nza, if_pos (by omega)], nz4 put_len (Nat.add_le_add_right hd.1 1), fun y hy => ?_⟩
  rw [find_put]
  by_cases q:y = z
  ·rw [if_pos (by rw [q]), if_pos (by rw [q, oz.2]; exact Nat.lt_succ_self _), q]
  ·have ne:¬ rk os y = i := fun e => q (Ord.inj o y z (by rw [hfl]; exact hy) oz.1 (by rw [e, oz.2]))
   rw [if_neg (by omega), hd.2 y hy]
   by_cases w:rk os y < i
   ·rw [if_pos w, if_pos (Nat.lt_succ_of_lt w)]
   ·rw [if_neg w, if_neg (by omega)]
 ·rw [db hp (by omega) (by omega) h, nza, d8 (g := fun y:Int => ((bon E (rows.length * c) y.toNat:Nat):Int)) (by rw [bW, List.length_range]; omega) fun y hy => ?_]
  ·unfold cl; rw [List.map_map, List.map_map]; rfl
  ·refine oq12 (eE.mp hy) fun z hz ez => ?_
   subst ez
   have hz := List.mem_range.mp hz
   rw [hd.2 z hz, bW, o.len, if_pos (o.rk_lt (by rw [hfl]; exact hz)), Int.toNat_natCast]
end
theorem iH (l:List (Option Int)):Pf.bT l l = some true := by
 unfold Pf.bT
 rw [if_neg (by simp), fk]
 rintro ⟨a, b⟩ hp
 have e:a = b := lb hp
 subst e
 cases a with
 | none => rfl
 | some a => unfold Pf.dv; simp
end Pf
namespace Fl
open Pu
section
variable {α:Type} {d:List ((Int × Int) × α)} {k k':Int × Int} {v:α}
theorem bz (kv:(Int × Int) × α):aD (kv :: d) k = if kv.1 = k then some kv.2 else aD d k := by
 unfold aD
 by_cases q:kv.1 = k
 ·rw [List.find?_cons_of_pos (by simpa using q), if_pos q]; rfl
 ·rw [List.find?_cons_of_neg (by simpa using q), if_neg q]
theorem cY:(∃ v, aD d k = some v) ↔ k ∈ d.map (·.1) := by
 induction d with
 | nil => exact ⟨fun h => oq11 h fun _ z => (nomatch z), fun h => (nomatch h)⟩
 | cons kv d ih =>
  rw [bz, List.map_cons, List.mem_cons]
  by_cases q:kv.1 = k
  ·rw [if_pos q]; exact ⟨fun _ => .inl q.symm, fun _ => ⟨_, rfl⟩⟩
  ·rw [if_neg q, ih]; exact ⟨.inr, fun h => h.elim (fun z => absurd z.symm q) id⟩
theorem j7:(d.map (·.1)).Nodup → ((k, v) ∈ d ↔ aD d k = some v) := by
 induction d with
 | nil => exact fun _ => ⟨fun h => (nomatch h), fun h => (nomatch h)⟩
 | cons kv d ih =>
  intro nd
  rw [List.map_cons, List.nodup_cons] at nd
  rw [bz, List.mem_cons]
  by_cases q:kv.1 = k
  ·rw [if_pos q]
   refine ⟨fun h => h.elim (fun z => by rw [← z]) fun z => absurd (List.mem_map.mpr ⟨_, z, rfl⟩) (q ▸ nd.1), fun h => .inl ?_⟩
   rw [← q, ← Option.some.inj h]
  ·rw [if_neg q, ih nd.2]
   exact ⟨fun h => h.elim (fun z => absurd (by rw [← z]) q) id, .inr⟩
theorem findT_rep:aD (d.map fun kv => if kv.1 = k then (kv.1, v) else kv) k' = if k' = k then (aD d k).map (fun _ => v) else aD d k' := by
 induction d with
 | nil => by_cases q:k' = k <;> simp [q] <;> rfl
 | cons kv d ih =>
  rw [List.map_cons, bz, bz, bz, ih]
  by_cases q:kv.1 = k
  ·rw [if_pos q, if_pos q]
   by_cases w:k' = k
   ·rw [if_pos (show (kv.1, v).1 = k' by rw [w]; exact q), if_pos w]; rfl
   ·rw [if_neg (show ¬ (kv.1, v).1 = k' from fun z => w (z.symm.trans q)), if_neg w, if_neg w, if_neg (fun z => w (z.symm.trans q))]
  ·rw [if_neg q, if_neg q]
   by_cases w:k' = k
   ·rw [if_pos w, if_pos w, w, if_neg q]
   ·rw [if_neg w, if_neg w]
theorem findT_end:aD (d ++ [(k, v)]) k' = (aD d k').or (if k' = k then some v else none) := by
 induction d with
 | nil =>
  rw [List.nil_append, bz]
  by_cases q:k' = k
  ·rw [if_pos q, if_pos q.symm]; rfl
  ·rw [if_neg q, if_neg (Ne.symm q)]; rfl
 | cons kv d ih =>
  rw [List.cons_append, bz, bz, ih]
  by_cases q:kv.1 = k'
  ·rw [if_pos q, if_pos q]; rfl
  ·rw [if_neg q, if_neg q]
theorem anyT:(d.any fun kv => decide (kv.1 = k)) = true ↔ k ∈ d.map (·.1) := by
 rw [List.any_eq_true, List.mem_map]
 exact ⟨fun h => oq12 h fun x hx e => ⟨x, hx, of_decide_eq_true e⟩, fun h => oq12 h fun x hx e => ⟨x, hx, decide_eq_true e⟩⟩
theorem io:aD (putT d k v) k' = if k' = k then some v else aD d k' := by
 unfold putT
 by_cases q:k ∈ d.map (·.1)
 ·rw [if_pos (anyT.mpr q), findT_rep]
  refine oq11 (cY.mpr q) fun u e => ?_
  rw [e]; rfl
 ·rw [if_neg (fun z => q (anyT.mp z)), findT_end]
  by_cases w:k' = k
  ·rw [if_pos w, if_pos w]
   cases e:aD d k' with
   | none => rfl
   | some u => exact absurd (cY.mp ⟨u, e⟩) (w ▸ q)
  ·rw [if_neg w, if_neg w]; cases aD d k' <;> rfl
theorem putT_nd (h:(d.map (·.1)).Nodup):((putT d k v).map (·.1)).Nodup := by
 unfold putT
 by_cases q:k ∈ d.map (·.1)
 ·rw [if_pos (anyT.mpr q), List.map_map]
  have e:((fun x:(Int × Int) × α => x.1) ∘ fun kv => if kv.1 = k then (kv.1, v) else kv) = fun x => x.1 := by
   funext kv
   show (if kv.1 = k then (kv.1, v) else kv).1 = kv.1
   split <;> rfl
  rw [e]; exact h
 ·rw [if_neg (fun z => q (anyT.mp z)), List.map_append, List.map_cons, List.map_nil, List.nodup_append]
  refine ⟨h, by simp, fun a ha b hb e => ?_⟩
  rw [List.mem_singleton] at hb
  exact q (by rw [e, hb] at ha; exact ha)
theorem lg:(putT d k v).length ≤ d.length + 1 := by
 unfold putT
 split
 ·rw [List.length_map]; exact Nat.le_succ _
 ·rw [List.length_append]; exact nz6 _
theorem defT_len:(defT d k v).length ≤ d.length + 1 := by
 unfold defT
 split
 ·exact Nat.le_succ _
 ·exact lg
structure Best (ρ:Nat → Nat) (val:Nat → α) (S:Int × Int → Nat → Prop) (d:List ((Int × Int) × α)):Prop where
 nd:(d.map (·.1)).Nodup
 so:∀ k v, aD d k = some v → ∃ w, v = val w ∧ S k w ∧ ∀ w', S k w' → ρ w ≤ ρ w'
 no:∀ k, aD d k = none → ∀ w, ¬ S k w
variable {ρ:Nat → Nat} {val:Nat → α} {S S':Int × Int → Nat → Prop}
theorem Best.nil (h:∀ k w, ¬ S k w):Best ρ val S [] := ⟨List.nodup_nil, fun _ _ z => (nomatch z), fun k _ => h k⟩
theorem Best.same (b:Best ρ val S d) (h:∀ k w, S k w ↔ S' k w):Best ρ val S' d :=
 ⟨b.nd, fun k v e => oq13 (b.so k v e) fun w h1 h2 h3 => ⟨w, h1, (h k w).mp h2, fun w' z => h3 w' ((h k w').mpr z)⟩, fun k e w z => b.no k e w ((h k w).mpr z)⟩
theorem Best.put {w0 w:Nat} (b:Best ρ val S d) (hs:S k w ∨ w = w0) (h0:ρ w ≤ ρ w0) (hm:∀ w', S k w' → ρ w ≤ ρ w'):Best ρ val (fun k' w' => S k' w' ∨ (k' = k ∧ w' = w0)) (putT d k (val w)) := by
 refine ⟨putT_nd b.nd, fun k' v e => ?_, fun k' e w' z => ?_⟩
 ·rw [io] at e
  by_cases q:k' = k
  ·rw [if_pos q] at e
   refine ⟨w, (Option.some.inj e).symm, hs.elim (fun z => .inl (q ▸ z)) fun z => .inr ⟨q, z⟩, fun w' z => ?_⟩
   rcases z with z | ⟨_, z⟩
   ·exact hm w' (q ▸ z)
   ·rw [z]; exact h0
  ·rw [if_neg q] at e
   refine oq13 (b.so k' v e) fun w2 h1 h2 h3 => ⟨w2, h1, .inl h2, fun w' z => ?_⟩
   rcases z with z | z
   ·exact h3 w' z
   ·exact absurd z.1 q
 ·rw [io] at e
  by_cases q:k' = k
  ·rw [if_pos q] at e; cases e
  ·rw [if_neg q] at e
   rcases z with z | z
   ·exact b.no k' e w' z
   ·exact q z.1
theorem Best.dflt {w0:Nat} (b:Best ρ val S d) (h0:∀ w', S k w' → ρ w' ≤ ρ w0):Best ρ val (fun k' w' => S k' w' ∨ (k' = k ∧ w' = w0)) (defT d k (val w0)) := by
 unfold defT
 split
 ·rename_i v e
  refine ⟨b.nd, fun k' v' e' => ?_, fun k' e' w' z => ?_⟩
  ·refine oq13 (b.so k' v' e') fun w2 h1 h2 h3 => ⟨w2, h1, .inl h2, fun w' z => ?_⟩
   rcases z with z | ⟨z1, z2⟩
   ·exact h3 w' z
   ·rw [z2]; exact h0 w2 (z1 ▸ h2)
  ·rcases z with z | ⟨z1, z2⟩
   ·exact b.no k' e' w' z
   ·rw [z1, e] at e'; cases e'
 ·rename_i e
  exact b.put (.inr rfl) (nz6 _) fun w' z => absurd z (b.no k e w')
end
end Fl
namespace Pf
open Fl Pu
noncomputable def Prs (nb:Nat → List Nat) (ρ bot:Nat → Nat) (z:Nat) (k:Int × Int):Prop := ∃ y, y ∈ nb z ∧ ρ y < ρ z ∧ bot y ≠ bot z ∧ k = (Pu.mn (bot z:Int) (bot y:Int), Pu.mx (bot z:Int) (bot y:Int))
noncomputable abbrev botL (n:Nat) (bot:Nat → Nat):List Int := cl ((List.range n).map bot)
theorem gC {n x:Nat} {bot:Nat → Nat} (hx:x < n):Pu.at_ (botL n bot) (x:Int) = some ((bot x:Nat):Int) := by
 rw [d9, List.getElem?_map, List.getElem?_map, List.getElem?_range hx]; rfl
section
variable {rows:List (List Int)} {c:Nat} {os:List Nat} {reach:Int} {bot:Nat → Nat}
theorem lh (hp:0 < rows.length) (hc:0 < c) (hcm:c ≤ 900) (hm:rows.length ≤ 900) (h:∀ r ∈ rows, r.length = c) (o:Ord rows.flatten os) {z:Nat} (hz:z < rows.length * c) :
  ∃ ps, Pf.pairs_at rows reach (botL (rows.length * c) bot) (z:Int) = some ps ∧ ps.length ≤ rows.length * c ∧ ∀ k, k ∈ ps ↔ Prs (nbL rows.length c reach) (rk os) bot z k := by
 have hfl:rows.flatten.length = rows.length * c := bw h
 have hb:rows.length * c ≤ 900 * 900 := Nat.mul_le_mul hm hcm
 have nbn:∀ y ∈ nbL rows.length c reach z, y < rows.length * c := fun y hy => (bK.mp hy).1
 have nl := jk rows.length c reach z
 have e1:Pu.cy (fun (y6:Int) => Pf.bi rows y6 (z:Int)) (fun (y6:Int) => Pu.at_ (botL (rows.length * c) bot) y6) (cl (nbL rows.length c reach z)) = some (((cl (nbL rows.length c reach z)).filter fun y => decide (rk os y.toNat < rk os z)).map fun y => ((bot y.toNat:Nat):Int)) := by
  refine j4 (by rw [bW]; omega) (fun y hy => ?_) fun y hy _ => ?_
  ·refine oq12 (eE.mp hy) fun x hx ex => ?_
   subst ex
   rw [gl hc (by omega) h (nbn x hx) hz, Int.toNat_natCast, ← gA hc h (nbn x hx), ← gA hc h hz]
   congr 1
   rw [Bool.eq_iff_iff, decide_eq_true_eq]
   exact (o.lt_iff (by rw [hfl]; exact nbn x hx) (by rw [hfl]; exact hz)).symm
  ·refine oq12 (eE.mp hy) fun x hx ex => ?_
   subst ex
   rw [gC (nbn x hx), Int.toNat_natCast]
 have e2:∀ l:List Int, l.length ≤ 1000000 → Pu.cy (fun (y9:Int) => some (!decide (y9 = ((bot z:Nat):Int)))) (fun (y9:Int) => some ((Pu.mn ((bot z:Nat):Int) y9, Pu.mx ((bot z:Nat):Int) y9))) l = some ((l.filter fun y => !decide (y = ((bot z:Nat):Int))).map fun y => (Pu.mn ((bot z:Nat):Int) y, Pu.mx ((bot z:Nat):Int) y)) := fun l hl =>
  j4 hl (fun _ _ => rfl) fun _ _ _ => rfl
 have l1:(((cl (nbL rows.length c reach z)).filter fun y => decide (rk os y.toNat < rk os z)).map fun y => ((bot y.toNat:Nat):Int)).length ≤ rows.length * c := by
  rw [List.length_map]
  exact nz4 (List.length_filter_le _ _) (by rw [bW]; exact nl)
 refine ⟨_, by unfold Pf.pairs_at; rw [gC hz, nza, da hp h, nza, dS hc (by omega) (by omega) hz, nza, e1, nza, e2 _ (by omega)], ?_, fun k => ?_⟩
 ·rw [List.length_map]
  exact nz4 (List.length_filter_le _ _) l1
 ·rw [List.mem_map]
  constructor
  ·intro h
   refine oq12 h fun b hb ek => ?_
   refine oq02 (List.mem_filter.mp hb) fun hb nb => ?_
   refine oq12 (List.mem_map.mp hb) fun y hy ey => ?_
   refine oq02 (List.mem_filter.mp hy) fun hy ly => ?_
   refine oq12 (eE.mp hy) fun x hx ex => ?_
   subst ex
   rw [Int.toNat_natCast] at ly ey
   subst ey
   exact ⟨x, hx, of_decide_eq_true ly, fun z => by rw [z] at nb; simp at nb, ek.symm⟩
  ·intro h
   refine oq14 h fun y hy ly ny ek => ⟨((bot y:Nat):Int), List.mem_filter.mpr ⟨List.mem_map.mpr ⟨(y:Int), List.mem_filter.mpr ⟨mF.mpr hy, by rw [Int.toNat_natCast]; exact decide_eq_true ly⟩, by rw [Int.toNat_natCast]⟩, ?_⟩, ek.symm⟩
   rw [Bool.not_eq_true', decide_eq_false_iff_not]
   exact fun e => ny (Int.ofNat_inj.mp e)
noncomputable abbrev SL (n:Nat) (nb:Nat → List Nat) (ρ bot:Nat → Nat):Int × Int → Nat → Prop := fun k z => z < n ∧ Prs nb ρ bot z k
theorem found_eq (hp:0 < rows.length) (hc:0 < c) (hcm:c ≤ 12) (hm:rows.length ≤ 12) (h:∀ r ∈ rows, r.length = c) (o:Ord rows.flatten os) {T:Type} {P:T → Prop} {kk:List ((Int × Int) × Int) → Option T}
  (hk:∀ d, Best (rk os) (fun z => (z:Int)) (SL (rows.length * c) (nbL rows.length c reach) (rk os) bot) d → d.length ≤ 144 * 144 → ∃ t, kk d = some t ∧ P t) :
  ∃ t, (Pu.forS (fun (s5:(List ((Int × Int) × Int))) (x4:Int) => (Pf.pairs_at rows reach (botL (rows.length * c) bot) x4).bind fun x10 => (Pu.forS (fun (s7:(List ((Int × Int) × Int))) (x6:(Int × Int)) => if (s7).length < 16777216 then (fun found9 => some (found9)) (Pu.defT s7 x6 x4) else none) x10 s5).bind fun (s7:(List ((Int × Int) × Int))) => some (s7)) (cl os) ([])).bind kk = some t ∧ P t := by
 have hfl:rows.flatten.length = rows.length * c := bw h
 have hb:rows.length * c ≤ 144 := Nat.mul_le_mul hm hcm
 refine fm (fun i d => Best (rk os) (fun z => (z:Int)) (fun k z => (z < rows.length * c ∧ rk os z < i) ∧ Prs (nbL rows.length c reach) (rk os) bot z k) d ∧ d.length ≤ i * 144) ⟨Best.nil fun k w z => absurd z.1.2 (Nat.not_lt_zero _), Nat.zero_le _⟩ ?_ fun d hd => ?_
 ·intro i x d hx hd
  rw [List.getElem?_map] at hx
  refine oq12 (Option.map_eq_some_iff.mp hx) fun z hz ez => ?_
  subst ez
  have oz := ord_at o hz
  have hz':z < rows.length * c := hfl ▸ oz.1
  have il:i < rows.length * c := by rw [← oz.2, ← hfl]; exact o.rk_lt oz.1
  refine oq13 (lh (reach := reach) (bot := bot) hp hc (by omega) (by omega) h o hz') fun ps eps lps mps => ?_
  rw [eps, nza]
  refine fm (fun j d' => Best (rk os) (fun z => (z:Int)) (fun k w => ((w < rows.length * c ∧ rk os w < i) ∧ Prs (nbL rows.length c reach) (rk os) bot w k) ∨ (k ∈ ps.take j ∧ w = z)) d' ∧ d'.length ≤ d.length + j) ⟨hd.1.same fun k w => ⟨.inl, fun q => q.elim id fun z => absurd z.1 (by simp)⟩, nz6 _⟩ ?_ fun d' hd' => ⟨_, rfl, hd'.1.same fun k w => ?_, ?_⟩
  ·intro j p d' hj hd'
   have hjl:j < ps.length := (List.getElem?_eq_some_iff.mp hj).1
   have ln:d'.length < 16777216 := by omega
   refine ⟨_, if_pos ln, (hd'.1.dflt (k := p) (w0 := z) fun w' q => ?_).same fun k w => ?_, nz4 defT_len (by omega)⟩
   ·rcases q with q | q
    ·rw [oz.2]; exact nz5 q.1.2
    ·rw [q.2]; exact nz6 _
   ·rw [List.take_add_one, hj, Option.toList_some, List.mem_append, List.mem_singleton]
    constructor
    ·rintro ((q | q) | q)
     ·exact .inl q
     ·exact .inr ⟨.inl q.1, q.2⟩
     ·exact .inr ⟨.inr q.1, q.2⟩
    ·rintro (q | ⟨q | q, w⟩)
     ·exact .inl (.inl q)
     ·exact .inl (.inr ⟨q, w⟩)
     ·exact .inr ⟨q, w⟩
  ·rw [List.take_length, mps]
   constructor
   ·rintro (q | ⟨q, rfl⟩)
    ·exact ⟨⟨q.1.1, Nat.lt_succ_of_lt q.1.2⟩, q.2⟩
    ·exact ⟨⟨hz', by rw [oz.2]; exact Nat.lt_succ_self _⟩, q⟩
   ·intro q
    by_cases e:rk os w < i
    ·exact .inl ⟨⟨q.1.1, e⟩, q.2⟩
    ·have e2:w = z := Ord.inj o w z (by rw [hfl]; exact q.1.1) oz.1 (by have := q.1.2; rw [oz.2]; omega)
     exact .inr ⟨e2 ▸ q.2, e2⟩
  ·have := hd'.2; have := hd.2; omega
 ·rw [bW, o.len, hfl] at hd
  refine hk d (hd.1.same fun k w => ⟨fun q => ⟨q.1.1, q.2⟩, fun q => ⟨⟨q.1, by rw [← hfl]; exact o.rk_lt (by rw [hfl]; exact q.1)⟩, q.2⟩⟩) (by have := hd.2; exact nz4 this (Nat.mul_le_mul_right _ hb))
noncomputable abbrev lnsP (d:List ((Int × Int) × Int)):List (Int × Int × Int) := (srtP (d.map (·.1))).map fun p => (p.1, p.2, (aD d p).getD 0)
noncomputable abbrev lnsT (t:List ((Int × Int) × (Int × Int))):List (Int × Int × Int) := srtT (t.map fun y => (y.1.1, y.1.2, y.2.2))
theorem li (hp:0 < rows.length) (hc:0 < c) (hcm:c ≤ 12) (hm:rows.length ≤ 12) (h:∀ r ∈ rows, r.length = c) (ho:Pf.aZ rows = some (cl os)) (o:Ord rows.flatten os) (hb:Pf.be rows reach = some (botL (rows.length * c) bot)) :
  ∃ ls, Pf.bE rows reach = some ls ∧ ∃ d, Best (rk os) (fun z => (z:Int)) (SL (rows.length * c) (nbL rows.length c reach) (rk os) bot) d ∧ d.length ≤ 144 * 144 ∧ ls = lnsP d := by
 unfold Pf.bE
 rw [hb, nza, ho, nza]
 refine found_eq hp hc hcm hm h o fun d b l => ?_
 have e1:Pu.i8 (d.map (·.1)) = some (srtP (d.map (·.1))) := by
  unfold Pu.i8
  rw [if_pos ⟨by rw [List.length_map]; exact nz2 l (by decide), b.nd⟩]
 have e2:Pu.comp (fun (y11:(Int × Int)) => ((Pu.aD d y11).bind fun x12 => some ((x12))).bind fun x13 => some ((y11.1, y11.2, x13))) (srtP (d.map (·.1))) = some (lnsP d) := by
  refine d8 (by rw [(bS _).length_eq, List.length_map]; exact nz4 l (by decide)) fun p hp => ?_
  refine oq11 (cY.mpr ((bS _).mem_iff.mp hp)) fun v e => ?_
  rw [e]; rfl
 exact ⟨_, by rw [e1, nza, e2], d, b, l, rfl⟩
theorem lat_eq (o:Ord rows.flatten os) {x y:Nat} (hx:x < rows.flatten.length) (hy:y < rows.flatten.length):(if Pu.lt2 (hk rows.flatten x) (hk rows.flatten y) = true then hk rows.flatten y else hk rows.flatten x) = hk rows.flatten (if rk os x < rk os y then y else x) := by
 by_cases q:rk os x < rk os y
 ·rw [if_pos q, if_pos ((o.lt_iff hx hy).mp q)]
 ·rw [if_neg q, if_neg fun z => q ((o.lt_iff hx hy).mpr z)]
noncomputable def Tch (nb:Nat → List Nat) (ρ bot:Nat → Nat) (x y:Nat) (k:Int × Int) (w:Nat):Prop := bot x < bot y ∧ k = ((bot x:Int), (bot y:Int)) ∧ w = if ρ x < ρ y then y else x
theorem best_min (o:Ord rows.flatten os) {S:Int × Int → Nat → Prop} {t:List ((Int × Int) × (Int × Int))} (b:Best (rk os) (hk rows.flatten) S t) (hS:∀ k w, S k w → w < rows.flatten.length) {w0:Nat} (hw:w0 < rows.flatten.length) (k:Int × Int) :
  Best (rk os) (hk rows.flatten) (fun k' w' => S k' w' ∨ (k' = k ∧ w' = w0)) (putT t k (if Pu.lt2 (hk rows.flatten w0) ((aD t k).getD (hk rows.flatten w0)) = true then hk rows.flatten w0 else (aD t k).getD (hk rows.flatten w0))) := by
 cases e:aD t k with
 | none =>
  have:(if Pu.lt2 (hk rows.flatten w0) ((none:Option (Int × Int)).getD (hk rows.flatten w0)) = true then hk rows.flatten w0 else (none:Option (Int × Int)).getD (hk rows.flatten w0)) = hk rows.flatten w0 := by
   split <;> rfl
  rw [this]
  exact b.put (.inr rfl) (nz6 _) fun w' z => absurd z (b.no k e w')
 | some v =>
  refine oq13 (b.so k v e) fun w1 ev h1 h2 => ?_
  subst ev
  show Best _ _ _ (putT t k (if Pu.lt2 (hk rows.flatten w0) (hk rows.flatten w1) = true then hk rows.flatten w0 else hk rows.flatten w1))
  by_cases q:rk os w0 < rk os w1
  ·rw [if_pos ((o.lt_iff hw (hS k w1 h1)).mp q)]
   exact b.put (.inr rfl) (nz6 _) fun w' z => nz4 (nz5 q) (h2 w' z)
  ·rw [if_neg fun z => q ((o.lt_iff hw (hS k w1 h1)).mpr z)]
   exact b.put (.inl h1) (Nat.le_of_not_lt q) h2
theorem tch_iff (o:Ord rows.flatten os) (hfl:rows.flatten.length = rows.length * c) (k:Int × Int) (w:Nat):(∃ x y, x < rows.length * c ∧ y ∈ nbL rows.length c reach x ∧ Tch (nbL rows.length c reach) (rk os) bot x y k w) ↔ SL (rows.length * c) (nbL rows.length c reach) (rk os) bot k w := by
 have sy:∀ a b, a < rows.length * c → b ∈ nbL rows.length c reach a → a ∈ nbL rows.length c reach b := fun _ _ ha h => bK.mpr ⟨ha, by rw [adj_comm]; exact (bK.mp h).2⟩
 constructor
 ·intro h
  refine oq23 h fun x y hx hy ht => ?_
  refine oq03 ht fun h1 h2 h3 => ?_
  have hy' := (bK.mp hy).1
  have e1:Pu.mn (bot x:Int) (bot y:Int) = (bot x:Int) := by unfold Pu.mn; split <;> omega
  have e2:Pu.mx (bot x:Int) (bot y:Int) = (bot y:Int) := by unfold Pu.mx; split <;> omega
  have e3:Pu.mn (bot y:Int) (bot x:Int) = (bot x:Int) := by unfold Pu.mn; split <;> omega
  have e4:Pu.mx (bot y:Int) (bot x:Int) = (bot y:Int) := by unfold Pu.mx; split <;> omega
  by_cases q:rk os x < rk os y
  ·rw [if_pos q] at h3
   subst h3
   exact ⟨hy', x, sy x w hx hy, q, nz7 h1, by rw [e3, e4]; exact h2⟩
  ·rw [if_neg q] at h3
   subst h3
   have ne:rk os y ≠ rk os w := fun z => by
    have := Ord.inj o y w (by rw [hfl]; exact hy') (by rw [hfl]; exact hx) z
    rw [this] at h1; exact Nat.lt_irrefl _ h1
   exact ⟨hx, y, hy, by omega, Nat.ne_of_gt h1, by rw [e1, e2]; exact h2⟩
 ·intro h
  refine oq02 h fun hw h => oq14 h fun y hy ly ny ek => ?_
  have hy' := (bK.mp hy).1
  by_cases q:bot w < bot y
  ·refine ⟨w, y, hw, hy, q, ?_, by rw [if_neg (by omega)]⟩
   rw [ek]; unfold Pu.mn Pu.mx; rw [if_neg (by omega), if_pos (by omega)]
  ·refine ⟨y, w, hy', sy w y hw hy, by omega, ?_, by rw [if_pos ly]⟩
   rw [ek]; unfold Pu.mn Pu.mx; rw [if_pos (by omega), if_neg (by omega)]
theorem lj (hp:0 < rows.length) (hc:0 < c) (hcm:c ≤ 12) (hm:rows.length ≤ 12) (h:∀ r ∈ rows, r.length = c) (o:Ord rows.flatten os) :
  ∃ ls, Pf.cb rows reach (botL (rows.length * c) bot) = some ls ∧ ∃ t, Best (rk os) (hk rows.flatten) (SL (rows.length * c) (nbL rows.length c reach) (rk os) bot) t ∧ t.length ≤ 144 * 144 ∧ ls = lnsT t := by
 have hfl:rows.flatten.length = rows.length * c := bw h
 have hb:rows.length * c ≤ 144 := Nat.mul_le_mul hm hcm
 unfold Pf.cb
 rw [mK (by omega), nza]
 have ln:Pu.ln ((List.range rows.flatten.length).map (hk rows.flatten)) = ((rows.length * c:Nat):Int) := by unfold Pu.ln; rw [List.length_map, List.length_range, hfl]
 have ka:∀ {x:Nat}, x < rows.length * c → Pu.at_ ((List.range rows.flatten.length).map (hk rows.flatten)) (x:Int) = some (hk rows.flatten x) := fun {x} hx => by
  rw [d9, List.getElem?_map, List.getElem?_range (by rw [hfl]; exact hx)]; rfl
 rw [ln, fo (by omega), nza]
 refine fm (fun i t => Best (rk os) (hk rows.flatten) (fun k w => ∃ x y, x < i ∧ y ∈ nbL rows.length c reach x ∧ Tch (nbL rows.length c reach) (rk os) bot x y k w) t ∧ t.length ≤ i * 144) ⟨Best.nil fun k w z => oq21 z fun x y z => absurd z.1 (Nat.not_lt_zero _), Nat.zero_le _⟩ ?_ fun t ht => ?_
 ·intro i x t hx ht
  refine oq02 (ie hx) fun hi ex => ?_
  subst ex
  have nl := jk rows.length c reach i
  rw [mJ hp hc (by omega) (by omega) h hi, nza]
  refine fm (fun j t' => Best (rk os) (hk rows.flatten) (fun k w => (∃ x y, x < i ∧ y ∈ nbL rows.length c reach x ∧ Tch (nbL rows.length c reach) (rk os) bot x y k w) ∨ ∃ y, y ∈ (nbL rows.length c reach i).take j ∧ Tch (nbL rows.length c reach) (rk os) bot i y k w) t' ∧ t'.length ≤ t.length + j) ⟨ht.1.same fun k w => ⟨.inl, fun q => q.elim id fun z => oq11 z fun y z => absurd z.1 (by simp)⟩, nz6 _⟩ ?_ fun t' ht' => ⟨_, rfl, ht'.1.same fun k w => ?_, ?_⟩
  ·intro j yy t' hj ht'
   rw [List.getElem?_map] at hj
   refine oq12 (Option.map_eq_some_iff.mp hj) fun y hy ey => ?_
   subst ey
   have hjl:j < (nbL rows.length c reach i).length := (List.getElem?_eq_some_iff.mp hy).1
   have hyn:y < rows.length * c := (bK.mp (List.mem_of_getElem? hy)).1
   have lnn:t'.length < 16777216 := by have := ht.2; have := ht'.2; omega
   rw [gC hi, nza, gC hyn, nza, nza]
   by_cases q:bot i < bot y
   ·rw [if_pos (decide_eq_true (Int.ofNat_lt.mpr q)), nza, nza, nza, ka hi, nza, ka hyn, nza, lat_eq o (by rw [hfl]; exact hi) (by rw [hfl]; exact hyn), nza, if_pos lnn]
    refine ⟨_, rfl, (best_min o ht'.1 (fun k w z => ?_) (w0 := if rk os i < rk os y then y else i) (by rw [hfl]; split <;> assumption) ((bot i:Int), (bot y:Int))).same fun k w => ?_, nz4 lg (by have := ht'.2; omega)⟩
    ·rw [hfl]
     rcases z with z | z
     ·refine oq23 z fun x y hx hy ht => oq03 ht fun _ _ e => ?_
      rw [e]; split
      ·exact (bK.mp hy).1
      ·exact nz8 hx hi
     ·refine oq12 z fun y hy ht => oq03 ht fun _ _ e => ?_
      rw [e]; split
      ·exact (bK.mp (List.mem_of_mem_take hy)).1
      ·exact hi
    ·constructor
     ·rintro ((z | ⟨y', h1, h2⟩) | ⟨z1, z2⟩)
      ·exact .inl z
      ·exact .inr ⟨y', by rw [List.take_add_one]; exact List.mem_append_left _ h1, h2⟩
      ·exact .inr ⟨y, by rw [List.take_add_one, hy]; exact List.mem_append_right _ (.head _), q, z1, z2⟩
     ·rintro (z | ⟨y', h1, h2⟩)
      ·exact .inl (.inl z)
      ·rw [List.take_add_one, hy, Option.toList_some, List.mem_append, List.mem_singleton] at h1
       rcases h1 with h1 | h1
       ·exact .inl (.inr ⟨y', h1, h2⟩)
       ·subst h1; exact .inr ⟨h2.2.1, h2.2.2⟩
   ·rw [if_neg (by simp; omega)]
    refine ⟨_, rfl, ht'.1.same fun k w => ?_, by have := ht'.2; omega⟩
    constructor
    ·rintro (z | ⟨y', h1, h2⟩)
     ·exact .inl z
     ·exact .inr ⟨y', by rw [List.take_add_one]; exact List.mem_append_left _ h1, h2⟩
    ·rintro (z | ⟨y', h1, h2⟩)
     ·exact .inl z
     ·rw [List.take_add_one, hy, Option.toList_some, List.mem_append, List.mem_singleton] at h1
      rcases h1 with h1 | h1
      ·exact .inr ⟨y', h1, h2⟩
      ·subst h1; exact absurd h2.1 q
  ·rw [bW, List.take_length]
   constructor
   ·rintro (⟨x, y, hx, hy⟩ | ⟨y, hy⟩)
    ·exact ⟨x, y, Nat.lt_succ_of_lt hx, hy⟩
    ·exact ⟨i, y, Nat.lt_succ_self _, hy⟩
   ·rintro ⟨x, y, hx, hy⟩
    by_cases e:x < i
    ·exact .inl ⟨x, y, e, hy⟩
    ·have:x = i := by omega
     subst this; exact .inr ⟨y, hy⟩
  ·have := ht'.2; rw [bW] at this; have := ht.2; omega
 ·rw [dw] at ht
  have b := ht.1.same (tch_iff (bot := bot) o hfl)
  have l:t.length ≤ 144 * 144 := by have := ht.2; exact nz4 this (Nat.mul_le_mul_right _ hb)
  have nd:(t.map fun (y:(Int × Int) × (Int × Int)) => ((y.1.1, y.1.2, y.2.2):Int × Int × Int)).Nodup := by
   refine List.Pairwise.map _ (fun a b ne e => ne ?_) (List.pairwise_map.mp b.nd)
   injection e with e1 e2
   injection e2 with e2 e3
   exact Prod.ext e1 e2
  have e1:Pu.comp (fun (y23:(((Int × Int)) × ((Int × Int)))) => some ((y23.1.1, y23.1.2, y23.2.2))) t = some (t.map fun y => (y.1.1, y.1.2, y.2.2)) := d8 (by exact nz4 l (by decide)) fun _ _ => rfl
  refine ⟨_, by rw [e1, nza]; unfold Pu.jJ; rw [if_pos ⟨by rw [List.length_map]; exact nz2 l (by decide), nd⟩], t, b, l, rfl⟩
theorem mL {S:Int × Int → Nat → Prop} {hs:List Int} {ρ:Nat → Nat} (inj:∀ k x y, S k x → S k y → ρ x = ρ y → x = y) {d:List ((Int × Int) × Int)} {t:List ((Int × Int) × (Int × Int))} (b:Best ρ (fun z => (z:Int)) S d) (b':Best ρ (hk hs) S t):lnsP d = lnsT t := by
 have rel:∀ k v, aD d k = some v ↔ ∃ u, aD t k = some u ∧ u.2 = v := fun k v => by
  constructor
  ·intro e
   refine oq13 (b.so k v e) fun w e1 h1 h2 => ?_
   cases q:aD t k with
   | none => exact absurd h1 (b'.no k q w)
   | some u =>
    refine oq13 (b'.so k u q) fun w' e2 h3 h4 => ⟨u, rfl, ?_⟩
    have:w = w' := inj k w w' h1 h3 (Nat.le_antisymm (h2 w' h3) (h4 w h1))
    rw [e2, e1, this]; rfl
  ·intro h
   refine oq12 h fun u q e => ?_
   refine oq13 (b'.so k u q) fun w' e2 h3 h4 => ?_
   cases z:aD d k with
   | none => exact absurd h3 (b.no k z w')
   | some v' =>
    refine oq13 (b.so k v' z) fun w e1 h1 h2 => ?_
    have:w = w' := inj k w w' h1 h3 (Nat.le_antisymm (h2 w' h3) (h4 w h1))
    rw [e1, this, ← e, e2]; rfl
 have nd1:((d.map (·.1)).map fun p => (p.1, p.2, (aD d p).getD 0)).Nodup := by
  refine List.Pairwise.map _ (fun a b ne e => ne ?_) b.nd
  injection e with e1 e2
  injection e2 with e2 e3
  exact Prod.ext e1 e2
 have nd2:(t.map fun (y:(Int × Int) × (Int × Int)) => ((y.1.1, y.1.2, y.2.2):Int × Int × Int)).Nodup := by
  refine List.Pairwise.map _ (fun a b ne e => ne ?_) (List.pairwise_map.mp b'.nd)
  injection e with e1 e2
  injection e2 with e2 e3
  exact Prod.ext e1 e2
 refine Pu.c7 (le := fun a b => Pu.le3 a b = true) (fun a b => Pu.kR) ?_ ?_ (Pu.gc _)
 ·refine List.Perm.trans ((bS (d.map (·.1))).map _) (List.Perm.trans ((List.perm_ext_iff_of_nodup nd1 nd2).mpr fun x => ?_) (j1 _).symm)
  rw [List.mem_map, List.mem_map]
  constructor
  ·intro h
   refine oq12 h fun p hp e => ?_
   refine oq11 (cY.mpr hp) fun v q => ?_
   refine oq12 ((rel p v).mp q) fun u hu eu => ⟨(p, u), (j7 b'.nd).mpr hu, ?_⟩
   rw [← e, q, ← eu]; rfl
  ·intro h
   refine oq12 h fun y hy e => ?_
   have hu:aD t y.1 = some y.2 := (j7 b'.nd).mp hy
   have q := (rel y.1 y.2.2).mpr ⟨y.2, hu, rfl⟩
   refine ⟨y.1, cY.mp ⟨_, q⟩, ?_⟩
   rw [← e, q]; rfl
 ·have nd0:(d.map fun x => x.1).Nodup := b.nd
  have ndS:(srtP (d.map fun x => x.1)).Nodup := (bS (d.map fun x => x.1)).nodup_iff.mpr nd0
  have srS:(srtP (d.map fun x => x.1)).Pairwise fun a b => Pu.le2 a b = true := dq _
  refine List.Pairwise.map _ (fun a b z => ?_) (srS.and ndS)
  refine oq02 z fun z1 z2 => ?_
  unfold Pu.le2 at z1
  rw [decide_eq_true_eq] at z1
  unfold Pu.le3
  rw [decide_eq_true_eq]
  rcases z1 with z1 | ⟨z1, z3⟩
  ·exact .inl z1
  ·exact .inr ⟨z1, .inl ((Int.lt_or_eq_of_le z3).elim id fun e => absurd (Prod.ext z1 e) z2)⟩
end
end Pf
namespace K22
open PySem PySem.Spec PyProof.Rows L2
noncomputable def top (i:Nat):Stmt := PySem.Challenge.pw_floodtree_k22_lines.main.body.getD i (.Pass ⟨0, 0, 0, 0⟩)
noncomputable abbrev spLaw := @L2.m8
noncomputable abbrev fT:Stmt := top 16
noncomputable abbrev ip:Stmt := top 17
noncomputable abbrev iq:Stmt := top 18
noncomputable abbrev jR:Stmt := top 19
noncomputable abbrev mM:Stmt := top 20
noncomputable abbrev mN:Stmt := top 21
noncomputable abbrev jS:Stmt := top 25
noncomputable abbrev fU:Stmt := top 1
noncomputable abbrev dz:Stmt := top 4
noncomputable abbrev de:Stmt := top 2
noncomputable abbrev dA:Stmt := top 3
noncomputable abbrev dB:Stmt := top 5
noncomputable abbrev bj:Stmt := top 7
noncomputable abbrev fV:Stmt := top 10
noncomputable abbrev eF:Stmt := top 11
noncomputable abbrev bX:Stmt := top 8
noncomputable abbrev dC:Stmt := top 12
noncomputable abbrev cE:Stmt := top 6
noncomputable abbrev eG:Stmt := top 13
noncomputable abbrev eJ:Stmt := top 14
noncomputable abbrev jT:Stmt := top 22
noncomputable abbrev fW:Stmt := top 23
noncomputable abbrev ir:Stmt := top 24
noncomputable abbrev cP:Stmt := top 26
noncomputable abbrev fx:Stmt := top 27
section
variable [Kon] {P:Program} {w:World} {K:PySem.W.Frag} {mg:Str → Option Value} {base:Heap}
theorem iu:FnScope ["_law_script", "_law_k"] ["_law_script", "_law_k"] (ag fT) := ⟨rfl, rfl, rfl, by decide +kernel, rfl, by decide +kernel, by decide +kernel⟩
theorem mO (D:ay K mg "_law_cell_at" fT ["_law_script", "_law_k"]) (B:Blt mg) :Has P w K mg base 1 "_law_cell_at" ["_law_script", "_law_k"] (spV (aq (rScr K) (aOne rInt)) rInt fun x => Pf.bG x.1 x.2) := by
 have nd := iu.nd
 refine D.pV iu (fun _ => rfl) rfl fun f cdv A outer s H E hr => ?_
 have hu := b0 hr
 exact ⟨_, (af (cF (b8 k9 (pv 1) (av (b9 (K := K) rfl) (by rfl) B.len cw (a7 (pv 0) aa)) (aS _))
   (aj (az (aX (aI (K := K) rfl) (pv 0) (pv 1) (fun _ _ => rfl))))
   bo)
   (aj (az ae))),
  fun a => BV.cast (cI (c6 (ev_lt (a8 1 rfl) (cz sq_s (a8 0 rfl))))
  (bY (aP (bn sq_s (a8 0 rfl) (a8 1 rfl))))
  (bq (aP ah))) (by unfold Pf.bG; first | rfl | (simp only [Pu.bs]; done) | (simp only [Pu.bs]; rfl) | (simp only [Pu.bs, nz9]; done) | (simp only [Pu.bs, nz9]; rfl))⟩
theorem j8:FnScope ["_law_script", "_law_k", "_law_top", "_law_cell", "_law_high", "_law_low"] ["_law_script", "_law_k", "_law_top"] (ag ip) := ⟨rfl, rfl, rfl, by decide +kernel, rfl, by decide +kernel, by decide +kernel⟩
theorem ok_number (D:ay K mg "_law_number" ip ["_law_script", "_law_k", "_law_top"]) (B:Blt mg) (G__law_cell_at:Has P w K mg base 1 "_law_cell_at" ["_law_script", "_law_k"] (spV (aq (rScr K) (aOne rInt)) rInt fun x => Pf.bG x.1 x.2)):Has P w K mg base 2 "_law_number" ["_law_script", "_law_k", "_law_top"] (spV (aq (rScr K) (aq rInt (aOne rInt))) rInt fun x => Pf.bH x.1 x.2.1 x.2.2) := by
 have nd := j8.nd
 refine D.pV j8 (fun _ => rfl) rfl fun f cdv A outer s H E hr => ?_
 have hu := b0 hr
 exact ⟨_, (af (ax (i := 3) nd rfl (Or.inl rfl) (au cq (ak G__law_cell_at (hr.mono (by decide)) rfl (a7 (pv 0) (a7 (pv 1) aa))) (au op_pow ae ae)))
   (af (ax (i := 4) nd rfl (Or.inl rfl) (au cq (au aN (au bJ (pv 3) ae) (au bJ (au bJ (au aN (pv 1) ae) (au aN (pv 1) ae)) ae)) ae))
   (af (ax (i := 5) nd rfl (Or.inl rfl) (au cq (au aN (au aN (au bJ (pv 3) ae) (au bJ (au bJ (pv 1) (pv 1)) ae)) ae) ae))
   (aj (az (au cq (au aN (au bJ (pv 4) ae) (pv 5)) (au aN (pv 2) ae))))))),
  fun a => BV.cast (aA 3 (d6 (aE (am (a8 0 rfl) (aw (a8 1 rfl)))) (ev_powT (v := 100000000000000000000) ah ah (by decide)) (by decide)) fun cell2 => (aA 4 (d6 (aO (eW (a8 3 rfl) ah (by decide)) (eW (dm (aO (a8 1 rfl) ah) (aO (a8 1 rfl) ah)) ah (by decide))) ah (by decide)) fun high7 => (aA 5 (d6 (aO (aO (eW (a8 3 rfl) ah (by decide)) (eW (dm (a8 1 rfl) (a8 1 rfl)) ah (by decide))) ah) ah (by decide)) fun low13 => (aP (gW (aO (eW (a8 4 rfl) ah (by decide)) (a8 5 rfl)) (aO (a8 2 rfl) ah)))))) (by unfold Pf.bH; first | rfl | (simp only [Pu.bs]; done) | (simp only [Pu.bs]; rfl) | (simp only [Pu.bs, nz9]; done) | (simp only [Pu.bs, nz9]; rfl))⟩
theorem j9:FnScope ["_law_script", "_law_k", "_law_kind", "_law_row", "_law_column", "_law_nest"] ["_law_script", "_law_k", "_law_kind", "_law_row", "_law_column"] (ag iq) := ⟨rfl, rfl, rfl, by decide +kernel, rfl, by decide +kernel, by decide +kernel⟩
theorem ok_height (D:ay K mg "_law_height" iq ["_law_script", "_law_k", "_law_kind", "_law_row", "_law_column"]) (B:Blt mg) (G__law_number:Has P w K mg base 2 "_law_number" ["_law_script", "_law_k", "_law_top"] (spV (aq (rScr K) (aq rInt (aOne rInt))) rInt fun x => Pf.bH x.1 x.2.1 x.2.2)):Has P w K mg base 3 "_law_height" ["_law_script", "_law_k", "_law_kind", "_law_row", "_law_column"] (spV (aq (rScr K) (aq rInt (aq rInt (aq rInt (aOne rInt))))) rInt fun x => Pf.aV x.1 x.2.1 x.2.2.1 x.2.2.2.1 x.2.2.2.2) := by
 have nd := j9.nd
 refine D.pV j9 (fun _ => rfl) rfl fun f cdv A outer s H E hr => ?_
 have hu := b0 hr
 exact ⟨_, (af (cF (b8 eP (pv 2) ae (aS _))
   (@af _ _ _ _ _ (@ax _ _ 5 _ _ _ _ nd rfl (Or.inl rfl) (@ce _ _ _ _ (@pa_ints _ _ [0, 1, 0, 2, 0, 1, 0, 3, 0, 1, 0, 2] rfl)) rfl (Or.inl rfl))
   (aj (az (au aN (au bJ ae (au aN (aX (aI (K := K) rfl) (pv 5) (pv 3) (fun _ _ => rfl)) (aX (aI (K := K) rfl) (pv 5) (pv 4) (fun _ _ => rfl)))) (ak G__law_number (hr.mono (by decide)) rfl (a7 (pv 0) (a7 (pv 1) (a7 ae aa))))))))
   bo)
   (af (cF (b8 eP (pv 2) ae (aS _))
   (aj (az (au aN (au aN (au bJ ae (av gH (by rfl) B.abs lO (a7 (au fG (pv 3) ae) aa))) (au bJ ae (au cq (au aN (pv 3) (pv 4)) ae))) (ak G__law_number (hr.mono (by decide)) rfl (a7 (pv 0) (a7 (pv 1) (a7 ae aa)))))))
   bo)
   (aj (az (ak G__law_number (hr.mono (by decide)) rfl (a7 (pv 0) (a7 (pv 1) (a7 (aX (aI (K := K) rfl) (ce (a7 ae (a7 ae (a7 (au op_pow ae ae) aa)))) (pv 2) (fun _ _ => rfl)) aa)))))))),
  fun a => BV.cast (cI (c6 (d5 cV (a8 2 rfl) ah))
  (h9 (aA 5 ((evl_ints [0, 1, 0, 2, 0, 1, 0, 3, 0, 1, 0, 2] (by decide))).ev fun nest1 => (bY (aP (aO (hJ ah (aO (bn sq_l (a8 5 rfl) (a8 3 rfl)) (bn sq_l (a8 5 rfl) (a8 4 rfl))) (by decide)) (aE (am (a8 0 rfl) (am (a8 1 rfl) (aw ah)))))))))
  (bq (cI (c6 (d5 cV (a8 2 rfl) ah))
  (bY (aP (aO (aO (hJ ah (m5 (fK (a8 3 rfl) ah)) (by decide)) (hJ ah (d6 (aO (a8 3 rfl) (a8 4 rfl)) ah (by decide)) (by decide))) (aE (am (a8 0 rfl) (am (a8 1 rfl) (aw ah)))))))
  (bq (aP (aE (am (a8 0 rfl) (am (a8 1 rfl) (aw (bn sq_l ((bN (aQ ah (aQ ah (aQ (ev_powT (v := 1000000000000000000) ah ah (by decide)) bM))))).ev (a8 2 rfl))))))))))) (by unfold Pf.aV; first | (simp only [Pu.bs]; done) | (simp only [Pu.bs, nz9]; done) | (simp only [Pu.bs, nz9]; rfl))⟩
theorem lq:FnScope ["_law_script", "_law_most", "_law_head", "_law_columns", "_law_rows", "_law_kind", "_law_floor_here", "_law_row", "_law_at"] ["_law_script", "_law_most"] (ag jR) := ⟨rfl, rfl, rfl, by decide +kernel, rfl, by decide +kernel, by decide +kernel⟩
theorem ok_floor (D:ay K mg "_law_floor" jR ["_law_script", "_law_most"]) (B:Blt mg) (G__law_cell_at:Has P w K mg base 1 "_law_cell_at" ["_law_script", "_law_k"] (spV (aq (rScr K) (aOne rInt)) rInt fun x => Pf.bG x.1 x.2)) (G__law_height:Has P w K mg base 3 "_law_height" ["_law_script", "_law_k", "_law_kind", "_law_row", "_law_column"] (spV (aq (rScr K) (aq rInt (aq rInt (aq rInt (aOne rInt))))) rInt fun x => Pf.aV x.1 x.2.1 x.2.2.1 x.2.2.2.1 x.2.2.2.2)):Has P w K mg base 4 "_law_floor" ["_law_script", "_law_most"] (spL (aq (rScr K) (aOne rInt)) (rL rInt) fun x => Pf.cX x.1 x.2) := by
 have nd := lq.nd
 refine D.pL lq (fun _ => rfl) rfl fun f cdv A outer s H E hr => ?_
 have hu := b0 hr
 exact ⟨_, (af (ax (i := 2) nd rfl (Or.inl rfl) (ak G__law_cell_at (hr.mono (by decide)) rfl (a7 (pv 0) (a7 ae aa))))
   (af (ax (i := 3) nd rfl (Or.inl rfl) (au aN ae (au cq (pv 2) ae)))
   (af (ax (i := 4) nd rfl (Or.inl rfl) (av (cQ rfl) (by rfl) B.max fI (a7 ae (a7 (av (cR rfl) (by rfl) B.min eh (a7 ae (a7 (au cu (au fG (au aN (av (b9 (K := K) rfl) (by rfl) B.len cw (a7 (pe_slice (sl_listK (K := K) rfl) (pv 0) (po_some ae) (po_some ae)) aa)) (pv 3)) ae) (pv 3)) aa))) aa))))
   (af (cF (b8 eP (au cq (au cu (pv 2) ae) ae) ae (aS _))
   (aj (ax (i := 4) nd rfl (Or.inl rfl) ae))
   bo)
   (af (ax (i := 4) nd rfl (Or.inl rfl) (av (cR rfl) (by rfl) B.min eh (a7 (pv 4) (a7 (av (cQ rfl) (by rfl) B.max fI (a7 ae (a7 (au cu (pv 1) (pv 3)) aa))) aa))))
   (af (ax (i := 5) nd rfl (Or.inr rfl) (au cq (au cu (pv 2) ae) ae))
   (af (ax (i := 6) nd rfl (Or.inl rfl) (ce aa))
   (af (bR PassesOwn.never rfl (fF rfl B.range (a7 (pv 4) aa)) (aC (i := 7) nd rfl (Or.inr rfl))
   (af (ax (i := 8) nd rfl (Or.inr rfl) (au aN ae (au bJ (pv 7) (pv 3))))
   (aj (eO (jo (K := K) rfl PySem.F.plainAttrs_list PySem.F.slot_list_append PySem.F.type_list_append cS (pv 6) (a7 (d4 (loc := ["_law_column"]) (cap := [("_law_script", 0), ("_law_kind", 5), ("_law_row", 7), ("_law_at", 8)]) rfl ⟨rfl, by decide +kernel, by decide +kernel, rfl, ⟨⟨rfl, rfl, by first | exact Or.inl rfl | exact Or.inr rfl⟩, ⟨⟨rfl, rfl, by first | exact Or.inl rfl | exact Or.inr rfl⟩, ⟨⟨rfl, rfl, by first | exact Or.inl rfl | exact Or.inr rfl⟩, ⟨⟨rfl, rfl, by first | exact Or.inl rfl | exact Or.inr rfl⟩, trivial⟩⟩⟩⟩, rfl⟩  (fF rfl B.range (a7 (pv 3) aa)) (fun _ _ _ _ => (aC (i := 0) (show (["_law_column", "_law_script", "_law_kind", "_law_row", "_law_at"]:List Str).Nodup by decide +kernel) rfl (Or.inl rfl))) (fun _ _ _ _ => cr) (fun _ _ _ _ => (ak G__law_height (hr.mono (by decide)) rfl (a7 (pv 1) (a7 (au aN (pv 4) (pv 0)) (a7 (pv 2) (a7 (pv 3) (a7 (pv 0) aa)))))))) aa))))))
   (aj (az (pv 6))))))))))),
  fun a => BV.cast (aA 2 (aE (am (a8 0 rfl) (aw ah))) fun head1 => (aA 3 (aO ah (d6 (a8 2 rfl) ah (by decide))) fun columns3 => (aA 4 (eT ah (eS ah (dI (fK (aO (cz sq_l ((evl_cut sq_s (a8 0 rfl) (eo_some ah) (eo_some ah))).ev) (a8 3 rfl)) ah) (a8 3 rfl)))) fun rows6 => (bv_join (Γj := fun (s8:Int) => [.fr (rScr K) (a.1), .fr rInt (a.2), .fr rInt (head1), .fr rInt (columns3), .fr rInt (s8), .any, .any, .any, .any]) (bp (cI (c6 (d5 cV (d6 (kF (a8 2 rfl) ah (by decide)) ah (by decide)) ah))
  (aA 4 ah fun rows9 => (kC (rows9) (.cons .rfl (.cons .rfl (.cons .rfl (.cons .rfl (.cons .rfl (.cons .any (.cons .any (.cons .any (.cons .any .nil)))))))))))
  (bq (kC (rows6) (.cons .rfl (.cons .rfl (.cons .rfl (.cons .rfl (.cons .rfl (.cons .any (.cons .any (.cons .any (.cons .any .nil))))))))))))) fun s8 => (aA 4 (eS (a8 4 rfl) (eT ah (dI (a8 1 rfl) (a8 3 rfl)))) fun rows12 => (aA 5 (d6 (kF (a8 2 rfl) ah (by decide)) ah (by decide)) fun kind14 => (gr 6 (bN (r := (rL rInt)) bM) fun floor_here15 => (bO (Γf := fun (s17:(List (List (Int)))) => [.fr (rScr K) (a.1), .fr rInt (a.2), .fr rInt (head1), .fr rInt (columns3), .fr rInt (rows12), .fr rInt (kind14), .ol (rL rInt) tt_ (s17), .any, .any]) (floor_here15) (jt (a8 4 rfl)) (.cons .rfl (.cons .rfl (.cons .rfl (.cons .rfl (.cons .rfl (.cons .rfl (.cons .rfl (.cons .any (.cons .any .nil))))))))) (fun _ => (aR 7))
  (fun s17 x16 => (aA 8 (aO ah (dm (a8 7 rfl) (a8 3 rfl))) fun at19 => (bp (dM 6 rfl ((cA (jt (a8 3 rfl)) (by decide) (by decide) (aR 0) fun y21 => (aE (am (a8 1 rfl) (am (aO (a8 4 rfl) (a8 0 rfl)) (am (a8 2 rfl) (am (a8 3 rfl) (aw (a8 0 rfl))))))))).ev fun floor_here23 => (br (floor_here23) (.cons .rfl (.cons .rfl (.cons .rfl (.cons .rfl (.cons .rfl (.cons .rfl (.cons .rfl (.cons .any (.cons .any .nil))))))))))))))
  fun s17 => (ju 6 rfl))))))))) (by unfold Pf.cX; first | rfl | (simp only [Pu.bs]; done) | (simp only [Pu.bs]; rfl) | (simp only [Pu.bs, nz9]; done) | (simp only [Pu.bs, nz9]; rfl))⟩
theorem sc_keys:FnScope ["_law_floor_here", "_law_heights", "_law_row"] ["_law_floor_here"] (ag mM) := ⟨rfl, rfl, rfl, by decide +kernel, rfl, by decide +kernel, by decide +kernel⟩
theorem ok_keys (D:ay K mg "_law_keys" mM ["_law_floor_here"]) (B:Blt mg) :Has P w K mg base 1 "_law_keys" ["_law_floor_here"] (spL (aOne (rL (rL rInt))) (rT2 rInt rInt) fun x => Pf.dN x) := by
 have nd := sc_keys.nd
 refine D.pL sc_keys (fun _ => rfl) rfl fun f cdv A outer s H E hr => ?_
 have hu := b0 hr
 exact ⟨_, (af (ax (i := 1) nd rfl (Or.inl rfl) (ce aa))
   (af (bR PassesOwn.never rfl (ba (K := K) rfl (pv 0)) (aC (i := 2) nd rfl (Or.inl rfl))
   (aj (ax (i := 1) nd rfl (Or.inl rfl) (au op_catS (pv 1) (pv 2)))))
   (aj (az (d4 (loc := ["_law_cell", "_law_height_here"]) (cap := []) rfl ⟨rfl, by decide +kernel, by decide +kernel, rfl, trivial, rfl⟩  (pi_enumK (K := K) rfl rfl B.enumerate (a7 (pv 1) aa)) (fun _ _ _ _ => (gp (K := K) (n := 2) rfl rfl (bZ (aC (i := 0) (show (["_law_cell", "_law_height_here"]:List Str).Nodup by decide +kernel) rfl (Or.inl rfl)) (bZ (aC (i := 1) (show (["_law_cell", "_law_height_here"]:List Str).Nodup by decide +kernel) rfl (Or.inl rfl)) gn)))) (fun _ _ _ _ => cr) (fun _ _ _ _ => (d0 (a7 (pv 1) (a7 (pv 0) aa))))))))),
  fun a => BV.cast (aA 1 ((bN (r := rInt) bM)).ev fun heights1 => (bO (Γf := fun (s3:(List (Int))) => [.fr (rL (rL rInt)) (a), .fr (rL rInt) (s3), .any]) (heights1) (bA sq_l (a8 0 rfl)) (.cons .rfl (.cons .rfl (.cons .any .nil))) (fun _ => (aR 2))
  (fun s3 x2 => (bp (aA 1 ((evl_cat (a8 1 rfl) (a8 2 rfl))).ev fun heights4 => (br (heights4) (.cons .rfl (.cons .rfl (.cons .any .nil)))))))
  fun s3 => (cJ (cA (iv_enum sq_l (a8 1 rfl)) (by decide) (by decide) (gq 0 1) fun y6 => (eQ (a8 1 rfl) (a8 0 rfl)))))) (by unfold Pf.dN; first | rfl | (simp only [Pu.bs]; done) | (simp only [Pu.bs]; rfl) | (simp only [Pu.bs, nz9]; done) | (simp only [Pu.bs, nz9]; rfl))⟩
theorem sc_near:FnScope ["_law_floor_here", "_law_reach", "_law_cell", "_law_rows", "_law_columns", "_law_row", "_law_column", "_law_found", "_law_down", "_law_right", "_law_straight", "_law_inside"] ["_law_floor_here", "_law_reach", "_law_cell"] (ag mN) := ⟨rfl, rfl, rfl, by decide +kernel, rfl, by decide +kernel, by decide +kernel⟩
theorem ok_near (D:ay K mg "_law_near" mN ["_law_floor_here", "_law_reach", "_law_cell"]) (B:Blt mg) :Has P w K mg base 1 "_law_near" ["_law_floor_here", "_law_reach", "_law_cell"] (spL (aq (rL (rL rInt)) (aq rInt (aOne rInt))) rInt fun x => Pf.dO x.1 x.2.1 x.2.2) := by
 have nd := sc_near.nd
 refine D.pL sc_near (fun _ => rfl) rfl fun f cdv A outer s H E hr => ?_
 have hu := b0 hr
 exact ⟨_, (af (ps_par rfl nd rfl rfl (by decide) rfl rfl (a7 (av (b9 (K := K) rfl) (by rfl) B.len cw (a7 (pv 0) aa)) (a7 (av (b9 (K := K) rfl) (by rfl) B.len cw (a7 (aX (aI (K := K) rfl) (pv 0) ae (fun _ _ => rfl)) aa)) aa)) rfl)
   (af (ps_par rfl nd rfl rfl (by decide) rfl rfl (a7 (au cu (pv 2) (pv 4)) (a7 (au cq (pv 2) (pv 4)) aa)) rfl)
   (af (ax (i := 7) nd rfl (Or.inl rfl) (ce aa))
   (af (bR PassesOwn.never rfl (ba (K := K) rfl (ce (a7 (pe_un un_neg ae) (a7 ae (a7 ae aa))))) (aC (i := 8) nd rfl (Or.inl rfl))
   (aj (bR PassesOwn.never rfl (ba (K := K) rfl (ce (a7 (pe_un un_neg ae) (a7 ae (a7 ae aa))))) (aC (i := 9) nd rfl (Or.inl rfl))
   (af (ax (i := 10) nd rfl (Or.inl rfl) (dF iN (dF eP (pv 8) ae (aS _)) (dF eP (pv 9) ae (aS _)) (aS _)))
   (af (ax (i := 11) nd rfl (Or.inl rfl) (jc (kc op_le k9 ae (au aN (pv 5) (pv 8)) (pv 3)) (lG (kc op_le k9 ae (au aN (pv 6) (pv 9)) (pv 4)))))
   (aj (cF (PW.pt (lF (cO (pv 11)) (mS (PW.pt (k7 (cO (pv 10)) (gE (PW.pt (lF (b8 eP (pv 1) ae (aS _)) (lF (b8 iN (pv 8) ae (aS _)) (mS (b8 iN (pv 9) ae (aS _))))))))))))
   (aj (eO (jo (K := K) rfl PySem.F.plainAttrs_list PySem.F.slot_list_append PySem.F.type_list_append cS (pv 7) (a7 (au aN (au aN (pv 2) (au bJ (pv 8) (pv 4))) (pv 9)) aa))))
   bo)))))))
   (aj (az (pv 7))))))),
  fun a => BV.cast (bv_par 3 4 (cz sq_l (a8 0 rfl)) (cz sq_l (bn sq_l (a8 0 rfl) ah)) fun rows2 columns3 => (bv_par 5 6 (dI (a8 2 rfl) (a8 4 rfl)) (gW (a8 2 rfl) (a8 4 rfl)) fun row5 column6 => (gr 7 (bN (r := rInt) bM) fun found8 => (bO (Γf := fun (s10:(List (Int))) => [.fr (rL (rL rInt)) (a.1), .fr rInt (a.2.1), .fr rInt (a.2.2), .fr rInt (rows2), .fr rInt (columns3), .fr rInt (row5), .fr rInt (column6), .ol rInt tt_ (s10), .any, .any, .any, .any]) (found8) (bA sq_l ((bN (aQ (ev_neg ah) (aQ ah (aQ ah bM))))).ev) (.cons .rfl (.cons .rfl (.cons .rfl (.cons .rfl (.cons .rfl (.cons .rfl (.cons .rfl (.cons .rfl (.cons .any (.cons .any (.cons .any (.cons .any .nil)))))))))))) (fun _ => (aR 8))
  (fun s10 x9 => (bp (bO (Γf := fun (s12:(List (Int))) => [.fr (rL (rL rInt)) (a.1), .fr rInt (a.2.1), .fr rInt (a.2.2), .fr rInt (rows2), .fr rInt (columns3), .fr rInt (row5), .fr rInt (column6), .ol rInt tt_ (s12), .fr rInt (x9), .any, .any, .any]) (s10) (bA sq_l ((bN (aQ (ev_neg ah) (aQ ah (aQ ah bM))))).ev) (.cons .rfl (.cons .rfl (.cons .rfl (.cons .rfl (.cons .rfl (.cons .rfl (.cons .rfl (.cons .rfl (.cons .rfl (.cons .any (.cons .any (.cons .any .nil)))))))))))) (fun _ => (aR 9))
  (fun s12 x11 => (aA 10 (fL sc_bb (d5 cV (a8 8 rfl) ah) (d5 cV (a8 9 rfl) ah)) fun straight13 => (aA 11 (jx (fN ah (aO (a8 5 rfl) (a8 8 rfl)) (a8 3 rfl)) (fN ah (aO (a8 6 rfl) (a8 9 rfl)) (a8 4 rfl))) fun inside15 => (bp (cI (jw (et_b (a8 11 rfl)) (m7 (et_b (a8 10 rfl)) (jw (c6 (d5 cV (a8 1 rfl) ah)) (jw (c6 (fL cV (a8 8 rfl) ah)) (c6 (fL cV (a8 9 rfl) ah))))))
  (dM 7 rfl (aO (aO (a8 2 rfl) (dm (a8 8 rfl) (a8 4 rfl))) (a8 9 rfl)) fun found19 => (br (found19) (.cons .rfl (.cons .rfl (.cons .rfl (.cons .rfl (.cons .rfl (.cons .rfl (.cons .rfl (.cons .rfl (.cons .rfl (.cons .any (.cons .any (.cons .any .nil))))))))))))))
  (bq (br (s12) (.cons .rfl (.cons .rfl (.cons .rfl (.cons .rfl (.cons .rfl (.cons .rfl (.cons .rfl (.cons .rfl (.cons .rfl (.cons .any (.cons .any (.cons .any .nil)))))))))))))))))))
  fun s12 => (br (s12) (.cons .rfl (.cons .rfl (.cons .rfl (.cons .rfl (.cons .rfl (.cons .rfl (.cons .rfl (.cons .rfl (.cons .any (.cons .any (.cons .any (.cons .any .nil))))))))))))))))
  fun s10 => (ju 7 rfl))))) (by unfold Pf.dO; first | rfl | (simp only [Pu.bs]; done) | (simp only [Pu.bs]; rfl) | (simp only [Pu.bs, nz9]; done) | (simp only [Pu.bs, nz9]; rfl))⟩
theorem lu:FnScope ["_law_floor_here", "_law_reach", "_law_bottoms", "_law_keys_here", "_law_touched", "_law_cell", "_law_near_here", "_law_pair", "_law_later"] ["_law_floor_here", "_law_reach", "_law_bottoms"] (ag jS) := ⟨rfl, rfl, rfl, by decide +kernel, rfl, by decide +kernel, by decide +kernel⟩
theorem ok_lines (D:ay K mg "_law_lines" jS ["_law_floor_here", "_law_reach", "_law_bottoms"]) (B:Blt mg) (G__law_keys:Has P w K mg base 1 "_law_keys" ["_law_floor_here"] (spL (aOne (rL (rL rInt))) (rT2 rInt rInt) fun x => Pf.dN x)) (G__law_near:Has P w K mg base 1 "_law_near" ["_law_floor_here", "_law_reach", "_law_cell"] (spL (aq (rL (rL rInt)) (aq rInt (aOne rInt))) rInt fun x => Pf.dO x.1 x.2.1 x.2.2)):Has P w K mg base 2 "_law_lines" ["_law_floor_here", "_law_reach", "_law_bottoms"] (spL (aq (rL (rL rInt)) (aq rInt (aOne (rL rInt)))) (rT3 rInt rInt rInt) fun x => Pf.cb x.1 x.2.1 x.2.2) := by
 have nd := lu.nd
 refine D.pL lu (fun _ => rfl) rfl fun f cdv A outer s H E hr => ?_
 have hu := b0 hr
 exact ⟨_, (af (ax (i := 3) nd rfl (Or.inl rfl) (ak G__law_keys (hr.mono (by decide)) rfl (a7 (pv 0) aa)))
   (af (ax (i := 4) nd rfl (Or.inl rfl) kj)
   (af (bR PassesOwn.never rfl (fF rfl B.range (a7 (av (b9 (K := K) rfl) (by rfl) B.len cw (a7 (pv 3) aa)) aa)) (aC (i := 5) nd rfl (Or.inl rfl))
   (aj (bR PassesOwn.never rfl (ba (K := K) rfl (ak G__law_near (hr.mono (by decide)) rfl (a7 (pv 0) (a7 (pv 1) (a7 (pv 5) aa))))) (aC (i := 6) nd rfl (Or.inl rfl))
   (aj (cF (b8 k9 (aX (aI (K := K) rfl) (pv 2) (pv 5) (fun _ _ => rfl)) (aX (aI (K := K) rfl) (pv 2) (pv 6) (fun _ _ => rfl)) (aS _))
   (af (ax (i := 7) nd rfl (Or.inl rfl) (d0 (a7 (aX (aI (K := K) rfl) (pv 2) (pv 5) (fun _ _ => rfl)) (a7 (aX (aI (K := K) rfl) (pv 2) (pv 6) (fun _ _ => rfl)) aa))))
   (af (ax (i := 8) nd rfl (Or.inl rfl) (av (mw rfl (b0 hr)) (by rfl) B.max fI (a7 (aX (aI (K := K) rfl) (pv 3) (pv 5) (fun _ _ => rfl)) (a7 (aX (aI (K := K) rfl) (pv 3) (pv 6) (fun _ _ => rfl)) aa))))
   (aj (ps_dput hu (pv 4) (pv 7) (av (mq rfl (b0 hr)) (by rfl) B.min eh (a7 (pe_dget2 hu (pv 4) (pv 7) (pv 8) ⟨rfl, rfl, rfl, rfl⟩) (a7 (pv 8) aa))) rfl))))
   bo)))))
   (aj (az (av (kT (K := K) rfl) (by rfl) B.sorted fJ (a7 (pe_fzT (d4 (loc := ["_law_pair", "_law_later"]) (cap := []) rfl ⟨rfl, by decide +kernel, by decide +kernel, rfl, trivial, rfl⟩  (pi_itemsT (pv 4)) (fun _ _ _ _ => (gp (K := K) (n := 2) rfl rfl (bZ (aC (i := 0) (show (["_law_pair", "_law_later"]:List Str).Nodup by decide +kernel) rfl (Or.inl rfl)) (bZ (aC (i := 1) (show (["_law_pair", "_law_later"]:List Str).Nodup by decide +kernel) rfl (Or.inl rfl)) gn)))) (fun _ _ _ _ => cr) (fun _ _ _ _ => (d0 (a7 (aX (bL (K := K) rfl) (pv 0) ae (fun _ _ => rfl)) (a7 (aX (bL (K := K) rfl) (pv 0) ae (fun _ _ => rfl)) (a7 (aX (bL (K := K) rfl) (pv 1) ae (fun _ _ => rfl)) aa))))))) aa))))))),
  fun a => BV.cast (aA 3 ((aJ (aw (a8 0 rfl)))).ev fun keys_here1 => (bv_newT 4 fun touched3 => (bO (Γf := fun (s5:(List ((Int × Int) × (Int × Int)))) => [.fr (rL (rL rInt)) (a.1), .fr rInt (a.2.1), .fr (rL rInt) (a.2.2), .fr (rL (rT2 rInt rInt)) (keys_here1), .ot (rT2 rInt rInt) (s5), .any, .any, .any, .any]) (touched3) (jt (cz sq_l (a8 3 rfl))) (.cons .rfl (.cons .rfl (.cons .rfl (.cons .rfl (.cons .rfl (.cons .any (.cons .any (.cons .any (.cons .any .nil))))))))) (fun _ => (aR 5))
  (fun s5 x4 => (bp (bO (Γf := fun (s7:(List ((Int × Int) × (Int × Int)))) => [.fr (rL (rL rInt)) (a.1), .fr rInt (a.2.1), .fr (rL rInt) (a.2.2), .fr (rL (rT2 rInt rInt)) (keys_here1), .ot (rT2 rInt rInt) (s7), .fr rInt (x4), .any, .any, .any]) (s5) (bA sq_l ((aJ (am (a8 0 rfl) (am (a8 1 rfl) (aw (a8 5 rfl)))))).ev) (.cons .rfl (.cons .rfl (.cons .rfl (.cons .rfl (.cons .rfl (.cons .rfl (.cons .any (.cons .any (.cons .any .nil))))))))) (fun _ => (aR 6))
  (fun s7 x6 => (bp (cI (c6 (ev_lt (bn sq_l (a8 2 rfl) (a8 5 rfl)) (bn sq_l (a8 2 rfl) (a8 6 rfl))))
  (h9 (aA 7 (eQ (bn sq_l (a8 2 rfl) (a8 5 rfl)) (bn sq_l (a8 2 rfl) (a8 6 rfl))) fun pair12 => (h9 (aA 8 (ev_max2P (bn sq_l (a8 3 rfl) (a8 5 rfl)) (bn sq_l (a8 3 rfl) (a8 6 rfl))) fun later16 => (bv_putT 4 rfl (a8 7 rfl) (ev_borT 4 rfl (flat_t2 cx cx) (ev_min2P (ev_dget2T (a8 4 rfl) (a8 7 rfl) (a8 8 rfl)) (a8 8 rfl))) fun touched18 => (br (touched18) (.cons .rfl (.cons .rfl (.cons .rfl (.cons .rfl (.cons .rfl (.cons .rfl (.cons .any (.cons .any (.cons .any .nil)))))))))))))))
  (bq (br (s7) (.cons .rfl (.cons .rfl (.cons .rfl (.cons .rfl (.cons .rfl (.cons .rfl (.cons .any (.cons .any (.cons .any .nil))))))))))))))
  fun s7 => (br (s7) (.cons .rfl (.cons .rfl (.cons .rfl (.cons .rfl (.cons .rfl (.cons .any (.cons .any (.cons .any (.cons .any .nil)))))))))))))
  fun s5 => (cJ (mj ((evl_fzT 4 rfl thw_t3 (cA (iv_itemsT (a8 4 rfl)) (by decide) (by decide) (gq 0 1) fun y23 => (jq (jr (a8 0 rfl)) (cH (a8 0 rfl)) (cH (a8 1 rfl)))))).ev))))) (by unfold Pf.cb; first | (simp only [Pu.bs]; done) | (simp only [Pu.bs, nz9]; done) | (simp only [Pu.bs, nz9]; rfl))⟩
theorem iw:FnScope ["floor", "columns"] ["floor"] (ag fU) := ⟨rfl, rfl, rfl, by decide +kernel, rfl, by decide +kernel, by decide +kernel⟩
theorem mP (D:ay K mg "size_of" fU ["floor"]) (B:Blt mg) :Has P w K mg base 1 "size_of" ["floor"] (spV (aOne (rL (rL rInt))) (rT2 rInt rInt) fun x => Pf.size_of x) := by
 have nd := iw.nd
 refine D.pV iw (fun _ => rfl) rfl fun f cdv A outer s H E hr => ?_
 have hu := b0 hr
 exact ⟨_, (af (ax (i := 1) nd rfl (Or.inl rfl) (eN (pt_truK (K := K) rfl (pv 0) (fun _ => rfl)) (av (b9 (K := K) rfl) (by rfl) B.len cw (a7 (aX (aI (K := K) rfl) (pv 0) ae (fun _ _ => rfl)) aa)) ae))
   (aj (az (d0 (a7 (av (b9 (K := K) rfl) (by rfl) B.len cw (a7 (pv 0) aa)) (a7 (pv 1) aa)))))),
  fun a => BV.cast (aA 1 (lW (et_truL sq_l (a8 0 rfl)) (cz sq_l (bn sq_l (a8 0 rfl) ah)) ah) fun columns2 => (aP (eQ (cz sq_l (a8 0 rfl)) (a8 1 rfl)))) (by unfold Pf.size_of; first | rfl | (simp only [Pu.bs]; done) | (simp only [Pu.bs]; rfl) | (simp only [Pu.bs, nz9]; done) | (simp only [Pu.bs, nz9]; rfl))⟩
theorem fy:FnScope ["floor", "size"] ["floor"] (ag dz) := ⟨rfl, rfl, rfl, by decide +kernel, rfl, by decide +kernel, by decide +kernel⟩
theorem jU (D:ay K mg "all_cells" dz ["floor"]) (B:Blt mg) (G_size_of:Has P w K mg base 1 "size_of" ["floor"] (spV (aOne (rL (rL rInt))) (rT2 rInt rInt) fun x => Pf.size_of x)):Has P w K mg base 2 "all_cells" ["floor"] (spL (aOne (rL (rL rInt))) rInt fun x => Pf.bc x) := by
 have nd := fy.nd
 refine D.pL fy (fun _ => rfl) rfl fun f cdv A outer s H E hr => ?_
 have hu := b0 hr
 exact ⟨_, (af (ax (i := 1) nd rfl (Or.inl rfl) (ak G_size_of (hr.mono (by decide)) rfl (a7 (pv 0) aa)))
   (aj (az (dG (ma rfl) (by rfl) B.list_ dH (a7 (pe_rng (au bJ (aX (bL (K := K) rfl) (pv 1) ae (fun _ _ => rfl)) (aX (bL (K := K) rfl) (pv 1) ae (fun _ _ => rfl))) rfl B.range) aa))))),
  fun a => BV.cast (aA 1 (aE (aw (a8 0 rfl))) fun size1 => (cJ (kJ (dm (jr (a8 1 rfl)) (cH (a8 1 rfl)))))) (by unfold Pf.bc; first | rfl | (simp only [Pu.bs]; done) | (simp only [Pu.bs]; rfl) | (simp only [Pu.bs, nz9]; done) | (simp only [Pu.bs, nz9]; rfl))⟩
theorem dW:FnScope ["size", "reach", "cell", "row", "column", "most_steps", "found", "other_row", "other_column"] ["size", "reach", "cell"] (ag de) := ⟨rfl, rfl, rfl, by decide +kernel, rfl, by decide +kernel, by decide +kernel⟩
theorem iI (D:ay K mg "neighbours" de ["size", "reach", "cell"]) (B:Blt mg) :Has P w K mg base 1 "neighbours" ["size", "reach", "cell"] (spL (aq (rT2 rInt rInt) (aq rInt (aOne rInt))) rInt fun x => Pf.bx x.1 x.2.1 x.2.2) := by
 have nd := dW.nd
 refine D.pL dW (fun _ => rfl) rfl fun f cdv A outer s H E hr => ?_
 have hu := b0 hr
 exact ⟨_, (af (ax (i := 3) nd rfl (Or.inl rfl) (au cu (pv 2) (aX (bL (K := K) rfl) (pv 0) ae (fun _ _ => rfl))))
   (af (ax (i := 4) nd rfl (Or.inl rfl) (au cq (pv 2) (aX (bL (K := K) rfl) (pv 0) ae (fun _ _ => rfl))))
   (af (ax (i := 5) nd rfl (Or.inl rfl) (eN (b8 eP (pv 1) ae (aS _)) ae ae))
   (af (ax (i := 6) nd rfl (Or.inl rfl) (ce aa))
   (af (bR PassesOwn.never rfl (iM rfl B.range (a7 (av (cQ rfl) (by rfl) B.max fI (a7 ae (a7 (au fG (pv 3) ae) aa))) (a7 (av (cR rfl) (by rfl) B.min eh (a7 (aX (bL (K := K) rfl) (pv 0) ae (fun _ _ => rfl)) (a7 (au aN (pv 3) ae) aa))) aa))) (aC (i := 7) nd rfl (Or.inl rfl))
   (aj (bR PassesOwn.never rfl (iM rfl B.range (a7 (av (cQ rfl) (by rfl) B.max fI (a7 ae (a7 (au fG (pv 4) ae) aa))) (a7 (av (cR rfl) (by rfl) B.min eh (a7 (aX (bL (K := K) rfl) (pv 0) ae (fun _ _ => rfl)) (a7 (au aN (pv 4) ae) aa))) aa))) (aC (i := 8) nd rfl (Or.inl rfl))
   (aj (cF (pt_chain k9 op_le ae (au aN (av gH (by rfl) B.abs lO (a7 (au fG (pv 7) (pv 3)) aa)) (av gH (by rfl) B.abs lO (a7 (au fG (pv 8) (pv 4)) aa))) (pv 5))
   (aj (eO (jo (K := K) rfl PySem.F.plainAttrs_list PySem.F.slot_list_append PySem.F.type_list_append cS (pv 6) (a7 (au aN (au bJ (pv 7) (aX (bL (K := K) rfl) (pv 0) ae (fun _ _ => rfl))) (pv 8)) aa))))
   bo)))))
   (aj (az (pv 6)))))))),
  fun a => BV.cast (aA 3 (dI (a8 2 rfl) (cH (a8 0 rfl))) fun row1 => (aA 4 (gW (a8 2 rfl) (cH (a8 0 rfl))) fun column3 => (aA 5 (ev_ifxT (c6 (d5 cV (a8 1 rfl) ah)) ah ah) fun most_steps5 => (gr 6 (bN (r := rInt) bM) fun found7 => (bO (Γf := fun (s9:(List (Int))) => [.fr (rT2 rInt rInt) (a.1), .fr rInt (a.2.1), .fr rInt (a.2.2), .fr rInt (row1), .fr rInt (column3), .fr rInt (most_steps5), .ol rInt tt_ (s9), .any, .any]) (found7) (iv_rng2 (eT ah (fK (a8 3 rfl) ah)) (eS (jr (a8 0 rfl)) (aO (a8 3 rfl) ah))) (.cons .rfl (.cons .rfl (.cons .rfl (.cons .rfl (.cons .rfl (.cons .rfl (.cons .rfl (.cons .any (.cons .any .nil))))))))) (fun _ => (aR 7))
  (fun s9 x8 => (bp (bO (Γf := fun (s11:(List (Int))) => [.fr (rT2 rInt rInt) (a.1), .fr rInt (a.2.1), .fr rInt (a.2.2), .fr rInt (row1), .fr rInt (column3), .fr rInt (most_steps5), .ol rInt tt_ (s11), .fr rInt (x8), .any]) (s9) (iv_rng2 (eT ah (fK (a8 4 rfl) ah)) (eS (cH (a8 0 rfl)) (aO (a8 4 rfl) ah))) (.cons .rfl (.cons .rfl (.cons .rfl (.cons .rfl (.cons .rfl (.cons .rfl (.cons .rfl (.cons .rfl (.cons .any .nil))))))))) (fun _ => (aR 8))
  (fun s11 x10 => (bp (cI (c6 (fN ah (aO (m5 (fK (a8 7 rfl) (a8 3 rfl))) (m5 (fK (a8 8 rfl) (a8 4 rfl)))) (a8 5 rfl)))
  (dM 6 rfl (aO (dm (a8 7 rfl) (cH (a8 0 rfl))) (a8 8 rfl)) fun found13 => (br (found13) (.cons .rfl (.cons .rfl (.cons .rfl (.cons .rfl (.cons .rfl (.cons .rfl (.cons .rfl (.cons .rfl (.cons .any .nil)))))))))))
  (bq (br (s11) (.cons .rfl (.cons .rfl (.cons .rfl (.cons .rfl (.cons .rfl (.cons .rfl (.cons .rfl (.cons .rfl (.cons .any .nil))))))))))))))
  fun s11 => (br (s11) (.cons .rfl (.cons .rfl (.cons .rfl (.cons .rfl (.cons .rfl (.cons .rfl (.cons .rfl (.cons .any (.cons .any .nil)))))))))))))
  fun s9 => (ju 6 rfl)))))) (by unfold Pf.bx; first | rfl | (simp only [Pu.bs]; done) | (simp only [Pu.bs]; rfl) | (simp only [Pu.bs, nz9]; done) | (simp only [Pu.bs, nz9]; rfl))⟩
theorem fz:FnScope ["floor", "cell", "columns"] ["floor", "cell"] (ag dA) := ⟨rfl, rfl, rfl, by decide +kernel, rfl, by decide +kernel, by decide +kernel⟩
theorem jV (D:ay K mg "height_of" dA ["floor", "cell"]) (B:Blt mg) (G_size_of:Has P w K mg base 1 "size_of" ["floor"] (spV (aOne (rL (rL rInt))) (rT2 rInt rInt) fun x => Pf.size_of x)):Has P w K mg base 2 "height_of" ["floor", "cell"] (spV (aq (rL (rL rInt)) (aOne rInt)) rInt fun x => Pf.cp x.1 x.2) := by
 have nd := fz.nd
 refine D.pV fz (fun _ => rfl) rfl fun f cdv A outer s H E hr => ?_
 have hu := b0 hr
 exact ⟨_, (af (ax (i := 2) nd rfl (Or.inl rfl) (aX (bL (K := K) rfl) (ak G_size_of (hr.mono (by decide)) rfl (a7 (pv 0) aa)) ae (fun _ _ => rfl)))
   (aj (az (aX (aI (K := K) rfl) (aX (aI (K := K) rfl) (pv 0) (au cu (pv 1) (pv 2)) (fun _ _ => rfl)) (au cq (pv 1) (pv 2)) (fun _ _ => rfl))))),
  fun a => BV.cast (aA 2 (cH (aE (aw (a8 0 rfl)))) fun columns2 => (aP (bn sq_l (bn sq_l (a8 0 rfl) (dI (a8 1 rfl) (a8 2 rfl))) (gW (a8 1 rfl) (a8 2 rfl))))) (by unfold Pf.cp; first | rfl | (simp only [Pu.bs]; done) | (simp only [Pu.bs]; rfl) | (simp only [Pu.bs, nz9]; done) | (simp only [Pu.bs, nz9]; rfl))⟩
theorem fD:FnScope ["floor", "cell"] ["floor", "cell"] (ag dB) := ⟨rfl, rfl, rfl, by decide +kernel, rfl, by decide +kernel, by decide +kernel⟩
theorem jW (D:ay K mg "order_key" dB ["floor", "cell"]) (B:Blt mg) (G_height_of:Has P w K mg base 2 "height_of" ["floor", "cell"] (spV (aq (rL (rL rInt)) (aOne rInt)) rInt fun x => Pf.cp x.1 x.2)):Has P w K mg base 3 "order_key" ["floor", "cell"] (spV (aq (rL (rL rInt)) (aOne rInt)) (rT2 rInt rInt) fun x => Pf.aK x.1 x.2) := by
 have nd := fD.nd
 refine D.pV fD (fun _ => rfl) rfl fun f cdv A outer s H E hr => ?_
 have hu := b0 hr
 exact ⟨_, (aj (az (d0 (a7 (ak G_height_of (hr.mono (by decide)) rfl (a7 (pv 0) (a7 (pv 1) aa))) (a7 (pv 1) aa))))),
  fun a => BV.cast (aP (eQ (aE (am (a8 0 rfl) (aw (a8 1 rfl)))) (a8 1 rfl))) (by unfold Pf.aK; first | rfl | (simp only [Pu.bs]; done) | (simp only [Pu.bs]; rfl) | (simp only [Pu.bs, nz9]; done) | (simp only [Pu.bs, nz9]; rfl))⟩
theorem dD:FnScope ["floor", "cells"] ["floor", "cells"] (ag bj) := ⟨rfl, rfl, rfl, by decide +kernel, rfl, by decide +kernel, by decide +kernel⟩
theorem iy {c9 P9:Addr} (D:cC K mg "earliest_of" bj ["floor", "cells"] c9) (L:LamAt K mg base c9 P9 "earliest_of") (B:Blt mg) (G_order_key:Has P w K mg base 3 "order_key" ["floor", "cell"] (spV (aq (rL (rL rInt)) (aOne rInt)) (rT2 rInt rInt) fun x => Pf.aK x.1 x.2)):Has P w K mg base 7 "earliest_of" ["floor", "cells"] (spV (aq (rL (rL rInt)) (aOne (rL rInt))) rInt fun x => Pf.bg x.1 x.2) := by
 have nd := dD.nd
 refine D.pV dD (fun _ => rfl) rfl fun f A outer s H E hr => ?_
 have hu := b0 hr
 exact ⟨_, (aj (az (pe_minK (x := "cell") (cap := [("floor", 0)]) (pv 1) (hr.mono (by decide)) B.min L.bm L.hd L.mem L.nm rfl ⟨rfl, rfl, rfl, by decide +kernel, rfl, rfl, ⟨⟨rfl, rfl, by first | exact Or.inl rfl | exact Or.inr rfl⟩, trivial⟩⟩ (fun _ _ _ _ _ => rfl) (fun _ _ _ _ _ => have hl := (hr.mono (j := 5) (by decide)).in1.deeper _; (ak G_order_key (hl.mono (by decide)) rfl (a7 (pv 1) (a7 (pv 0) aa))))))),
  fun a => BV.cast (aP (ev_minK (x := "cell") (by decide) (a8 1 rfl) fun c1 => (aE (am (a8 1 rfl) (aw (a8 0 rfl)))))) (by unfold Pf.bg; first | rfl | (simp only [Pu.bs]; done) | (simp only [Pu.bs]; rfl) | (simp only [Pu.bs, nz9]; done) | (simp only [Pu.bs, nz9]; rfl))⟩
theorem iz:FnScope ["floor", "reach", "cell", "around", "earliest"] ["floor", "reach", "cell"] (ag fV) := ⟨rfl, rfl, rfl, by decide +kernel, rfl, by decide +kernel, by decide +kernel⟩
theorem mQ (D:ay K mg "fall_of" fV ["floor", "reach", "cell"]) (B:Blt mg) (G_size_of:Has P w K mg base 1 "size_of" ["floor"] (spV (aOne (rL (rL rInt))) (rT2 rInt rInt) fun x => Pf.size_of x)) (G_neighbours:Has P w K mg base 1 "neighbours" ["size", "reach", "cell"] (spL (aq (rT2 rInt rInt) (aq rInt (aOne rInt))) rInt fun x => Pf.bx x.1 x.2.1 x.2.2)) (G_earliest_of:Has P w K mg base 7 "earliest_of" ["floor", "cells"] (spV (aq (rL (rL rInt)) (aOne (rL rInt))) rInt fun x => Pf.bg x.1 x.2)):Has P w K mg base 8 "fall_of" ["floor", "reach", "cell"] (spV (aq (rL (rL rInt)) (aq rInt (aOne rInt))) (rOp rInt) fun x => Pf.fi x.1 x.2.1 x.2.2) := by
 have nd := iz.nd
 refine D.pV iz (fun _ => rfl) rfl fun f cdv A outer s H E hr => ?_
 have hu := b0 hr
 exact ⟨_, (af (ax (i := 3) nd rfl (Or.inl rfl) (ak G_neighbours (hr.mono (by decide)) rfl (a7 (ak G_size_of (hr.mono (by decide)) rfl (a7 (pv 0) aa)) (a7 (pv 1) (a7 (pv 2) aa)))))
   (af (ax (i := 4) nd rfl (Or.inl rfl) (ak G_earliest_of (hr.mono (by decide)) rfl (a7 (pv 0) (a7 (au op_catS (pv 3) (ce (a7 (pv 2) aa))) aa))))
   (aj (az (eN (b8 eP (pv 4) (pv 2) (aS _)) jb (pv 4)))))),
  fun a => BV.cast (aA 3 ((aJ (am (aE (aw (a8 0 rfl))) (am (a8 1 rfl) (aw (a8 2 rfl)))))).ev fun around2 => (aA 4 (aE (am (a8 0 rfl) (aw ((evl_cat (a8 3 rfl) ((bN (aQ (a8 2 rfl) bM))).ev)).ev))) fun earliest5 => (aP (ev_ifxT (c6 (d5 cV (a8 4 rfl) (a8 2 rfl))) ev_none (ev_some (a8 4 rfl)))))) (by unfold Pf.fi; first | rfl | (simp only [Pu.bs]; done) | (simp only [Pu.bs]; rfl) | (simp only [Pu.bs, nz9]; done) | (simp only [Pu.bs, nz9]; rfl))⟩
theorem gg:FnScope ["floor", "reach"] ["floor", "reach"] (ag eF) := ⟨rfl, rfl, rfl, by decide +kernel, rfl, by decide +kernel, by decide +kernel⟩
theorem lw (D:ay K mg "falls_of" eF ["floor", "reach"]) (B:Blt mg) (G_all_cells:Has P w K mg base 2 "all_cells" ["floor"] (spL (aOne (rL (rL rInt))) rInt fun x => Pf.bc x)) (G_fall_of:Has P w K mg base 8 "fall_of" ["floor", "reach", "cell"] (spV (aq (rL (rL rInt)) (aq rInt (aOne rInt))) (rOp rInt) fun x => Pf.fi x.1 x.2.1 x.2.2)):Has P w K mg base 9 "falls_of" ["floor", "reach"] (spL (aq (rL (rL rInt)) (aOne rInt)) (rOp rInt) fun x => Pf.c8 x.1 x.2) := by
 have nd := gg.nd
 refine D.pL gg (fun _ => rfl) rfl fun f cdv A outer s H E hr => ?_
 have hu := b0 hr
 exact ⟨_, (aj (az (d4 (loc := ["cell"]) (cap := [("floor", 0), ("reach", 1)]) rfl ⟨rfl, by decide +kernel, by decide +kernel, rfl, ⟨⟨rfl, rfl, by first | exact Or.inl rfl | exact Or.inr rfl⟩, ⟨⟨rfl, rfl, by first | exact Or.inl rfl | exact Or.inr rfl⟩, trivial⟩⟩, rfl⟩  (ba (K := K) rfl (ak G_all_cells (hr.mono (by decide)) rfl (a7 (pv 0) aa))) (fun _ _ _ _ => (aC (i := 0) (show (["cell", "floor", "reach"]:List Str).Nodup by decide +kernel) rfl (Or.inl rfl))) (fun _ _ _ _ => cr) (fun _ _ _ _ => (ak G_fall_of (hr.mono (by decide)) rfl (a7 (pv 1) (a7 (pv 2) (a7 (pv 0) aa)))))))),
  fun a => BV.cast (cJ (cA (bA sq_l ((aJ (aw (a8 0 rfl)))).ev) (by decide) (by decide) (aR 0) fun y1 => (aE (am (a8 1 rfl) (am (a8 2 rfl) (aw (a8 0 rfl))))))) (by unfold Pf.c8; first | rfl | (simp only [Pu.bs]; done) | (simp only [Pu.bs]; rfl) | (simp only [Pu.bs, nz9]; done) | (simp only [Pu.bs, nz9]; rfl))⟩
theorem gh:FnScope ["floor"] ["floor"] (ag bX) := ⟨rfl, rfl, rfl, by decide +kernel, rfl, by decide +kernel, by decide +kernel⟩
theorem lz {c9 P9:Addr} (D:cC K mg "in_order" bX ["floor"] c9) (L:LamAt K mg base c9 P9 "in_order") (B:Blt mg) (G_all_cells:Has P w K mg base 2 "all_cells" ["floor"] (spL (aOne (rL (rL rInt))) rInt fun x => Pf.bc x)) (G_order_key:Has P w K mg base 3 "order_key" ["floor", "cell"] (spV (aq (rL (rL rInt)) (aOne rInt)) (rT2 rInt rInt) fun x => Pf.aK x.1 x.2)):Has P w K mg base 7 "in_order" ["floor"] (spL (aOne (rL (rL rInt))) rInt fun x => Pf.aZ x) := by
 have nd := gh.nd
 refine D.pL gh (fun _ => rfl) rfl fun f A outer s H E hr => ?_
 have hu := b0 hr
 exact ⟨_, (aj (az (pe_sortKW (x := "cell") (cap := [("floor", 0)]) (ak G_all_cells (hr.mono (by decide)) rfl (a7 (pv 0) aa)) (hr.mono (by decide)) B.sorted L.bm L.hd L.mem L.nm rfl ⟨rfl, rfl, rfl, by decide +kernel, rfl, rfl, ⟨⟨rfl, rfl, by first | exact Or.inl rfl | exact Or.inr rfl⟩, trivial⟩⟩ (fun _ _ _ _ _ => rfl) (fun _ _ _ _ _ => have hl := (hr.mono (j := 6) (by decide)).in1.in1.deeper _; (ak G_order_key (hl.mono (by decide)) rfl (a7 (pv 1) (a7 (pv 0) aa))))))),
  fun a => BV.cast (cJ (mh (x := "cell") (by decide) ((aJ (aw (a8 0 rfl)))).ev fun c1 => (aE (am (a8 1 rfl) (aw (a8 0 rfl)))))) (by unfold Pf.aZ; first | rfl | (simp only [Pu.bs]; done) | (simp only [Pu.bs]; rfl) | (simp only [Pu.bs, nz9]; done) | (simp only [Pu.bs, nz9]; rfl))⟩
theorem fE:FnScope ["floor", "reach", "falls", "bottoms", "cell"] ["floor", "reach"] (ag dC) := ⟨rfl, rfl, rfl, by decide +kernel, rfl, by decide +kernel, by decide +kernel⟩
theorem jX (D:ay K mg "basins_of" dC ["floor", "reach"]) (B:Blt mg) (G_all_cells:Has P w K mg base 2 "all_cells" ["floor"] (spL (aOne (rL (rL rInt))) rInt fun x => Pf.bc x)) (G_falls_of:Has P w K mg base 9 "falls_of" ["floor", "reach"] (spL (aq (rL (rL rInt)) (aOne rInt)) (rOp rInt) fun x => Pf.c8 x.1 x.2)) (G_in_order:Has P w K mg base 7 "in_order" ["floor"] (spL (aOne (rL (rL rInt))) rInt fun x => Pf.aZ x)):Has P w K mg base 10 "basins_of" ["floor", "reach"] (spL (aq (rL (rL rInt)) (aOne rInt)) rInt fun x => Pf.be x.1 x.2) := by
 have nd := fE.nd
 refine D.pL fE (fun _ => rfl) rfl fun f cdv A outer s H E hr => ?_
 have hu := b0 hr
 exact ⟨_, (af (ax (i := 2) nd rfl (Or.inl rfl) (ak G_falls_of (hr.mono (by decide)) rfl (a7 (pv 0) (a7 (pv 1) aa))))
   (af (ax (i := 3) nd rfl (Or.inr rfl) pe_dnewK)
   (af (bR PassesOwn.never rfl (ba (K := K) rfl (ak G_in_order (hr.mono (by decide)) rfl (a7 (pv 0) aa))) (aC (i := 4) nd rfl (Or.inl rfl))
   (aj (ps_dput hu (pv 3) (pv 4) (eN (b8 lJ (aX (aI (K := K) rfl) (pv 2) (pv 4) (fun _ _ => rfl)) jb (aS _)) (pv 4) (jj hu (pv 3) (aX (aI (K := K) rfl) (pv 2) (pv 4) (fun _ _ => rfl)) (fun _ _ => rfl))) rfl)))
   (aj (az (d4 (loc := ["cell"]) (cap := [("bottoms", 3)]) rfl ⟨rfl, by decide +kernel, by decide +kernel, rfl, ⟨⟨rfl, rfl, by first | exact Or.inl rfl | exact Or.inr rfl⟩, trivial⟩, rfl⟩  (ba (K := K) rfl (ak G_all_cells (hr.mono (by decide)) rfl (a7 (pv 0) aa))) (fun _ _ _ _ => (aC (i := 0) (show (["cell", "bottoms"]:List Str).Nodup by decide +kernel) rfl (Or.inl rfl))) (fun _ _ _ _ => cr) (fun _ _ _ _ => (jj hu (pv 1) (pv 0) (fun _ _ => rfl))))))))),
  fun a => BV.cast (aA 2 ((aJ (am (a8 0 rfl) (aw (a8 1 rfl))))).ev fun falls1 => (bv_setD 3 evd_new fun bottoms3 => (bO (Γf := fun (s5:(List (Int × Int))) => [.fr (rL (rL rInt)) (a.1), .fr rInt (a.2), .fr (rL (rOp rInt)) (falls1), .od rInt tt_ (s5), .any]) (bottoms3) (bA sq_l ((aJ (aw (a8 0 rfl)))).ev) (.cons .rfl (.cons .rfl (.cons .rfl (.cons .rfl (.cons .any .nil))))) (fun _ => (aR 4))
  (fun s5 x4 => (bp (bv_put 3 rfl (a8 4 rfl) (ev_borD 3 rfl cx (lW (c6 (lT (bn sq_l (a8 2 rfl) (a8 4 rfl)) lV)) (a8 4 rfl) (ev_ixD (a8 3 rfl) (ev_get (bn sq_l (a8 2 rfl) (a8 4 rfl)))))) fun bottoms10 => (br (bottoms10) (.cons .rfl (.cons .rfl (.cons .rfl (.cons .rfl (.cons .any .nil)))))))))
  fun s5 => (cJ (evl_borD 3 rfl cx (cA (bA sq_l ((aJ (aw (a8 0 rfl)))).ev) (by decide) (by decide) (aR 0) fun y14 => (ev_ixD (a8 1 rfl) (a8 0 rfl)))))))) (by unfold Pf.be; first | rfl | (simp only [Pu.bs]; done) | (simp only [Pu.bs]; rfl) | (simp only [Pu.bs, nz9]; done) | (simp only [Pu.bs, nz9]; rfl))⟩
theorem dh:FnScope ["floor", "one", "other"] ["floor", "one", "other"] (ag cE) := ⟨rfl, rfl, rfl, by decide +kernel, rfl, by decide +kernel, by decide +kernel⟩
theorem gm (D:ay K mg "comes_before" cE ["floor", "one", "other"]) (B:Blt mg) (G_order_key:Has P w K mg base 3 "order_key" ["floor", "cell"] (spV (aq (rL (rL rInt)) (aOne rInt)) (rT2 rInt rInt) fun x => Pf.aK x.1 x.2)):Has P w K mg base 4 "comes_before" ["floor", "one", "other"] (spV (aq (rL (rL rInt)) (aq rInt (aOne rInt))) aM fun x => Pf.bi x.1 x.2.1 x.2.2) := by
 have nd := dh.nd
 refine D.pV dh (fun _ => rfl) rfl fun f cdv A outer s H E hr => ?_
 have hu := b0 hr
 exact ⟨_, (aj (az (dF (op_ltT (Nat.lt_of_succ_lt (b0 hr))) (ak G_order_key (hr.mono (by decide)) rfl (a7 (pv 0) (a7 (pv 1) aa))) (ak G_order_key (hr.mono (by decide)) rfl (a7 (pv 0) (a7 (pv 2) aa))) (aS _)))),
  fun a => BV.cast (aP (ev_ltT2 (aE (am (a8 0 rfl) (aw (a8 1 rfl)))) (aE (am (a8 0 rfl) (aw (a8 2 rfl)))))) (by unfold Pf.bi; first | rfl | (simp only [Pu.bs]; done) | (simp only [Pu.bs]; rfl) | (simp only [Pu.bs, nz9]; done) | (simp only [Pu.bs, nz9]; rfl))⟩
theorem gi:FnScope ["floor", "reach", "basins", "cell", "own", "around", "bottoms"] ["floor", "reach", "basins", "cell"] (ag eG) := ⟨rfl, rfl, rfl, by decide +kernel, rfl, by decide +kernel, by decide +kernel⟩
theorem lA (D:ay K mg "pairs_at" eG ["floor", "reach", "basins", "cell"]) (B:Blt mg) (G_size_of:Has P w K mg base 1 "size_of" ["floor"] (spV (aOne (rL (rL rInt))) (rT2 rInt rInt) fun x => Pf.size_of x)) (G_neighbours:Has P w K mg base 1 "neighbours" ["size", "reach", "cell"] (spL (aq (rT2 rInt rInt) (aq rInt (aOne rInt))) rInt fun x => Pf.bx x.1 x.2.1 x.2.2)) (G_comes_before:Has P w K mg base 4 "comes_before" ["floor", "one", "other"] (spV (aq (rL (rL rInt)) (aq rInt (aOne rInt))) aM fun x => Pf.bi x.1 x.2.1 x.2.2)):Has P w K mg base 5 "pairs_at" ["floor", "reach", "basins", "cell"] (spL (aq (rL (rL rInt)) (aq rInt (aq (rL rInt) (aOne rInt)))) (rT2 rInt rInt) fun x => Pf.pairs_at x.1 x.2.1 x.2.2.1 x.2.2.2) := by
 have nd := gi.nd
 refine D.pL gi (fun _ => rfl) rfl fun f cdv A outer s H E hr => ?_
 have hu := b0 hr
 exact ⟨_, (af (ax (i := 4) nd rfl (Or.inr rfl) (aX (aI (K := K) rfl) (pv 2) (pv 3) (fun _ _ => rfl)))
   (af (ax (i := 5) nd rfl (Or.inl rfl) (ak G_neighbours (hr.mono (by decide)) rfl (a7 (ak G_size_of (hr.mono (by decide)) rfl (a7 (pv 0) aa)) (a7 (pv 1) (a7 (pv 3) aa)))))
   (af (gR (loc := ["other"]) (cap := [("basins", 2), ("floor", 0), ("cell", 3)]) (i := 6) rfl ⟨rfl, by decide +kernel, by decide +kernel, rfl, ⟨⟨rfl, rfl, by first | exact Or.inl rfl | exact Or.inr rfl⟩, ⟨⟨rfl, rfl, by first | exact Or.inl rfl | exact Or.inr rfl⟩, ⟨⟨rfl, rfl, by first | exact Or.inl rfl | exact Or.inr rfl⟩, trivial⟩⟩⟩, rfl⟩ nd rfl (Or.inl rfl) (ba (K := K) rfl (pv 5)) (fun _ _ _ _ => (aC (i := 0) (show (["other", "basins", "floor", "cell"]:List Str).Nodup by decide +kernel) rfl (Or.inl rfl))) (fun _ _ _ _ => (ko (cO (ak G_comes_before (hr.mono (by decide)) rfl (a7 (pv 2) (a7 (pv 0) (a7 (pv 3) aa))))))) (fun _ _ _ _ => (aX (aI (K := K) rfl) (pv 1) (pv 0) (fun _ _ => rfl))))
   (aj (az (d4 (loc := ["bottom"]) (cap := [("own", 4)]) rfl ⟨rfl, by decide +kernel, by decide +kernel, rfl, ⟨⟨rfl, rfl, by first | exact Or.inl rfl | exact Or.inr rfl⟩, trivial⟩, rfl⟩  (ba (K := K) rfl (pv 6)) (fun _ _ _ _ => (aC (i := 0) (show (["bottom", "own"]:List Str).Nodup by decide +kernel) rfl (Or.inl rfl))) (fun _ _ _ _ => (ko (b8 iN (pv 0) (pv 1) (aS _)))) (fun _ _ _ _ => (d0 (a7 (av (cR rfl) (by rfl) B.min eh (a7 (pv 1) (a7 (pv 0) aa))) (a7 (av (cQ rfl) (by rfl) B.max fI (a7 (pv 1) (a7 (pv 0) aa))) aa)))))))))),
  fun a => BV.cast (aA 4 (bn sq_l (a8 2 rfl) (a8 3 rfl)) fun own1 => (aA 5 ((aJ (am (aE (aw (a8 0 rfl))) (am (a8 1 rfl) (aw (a8 3 rfl)))))).ev fun around4 => (aA 6 ((eB (bA sq_l (a8 5 rfl)) (by decide) (by decide) (aR 0) (fun y6 => (et_b (aE (am (a8 2 rfl) (am (a8 0 rfl) (aw (a8 3 rfl))))))) fun y6 => (bn sq_l (a8 1 rfl) (a8 0 rfl)))).ev fun bottoms7 => (cJ (eB (bA sq_l (a8 6 rfl)) (by decide) (by decide) (aR 0) (fun y9 => (c6 (fL cV (a8 0 rfl) (a8 1 rfl)))) fun y9 => (eQ (eS (a8 1 rfl) (a8 0 rfl)) (eT (a8 1 rfl) (a8 0 rfl)))))))) (by unfold Pf.pairs_at; first | rfl | (simp only [Pu.bs]; done) | (simp only [Pu.bs]; rfl) | (simp only [Pu.bs, nz9]; done) | (simp only [Pu.bs, nz9]; rfl))⟩
theorem gj:FnScope ["floor", "reach", "basins", "found", "cell", "pair"] ["floor", "reach"] (ag eJ) := ⟨rfl, rfl, rfl, by decide +kernel, rfl, by decide +kernel, by decide +kernel⟩
theorem lB (D:ay K mg "lines_of" eJ ["floor", "reach"]) (B:Blt mg) (G_in_order:Has P w K mg base 7 "in_order" ["floor"] (spL (aOne (rL (rL rInt))) rInt fun x => Pf.aZ x)) (G_basins_of:Has P w K mg base 10 "basins_of" ["floor", "reach"] (spL (aq (rL (rL rInt)) (aOne rInt)) rInt fun x => Pf.be x.1 x.2)) (G_pairs_at:Has P w K mg base 5 "pairs_at" ["floor", "reach", "basins", "cell"] (spL (aq (rL (rL rInt)) (aq rInt (aq (rL rInt) (aOne rInt)))) (rT2 rInt rInt) fun x => Pf.pairs_at x.1 x.2.1 x.2.2.1 x.2.2.2)):Has P w K mg base 11 "lines_of" ["floor", "reach"] (spL (aq (rL (rL rInt)) (aOne rInt)) (rT3 rInt rInt rInt) fun x => Pf.bE x.1 x.2) := by
 have nd := gj.nd
 refine D.pL gj (fun _ => rfl) rfl fun f cdv A outer s H E hr => ?_
 have hu := b0 hr
 exact ⟨_, (af (ax (i := 2) nd rfl (Or.inl rfl) (ak G_basins_of (hr.mono (by decide)) rfl (a7 (pv 0) (a7 (pv 1) aa))))
   (af (ax (i := 3) nd rfl (Or.inr rfl) kj)
   (af (bR PassesOwn.never rfl (ba (K := K) rfl (ak G_in_order (hr.mono (by decide)) rfl (a7 (pv 0) aa))) (aC (i := 4) nd rfl (Or.inl rfl))
   (aj (bR PassesOwn.never rfl (ba (K := K) rfl (ak G_pairs_at (hr.mono (by decide)) rfl (a7 (pv 0) (a7 (pv 1) (a7 (pv 2) (a7 (pv 4) aa)))))) (aC (i := 5) nd rfl (Or.inl rfl))
   (aj (eO (pe_ddef hu (pv 3) (pv 5) (pv 4) ⟨rfl, rfl, rfl, rfl⟩))))))
   (aj (az (d4 (loc := ["pair"]) (cap := [("found", 3)]) rfl ⟨rfl, by decide +kernel, by decide +kernel, rfl, ⟨⟨rfl, rfl, by first | exact Or.inl rfl | exact Or.inr rfl⟩, trivial⟩, rfl⟩  (ba (K := K) rfl (av (kX rfl) (by rfl) B.sorted fJ (a7 (pv 3) aa))) (fun _ _ _ _ => (aC (i := 0) (show (["pair", "found"]:List Str).Nodup by decide +kernel) rfl (Or.inl rfl))) (fun _ _ _ _ => cr) (fun _ _ _ _ => (au (op_catTK (K := K) rfl) (pv 0) (d0 (a7 (jj hu (pv 1) (pv 0) (fun _ _ => rfl)) aa)))))))))),
  fun a => BV.cast (aA 2 ((aJ (am (a8 0 rfl) (aw (a8 1 rfl))))).ev fun basins1 => (bv_newT 3 fun found3 => (bO (Γf := fun (s5:(List ((Int × Int) × Int))) => [.fr (rL (rL rInt)) (a.1), .fr rInt (a.2), .fr (rL rInt) (basins1), .ot rInt (s5), .any, .any]) (found3) (bA sq_l ((aJ (aw (a8 0 rfl)))).ev) (.cons .rfl (.cons .rfl (.cons .rfl (.cons .rfl (.cons .any (.cons .any .nil)))))) (fun _ => (aR 4))
  (fun s5 x4 => (bp (bO (Γf := fun (s7:(List ((Int × Int) × Int))) => [.fr (rL (rL rInt)) (a.1), .fr rInt (a.2), .fr (rL rInt) (basins1), .ot rInt (s7), .fr rInt (x4), .any]) (s5) (bA sq_l ((aJ (am (a8 0 rfl) (am (a8 1 rfl) (am (a8 2 rfl) (aw (a8 4 rfl))))))).ev) (.cons .rfl (.cons .rfl (.cons .rfl (.cons .rfl (.cons .rfl (.cons .any .nil)))))) (fun _ => (aR 5))
  (fun s7 x6 => (bp (bv_defT 3 rfl (a8 5 rfl) (a8 4 rfl) fun found8 => (br (found8) (.cons .rfl (.cons .rfl (.cons .rfl (.cons .rfl (.cons .rfl (.cons .any .nil))))))))))
  fun s7 => (br (s7) (.cons .rfl (.cons .rfl (.cons .rfl (.cons .rfl (.cons .any (.cons .any .nil))))))))))
  fun s5 => (cJ (evl_borT 3 rfl (flat_t3 cx cx cx) (cA (bA sq_l ((mD (a8 3 rfl))).ev) (by decide) (by decide) (aR 0) fun y11 => (ev_cat21 (a8 0 rfl) (ev_tup1 (ev_ixDT (a8 1 rfl) (a8 0 rfl)))))))))) (by unfold Pf.bE; first | rfl | (simp only [Pu.bs]; done) | (simp only [Pu.bs]; rfl) | (simp only [Pu.bs, nz9]; done) | (simp only [Pu.bs, nz9]; rfl))⟩
theorem lD:FnScope ["_law_found", "_law_due"] ["_law_found", "_law_due"] (ag jT) := ⟨rfl, rfl, rfl, by decide +kernel, rfl, by decide +kernel, by decide +kernel⟩
theorem ok_whole (D:ay K mg "_law_whole" jT ["_law_found", "_law_due"]) (B:Blt mg) :Has P w K mg base 1 "_law_whole" ["_law_found", "_law_due"] (spV (aq (rOp rInt) (aOne (rOp rInt))) aM fun x => Pf.dv x.1 x.2) := by
 have nd := lD.nd
 refine D.pV lD (fun _ => rfl) rfl fun f cdv A outer s H E hr => ?_
 have hu := b0 hr
 exact ⟨_, (af (cF (b8 lJ (pv 1) jb (aS _))
   (aj (az (dF lJ (pv 0) jb (aS _))))
   bo)
   (aj (az (jc (av (cU (K := K) (T := "int") rfl) (by rfl) B.isinstance bD (a7 (pv 0) (a7 (eM (v := .ty "int") rfl B.int_ bo_int rfl) aa))) (jc (pe_not (av (cU (K := K) (T := "bool") rfl) (by rfl) B.isinstance bD (a7 (pv 0) (a7 (eM (v := .ty "bool") rfl B.bool_ bo_bool rfl) aa)))) (lG (dF eP (pv 0) (pv 1) (aS _)))))))),
  fun a => BV.cast (cI (c6 (lT (a8 1 rfl) lV))
  (bY (aP (lT (a8 0 rfl) lV)))
  (bq (aP (jx (gY (a8 0 rfl) isi_oi) (jx (ev_not (gY (a8 0 rfl) isi_ob)) (d5 sc_oo (a8 0 rfl) (a8 1 rfl))))))) (by unfold Pf.dv; first | rfl | (simp only [Pu.bs]; done) | (simp only [Pu.bs]; rfl) | (simp only [Pu.bs, nz9]; done) | (simp only [Pu.bs, nz9]; rfl))⟩
theorem iA:FnScope ["_law_found", "_law_due", "_law_one", "_law_other"] ["_law_found", "_law_due"] (ag fW) := ⟨rfl, rfl, rfl, by decide +kernel, rfl, by decide +kernel, by decide +kernel⟩
theorem mR (D:ay K mg "_law_numbers" fW ["_law_found", "_law_due"]) (B:Blt mg) (G__law_whole:Has P w K mg base 1 "_law_whole" ["_law_found", "_law_due"] (spV (aq (rOp rInt) (aOne (rOp rInt))) aM fun x => Pf.dv x.1 x.2)):Has P w K mg base 2 "_law_numbers" ["_law_found", "_law_due"] (spV (aq (rL (rOp rInt)) (aOne (rL (rOp rInt)))) aM fun x => Pf.bT x.1 x.2) := by
 have nd := iA.nd
 refine D.pV iA (fun _ => rfl) rfl fun f cdv A outer s H E hr => ?_
 have hu := b0 hr
 exact ⟨_, (af (cF (PW.pt (k7 (dX (cO (av (cU (K := K) (T := "list") rfl) (by rfl) B.isinstance bD (a7 (pv 0) (a7 (eM (v := .ty "list") rfl B.list_ dH rfl) aa))))) (gE (b8 iN (av (b9 (K := K) rfl) (by rfl) B.len cw (a7 (pv 0) aa)) (av (b9 (K := K) rfl) (by rfl) B.len cw (a7 (pv 1) aa)) (aS _)))))
   (aj (az fX))
   bo)
   (af (bR PassesOwn.never rfl (pi_zipK (K := K) rfl rfl B.zip (a7 (pv 0) (a7 (pv 1) aa))) (gp (K := K) (n := 2) rfl rfl (bZ (aC (i := 2) nd rfl (Or.inl rfl)) (bZ (aC (i := 3) nd rfl (Or.inl rfl)) gn)))
   (aj (cF (dX (cO (ak G__law_whole (hr.mono (by decide)) rfl (a7 (pv 2) (a7 (pv 3) aa)))))
   (aj (az fX))
   bo)))
   (aj (az fX)))),
  fun a => BV.cast (cI (m7 (eA (et_b (gY (a8 0 rfl) isi_ll))) (c6 (fL cV (cz sq_l (a8 0 rfl)) (cz sq_l (a8 1 rfl)))))
  (bY (aP g7))
  (bq (bv_forC (Γf := fun (s2:Unit) => [.fr (rL (rOp rInt)) (a.1), .fr (rL (rOp rInt)) (a.2), .any, .any]) (rf := finV aM) (e := (fun x => x)) (()) (iv_zip (a8 0 rfl) (a8 1 rfl)) (.cons .rfl (.cons .rfl (.cons .any (.cons .any .nil)))) (fun _ => (gq 2 3))
  (fun s2 x1 => (bp (cI (eA (et_b (aE (am (a8 2 rfl) (aw (a8 3 rfl))))))
  (bY (bv_retC (aP g7)))
  (bq (kD (()) (.cons .rfl (.cons .rfl (.cons .any (.cons .any .nil)))))))))
  rfV (fun _ _ _ h => h) fun s2 => (aP g7)))) (by unfold Pf.bT; first | rfl | (simp only [Pu.bs]; done) | (simp only [Pu.bs]; rfl) | (simp only [Pu.bs, nz9]; done) | (simp only [Pu.bs, nz9]; rfl))⟩
theorem ja:FnScope ["_law_found", "_law_due", "_law_one", "_law_other"] ["_law_found", "_law_due"] (ag ir) := ⟨rfl, rfl, rfl, by decide +kernel, rfl, by decide +kernel, by decide +kernel⟩
theorem ok_tuples (D:ay K mg "_law_tuples" ir ["_law_found", "_law_due"]) (B:Blt mg) (G__law_numbers:Has P w K mg base 2 "_law_numbers" ["_law_found", "_law_due"] (spV (aq (rL (rOp rInt)) (aOne (rL (rOp rInt)))) aM fun x => Pf.bT x.1 x.2)):Has P w K mg base 3 "_law_tuples" ["_law_found", "_law_due"] (spV (aq (rL (rT3 rInt rInt rInt)) (aOne (rL (rT3 rInt rInt rInt)))) aM fun x => Pf.bI x.1 x.2) := by
 have nd := ja.nd
 refine D.pV ja (fun _ => rfl) rfl fun f cdv A outer s H E hr => ?_
 have hu := b0 hr
 exact ⟨_, (af (cF (PW.pt (k7 (dX (cO (av (cU (K := K) (T := "list") rfl) (by rfl) B.isinstance bD (a7 (pv 0) (a7 (eM (v := .ty "list") rfl B.list_ dH rfl) aa))))) (gE (b8 iN (av (b9 (K := K) rfl) (by rfl) B.len cw (a7 (pv 0) aa)) (av (b9 (K := K) rfl) (by rfl) B.len cw (a7 (pv 1) aa)) (aS _)))))
   (aj (az fX))
   bo)
   (af (bR PassesOwn.never rfl (pi_zipK (K := K) rfl rfl B.zip (a7 (pv 0) (a7 (pv 1) aa))) (gp (K := K) (n := 2) rfl rfl (bZ (aC (i := 2) nd rfl (Or.inl rfl)) (bZ (aC (i := 3) nd rfl (Or.inl rfl)) gn)))
   (aj (cF (PW.pt (k7 (dX (cO (av (cU (K := K) (T := "tuple") rfl) (by rfl) B.isinstance bD (a7 (pv 2) (a7 (eM (v := .ty "tuple") rfl B.tuple_ bo_tuple rfl) aa))))) (gE (dX (cO (ak G__law_numbers (hr.mono (by decide)) rfl (a7 (dG (ej (K := K) rfl) (by rfl) B.list_ dH (a7 (pv 2) aa)) (a7 (dG (ej (K := K) rfl) (by rfl) B.list_ dH (a7 (pv 3) aa)) aa))))))))
   (aj (az fX))
   bo)))
   (aj (az fX)))),
  fun a => BV.cast (cI (m7 (eA (et_b (gY (a8 0 rfl) isi_ll))) (c6 (fL cV (cz sq_l (a8 0 rfl)) (cz sq_l (a8 1 rfl)))))
  (bY (aP g7))
  (bq (bv_forC (Γf := fun (s2:Unit) => [.fr (rL (rT3 rInt rInt rInt)) (a.1), .fr (rL (rT3 rInt rInt rInt)) (a.2), .any, .any]) (rf := finV aM) (e := (fun x => x)) (()) (iv_zip (a8 0 rfl) (a8 1 rfl)) (.cons .rfl (.cons .rfl (.cons .any (.cons .any .nil)))) (fun _ => (gq 2 3))
  (fun s2 x1 => (bp (cI (et_or (eA (et_b (gY (a8 2 rfl) isi_t3))) (eA (et_b (aE (am (kL ((ib (a8 2 rfl))).ev) (aw (kL ((ib (a8 3 rfl))).ev)))))))
  (bY (bv_retC (aP g7)))
  (bq (kD (()) (.cons .rfl (.cons .rfl (.cons .any (.cons .any .nil)))))))))
  rfV (fun _ _ _ h => h) fun s2 => (aP g7)))) (by unfold Pf.bI; first | rfl | (simp only [Pu.bs]; done) | (simp only [Pu.bs]; rfl) | (simp only [Pu.bs, nz9]; done) | (simp only [Pu.bs, nz9]; rfl))⟩
theorem dE:FnScope ["_law_floor_here", "_law_reach", "_law_handed", "_law_due", "_law_found"] ["_law_floor_here", "_law_reach"] (ag cP) := ⟨rfl, rfl, rfl, by decide +kernel, rfl, by decide +kernel, by decide +kernel⟩
theorem iB (D:ay K mg "_law_reach_right" cP ["_law_floor_here", "_law_reach"]) (B:Blt mg) (G__law_lines:Has P w K mg base 2 "_law_lines" ["_law_floor_here", "_law_reach", "_law_bottoms"] (spL (aq (rL (rL rInt)) (aq rInt (aOne (rL rInt)))) (rT3 rInt rInt rInt) fun x => Pf.cb x.1 x.2.1 x.2.2)) (G_basins_of:Has P w K mg base 10 "basins_of" ["floor", "reach"] (spL (aq (rL (rL rInt)) (aOne rInt)) rInt fun x => Pf.be x.1 x.2)) (G_lines_of:Has P w K mg base 11 "lines_of" ["floor", "reach"] (spL (aq (rL (rL rInt)) (aOne rInt)) (rT3 rInt rInt rInt) fun x => Pf.bE x.1 x.2)) (G__law_tuples:Has P w K mg base 3 "_law_tuples" ["_law_found", "_law_due"] (spV (aq (rL (rT3 rInt rInt rInt)) (aOne (rL (rT3 rInt rInt rInt)))) aM fun x => Pf.bI x.1 x.2)):Has P w K mg base 12 "_law_reach_right" ["_law_floor_here", "_law_reach"] (spV (aq (rL (rL rInt)) (aOne rInt)) aM fun x => Pf.cD x.1 x.2) := by
 have nd := dE.nd
 refine D.pV dE (fun _ => rfl) rfl fun f cdv A outer s H E hr => ?_
 have hu := b0 hr
 exact ⟨_, (af (gR (loc := ["_law_row"]) (cap := []) (i := 2) rfl ⟨rfl, by decide +kernel, by decide +kernel, rfl, trivial, rfl⟩ nd rfl (Or.inl rfl) (ba (K := K) rfl (pv 0)) (fun _ _ _ _ => (aC (i := 0) (show (["_law_row"]:List Str).Nodup by decide +kernel) rfl (Or.inl rfl))) (fun _ _ _ _ => cr) (fun _ _ _ _ => (dG (ej (K := K) rfl) (by rfl) B.list_ dH (a7 (pv 0) aa))))
   (af (ax (i := 3) nd rfl (Or.inl rfl) (ak G__law_lines (hr.mono (by decide)) rfl (a7 (pv 0) (a7 (pv 1) (a7 (ak G_basins_of (hr.mono (by decide)) rfl (a7 (pv 0) (a7 (pv 1) aa))) aa)))))
   (af (ax (i := 4) nd rfl (Or.inl rfl) (ak G_lines_of (hr.mono (by decide)) rfl (a7 (pv 2) (a7 (pv 1) aa))))
   (af (cF (PW.pt (k7 (dX (cO (ak G__law_tuples (hr.mono (by decide)) rfl (a7 (pv 4) (a7 (pv 3) aa))))) (gE (b8 (op_neDK (K := K) rfl hr.units) (pv 2) (pv 0) (aS _)))))
   (aj (az fX))
   bo)
   (af (eO (jo (K := K) rfl PySem.F.plainAttrs_list PySem.F.slot_list_append PySem.F.type_list_append cS (pv 4) (a7 (d0 (a7 ae (a7 ae (a7 ae aa)))) aa)))
   (af (cF (dX (cO (ak G__law_tuples (hr.mono (by decide)) rfl (a7 (ak G_lines_of (hr.mono (by decide)) rfl (a7 (ce (a7 (ce (a7 ae (a7 ae (a7 ae aa)))) aa)) (a7 (pv 1) aa))) (a7 (ce (a7 (d0 (a7 ae (a7 ae (a7 ae aa)))) aa)) aa)))))
   (aj (az fX))
   bo)
   (aj (az (ak G__law_tuples (hr.mono (by decide)) rfl (a7 (ak G_lines_of (hr.mono (by decide)) rfl (a7 (pv 2) (a7 (pv 1) aa))) (a7 (pv 3) aa))))))))))),
  fun a => BV.cast (aA 2 ((cA (bA sq_l (a8 0 rfl)) (by decide) (by decide) (aR 0) fun y1 => ((evl_list sq_l (a8 0 rfl))).ev)).ev fun handed2 => (aA 3 ((aJ (am (a8 0 rfl) (am (a8 1 rfl) (aw ((aJ (am (a8 0 rfl) (aw (a8 1 rfl))))).ev))))).ev fun due5 => (gr 4 (aJ (am (a8 2 rfl) (aw (a8 1 rfl)))) fun found7 => (cI (et_bor 4 rfl (et_or (eA (et_b (aE (am (a8 4 rfl) (aw (a8 3 rfl)))))) (c6 (ev_neD (dL (dL dInt)) (a8 2 rfl) (a8 0 rfl)))))
  (bY (aP g7))
  (bq (dM 4 rfl (jq ah ah ah) fun found11 => (cI (eA (et_b (aE (am ((aJ (am ((bN (aQ ((bN (aQ ah (aQ ah (aQ ah bM))))).ev bM))).ev (aw (a8 1 rfl))))).ev (aw ((bN (aQ (jq ah ah ah) bM))).ev)))))
  (bY (aP g7))
  (bq (aP (aE (am ((aJ (am (a8 2 rfl) (aw (a8 1 rfl))))).ev (aw (a8 3 rfl))))))))))))) (by unfold Pf.cD; first | rfl | (simp only [Pu.bs]; done) | (simp only [Pu.bs]; rfl) | (simp only [Pu.bs, nz9]; done) | (simp only [Pu.bs, nz9]; rfl))⟩
theorem sc_law:FnScope ["_law_script", "_law_floor_here"] ["_law_script"] (ag fx) := ⟨rfl, rfl, rfl, by decide +kernel, rfl, by decide +kernel, by decide +kernel⟩
theorem ok_law {f:Addr} {fd:FuncData} (F:Fun K "law" "law" fx f fd) (B:Blt mg) (G__law_floor:Has P w K mg base 4 "_law_floor" ["_law_script", "_law_most"] (spL (aq (rScr K) (aOne rInt)) (rL rInt) fun x => Pf.cX x.1 x.2)) (G__law_reach_right:Has P w K mg base 12 "_law_reach_right" ["_law_floor_here", "_law_reach"] (spV (aq (rL (rL rInt)) (aOne rInt)) aM fun x => Pf.cD x.1 x.2)) (hl:∀ ns:List Int, ns.length ≤ 63 → Pf.fj ns = some true):FnOk P w K mg base CX0 13 f fd ["_law_script"] (m8 K) := by
 have nd := sc_law.nd
 refine F.law (fl := Pf.fj) sc_law rfl hl fun f cdv A outer s H E hr => ?_
 have hu := b0 hr
 exact ⟨_, (af (ax (i := 1) nd rfl (Or.inl rfl) (ak G__law_floor (hr.mono (by decide)) rfl (a7 (pv 0) (a7 ae aa))))
   (aj (az (jc (ak G__law_reach_right (hr.mono (by decide)) rfl (a7 (pv 1) (a7 ae aa))) (lG (ak G__law_reach_right (hr.mono (by decide)) rfl (a7 (pv 1) (a7 ae aa)))))))),
  fun a => BV.cast (aA 1 ((aJ (am (a8 0 rfl) (aw ah)))).ev fun floor_here1 => (aP (ev_and (aE (am (a8 1 rfl) (aw ah))) (aE (am (a8 1 rfl) (aw ah)))))) (by unfold Pf.fj; first | rfl | (simp only [Pu.bs]; done) | (simp only [Pu.bs]; rfl) | (simp only [Pu.bs, nz9]; done) | (simp only [Pu.bs, nz9]; rfl))⟩
end
end K22
namespace K22
open Fl Pu Pf
theorem df (l:List (Int × Int × Int)):Pf.bI l l = some true := by
 unfold Pf.bI
 rw [if_neg (by simp), fk]
 rintro ⟨a, b⟩ hp
 have e:a = b := lb hp
 subst e
 rw [iH]; rfl
theorem both {rows:List (List Int)} {c:Nat} (hp:0 < rows.length) (hc:0 < c) (hcm:c ≤ 12) (hm:rows.length ≤ 12) (h:∀ r ∈ rows, r.length = c) (reach:Int) :
  ∃ B ls, Pf.be rows reach = some B ∧ Pf.cb rows reach B = some ls ∧ Pf.bE rows reach = some ls ∧ ls.length ≤ 144 * 144 := by
 have hcm':c ≤ 900 := nz4 hcm (by decide)
 have hm':rows.length ≤ 900 := nz4 hm (by decide)
 have hfl:rows.flatten.length = rows.length * c := bw h
 refine oq12 (dU hp hc hcm' hm' h) fun os ho o => ?_
 refine oq12 (low_of (reach := reach) hp hc hcm' hm' h o) fun E L hf => ?_
 have hb := fu hp hc hcm' hm' h ho o L hf
 refine oq12 (li hp hc hcm hm h ho o hb) fun ls e1 z => oq13 z fun d bd ld ed => ?_
 refine oq12 (lj (reach := reach) (bot := bon E (rows.length * c)) hp hc hcm hm h o) fun ls' e2 z => oq13 z fun t bt lt et => ?_
 have es:ls = ls' := by
  rw [ed, et]
  exact mL (fun k x y hx hy e => Ord.inj o x y (by rw [hfl]; exact hx.1) (by rw [hfl]; exact hy.1) e) bd bt
 subst es
 exact ⟨_, ls, hb, e2, e1, by rw [ed, List.length_map, (bS _).length_eq, List.length_map]; exact ld⟩
theorem one {reach:Int} (h:reach = 4 ∨ reach = 8):Pf.bE ([[0, 2, 1]]) reach = some [(0, 2, 1)] := by
 have hp:0 < ([[0, 2, 1]]:List (List Int)).length := by decide
 have hr:∀ r ∈ ([[0, 2, 1]]:List (List Int)), r.length = 3 := fun r hr => by rw [List.mem_singleton.mp hr]; rfl
 have hfl:([[0, 2, 1]]:List (List Int)).flatten.length = 1 * 3 := rfl
 have f:Pf.c8 ([[0, 2, 1]]) reach = some [none, some 0, none] := by rcases h with rfl | rfl <;> rfl
 have b:Pf.be ([[0, 2, 1]]) reach = some [0, 0, 2] := by
  refine oq12 (dU (c := 3) hp (by decide) (by decide) (by decide) hr) fun os ho o => ?_
  refine oq12 (low_of (reach := reach) (c := 3) hp (by decide) (by decide) (by decide) hr o) fun E L hf => ?_
  have hb2 := jQ L (by decide) fun x hx => nz5 (hfl ▸ o.rk_lt (by rw [hfl]; exact hx))
  have e:flL (([[0, 2, 1]]:List (List Int)).length * 3) E = [none, some 0, none] := Option.some.inj (hf.symm.trans f)
  rw [e] at hb2
  rw [fu hp (by decide) (by decide) (by decide) hr ho o L hf, ← hb2]
  rfl
 have l:Pf.cb ([[0, 2, 1]]) reach [0, 0, 2] = some (srtT [(0, 2, 1)]) := by rcases h with rfl | rfl <;> rfl
 refine oq24 (both (c := 3) hp (by decide) (by decide) (by decide) hr reach) fun B ls e1 e2 e3 _ => ?_
 rw [b] at e1
 cases e1
 rw [e3, ← e2, l]
 unfold srtT
 rw [List.mergeSort_singleton]
theorem lE {rows:List (List Int)} {c:Nat} (S:ShpW rows c 144) {reach:Int} (hr:reach = 4 ∨ reach = 8):Pf.cD rows reach = some true := by
 refine oq24 (both S.pos S.cpos S.cmost S.most12 S.row reach) fun B ls e1 e2 e3 l => ?_
 have cc:Pu.comp (fun (y:List Int) => some y) rows = some rows := by
  rw [d8 (g := fun y => y) (nz4 S.most12 (by decide)) fun _ _ => rfl, List.map_id']
 have ap:∃ w, Pu.app ls (0, 0, 0) = some w := ⟨_, fR (nz4 l (by decide))⟩
 refine oq11 ap fun w ew => ?_
 unfold Pf.cD
 rw [cc, nza, e1, nza, e2, nza, e3, nza, df, nza, nza, if_neg (by simp), nza, if_neg (by simp), ew, nza, one hr, nza, df, nza, nza, if_neg (by simp), nza]
 exact df ls
theorem holds (ns:List Int) (_:ns.length ≤ 63):Pf.fj ns = some true := by
 unfold Pf.fj
 refine oq22 (lc ns (most := 144) (by decide) (by decide)) fun rows c e S => ?_
 rw [show ((144:Nat):Int) = 144 from rfl] at e
 rw [e, nza, lE S (.inl rfl), nza, if_pos rfl, lE S (.inr rfl)]
end K22
namespace K22
open PySem PySem.Spec PyProof.Rows L2
theorem all_mk {l:PySem.W.OpenLaw} {w:World} {K:PySem.W.Frag} {h:Heap} {mg:Str → Option Value} {fa:Addr} (X:K.In h) (G:h.Ns mainGlobals mg) (hfa:mg "law" = some (.ref fa))
  {f1 f2 f3:Addr} {od1 an1 od2 an2 od3 an3:Option Addr} {sl1 sl2 sl3:Array (Option Value)} {oc1 kV1 dc1 pm1 cd1 ct1 oc2 kV2 dc2 pm2 cd2 ct2 oc3 kV3 dc3 pm3 cd3 ct3:Value}
  (a1:PySem.W.nsIn K mainGlobals "earliest_of" = some (some (.ref f1))) (l1:K.lookup f1 = some ⟨oc1, od1, .func (PySem.W.fnOf "earliest_of" "earliest_of" (bF bj) (aY bj) (ag bj) .none kV1 dc1 pm1 an1 cd1 ct1), sl1⟩) (c1:PySem.W.codeIn K cd1 "earliest_of" = true) (k1:PySem.W.keepIn K (.ref f1) = true)
  (a2:PySem.W.nsIn K mainGlobals "in_order" = some (some (.ref f2))) (l2:K.lookup f2 = some ⟨oc2, od2, .func (PySem.W.fnOf "in_order" "in_order" (bF bX) (aY bX) (ag bX) .none kV2 dc2 pm2 an2 cd2 ct2), sl2⟩) (c2:PySem.W.codeIn K cd2 "in_order" = true) (k2:PySem.W.keepIn K (.ref f2) = true)
  (a3:PySem.W.nsIn K mainGlobals "law" = some (some (.ref f3))) (l3:K.lookup f3 = some ⟨oc3, od3, .func (PySem.W.fnOf "law" "law" (bF fx) (aY fx) (ag fx) .none kV3 dc3 pm3 an3 cd3 ct3), sl3⟩) (c3:PySem.W.codeIn K cd3 "law" = true) (k3:PySem.W.keepIn K (.ref f3) = true)
  {cc1:Addr} (e_earliest_of:cd1 = .ref cc1) (h_earliest_of:PySem.W.codeHdIn K cc1 58 = true)
  {cc2:Addr} (e_in_order:cd2 = .ref cc2) (h_in_order:PySem.W.codeHdIn K cc2 65 = true)
  (D_cell_at:ay K mg "_law_cell_at" fT ["_law_script", "_law_k"])
  (D_number:ay K mg "_law_number" ip ["_law_script", "_law_k", "_law_top"])
  (D_height:ay K mg "_law_height" iq ["_law_script", "_law_k", "_law_kind", "_law_row", "_law_column"])
  (D_floor:ay K mg "_law_floor" jR ["_law_script", "_law_most"])
  (D_keys:ay K mg "_law_keys" mM ["_law_floor_here"])
  (D_near:ay K mg "_law_near" mN ["_law_floor_here", "_law_reach", "_law_cell"])
  (D_lines:ay K mg "_law_lines" jS ["_law_floor_here", "_law_reach", "_law_bottoms"])
  (D_size_of:ay K mg "size_of" fU ["floor"])
  (D_all_cells:ay K mg "all_cells" dz ["floor"])
  (D_neighbours:ay K mg "neighbours" de ["size", "reach", "cell"])
  (D_height_of:ay K mg "height_of" dA ["floor", "cell"])
  (D_order_key:ay K mg "order_key" dB ["floor", "cell"])
  (D_fall_of:ay K mg "fall_of" fV ["floor", "reach", "cell"])
  (D_falls_of:ay K mg "falls_of" eF ["floor", "reach"])
  (D_basins_of:ay K mg "basins_of" dC ["floor", "reach"])
  (D_comes_before:ay K mg "comes_before" cE ["floor", "one", "other"])
  (D_pairs_at:ay K mg "pairs_at" eG ["floor", "reach", "basins", "cell"])
  (D_lines_of:ay K mg "lines_of" eJ ["floor", "reach"])
  (D_whole:ay K mg "_law_whole" jT ["_law_found", "_law_due"])
  (D_numbers:ay K mg "_law_numbers" fW ["_law_found", "_law_due"])
  (D_tuples:ay K mg "_law_tuples" ir ["_law_found", "_law_due"])
  (D_reach_right:ay K mg "_law_reach_right" cP ["_law_floor_here", "_law_reach"])
  (B:Blt mg) :
  ∃ fd:FuncData, (∀ (s:Shared) (v:Value), BindsTo s fd ⟨[v], []⟩ [("_law_script", v)]) ∧ (∀ P ∈ (konL [(58, (("earliest_of":Str) ++ ".<locals>.") ++ "<lambda>"), (65, (("in_order":Str) ++ ".<locals>.") ++ "<lambda>")]).T, ∃ c, PySem.W.codeHdIn K c P = true) ∧ ∀ base:Heap, K.In base → base.Ns mainGlobals mg → BM mg base → FnOk l.prog w K mg base CX0 13 fa fd ["_law_script"] (@spLaw (konL [(58, (("earliest_of":Str) ++ ".<locals>.") ++ "<lambda>"), (65, (("in_order":Str) ++ ".<locals>.") ++ "<lambda>")]) K) := by
 letI:Kon := (konL [(58, (("earliest_of":Str) ++ ".<locals>.") ++ "<lambda>"), (65, (("in_order":Str) ++ ".<locals>.") ++ "<lambda>")])
 have e := hfa.symm.trans (PySem.W.mg_of X G a3)
 cases e
 have D_earliest_of:cC K mg "earliest_of" bj ["floor", "cells"] cc1 := def_mkC X G a1 l1 c1 k1 e_earliest_of fun _ _ _ _ _ _ us hl => by obtain ⟨_, _, rfl⟩ := L2.len2 hl; rfl
 have D_in_order:cC K mg "in_order" bX ["floor"] cc2 := def_mkC X G a2 l2 c2 k2 e_in_order fun _ _ _ _ _ _ us hl => by obtain ⟨_, rfl⟩ := L2.len1 hl; rfl
 have F_law := gN (st := fx) l3 c3 k3
 refine ⟨PySem.W.fnOf "law" "law" (bF fx) (aY fx) (ag fx) .none kV3 dc3 pm3 an3 cd3 ct3, fun s v => .of_eq rfl, List.forall_mem_cons.mpr ⟨⟨_, h_earliest_of⟩, List.forall_mem_cons.mpr ⟨⟨_, h_in_order⟩, fun _ h => nomatch h⟩⟩, fun base _ _ bm => ?_⟩
 have g_cell_at := mO (P := l.prog) (w := w) (base := base) D_cell_at B
 have g_number := ok_number (P := l.prog) (w := w) (base := base) D_number B  g_cell_at
 have g_height := ok_height (P := l.prog) (w := w) (base := base) D_height B  g_number
 have g_floor := ok_floor (P := l.prog) (w := w) (base := base) D_floor B  g_cell_at g_height
 have g_keys := ok_keys (P := l.prog) (w := w) (base := base) D_keys B
 have g_near := ok_near (P := l.prog) (w := w) (base := base) D_near B
 have g_lines := ok_lines (P := l.prog) (w := w) (base := base) D_lines B  g_keys g_near
 have g_size_of := mP (P := l.prog) (w := w) (base := base) D_size_of B
 have g_all_cells := jU (P := l.prog) (w := w) (base := base) D_all_cells B  g_size_of
 have g_neighbours := iI (P := l.prog) (w := w) (base := base) D_neighbours B
 have g_height_of := jV (P := l.prog) (w := w) (base := base) D_height_of B  g_size_of
 have g_order_key := jW (P := l.prog) (w := w) (base := base) D_order_key B  g_height_of
 have g_earliest_of := iy (P := l.prog) (w := w) (base := base) D_earliest_of ⟨bm, h_earliest_of, by first | exact List.Mem.head _ | exact List.Mem.tail _ (List.Mem.head _) | exact List.Mem.tail _ (List.Mem.tail _ (List.Mem.head _)), by first | rfl | decide +kernel⟩ B  g_order_key
 have g_fall_of := mQ (P := l.prog) (w := w) (base := base) D_fall_of B  g_size_of g_neighbours g_earliest_of
 have g_falls_of := lw (P := l.prog) (w := w) (base := base) D_falls_of B  g_all_cells g_fall_of
 have g_in_order := lz (P := l.prog) (w := w) (base := base) D_in_order ⟨bm, h_in_order, by first | exact List.Mem.head _ | exact List.Mem.tail _ (List.Mem.head _) | exact List.Mem.tail _ (List.Mem.tail _ (List.Mem.head _)), by first | rfl | decide +kernel⟩ B  g_all_cells g_order_key
 have g_basins_of := jX (P := l.prog) (w := w) (base := base) D_basins_of B  g_all_cells g_falls_of g_in_order
 have g_comes_before := gm (P := l.prog) (w := w) (base := base) D_comes_before B  g_order_key
 have g_pairs_at := lA (P := l.prog) (w := w) (base := base) D_pairs_at B  g_size_of g_neighbours g_comes_before
 have g_lines_of := lB (P := l.prog) (w := w) (base := base) D_lines_of B  g_in_order g_basins_of g_pairs_at
 have g_whole := ok_whole (P := l.prog) (w := w) (base := base) D_whole B
 have g_numbers := mR (P := l.prog) (w := w) (base := base) D_numbers B  g_whole
 have g_tuples := ok_tuples (P := l.prog) (w := w) (base := base) D_tuples B  g_numbers
 have g_reach_right := iB (P := l.prog) (w := w) (base := base) D_reach_right B  g_lines g_basins_of g_lines_of g_tuples
 exact ok_law F_law B g_floor g_reach_right holds
theorem walk {l:PySem.W.OpenLaw} {q:Program} {loose:List Str} {XP:(Str → Option Value) → Heap → Prop} {YP:World → Heap → Prop} {d:DefRec} {K:Params → PySem.W.Frag} (hn:l.most = some 63) (hdf:d.params.defaults = [])
  (hY:∀ (w:World) (h:Heap), YP w h → (K w.params).In h ∧ ∀ P ∈ (konL [(58, (("earliest_of":Str) ++ ".<locals>.") ++ "<lambda>"), (65, (("in_order":Str) ++ ".<locals>.") ++ "<lambda>")]).T, h.get? P = some (PySem.W.tabObj #[])) (hC:∀ (w:World), ∀ P ∈ (konL [(58, (("earliest_of":Str) ++ ".<locals>.") ++ "<lambda>"), (65, (("in_order":Str) ++ ".<locals>.") ++ "<lambda>")]).T, (K w.params).lookup P = none)
  (F:∀ (w:World) (mg:Str → Option Value) (fa:Addr) (h:Heap), (K w.params).In h → h.Ns mainGlobals mg → mg d.name = some (.ref fa) →
   ∃ fd:FuncData, (∀ (s:Shared) (u:Value), BindsTo s fd ⟨[u], []⟩ [("_law_script", u)]) ∧ (∀ P ∈ (konL [(58, (("earliest_of":Str) ++ ".<locals>.") ++ "<lambda>"), (65, (("in_order":Str) ++ ".<locals>.") ++ "<lambda>")]).T, ∃ c, PySem.W.codeHdIn (K w.params) c P = true) ∧ ∀ base:Heap, (K w.params).In base → base.Ns mainGlobals mg → BM mg base → FnOk l.prog w (K w.params) mg base CX0 13 fa fd ["_law_script"] (@spLaw (konL [(58, (("earliest_of":Str) ++ ".<locals>.") ++ "<lambda>"), (65, (("in_order":Str) ++ ".<locals>.") ++ "<lambda>")]) (K w.params))) :
  PySem.W.WalkO q loose XP YP l.row.toRowW d [] (fun f vs => PySem.call f vs) :=
 letI:Kon := (konL [(58, (("earliest_of":Str) ++ ".<locals>.") ++ "<lambda>"), (65, (("in_order":Str) ++ ".<locals>.") ++ "<lambda>")])
 L2.walk_ofT (n := 63) (k := 13) (x := "_law_script") (sp := fun w => spLaw (K w.params)) hn (by decide) hdf ⟨rfl, by decide, by decide⟩ hY hC F (fun _ _ a ns hl tg hS => ⟨a, ns, rfl, hS, hl, tg, fun _ => rfl⟩)
end K22
open PySem PySem.W PyProof.Rows
set_option maxRecDepth 100000 in
set_option maxHeartbeats 0 in
theorem PySem.Challenge.cw_floodtree_k22_lines_holds : PySem.Challenge.rw_floodtree_k22_lines.Holds := by
 w_on; o_law; k_head; (case hw => w_witness2)
 k_fill
 refine K22.walk (l := PySem.Challenge.rw_floodtree_k22_lines) rfl rfl (fun w h Y => ⟨PySem.W.km_in_of Y, PySem.W.km_tabs_of Y⟩) (fun w => ?C) ?F
 case F =>
  intro w mg fa h KX G hmg
  refine' K22.all_mk KX G hmg ?a1 ?l1 ?c1 ?k1 ?a2 ?l2 ?c2 ?k2 ?a3 ?l3 ?c3 ?k3 ?e_earliest_of ?h_earliest_of ?e_in_order ?h_in_order ?D_cell_at ?D_number ?D_height ?D_floor ?D_keys ?D_near ?D_lines ?D_size_of ?D_all_cells ?D_neighbours ?D_height_of ?D_order_key ?D_fall_of ?D_falls_of ?D_basins_of ?D_comes_before ?D_pairs_at ?D_lines_of ?D_whole ?D_numbers ?D_tuples ?D_reach_right ?B
  (case a1 => k_is); (case l1 => k_is); (case c1 => k_is); (case k1 => k_is)
  (case a2 => k_is); (case l2 => k_is); (case c2 => k_is); (case k2 => k_is)
  (case a3 => k_is); (case l3 => k_is); (case c3 => k_is); (case k3 => k_is)
  (case e_earliest_of => rfl); (case h_earliest_of => kernel_rfl)
  (case e_in_order => rfl); (case h_in_order => kernel_rfl)
  (case D_cell_at => refine' L2.aU KX G ?a ?l ?c ?k (fun _ _ _ _ _ _ us hl => by obtain ⟨_, _, rfl⟩ := L2.len2 hl; rfl); (case a => k_is); (case l => k_is); (case c => k_is); (case k => k_is))
  (case D_number => refine' L2.aU KX G ?a ?l ?c ?k (fun _ _ _ _ _ _ us hl => by obtain ⟨_, _, _, rfl⟩ := L2.len3 hl; rfl); (case a => k_is); (case l => k_is); (case c => k_is); (case k => k_is))
  (case D_height => refine' L2.aU KX G ?a ?l ?c ?k (fun _ _ _ _ _ _ us hl => by obtain ⟨_, _, _, _, _, rfl⟩ := L2.len5 hl; rfl); (case a => k_is); (case l => k_is); (case c => k_is); (case k => k_is))
  (case D_floor => refine' L2.aU KX G ?a ?l ?c ?k (fun _ _ _ _ _ _ us hl => by obtain ⟨_, _, rfl⟩ := L2.len2 hl; rfl); (case a => k_is); (case l => k_is); (case c => k_is); (case k => k_is))
  (case D_keys => refine' L2.aU KX G ?a ?l ?c ?k (fun _ _ _ _ _ _ us hl => by obtain ⟨_, rfl⟩ := L2.len1 hl; rfl); (case a => k_is); (case l => k_is); (case c => k_is); (case k => k_is))
  (case D_near => refine' L2.aU KX G ?a ?l ?c ?k (fun _ _ _ _ _ _ us hl => by obtain ⟨_, _, _, rfl⟩ := L2.len3 hl; rfl); (case a => k_is); (case l => k_is); (case c => k_is); (case k => k_is))
  (case D_lines => refine' L2.aU KX G ?a ?l ?c ?k (fun _ _ _ _ _ _ us hl => by obtain ⟨_, _, _, rfl⟩ := L2.len3 hl; rfl); (case a => k_is); (case l => k_is); (case c => k_is); (case k => k_is))
  (case D_size_of => refine' L2.aU KX G ?a ?l ?c ?k (fun _ _ _ _ _ _ us hl => by obtain ⟨_, rfl⟩ := L2.len1 hl; rfl); (case a => k_is); (case l => k_is); (case c => k_is); (case k => k_is))
  (case D_all_cells => refine' L2.aU KX G ?a ?l ?c ?k (fun _ _ _ _ _ _ us hl => by obtain ⟨_, rfl⟩ := L2.len1 hl; rfl); (case a => k_is); (case l => k_is); (case c => k_is); (case k => k_is))
  (case D_neighbours => refine' L2.aU KX G ?a ?l ?c ?k (fun _ _ _ _ _ _ us hl => by obtain ⟨_, _, _, rfl⟩ := L2.len3 hl; rfl); (case a => k_is); (case l => k_is); (case c => k_is); (case k => k_is))
  (case D_height_of => refine' L2.aU KX G ?a ?l ?c ?k (fun _ _ _ _ _ _ us hl => by obtain ⟨_, _, rfl⟩ := L2.len2 hl; rfl); (case a => k_is); (case l => k_is); (case c => k_is); (case k => k_is))
  (case D_order_key => refine' L2.aU KX G ?a ?l ?c ?k (fun _ _ _ _ _ _ us hl => by obtain ⟨_, _, rfl⟩ := L2.len2 hl; rfl); (case a => k_is); (case l => k_is); (case c => k_is); (case k => k_is))
  (case D_fall_of => refine' L2.aU KX G ?a ?l ?c ?k (fun _ _ _ _ _ _ us hl => by obtain ⟨_, _, _, rfl⟩ := L2.len3 hl; rfl); (case a => k_is); (case l => k_is); (case c => k_is); (case k => k_is))
  (case D_falls_of => refine' L2.aU KX G ?a ?l ?c ?k (fun _ _ _ _ _ _ us hl => by obtain ⟨_, _, rfl⟩ := L2.len2 hl; rfl); (case a => k_is); (case l => k_is); (case c => k_is); (case k => k_is))
  (case D_basins_of => refine' L2.aU KX G ?a ?l ?c ?k (fun _ _ _ _ _ _ us hl => by obtain ⟨_, _, rfl⟩ := L2.len2 hl; rfl); (case a => k_is); (case l => k_is); (case c => k_is); (case k => k_is))
  (case D_comes_before => refine' L2.aU KX G ?a ?l ?c ?k (fun _ _ _ _ _ _ us hl => by obtain ⟨_, _, _, rfl⟩ := L2.len3 hl; rfl); (case a => k_is); (case l => k_is); (case c => k_is); (case k => k_is))
  (case D_pairs_at => refine' L2.aU KX G ?a ?l ?c ?k (fun _ _ _ _ _ _ us hl => by obtain ⟨_, _, _, _, rfl⟩ := L2.len4 hl; rfl); (case a => k_is); (case l => k_is); (case c => k_is); (case k => k_is))
  (case D_lines_of => refine' L2.aU KX G ?a ?l ?c ?k (fun _ _ _ _ _ _ us hl => by obtain ⟨_, _, rfl⟩ := L2.len2 hl; rfl); (case a => k_is); (case l => k_is); (case c => k_is); (case k => k_is))
  (case D_whole => refine' L2.aU KX G ?a ?l ?c ?k (fun _ _ _ _ _ _ us hl => by obtain ⟨_, _, rfl⟩ := L2.len2 hl; rfl); (case a => k_is); (case l => k_is); (case c => k_is); (case k => k_is))
  (case D_numbers => refine' L2.aU KX G ?a ?l ?c ?k (fun _ _ _ _ _ _ us hl => by obtain ⟨_, _, rfl⟩ := L2.len2 hl; rfl); (case a => k_is); (case l => k_is); (case c => k_is); (case k => k_is))
  (case D_tuples => refine' L2.aU KX G ?a ?l ?c ?k (fun _ _ _ _ _ _ us hl => by obtain ⟨_, _, rfl⟩ := L2.len2 hl; rfl); (case a => k_is); (case l => k_is); (case c => k_is); (case k => k_is))
  (case D_reach_right => refine' L2.aU KX G ?a ?l ?c ?k (fun _ _ _ _ _ _ us hl => by obtain ⟨_, _, rfl⟩ := L2.len2 hl; rfl); (case a => k_is); (case l => k_is); (case c => k_is); (case k => k_is))
  (case B => refine' ⟨PySem.W.mg_none_of KX G ?_, PySem.W.mg_none_of KX G ?_, PySem.W.mg_none_of KX G ?_, PySem.W.mg_none_of KX G ?_, PySem.W.mg_none_of KX G ?_, PySem.W.mg_none_of KX G ?_, PySem.W.mg_none_of KX G ?_, PySem.W.mg_none_of KX G ?_, PySem.W.mg_none_of KX G ?_, PySem.W.mg_none_of KX G ?_, PySem.W.mg_none_of KX G ?_, PySem.W.mg_none_of KX G ?_, PySem.W.mg_none_of KX G ?_, PySem.W.mg_none_of KX G ?_⟩ <;> k_is)
 case C =>
  refine List.forall_mem_cons.mpr ⟨?_, List.forall_mem_cons.mpr ⟨?_, fun _ h => nomatch h⟩⟩
  all_goals kernel_rfl
#print axioms PySem.Challenge.cw_floodtree_k22_lines_holds
