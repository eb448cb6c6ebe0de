/-
  A statement's own writer: all that it turns is new since the statement began. And lists of numbers and of texts as bytes.
-/
import Derived.Test.YtpjfdhgkclnagaaWireF
import Derived.Test.YtpjfdhgkclnagaaOpen
namespace Go.Proofs.Ytpjfdhgkclnagaa
set_option linter.unusedVariables false
open Go.RowKit

theorem wf_i64 {n : Int} (h : (Lit.int .i64 n).wf = true) : -9223372036854775808 ≤ n ∧ n ≤ 9223372036854775807 := by
  simp [Lit.wf, IntKind.min, IntKind.max, IntKind.signed, IntKind.bits] at h
  omega
theorem Fr.new1 {W w w' : World} {B : Nat} (f : Fr No W w) (h : Fr (One B) w w') (hB : W.heap.size ≤ B) : Fr No W w' := f.then_ h fun k hk h => by
  have : k = B := h
  omega

/-- An append under a guard that is met, its run known. -/
theorem wpList_append_runG {P : Program} {w : World} {ops : Array Oper} {rest : List Oper} {o : Oper} {a : Act} {Q : Exit → Act → World → Prop} (hw : Region.wanted o (yielded ops a.tmps) = true) (s x : Operand) (t : TypeId)
    (ho : o.op = .call { callee := .builtin .append, args := #[s, x], argTypes := #[t, t] }) {v u v' : Value} {w' : World} (hs : a.eval s = v) (hx : a.eval x = u)
    (hr : (Builtin.append_ #[t, t] o.type #[v, u]).run P w = .ok v' w') (h : wpList P ops Q rest (a.put o.dst v') w') : wpList P ops Q (o :: rest) a w := by
  refine wpList_step fun K hK => ?_
  rw [if_pos hw]
  unfold Oper.wp
  simp only [execOp, ho, resolve, invoke, builtin, Sem.run_bind, Sem.run_pure, Result.andThen_ok, List.map_toArray, List.map_cons, List.map_nil, hs, hx, hr]
  exact hK _ _ h

structure WInv (w wr : World) (B : Nat) (S : Nat → Prop) (p : List UInt8) (bad : Bool) : Prop where
  lo : w.heap.size ≤ B
  fr : Fr No w wr
  wr : Wr wr B S p bad
  up : ∀ k, S k → w.heap.size ≤ k
theorem WInv.of_ret {w wr w' : World} {B : Nat} {S : Nat → Prop} {p q : List UInt8} {bad bad' : Bool} {e : Ending} (h : WInv w wr B S p bad) (hr : WrRet B S q bad' wr e w') : WInv w w' B (Gr S wr w') q bad' := by
  obtain ⟨_, h1, h2⟩ := hr
  refine ⟨h.lo, h.fr.then_ h2 fun k hk hS => ?_, h1, fun k hk => ?_⟩
  · rcases hS with hS | hS
    · have : k = B := hS
      have := h.lo
      omega
    · have := h.up k hS
      omega
  · rcases hk with hk | hk
    · exact h.up k hk
    · have := h.fr.size
      omega
theorem WInv.keep {w wr w' : World} {B : Nat} {S : Nat → Prop} {p : List UInt8} {bad : Bool} (h : WInv w wr B S p bad) (f : Fr No wr w') : WInv w w' B S p bad :=
  ⟨h.lo, h.fr.then_ f fun _ _ h => h, h.wr.keep f (fun h => h) fun _ _ h => h, h.up⟩
theorem WInv.new (w wr : World) (f : Fr No w wr) : WInv w (wr.alloc (.cells #[.slice none 0 0, .bool false] 27)) wr.heap.size No [] false :=
  ⟨f.size, f.alloc _, Wr.new wr, fun _ h => h.elim⟩
/-- What is an argument lies apart from the writer. -/
theorem WInv.apart {w wr : World} {B : Nat} {S : Nat → Prop} {p : List UInt8} {bad : Bool} (h : WInv w wr B S p bad) {a : Option Addr} {l : List UInt8} (hr : Rd w a l) : In wr (fun k => k ≠ B ∧ ¬ S k) a l :=
  ((In.of_rd hr).keep h.fr fun _ _ h => h).sub fun k _ hk => by
    have hk : k < w.heap.size := hk
    have := h.lo
    exact ⟨by omega, fun hS => by have := h.up k hS; omega⟩

/-- Numbers as bytes. -/
def encs (l : List Int) : List UInt8 := l.flatMap fun n => enc n.toNat
theorem encs_nil : encs [] = [] := rfl
theorem encs_snoc (l : List Int) (n : Int) : encs (l ++ [n]) = encs l ++ enc n.toNat := by simp [encs]
theorem encs_cons (l : List Int) (n : Int) : encs (n :: l) = enc n.toNat ++ encs l := by simp [encs]
theorem take_more {α : Type} (l : List α) (k : Nat) (x : α) (h : l[k]? = some x) : l.take (k + 1) = l.take k ++ [x] := by
  have hk : k < l.length := (List.getElem?_eq_some_iff.1 h).1
  rw [List.take_succ_eq_append_getElem hk]
  have : l[k] = x := by rw [List.getElem?_eq_getElem hk] at h; simpa using h
  rw [this]
theorem drop_more {α : Type} (l : List α) (k : Nat) (x : α) (h : l[k]? = some x) : l.drop k = x :: l.drop (k + 1) := by
  have hk : k < l.length := (List.getElem?_eq_some_iff.1 h).1
  rw [List.drop_eq_getElem_cons hk]
  have : l[k] = x := by rw [List.getElem?_eq_getElem hk] at h; simpa using h
  rw [this]
theorem encs_le (l : List Int) (h : ∀ n ∈ l, n ≤ 9223372036854775807) : (encs l).length ≤ 9 * l.length := by
  induction l with
  | nil => simp [encs]
  | cons n l ih =>
    rw [encs_cons, List.length_append, List.length_cons]
    have h1 := h n (List.mem_cons_self ..)
    have h9 := enc_len9 (n := n.toNat) (by omega)
    have := ih fun x hx => h x (List.mem_cons_of_mem _ hx)
    omega
/-- Texts as bytes. -/
def encT (l : List Tx) : List UInt8 := l.flatMap fun t => enc t.b.length ++ t.b
theorem encT_snoc (l : List Tx) (t : Tx) : encT (l ++ [t]) = encT l ++ (enc t.b.length ++ t.b) := by simp [encT]
theorem encT_cons (l : List Tx) (t : Tx) : encT (t :: l) = enc t.b.length ++ (t.b ++ encT l) := by simp [encT]
theorem encT_le (l : List Tx) (h : ∀ t ∈ l, t.b.length ≤ 300) : (encT l).length ≤ 309 * l.length := by
  induction l with
  | nil => simp [encT]
  | cons t l ih =>
    rw [encT_cons, List.length_append, List.length_append, List.length_cons]
    have h1 := h t (List.mem_cons_self ..)
    have h9 := enc_len9 (n := t.b.length) (by omega)
    have := ih fun x hx => h x (List.mem_cons_of_mem _ hx)
    omega
/-- k texts are read. -/
def readT : Nat → St → St
  | 0, s => s
  | k + 1, s => readT k (textS s).2
theorem readT_last : ∀ (k : Nat) (s : St), readT (k + 1) s = (textS (readT k s)).2 := by
  intro k
  induction k with
  | zero => intro s; rfl
  | succ k ih => intro s; exact ih _
theorem readT_bad : ∀ (k : Nat) (l : List UInt8), readT k (l, true) = (l, true) := by
  intro k
  induction k with
  | zero => intro l; rfl
  | succ k ih => intro l; unfold readT; rw [textS_bad]; exact ih l
theorem readT_all : ∀ (ts : List Tx) (r : List UInt8), (∀ t ∈ ts, t.b.length ≤ 300) → readT ts.length (encT ts ++ r, false) = (r, false) := by
  intro ts
  induction ts with
  | nil => intro r _; rfl
  | cons t ts ih =>
    intro r h
    rw [encT_cons, List.append_assoc, List.append_assoc, List.length_cons]
    unfold readT
    rw [textS_enc _ _ (by have := h t (List.mem_cons_self ..); omega)]
    exact ih r fun x hx => h x (List.mem_cons_of_mem _ hx)
theorem readT_cut : ∀ (ts : List Tx) (c : Nat), (∀ t ∈ ts, t.b.length ≤ 300) → c < (encT ts).length → (readT ts.length ((encT ts).take c, false)).2 = true := by
  intro ts
  induction ts with
  | nil => intro c _ h; simp [encT] at h
  | cons t ts ih =>
    intro c h hc
    have h1 := h t (List.mem_cons_self ..)
    rw [List.length_cons]
    unfold readT
    by_cases h2 : c < (enc t.b.length).length + t.b.length
    · have e : (textS ((encT (t :: ts)).take c, false)).2.2 = true := by
        by_cases h3 : c < (enc t.b.length).length
        · have : (encT (t :: ts)).take c = (enc t.b.length).take c := by rw [encT_cons, List.take_append_of_le_length (by omega)]
          rw [this]
          unfold textS
          rw [dec_cut 9 0 _ _ h3]
        · have : (encT (t :: ts)).take c = enc t.b.length ++ (t.b ++ encT ts).take (c - (enc t.b.length).length) := by rw [encT_cons, List.take_append, List.take_of_length_le (by omega)]
          rw [this]
          unfold textS
          simp only [dec_enc9 t.b.length _ (by omega)]
          unfold takeS
          rw [if_pos]
          right
          right
          simp only [List.length_append, List.length_take]
          omega
      obtain ⟨⟨l, b⟩, hs⟩ : ∃ s, (textS ((encT (t :: ts)).take c, false)).2 = s := ⟨_, rfl⟩
      rw [hs] at e ⊢
      have e : b = true := e
      subst e
      rw [readT_bad]
    · have e : (encT (t :: ts)).take c = enc t.b.length ++ (t.b ++ (encT ts).take (c - ((enc t.b.length).length + t.b.length))) := by
        rw [encT_cons, List.take_append, List.take_of_length_le (by omega), List.take_append, List.take_of_length_le (by omega), Nat.sub_sub]
      rw [e, textS_enc _ _ (by omega)]
      refine ih _ (fun x hx => h x (List.mem_cons_of_mem _ hx)) ?_
      rw [encT_cons, List.length_append, List.length_append] at hc
      omega
end Go.Proofs.Ytpjfdhgkclnagaa
