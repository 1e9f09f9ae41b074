/- The plain parser: one code for each function of package parse, and for each of its loops; what it does with a list of tokens. No condition. -/
namespace Go.Proofs.YteggenldmkbhiaaDoor.Parse
abbrev Bs := List UInt8
/-- A token as a caller may hand it over. -/
structure PT where
  kind : Int
  place : Int
  text : Bs
  num : Nat
  uns : Bool
deriving DecidableEq
structure PN where
  kind : Int
  place : Int
  op : Int
  type : Int
  num : Nat
  name : Bs
  kids : List Nat
deriving DecidableEq
/-- Where the parser is, and the nodes that it has written. -/
structure PS where
  pos : Nat
  nodes : List PN
deriving DecidableEq
/-- What a function of the parser keeps to itself. -/
structure Loc where
  place : Int := 0
  name : Bs := []
  typ : Int := 0
  op : Int := 0
  num : Nat := 0
  ks : List Nat := []
inductive NT where
  | fileL | item | enum | enumL | entry | func | params | paramsL | param
  | decl | declL | vard | block | blockL | stmt | wordS | label | bracketed
  | ifS | decided (kind : Int) | doS | forS | forFirst | upTo (b : Bool) | leave (kind : Int) | returnS | gotoS | caseS | defaultS
  | expr | exprL | assign | cond | climb (least : Nat) | climbL (least : Nat) | unary | posts | postL | primary | num | named | args | argsL
inductive Code where
  | ret | fail
  | look (i : Nat) (f : Int → Bs → Code)
  | here (c : Code) | named (c : Code) | numd (c : Code) | typ (t : Int) (c : Code) | op (o : Int) (c : Code)
  | take (c : Code)
  | call (nt : NT) (pass : Bool) (c : Code)
  | tail (nt : NT)
  | add (kind : Int) (c : Code)
inductive Res where
  | out | bad (k : Nat) | ok (ks : List Nat) (s : PS)
deriving DecidableEq
def noTok : PT := ⟨0, 0, [], 0, false⟩
def tokAt (l : List PT) (k : Nat) : PT := l.getD k noTok
/-- The type that a token names. -/
def typeT (k : Int) (t : Bs) : Option Int :=
  if k = 3 then
    (if t = [118, 111, 105, 100] then some 0 else if t = [105, 110, 116] then some 1
     else if t = [117, 110, 115, 105, 103, 110, 101, 100] then some 2 else if t = [99, 104, 97, 114] then some 3 else none)
  else none
/-- The operators between two expressions: sign, its node's kind, its number, how strongly it binds. -/
def opL : List (Bs × Int × Int × Nat) :=
  [([124, 124], (8, 0, 1)), ([38, 38], (7, 0, 2)), ([124], (6, 9, 3)), ([94], (6, 10, 4)), ([38], (6, 8, 5)), ([61, 61], (6, 11, 6)), ([33, 61], (6, 12, 6)), ([60], (6, 13, 7)), ([60, 61], (6, 14, 7)),
   ([62], (6, 15, 7)), ([62, 61], (6, 16, 7)), ([60, 60], (6, 6, 8)), ([62, 62], (6, 7, 8)), ([43], (6, 1, 9)), ([45], (6, 2, 9)), ([42], (6, 3, 10)), ([47], (6, 4, 10)), ([37], (6, 5, 10))]
def opT (k : Int) (t : Bs) : Option (Int × Int × Nat) := if k = 4 then opL.lookup t else none
def assignT (k : Int) (t : Bs) : Option Int :=
  if k = 4 then
    ([([61], 0), ([43, 61], 1), ([45, 61], 2), ([42, 61], 3), ([47, 61], 4), ([37, 61], 5), ([60, 60, 61], 6), ([62, 62, 61], 7), ([38, 61], 8), ([94, 61], 10), ([124, 61], 9)] : List (Bs × Int)).lookup t
  else none
def prefixT (k : Int) (t : Bs) : Option (Int × Int) :=
  if k = 4 then
    ([([45], (5, 17)), ([43], (5, 20)), ([126], (5, 18)), ([33], (5, 19)), ([43, 43], (11, 1)), ([45, 45], (11, 2))] : List (Bs × Int × Int)).lookup t
  else none
/-- The statement that a word begins. -/
def wordT (t : Bs) : NT :=
  (([([105, 102], NT.ifS), ([119, 104, 105, 108, 101], .decided 24), ([115, 119, 105, 116, 99, 104], .decided 32), ([100, 111], .doS), ([102, 111, 114], .forS), ([98, 114, 101, 97, 107], .leave 27),
     ([99, 111, 110, 116, 105, 110, 117, 101], .leave 28), ([114, 101, 116, 117, 114, 110], .returnS), ([103, 111, 116, 111], .gotoS), ([99, 97, 115, 101], .caseS), ([100, 101, 102, 97, 117, 108, 116], .defaultS)] : List (Bs × NT)).lookup t).getD .decl
def sees (kind : Int) (text : Bs) (c d : Code) : Code := .look 0 fun k t => if k = kind ∧ t = text then c else d
def sg (text : Bs) (c : Code) : Code := sees 4 text (.take c) .fail
def wd (text : Bs) (c : Code) : Code := sees 3 text (.take c) .fail
def nameC (c : Code) : Code := .look 0 fun k _ => if k = 1 then .here (.named (.take c)) else .fail
def nameO (c : Code) : Code := .look 0 fun k _ => if k = 1 then .named (.take c) else .fail
def typeWord (c : Code) : Code := .look 0 fun k t => match typeT k t with | some ty => .here (.typ ty (.take c)) | none => .fail
/-- With what an expression between others ends: a closing bracket, a semicolon. -/
def stopOf (b : Bool) : Bs := if b then [41] else [59]
def code : NT → Code
  | .fileL => .look 0 fun k _ => if k = 0 then .add 40 .ret else .call .item false (.tail .fileL)
  | .item => sees 3 [101, 110, 117, 109] (.tail .enum) (.look 0 fun k t => if (typeT k t).isSome then
      .look 1 fun k1 _ => if k1 = 1 then .look 2 fun k2 t2 => if k2 = 4 ∧ t2 = [40] then .tail .func else .tail .decl else .tail .decl else .tail .decl)
  | .enum => .here (.take (sg [123] (.call .entry false (.tail .enumL))))
  | .enumL => sees 4 [44] (.take (sees 4 [125] (sg [125] (sg [59] (.add 43 .ret))) (.call .entry false (.tail .enumL)))) (sg [125] (sg [59] (.add 43 .ret)))
  | .entry => nameC (sees 4 [61] (.take (.call .cond false (.add 44 .ret))) (.add 44 .ret))
  | .func => typeWord (nameO (sg [40] (.call .params false (sg [41] (.call .block false (.add 41 .ret))))))
  | .params => sees 4 [41] .ret (sees 3 [118, 111, 105, 100] (.look 1 fun k t => if k = 4 ∧ t = [41] then .take .ret else .call .param false (.tail .paramsL)) (.call .param false (.tail .paramsL)))
  | .paramsL => sees 4 [44] (.take (.call .param false (.tail .paramsL))) .ret
  | .param => typeWord (nameO (sees 4 [91] (.take (sg [93] (.op 1 (.add 42 .ret)))) (.add 42 .ret)))
  | .decl => typeWord (.call .vard true (.tail .declL))
  | .declL => sees 4 [44] (.take (.call .vard true (.tail .declL))) (sg [59] (.typ 0 (.add 35 .ret)))
  | .vard => nameC (sees 4 [91]
      (.take (.call .cond false (sg [93] (.op 1 (sees 4 [61] (.take (.call .assign false (.add 36 .ret))) (.add 36 .ret))))))
      (sees 4 [61] (.take (.call .assign false (.add 36 .ret))) (.add 36 .ret)))
  | .block => .here (sg [123] (.tail .blockL))
  | .blockL => sees 4 [125] (.take (.add 22 .ret)) (.call .stmt false (.tail .blockL))
  | .stmt => .look 0 fun k t => if k = 3 then .tail .wordS else if k = 4 ∧ t = [59] then .here (.take (.add 20 .ret)) else if k = 4 ∧ t = [123] then .tail .block
      else if k = 1 then .look 1 fun k1 t1 => if k1 = 4 ∧ t1 = [58] then .tail .label else .here (.call .expr false (sg [59] (.add 21 .ret)))
      else .here (.call .expr false (sg [59] (.add 21 .ret)))
  | .wordS => .look 0 fun _ t => .tail (wordT t)
  | .label => nameC (sg [58] (.call .stmt false (.add 31 .ret)))
  | .bracketed => sg [40] (.call .expr false (sg [41] .ret))
  | .ifS => .here (.take (.call .bracketed false (.call .stmt false (sees 3 [101, 108, 115, 101] (.take (.call .stmt false (.add 23 .ret))) (.add 23 .ret)))))
  | .decided kind => .here (.take (.call .bracketed false (.call .stmt false (.add kind .ret))))
  | .doS => .here (.take (.call .stmt false (wd [119, 104, 105, 108, 101] (.call .bracketed false (sg [59] (.add 25 .ret))))))
  | .forS => .here (.take (sg [40] (.call .forFirst false (.call (.upTo false) false (.call (.upTo true) false (.call .stmt false (.add 26 .ret)))))))
  | .forFirst => .look 0 fun k t => if (typeT k t).isSome then .tail .decl else .tail (.upTo false)
  | .upTo b => sees 4 (stopOf b) (.here (.take (.add 20 .ret))) (.call .expr false (sg (stopOf b) .ret))
  | .leave kind => .here (.take (sg [59] (.add kind .ret)))
  | .returnS => .here (.take (sees 4 [59] (sg [59] (.add 29 .ret)) (.call .expr false (sg [59] (.add 29 .ret)))))
  | .gotoS => .here (.take (nameO (sg [59] (.add 30 .ret))))
  | .caseS => .here (.take (.call .cond false (sg [58] (.call .stmt false (.add 33 .ret)))))
  | .defaultS => .here (.take (sg [58] (.call .stmt false (.add 34 .ret))))
  | .expr => .call .assign false (.tail .exprL)
  | .exprL => sees 4 [44] (.here (.take (.call .assign false (.add 13 (.tail .exprL))))) .ret
  | .assign => .call .cond false (.look 0 fun k t => match assignT k t with | none => .ret | some o => .here (.op o (.take (.call .assign false (.add 10 .ret)))))
  | .cond => .call (.climb 1) false (sees 4 [63] (.here (.take (.call .expr false (sg [58] (.call .cond false (.add 9 .ret)))))) .ret)
  | .climb n => .call .unary false (.tail (.climbL n))
  | .climbL n => .look 0 fun k t => match opT k t with
      | none => .ret
      | some (kind, o, str) => if str < n then .ret else .here (.op o (.take (.call (.climb (str + 1)) false (.add kind (.tail (.climbL n))))))
  | .unary => .look 0 fun k t => match prefixT k t with | none => .tail .posts | some (kind, o) => .here (.op o (.take (.call .unary false (.add kind .ret))))
  | .posts => .call .primary false (.tail .postL)
  | .postL => sees 4 [43, 43] (.here (.op 1 (.take (.add 12 (.tail .postL))))) (sees 4 [45, 45] (.here (.op 2 (.take (.add 12 (.tail .postL))))) .ret)
  | .primary => .look 0 fun k _ => if k = 2 then .tail .num else if k = 1 then .tail .named else .tail .bracketed
  | .num => .here (.numd (.take (.add 1 .ret)))
  | .named => nameC (sees 4 [91] (.take (.call .expr false (sg [93] (.add 3 .ret)))) (sees 4 [40] (.take (.call .args false (.add 4 .ret))) (.add 2 .ret)))
  | .args => sees 4 [41] (.take .ret) (.call .assign false (.tail .argsL))
  | .argsL => sees 4 [44] (.take (.call .assign false (.tail .argsL))) (sg [41] .ret)
/-- What is done with what a call gave. -/
def Res.andThen (r : Res) (g : List Nat → PS → Res) : Res :=
  match r with
  | .out => .out
  | .bad k => .bad k
  | .ok ks s => g ks s
def exec (l : List PT) (rn : NT → Loc → PS → Res) : Code → Loc → PS → Res
  | .ret, x, s => .ok x.ks s
  | .fail, _, s => .bad s.pos
  | .look i f, x, s => exec l rn (f (tokAt l (s.pos + i)).kind (tokAt l (s.pos + i)).text) x s
  | .here c, x, s => exec l rn c { x with place := (tokAt l s.pos).place } s
  | .named c, x, s => exec l rn c { x with name := (tokAt l s.pos).text } s
  | .numd c, x, s => exec l rn c { x with num := (tokAt l s.pos).num, typ := if (tokAt l s.pos).uns then 2 else 1 } s
  | .typ t c, x, s => exec l rn c { x with typ := t } s
  | .op o c, x, s => exec l rn c { x with op := o } s
  | .take c, x, s => if (tokAt l s.pos).kind = 0 then .bad s.pos else exec l rn c x { s with pos := s.pos + 1 }
  | .call nt p c, x, s => (rn nt { typ := if p then x.typ else 0 } s).andThen fun ks s' => exec l rn c { x with ks := x.ks ++ ks } s'
  | .tail nt, x, s => rn nt x s
  | .add kind c, x, s => exec l rn c { x with ks := [s.nodes.length] } { s with nodes := s.nodes ++ [⟨kind, x.place, x.op, x.typ, x.num, x.name, x.ks⟩] }
def run (l : List PT) : Nat → NT → Loc → PS → Res
  | 0 => fun _ _ _ => .out
  | f + 1 => fun nt x s => exec l (run l f) (code nt) x s
/-- Is there one end, at the end? -/
def endsOnce (l : List PT) : Bool :=
  decide (0 < l.length ∧ l.length ≤ 4000) && (List.range l.length).all fun i => decide ((tokAt l i).kind = 0 ↔ i = l.length - 1)
def fuelOf (l : List PT) : Nat := 50 * (l.length + 1)
def runAll (l : List PT) : Res := run l (fuelOf l) .fileL {} ⟨0, []⟩
/-- The nodes, the place, the error. -/
def parseAll (l : List PT) : List PN × Int × Int :=
  if endsOnce l then
    (match runAll l with
     | .ok _ s => (s.nodes, 0, 0)
     | .bad k => ([], (tokAt l k).place, 20)
     | .out => ([], 0, 99))
  else ([], 0, 1)
theorem exPx : parseAll [⟨3, 0, [105, 110, 116], 0, false⟩, ⟨1, 4, [120], 0, false⟩, ⟨4, 5, [59], 0, false⟩, ⟨0, 6, [], 0, false⟩] =
    ([⟨36, 4, 0, 1, 0, [120], []⟩, ⟨35, 0, 0, 0, 0, [], [0]⟩, ⟨40, 0, 0, 0, 0, [], [1]⟩], 0, 0) := by decide +kernel
end Go.Proofs.YteggenldmkbhiaaDoor.Parse


namespace Go.Proofs.YteggenldmkbhiaaDoor.Parse

theorem andThen_ok {r : Res} {g : List Nat → PS → Res} {ks : List Nat} {s : PS} (h : r.andThen g = .ok ks s) : ∃ ks' s', r = .ok ks' s' ∧ g ks' s' = .ok ks s := by
  cases r with
  | out => simp [Res.andThen] at h
  | bad k => simp [Res.andThen] at h
  | ok ks' s' => exact ⟨ks', s', rfl, h⟩

/-! More fuel -/
theorem exec_mono {l : List PT} {rn rn' : NT → Loc → PS → Res} (h : ∀ nt x s, rn nt x s ≠ .out → rn' nt x s = rn nt x s) :
    ∀ (c : Code) (x : Loc) (s : PS), exec l rn c x s ≠ .out → exec l rn' c x s = exec l rn c x s := by
  intro c
  induction c with
  | ret => intros; rfl
  | fail => intros; rfl
  | look i f ih => intro x s hne; exact ih _ _ _ _ hne
  | here c ih => intro x s hne; exact ih _ _ hne
  | named c ih => intro x s hne; exact ih _ _ hne
  | numd c ih => intro x s hne; exact ih _ _ hne
  | typ t c ih => intro x s hne; exact ih _ _ hne
  | op o c ih => intro x s hne; exact ih _ _ hne
  | add k c ih => intro x s hne; exact ih _ _ hne
  | take c ih =>
    intro x s hne
    simp only [exec] at hne ⊢
    split
    · rfl
    · rename_i hk; rw [if_neg hk] at hne; exact ih _ _ hne
  | tail nt => intro x s hne; exact h _ _ _ hne
  | call nt p c ih =>
    intro x s hne
    simp only [exec] at hne ⊢
    have h0 : rn nt { typ := if p then x.typ else 0 } s ≠ .out := by intro e; rw [e] at hne; exact hne rfl
    rw [h _ _ _ h0]
    revert hne
    cases rn nt { typ := if p then x.typ else 0 } s with
    | out => intro hne; rfl
    | bad k => intro hne; rfl
    | ok ks s' => intro hne; exact ih _ _ hne
theorem run_mono1 {l : List PT} : ∀ (f : Nat) (nt : NT) (x : Loc) (s : PS), run l f nt x s ≠ .out → run l (f + 1) nt x s = run l f nt x s := by
  intro f
  induction f with
  | zero => intro nt x s h; exact absurd rfl h
  | succ f ih => intro nt x s h; exact exec_mono (fun nt x s h => ih nt x s h) (code nt) x s h
theorem run_mono {l : List PT} {f f' : Nat} (hf : f ≤ f') {nt : NT} {x : Loc} {s : PS} (h : run l f nt x s ≠ .out) : run l f' nt x s = run l f nt x s := by
  induction hf with
  | refl => rfl
  | step _ ih => rw [run_mono1 _ _ _ _ (by rw [ih]; exact h), ih]
theorem run_same {l : List PT} {f f' : Nat} {nt : NT} {x : Loc} {s : PS} (h : run l f nt x s ≠ .out) (h' : run l f' nt x s ≠ .out) : run l f nt x s = run l f' nt x s := by
  rcases Nat.le_total f f' with hl | hl
  · exact (run_mono hl h).symm
  · exact run_mono hl h'

/-! Where it goes on -/
def takes : NT → Bool
  | .fileL | .params | .paramsL | .exprL | .climbL _ | .postL => false
  | _ => true
def rank : NT → Nat
  | .primary => 1 | .posts => 2 | .unary => 3 | .climb _ => 4 | .cond => 5 | .assign => 6 | .expr => 7 | .args => 7
  | .upTo _ => 8 | .forFirst => 9 | .wordS => 1 | .stmt => 8 | .blockL => 9 | .params => 1 | .item => 1 | .fileL => 2
  | _ => 0
def Dec (r : Nat) (t : Bool) : Bool → Code → Prop
  | p, .ret => t = true → p = true
  | _, .fail => True
  | p, .look _ f => ∀ k x, Dec r t p (f k x)
  | p, .here c => Dec r t p c
  | p, .named c => Dec r t p c
  | p, .numd c => Dec r t p c
  | p, .typ _ c => Dec r t p c
  | p, .op _ c => Dec r t p c
  | _, .take c => Dec r t true c
  | p, .call nt _ c => (p = true ∨ rank nt < r) ∧ Dec r t (p || takes nt) c
  | p, .tail nt => (p = true ∨ rank nt < r) ∧ (t = true → (p || takes nt) = true)
  | p, .add _ c => Dec r t p c
theorem lookup_mem {α : Type} : ∀ (t : Bs) (L : List (Bs × α)) (n : α), L.lookup t = some n → (t, n) ∈ L := by
  intro t L
  induction L with
  | nil => intro n h; simp at h
  | cons p L ih =>
    intro n h
    obtain ⟨a, b⟩ := p
    rw [List.lookup_cons] at h
    split at h
    · rename_i heq
      have h1 : t = a := by simpa using heq
      have h2 : b = n := by simpa using h
      subst h1 h2
      exact List.mem_cons_self
    · exact List.mem_cons_of_mem _ (ih n h)
theorem wordT_cases (P : NT → Prop) (t : Bs) (h1 : P .ifS) (h2 : P (.decided 24)) (h3 : P (.decided 32)) (h4 : P .doS) (h5 : P .forS) (h6 : P (.leave 27)) (h7 : P (.leave 28)) (h8 : P .returnS)
    (h9 : P .gotoS) (h10 : P .caseS) (h11 : P .defaultS) (h12 : P .decl) : P (wordT t) := by
  unfold wordT
  generalize hr : List.lookup t _ = r
  cases r with
  | none => exact h12
  | some nt =>
    have := lookup_mem _ _ _ hr
    simp only [List.mem_cons, Prod.mk.injEq, List.not_mem_nil, or_false] at this
    rcases this with ⟨_, rfl⟩ | ⟨_, rfl⟩ | ⟨_, rfl⟩ | ⟨_, rfl⟩ | ⟨_, rfl⟩ | ⟨_, rfl⟩ | ⟨_, rfl⟩ | ⟨_, rfl⟩ | ⟨_, rfl⟩ | ⟨_, rfl⟩ | ⟨_, rfl⟩ <;> assumption
theorem dec_code (nt : NT) : Dec (rank nt) (takes nt) false (code nt) := by
  cases nt <;> simp only [code, sees, sg, wd, nameC, nameO, typeWord] <;> (try simp only [Dec]) <;> (try intro k x)
  all_goals (repeat' split)
  all_goals (simp [Dec, rank, takes])
  all_goals (try (refine wordT_cases (fun n => rank n = 0 ∧ takes n = true) _ ?_ ?_ ?_ ?_ ?_ ?_ ?_ ?_ ?_ ?_ ?_ ?_ <;> exact ⟨rfl, rfl⟩))
  all_goals (intros)
  all_goals (repeat' split)
  all_goals (simp [Dec, rank, takes])
  all_goals (intros)
  all_goals (repeat' split)
  all_goals (simp [Dec, rank, takes])
  all_goals (intros)
  all_goals (repeat' split)
  all_goals (simp [Dec, rank, takes])
  all_goals (intros)
  all_goals (repeat' split)
  all_goals (simp [Dec, rank, takes])
  all_goals (intros)
  all_goals (repeat' split)
  all_goals (simp [Dec, rank, takes])
  all_goals (intros)
  all_goals (repeat' split)
  all_goals (simp [Dec, rank, takes])
end Go.Proofs.YteggenldmkbhiaaDoor.Parse
namespace Go.Proofs.YteggenldmkbhiaaDoor.Parse

/-! Places -/
/-- The last token is an end. -/
def LastEnd (l : List PT) : Prop := 0 < l.length ∧ (tokAt l (l.length - 1)).kind = 0
theorem next_lt {l : List PT} (h : LastEnd l) {k : Nat} (hk : k < l.length) (ht : (tokAt l k).kind ≠ 0) : k + 1 < l.length := by
  rcases Nat.lt_or_ge (k + 1) l.length with h1 | h1
  · exact h1
  · have : k = l.length - 1 := by omega
    rw [this] at ht; exact absurd h.2 ht
theorem exec_pos {l : List PT} (hl : LastEnd l) {rn : NT → Loc → PS → Res} {r : Nat} {t : Bool}
    (h : ∀ nt x s ks s', rn nt x s = .ok ks s' → s.pos ≤ s'.pos ∧ (takes nt = true → s.pos < s'.pos) ∧ (s.pos < l.length → s'.pos < l.length)) :
    ∀ (c : Code) (p : Bool) (x : Loc) (s s0 : PS) (ks : List Nat) (s' : PS), Dec r t p c → s0.pos ≤ s.pos → (p = true → s0.pos < s.pos) → exec l rn c x s = .ok ks s' →
      s0.pos ≤ s'.pos ∧ (t = true → s0.pos < s'.pos) ∧ (s.pos < l.length → s'.pos < l.length) := by
  intro c
  induction c with
  | ret =>
    intro p x s s0 ks s' hd h0 hp he
    simp only [exec, Res.ok.injEq] at he
    obtain ⟨_, rfl⟩ := he
    exact ⟨h0, fun ht => hp (hd ht), id⟩
  | fail => intro p x s s0 ks s' hd h0 hp he; simp [exec] at he
  | look i f ih => intro p x s s0 ks s' hd h0 hp he; exact ih _ _ p _ _ _ _ _ (hd _ _) h0 hp he
  | here c ih => intro p x s s0 ks s' hd h0 hp he; exact ih p _ _ _ _ _ hd h0 hp he
  | named c ih => intro p x s s0 ks s' hd h0 hp he; exact ih p _ _ _ _ _ hd h0 hp he
  | numd c ih => intro p x s s0 ks s' hd h0 hp he; exact ih p _ _ _ _ _ hd h0 hp he
  | typ t c ih => intro p x s s0 ks s' hd h0 hp he; exact ih p _ _ _ _ _ hd h0 hp he
  | op o c ih => intro p x s s0 ks s' hd h0 hp he; exact ih p _ _ _ _ _ hd h0 hp he
  | add k c ih =>
    intro p x s s0 ks s' hd h0 hp he
    simp only [exec] at he
    have := ih p _ _ s0 ks s' hd (by exact h0) (by exact hp) he
    exact this
  | take c ih =>
    intro p x s s0 ks s' hd h0 hp he
    simp only [exec] at he
    split at he
    · simp at he
    · rename_i hk
      have := ih true x { s with pos := s.pos + 1 } s0 ks s' hd (by simp; omega) (fun _ => by simp; omega) he
      exact ⟨this.1, this.2.1, fun hs => this.2.2 (next_lt hl hs hk)⟩
  | tail nt =>
    intro p x s s0 ks s' hd h0 hp he
    have := h nt x s ks s' he
    refine ⟨by omega, fun ht => ?_, this.2.2⟩
    have h1 := hd.2 ht
    simp only [Bool.or_eq_true] at h1
    rcases h1 with h1 | h1
    · have := hp h1; omega
    · have := this.2.1 h1; omega
  | call nt q c ih =>
    intro p x s s0 ks s' hd h0 hp he
    obtain ⟨ks1, s1, h1, h2⟩ := andThen_ok he
    have h3 := h _ _ _ _ _ h1
    have := ih _ _ s1 s0 ks s' hd.2 (by omega) (fun hq => by
      simp only [Bool.or_eq_true] at hq
      rcases hq with hq | hq
      · have := hp hq; omega
      · have := h3.2.1 hq; omega) h2
    exact ⟨this.1, this.2.1, fun hs => this.2.2 (h3.2.2 hs)⟩
theorem run_pos {l : List PT} (hl : LastEnd l) : ∀ (f : Nat) (nt : NT) (x : Loc) (s : PS) (ks : List Nat) (s' : PS), run l f nt x s = .ok ks s' →
    s.pos ≤ s'.pos ∧ (takes nt = true → s.pos < s'.pos) ∧ (s.pos < l.length → s'.pos < l.length) := by
  intro f
  induction f with
  | zero => intro nt x s ks s' h; simp [run] at h
  | succ f ih => intro nt x s ks s' h; exact exec_pos hl ih (code nt) false x s s ks s' (dec_code nt) (Nat.le_refl _) (fun h => by cases h) h
theorem exec_total {l : List PT} (hl : LastEnd l) {rn : NT → Loc → PS → Res} {r b : Nat} {t : Bool} (hr : r < 10)
    (hpos : ∀ nt x s ks s', rn nt x s = .ok ks s' → s.pos ≤ s'.pos ∧ (takes nt = true → s.pos < s'.pos) ∧ (s.pos < l.length → s'.pos < l.length))
    (h : ∀ nt x s, s.pos < l.length → (l.length - s.pos) * 10 + rank nt < b → rn nt x s ≠ .out) :
    ∀ (c : Code) (p : Bool) (x : Loc) (s s0 : PS), Dec r t p c → s0.pos ≤ s.pos → (p = true → s0.pos < s.pos) → s.pos < l.length → (l.length - s0.pos) * 10 + r < b + 1 → exec l rn c x s ≠ .out := by
  intro c
  have hrk : ∀ nt, rank nt < 10 := by intro nt; cases nt <;> simp [rank]
  induction c with
  | ret => intro p x s s0 hd h0 hp hs hb; simp [exec]
  | fail => intro p x s s0 hd h0 hp hs hb; simp [exec]
  | look i f ih => intro p x s s0 hd h0 hp hs hb; exact ih _ _ p _ _ _ (hd _ _) h0 hp hs hb
  | here c ih => intro p x s s0 hd h0 hp hs hb; exact ih p _ _ _ hd h0 hp hs hb
  | named c ih => intro p x s s0 hd h0 hp hs hb; exact ih p _ _ _ hd h0 hp hs hb
  | numd c ih => intro p x s s0 hd h0 hp hs hb; exact ih p _ _ _ hd h0 hp hs hb
  | typ t c ih => intro p x s s0 hd h0 hp hs hb; exact ih p _ _ _ hd h0 hp hs hb
  | op o c ih => intro p x s s0 hd h0 hp hs hb; exact ih p _ _ _ hd h0 hp hs hb
  | add k c ih => intro p x s s0 hd h0 hp hs hb; exact ih p _ ⟨s.pos, _⟩ _ hd h0 hp hs hb
  | take c ih =>
    intro p x s s0 hd h0 hp hs hb
    simp only [exec]
    split
    · simp
    · rename_i hk
      exact ih true x { s with pos := s.pos + 1 } s0 hd (by simp; omega) (fun _ => by simp; omega) (next_lt hl hs hk) hb
  | tail nt =>
    intro p x s s0 hd h0 hp hs hb
    refine h nt x s hs ?_
    have h1 := hrk nt
    rcases hd.1 with h2 | h2
    · have := hp h2; omega
    · omega
  | call nt q c ih =>
    intro p x s s0 hd h0 hp hs hb
    simp only [exec]
    have h1 := hrk nt
    have h3 : rn nt { typ := if q then x.typ else 0 } s ≠ .out := by
      refine h _ _ _ hs ?_
      rcases hd.1 with h2 | h2
      · have := hp h2; omega
      · omega
    revert h3
    cases hres : rn nt { typ := if q then x.typ else 0 } s with
    | out => intro h3; exact absurd rfl h3
    | bad k => intro _; simp [Res.andThen]
    | ok ks1 s1 =>
      intro _
      have h4 := hpos _ _ _ _ _ hres
      exact ih _ _ s1 s0 hd.2 (by omega) (fun hq => by
        simp only [Bool.or_eq_true] at hq
        rcases hq with hq | hq
        · have := hp hq; omega
        · have := h4.2.1 hq; omega) (h4.2.2 hs) hb
theorem run_total {l : List PT} (hl : LastEnd l) : ∀ (f : Nat) (nt : NT) (x : Loc) (s : PS), s.pos < l.length → (l.length - s.pos) * 10 + rank nt < f → run l f nt x s ≠ .out := by
  intro f
  induction f with
  | zero => intro nt x s hs h; omega
  | succ f ih =>
    intro nt x s hs h
    exact exec_total hl (by cases nt <;> simp [rank]) (run_pos hl f) ih (code nt) false x s s (dec_code nt) (Nat.le_refl _) (fun h => by cases h) hs h
theorem endsOnce_last {l : List PT} (h : endsOnce l = true) : LastEnd l := by
  simp only [endsOnce, Bool.and_eq_true, decide_eq_true_eq, List.all_eq_true, List.mem_range] at h
  exact ⟨h.1.1, (h.2 (l.length - 1) (by omega)).2 rfl⟩
theorem endsOnce_iff {l : List PT} (h : endsOnce l = true) {k : Nat} (hk : k < l.length) : (tokAt l k).kind = 0 ↔ k = l.length - 1 := by
  simp only [endsOnce, Bool.and_eq_true, decide_eq_true_eq, List.all_eq_true, List.mem_range] at h
  exact h.2 k hk
theorem runAll_total {l : List PT} (h : endsOnce l = true) : runAll l ≠ .out := by
  have hl := endsOnce_last h
  refine run_total hl _ _ _ _ hl.1 ?_
  simp only [fuelOf, rank]; omega

/-! The trees -/
/-- Each node is the kid of just one that stands behind it, but for those of R. -/
structure Forest (R : List Nat) (ns : List PN) : Prop where
  perm : List.Perm (ns.flatMap (·.kids) ++ R) (List.range ns.length)
  kids : ∀ (i : Nat) (n : PN), ns[i]? = some n → List.Pairwise (· < ·) n.kids ∧ ∀ k ∈ n.kids, k < i
  roots : List.Pairwise (· < ·) R
theorem Forest.add {R c : List Nat} {ns : List PN} (h : Forest (R ++ c) ns) {n : PN} (hn : n.kids = c) : Forest (R ++ [ns.length]) (ns ++ [n]) := by
  have hlt : ∀ k ∈ R ++ c, k < ns.length := fun k hk => List.mem_range.1 (h.perm.mem_iff.1 (List.mem_append_right _ hk))
  have hp := List.pairwise_append.1 h.roots
  refine ⟨?_, ?_, ?_⟩
  · rw [List.flatMap_append, List.length_append, List.length_singleton, List.range_succ]
    simp only [List.flatMap_cons, List.flatMap_nil, List.append_nil, hn]
    have h1 : List.Perm (ns.flatMap (·.kids) ++ c ++ (R ++ [ns.length])) ((ns.flatMap (·.kids) ++ (R ++ c)) ++ [ns.length]) := by
      rw [← List.append_assoc, ← List.append_assoc]
      refine List.Perm.append_right _ ?_
      rw [List.append_assoc, List.append_assoc]
      exact List.Perm.append_left _ List.perm_append_comm
    exact h1.trans (List.Perm.append_right _ h.perm)
  · intro i m hm
    rcases Nat.lt_or_ge i ns.length with hi | hi
    · rw [List.getElem?_append_left hi] at hm; exact h.kids i m hm
    · rw [List.getElem?_append_right hi] at hm
      rcases Nat.eq_zero_or_pos (i - ns.length) with h0 | h0
      · rw [h0] at hm
        simp only [List.getElem?_cons_zero, Option.some.injEq] at hm
        subst hm
        rw [hn]
        exact ⟨hp.2.1, fun k hk => by have := hlt k (List.mem_append_right _ hk); omega⟩
      · rw [List.getElem?_eq_none (by simp; omega)] at hm; cases hm
  · rw [List.pairwise_append]
    exact ⟨hp.1, List.pairwise_singleton _ _, fun a ha b hb => by simp at hb; subst hb; exact hlt a (List.mem_append_left _ ha)⟩
theorem exec_forest {l : List PT} {rn : NT → Loc → PS → Res}
    (h : ∀ nt x s ks s' R, rn nt x s = .ok ks s' → Forest (R ++ x.ks) s.nodes → Forest (R ++ ks) s'.nodes) :
    ∀ (c : Code) (x : Loc) (s : PS) (ks : List Nat) (s' : PS) (R : List Nat), exec l rn c x s = .ok ks s' → Forest (R ++ x.ks) s.nodes → Forest (R ++ ks) s'.nodes := by
  intro c
  induction c with
  | ret => intro x s ks s' R he hf; simp only [exec, Res.ok.injEq] at he; obtain ⟨rfl, rfl⟩ := he; exact hf
  | fail => intro x s ks s' R he hf; simp [exec] at he
  | look i f ih => intro x s ks s' R he hf; exact ih _ _ _ _ _ _ _ he hf
  | here c ih => intro x s ks s' R he hf; exact ih _ _ _ _ _ he hf
  | named c ih => intro x s ks s' R he hf; exact ih _ _ _ _ _ he hf
  | numd c ih => intro x s ks s' R he hf; exact ih _ _ _ _ _ he hf
  | typ t c ih => intro x s ks s' R he hf; exact ih _ _ _ _ _ he hf
  | op o c ih => intro x s ks s' R he hf; exact ih _ _ _ _ _ he hf
  | add k c ih => intro x s ks s' R he hf; exact ih _ _ _ _ _ he (hf.add rfl)
  | take c ih =>
    intro x s ks s' R he hf
    simp only [exec] at he
    split at he
    · simp at he
    · exact ih _ _ _ _ _ he hf
  | tail nt => intro x s ks s' R he hf; exact h _ _ _ _ _ _ he hf
  | call nt q c ih =>
    intro x s ks s' R he hf
    obtain ⟨ks1, s1, h1, h2⟩ := andThen_ok he
    have h3 := h _ _ _ _ _ (R ++ x.ks) h1 (by simpa using hf)
    exact ih _ s1 _ _ _ h2 (by simpa using h3)
theorem run_forest {l : List PT} : ∀ (f : Nat) (nt : NT) (x : Loc) (s : PS) (ks : List Nat) (s' : PS) (R : List Nat), run l f nt x s = .ok ks s' → Forest (R ++ x.ks) s.nodes → Forest (R ++ ks) s'.nodes := by
  intro f
  induction f with
  | zero => intro nt x s ks s' R h; simp [run] at h
  | succ f ih => intro nt x s ks s' R h; exact exec_forest ih (code nt) x s ks s' R h

/-! How many nodes: a code makes none without a token of its own -/
def spare : NT → Nat
  | .fileL => 1
  | _ => 0
/-- m: how many tokens were taken for which no node was made yet. -/
def Cnt (e : Nat) : Nat → Code → Prop
  | _, .ret => True
  | _, .fail => True
  | m, .look _ f => ∀ k x, Cnt e m (f k x)
  | m, .here c => Cnt e m c
  | m, .named c => Cnt e m c
  | m, .numd c => Cnt e m c
  | m, .typ _ c => Cnt e m c
  | m, .op _ c => Cnt e m c
  | m, .take c => Cnt e (m + 1) c
  | m, .call nt _ c => spare nt = 0 ∧ Cnt e m c
  | _, .tail nt => spare nt ≤ e
  | m, .add _ c => (0 < m ∨ (0 < e ∧ c = .ret)) ∧ Cnt e (m - 1) c
theorem cnt_code (nt : NT) : Cnt (spare nt) 0 (code nt) := by
  cases nt <;> simp only [code, sees, sg, wd, nameC, nameO, typeWord] <;> (try simp only [Cnt]) <;> (try intro k x)
  all_goals (repeat' split)
  all_goals (simp [Cnt, spare])
  all_goals (try (refine wordT_cases (fun n => spare n = 0) _ ?_ ?_ ?_ ?_ ?_ ?_ ?_ ?_ ?_ ?_ ?_ ?_ <;> rfl))
  all_goals (intros)
  all_goals (repeat' split)
  all_goals (simp [Cnt, spare])
  all_goals (intros)
  all_goals (repeat' split)
  all_goals (simp [Cnt, spare])
  all_goals (intros)
  all_goals (repeat' split)
  all_goals (simp [Cnt, spare])
  all_goals (intros)
  all_goals (repeat' split)
  all_goals (simp [Cnt, spare])
  all_goals (intros)
  all_goals (repeat' split)
  all_goals (simp [Cnt, spare])
theorem exec_count {l : List PT} {rn : NT → Loc → PS → Res} {e : Nat} (h : ∀ nt x s ks s', rn nt x s = .ok ks s' → s'.nodes.length + s.pos ≤ s.nodes.length + s'.pos + spare nt) :
    ∀ (c : Code) (m : Nat) (x : Loc) (s : PS) (ks : List Nat) (s' : PS), Cnt e m c → exec l rn c x s = .ok ks s' → s'.nodes.length + s.pos ≤ s.nodes.length + s'.pos + m + e := by
  intro c
  induction c with
  | ret => intro m x s ks s' hd he; simp only [exec, Res.ok.injEq] at he; obtain ⟨rfl, rfl⟩ := he; omega
  | fail => intro m x s ks s' hd he; simp [exec] at he
  | look i f ih => intro m x s ks s' hd he; exact ih _ _ _ _ _ _ _ (hd _ _) he
  | here c ih => intro m x s ks s' hd he; exact ih _ _ _ _ _ hd he
  | named c ih => intro m x s ks s' hd he; exact ih _ _ _ _ _ hd he
  | numd c ih => intro m x s ks s' hd he; exact ih _ _ _ _ _ hd he
  | typ t c ih => intro m x s ks s' hd he; exact ih _ _ _ _ _ hd he
  | op o c ih => intro m x s ks s' hd he; exact ih _ _ _ _ _ hd he
  | add k c ih =>
    intro m x s ks s' hd he
    rcases hd.1 with h0 | ⟨h0, rfl⟩
    · have := ih _ _ _ _ _ hd.2 he
      simp at this; omega
    · simp only [exec, Res.ok.injEq] at he
      obtain ⟨rfl, rfl⟩ := he
      simp; omega
  | take c ih =>
    intro m x s ks s' hd he
    simp only [exec] at he
    split at he
    · simp at he
    · have := ih _ _ _ _ _ hd he
      simp at this; omega
  | tail nt => intro m x s ks s' hd he; have := h _ _ _ _ _ he; have h1 : spare nt ≤ e := hd; omega
  | call nt q c ih =>
    intro m x s ks s' hd he
    obtain ⟨ks1, s1, h1, h2⟩ := andThen_ok he
    have h3 := h _ _ _ _ _ h1
    have h4 := ih _ _ _ _ _ hd.2 h2
    rw [hd.1] at h3
    omega
theorem run_count {l : List PT} : ∀ (f : Nat) (nt : NT) (x : Loc) (s : PS) (ks : List Nat) (s' : PS), run l f nt x s = .ok ks s' → s'.nodes.length + s.pos ≤ s.nodes.length + s'.pos + spare nt := by
  intro f
  induction f with
  | zero => intro nt x s ks s' h; simp [run] at h
  | succ f ih => intro nt x s ks s' h; have := exec_count ih (code nt) 0 x s ks s' (cnt_code nt) h; omega

/-! How many numbers a code hands back -/
theorem exec_len {l : List PT} {rn : NT → Loc → PS → Res} (h : ∀ nt x s ks s', rn nt x s = .ok ks s' → ks.length + s.nodes.length ≤ x.ks.length + s'.nodes.length) :
    ∀ (c : Code) (x : Loc) (s : PS) (ks : List Nat) (s' : PS), exec l rn c x s = .ok ks s' → ks.length + s.nodes.length ≤ x.ks.length + s'.nodes.length := by
  intro c
  induction c with
  | ret => intro x s ks s' he; simp only [exec, Res.ok.injEq] at he; obtain ⟨rfl, rfl⟩ := he; exact Nat.le_refl _
  | fail => intro x s ks s' he; simp [exec] at he
  | look i f ih => intro x s ks s' he; exact ih _ _ _ _ _ _ he
  | here c ih =>
    intro x s ks s' he
    simp only [exec] at he
    have := ih _ _ _ _ he
    exact this
  | named c ih =>
    intro x s ks s' he
    simp only [exec] at he
    have := ih _ _ _ _ he
    exact this
  | numd c ih =>
    intro x s ks s' he
    simp only [exec] at he
    have := ih _ _ _ _ he
    exact this
  | typ t c ih =>
    intro x s ks s' he
    simp only [exec] at he
    have := ih _ _ _ _ he
    exact this
  | op o c ih =>
    intro x s ks s' he
    simp only [exec] at he
    have := ih _ _ _ _ he
    exact this
  | add k c ih =>
    intro x s ks s' he
    simp only [exec] at he
    have := ih _ _ _ _ he
    simp at this; omega
  | take c ih =>
    intro x s ks s' he
    simp only [exec] at he
    split at he
    · cases he
    · have := ih _ _ _ _ he
      exact this
  | tail nt => intro x s ks s' he; exact h _ _ _ _ _ he
  | call nt q c ih =>
    intro x s ks s' he
    obtain ⟨ks1, s1, h1, h2⟩ := andThen_ok he
    have h3 := h _ _ _ _ _ h1
    have h4 := ih _ _ _ _ h2
    simp at h3 h4
    omega
theorem run_len {l : List PT} : ∀ (f : Nat) (nt : NT) (x : Loc) (s : PS) (ks : List Nat) (s' : PS), run l f nt x s = .ok ks s' → ks.length + s.nodes.length ≤ x.ks.length + s'.nodes.length := by
  intro f
  induction f with
  | zero => intro nt x s ks s' h; simp [run] at h
  | succ f ih => intro nt x s ks s' h; exact exec_len ih (code nt) x s ks s' h
end Go.Proofs.YteggenldmkbhiaaDoor.Parse
namespace Go.Proofs.YteggenldmkbhiaaDoor.Parse

/-- l' is l up to k, and has an end there. -/
structure CutOf (l l' : List PT) (k : Nat) : Prop where
  same : ∀ j, j < k → tokAt l' j = tokAt l j
  stop : (tokAt l' k).kind = 0
def Stuck (k : Nat) (r : Res) : Prop := r = .out ∨ r = .bad k ∨ ∃ ks s, r = .ok ks s ∧ s.pos = k
theorem Stuck.then {k : Nat} {r : Res} {g : List Nat → PS → Res} (h : Stuck k r) (hg : ∀ ks s, s.pos = k → Stuck k (g ks s)) : Stuck k (r.andThen g) := by
  rcases h with rfl | rfl | ⟨ks, s, rfl, hs⟩
  · exact .inl rfl
  · exact .inr (.inl rfl)
  · exact hg ks s hs
theorem exec_stuck {l' : List PT} {k : Nat} (hk : (tokAt l' k).kind = 0) {rn : NT → Loc → PS → Res} (h : ∀ nt x s, s.pos = k → Stuck k (rn nt x s)) :
    ∀ (c : Code) (x : Loc) (s : PS), s.pos = k → Stuck k (exec l' rn c x s) := by
  intro c
  induction c with
  | ret => intro x s hs; exact .inr (.inr ⟨_, _, rfl, hs⟩)
  | fail => intro x s hs; exact .inr (.inl (by rw [exec, hs]))
  | look i f ih => intro x s hs; exact ih _ _ _ _ hs
  | here c ih => intro x s hs; exact ih _ _ hs
  | named c ih => intro x s hs; exact ih _ _ hs
  | numd c ih => intro x s hs; exact ih _ _ hs
  | typ t c ih => intro x s hs; exact ih _ _ hs
  | op o c ih => intro x s hs; exact ih _ _ hs
  | add q c ih => intro x s hs; exact ih _ _ hs
  | take c ih => intro x s hs; exact .inr (.inl (by rw [exec, hs, if_pos hk]))
  | tail nt => intro x s hs; exact h _ _ _ hs
  | call nt q c ih => intro x s hs; exact (h _ _ _ hs).then fun ks s' hs' => ih _ _ hs'
theorem run_stuck {l' : List PT} {k : Nat} (hk : (tokAt l' k).kind = 0) : ∀ (f : Nat) (nt : NT) (x : Loc) (s : PS), s.pos = k → Stuck k (run l' f nt x s) := by
  intro f
  induction f with
  | zero => intro nt x s h; exact .inl rfl
  | succ f ih => intro nt x s h; exact exec_stuck hk ih (code nt) x s h

def Cutd (k : Nat) (r r' : Res) : Prop := Stuck k r' ∨ (r' = r ∧ ∀ ks s, r = .ok ks s → s.pos < k)
/-- No code looks further than at the next token. -/
def Flat : Code → Prop
  | .ret => True
  | .fail => True
  | .look i f => i = 0 ∧ ∀ k x, Flat (f k x)
  | .here c => Flat c
  | .named c => Flat c
  | .numd c => Flat c
  | .typ _ c => Flat c
  | .op _ c => Flat c
  | .take c => Flat c
  | .call _ _ c => Flat c
  | .tail _ => True
  | .add _ c => Flat c
theorem exec_cut {l l' : List PT} {k : Nat} (hc : CutOf l l' k) {rn rn' : NT → Loc → PS → Res} (hst : ∀ nt x s, s.pos = k → Stuck k (rn' nt x s))
    (h : ∀ nt x s, s.pos < k → Cutd k (rn nt x s) (rn' nt x s)) :
    ∀ (c : Code) (x : Loc) (s : PS), Flat c → s.pos < k → Cutd k (exec l rn c x s) (exec l' rn' c x s) := by
  intro c
  induction c with
  | ret =>
    intro x s hf hs
    refine .inr ⟨rfl, fun ks s' h => ?_⟩
    simp only [exec, Res.ok.injEq] at h
    rw [← h.2]; exact hs
  | fail => intro x s hf hs; exact .inr ⟨rfl, fun ks s' h => by simp [exec] at h⟩
  | look i f ih =>
    intro x s hf hs
    obtain ⟨rfl, hf⟩ := hf
    simp only [exec, Nat.add_zero, hc.same s.pos hs]
    exact ih _ _ _ _ (hf _ _) hs
  | here c ih => intro x s hf hs; simp only [exec, hc.same s.pos hs]; exact ih _ _ hf hs
  | named c ih => intro x s hf hs; simp only [exec, hc.same s.pos hs]; exact ih _ _ hf hs
  | numd c ih => intro x s hf hs; simp only [exec, hc.same s.pos hs]; exact ih _ _ hf hs
  | typ t c ih => intro x s hf hs; exact ih _ _ hf hs
  | op o c ih => intro x s hf hs; exact ih _ _ hf hs
  | add q c ih => intro x s hf hs; exact ih _ _ hf hs
  | take c ih =>
    intro x s hf hs
    simp only [exec, hc.same s.pos hs]
    split
    · exact .inr ⟨rfl, fun ks s' h => by cases h⟩
    · rcases Nat.lt_or_ge (s.pos + 1) k with h1 | h1
      · exact ih _ _ hf h1
      · exact .inl (exec_stuck hc.stop hst _ _ _ (by simp; omega))
  | tail nt => intro x s hf hs; exact h _ _ _ hs
  | call nt q c ih =>
    intro x s hf hs
    simp only [exec]
    rcases h nt { typ := if q then x.typ else 0 } s hs with h1 | ⟨h1, h2⟩
    · exact .inl (h1.then fun ks s' hs' => exec_stuck hc.stop hst _ _ _ hs')
    · rw [h1]
      cases hr : rn nt { typ := if q then x.typ else 0 } s with
      | out => exact .inr ⟨rfl, fun ks s' h => by cases h⟩
      | bad j => exact .inr ⟨rfl, fun ks s' h => by cases h⟩
      | ok ks s' => exact ih _ _ hf (h2 _ _ hr)

/-! The three codes that look further -/
theorem run_succ (l : List PT) (f : Nat) (nt : NT) (x : Loc) (s : PS) : run l (f + 1) nt x s = exec l (run l f) (code nt) x s := rfl
theorem run_bad {l : List PT} {f n : Nat} {nt : NT} {x : Loc} {s : PS} {k : Nat} (h : run l (f + n) nt x s = .bad k) : Stuck k (run l f nt x s) := by
  by_cases h0 : run l f nt x s = .out
  · exact .inl h0
  · rw [← run_mono (Nat.le_add_right f n) h0, h]; exact .inr (.inl rfl)
theorem typeT_kind {k : Int} {t : Bs} {n : Int} (h : typeT k t = some n) : k = 3 := by
  unfold typeT at h
  split at h
  · assumption
  · cases h
theorem decl_cut1 {l' : List PT} {s : PS} (ht : (typeT (tokAt l' s.pos).kind (tokAt l' s.pos).text).isSome = true) (hk : (tokAt l' (s.pos + 1)).kind = 0) (f : Nat) (x : Loc) :
    Stuck (s.pos + 1) (run l' f .decl x s) := by
  obtain ⟨n, hn⟩ := Option.isSome_iff_exists.1 ht
  have h3 := typeT_kind hn
  rw [h3] at hn
  refine run_bad (n := 3) ?_
  simp [run_succ, code, typeWord, exec, hn, h3, nameC, hk, Res.andThen]
theorem decl_cut2 {l' : List PT} {s : PS} (ht : (typeT (tokAt l' s.pos).kind (tokAt l' s.pos).text).isSome = true) (h1 : (tokAt l' (s.pos + 1)).kind = 1) (hk : (tokAt l' (s.pos + 2)).kind = 0) (f : Nat) (x : Loc) :
    Stuck (s.pos + 2) (run l' f .decl x s) := by
  obtain ⟨n, hn⟩ := Option.isSome_iff_exists.1 ht
  have h3 := typeT_kind hn
  rw [h3] at hn
  refine run_bad (n := 5) ?_
  simp [run_succ, code, typeWord, exec, hn, h3, nameC, h1, hk, Res.andThen, sees, sg]
theorem param_cut {l' : List PT} {s : PS} (h3 : (tokAt l' s.pos).kind = 3) (ht : (tokAt l' s.pos).text = [118, 111, 105, 100]) (hk : (tokAt l' (s.pos + 1)).kind = 0) (f : Nat) (x : Loc) :
    Stuck (s.pos + 1) (run l' f .param x s) := by
  refine run_bad (n := 3) ?_
  simp [run_succ, code, typeWord, exec, h3, ht, typeT, nameO, hk]
theorem expr_cut {l' : List PT} {s : PS} (h1 : (tokAt l' s.pos).kind = 1) (hk : (tokAt l' (s.pos + 1)).kind = 0) (f : Nat) (x : Loc) :
    Stuck (s.pos + 1) (run l' f .expr x s) :=
  by
  have : ∃ ks s', run l' (f + 12) .expr x s = .ok ks s' ∧ s'.pos = s.pos + 1 := by
    simp [run_succ, code, exec, h1, nameC, hk, Res.andThen, sees, assignT, opT, prefixT]
    exact ⟨_, _, ⟨rfl, rfl⟩, rfl⟩
  obtain ⟨ks, s', h, hs⟩ := this
  by_cases h0 : run l' f .expr x s = .out
  · exact .inl h0
  · rw [← run_mono (Nat.le_add_right f 12) h0, h]; exact .inr (.inr ⟨_, _, rfl, hs⟩)

theorem flat_code (nt : NT) (h1 : nt ≠ .item) (h2 : nt ≠ .stmt) (h3 : nt ≠ .params) : Flat (code nt) := by
  cases nt <;> first | (exact absurd rfl h1) | (exact absurd rfl h2) | (exact absurd rfl h3) | skip
  all_goals simp only [code, sees, sg, wd, nameC, nameO, typeWord]
  all_goals (try simp only [Flat, true_and])
  all_goals (try intro k x)
  all_goals (repeat' split)
  all_goals (simp [Flat])
  all_goals (intros)
  all_goals (repeat' split)
  all_goals (simp [Flat])
  all_goals (intros)
  all_goals (repeat' split)
  all_goals (simp [Flat])
  all_goals (intros)
  all_goals (repeat' split)
  all_goals (simp [Flat])
  all_goals (intros)
  all_goals (repeat' split)
  all_goals (simp [Flat])

theorem run_cut {l l' : List PT} {k : Nat} (hc : CutOf l l' k) : ∀ (f : Nat) (nt : NT) (x : Loc) (s : PS), s.pos < k → Cutd k (run l f nt x s) (run l' f nt x s) := by
  intro f
  induction f with
  | zero => intro nt x s h; exact .inl (.inl rfl)
  | succ f ih =>
    intro nt x s h
    have hst := run_stuck hc.stop f
    by_cases e1 : nt = .item
    · subst e1
      simp only [run, code, sees, exec, Nat.add_zero, hc.same s.pos h]
      split
      · exact ih _ _ _ h
      · simp only [exec, Nat.add_zero, hc.same s.pos h]
        split
        · rename_i ht
          simp only [exec]
          rcases Nat.lt_or_ge (s.pos + 1) k with h1 | h1
          · rw [hc.same _ h1]
            split
            · rename_i hn
              simp only [exec]
              rcases Nat.lt_or_ge (s.pos + 2) k with h2 | h2
              · rw [hc.same _ h2]
                split
                · exact ih _ _ _ h
                · exact ih _ _ _ h
              · have hk : k = s.pos + 2 := by omega
                have hend : (tokAt l' (s.pos + 2)).kind = 0 := by rw [← hk]; exact hc.stop
                rw [if_neg (c := (tokAt l' (s.pos + 2)).kind = 4 ∧ _) (by rw [hend]; simp)]
                simp only [exec]
                left
                rw [hk]
                exact decl_cut2 (by rw [hc.same s.pos h]; exact ht) (by rw [hc.same _ h1]; exact hn) hend f x
            · exact ih _ _ _ h
          · have hk : k = s.pos + 1 := by omega
            have hend : (tokAt l' (s.pos + 1)).kind = 0 := by rw [← hk]; exact hc.stop
            rw [if_neg (c := (tokAt l' (s.pos + 1)).kind = 1) (by rw [hend]; simp)]
            simp only [exec]
            left
            rw [hk]
            exact decl_cut1 (by rw [hc.same s.pos h]; exact ht) hend f x
        · exact ih _ _ _ h
    · by_cases e2 : nt = .stmt
      · subst e2
        have hE : Cutd k (exec l (run l f) (.here (.call .expr false (sg [59] (.add 21 .ret)))) x s) (exec l' (run l' f) (.here (.call .expr false (sg [59] (.add 21 .ret)))) x s) :=
          exec_cut hc hst ih _ _ _ (by simp only [sg, sees, Flat, true_and]; intro a b; split <;> simp [Flat]) h
        simp only [run, code]
        rw [exec, exec, Nat.add_zero, hc.same s.pos h]
        split
        · exact ih _ _ _ h
        · split
          · exact exec_cut hc hst ih _ _ _ trivial h
          · split
            · exact ih _ _ _ h
            · split
              · rename_i hn
                rw [exec, exec]
                rcases Nat.lt_or_ge (s.pos + 1) k with h1 | h1
                · rw [hc.same _ h1]
                  split
                  · exact ih _ _ _ h
                  · exact hE
                · have hk : k = s.pos + 1 := by omega
                  have hend : (tokAt l' (s.pos + 1)).kind = 0 := by rw [← hk]; exact hc.stop
                  rw [if_neg (c := (tokAt l' (s.pos + 1)).kind = 4 ∧ _) (by rw [hend]; simp)]
                  left
                  simp only [exec]
                  have hx := expr_cut (l' := l') (s := s) (by rw [hc.same s.pos h]; exact hn) hend f { typ := 0 }
                  rw [← hk] at hx
                  exact hx.then fun ks s' hs' => exec_stuck hc.stop hst _ _ _ hs'
              · exact hE
      · by_cases e3 : nt = .params
        · subst e3
          have hE : Cutd k (exec l (run l f) (.call .param false (.tail .paramsL)) x s) (exec l' (run l' f) (.call .param false (.tail .paramsL)) x s) :=
            exec_cut hc hst ih _ _ _ (by simp only [Flat]) h
          simp only [run, code, sees]
          rw [exec, exec, Nat.add_zero, hc.same s.pos h]
          split
          · exact exec_cut hc hst ih _ _ _ trivial h
          · rw [exec, exec, Nat.add_zero, hc.same s.pos h]
            split
            · rename_i hv
              rw [exec, exec]
              rcases Nat.lt_or_ge (s.pos + 1) k with h1 | h1
              · rw [hc.same _ h1]
                split
                · exact exec_cut hc hst ih _ _ _ trivial h
                · exact hE
              · have hk : k = s.pos + 1 := by omega
                have hend : (tokAt l' (s.pos + 1)).kind = 0 := by rw [← hk]; exact hc.stop
                rw [if_neg (c := (tokAt l' (s.pos + 1)).kind = 4 ∧ _) (by rw [hend]; simp)]
                left
                rw [exec]
                have hx := param_cut (l' := l') (s := s) (by rw [hc.same s.pos h]; exact hv.1) (by rw [hc.same s.pos h]; exact hv.2) hend f { typ := if false = true then x.typ else 0 }
                rw [← hk] at hx
                exact hx.then fun ks s' hs' => exec_stuck hc.stop hst _ _ _ hs'
            · exact hE
        · exact exec_cut hc hst ih _ _ _ (flat_code nt e1 e2 e3) h
end Go.Proofs.YteggenldmkbhiaaDoor.Parse
namespace Go.Proofs.YteggenldmkbhiaaDoor.Parse

def closed : NT → Bool
  | .item | .enum | .enumL | .func | .decl | .declL | .block | .blockL => true
  | _ => false
def Fin : Code → Prop
  | .ret => True
  | .typ _ c => Fin c
  | .op _ c => Fin c
  | .add _ c => Fin c
  | _ => False
def ClN : Code → Prop
  | .ret => False
  | .fail => True
  | .look i f => i = 0 ∧ ∀ k x, ClN (f k x)
  | .here c => ClN c
  | .named c => ClN c
  | .numd c => ClN c
  | .typ _ c => ClN c
  | .op _ c => ClN c
  | .take c => Fin c ∨ ClN c
  | .call nt _ c => (closed nt = true ∧ Fin c) ∨ ClN c
  | .tail nt => closed nt = true
  | .add _ c => ClN c
def Badly (k : Nat) (r : Res) : Prop := r = .out ∨ r = .bad k
theorem Badly.then {k : Nat} {r : Res} {g : List Nat → PS → Res} (h : Badly k r) : Badly k (r.andThen g) := by
  rcases h with rfl | rfl
  · exact .inl rfl
  · exact .inr rfl
def Clo (k : Nat) (r r' : Res) : Prop := Badly k r' ∨ r' = r
theorem exec_fin {l l' : List PT} {rn rn' : NT → Loc → PS → Res} : ∀ (c : Code) (x : Loc) (s : PS), Fin c → exec l' rn' c x s = exec l rn c x s := by
  intro c
  induction c with
  | ret => intros; rfl
  | typ t c ih => intro x s h; exact ih _ _ h
  | op o c ih => intro x s h; exact ih _ _ h
  | add q c ih => intro x s h; exact ih _ _ h
  | _ => intro x s h; exact h.elim
theorem exec_clo_stuck {l' : List PT} {k : Nat} (hk : (tokAt l' k).kind = 0) {rn : NT → Loc → PS → Res} (h : ∀ nt x s, s.pos = k → Stuck k (rn nt x s)) (hc : ∀ nt x s, closed nt = true → s.pos = k → Badly k (rn nt x s)) :
    ∀ (c : Code) (x : Loc) (s : PS), ClN c → s.pos = k → Badly k (exec l' rn c x s) := by
  intro c
  induction c with
  | ret => intro x s hcl; exact hcl.elim
  | fail => intro x s _ hs; exact .inr (by rw [exec, hs])
  | look i f ih => intro x s hcl hs; exact ih _ _ _ _ (hcl.2 _ _) hs
  | here c ih => intro x s hcl hs; exact ih _ _ hcl hs
  | named c ih => intro x s hcl hs; exact ih _ _ hcl hs
  | numd c ih => intro x s hcl hs; exact ih _ _ hcl hs
  | typ t c ih => intro x s hcl hs; exact ih _ _ hcl hs
  | op o c ih => intro x s hcl hs; exact ih _ _ hcl hs
  | add q c ih => intro x s hcl hs; exact ih _ _ hcl hs
  | take c ih => intro x s _ hs; exact .inr (by rw [exec, hs, if_pos hk])
  | tail nt => intro x s hcl hs; exact hc _ _ _ hcl hs
  | call nt q c ih =>
    intro x s hcl hs
    simp only [exec]
    rcases hcl with ⟨h1, _⟩ | h1
    · exact (hc _ _ _ h1 hs).then
    · rcases h nt { typ := if q then x.typ else 0 } s hs with h2 | h2 | ⟨ks, s', h2, h3⟩
      · rw [h2]; exact .inl rfl
      · rw [h2]; exact .inr rfl
      · rw [h2]; exact ih _ _ h1 h3
theorem exec_clo {l l' : List PT} {k : Nat} (hc : CutOf l l' k) {rn rn' : NT → Loc → PS → Res} (hst : ∀ nt x s, s.pos = k → Stuck k (rn' nt x s)) (hcs : ∀ nt x s, closed nt = true → s.pos = k → Badly k (rn' nt x s))
    (h : ∀ nt x s, s.pos < k → Cutd k (rn nt x s) (rn' nt x s)) (hcl : ∀ nt x s, closed nt = true → s.pos < k → Clo k (rn nt x s) (rn' nt x s)) :
    ∀ (c : Code) (x : Loc) (s : PS), ClN c → s.pos < k → Clo k (exec l rn c x s) (exec l' rn' c x s) := by
  intro c
  induction c with
  | ret => intro x s hn; exact hn.elim
  | fail => intro x s _ _; exact .inr rfl
  | look i f ih =>
    intro x s hn hs
    obtain ⟨rfl, hn⟩ := hn
    simp only [exec, Nat.add_zero, hc.same s.pos hs]
    exact ih _ _ _ _ (hn _ _) hs
  | here c ih => intro x s hn hs; simp only [exec, hc.same s.pos hs]; exact ih _ _ hn hs
  | named c ih => intro x s hn hs; simp only [exec, hc.same s.pos hs]; exact ih _ _ hn hs
  | numd c ih => intro x s hn hs; simp only [exec, hc.same s.pos hs]; exact ih _ _ hn hs
  | typ t c ih => intro x s hn hs; exact ih _ _ hn hs
  | op o c ih => intro x s hn hs; exact ih _ _ hn hs
  | add q c ih => intro x s hn hs; exact ih _ _ hn hs
  | take c ih =>
    intro x s hn hs
    simp only [exec, hc.same s.pos hs]
    split
    · exact .inr rfl
    · rcases hn with hn | hn
      · exact .inr (exec_fin c _ _ hn)
      · rcases Nat.lt_or_ge (s.pos + 1) k with h1 | h1
        · exact ih _ _ hn h1
        · exact .inl (exec_clo_stuck hc.stop hst hcs _ _ _ hn (by simp; omega))
  | tail nt => intro x s hn hs; exact hcl _ _ _ hn hs
  | call nt q c ih =>
    intro x s hn hs
    simp only [exec]
    rcases hn with ⟨h1, h2⟩ | h1
    · rcases hcl nt { typ := if q then x.typ else 0 } s h1 hs with h3 | h3
      · exact .inl h3.then
      · rw [h3]
        cases rn nt { typ := if q then x.typ else 0 } s with
        | out => exact .inr rfl
        | bad j => exact .inr rfl
        | ok ks s' => exact .inr (exec_fin c _ _ h2)
    · rcases h nt { typ := if q then x.typ else 0 } s hs with (h2 | h2 | ⟨ks, s', h2, h3⟩) | ⟨h2, h3⟩
      · rw [h2]; exact .inl (.inl rfl)
      · rw [h2]; exact .inl (.inr rfl)
      · rw [h2]; exact .inl (exec_clo_stuck hc.stop hst hcs _ _ _ h1 h3)
      · rw [h2]
        cases hr : rn nt { typ := if q then x.typ else 0 } s with
        | out => exact .inr rfl
        | bad j => exact .inr rfl
        | ok ks s' => exact ih _ _ h1 (h3 _ _ hr)
theorem cln_code (nt : NT) (hn : closed nt = true) (h1 : nt ≠ .item) : ClN (code nt) := by
  cases nt <;> first | (exact absurd rfl h1) | (simp [closed] at hn; done) | skip
  all_goals simp only [code, sees, sg, nameO, typeWord]
  all_goals (try simp only [ClN, true_and])
  all_goals (try intro k x)
  all_goals (repeat' split)
  all_goals (simp [ClN, Fin, closed])
  all_goals (intros)
  all_goals (repeat' split)
  all_goals (simp [ClN, Fin, closed])
  all_goals (intros)
  all_goals (repeat' split)
  all_goals (simp [ClN, Fin, closed])
  all_goals (intros)
  all_goals (repeat' split)
  all_goals (simp [ClN, Fin, closed])
theorem run_clo_stuck {l' : List PT} {k : Nat} (hk : (tokAt l' k).kind = 0) : ∀ (f : Nat) (nt : NT) (x : Loc) (s : PS), closed nt = true → s.pos = k → Badly k (run l' f nt x s) := by
  intro f
  induction f with
  | zero => intro nt x s _ h; exact .inl rfl
  | succ f ih =>
    intro nt x s hn h
    by_cases e1 : nt = .item
    · subst e1
      rw [run_succ]
      rw [← h] at hk
      have ht : typeT 0 (tokAt l' s.pos).text = none := by simp [typeT]
      have he : exec l' (run l' f) (code .item) x s = run l' f .decl x s := by simp [code, sees, exec, hk, ht]
      rw [he]
      exact ih _ _ _ rfl h
    · exact exec_clo_stuck hk (run_stuck hk f) ih (code nt) x s (cln_code nt hn e1) h
theorem badly_run {l : List PT} {f n : Nat} {nt : NT} {x : Loc} {s : PS} {k : Nat} (h : run l (f + n) nt x s = .bad k) : Badly k (run l f nt x s) := by
  by_cases h0 : run l f nt x s = .out
  · exact .inl h0
  · rw [← run_mono (Nat.le_add_right f n) h0, h]; exact .inr rfl
theorem declb1 {l' : List PT} {s : PS} (ht : (typeT (tokAt l' s.pos).kind (tokAt l' s.pos).text).isSome = true) (hk : (tokAt l' (s.pos + 1)).kind = 0) (f : Nat) (x : Loc) :
    Badly (s.pos + 1) (run l' f .decl x s) := by
  obtain ⟨n, hn⟩ := Option.isSome_iff_exists.1 ht
  have h3 := typeT_kind hn
  rw [h3] at hn
  refine badly_run (n := 3) ?_
  simp [run_succ, code, typeWord, exec, hn, h3, nameC, hk, Res.andThen]
theorem declb2 {l' : List PT} {s : PS} (ht : (typeT (tokAt l' s.pos).kind (tokAt l' s.pos).text).isSome = true) (h1 : (tokAt l' (s.pos + 1)).kind = 1) (hk : (tokAt l' (s.pos + 2)).kind = 0) (f : Nat) (x : Loc) :
    Badly (s.pos + 2) (run l' f .decl x s) := by
  obtain ⟨n, hn⟩ := Option.isSome_iff_exists.1 ht
  have h3 := typeT_kind hn
  rw [h3] at hn
  refine badly_run (n := 5) ?_
  simp [run_succ, code, typeWord, exec, hn, h3, nameC, h1, hk, Res.andThen, sees, sg]
theorem run_clo {l l' : List PT} {k : Nat} (hc : CutOf l l' k) : ∀ (f : Nat) (nt : NT) (x : Loc) (s : PS), closed nt = true → s.pos < k → Clo k (run l f nt x s) (run l' f nt x s) := by
  intro f
  induction f with
  | zero => intro nt x s _ h; exact .inl (.inl rfl)
  | succ f ih =>
    intro nt x s hn h
    by_cases e1 : nt = .item
    · subst e1
      simp only [run, code, sees, exec, Nat.add_zero, hc.same s.pos h]
      split
      · exact ih _ _ _ (by rfl) h
      · simp only [exec, Nat.add_zero, hc.same s.pos h]
        split
        · rename_i ht
          simp only [exec]
          rcases Nat.lt_or_ge (s.pos + 1) k with h1 | h1
          · rw [hc.same _ h1]
            split
            · rename_i hn
              simp only [exec]
              rcases Nat.lt_or_ge (s.pos + 2) k with h2 | h2
              · rw [hc.same _ h2]
                split
                · exact ih _ _ _ (by rfl) h
                · exact ih _ _ _ (by rfl) h
              · have hk : k = s.pos + 2 := by omega
                have hend : (tokAt l' (s.pos + 2)).kind = 0 := by rw [← hk]; exact hc.stop
                rw [if_neg (c := (tokAt l' (s.pos + 2)).kind = 4 ∧ _) (by rw [hend]; simp)]
                simp only [exec]
                left
                rw [hk]
                exact declb2 (by rw [hc.same s.pos h]; exact ht) (by rw [hc.same _ h1]; exact hn) hend f x
            · exact ih _ _ _ (by rfl) h
          · have hk : k = s.pos + 1 := by omega
            have hend : (tokAt l' (s.pos + 1)).kind = 0 := by rw [← hk]; exact hc.stop
            rw [if_neg (c := (tokAt l' (s.pos + 1)).kind = 1) (by rw [hend]; simp)]
            simp only [exec]
            left
            rw [hk]
            exact declb1 (by rw [hc.same s.pos h]; exact ht) hend f x
        · exact ih _ _ _ (by rfl) h
    · exact exec_clo hc (run_stuck hc.stop f) (run_clo_stuck hc.stop f) (run_cut hc f) ih (code nt) x s (cln_code nt hn e1) h
end Go.Proofs.YteggenldmkbhiaaDoor.Parse
namespace Go.Proofs.YteggenldmkbhiaaDoor.Parse

def sameTok (a b : PT) : Prop := a.kind = b.kind ∧ a.text = b.text ∧ a.num = b.num ∧ a.uns = b.uns
/-- From j0 on, l' has at d more what l has. -/
def Shifted (l l' : List PT) (d j0 : Nat) : Prop := ∀ j, j0 ≤ j → sameTok (tokAt l' (j + d)) (tokAt l j)
def NodeRel (o : Nat) (a b : PN) : Prop := b.kind = a.kind ∧ b.op = a.op ∧ b.type = a.type ∧ b.num = a.num ∧ b.name = a.name ∧ b.kids = a.kids.map (· + o)
structure NodesRel (pre A B : List PN) : Prop where
  len : B.length = pre.length + A.length
  old : ∀ i, i < pre.length → B[i]? = pre[i]?
  rel : ∀ i a, A[i]? = some a → ∃ b, B[pre.length + i]? = some b ∧ NodeRel pre.length a b
structure LocRel (o : Nat) (x x' : Loc) : Prop where
  name : x'.name = x.name
  typ : x'.typ = x.typ
  op : x'.op = x.op
  num : x'.num = x.num
  ks : x'.ks = x.ks.map (· + o)
structure StRel (pre : List PN) (d : Nat) (s s' : PS) : Prop where
  pos : s'.pos = s.pos + d
  nodes : NodesRel pre s.nodes s'.nodes
inductive ResRel (pre : List PN) (d : Nat) : Res → Res → Prop
  | out : ResRel pre d .out .out
  | bad (k : Nat) : ResRel pre d (.bad k) (.bad (k + d))
  | ok {ks : List Nat} {s s' : PS} (h : StRel pre d s s') : ResRel pre d (.ok ks s) (.ok (ks.map (· + pre.length)) s')
theorem NodesRel.add {pre A B : List PN} (h : NodesRel pre A B) {a b : PN} (hr : NodeRel pre.length a b) : NodesRel pre (A ++ [a]) (B ++ [b]) := by
  refine ⟨by rw [List.length_append, List.length_append, h.len, List.length_singleton, List.length_singleton]; omega, fun i hi => ?_, fun i c hc => ?_⟩
  · rw [List.getElem?_append_left (by rw [h.len]; omega)]; exact h.old i hi
  · rcases Nat.lt_or_ge i A.length with h1 | h1
    · rw [List.getElem?_append_left h1] at hc
      obtain ⟨b', hb', hr'⟩ := h.rel i c hc
      exact ⟨b', by rw [List.getElem?_append_left (by rw [h.len]; omega)]; exact hb', hr'⟩
    · rw [List.getElem?_append_right h1] at hc
      have h2 : i - A.length = 0 := by
        rcases Nat.eq_zero_or_pos (i - A.length) with h0 | h0
        · exact h0
        · rw [List.getElem?_eq_none (by simp; omega)] at hc; cases hc
      rw [h2] at hc
      simp only [List.getElem?_cons_zero, Option.some.injEq] at hc
      subst hc
      exact ⟨b, by rw [List.getElem?_append_right (by rw [h.len]; omega), h.len, show pre.length + i - (pre.length + A.length) = 0 by omega]; rfl, hr⟩
theorem exec_shift {l l' : List PT} {d j0 : Nat} {pre : List PN} (_hl : LastEnd l) (hsh : Shifted l l' d j0) {rn rn' : NT → Loc → PS → Res}
    (hpos : ∀ nt x s ks s', rn nt x s = .ok ks s' → s.pos ≤ s'.pos)
    (h : ∀ nt x x' s s', LocRel pre.length x x' → StRel pre d s s' → j0 ≤ s.pos → ResRel pre d (rn nt x s) (rn' nt x' s')) :
    ∀ (c : Code) (x x' : Loc) (s s' : PS), LocRel pre.length x x' → StRel pre d s s' → j0 ≤ s.pos → ResRel pre d (exec l rn c x s) (exec l' rn' c x' s') := by
  intro c
  induction c with
  | ret => intro x x' s s' hx hs hj; simp only [exec, hx.ks]; exact .ok hs
  | fail => intro x x' s s' hx hs hj; simp only [exec, hs.pos]; exact .bad _
  | look i f ih =>
    intro x x' s s' hx hs hj
    have ht := hsh (s.pos + i) (by omega)
    simp only [exec, hs.pos]
    rw [show s.pos + d + i = s.pos + i + d by omega, ht.1, ht.2.1]
    exact ih _ _ _ _ _ _ hx hs hj
  | here c ih => intro x x' s s' hx hs hj; exact ih _ _ _ _ ⟨hx.name, hx.typ, hx.op, hx.num, hx.ks⟩ hs hj
  | named c ih =>
    intro x x' s s' hx hs hj
    have ht := hsh s.pos hj
    exact ih _ _ _ _ ⟨by simp only [hs.pos]; exact ht.2.1, hx.typ, hx.op, hx.num, hx.ks⟩ hs hj
  | numd c ih =>
    intro x x' s s' hx hs hj
    have ht := hsh s.pos hj
    exact ih _ _ _ _ ⟨hx.name, by simp only [hs.pos, ht.2.2.2], hx.op, by simp only [hs.pos]; exact ht.2.2.1, hx.ks⟩ hs hj
  | typ t c ih => intro x x' s s' hx hs hj; exact ih _ _ _ _ ⟨hx.name, by exact rfl, hx.op, hx.num, hx.ks⟩ hs hj
  | op o c ih => intro x x' s s' hx hs hj; exact ih _ _ _ _ ⟨hx.name, hx.typ, by exact rfl, hx.num, hx.ks⟩ hs hj
  | add q c ih =>
    intro x x' s s' hx hs hj
    refine ih { x with ks := _ } { x' with ks := _ } ⟨s.pos, _⟩ ⟨s'.pos, _⟩ ⟨hx.name, hx.typ, hx.op, hx.num, ?_⟩ ⟨hs.pos, hs.nodes.add ⟨rfl, hx.op, hx.typ, hx.num, hx.name, hx.ks⟩⟩ hj
    simp only [hs.nodes.len, List.map_cons, List.map_nil]
    rw [Nat.add_comm]
  | take c ih =>
    intro x x' s s' hx hs hj
    have ht := hsh s.pos hj
    simp only [exec, hs.pos, ht.1]
    split
    · exact .bad _
    · exact ih x x' ⟨s.pos + 1, _⟩ ⟨s.pos + d + 1, _⟩ hx ⟨by simp only []; omega, hs.nodes⟩ (by simp only []; omega)
  | tail nt => intro x x' s s' hx hs hj; exact h _ _ _ _ _ hx hs hj
  | call nt q c ih =>
    intro x x' s s' hx hs hj
    simp only [exec]
    have h1 := h nt { typ := if q then x.typ else 0 } { typ := if q then x'.typ else 0 } s s' ⟨rfl, by rw [hx.typ], rfl, rfl, rfl⟩ hs hj
    generalize hr : rn nt { typ := if q then x.typ else 0 } s = r at h1 ⊢
    generalize rn' nt { typ := if q then x'.typ else 0 } s' = r' at h1 ⊢
    cases h1 with
    | out => exact .out
    | bad k => exact .bad k
    | ok h2 =>
      have h3 := hpos _ _ _ _ _ hr
      exact ih _ _ _ _ ⟨hx.name, hx.typ, hx.op, hx.num, by simp only [hx.ks, List.map_append]⟩ h2 (by omega)
theorem run_shift {l l' : List PT} {d j0 : Nat} {pre : List PN} (hl : LastEnd l) (hsh : Shifted l l' d j0) : ∀ (f : Nat) (nt : NT) (x x' : Loc) (s s' : PS), LocRel pre.length x x' → StRel pre d s s' → j0 ≤ s.pos →
    ResRel pre d (run l f nt x s) (run l' f nt x' s') := by
  intro f
  induction f with
  | zero => intros; exact .out
  | succ f ih => intro nt x x' s s' hx hs hj; exact exec_shift hl hsh (fun nt x s ks s' h => (run_pos hl f nt x s ks s' h).1) ih (code nt) x x' s s' hx hs hj

/-! An expression ends where it can't go on -/
def isExpr : NT → Bool
  | .bracketed | .expr | .exprL | .assign | .cond | .climb _ | .climbL _ | .unary | .posts | .postL | .primary | .num | .named | .args | .argsL => true
  | _ => false
/-- Where a semicolon was next and nothing was taken, it is the same with a closing bracket. -/
def StopC : Code → Prop
  | .ret => True
  | .fail => True
  | .look i f => i = 0 ∧ (∀ k x, StopC (f k x)) ∧ (f 4 [59] = f 4 [41] ∨ Dec 100 true false (f 4 [59]))
  | .here c => StopC c ∧ Dec 100 true false c
  | .named c => StopC c ∧ Dec 100 true false c
  | .numd c => StopC c ∧ Dec 100 true false c
  | .typ _ c => StopC c
  | .op _ c => StopC c
  | .take c => StopC c
  | .call nt _ c => isExpr nt = true ∧ StopC c
  | .tail nt => isExpr nt = true
  | .add _ c => StopC c
theorem dec_any : ∀ (c : Code) (p : Bool), Dec 100 false p c := by
  intro c
  have hrk : ∀ nt, rank nt < 100 := by intro nt; cases nt <;> simp [rank]
  induction c with
  | look i f ih => intro p k x; exact ih _ _ p
  | ret => intro p h; cases h
  | fail => intro p; trivial
  | tail nt => intro p; exact ⟨.inr (hrk nt), fun h => by cases h⟩
  | call nt q c ih => intro p; exact ⟨.inr (hrk nt), ih _⟩
  | _ => rename_i ih; intro p; exact ih _
structure StopAt (l l' : List PT) (k : Nat) : Prop where
  same : ∀ j, j < k → tokAt l' j = tokAt l j
  one : (tokAt l k).kind = 4 ∧ (tokAt l k).text = [59]
  two : (tokAt l' k).kind = 4 ∧ (tokAt l' k).text = [41]
theorem exec_stop {l l' : List PT} {k : Nat} (hl : LastEnd l) (hc : StopAt l l' k) {rn rn' : NT → Loc → PS → Res}
    (hpos : ∀ nt x s ks s', rn nt x s = .ok ks s' → s.pos ≤ s'.pos ∧ (takes nt = true → s.pos < s'.pos) ∧ (s.pos < l.length → s'.pos < l.length))
    (h : ∀ nt x s ks s', isExpr nt = true → s.pos ≤ k → s'.pos ≤ k → rn nt x s = .ok ks s' → rn' nt x s = .ok ks s') :
    ∀ (c : Code) (x : Loc) (s : PS) (ks : List Nat) (s' : PS), StopC c → s.pos ≤ k → s'.pos ≤ k → exec l rn c x s = .ok ks s' → exec l' rn' c x s = .ok ks s' := by
  intro c
  have hno : ∀ (c : Code) (x : Loc) (s : PS) (ks : List Nat) (s' : PS), Dec 100 true false c → s.pos = k → s'.pos ≤ k → exec l rn c x s = .ok ks s' → False := by
    intro c x s ks s' hd hs hs' he
    have := (exec_pos hl hpos c false x s s ks s' hd (Nat.le_refl _) (fun h => by cases h) he).2.1 rfl
    omega
  induction c with
  | ret => intro x s ks s' _ _ _ he; exact he
  | fail => intro x s ks s' _ _ _ he; exact he
  | look i f ih =>
    intro x s ks s' hn hs hs' he
    obtain ⟨rfl, hn, hn2⟩ := hn
    simp only [exec, Nat.add_zero] at he ⊢
    rcases Nat.lt_or_ge s.pos k with h1 | h1
    · rw [hc.same _ h1]; exact ih _ _ _ _ _ _ (hn _ _) hs hs' he
    · have hk : s.pos = k := by omega
      rw [hk, hc.one.1, hc.one.2] at he
      rw [hk, hc.two.1, hc.two.2]
      rcases hn2 with h2 | h2
      · rw [h2] at he; exact ih _ _ _ _ _ _ (hn _ _) hs hs' he
      · exact (hno _ _ _ _ _ h2 hk hs' he).elim
  | here c ih =>
    intro x s ks s' hn hs hs' he
    rcases Nat.lt_or_ge s.pos k with h1 | h1
    · simp only [exec, hc.same _ h1] at he ⊢; exact ih _ _ _ _ hn.1 hs hs' he
    · exact (hno c _ _ _ _ hn.2 (by omega) hs' he).elim
  | named c ih =>
    intro x s ks s' hn hs hs' he
    rcases Nat.lt_or_ge s.pos k with h1 | h1
    · simp only [exec, hc.same _ h1] at he ⊢; exact ih _ _ _ _ hn.1 hs hs' he
    · exact (hno c _ _ _ _ hn.2 (by omega) hs' he).elim
  | numd c ih =>
    intro x s ks s' hn hs hs' he
    rcases Nat.lt_or_ge s.pos k with h1 | h1
    · simp only [exec, hc.same _ h1] at he ⊢; exact ih _ _ _ _ hn.1 hs hs' he
    · exact (hno c _ _ _ _ hn.2 (by omega) hs' he).elim
  | typ t c ih => intro x s ks s' hn hs hs' he; exact ih _ _ _ _ hn hs hs' he
  | op o c ih => intro x s ks s' hn hs hs' he; exact ih _ _ _ _ hn hs hs' he
  | add q c ih =>
    intro x s ks s' hn hs hs' he
    simp only [exec] at he ⊢
    exact ih _ _ _ _ hn (by exact hs) hs' he
  | take c ih =>
    intro x s ks s' hn hs hs' he
    have h0 := (exec_pos hl hpos (.take c) false x s s ks s' (dec_any _ _) (Nat.le_refl _) (fun h => by cases h) he).1
    simp only [exec] at he ⊢
    split at he
    · cases he
    · rename_i hk0
      have h2 := (exec_pos hl hpos c false x _ _ ks s' (dec_any _ _) (Nat.le_refl _) (fun h => by cases h) he).1
      simp only [] at h2
      rw [hc.same s.pos (by omega), if_neg hk0]
      exact ih _ _ _ _ hn (by simp only []; omega) hs' he
  | tail nt => intro x s ks s' hn hs hs' he; exact h _ _ _ _ _ hn hs hs' he
  | call nt q c ih =>
    intro x s ks s' hn hs hs' he
    obtain ⟨ks1, s1, h1, h2⟩ := andThen_ok he
    have h3 := (exec_pos hl hpos c false _ _ _ ks s' (dec_any _ _) (Nat.le_refl _) (fun h => by cases h) h2).1
    have h4 := (hpos _ _ _ _ _ h1).1
    simp only [exec]
    rw [h _ _ _ _ _ hn.1 hs (by omega) h1]
    exact ih _ _ _ _ hn.2 (by omega) hs' h2
theorem stop_code (nt : NT) (hn : isExpr nt = true) : StopC (code nt) := by
  cases nt <;> first | (simp [isExpr] at hn; done) | skip
  all_goals simp only [code, sees, sg, nameC]
  all_goals (simp [StopC, isExpr, Dec, takes, rank, assignT, opT, opL, prefixT, List.lookup])
  all_goals (intros)
  all_goals (repeat' split)
  all_goals (try simp [StopC, isExpr, Dec, takes, rank])
  all_goals (intros)
  all_goals (repeat' split)
  all_goals (try simp [StopC, isExpr, Dec, takes, rank])
  all_goals (intros)
  all_goals (repeat' split)
  all_goals (try simp [StopC, isExpr, Dec, takes, rank])
  all_goals (repeat' (first | apply And.intro | intro _ | split))
  all_goals (try simp [StopC, isExpr, Dec, takes, rank])

  all_goals (repeat' (first | apply And.intro | intro _ | split))
  all_goals (try simp [StopC, isExpr, Dec, takes, rank])

  all_goals (repeat' (first | apply And.intro | intro _ | split))
  all_goals (try simp [StopC, isExpr, Dec, takes, rank])
theorem run_stop {l l' : List PT} {k : Nat} (hl : LastEnd l) (hc : StopAt l l' k) : ∀ (f : Nat) (nt : NT) (x : Loc) (s : PS) (ks : List Nat) (s' : PS), isExpr nt = true → s.pos ≤ k → s'.pos ≤ k →
    run l f nt x s = .ok ks s' → run l' f nt x s = .ok ks s' := by
  intro f
  induction f with
  | zero => intro nt x s ks s' _ _ _ h; simp [run] at h
  | succ f ih => intro nt x s ks s' hn hs hs' h; exact exec_stop hl hc (run_pos hl f) ih (code nt) x s ks s' (stop_code nt hn) hs hs' h
end Go.Proofs.YteggenldmkbhiaaDoor.Parse
namespace Go.Proofs.YteggenldmkbhiaaDoor.Parse

def val (k : Int) (t : Bs) : Int := if k = 4 ∧ t = [123] then 1 else if k = 4 ∧ t = [125] then -1 else 0
/-- How many braces open, less how many close, among the first n tokens. -/
def depth (l : List PT) : Nat → Int
  | 0 => 0
  | n + 1 => depth l n + val (tokAt l n).kind (tokAt l n).text
def bal : NT → Int
  | .blockL | .enumL => -1
  | _ => 0
def low : NT → Int
  | .enumL => -1
  | _ => 0
def needs : NT → Bool
  | .num | .ifS | .decided _ | .doS | .forS | .leave _ | .returnS | .gotoS | .caseS | .defaultS | .enum | .wordS => true
  | _ => false
/-- cur: what the next token counts, if it is known; e: how many braces are open. -/
def Bal (lo b : Int) : Option Int → Int → Code → Prop
  | _, e, .ret => e = b
  | _, _, .fail => True
  | cur, e, .look 0 f => ∀ k x, (∀ v, cur = some v → val k x = v) → Bal lo b (some (val k x)) e (f k x)
  | cur, e, .look (_ + 1) f => ∀ k x, Bal lo b cur e (f k x)
  | cur, e, .here c => Bal lo b cur e c
  | cur, e, .named c => Bal lo b cur e c
  | cur, e, .numd c => Bal lo b cur e c
  | cur, e, .typ _ c => Bal lo b cur e c
  | cur, e, .op _ c => Bal lo b cur e c
  | cur, e, .take c => lo ≤ e ∧ ∃ v, cur = some v ∧ Bal lo b none (e + v) c
  | cur, e, .call nt _ c => lo ≤ e + low nt ∧ (needs nt = true → cur = some 0) ∧ Bal lo b none (e + bal nt) c
  | cur, e, .tail nt => lo ≤ e + low nt ∧ (needs nt = true → cur = some 0) ∧ e + bal nt = b
  | cur, e, .add _ c => Bal lo b cur e c
theorem val_not {k : Int} {t : Bs} (h : val k t ≠ 0) : k = 4 ∧ (t = [123] ∨ t = [125]) := by
  unfold val at h
  split at h
  · rename_i h1; exact ⟨h1.1, .inl h1.2⟩
  · split at h
    · rename_i h1; exact ⟨h1.1, .inr h1.2⟩
    · exact absurd rfl h
theorem val_kind {k : Int} {t : Bs} (h : k ≠ 4) : val k t = 0 := by simp [val, h]
theorem val_type {k : Int} {t : Bs} {n : Int} (h : typeT k t = some n) : val k t = 0 := by
  have := typeT_kind h; exact val_kind (by omega)
theorem val_op {k : Int} {t : Bs} {n : Int × Int × Nat} (h : opT k t = some n) : val k t = 0 := by
  by_cases h0 : val k t = 0
  · exact h0
  · obtain ⟨rfl, rfl | rfl⟩ := val_not h0 <;> simp [opT, opL, List.lookup] at h
theorem val_prefix {k : Int} {t : Bs} {n : Int × Int} (h : prefixT k t = some n) : val k t = 0 := by
  by_cases h0 : val k t = 0
  · exact h0
  · obtain ⟨rfl, rfl | rfl⟩ := val_not h0 <;> simp [prefixT, List.lookup] at h
theorem val_assign {k : Int} {t : Bs} {n : Int} (h : assignT k t = some n) : val k t = 0 := by
  by_cases h0 : val k t = 0
  · exact h0
  · obtain ⟨rfl, rfl | rfl⟩ := val_not h0 <;> simp [assignT, List.lookup] at h
theorem exec_bal {l : List PT} {rn : NT → Loc → PS → Res} {lo b : Int} (hpos : ∀ nt x s ks s', rn nt x s = .ok ks s' → s.pos ≤ s'.pos)
    (h : ∀ nt x s ks s', (needs nt = true → val (tokAt l s.pos).kind (tokAt l s.pos).text = 0) → rn nt x s = .ok ks s' →
      depth l s'.pos = depth l s.pos + bal nt ∧ ∀ j, s.pos ≤ j → j < s'.pos → depth l s.pos + low nt ≤ depth l j) :
    ∀ (c : Code) (cur : Option Int) (e : Int) (x : Loc) (s : PS) (ks : List Nat) (s' : PS), Bal lo b cur e c → (∀ v, cur = some v → val (tokAt l s.pos).kind (tokAt l s.pos).text = v) → exec l rn c x s = .ok ks s' →
      depth l s'.pos + e = depth l s.pos + b ∧ ∀ j, s.pos ≤ j → j < s'.pos → depth l s.pos + lo ≤ depth l j + e := by
  intro c
  induction c with
  | ret =>
    intro cur e x s ks s' hd hc he
    simp only [exec, Res.ok.injEq] at he
    obtain ⟨_, rfl⟩ := he
    have : e = b := hd
    exact ⟨by omega, fun j h1 h2 => by omega⟩
  | fail => intro cur e x s ks s' hd hc he; simp [exec] at he
  | look i f ih =>
    intro cur e x s ks s' hd hc he
    cases i with
    | zero => exact ih _ _ _ e _ s _ _ (hd _ _ (by simpa using hc)) (fun v hv => by simpa using hv) he
    | succ i => exact ih _ _ cur e _ s _ _ (hd _ _) hc he
  | here c ih => intro cur e x s ks s' hd hc he; exact ih cur e _ s _ _ hd hc he
  | named c ih => intro cur e x s ks s' hd hc he; exact ih cur e _ s _ _ hd hc he
  | numd c ih => intro cur e x s ks s' hd hc he; exact ih cur e _ s _ _ hd hc he
  | typ t c ih => intro cur e x s ks s' hd hc he; exact ih cur e _ s _ _ hd hc he
  | op o c ih => intro cur e x s ks s' hd hc he; exact ih cur e _ s _ _ hd hc he
  | add q c ih =>
    intro cur e x s ks s' hd hc he
    simp only [exec] at he
    have := ih cur e _ _ _ _ hd (by exact hc) he
    exact this
  | take c ih =>
    intro cur e x s ks s' hd hc he
    obtain ⟨hlo, v, hv, hd⟩ := hd
    simp only [exec] at he
    split at he
    · cases he
    · have h1 := ih none (e + v) _ _ _ _ hd (fun v h => by cases h) he
      have h2 := hc v hv
      simp only [depth] at h1
      refine ⟨by omega, fun j hj1 hj2 => ?_⟩
      rcases Nat.eq_or_lt_of_le hj1 with h3 | h3
      · subst h3; omega
      · have := h1.2 j (by show s.pos + 1 ≤ j; omega) hj2
        omega
  | tail nt =>
    intro cur e x s ks s' hd hc he
    obtain ⟨h1, h2, h3⟩ := hd
    have := h nt x s ks s' (fun hn => hc 0 (h2 hn)) he
    refine ⟨by omega, fun j hj1 hj2 => ?_⟩
    have := this.2 j hj1 hj2
    omega
  | call nt q c ih =>
    intro cur e x s ks s' hd hc he
    obtain ⟨h1, h2, h3⟩ := hd
    obtain ⟨ks1, s1, h4, h5⟩ := andThen_ok he
    have h6 := h _ _ _ _ _ (fun hn => hc 0 (h2 hn)) h4
    have h7 := ih none (e + bal nt) _ s1 _ _ h3 (fun v h => by cases h) h5
    have h8 := hpos _ _ _ _ _ h4
    refine ⟨by omega, fun j hj1 hj2 => ?_⟩
    rcases Nat.lt_or_ge j s1.pos with h9 | h9
    · have := h6.2 j hj1 h9; omega
    · have := h7.2 j h9 hj2; omega
theorem bal_none {lo b : Int} : ∀ (c : Code) (cur : Option Int) (e : Int), Bal lo b none e c → Bal lo b cur e c := by
  intro c
  induction c with
  | ret => intro cur e h; exact h
  | fail => intro cur e h; trivial
  | look i f ih =>
    intro cur e h
    cases i with
    | zero => intro k x _; exact h k x (fun v hv => by cases hv)
    | succ i => intro k x; exact ih k x cur e (h k x)
  | here c ih => intro cur e h; exact ih cur e h
  | named c ih => intro cur e h; exact ih cur e h
  | numd c ih => intro cur e h; exact ih cur e h
  | typ t c ih => intro cur e h; exact ih cur e h
  | op o c ih => intro cur e h; exact ih cur e h
  | add q c ih => intro cur e h; exact ih cur e h
  | take c ih => intro cur e h; obtain ⟨_, v, hv, _⟩ := h; cases hv
  | tail nt => intro cur e h; exact ⟨h.1, (fun hn => by have := h.2.1 hn; cases this), h.2.2⟩
  | call nt q c ih => intro cur e h; exact ⟨h.1, (fun hn => by have := h.2.1 hn; cases this), h.2.2⟩
theorem bal_take {lo b : Int} {e v : Int} {c : Code} (h : lo ≤ e) (hc : Bal lo b none (e + v) c) : Bal lo b (some v) e (.take c) := ⟨h, v, rfl, hc⟩
theorem bal_sees {lo b : Int} {cur : Option Int} {e : Int} {kind : Int} {text : Bs} {c d : Code} (h1 : Bal lo b (some (val kind text)) e c) (h2 : Bal lo b none e d) : Bal lo b cur e (sees kind text c d) := by
  intro k x _
  try dsimp only
  split
  · rename_i h; rw [h.1, h.2]; exact h1
  · exact bal_none _ _ _ h2
theorem bal_sg {lo b : Int} {cur : Option Int} {e : Int} {text : Bs} {c : Code} (h : lo ≤ e) (h1 : Bal lo b none (e + val 4 text) c) : Bal lo b cur e (sg text c) :=
  bal_sees (bal_take h h1) trivial
theorem bal_wd {lo b : Int} {cur : Option Int} {e : Int} {text : Bs} {c : Code} (h : lo ≤ e) (h1 : Bal lo b none (e + val 3 text) c) : Bal lo b cur e (wd text c) :=
  bal_sees (bal_take h h1) trivial
theorem bal_name {lo b : Int} {cur : Option Int} {e : Int} {c : Code} (h : lo ≤ e) (h1 : Bal lo b none (e + 0) c) : Bal lo b cur e (nameC c) := by
  intro k x _
  try dsimp only
  split
  · rename_i hk; rw [val_kind (by omega)]; exact bal_take h h1
  · trivial
theorem bal_nameO {lo b : Int} {cur : Option Int} {e : Int} {c : Code} (h : lo ≤ e) (h1 : Bal lo b none (e + 0) c) : Bal lo b cur e (nameO c) := by
  intro k x _
  try dsimp only
  split
  · rename_i hk; rw [val_kind (by omega)]; exact bal_take h h1
  · trivial
theorem bal_type {lo b : Int} {cur : Option Int} {e : Int} {c : Code} (h : lo ≤ e) (h1 : Bal lo b none (e + 0) c) : Bal lo b cur e (typeWord c) := by
  intro k x _
  try dsimp only
  split
  · rename_i hk; rw [val_type hk]; exact bal_take h h1
  · trivial
theorem bal_call {lo b : Int} {cur : Option Int} {e : Int} {nt : NT} {q : Bool} {c : Code} (h1 : lo ≤ e + low nt) (h2 : needs nt = true → cur = some 0) (h : Bal lo b none (e + bal nt) c) : Bal lo b cur e (.call nt q c) := ⟨h1, h2, h⟩
theorem bal_tail {lo b : Int} {cur : Option Int} {e : Int} {nt : NT} (h1 : lo ≤ e + low nt) (h2 : needs nt = true → cur = some 0) (h : e + bal nt = b) : Bal lo b cur e (.tail nt) := ⟨h1, h2, h⟩
theorem bal_here {lo b : Int} {cur : Option Int} {e : Int} {c : Code} (h : Bal lo b cur e c) : Bal lo b cur e (.here c) := h
theorem bal_numd {lo b : Int} {cur : Option Int} {e : Int} {c : Code} (h : Bal lo b cur e c) : Bal lo b cur e (.numd c) := h
theorem bal_op {lo b : Int} {cur : Option Int} {e o : Int} {c : Code} (h : Bal lo b cur e c) : Bal lo b cur e (.op o c) := h
theorem bal_typ {lo b : Int} {cur : Option Int} {e o : Int} {c : Code} (h : Bal lo b cur e c) : Bal lo b cur e (.typ o c) := h
theorem bal_add {lo b : Int} {cur : Option Int} {e o : Int} {c : Code} (h : Bal lo b cur e c) : Bal lo b cur e (.add o c) := h
theorem bal_code (nt : NT) : Bal (low nt) (bal nt) (if needs nt = true then some 0 else none) 0 (code nt) := by
  cases nt <;> simp only [code, low, bal, needs, if_true, if_false, Bool.false_eq_true]
  case stmt =>
    intro k x _
    try dsimp only
    split
    · rename_i hk; rw [val_kind (by omega)]; exact ⟨by decide, fun _ => rfl, by decide⟩
    · split
      · rename_i _ hk; rw [hk.1, hk.2]; exact bal_take (by decide) (by rfl)
      · split
        · exact ⟨by decide, fun h => by (simp [needs] at h), by decide⟩
        · have hE : ∀ cur, Bal 0 0 cur 0 (.here (.call .expr false (sg [59] (.add 21 .ret)))) := fun cur => ⟨by decide, fun h => by (simp [needs] at h), bal_sg (by decide) (by rfl)⟩
          try dsimp only
          split
          · intro k1 x1
            try dsimp only
            split
            · exact ⟨by decide, fun h => by (simp [needs] at h), by decide⟩
            · exact hE _
          · exact hE _
  case wordS =>
    intro k x hv
    rw [hv 0 rfl]
    exact wordT_cases (fun n => Bal 0 0 (some 0) 0 (.tail n)) _ ⟨by decide, fun _ => rfl, by decide⟩ ⟨by decide, fun _ => rfl, by decide⟩ ⟨by decide, fun _ => rfl, by decide⟩ ⟨by decide, fun _ => rfl, by decide⟩ ⟨by decide, fun _ => rfl, by decide⟩
      ⟨by decide, fun _ => rfl, by decide⟩ ⟨by decide, fun _ => rfl, by decide⟩ ⟨by decide, fun _ => rfl, by decide⟩ ⟨by decide, fun _ => rfl, by decide⟩ ⟨by decide, fun _ => rfl, by decide⟩ ⟨by decide, fun _ => rfl, by decide⟩ ⟨by decide, fun _ => rfl, by decide⟩
  case item =>
    refine bal_sees ⟨by decide, fun _ => rfl, by decide⟩ ?_
    have hD : ∀ cur, Bal 0 0 cur 0 (.tail .decl) := fun cur => ⟨by decide, fun h => by (simp [needs] at h), by decide⟩
    intro k x _
    try dsimp only
    split
    · intro k1 x1
      try dsimp only
      split
      · intro k2 x2
        try dsimp only
        split
        · exact ⟨by decide, fun h => by (simp [needs] at h), by decide⟩
        · exact hD _
      · exact hD _
    · exact hD _
  case params =>
    have hD : ∀ cur, Bal 0 0 cur 0 (.call .param false (.tail .paramsL)) := fun cur => ⟨by decide, fun h => by (simp [needs] at h), ⟨by decide, fun h => by (simp [needs] at h), by decide⟩⟩
    refine bal_sees rfl (bal_sees ?_ (hD _))
    intro k x
    try dsimp only
    split
    · exact bal_take (by decide) (by rfl)
    · exact hD _
  case primary =>
    intro k x _
    try dsimp only
    split
    · rename_i hk; rw [val_kind (by omega)]; exact ⟨by decide, fun _ => rfl, by decide⟩
    · split
      · exact ⟨by decide, fun h => by (simp [needs] at h), by decide⟩
      · exact ⟨by decide, fun h => by (simp [needs] at h), by decide⟩
  case fileL =>
    intro k x _
    try dsimp only
    split
    · rfl
    · exact ⟨by decide, fun h => by (simp [needs] at h), ⟨by decide, fun h => by (simp [needs] at h), by decide⟩⟩
  case forFirst =>
    intro k x _
    try dsimp only
    split <;> exact ⟨by decide, fun h => by (simp [needs] at h), by decide⟩
  case assign =>
    refine ⟨by decide, fun h => by (simp [needs] at h), ?_⟩
    intro k x _
    try dsimp only
    split
    · rfl
    · rename_i hk; rw [val_assign hk]; exact bal_take (by decide) ⟨by decide, fun h => by (simp [needs] at h), by rfl⟩
  case climbL n =>
    intro k x _
    try dsimp only
    split
    · rfl
    · rename_i hk
      try dsimp only
      split
      · rfl
      · rw [val_op hk]; exact bal_take (by decide) ⟨by simp [low], fun h => by (simp [needs] at h), ⟨by simp [low, bal], fun h => by (simp [needs] at h), by simp [bal]⟩⟩
  case unary =>
    intro k x _
    try dsimp only
    split
    · exact ⟨by decide, fun h => by (simp [needs] at h), by decide⟩
    · rename_i hk; rw [val_prefix hk]; exact bal_take (by decide) ⟨by decide, fun h => by (simp [needs] at h), by rfl⟩
  case upTo b =>
    cases b
    · exact bal_sees (bal_take (by decide) (by rfl)) ⟨by decide, fun h => by (simp [needs] at h), bal_sg (by decide) (by rfl)⟩
    · exact bal_sees (bal_take (by decide) (by rfl)) ⟨by decide, fun h => by (simp [needs] at h), bal_sg (by decide) (by rfl)⟩
  all_goals repeat' (first | exact trivial | exact rfl | apply bal_here | apply bal_numd | apply bal_op | apply bal_typ | apply bal_add | apply bal_sees | apply bal_sg | apply bal_wd | apply bal_name | apply bal_nameO | apply bal_type | apply bal_take | apply bal_call | apply bal_tail | decide | (simp [low, bal]; done) | (intro h; first | exact rfl | (simp [needs] at h; done)))

theorem run_bal {l : List PT} (hl : LastEnd l) : ∀ (f : Nat) (nt : NT) (x : Loc) (s : PS) (ks : List Nat) (s' : PS), (needs nt = true → val (tokAt l s.pos).kind (tokAt l s.pos).text = 0) → run l f nt x s = .ok ks s' →
    depth l s'.pos = depth l s.pos + bal nt ∧ ∀ j, s.pos ≤ j → j < s'.pos → depth l s.pos + low nt ≤ depth l j := by
  intro f
  induction f with
  | zero => intro nt x s ks s' _ h; simp [run] at h
  | succ f ih =>
    intro nt x s ks s' hn h
    have := exec_bal (fun nt x s ks s' h => (run_pos hl f nt x s ks s' h).1) ih (code nt) _ 0 x s ks s' (bal_code nt) (fun v hv => by
      split at hv
      · rename_i h1; cases hv; exact hn h1
      · cases hv) h
    exact ⟨by omega, fun j h1 h2 => by have := this.2 j h1 h2; omega⟩
end Go.Proofs.YteggenldmkbhiaaDoor.Parse
namespace Go.Proofs.YteggenldmkbhiaaDoor.Parse

def At (l : List PT) (i : Nat) (k : Int) (t : Bs) : Prop := (tokAt l i).kind = k ∧ (tokAt l i).text = t
theorem block_eq {l : List PT} (g p : Nat) (ns : List PN) (h4 : At l p 4 [123]) : run l (g + 1) .block {} ⟨p, ns⟩ = run l g .blockL { place := (tokAt l p).place } ⟨p + 1, ns⟩ := by
  simp [run_succ, code, exec, sees, sg, h4.1, h4.2]
theorem func_eq {l : List PT} {n : Bs} (h0 : At l 0 3 [105, 110, 116]) (h1 : At l 1 1 n) (h2 : At l 2 4 [40]) (h3 : At l 3 4 [41]) (h4 : At l 4 4 [123]) (g : Nat) :
    run l (g + 2) .func {} ⟨0, []⟩ = (run l g .blockL { place := (tokAt l 4).place } ⟨5, []⟩).andThen fun ks s =>
      .ok [s.nodes.length] ⟨s.pos, s.nodes ++ [⟨41, (tokAt l 0).place, 0, 1, 0, n, ks⟩]⟩ := by
  have hp : run l (g + 1) .params {} ⟨3, []⟩ = .ok [] ⟨3, []⟩ := by simp [run_succ, code, exec, sees, h3.1, h3.2]
  have hb := block_eq g 4 [] h4
  rw [run_succ]
  simp [code, exec, sees, sg, nameO, typeWord, h0.1, h0.2, h1.1, h1.2, h2.1, h2.2, typeT, hp, Res.andThen, h3.1, h3.2, hb]
theorem head_eq {l : List PT} {n : Bs} (h0 : At l 0 3 [105, 110, 116]) (h1 : At l 1 1 n) (h2 : At l 2 4 [40]) (h3 : At l 3 4 [41]) (h4 : At l 4 4 [123]) (g : Nat) :
    run l (g + 4) .fileL {} ⟨0, []⟩ = (run l g .blockL { place := (tokAt l 4).place } ⟨5, []⟩).andThen fun ks s =>
      run l (g + 3) .fileL { ks := [s.nodes.length] } ⟨s.pos, s.nodes ++ [⟨41, (tokAt l 0).place, 0, 1, 0, n, ks⟩]⟩ := by
  have hi : run l (g + 3) .item {} ⟨0, []⟩ = run l (g + 2) .func {} ⟨0, []⟩ := by
    rw [run_succ]
    simp [code, exec, sees, h0.1, h0.2, h1.1, h2.1, h2.2, typeT]
  rw [run_succ]
  simp only [code, exec, h0.1, Nat.add_zero]
  rw [if_neg (by decide)]
  simp only [exec, Bool.false_eq_true, if_false]
  have e : ({ typ := 0 } : Loc) = {} := rfl
  rw [e, hi, func_eq h0 h1 h2 h3 h4]
  cases run l g .blockL { place := (tokAt l 4).place } ⟨5, []⟩ <;> simp [Res.andThen]
/-- Behind the function comes the end. -/
theorem fileL_end {l : List PT} {p : Nat} (h : (tokAt l p).kind = 0) (g : Nat) (x : Loc) (ns : List PN) : run l (g + 1) .fileL x ⟨p, ns⟩ = .ok [ns.length] ⟨p, ns ++ [⟨40, x.place, x.op, x.typ, x.num, x.name, x.ks⟩]⟩ := by
  simp [run_succ, code, exec, h]
theorem parseAll_ok {l : List PT} (h : (parseAll l).2.2 = 0) : endsOnce l = true ∧ ∃ ks s, runAll l = .ok ks s ∧ parseAll l = (s.nodes, 0, 0) := by
  unfold parseAll at h ⊢
  split at h
  · rename_i he
    refine ⟨he, ?_⟩
    rw [if_pos he]
    split at h
    · rename_i ks s hr; exact ⟨ks, s, hr, rfl⟩
    · simp at h
    · simp at h
  · simp at h
theorem parseAll_of {l : List PT} {f : Nat} {ks : List Nat} {s : PS} (he : endsOnce l = true) (h : run l f .fileL {} ⟨0, []⟩ = .ok ks s) : parseAll l = (s.nodes, 0, 0) := by
  have h1 : runAll l = .ok ks s := by
    unfold runAll
    rw [← h]
    exact run_same (runAll_total he) (by rw [h]; intro e; cases e)
  unfold parseAll
  rw [if_pos he, h1]
theorem run_up {l : List PT} {f f' : Nat} {nt : NT} {x : Loc} {s s' : PS} {ks : List Nat} (hf : f ≤ f') (h : run l f nt x s = .ok ks s') : run l f' nt x s = .ok ks s' := by
  rw [run_mono hf (by rw [h]; intro e; cases e), h]
theorem endsOnce_mk {l : List PT} (h0 : 0 < l.length) (h1 : l.length ≤ 4000) (h : ∀ i, i < l.length → ((tokAt l i).kind = 0 ↔ i = l.length - 1)) : endsOnce l = true := by
  simp only [endsOnce, Bool.and_eq_true, decide_eq_true_eq, List.all_eq_true, List.mem_range]
  exact ⟨⟨h0, h1⟩, h⟩
end Go.Proofs.YteggenldmkbhiaaDoor.Parse
namespace Go.Proofs.YteggenldmkbhiaaDoor.Parse

theorem ret_eq {l : List PT} (h5 : At l 5 3 [114, 101, 116, 117, 114, 110]) (h6 : ¬ ((tokAt l 6).kind = 4 ∧ (tokAt l 6).text = [59])) (g : Nat) :
    run l (g + 3) .stmt {} ⟨5, []⟩ = (run l g .expr {} ⟨6, []⟩).andThen fun ks s => exec l (run l g) (sg [59] (.add 29 .ret)) { place := (tokAt l 5).place, ks := ks } s := by
  have hw : wordT [114, 101, 116, 117, 114, 110] = .returnS := by simp [wordT, List.lookup]
  have h1 : run l (g + 1) .returnS {} ⟨5, []⟩ = (run l g .expr {} ⟨6, []⟩).andThen fun ks s => exec l (run l g) (sg [59] (.add 29 .ret)) { place := (tokAt l 5).place, ks := ks } s := by
    rw [run_succ]
    simp [code, exec, sees, h5.1, h6]
  have h2 : run l (g + 2) .wordS {} ⟨5, []⟩ = run l (g + 1) .returnS {} ⟨5, []⟩ := by
    rw [run_succ]; simp [code, exec, h5.2, hw]
  have h3 : run l (g + 3) .stmt {} ⟨5, []⟩ = run l (g + 2) .wordS {} ⟨5, []⟩ := by
    rw [run_succ]; simp [code, exec, h5.1]
  rw [h3, h2, h1]
theorem sgk {l : List PT} {rn : NT → Loc → PS → Res} {t : Bs} {c : Code} {x : Loc} {s : PS} (h : At l s.pos 4 t) : exec l rn (sg t c) x s = exec l rn c x ⟨s.pos + 1, s.nodes⟩ := by
  simp [sg, sees, exec, h.1, h.2]
theorem sg_inv {l : List PT} {rn : NT → Loc → PS → Res} {t : Bs} {c : Code} {x : Loc} {s s' : PS} {ks : List Nat} (h : exec l rn (sg t c) x s = .ok ks s') : At l s.pos 4 t := by
  simp only [sg, sees, exec, Nat.add_zero] at h
  split at h
  · assumption
  · simp [exec] at h
/-- The nodes of a function that returns an expression. -/
def retNodes (l : List PT) (n : Bs) (ks : List Nat) (ns : List PN) : List PN :=
  ns ++ [⟨29, (tokAt l 5).place, 0, 0, 0, [], ks⟩] ++ [⟨22, (tokAt l 4).place, 0, 0, 0, [], [ns.length]⟩] ++ [⟨41, (tokAt l 0).place, 0, 1, 0, n, [ns.length + 1]⟩] ++ [⟨40, 0, 0, 0, 0, [], [ns.length + 2]⟩]
theorem whole_eq {l : List PT} {n : Bs} (h0 : At l 0 3 [105, 110, 116]) (h1 : At l 1 1 n) (h2 : At l 2 4 [40]) (h3 : At l 3 4 [41]) (h4 : At l 4 4 [123]) (h5 : At l 5 3 [114, 101, 116, 117, 114, 110])
    (h6 : ¬ ((tokAt l 6).kind = 4 ∧ (tokAt l 6).text = [59])) (g : Nat) {ks : List Nat} {s : PS} (he : run l g .expr {} ⟨6, []⟩ = .ok ks s) (ha : At l s.pos 4 [59]) (hb : At l (s.pos + 1) 4 [125]) (hc : (tokAt l (s.pos + 2)).kind = 0) :
    run l (g + 8) .fileL {} ⟨0, []⟩ = .ok [s.nodes.length + 3] ⟨s.pos + 2, retNodes l n ks s.nodes⟩ := by
  have hS : run l (g + 3) .stmt {} ⟨5, []⟩ = .ok [s.nodes.length] ⟨s.pos + 1, s.nodes ++ [⟨29, (tokAt l 5).place, 0, 0, 0, [], ks⟩]⟩ := by
    rw [ret_eq h5 h6, he]
    simp only [Res.andThen]
    rw [sgk ha]
    simp [exec]
  have hB2 : ∀ (x : Loc) (ns : List PN), run l (g + 3) .blockL x ⟨s.pos + 1, ns⟩ = .ok [ns.length] ⟨s.pos + 2, ns ++ [⟨22, x.place, x.op, x.typ, x.num, x.name, x.ks⟩]⟩ := by
    intro x ns
    rw [run_succ]; simp [code, exec, sees, hb.1, hb.2]
  have hB : run l (g + 4) .blockL { place := (tokAt l 4).place } ⟨5, []⟩ = .ok [s.nodes.length + 1] ⟨s.pos + 2, s.nodes ++ [⟨29, (tokAt l 5).place, 0, 0, 0, [], ks⟩] ++ [⟨22, (tokAt l 4).place, 0, 0, 0, [], [s.nodes.length]⟩]⟩ := by
    rw [run_succ]
    simp only [code, exec, sees, Nat.add_zero]
    rw [if_neg (by rw [h5.1]; intro h; exact absurd h.1 (by decide))]
    simp only [exec, Bool.false_eq_true, if_false]
    have e : ({ typ := 0 } : Loc) = {} := rfl
    rw [e, hS]
    simp only [Res.andThen, List.nil_append]
    rw [hB2]
    simp
  rw [head_eq h0 h1 h2 h3 h4, hB]
  simp only [Res.andThen]
  rw [fileL_end hc]
  simp [retNodes]

theorem expr_in {l : List PT} {p : Nat} (h0 : At l p 4 [40]) {f : Nat} {ks : List Nat} {s : PS} (h : run l f .expr {} ⟨p + 1, []⟩ = .ok ks s) (h1 : At l s.pos 4 [41]) (h2 : At l (s.pos + 1) 4 [59]) :
    run l (f + 8) .expr {} ⟨p, []⟩ = .ok ks ⟨s.pos + 1, s.nodes⟩ := by
  have e : ({ typ := 0 } : Loc) = {} := rfl
  have hbr : run l (f + 1) .bracketed {} ⟨p, []⟩ = .ok ks ⟨s.pos + 1, s.nodes⟩ := by
    rw [run_succ]
    simp only [code]
    rw [sgk h0]
    simp only [exec, Bool.false_eq_true, if_false]
    rw [e, h]
    simp only [Res.andThen]
    rw [sgk h1]
    simp [exec]
  have hpr : run l (f + 2) .primary {} ⟨p, []⟩ = .ok ks ⟨s.pos + 1, s.nodes⟩ := by
    rw [run_succ]; simp [code, exec, h0.1, hbr]
  have hpl : ∀ x : Loc, run l (f + 2) .postL x ⟨s.pos + 1, s.nodes⟩ = .ok x.ks ⟨s.pos + 1, s.nodes⟩ := by
    intro x; rw [run_succ]; simp [code, exec, sees, h2.1, h2.2]
  have hpo : run l (f + 3) .posts {} ⟨p, []⟩ = .ok ks ⟨s.pos + 1, s.nodes⟩ := by
    rw [run_succ]; simp [code, exec, hpr, Res.andThen, hpl]
  have hun : run l (f + 4) .unary {} ⟨p, []⟩ = .ok ks ⟨s.pos + 1, s.nodes⟩ := by
    have hn : prefixT 4 [40] = none := by decide
    rw [run_succ]; simp [code, exec, h0.1, h0.2, hn, hpo]
  have hcl : ∀ x : Loc, run l (f + 4) (.climbL 1) x ⟨s.pos + 1, s.nodes⟩ = .ok x.ks ⟨s.pos + 1, s.nodes⟩ := by
    have hn : opT 4 [59] = none := by decide
    intro x; rw [run_succ]; simp [code, exec, h2.1, h2.2, hn]
  have hcb : run l (f + 5) (.climb 1) {} ⟨p, []⟩ = .ok ks ⟨s.pos + 1, s.nodes⟩ := by
    rw [run_succ]; simp [code, exec, hun, Res.andThen, hcl]
  have hco : run l (f + 6) .cond {} ⟨p, []⟩ = .ok ks ⟨s.pos + 1, s.nodes⟩ := by
    rw [run_succ]; simp [code, exec, hcb, Res.andThen, sees, h2.1, h2.2]
  have has : run l (f + 7) .assign {} ⟨p, []⟩ = .ok ks ⟨s.pos + 1, s.nodes⟩ := by
    have hn : assignT 4 [59] = none := by decide
    rw [run_succ]; simp [code, exec, hco, Res.andThen, h2.1, h2.2, hn]
  have hel : ∀ x : Loc, run l (f + 7) .exprL x ⟨s.pos + 1, s.nodes⟩ = .ok x.ks ⟨s.pos + 1, s.nodes⟩ := by
    intro x; rw [run_succ]; simp [code, exec, sees, h2.1, h2.2]
  rw [run_succ]; simp [code, exec, has, Res.andThen, hel]

/-- Are two nodes the same but for places? -/
def AlikeN (a b : PN) : Prop := b.kind = a.kind ∧ b.op = a.op ∧ b.type = a.type ∧ b.num = a.num ∧ b.name = a.name ∧ b.kids = a.kids
inductive AlikeL : List PN → List PN → Prop
  | nil : AlikeL [] []
  | cons {a b : PN} {A B : List PN} : AlikeN a b → AlikeL A B → AlikeL (a :: A) (b :: B)
theorem AlikeL.len {A B : List PN} (h : AlikeL A B) : B.length = A.length := by
  induction h with
  | nil => rfl
  | cons _ _ ih => simp [ih]
theorem AlikeL.app {A B C D : List PN} (h : AlikeL A B) (k : AlikeL C D) : AlikeL (A ++ C) (B ++ D) := by
  induction h with
  | nil => exact k
  | cons h0 _ ih => exact .cons h0 ih
theorem AlikeL.at {A B : List PN} (h : AlikeL A B) : ∀ {i : Nat} {a b : PN}, A[i]? = some a → B[i]? = some b → AlikeN a b := by
  induction h with
  | nil => intro i a b h; simp at h
  | cons h0 _ ih =>
    intro i a b ha hb
    cases i with
    | zero => simp at ha hb; subst ha hb; exact h0
    | succ i => exact ih (by simpa using ha) (by simpa using hb)
theorem alike_mk : ∀ {A B : List PN}, B.length = A.length → (∀ (i : Nat) (a : PN), A[i]? = some a → ∃ b : PN, B[i]? = some b ∧ AlikeN a b) → AlikeL A B := by
  intro A
  induction A with
  | nil => intro B h _; rw [List.eq_nil_of_length_eq_zero h]; exact .nil
  | cons a A ih =>
    intro B h hr
    cases B with
    | nil => simp at h
    | cons b B =>
      refine .cons ?_ (ih (by simpa using h) (fun i x hx => by simpa using hr (i + 1) x (by simpa using hx)))
      obtain ⟨b', hb, h2⟩ := hr 0 a rfl
      simp at hb; subst hb; exact h2
theorem alike_of {A B : List PN} (h : NodesRel [] A B) : AlikeL A B := by
  have hl := h.len
  simp only [List.length_nil, Nat.zero_add] at hl
  refine alike_mk hl (fun i a ha => ?_)
  obtain ⟨b, hb, hr⟩ := h.rel i a ha
  simp only [List.length_nil, Nat.zero_add] at hb
  obtain ⟨a1, a2, a3, a4, a5, a6⟩ := hr
  exact ⟨b, hb, a1, a2, a3, a4, a5, by simpa using a6⟩

theorem brackets {A B : List PT} {n : Bs} {k : Nat} (hk : 6 < k) (hA : (parseAll A).2.2 = 0) (hB : endsOnce B = true)
    (a0 : At A 0 3 [105, 110, 116]) (a1 : At A 1 1 n) (a2 : At A 2 4 [40]) (a3 : At A 3 4 [41]) (a4 : At A 4 4 [123]) (a5 : At A 5 3 [114, 101, 116, 117, 114, 110])
    (hp : ∀ j, 6 ≤ j → j < k → ¬ ((tokAt A j).kind = 4 ∧ (tokAt A j).text = [59])) (ak : At A k 4 [59]) (ak1 : At A (k + 1) 4 [125]) (ak2 : (tokAt A (k + 2)).kind = 0) (alen : A.length = k + 3)
    (b0 : At B 0 3 [105, 110, 116]) (b1 : At B 1 1 n) (b2 : At B 2 4 [40]) (b3 : At B 3 4 [41]) (b4 : At B 4 4 [123]) (b5 : At B 5 3 [114, 101, 116, 117, 114, 110]) (b6 : At B 6 4 [40])
    (hs : ∀ j, 6 ≤ j → j < k → sameTok (tokAt B (j + 1)) (tokAt A j)) (bk : At B (k + 1) 4 [41]) (bk1 : At B (k + 2) 4 [59]) (bk2 : At B (k + 3) 4 [125]) (bk3 : (tokAt B (k + 4)).kind = 0) (blen : B.length = k + 5) :
    ∃ nsA nsB, parseAll A = (nsA, 0, 0) ∧ parseAll B = (nsB, 0, 0) ∧ AlikeL nsA nsB := by
  obtain ⟨heA, ks, s, hr, hpa⟩ := parseAll_ok hA
  have hlA := endsOnce_last heA
  obtain ⟨g, hg⟩ : ∃ g, fuelOf A = g + 8 := ⟨fuelOf A - 8, by unfold fuelOf; omega⟩
  unfold runAll at hr
  rw [hg, head_eq a0 a1 a2 a3 a4 (g + 4)] at hr
  obtain ⟨ks1, s1, hb, hf⟩ := andThen_ok hr
  rw [run_succ] at hb
  simp only [code, exec, sees, Nat.add_zero] at hb
  rw [if_neg (by rw [a5.1]; intro h; exact absurd h.1 (by decide))] at hb
  simp only [exec, Bool.false_eq_true, if_false] at hb
  obtain ⟨ks2, s2, hst, hbl⟩ := andThen_ok hb
  have e : ({ typ := 0 } : Loc) = {} := rfl
  rw [e, ret_eq a5 (hp 6 (by omega) hk)] at hst
  obtain ⟨ks3, s3, hex, hsg⟩ := andThen_ok hst
  have hsemi := sg_inv hsg
  have hpos := run_pos hlA g .expr {} ⟨6, []⟩ ks3 s3 hex
  have h3k : s3.pos = k := by
    have h1 := hpos.1
    have h2 := hpos.2.2 (by show 6 < A.length; omega)
    have h6 : 6 ≤ s3.pos := h1
    rcases Nat.lt_trichotomy s3.pos k with h | h | h
    · exact absurd ⟨hsemi.1, hsemi.2⟩ (hp _ h6 h)
    · exact h
    · rcases (show s3.pos = k + 1 ∨ s3.pos = k + 2 by omega) with h7 | h7
      · rw [h7] at hsemi; have := hsemi.2.symm.trans ak1.2; cases this
      · rw [h7] at hsemi; have := hsemi.1.symm.trans ak2; cases this
  -- the list in between
  let A' : List PT := A.take k ++ B.drop (k + 1)
  have hlen' : A'.length = k + 4 := by simp [A']; omega
  have hlo : ∀ j, j < k → tokAt A' j = tokAt A j := by
    intro j hj
    simp only [tokAt, A', List.getD_eq_getElem?_getD]
    rw [List.getElem?_append_left (by simp; omega), List.getElem?_take, if_pos hj]
  have hhi : ∀ j, k ≤ j → tokAt A' j = tokAt B (j + 1) := by
    intro j hj
    simp only [tokAt, A', List.getD_eq_getElem?_getD]
    rw [List.getElem?_append_right (by simp; omega), List.getElem?_drop]
    simp only [List.length_take]
    rw [show k + 1 + (j - min k A.length) = j + 1 by omega]
  have hlA' : LastEnd A' := ⟨by omega, by rw [hlen', hhi _ (by omega)]; exact bk3⟩
  have hst' : StopAt A A' k := ⟨hlo, ak, by rw [hhi k (by omega)]; exact bk⟩
  have hex' := run_stop hlA hst' g .expr {} ⟨6, []⟩ ks3 s3 rfl (by show 6 ≤ k; omega) (by omega) hex
  have hsh : Shifted A' B 1 6 := by
    intro j hj
    rcases Nat.lt_or_ge j k with h | h
    · rw [hlo j h]; exact hs j hj h
    · rw [hhi j h]; exact ⟨rfl, rfl, rfl, rfl⟩
  have hres := run_shift (pre := []) hlA' hsh g .expr {} {} ⟨6, []⟩ ⟨7, []⟩ ⟨rfl, rfl, rfl, rfl, rfl⟩ ⟨rfl, ⟨rfl, fun i h => by simp at h, fun i a h => by simp at h⟩⟩ (Nat.le_refl _)
  rw [hex'] at hres
  obtain ⟨s4, hB4, hrel⟩ : ∃ s4, run B g .expr {} ⟨7, []⟩ = .ok ks3 s4 ∧ StRel [] 1 s3 s4 := by
    generalize run B g .expr {} ⟨7, []⟩ = R at hres
    cases hres with
    | ok h => exact ⟨_, by simp, h⟩
  have h4p : s4.pos = k + 1 := by rw [hrel.pos, h3k]
  have hexB := expr_in b6 hB4 (by rw [h4p]; exact bk) (by rw [h4p]; exact bk1)
  have hwB := whole_eq b0 b1 b2 b3 b4 b5 (by intro h; have := b6.2.symm.trans h.2; cases this) (g + 8) hexB (by rw [h4p]; exact bk1) (by show At B (s4.pos + 1 + 1) _ _; rw [h4p]; exact bk2) (by show (tokAt B (s4.pos + 1 + 2)).kind = 0; rw [h4p]; exact bk3)
  have hwA := whole_eq a0 a1 a2 a3 a4 a5 (hp 6 (by omega) hk) g hex (by rw [h3k]; exact ak) (by rw [h3k]; exact ak1) (by rw [h3k]; exact ak2)
  refine ⟨_, _, parseAll_of heA hwA, parseAll_of hB hwB, ?_⟩
  have hal := alike_of hrel.nodes
  have hll := hal.len
  simp only [retNodes]
  refine (((hal.app ?_).app ?_).app ?_).app ?_
  all_goals refine .cons ?_ .nil
  all_goals simp [AlikeN, hll]
end Go.Proofs.YteggenldmkbhiaaDoor.Parse
namespace Go.Proofs.YteggenldmkbhiaaDoor.Parse

/-- A block's last node is the block's. -/
theorem blockL_last {l : List PT} : ∀ (f : Nat) (x : Loc) (s : PS) (ks : List Nat) (s' : PS), run l f .blockL x s = .ok ks s' → ∃ X b, s'.nodes = X ++ [b] ∧ b.kind = 22 := by
  intro f
  induction f with
  | zero => intro x s ks s' h; simp [run] at h
  | succ f ih =>
    intro x s ks s' h
    rw [run_succ] at h
    simp only [code, exec, sees, Nat.add_zero] at h
    split at h
    · simp only [exec] at h
      split at h
      · cases h
      · simp only [Res.ok.injEq] at h
        obtain ⟨_, rfl⟩ := h
        exact ⟨s.nodes, _, rfl, rfl⟩
    · simp only [exec] at h
      obtain ⟨ks1, s1, _, h2⟩ := andThen_ok h
      exact ih _ _ _ _ h2
/-- A list that has A's tokens ahead of k, and from k on those of B from m on. -/
def mix (A B : List PT) (k m : Nat) : List PT := A.take k ++ B.drop m
theorem mix_lo {A B : List PT} {k m j : Nat} (hk : k ≤ A.length) (hj : j < k) : tokAt (mix A B k m) j = tokAt A j := by
  simp only [tokAt, mix, List.getD_eq_getElem?_getD]
  rw [List.getElem?_append_left (by simp; omega), List.getElem?_take, if_pos hj]
theorem mix_hi {A B : List PT} {k m j : Nat} (hk : k ≤ A.length) : tokAt (mix A B k m) (k + j) = tokAt B (m + j) := by
  simp only [tokAt, mix, List.getD_eq_getElem?_getD]
  rw [List.getElem?_append_right (by simp; omega), List.getElem?_drop]
  simp only [List.length_take]
  rw [show m + (k + j - min k A.length) = m + j by omega]
theorem mix_len {A B : List PT} {k m : Nat} (hk : k ≤ A.length) : (mix A B k m).length = k + (B.length - m) := by simp [mix]; omega

theorem blocks {A B : List PT} {n : Bs} {k : Nat} (hk : 5 ≤ k) (hA : (parseAll A).2.2 = 0) (hB : endsOnce B = true)
    (a0 : At A 0 3 [105, 110, 116]) (a1 : At A 1 1 n) (a2 : At A 2 4 [40]) (a3 : At A 3 4 [41]) (a4 : At A 4 4 [123])
    (hd : ∀ j, 5 ≤ j → j ≤ k → depth A 5 ≤ depth A j) (ak : (tokAt A (k + 1)).kind = 0) (alen : A.length = k + 2)
    (b0 : At B 0 3 [105, 110, 116]) (b1 : At B 1 1 n) (b2 : At B 2 4 [40]) (b3 : At B 3 4 [41]) (b4 : At B 4 4 [123]) (b5 : At B 5 4 [123])
    (hs : ∀ j, 5 ≤ j → j ≤ k → sameTok (tokAt B (j + 1)) (tokAt A j)) (bk1 : At B (k + 2) 4 [125]) (bk2 : (tokAt B (k + 3)).kind = 0) (blen : B.length = k + 4) :
    ∃ X Y nsA nsB, parseAll A = (nsA, 0, 0) ∧ parseAll B = (nsB, 0, 0) ∧ AlikeL X Y ∧ nsA.length = X.length + 3 ∧ nsB.length = X.length + 4 ∧ (∀ i, i < X.length → nsA[i]? = X[i]? ∧ nsB[i]? = Y[i]?) ∧
      (∃ b c, nsB[X.length]? = some b ∧ nsB[X.length + 1]? = some c ∧ b.kind = 22 ∧ c.kind = 22) := by
  obtain ⟨heA, ks, s, hr, hpa⟩ := parseAll_ok hA
  have hlA := endsOnce_last heA
  obtain ⟨g, hg⟩ : ∃ g, fuelOf A = g + 4 := ⟨fuelOf A - 4, by unfold fuelOf; omega⟩
  unfold runAll at hr
  rw [hg, head_eq a0 a1 a2 a3 a4 g] at hr
  obtain ⟨ks1, s1, hb, hf⟩ := andThen_ok hr
  have hpos := run_pos hlA g .blockL _ ⟨5, []⟩ ks1 s1 hb
  have hbal := run_bal hlA g .blockL _ ⟨5, []⟩ ks1 s1 (fun h => by cases h) hb
  have h1k : s1.pos = k + 1 := by
    have h1 := hpos.2.2 (by show 5 < A.length; omega)
    have h2 : 5 ≤ s1.pos := hpos.1
    have h3 : depth A s1.pos = depth A 5 + -1 := hbal.1
    rcases Nat.lt_or_ge k s1.pos with h | h
    · omega
    · have := hd s1.pos h2 h; omega
  let A2 := mix A B (k + 1) (k + 2)
  have hlo : ∀ j, j < k + 1 → tokAt A2 j = tokAt A j := fun j hj => mix_lo (by omega) hj
  have hhi : ∀ j, k + 1 ≤ j → tokAt A2 j = tokAt B (j + 1) := by
    intro j hj
    obtain ⟨i, rfl⟩ : ∃ i, j = k + 1 + i := ⟨j - (k + 1), by omega⟩
    rw [show tokAt A2 (k + 1 + i) = tokAt B (k + 2 + i) from mix_hi (by omega)]
    congr 1; omega
  have hlen2 : A2.length = k + 3 := by rw [show A2.length = _ from mix_len (by omega)]; omega
  have hl2 : LastEnd A2 := ⟨by omega, by rw [hlen2, hhi _ (by omega)]; exact bk2⟩
  have hcut : CutOf A2 A (k + 1) := ⟨fun j hj => (hlo j hj).symm, ak⟩
  have hb2 : run A2 g .blockL { place := (tokAt A 4).place } ⟨5, []⟩ = .ok ks1 s1 := by
    rcases run_clo hcut g .blockL { place := (tokAt A 4).place } ⟨5, []⟩ rfl (by show 5 < k + 1; omega) with h | h
    · rw [hb] at h; rcases h with h | h <;> cases h
    · rw [← h, hb]
  have hsh : Shifted A2 B 1 5 := by
    intro j hj
    rcases Nat.lt_or_ge j (k + 1) with h | h
    · rw [hlo j h]; exact hs j hj (by omega)
    · rw [hhi j h]; exact ⟨rfl, rfl, rfl, rfl⟩
  have hres := run_shift (pre := []) hl2 hsh g .blockL { place := (tokAt A 4).place } { place := (tokAt B 5).place } ⟨5, []⟩ ⟨6, []⟩ ⟨rfl, rfl, rfl, rfl, rfl⟩ ⟨rfl, ⟨rfl, fun i h => by simp at h, fun i a h => by simp at h⟩⟩ (Nat.le_refl _)
  rw [hb2] at hres
  obtain ⟨s4, hB4, hrel⟩ : ∃ s4, run B g .blockL { place := (tokAt B 5).place } ⟨6, []⟩ = .ok ks1 s4 ∧ StRel [] 1 s1 s4 := by
    generalize run B g .blockL { place := (tokAt B 5).place } ⟨6, []⟩ = R at hres
    cases hres with
    | ok h => exact ⟨_, by simp, h⟩
  have h4p : s4.pos = k + 2 := by rw [hrel.pos, h1k]
  have e : ({ typ := 0 } : Loc) = {} := rfl
  have hst : run B (g + 2) .stmt {} ⟨5, []⟩ = .ok ks1 s4 := by
    have h1 : run B (g + 1) .block {} ⟨5, []⟩ = .ok ks1 s4 := by rw [block_eq g 5 [] b5, hB4]
    rw [run_succ]
    simp [code, exec, b5.1, b5.2, h1]
  have hB2 : ∀ (x : Loc) (p : Nat) (ns : List PN), p = k + 2 → run B (g + 2) .blockL x ⟨p, ns⟩ = .ok [ns.length] ⟨k + 3, ns ++ [⟨22, x.place, x.op, x.typ, x.num, x.name, x.ks⟩]⟩ := by
    intro x p ns hp
    subst hp
    rw [run_succ]; simp [code, exec, sees, bk1.1, bk1.2]
  have hB3 : run B (g + 3) .blockL { place := (tokAt B 4).place } ⟨5, []⟩ = .ok [s4.nodes.length] ⟨k + 3, s4.nodes ++ [⟨22, (tokAt B 4).place, 0, 0, 0, [], ks1⟩]⟩ := by
    rw [run_succ]
    simp only [code, exec, sees, Nat.add_zero]
    rw [if_neg (by rw [b5.2]; intro h; exact absurd h.2 (by decide))]
    simp only [exec, Bool.false_eq_true, if_false]
    rw [e, hst]
    simp only [Res.andThen, List.nil_append]
    exact hB2 _ _ _ h4p
  have hwB : run B (g + 3 + 4) .fileL {} ⟨0, []⟩ = .ok [s4.nodes.length + 2] ⟨k + 3, s4.nodes ++ [⟨22, (tokAt B 4).place, 0, 0, 0, [], ks1⟩] ++ [⟨41, (tokAt B 0).place, 0, 1, 0, n, [s4.nodes.length]⟩] ++ [⟨40, 0, 0, 0, 0, [], [s4.nodes.length + 1]⟩]⟩ := by
    rw [head_eq b0 b1 b2 b3 b4, hB3]
    simp only [Res.andThen]
    rw [fileL_end bk2]
    simp
  have hwA : run A (g + 4) .fileL {} ⟨0, []⟩ = .ok [s1.nodes.length + 1] ⟨k + 1, s1.nodes ++ [⟨41, (tokAt A 0).place, 0, 1, 0, n, ks1⟩] ++ [⟨40, 0, 0, 0, 0, [], [s1.nodes.length]⟩]⟩ := by
    rw [head_eq a0 a1 a2 a3 a4, hb]
    simp only [Res.andThen, h1k]
    rw [fileL_end ak]
    simp
  obtain ⟨X, bx, hX, hbx⟩ := blockL_last _ _ _ _ _ hb
  have hal := alike_of hrel.nodes
  have hll := hal.len
  obtain ⟨Y, y, hY⟩ : ∃ Y y, s4.nodes = Y ++ [y] := by
    rcases List.eq_nil_or_concat s4.nodes with h | ⟨Y, y, h⟩
    · rw [h, hX] at hll; simp at hll
    · exact ⟨Y, y, by rw [h]; simp⟩
  have hXY : Y.length = X.length := by rw [hX, hY] at hll; simpa using hll
  have hy : y.kind = 22 := by
    have h1 := hal.at (i := X.length) (a := bx) (b := y) (by rw [hX]; simp) (by rw [hY, ← hXY]; simp)
    rw [h1.1, hbx]
  have hXYa : AlikeL X Y := alike_mk hXY (fun i a ha => by
    have hi : i < X.length := (List.getElem?_eq_some_iff.1 ha).1
    refine ⟨Y[i], List.getElem?_eq_getElem (by omega), hal.at (i := i) ?_ ?_⟩
    · rw [hX, List.getElem?_append_left hi]; exact ha
    · rw [hY, List.getElem?_append_left (by omega)]; exact List.getElem?_eq_getElem (by omega))
  refine ⟨X, Y, _, _, parseAll_of heA hwA, parseAll_of hB hwB, hXYa, ?_, ?_, ?_, ?_⟩
  · simp [hX]
  · simp [hY, hXY]
  · intro i hi
    constructor
    · simp only [hX, List.append_assoc]; rw [List.getElem?_append_left hi]
    · simp only [hY, List.append_assoc]; rw [List.getElem?_append_left (by omega)]
  · refine ⟨y, ⟨22, (tokAt B 4).place, 0, 0, 0, [], ks1⟩, ?_, ?_, hy, rfl⟩
    · simp only [hY, List.append_assoc, ← hXY]; simp
    · simp only [hY, List.append_assoc, ← hXY]; simp
end Go.Proofs.YteggenldmkbhiaaDoor.Parse
namespace Go.Proofs.YteggenldmkbhiaaDoor.Parse

theorem fileL_succ {l : List PT} {p : Nat} (h : (tokAt l p).kind ≠ 0) (g : Nat) (x : Loc) (ns : List PN) :
    run l (g + 1) .fileL x ⟨p, ns⟩ = (run l g .item {} ⟨p, ns⟩).andThen fun ks s => run l g .fileL { x with ks := x.ks ++ ks } s := by
  rw [run_succ]
  simp only [code, exec, Nat.add_zero]
  rw [if_neg h]
  simp only [exec, Bool.false_eq_true, if_false]
/-- The files up to the first one's end. -/
theorem joined_one {A C : List PT} {u : Nat} (hA : endsOnce A = true) (hu : A.length = u + 1) (hc : CutOf C A u) : ∀ (f : Nat) (x : Loc) (s : PS) (ks : List Nat) (s' : PS), s.pos ≤ u → run A f .fileL x s = .ok ks s' →
    ∃ (m : Nat) (x2 : Loc) (s2 : PS) (b : PN), s2.pos = u ∧ s'.nodes = s2.nodes ++ [b] ∧ ∀ g, f ≤ g → run C (g + m) .fileL x s = run C g .fileL x2 s2 := by
  have hl := endsOnce_last hA
  intro f
  induction f with
  | zero => intro x s ks s' _ h; simp [run] at h
  | succ f ih =>
    intro x s ks s' hp h
    obtain ⟨p, ns⟩ := s
    rcases Nat.lt_or_ge p u with h1 | h1
    · have hk : (tokAt A p).kind ≠ 0 := fun h0 => by have := (endsOnce_iff hA (k := p) (by omega)).1 h0; omega
      rw [fileL_succ hk] at h
      obtain ⟨ks1, s1, h2, h3⟩ := andThen_ok h
      have hit : run C f .item {} ⟨p, ns⟩ = .ok ks1 s1 := by
        rcases run_clo hc f .item {} ⟨p, ns⟩ rfl h1 with h4 | h4
        · rw [h2] at h4; rcases h4 with h4 | h4 <;> cases h4
        · rw [← h4, h2]
      have hp1 := (run_pos hl f .item {} ⟨p, ns⟩ ks1 s1 h2).2.2 (by show p < A.length; omega)
      obtain ⟨m, x2, s2, b, e1, e2, e3⟩ := ih _ s1 ks s' (by omega) h3
      refine ⟨m + 1, x2, s2, b, e1, e2, fun g hg => ?_⟩
      rw [show g + (m + 1) = (g + m) + 1 by omega, fileL_succ (by rw [← hc.same p h1]; exact hk), run_up (show f ≤ g + m by omega) hit]
      exact e3 g (by omega)
    · have hpu : p = u := by have : p ≤ u := hp; omega
      subst hpu
      rw [fileL_end hc.stop] at h
      simp only [Res.ok.injEq] at h
      obtain ⟨_, rfl⟩ := h
      exact ⟨0, x, ⟨p, ns⟩, _, rfl, rfl, fun g _ => rfl⟩
/-- The second file, with the first one's nodes ahead of its own. -/
theorem joined_two {B C : List PT} {u : Nat} {X : List PN} (hB : LastEnd B) (hs : Shifted B C u 0) : ∀ (f : Nat) (x xC : Loc) (s sC : PS) (ks : List Nat) (s' : PS), StRel X u s sC → run B f .fileL x s = .ok ks s' →
    ∃ ksC sC' N NC b c, run C f .fileL xC sC = .ok ksC sC' ∧ s'.nodes = N ++ [b] ∧ sC'.nodes = NC ++ [c] ∧ NodesRel X N NC := by
  intro f
  induction f with
  | zero => intro x xC s sC ks s' _ h; simp [run] at h
  | succ f ih =>
    intro x xC s sC ks s' hr h
    obtain ⟨p, ns⟩ := s
    obtain ⟨q, ms⟩ := sC
    have hq : q = p + u := hr.pos
    subst hq
    have hk := (hs p (Nat.zero_le _)).1
    by_cases h0 : (tokAt B p).kind = 0
    · rw [fileL_end h0] at h
      simp only [Res.ok.injEq] at h
      obtain ⟨_, rfl⟩ := h
      exact ⟨_, _, ns, ms, _, _, fileL_end (by rw [hk]; exact h0) f xC ms, rfl, rfl, hr.nodes⟩
    · rw [fileL_succ h0] at h
      obtain ⟨ks1, s1, h2, h3⟩ := andThen_ok h
      have hres := run_shift (pre := X) hB hs f .item {} {} ⟨p, ns⟩ ⟨p + u, ms⟩ ⟨rfl, rfl, rfl, rfl, rfl⟩ hr (Nat.zero_le _)
      rw [h2] at hres
      rw [fileL_succ (by rw [hk]; exact h0)]
      generalize run C f .item {} ⟨p + u, ms⟩ = R at hres
      cases hres with
      | ok hr1 =>
        simp only [Res.andThen]
        exact ih _ _ _ _ _ _ hr1 h3

theorem joined {A B C : List PT} {u v : Nat} (hA : (parseAll A).2.2 = 0) (hB : (parseAll B).2.2 = 0) (hC : endsOnce C = true) (alen : A.length = u + 1) (blen : B.length = v + 1) (clen : C.length = u + v + 1)
    (ha : ∀ j, j < u → sameTok (tokAt C j) (tokAt A j)) (hb : ∀ j, j ≤ v → sameTok (tokAt C (u + j)) (tokAt B j)) :
    ∃ X Y Z nsA nsB nsC, parseAll A = (nsA, 0, 0) ∧ parseAll B = (nsB, 0, 0) ∧ parseAll C = (nsC, 0, 0) ∧ (∃ b, nsA = X ++ [b]) ∧ (∃ b, nsB = Y ++ [b]) ∧ (∃ b, nsC = Z ++ [b]) ∧ Z.length = X.length + Y.length ∧
      ∀ (i : Nat) (c : PN), Z[i]? = some c → ∃ w, (X ++ Y)[i]? = some w ∧ c.kind = w.kind ∧ c.op = w.op ∧ c.name = w.name ∧ c.num = w.num := by
  obtain ⟨heA, ksA, sA, hrA, hpA⟩ := parseAll_ok hA
  obtain ⟨heB, ksB, sB, hrB, hpB⟩ := parseAll_ok hB
  have hlB := endsOnce_last heB
  have hlC := endsOnce_last hC
  let C1 := mix A C u u
  have hlo : ∀ j, j < u → tokAt C1 j = tokAt A j := fun j hj => mix_lo (by omega) hj
  have hhi : ∀ j, tokAt C1 (u + j) = tokAt C (u + j) := fun j => mix_hi (by omega)
  have hlen1 : C1.length = u + v + 1 := by rw [show C1.length = _ from mix_len (by omega)]; omega
  have hl1 : LastEnd C1 := ⟨by omega, by rw [hlen1, show u + v + 1 - 1 = u + v by omega, hhi, ← show C.length - 1 = u + v by omega]; exact hlC.2⟩
  have hcut : CutOf C1 A u := ⟨fun j hj => (hlo j hj).symm, (endsOnce_iff heA (by omega)).2 (by omega)⟩
  have hout : ∀ {l : List PT} {j : Nat}, l.length ≤ j → tokAt l j = noTok := fun {l j} h => by simp [tokAt, List.getD_eq_getElem?_getD, List.getElem?_eq_none h]
  have hsB : Shifted B C1 u 0 := by
    intro j _
    rw [Nat.add_comm j u, hhi]
    rcases Nat.lt_or_ge v j with h | h
    · rw [hout (show C.length ≤ u + j by omega), hout (show B.length ≤ j by omega)]; exact ⟨rfl, rfl, rfl, rfl⟩
    · exact hb j h
  have hsC : Shifted C1 C 0 0 := by
    intro j _
    rw [Nat.add_zero]
    rcases Nat.lt_or_ge j u with h | h
    · rw [hlo j h]; exact ha j h
    · obtain ⟨i, rfl⟩ : ∃ i, j = u + i := ⟨j - u, by omega⟩
      rw [hhi]; exact ⟨rfl, rfl, rfl, rfl⟩
  unfold runAll at hrA hrB
  obtain ⟨m, x2, s2, bA, e1, e2, e3⟩ := joined_one heA alen hcut _ _ ⟨0, []⟩ _ _ (Nat.zero_le _) hrA
  obtain ⟨ks2, sC', N, NC, b, c, f1, f2, f3, f4⟩ := joined_two (X := s2.nodes) hlB hsB _ {} x2 ⟨0, []⟩ s2 _ _ ⟨by rw [e1]; simp, ⟨by simp, fun i hi => rfl, fun i a h => by simp at h⟩⟩ hrB
  have hrun : run C1 (max (fuelOf A) (fuelOf B) + m) .fileL {} ⟨0, []⟩ = .ok ks2 sC' := by
    rw [e3 _ (Nat.le_max_left _ _)]
    exact run_up (Nat.le_max_right _ _) f1
  have hres := run_shift (pre := []) hl1 hsC (max (fuelOf A) (fuelOf B) + m) .fileL {} {} ⟨0, []⟩ ⟨0, []⟩ ⟨rfl, rfl, rfl, rfl, rfl⟩ ⟨rfl, ⟨rfl, fun i h => by simp at h, fun i a h => by simp at h⟩⟩ (Nat.le_refl _)
  rw [hrun] at hres
  obtain ⟨sD, hD, hrel⟩ : ∃ s4, run C (max (fuelOf A) (fuelOf B) + m) .fileL {} ⟨0, []⟩ = .ok ks2 s4 ∧ StRel [] 0 sC' s4 := by
    generalize run C (max (fuelOf A) (fuelOf B) + m) .fileL {} ⟨0, []⟩ = R at hres
    cases hres with
    | ok h => exact ⟨_, by simp, h⟩
  have hal := alike_of hrel.nodes
  have hll := hal.len
  obtain ⟨Z, z, hZ⟩ : ∃ Z z, sD.nodes = Z ++ [z] := by
    rcases List.eq_nil_or_concat sD.nodes with h | ⟨Z, z, h⟩
    · rw [h, f3] at hll; simp at hll
    · exact ⟨Z, z, by rw [h]; simp⟩
  have hZN : Z.length = NC.length := by rw [f3, hZ] at hll; simpa using hll
  refine ⟨s2.nodes, N, Z, _, _, _, parseAll_of heA hrA, parseAll_of heB hrB, parseAll_of hC hD, ⟨bA, e2⟩, ⟨b, f2⟩, ⟨z, hZ⟩, by rw [hZN, f4.len], fun i w hw => ?_⟩
  have hi : i < Z.length := (List.getElem?_eq_some_iff.1 hw).1
  obtain ⟨y, hy⟩ : ∃ y, NC[i]? = some y := ⟨_, List.getElem?_eq_getElem (by omega)⟩
  have h1 := hal.at (i := i) (a := y) (b := w) (by rw [f3, List.getElem?_append_left (by omega)]; exact hy) (by rw [hZ, List.getElem?_append_left hi]; exact hw)
  rcases Nat.lt_or_ge i s2.nodes.length with h2 | h2
  · have h3 := f4.old i h2
    rw [hy] at h3
    exact ⟨y, by rw [List.getElem?_append_left h2]; exact h3.symm, h1.1, h1.2.1, h1.2.2.2.2.1, h1.2.2.2.1⟩
  · obtain ⟨k, rfl⟩ : ∃ k, i = s2.nodes.length + k := ⟨i - s2.nodes.length, by omega⟩
    have hkN : k < N.length := by have := f4.len; omega
    obtain ⟨y', hy', hr'⟩ := f4.rel k N[k] (List.getElem?_eq_getElem hkN)
    rw [hy] at hy'
    cases hy'
    exact ⟨N[k], by rw [List.getElem?_append_right (by omega), Nat.add_sub_cancel_left]; exact List.getElem?_eq_getElem hkN, by rw [h1.1, hr'.1], by rw [h1.2.1, hr'.2.1], by rw [h1.2.2.2.2.1, hr'.2.2.2.2.1], by rw [h1.2.2.2.1, hr'.2.2.2.1]⟩

theorem cuts {A B : List PT} {k : Nat} (hA : (parseAll A).2.2 = 0) (hk : k < A.length) (hB : endsOnce B = true) (blen : B.length = k + 1) (hs : ∀ j, j < k → tokAt B j = tokAt A j) (hp : (tokAt B k).place = (tokAt A k).place) :
    (parseAll B).2.2 = 0 ∨ ((parseAll B).2.2 = 20 ∧ (parseAll B).2.1 = (tokAt A k).place) := by
  obtain ⟨heA, ks, s, hr, hpa⟩ := parseAll_ok hA
  have hend : (tokAt B k).kind = 0 := (endsOnce_iff hB (k := k) (by omega)).2 (by omega)
  have hto := runAll_total hB
  unfold runAll at hr hto
  have hfl : fuelOf B ≤ fuelOf A := by unfold fuelOf; omega
  have hup := run_mono hfl hto
  have hrB : parseAll B = (match run B (fuelOf A) .fileL {} ⟨0, []⟩ with | .ok _ s => (s.nodes, 0, 0) | .bad k => ([], (tokAt B k).place, 20) | .out => ([], 0, 99)) := by
    unfold parseAll runAll; rw [if_pos hB, hup]
    all_goals (cases run B (fuelOf B) .fileL {} ⟨0, []⟩ <;> rfl)
  have hcase : Stuck k (run B (fuelOf A) .fileL {} ⟨0, []⟩) ∨ run B (fuelOf A) .fileL {} ⟨0, []⟩ = .ok ks s := by
    rcases Nat.eq_zero_or_pos k with h0 | h0
    · left
      obtain ⟨g, hg⟩ : ∃ g, fuelOf A = g + 1 := ⟨fuelOf A - 1, by unfold fuelOf; omega⟩
      rw [hg]
      subst h0
      rw [fileL_end hend]
      exact .inr (.inr ⟨_, _, rfl, rfl⟩)
    · rcases run_cut (l := A) (l' := B) ⟨hs, hend⟩ (fuelOf A) .fileL {} ⟨0, []⟩ h0 with h | h
      · exact .inl h
      · exact .inr (h.1.trans hr)
  rw [hrB]
  rcases hcase with (h | h | ⟨ks', s', h, _⟩) | h
  · exact absurd h (by rw [hup]; exact hto)
  · right; rw [h]; exact ⟨rfl, hp⟩
  · left; rw [h]
  · left; rw [h]

/-- A file's last node is the file's. -/
theorem fileL_last {l : List PT} : ∀ (f : Nat) (x : Loc) (s : PS) (ks : List Nat) (s' : PS), run l f .fileL x s = .ok ks s' → ∃ X b, s'.nodes = X ++ [b] ∧ b.kind = 40 ∧ ks = [X.length] := by
  intro f
  induction f with
  | zero => intro x s ks s' h; simp [run] at h
  | succ f ih =>
    intro x s ks s' h
    obtain ⟨p, ns⟩ := s
    by_cases h0 : (tokAt l p).kind = 0
    · rw [fileL_end h0] at h
      simp only [Res.ok.injEq] at h
      obtain ⟨rfl, rfl⟩ := h
      exact ⟨ns, _, rfl, rfl, rfl⟩
    · rw [fileL_succ h0] at h
      obtain ⟨ks1, s1, _, h2⟩ := andThen_ok h
      exact ih _ _ _ _ h2
theorem trees {A : List PT} (hA : (parseAll A).2.2 = 0) :
    ∃ X b, parseAll A = (X ++ [b], 0, 0) ∧ b.kind = 40 ∧ (X ++ [b]).length ≤ A.length ∧ Forest [X.length] (X ++ [b]) := by
  obtain ⟨heA, ks, s, hr, hpa⟩ := parseAll_ok hA
  have hl := endsOnce_last heA
  unfold runAll at hr
  obtain ⟨X, b, h1, h2, h3⟩ := fileL_last _ _ _ _ _ hr
  have hc := run_count _ _ _ _ _ _ hr
  have hp := (run_pos hl _ _ _ _ _ _ hr).2.2 hl.1
  have hf := run_forest _ _ _ _ _ _ [] hr ⟨by simp, fun i n h => by simp at h, by simp⟩
  rw [h1] at hc hf
  rw [h3] at hf
  refine ⟨X, b, by rw [hpa, h1], h2, ?_, hf⟩
  simp only [spare, List.length_nil] at hc
  omega
end Go.Proofs.YteggenldmkbhiaaDoor.Parse
