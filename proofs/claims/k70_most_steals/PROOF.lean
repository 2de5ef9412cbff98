import PyProof.Rows.All
import Wide.All
import OpenK.AllK
import Wide.FinOn
import HandS.ForMost
import HandS.More
import HandS.FStr
import HandS.IsInst
import HandS.Codes
import HandS.Defaults
import PySem.Challenge.RW_stealhall_k70_most_steals
set_option Elab.async false
set_option linter.all false
set_option maxRecDepth 100000
/-! Expressions: what they are, their text, how they lie in the heap. -/
namespace SH
open PySem L2
inductive Sg where
  | add | sub | mul | lt | eq
def Sg.txt : Sg → Str
  | .add => "+"
  | .sub => "-"
  | .mul => "*"
  | .lt => "<"
  | .eq => "=="
def Sg.lv : Sg → Int
  | .add => 2
  | .sub => 2
  | .mul => 3
  | .lt => 1
  | .eq => 1
inductive Ex where
  | num (n : Int)
  | nam (s : Str)
  | op (g : Sg) (l r : Ex)
def Ex.lv : Ex → Int
  | .num _ => 4
  | .nam _ => 4
  | .op g _ _ => g.lv
def Ex.lw : Ex → Int
  | .num _ => 9
  | .nam _ => 9
  | .op g _ _ => g.lv
def br (b : Bool) (t : Str) : Str := if b = true then ("(" : Str) ++ t ++ (")" : Str) else t
def lB (g : Sg) (l : Ex) : Bool := decide (l.lv < g.lv) || decide (l.lv = 1)
def rB (g : Sg) (r : Ex) : Bool := decide (r.lv ≤ g.lv)
def Ex.txt : Ex → Str
  | .num n => (toString n : String)
  | .nam s => s
  | .op g l r => br (lB g l) l.txt ++ (" " : Str) ++ g.txt ++ (" " : Str) ++ br (rB g r) r.txt
/-- at most n deep, its parts within bounds -/
def Ex.ok : Nat → Ex → Prop
  | 0, _ => False
  | _ + 1, .num n => n.natAbs.log2 < 1920
  | _ + 1, .nam s => s.length ≤ 2000
  | n + 1, .op _ l r => Ex.ok n l ∧ Ex.ok n r
def lenB : Nat → Nat
  | 0 => 2000
  | n + 1 => 2 * lenB n + 2000
theorem app_len (a b : Str) : (a ++ b).length = a.length + b.length := by
  show (a.cps ++ b.cps).size = _
  rw [Array.size_append]
  all_goals rfl
theorem emp_app (a : Str) : Str.empty ++ a = a := by
  show (⟨#[] ++ a.cps⟩ : Str) = a
  rw [Array.empty_append]
theorem Sg.len (g : Sg) : g.txt.length ≤ 2 := by cases g <;> decide +kernel
theorem br_len (b : Bool) (t : Str) : (br b t).length ≤ t.length + 2 := by
  unfold br
  split
  · rw [app_len, app_len]
    have h1 : ("(" : Str).length = 1 := by decide +kernel
    have h2 : (")" : Str).length = 1 := by decide +kernel
    omega
  · omega
theorem Ex.len : ∀ (n : Nat) (e : Ex), Ex.ok n e → e.txt.length ≤ lenB n
  | 0, _, h => h.elim
  | n + 1, .num i, h => by
    have q := PyProof.Rows.int_text_len_1921 (i := i) h
    show (PySem.Str.ofString (toString i)).length ≤ 2 * lenB n + 2000
    omega
  | n + 1, .nam s, h => by
    show s.length ≤ 2 * lenB n + 2000
    have : s.length ≤ 2000 := h
    omega
  | n + 1, .op g l r, h => by
    have h1 := Ex.len n l h.1
    have h2 := Ex.len n r h.2
    have q1 := br_len (lB g l) l.txt
    have q2 := br_len (rB g r) r.txt
    have q3 := g.len
    have hb : (" " : Str).length = 1 := by decide +kernel
    show (br (lB g l) l.txt ++ (" " : Str) ++ g.txt ++ (" " : Str) ++ br (rB g r) r.txt).length ≤ 2 * lenB n + 2000
    rw [app_len, app_len, app_len, app_len]
    omega
theorem Ex.ok_up : ∀ {n m : Nat} {e : Ex}, n ≤ m → Ex.ok n e → Ex.ok m e
  | 0, _, _, _, h => h.elim
  | n + 1, m + 1, .num _, _, h => h
  | n + 1, m + 1, .nam _, _, h => h
  | n + 1, m + 1, .op _ _ _, hm, h => ⟨Ex.ok_up (by omega) h.1, Ex.ok_up (by omega) h.2⟩
/-- what lies at v is the expression -/
def TrIn (H : Hp) : Ex → V → Prop
  | .num n, v => ∃ a, v = .ref a ∧ H a = some (.tup [.str "number", .int n])
  | .nam s, v => ∃ a, v = .ref a ∧ H a = some (.tup [.str "name", .str s])
  | .op g l r, v => ∃ a x y, v = .ref a ∧ H a = some (.tup [.str g.txt, x, y]) ∧ TrIn H l x ∧ TrIn H r y
/-- all but what stands at b stays -/
def But (b : Addr) (H H' : Hp) : Prop := ∀ a o, a ≠ b → H a = some o → H' a = some o
theorem But.of {b : Addr} {H H' : Hp} (h : Same H H') : But b H H' := fun a o _ e => h a o e
theorem But.trans {b : Addr} {H H1 H2 : Hp} (h : But b H H1) (k : But b H1 H2) : But b H H2 := fun a o n e => k a o n (h a o n e)
theorem TrIn.same {H H' : Hp} (h : Same H H') : ∀ {e : Ex} {v : V}, TrIn H e v → TrIn H' e v
  | .num n, v, ⟨a, e, k⟩ => ⟨a, e, h _ _ k⟩
  | .nam n, v, ⟨a, e, k⟩ => ⟨a, e, h _ _ k⟩
  | .op g l r, v, ⟨a, x, y, e, k, p, q⟩ => ⟨a, x, y, e, h _ _ k, TrIn.same h p, TrIn.same h q⟩
theorem lst_ne {H : Hp} {a b : Addr} {xs ys : List V} (h : H a = some (.tup xs)) (k : H b = some (.lst ys)) : a ≠ b := fun e => by
  rw [e, k] at h
  cases h
theorem TrIn.but {H H' : Hp} {b : Addr} {ys : List V} (hb : H b = some (.lst ys)) (h : But b H H') : ∀ {e : Ex} {v : V}, TrIn H e v → TrIn H' e v
  | .num n, v, ⟨a, e, k⟩ => ⟨a, e, h _ _ (lst_ne k hb) k⟩
  | .nam n, v, ⟨a, e, k⟩ => ⟨a, e, h _ _ (lst_ne k hb) k⟩
  | .op g l r, v, ⟨a, x, y, e, k, p, q⟩ => ⟨a, x, y, e, h _ _ (lst_ne k hb) k, TrIn.but hb h p, TrIn.but hb h q⟩
theorem same_new {H : Hp} {p : Addr} (h : H p = none) (o : HO) : Same H (upd H p o) := fun b u q => by
  rw [upd_ne (ne_of_none q h)]
  exact q
def Ex.head : Ex → Str
  | .num _ => "number"
  | .nam _ => "name"
  | .op g _ _ => g.txt
theorem TrIn.tup {H : Hp} : ∀ {e : Ex} {v : V}, TrIn H e v → ∃ a xs, v = .ref a ∧ H a = some (.tup xs) ∧ xs[0]? = some (.str e.head)
  | .num n, v, ⟨a, e, k⟩ => ⟨a, _, e, k, rfl⟩
  | .nam n, v, ⟨a, e, k⟩ => ⟨a, _, e, k, rfl⟩
  | .op g l r, v, ⟨a, x, y, e, k, p, q⟩ => ⟨a, _, e, k, rfl⟩
theorem Sg.ne_number (g : Sg) : g.txt ≠ ("number" : Str) := by cases g <;> decide +kernel
theorem Sg.ne_name (g : Sg) : g.txt ≠ ("name" : Str) := by cases g <;> decide +kernel
/-! ### d.get(k, x) of a dict of the module, keys texts -/
section
variable {X : Cx} {o e f : Expr} {apos cpos : Pos} {td ty tx : TE}
def KGet (K : PySem.W.Frag) (w : World) (a : Addr) (x : Str) (r : Option V) : Prop :=
  ∃ es n ou, K.lookup a = some ⟨.type "dict", none, .dict es n, #[]⟩ ∧ PySem.W.KeysLit w.params es.toList ∧ (a == sysModules) = false ∧ PySem.W.nsIn K a x = some ou ∧
    ((∃ v u, r = some v ∧ ou = some u ∧ RelV v u) ∨ (r = none ∧ ou = none))
def tKGet2 (K : PySem.W.Frag) (w : World) (td ty tx : TE) : TE := fun σ H Q => td σ H fun x H1 => ∃ a es n, x = .ref a ∧ K.lookup a = some ⟨.type "dict", none, .dict es n, #[]⟩ ∧ PySem.W.KeysLit w.params es.toList ∧
  ty σ H1 fun y H2 => tx σ H2 fun z H3 => ∃ k r, y = .str k ∧ KGet K w a k r ∧ Q (r.getD z) H3
theorem pe_kget2 (ho : PE X o td) (he : PE X e ty) (hf : PE X f tx) (m : M2 X o "get" apos e f cpos) : PE X (.Call (.Attribute o "get" apos) [e, f] [] cpos) (tKGet2 X.K X.w td ty tx) := by
  refine ⟨fun pins s σ H Q I h => ?_⟩
  refine wpAny_Call_method m.base m.few m.line PySem.F.plainAttrs_dict PySem.F.slot_dict_get PySem.F.type_dict_get (thn (ho.run pins s σ H _ I h) fun u s1 ⟨x, H1, I1, rx, a, es, n, ex, hl, hk, q1⟩ => ?_)
  subst ex
  obtain rfl : u = Value.ref a := rx
  have hm := PySem.W.mapOf_K (prog := X.prog) (w := X.w) I1.kIn hl hk
  refine ⟨hm.typeIs, fun b q => ?_, ?_⟩
  · cases q
    exact ⟨_, I1.kIn _ _ hl, rfl⟩
  rw [m.trees]
  refine Calls.callWith_builtin rfl (Calls.evalArgs_plain (Calls.spliced_cons (thn (he.run pins s1 σ H1 _ I1 q1) fun iv s2 ⟨y, H2, I2, ry, q2⟩ =>
    Calls.spliced_cons (thn (hf.run pins s2 σ H2 _ I2 q2) fun fv s3 ⟨z, H3, I3, rz, k, r, ey, g, q3⟩ => Calls.spliced_nil ?_))))
  subst ey
  obtain ⟨t, rfl⟩ := (show ∃ t, iv = Value.str k t from ry)
  obtain ⟨es', n', ou, hl', hk', low, hn, hr⟩ := g
  have hm3 := PySem.W.mapOf_K (prog := X.prog) (w := X.w) I3.kIn hl' hk'
  refine call_meetsIn PySem.F.slot_dict_get hm3.typeIs PySem.F.entry_dict_get (PySem.F.args_dict_get_3 _ _ _) (meets_dict_get_default (strKind X.prog X.w) a (strKind_is X.prog X.w k t) low fv) ⟨_, hm3, ?_⟩
  rw [PySem.W.find_K hl' hn]
  rcases hr with ⟨v, u, rfl, rfl, rv⟩ | ⟨rfl, rfl⟩
  · exact ⟨v, H3, I3.tok _, rv, q3⟩
  · exact ⟨z, H3, I3.tok _, rz, q3⟩
end
/-! ### rules within a comprehension: the written part by its name -/
section
variable {X : Cx}
theorem ix_tupK (K : PySem.W.Frag) (h : X.K = K := by rfl) : IxR X (rIxT K) := h ▸ ix_tup
theorem ix_listK (K : PySem.W.Frag) (h : X.K = K := by rfl) : IxR X (rIxL K) := h ▸ ix_list
theorem call_len_seqK (K : PySem.W.Frag) (h : X.K = K := by rfl) : CallR X (.builtin "len") (fun xs H Q => ∃ p ys, xs = [V.ref p] ∧ (SqL K H p ys ∨ SqT K H p ys) ∧ Q (.int (ys.length : Nat)) H) := h ▸ call_len_seq
theorem op_in_seqK (K : PySem.W.Frag) (h : X.K = K := by rfl) : OpR X (compareOp .In) (rIn K false) := h ▸ op_in_seq
theorem op_notIn_seqK (K : PySem.W.Frag) (h : X.K = K := by rfl) : OpR X (compareOp .NotIn) (rIn K true) := h ▸ op_notIn_seq
end
end SH

set_option Elab.async false
set_option linter.all false
set_option maxRecDepth 100000
namespace SH
open PySem L2
def topS (i : Nat) : Stmt := PySem.Challenge.pw_stealhall_k70_most_steals.main.body.getD i (.Pass ⟨0, 0, 0, 0⟩)
end SH

set_option Elab.async false
set_option linter.all false
set_option maxRecDepth 100000
namespace SH
open PySem L2
/-- the ways to choose so many out of so many -/
def ch : Nat → Nat → Nat
  | _, 0 => 1
  | 0, _ + 1 => 0
  | n + 1, k + 1 => ch n k + ch n (k + 1)
theorem ch_step : ∀ n k : Nat, ((k : Int) + 1) * (ch n (k + 1) : Int) = (ch n k : Int) * ((n : Int) - (k : Int))
  | 0, 0 => by decide
  | 0, k + 1 => by
    have h1 : ch 0 (k + 1 + 1) = 0 := rfl
    have h2 : ch 0 (k + 1) = 0 := rfl
    rw [h1, h2]
    simp
  | n + 1, 0 => by
    have h := ch_step n 0
    have h1 : ch (n + 1) (0 + 1) = ch n 0 + ch n (0 + 1) := rfl
    have h2 : ch n 0 = 1 := by cases n <;> rfl
    have h3 : ch (n + 1) 0 = 1 := rfl
    rw [h1, h3, h2]
    rw [h2] at h
    push_cast at h ⊢
    omega
  | n + 1, k + 1 => by
    have h := ch_step n k
    have h' := ch_step n (k + 1)
    have h1 : ch (n + 1) (k + 1 + 1) = ch n (k + 1) + ch n (k + 1 + 1) := rfl
    have h2 : ch (n + 1) (k + 1) = ch n k + ch n (k + 1) := rfl
    rw [h1, h2]
    push_cast at h h' ⊢
    grind
/-- their sum from 1 on -/
def sm (h : Nat) : Nat → Nat
  | 0 => 0
  | i + 1 => sm h i + ch h (i + 1)
theorem sm_zero : ∀ i, sm 0 i = 0
  | 0 => rfl
  | i + 1 => by show sm 0 i + ch 0 (i + 1) = 0; rw [sm_zero i]; rfl
theorem sm_up (h : Nat) : ∀ i, sm (h + 1) (i + 1) = sm h (i + 1) + sm h i + 1
  | 0 => by
    show sm (h + 1) 0 + (ch h 0 + ch h 1) = sm h 0 + ch h 1 + sm h 0 + 1
    have h2 : ch h 0 = 1 := by cases h <;> rfl
    have h0 : ∀ g, sm g 0 = 0 := fun _ => rfl
    rw [h2, h0, h0]; omega
  | i + 1 => by
    have := sm_up h i
    show sm (h + 1) (i + 1) + (ch h (i + 1) + ch h (i + 1 + 1)) = sm h (i + 1) + ch h (i + 1 + 1) + (sm h i + ch h (i + 1)) + 1
    omega
def ff (h : Int) : Nat → Int
  | 0 => 1
  | k + 1 => ff h k * (h - k)
def fc : Nat → Int
  | 0 => 1
  | k + 1 => fc k * (k + 1)
theorem ff_ch (h : Nat) : ∀ k, ff h k = ch h k * fc k
  | 0 => by have h2 : ch h 0 = 1 := by cases h <;> rfl
            rw [h2]; rfl
  | k + 1 => by
    have e := ff_ch h k
    have s := ch_step h k
    show ff h k * ((h : Int) - k) = ch h (k + 1) * (fc k * (k + 1))
    rw [e]
    grind
theorem fc_pos : ∀ k, 0 < fc k
  | 0 => by decide
  | k + 1 => Int.mul_pos (fc_pos k) (by omega)
theorem fc_le : ∀ k, k ≤ 7 → fc k ≤ 5040 := by decide
theorem ff_div (h k : Nat) : ff h k / fc k = ch h k := by
  rw [ff_ch]
  exact Int.mul_ediv_cancel _ (Int.ne_of_gt (fc_pos k))
theorem ch_div (h i : Nat) : (ch h i : Int) * ((h : Int) - (1 + (i : Int)) + 1) / (1 + (i : Int)) = ch h (i + 1) := by
  have s := ch_step h i
  have e : (ch h i : Int) * ((h : Int) - (1 + (i : Int)) + 1) = ch h (i + 1) * (1 + (i : Int)) := by grind
  rw [e]
  exact Int.mul_ediv_cancel _ (by omega)
abbrev sMost : Stmt := topS 1
abbrev sBag : Stmt := topS 3
abbrev sTake : Stmt := topS 4
abbrev sWhole : Stmt := topS 5
abbrev sWays : Stmt := topS 6
abbrev sRight : Stmt := topS 7
theorem scMost : FnScope ["workers", "height", "total", "ways", "many"] ["workers", "height"] (defScope sMost) := ⟨rfl, rfl, rfl, by decide +kernel, rfl, by decide +kernel, by decide +kernel⟩
theorem scBag : FnScope ["_law_script", "_law_at", "_law_cell", "_law_primes", "_law_number"] ["_law_script", "_law_at"] (defScope sBag) := ⟨rfl, rfl, rfl, by decide +kernel, rfl, by decide +kernel, by decide +kernel⟩
theorem scTake : FnScope ["_law_bag_here", "_law_many", "_law_digit"] ["_law_bag_here", "_law_many"] (defScope sTake) := ⟨rfl, rfl, rfl, by decide +kernel, rfl, by decide +kernel, by decide +kernel⟩
theorem scWhole : FnScope ["_law_thing"] ["_law_thing"] (defScope sWhole) := ⟨rfl, rfl, rfl, by decide +kernel, rfl, by decide +kernel, by decide +kernel⟩
theorem scWays : FnScope ["_law_many", "_law_few", "_law_top", "_law_below", "_law_k"] ["_law_many", "_law_few"] (defScope sWays) := ⟨rfl, rfl, rfl, by decide +kernel, rfl, by decide +kernel, by decide +kernel⟩
theorem scRight : FnScope ["_law_told", "_law_due"] ["_law_told", "_law_due"] (defScope sRight) := ⟨rfl, rfl, rfl, by decide +kernel, rfl, by decide +kernel, by decide +kernel⟩
structure Bi (mg : Str → Option Value) : Prop where
  len : mg "len" = none
  abs : mg "abs" = none
  int : mg "int" = none
  range : mg "range" = none
  max : mg "max" = none
  min : mg "min" = none
  isinstance : mg "isinstance" = none
  sum : mg "sum" = none
  bool : mg "bool" = none
structure Fk (P : Program) (w : World) (K : PySem.W.Frag) (mg : Str → Option Value) (base : Heap) (lv : Nat) (x : Str) (f : Addr) (fd : FuncData) (ps : List Str) (sp : Sp) : Prop where
  G : FnOk P w K mg base CX0 lv f fd ps sp
  m : mg x = some (.ref f)
  k : PySem.W.keepIn K (.ref f) = true
  b : Binds K fd ps []
structure FkK (P : Program) (w : World) (K : PySem.W.Frag) (mg : Str → Option Value) (base : Heap) (lv : Nat) (x : Str) (f : Addr) (fd : FuncData) (ps : List Str) (sp : Sp) : Prop where
  G : FnOk P w K mg base CX0 lv f fd ps sp
  m : mg x = some (.ref f)
  k : PySem.W.keepIn K (.ref f) = true
def Bag (H : Hp) (b : Addr) (n : Nat) : Prop := ∃ x y z : Int, H b = some (.lst [.int x, .int y, .int z]) ∧ 0 ≤ x ∧ 0 ≤ y ∧ y ≤ 4294967296 ∧ 0 ≤ z ∧ z + n ≤ 1000000
theorem Bag.less {H : Hp} {b : Addr} {n m : Nat} (h : Bag H b n) (hm : m ≤ n) : Bag H b m := by
  obtain ⟨x, y, z, e, h1, h2, h3, h4, h5⟩ := h
  exact ⟨x, y, z, e, h1, h2, h3, h4, by omega⟩
theorem Bag.same {H H' : Hp} {b : Addr} {n : Nat} (h : Bag H b n) (s : Same H H') : Bag H' b n := by
  obtain ⟨x, y, z, e, r⟩ := h
  exact ⟨x, y, z, s _ _ e, r⟩
def spMost : Sp := fun vs H Q _ => ∃ (c h : Nat), vs = [.int ((c : Int) + 1), .int (h : Int)] ∧ c ≤ 7 ∧ h ≤ 2000 ∧ Q (.int (sm h c : Nat)) H
def spBag (K : PySem.W.Frag) : Sp := fun vs H Q _ => ∃ (a : Addr) (ns : List Int) (k : Int), vs = [.ref a, .int k] ∧ SqL K H a (ns.map V.int) ∧ 0 ≤ k ∧ k ≤ 63 ∧
  ∀ b H', Same H H' → H b = none → Bag H' b 1000000 → Q (.ref b) H'
def spTake : Sp := fun vs H Q _ => ∃ (b : Addr) (m : Int) (n : Nat), vs = [.ref b, .int m] ∧ 0 < m ∧ m < 1073741824 ∧ Bag H b (n + 1) ∧
  ∀ (d : Int) (H' : Hp), 0 ≤ d → d < m → Bag H' b n → But b H H' → Q (.int d) H'
def spWhole : Sp := fun vs H Q _ => ∃ i : Int, vs = [.int i] ∧ Q (.bl true) H
def spWays : Sp := fun vs H Q _ => ∃ (h k : Nat), vs = [.int (h : Int), .int (k : Int)] ∧ h ≤ 2000 ∧ k ≤ 7 ∧ Q (.int (ch h k : Nat)) H
def spRight : Sp := fun vs H Q _ => ∃ i : Int, vs = [.int i, .int i] ∧ Q (.bl true) H
theorem bit01 (b : Bool) : -(2 ^ 64) < (if b = true then (1 : Int) else 0) ∧ (if b = true then (1 : Int) else 0) < 2 ^ 64 := by cases b <;> decide
theorem bit0 (b : Bool) : 0 ≤ (if b = true then (1 : Int) else 0) := by cases b <;> decide
theorem pow3 {a : Int} (h0 : 0 ≤ a) (h : a < 4611686018427387904) : CPow a 3 := ⟨by decide, by decide, by omega⟩
def primes : List Int := [2147483647, 2147483629, 2147483587, 2147483579, 2147483563, 2147483549, 2147483543, 2147483497]
theorem primes_at {z : Int} : ∃ p : Int, atI (primes.map V.int) (z % 8) = some (.int p) ∧ 0 < p ∧ p < 2147483648 := by
  have h0 := Int.emod_nonneg z (show (8 : Int) ≠ 0 by decide)
  have h1 := Int.emod_lt_of_pos z (show (0 : Int) < 8 by decide)
  have hk : (z % 8).toNat < primes.length := by show (z % 8).toNat < 8; omega
  have q : atI (primes.map V.int) (((z % 8).toNat : Nat) : Int) = some (.int primes[(z % 8).toNat]) := atI_nat (by rw [List.getElem?_map, List.getElem?_eq_getElem hk] <;> rfl)
  rw [show (((z % 8).toNat : Nat) : Int) = z % 8 by omega] at q
  have all : ∀ p ∈ primes, 0 < p ∧ p < 2147483648 := by decide
  exact ⟨_, q, all _ (List.getElem_mem hk)⟩
section
variable {P : Program} {w : World} {K : PySem.W.Frag} {mg : Str → Option Value} {base : Heap}
theorem ok_most {f : Addr} {fd : FuncData} (F : Fun K "most_steals" "most_steals" sMost f fd) (T : Bi mg) : FnOk P w K mg base CX0 1 f fd ["workers", "height"] spMost := by
  refine F.ok scMost (fun vs H Q E h => ?_) (fun cdv A outer s H vs Q E hr h => ?_)
  · obtain ⟨c, h, rfl, _⟩ := h
    rfl
  obtain ⟨c, h, rfl, hc, hh, q⟩ := h
  refine ⟨_, (pss_cons (ps_set (i := 2) scMost.nd rfl (Or.inl rfl) pe_int)
    (pss_cons (ps_set (i := 3) scMost.nd rfl (Or.inl rfl) pe_int)
    (pss_cons (ps_for PassesOwn.never rfl (pi_range2 (by rfl) T.range (pa_cons pe_int (pa_cons (pv 0) pa_nil))) (pg_name (i := 4) scMost.nd rfl (.inl rfl))
      (pss_cons (ps_set (i := 3) scMost.nd rfl (Or.inl rfl) (pe_op op_fdiv (pe_op op_mul (pv 3) (pe_op op_add (pe_op op_sub (pv 1) (pv 4)) pe_int)) (pv 4)))
    (pss_one (ps_aug (i := 2) scMost.nd rfl (Or.inl rfl) (pv 3) ip_add))))
    (pss_one (ps_ret (pv 2)))))), ?_⟩
  refine ⟨_, rfl, 1, (c : Int) + 1, rfl, ⟨by decide, by decide, by omega, by omega⟩, ?_⟩
  have ec : ((c : Int) + 1 - 1).toNat = c := by omega
  rw [ec]
  refine for_range (lo := 1) (n := c) (fun i σ H' => ∃ y : Option V, σ = [some (.int ((c : Int) + 1)), some (.int (h : Int)), some (.int (sm h i : Nat)), some (.int (ch h i : Nat)), y] ∧ H' = H) ?_ ?_ ?_
  · have h2 : ch h 0 = 1 := by cases h <;> rfl
    exact ⟨none, by rw [h2]; rfl, rfl⟩
  · rintro i σ H1 hi ⟨y, rfl, rfl⟩
    refine ⟨_, rfl, _, rfl, _, rfl, _, _, rfl, rfl, _, _, rfl, rfl, _, _, rfl, rfl, .inr ⟨by omega, by omega⟩, _, rfl, _, _, rfl, rfl, ⟨by omega, by omega⟩, ?_⟩
    refine ⟨_, rfl, _, rfl, _, _, rfl, rfl, ?_⟩
    refine ⟨some (.int (1 + (i : Int))), ?_, rfl⟩
    show [some (V.int ((c : Int) + 1)), some (V.int (h : Int)), some (V.int ((sm h i : Int) + (ch h i : Int) * ((h : Int) - (1 + (i : Int)) + 1) / (1 + (i : Int)))), some (V.int ((ch h i : Int) * ((h : Int) - (1 + (i : Int)) + 1) / (1 + (i : Int)))), some (V.int (1 + (i : Int)))] = _
    rw [ch_div]
    rfl
  · rintro σ H1 ⟨y, rfl, rfl⟩
    exact ⟨_, rfl, q⟩
theorem ok_bag {f : Addr} {fd : FuncData} (F : Fun K "_law_bag" "_law_bag" sBag f fd) (T : Bi mg) : FnOk P w K mg base CX0 1 f fd ["_law_script", "_law_at"] (spBag K) := by
  refine F.ok scBag (fun vs H Q E h => ?_) (fun cdv A outer s H vs Q E hr h => ?_)
  · obtain ⟨a, ns, k, rfl, _⟩ := h
    rfl
  obtain ⟨a, ns, k, rfl, hS, h0, h1, q⟩ := h
  refine ⟨_, (pss_cons (ps_set (i := 2) scBag.nd rfl (Or.inl rfl) pe_int)
    (C8.pss_cut (ps_if (pt_cmpR op_lt (pv 1) (pe_callB call_len_seq (by rfl) T.len (by decide +kernel) (pa_cons (pv 0) pa_nil)) (nomark _))
      (pss_one (ps_set (i := 2) scBag.nd rfl (Or.inl rfl) (pe_callB call_abs (by rfl) T.abs (by decide +kernel) (pa_cons (pe_ix ix_list (pv 0) (pv 1) (fun _ _ => rfl)) pa_nil))))
      pss_nil)
    (pss_cons (ps_set (i := 3) scBag.nd rfl (Or.inl rfl) (pe_tup (pa_cons pe_int (pa_cons pe_int (pa_cons pe_int (pa_cons pe_int (pa_cons pe_int (pa_cons pe_int (pa_cons pe_int (pa_cons pe_int pa_nil))))))))))
    (pss_cons (ps_set (i := 4) scBag.nd rfl (Or.inl rfl) (pe_op op_add (pe_op op_add (pe_op op_add (pe_op op_mul (pe_op op_mod (pv 2) (pe_ix ix_tup (pv 3) (pe_op op_mod (pv 1) pe_int) (fun _ _ => rfl))) pe_int) (pe_op op_mul (pe_op op_mul pe_int (pv 1)) (pv 1))) (pe_op op_mul pe_int (pv 1))) pe_int))
    (pss_one (ps_ret (pe_lst (pa_cons (pe_op op_mul (pv 2) (pe_callTy call_int1 (by rfl) T.int (by decide +kernel) (pa_cons (pe_cmpR op_ge (pv 2) (pe_op op_pow pe_int pe_int) (nomark _)) pa_nil))) (pa_cons (pe_op op_mod (pe_op op_pow (pv 4) pe_int) (pe_ix ix_tup (pv 3) (pe_op op_mod (pe_op op_add (pv 1) pe_int) pe_int) (fun _ _ => rfl))) (pa_cons pe_int pa_nil)))))))))), ?_⟩
  have hl : (ns.map V.int).length = ns.length := List.length_map _
  refine ⟨fun σ' H' => ∃ c : Int, 0 ≤ c ∧ σ' = [some (.ref a), some (.int k), some (.int c), none, none] ∧ H' = H, ?_, ?_⟩
  · refine ⟨_, rfl, _, rfl, a, _, rfl, .inl hS, _, _, rfl, rfl, _, rfl, ?_⟩
    refine ite2 (fun c => ?_) (fun c => ?_)
    · have c' := of_decide_eq_true c
      rw [hl] at c'
      have hk : k.toNat < ns.length := by omega
      refine ⟨_, rfl, _, rfl, a, _, k, .int ns[k.toNat], rfl, rfl, hS, ?_, ?_⟩
      · have q : atI (ns.map V.int) ((k.toNat : Nat) : Int) = some (.int ns[k.toNat]) := atI_nat (by rw [List.getElem?_map, List.getElem?_eq_getElem hk] <;> rfl)
        rwa [show ((k.toNat : Nat) : Int) = k by omega] at q
      · refine ⟨_, rfl, _, ?_, rfl, rfl⟩
        show 0 ≤ (if _ < (0 : Int) then _ else _)
        split <;> omega
    · exact ⟨0, Int.le_refl 0, rfl, rfl⟩
  · rintro σ' H' ⟨c, c0, rfl, rfl⟩
    refine ⟨by show 8 ≤ sizeLine; decide, fun t ht => ?_⟩
    have ht2 : (upd H' t (.tup (primes.map V.int))) t = some (.tup (primes.map V.int)) := upd_same
    obtain ⟨p1, e1, p1a, p1b⟩ := primes_at (z := k)
    obtain ⟨p2, e2, p2a, p2b⟩ := primes_at (z := k + 3)
    have m0 := Int.emod_nonneg c (show p1 ≠ 0 by omega)
    have m1 := Int.emod_lt_of_pos c p1a
    have k63 : 0 ≤ 104729 * k * k ∧ 104729 * k * k ≤ 6597927 * 63 := ⟨Int.mul_nonneg (by omega) h0, Int.mul_le_mul (by omega) h1 h0 (by omega)⟩
    refine ⟨_, rfl, _, rfl, _, rfl, _, _, rfl, rfl, (by show (0 : Int) < 8; decide), t, _, _, _, rfl, rfl, SqT.of ht2, e1, _, _, rfl, rfl, p1a, _, _, rfl, rfl, .inr ⟨by decide, by decide⟩, ?_⟩
    refine ⟨_, rfl, _, _, rfl, rfl, .inl ⟨by decide, by decide⟩, _, rfl, _, _, rfl, rfl, .inr ⟨by omega, by omega⟩, _, _, rfl, rfl, ?_⟩
    refine ⟨_, rfl, _, _, rfl, rfl, .inl ⟨by decide, by decide⟩, _, _, rfl, rfl, _, _, rfl, rfl, ?_⟩
    have N0 : 0 ≤ c % p1 * 69623 + 104729 * k * k + 7919 * k + 17 ∧ c % p1 * 69623 + 104729 * k * k + 7919 * k + 17 < 4611686018427387904 := by omega
    refine ⟨_, rfl, _, rfl, _, _, rfl, rfl, ⟨by decide, by decide, by decide⟩, _, _, rfl, rfl, .inr ⟨_, rfl, ?_⟩⟩
    refine ⟨_, _, rfl, rfl, .inr (bit01 _), ?_⟩
    refine ⟨_, rfl, _, _, rfl, rfl, pow3 N0.1 N0.2, _, rfl, _, rfl, _, _, rfl, rfl, _, _, rfl, rfl, (by show (0 : Int) < 8; decide), t, _, _, _, rfl, rfl, SqT.of ht2, e2, _, _, rfl, rfl, p2a, ?_⟩
    refine ⟨by show 3 ≤ sizeLine; decide, fun b hb => ?_⟩
    have q2 : H' b = none := by
      have ne : b ≠ t := fun z => by
        subst z
        have := ht2.symm.trans hb
        cases this
      rw [upd_ne ne] at hb
      exact hb
    refine q b _ ((same_new ht _).trans (same_new hb _)) q2 ⟨_, _, _, upd_same, ?_, ?_, ?_, Int.le_refl 0, by decide⟩
    · exact Int.mul_nonneg c0 (bit0 _)
    · exact Int.emod_nonneg _ (by omega)
    · exact Int.le_trans (Int.le_of_lt (Int.emod_lt_of_pos _ p2a)) (show p2 ≤ 4294967296 by omega)
theorem ok_take {f : Addr} {fd : FuncData} (F : Fun K "_law_take" "_law_take" sTake f fd) : FnOk P w K mg base CX0 1 f fd ["_law_bag_here", "_law_many"] spTake := by
  refine F.ok scTake (fun vs H Q E h => ?_) (fun cdv A outer s H vs Q E hr h => ?_)
  · obtain ⟨b, m, n, rfl, _⟩ := h
    rfl
  obtain ⟨b, m, n, rfl, hm0, hm1, ⟨x, y, z, hb, hx, hy, hy1, hz, hz1⟩, q⟩ := h
  refine ⟨_, (pss_cons (ps_if (pt_cmpR op_gt (pe_ix ix_list (pv 0) pe_int (fun _ _ => rfl)) pe_int (nomark _))
      (pss_cons (ps_set (i := 2) scTake.nd rfl (Or.inl rfl) (pe_op op_mod (pe_ix ix_list (pv 0) pe_int (fun _ _ => rfl)) (pv 1)))
    (pss_cons (ps_asg (pe_op op_fdiv (pe_ix ix_list (pv 0) pe_int (fun _ _ => rfl)) (pv 1)) (pg_sub (pv 0) pe_int set_list))
    (pss_one (ps_ret (pv 2)))))
      pss_nil)
    (pss_cons (ps_asg (pe_op op_add (pe_ix ix_list (pv 0) pe_int (fun _ _ => rfl)) pe_int) (pg_sub (pv 0) pe_int set_list))
    (pss_cons (ps_asg (pe_op op_mod (pe_op op_pow (pe_op op_add (pe_op op_add (pe_op op_mul (pe_ix ix_list (pv 0) pe_int (fun _ _ => rfl)) pe_int) (pe_op op_mul pe_int (pe_ix ix_list (pv 0) pe_int (fun _ _ => rfl)))) pe_int) pe_int) pe_int) (pg_sub (pv 0) pe_int set_list))
    (pss_one (ps_ret (pe_op op_mod (pe_op op_fdiv (pe_op op_mod (pe_op op_mul (pe_ix ix_list (pv 0) pe_int (fun _ _ => rfl)) pe_int) pe_int) pe_int) (pv 1))))))), ?_⟩
  have i0 : ∀ {u v t : V}, atI [u, v, t] 0 = some u := fun {u v t} => atI_nat (j := 0) rfl
  have i1 : ∀ {u v t : V}, atI [u, v, t] 1 = some v := fun {u v t} => atI_nat (j := 1) rfl
  have i2 : ∀ {u v t : V}, atI [u, v, t] 2 = some t := fun {u v t} => atI_nat (j := 2) rfl
  refine ⟨_, rfl, b, _, 0, _, rfl, rfl, SqL.of hb, i0, _, _, rfl, rfl, _, rfl, ?_⟩
  refine ite2 (fun c => ?_) (fun c => ?_)
  · refine ⟨_, rfl, b, _, 0, _, rfl, rfl, SqL.of hb, i0, _, rfl, _, _, rfl, rfl, hm0, ?_⟩
    refine ⟨_, rfl, b, _, 0, _, rfl, rfl, SqL.of hb, i0, _, rfl, _, _, rfl, rfl, ⟨hm0, hm1⟩, ?_⟩
    refine ⟨_, rfl, b, _, 0, 0, rfl, rfl, hb, rfl, ?_⟩
    refine ⟨_, rfl, ?_⟩
    refine q _ _ (Int.emod_nonneg x (by omega)) (Int.emod_lt_of_pos x hm0) ⟨_, y, z, upd_same, Int.ediv_nonneg hx (by omega), hy, hy1, hz, by omega⟩ fun a o na e => ?_
    rw [upd_ne na]
    exact e
  · refine ⟨_, rfl, b, _, 2, _, rfl, rfl, SqL.of hb, i2, _, _, rfl, rfl, ?_⟩
    refine ⟨_, rfl, b, _, 2, 2, rfl, rfl, hb, rfl, ?_⟩
    have hb2 : (upd H b (.lst [.int x, .int y, .int (z + 1)])) b = some (.lst [.int x, .int y, .int (z + 1)]) := upd_same
    have bd : 0 ≤ y * 48271 + 7919 * (z + 1) + 11 ∧ y * 48271 + 7919 * (z + 1) + 11 < 4611686018427387904 := by omega
    refine ⟨_, rfl, b, _, 1, _, rfl, rfl, SqL.of hb2, i1, _, _, rfl, rfl, .inr ⟨by decide, by decide⟩, _, rfl, b, _, 2, _, rfl, rfl, SqL.of hb2, i2, _, _, rfl, rfl, .inl ⟨by decide, by decide⟩, _, _, rfl, rfl, _, _, rfl, rfl, ?_⟩
    refine ⟨_, _, rfl, rfl, pow3 bd.1 bd.2, _, _, rfl, rfl, (by show (0 : Int) < 2147483629; decide), ?_⟩
    have Y0 : 0 ≤ (y * 48271 + 7919 * (z + 1) + 11) ^ (3 : Int).toNat % 2147483629 := Int.emod_nonneg _ (by decide)
    have Y1 : (y * 48271 + 7919 * (z + 1) + 11) ^ (3 : Int).toNat % 2147483629 ≤ 4294967296 := Int.le_trans (Int.le_of_lt (Int.emod_lt_of_pos _ (by decide))) (by decide)
    refine ⟨_, rfl, b, _, 1, 1, rfl, rfl, hb2, rfl, ?_⟩
    have hb3 : (upd (upd H b (.lst [.int x, .int y, .int (z + 1)])) b (.lst [.int x, .int ((y * 48271 + 7919 * (z + 1) + 11) ^ (3 : Int).toNat % 2147483629), .int (z + 1)])) b = some (.lst [.int x, .int ((y * 48271 + 7919 * (z + 1) + 11) ^ (3 : Int).toNat % 2147483629), .int (z + 1)]) := upd_same
    refine ⟨_, rfl, b, _, 1, _, rfl, rfl, SqL.of hb3, i1, _, _, rfl, rfl, .inr ⟨by decide, by decide⟩, _, _, rfl, rfl, (by show (0 : Int) < 1073741789; decide), _, _, rfl, rfl, ⟨by decide, by decide⟩, _, rfl, _, _, rfl, rfl, hm0, ?_⟩
    refine q _ _ (Int.emod_nonneg _ (by omega)) (Int.emod_lt_of_pos _ hm0) ⟨x, _, z + 1, hb3, hx, Y0, Y1, by omega, by omega⟩ fun a o na e => ?_
    rw [upd_ne na, upd_ne na]
    exact e
theorem ok_whole {f : Addr} {fd : FuncData} (F : Fun K "_law_whole" "_law_whole" sWhole f fd) (T : Bi mg) (q_int : mg "int" = none) (q_bool : mg "bool" = none) : FnOk P w K mg base CX0 1 f fd ["_law_thing"] spWhole := by
  refine F.ok scWhole (fun vs H Q E h => ?_) (fun cdv A outer s H vs Q E hr h => ?_)
  · obtain ⟨i, rfl, _⟩ := h
    rfl
  obtain ⟨i, rfl, q⟩ := h
  refine ⟨_, (pss_one (ps_ret (pe_and (pe_callB call_isi (by rfl) T.isinstance (by decide +kernel) (pa_cons (pv 0) (pa_cons (pe_bltn (v := .ty "int") (by rfl) q_int (by decide +kernel) rfl) pa_nil))) (pe_one (pe_not (pe_callB call_isi (by rfl) T.isinstance (by decide +kernel) (pa_cons (pv 0) (pa_cons (pe_bltn (v := .ty "bool") (by rfl) q_bool (by decide +kernel) rfl) pa_nil)))))))), ?_⟩
  refine ⟨_, rfl, _, _, _, _, true, rfl, .ty "int", .base (.int _), kit_ty (by decide +kernel), _, rfl, iteT ?_⟩
  exact ⟨_, rfl, _, _, _, _, false, rfl, .ty "bool", .base (.int _), kit_ty (by decide +kernel), _, rfl, q⟩
theorem ok_ways {f : Addr} {fd : FuncData} (F : Fun K "_law_ways" "_law_ways" sWays f fd) (T : Bi mg) : FnOk P w K mg base CX0 1 f fd ["_law_many", "_law_few"] spWays := by
  refine F.ok scWays (fun vs H Q E h => ?_) (fun cdv A outer s H vs Q E hr h => ?_)
  · obtain ⟨h, k, rfl, _⟩ := h
    rfl
  obtain ⟨h, k, rfl, hh, hk, q⟩ := h
  refine ⟨_, (pss_cons (ps_set (i := 2) scWays.nd rfl (Or.inl rfl) pe_int)
    (pss_cons (ps_set (i := 3) scWays.nd rfl (Or.inl rfl) pe_int)
    (pss_cons (ps_for PassesOwn.never rfl (pi_range1 (by rfl) T.range (pa_cons (pv 1) pa_nil)) (pg_name (i := 4) scWays.nd rfl (.inl rfl))
      (pss_cons (ps_set (i := 2) scWays.nd rfl (Or.inl rfl) (pe_op op_mul (pv 2) (pe_op op_sub (pv 0) (pv 4))))
    (pss_one (ps_set (i := 3) scWays.nd rfl (Or.inl rfl) (pe_op op_mul (pv 3) (pe_op op_add (pv 4) pe_int))))))
    (pss_one (ps_ret (pe_op op_fdiv (pv 2) (pv 3))))))), ?_⟩
  refine ⟨_, rfl, (k : Int), rfl, by omega, by omega, ?_⟩
  refine for_range (lo := 0) (n := k) (fun i σ H' => ∃ y : Option V, σ = [some (.int (h : Int)), some (.int (k : Int)), some (.int (ff h i)), some (.int (fc i)), y] ∧ H' = H) ⟨none, rfl, rfl⟩ ?_ ?_
  · rintro i σ H1 hi ⟨y, rfl, rfl⟩
    refine ⟨_, rfl, _, rfl, _, rfl, _, _, rfl, rfl, _, _, rfl, rfl, .inr ⟨by omega, by omega⟩, ?_⟩
    refine ⟨_, rfl, _, rfl, _, _, rfl, rfl, _, _, rfl, rfl, .inr ⟨by omega, by omega⟩, ?_⟩
    refine ⟨some (.int (0 + (i : Int))), ?_, rfl⟩
    show [some (V.int (h : Int)), some (V.int (k : Int)), some (V.int (ff h i * ((h : Int) - (0 + (i : Int))))), some (V.int (fc i * (0 + (i : Int) + 1))), some (V.int (0 + (i : Int)))] = _
    rw [Int.zero_add]
    rfl
  · rintro σ H1 ⟨y, rfl, rfl⟩
    have := fc_le k hk
    refine ⟨_, rfl, _, rfl, _, _, rfl, rfl, ⟨fc_pos k, by omega⟩, ?_⟩
    show Q (.int (ff h k / fc k)) _
    rw [ff_div]
    exact q
theorem ok_right {f g : Addr} {fd gd : FuncData} (F : Fun K "_law_right" "_law_right" sRight f fd) (WH : Fk P w K mg base 1 "_law_whole" g gd ["_law_thing"] spWhole) : FnOk P w K mg base CX0 2 f fd ["_law_told", "_law_due"] spRight := by
  refine F.ok scRight (fun vs H Q E h => ?_) (fun cdv A outer s H vs Q E hr h => ?_)
  · obtain ⟨i, rfl, _⟩ := h
    rfl
  obtain ⟨i, rfl, q⟩ := h
  refine ⟨_, (pss_one (ps_ret (pe_and (pe_call WH.G (hr.mono (by omega)) (by rfl) WH.m WH.k WH.b .nil pass0 (pa_cons (pv 0) pa_nil)) (pe_one (pe_cmpR op_eq (pv 0) (pv 1) (nomark _)))))), ?_⟩
  refine ⟨_, rfl, i, rfl, _, rfl, iteT ?_⟩
  refine ⟨_, rfl, _, rfl, rfl, ?_⟩
  rw [decide_eq_true rfl]
  exact q
end
end SH

set_option Elab.async false
set_option linter.all false
set_option maxRecDepth 100000
namespace SH
open PySem L2
abbrev sLaw : Stmt := topS 8
theorem scLaw : FnScope ["_law_script", "_law_at", "_law_bag_here", "_law_crew", "_law_high", "_law_due", "_law_few", "_law_fewer"] ["_law_script"] (defScope sLaw) := ⟨rfl, rfl, rfl, by decide +kernel, rfl, by decide +kernel, by decide +kernel⟩
def spLaw (K : PySem.W.Frag) : Sp := fun vs H Q _ => ∃ (a : Addr) (ns : List Int), vs = [.ref a] ∧ SqL K H a (ns.map V.int) ∧ ns.length ≤ 63 ∧ ∀ H', Q (.bl true) H'
def chs (h n : Nat) : List Int := (List.range n).map fun i => (ch h (i + 1) : Int)
theorem chs_up (h n : Nat) : chs h (n + 1) = chs h n ++ [(ch h (n + 1) : Int)] := by
  unfold chs
  rw [List.range_succ, List.map_append]
  rfl
theorem chs_len (h n : Nat) : (chs h n).length = n := by unfold chs; simp
theorem chs_sum (h : Nat) : ∀ n, (chs h n).sum = (sm h n : Nat)
  | 0 => rfl
  | n + 1 => by
    rw [chs_up, List.sum_append, chs_sum h n]
    show (sm h n : Int) + ((ch h (n + 1) : Int) + 0) = ((sm h n + ch h (n + 1) : Nat) : Int)
    omega
theorem fresh_but {b : Addr} {H0 H1 H2 : Hp} (s : Same H0 H1) (hb : H0 b = none) (u : But b H1 H2) : Same H0 H2 := fun a o e => u a o (ne_of_none e hb) (s a o e)
section
variable {P : Program} {w : World} {K : PySem.W.Frag} {mg : Str → Option Value} {base : Heap}
theorem most_kw {f : Addr} {oc : Value} {od an : Option Addr} {osl : Array (Option Value)} {doc pm cdv ct : Value} {D : Addr} {u : Tok} (l : K.lookup f = some ⟨oc, od, .func (PySem.W.fnOf "most_steals" "most_steals" (defArgs sMost) (defBody sMost) (defScope sMost) .none (.ref D) doc pm an cdv ct), osl⟩) (dd : PySem.W.nsIn K D "height" = some (some (.int 0 u))) :
    (∃ g0, KBn K (PySem.W.fnOf "most_steals" "most_steals" (defArgs sMost) (defBody sMost) (defScope sMost) .none (.ref D) doc pm an cdv ct) ["workers", "height"] 1 [] g0 (fun vs _ => vs ++ [V.int 0])) ∧
    ∃ g1, KBn K (PySem.W.fnOf "most_steals" "most_steals" (defArgs sMost) (defBody sMost) (defScope sMost) .none (.ref D) doc pm an cdv ct) ["workers", "height"] 1 ["height"] g1 (fun vs zs => vs ++ zs) := by
  refine ⟨⟨fun us _ => us ++ [.int 0 u], ⟨fun s us ws X h1 h2 => BindsTo.of_looks fun M => ?_, fun r _ => r.append (.cons ⟨u, rfl⟩ .nil)⟩⟩, ⟨fun us ws => us ++ ws, ⟨fun s us ws X h1 h2 => ?_, fun r1 r2 => r1.append r2⟩⟩⟩
  · match us, ws, h1, h2 with
    | [x], [], _, _ =>
      refine KwChain.looks (D := D) (l := [("height", .int 0 u)]) X (fun q hq => ?_) ?_
      · rw [List.mem_singleton.mp hq]
        exact dd
      · exact ⟨_, _, _, _, _, _, rfl, rfl, rfl⟩
  · match us, ws, h1, h2 with
    | [x], [y], _, _ => exact BindsTo.of_eq rfl
set_option maxHeartbeats 4000000 in
theorem ok_law {f fB fT fW fR fM : Addr} {fd dB dT dW dR dM : FuncData} {g0 g1 : List Value → List Value → List Value} (F : Fun K "law" "law" sLaw f fd) (BG : Fk P w K mg base 1 "_law_bag" fB dB ["_law_script", "_law_at"] (spBag K)) (TK : Fk P w K mg base 1 "_law_take" fT dT ["_law_bag_here", "_law_many"] spTake)
    (WY : Fk P w K mg base 1 "_law_ways" fW dW ["_law_many", "_law_few"] spWays) (RT : Fk P w K mg base 2 "_law_right" fR dR ["_law_told", "_law_due"] spRight) (MS : FkK P w K mg base 1 "most_steals" fM dM ["workers", "height"] spMost) (kb0 : KBn K dM ["workers", "height"] 1 [] g0 (fun vs _ => vs ++ [V.int 0])) (kb1 : KBn K dM ["workers", "height"] 1 ["height"] g1 (fun vs zs => vs ++ zs)) (T : Bi mg) :
    FnOk P w K mg base CX0 3 f fd ["_law_script"] (spLaw K) := by
  refine F.ok scLaw (fun vs H Q E h => ?_) (fun cdv A outer s H vs Q E hr h => ?_)
  · obtain ⟨a, ns, rfl, _⟩ := h
    rfl
  obtain ⟨a, ns, rfl, hS, h63, q⟩ := h
  refine ⟨_, (pss_cons (ps_for PassesOwn.never rfl (pi_range1 (by rfl) T.range (pa_cons (pe_callB (call_max2 rfl) (by rfl) T.max (by decide +kernel) (pa_cons pe_int (pa_cons (pe_callB (call_min2 rfl) (by rfl) T.min (by decide +kernel) (pa_cons pe_int (pa_cons (pe_callB call_len_seq (by rfl) T.len (by decide +kernel) (pa_cons (pv 0) pa_nil)) pa_nil))) pa_nil))) pa_nil)) (pg_name (i := 1) scLaw.nd rfl (.inl rfl))
      (pss_cons (ps_set (i := 2) scLaw.nd rfl (Or.inl rfl) (pe_call BG.G (hr.mono (by omega)) (by rfl) BG.m BG.k BG.b .nil pass0 (pa_cons (pv 0) (pa_cons (pv 1) pa_nil))))
    (pss_cons (ps_set (i := 3) scLaw.nd rfl (Or.inl rfl) (pe_op op_add pe_int (pe_call TK.G (hr.mono (by omega)) (by rfl) TK.m TK.k TK.b .nil pass0 (pa_cons (pv 2) (pa_cons pe_int pa_nil)))))
    (pss_cons (ps_set (i := 4) scLaw.nd rfl (Or.inr rfl) (pe_call TK.G (hr.mono (by omega)) (by rfl) TK.m TK.k TK.b .nil pass0 (pa_cons (pv 2) (pa_cons (pe_ix ix_list (pe_lst (pa_cons pe_int (pa_cons pe_int (pa_cons pe_int pa_nil)))) (pe_call TK.G (hr.mono (by omega)) (by rfl) TK.m TK.k TK.b .nil pass0 (pa_cons (pv 2) (pa_cons pe_int pa_nil))) (fun _ _ => rfl)) pa_nil))))
    (pss_cons (ps_set (i := 5) scLaw.nd rfl (Or.inl rfl) (pe_callB (cr_sum rfl) (by rfl) T.sum (by decide +kernel) (pa_cons (pe_lc (own := [("_law_few", 6)]) (g := gName 6) (tt := tYes) (by rfl) scLaw.nd (pi_range2 (by rfl) T.range (pa_cons pe_int (pa_cons (pv 3) pa_nil))) (blkOk_by (own := [("_law_few", 6)]) (N := ["_law_script", "_law_at", "_law_bag_here", "_law_crew", "_law_high", "_law_due", "_law_few", "_law_fewer"]) (sc := defScope sLaw) (by decide +kernel)) (fun _ _ _ _ _ => pg_name (i := 6) scLaw.nd rfl (Or.inl rfl)) (fun _ _ _ _ _ => pts_nil) (fun _ _ _ _ _ => (pe_call WY.G (hr.mono (by omega)) (by rfl) WY.m WY.k WY.b .nil pass0 (pa_cons (pv 4) (pa_cons (pv 6) pa_nil))))) pa_nil)))
    (pss_cons (ps_if (PW.pt (pw_or (pt_not (pt_val (pe_call RT.G (hr.mono (by omega)) (by rfl) RT.m RT.k RT.b .nil pass0 (pa_cons (pe_callN MS.G (hr.mono (by omega)) (by rfl) MS.m MS.k kb1 pass0 (pa_cons (pv 3) pa_nil) (pk_cons (pv 4) pk_nil)) (pa_cons (pv 5) pa_nil))))) (pw_or1 (pt_not (pt_val (pe_call RT.G (hr.mono (by omega)) (by rfl) RT.m RT.k RT.b .nil pass0 (pa_cons (pe_callN MS.G (hr.mono (by omega)) (by rfl) MS.m MS.k kb0 pass0 (pa_cons (pv 3) pa_nil) pk_nil) (pa_cons pe_int pa_nil))))))))
      (pss_one (ps_ret pe_bl))
      pss_nil)
    (pss_cons (ps_if (PW.pt (pw_or (pt_not (pt_val (pe_call RT.G (hr.mono (by omega)) (by rfl) RT.m RT.k RT.b .nil pass0 (pa_cons (pe_callN MS.G (hr.mono (by omega)) (by rfl) MS.m MS.k kb1 pass0 (pa_cons pe_int pa_nil) (pk_cons (pv 4) pk_nil)) (pa_cons pe_int pa_nil))))) (pw_or1 (pt_not (pt_val (pe_call RT.G (hr.mono (by omega)) (by rfl) RT.m RT.k RT.b .nil pass0 (pa_cons (pe_callN MS.G (hr.mono (by omega)) (by rfl) MS.m MS.k kb1 pass0 (pa_cons (pv 3) pa_nil) (pk_cons pe_int pk_nil)) (pa_cons pe_int pa_nil))))))))
      (pss_one (ps_ret pe_bl))
      pss_nil)
    (pss_one (ps_if (pt_cmpR op_gt (pv 3) pe_int (nomark _))
      (pss_cons (ps_set (i := 7) scLaw.nd rfl (Or.inl rfl) (pe_callN MS.G (hr.mono (by omega)) (by rfl) MS.m MS.k kb1 pass0 (pa_cons (pe_op op_sub (pv 3) pe_int) pa_nil) (pk_cons (pv 4) pk_nil)))
    (pss_one (ps_if (pt_cmpR op_ne (pe_callN MS.G (hr.mono (by omega)) (by rfl) MS.m MS.k kb1 pass0 (pa_cons (pv 3) pa_nil) (pk_cons (pe_op op_add (pv 4) pe_int) pk_nil)) (pe_op op_add (pe_op op_add (pv 5) (pv 7)) pe_int) (nomark _))
      (pss_one (ps_ret pe_bl))
      pss_nil)))
      pss_nil)))))))))
    (pss_one (ps_ret pe_bl))), ?_⟩
  have hs : sizeLine = 16777216 := by decide
  have hnum : ∃ N : Int, N = (if (if ((ns.map V.int).length : Int) < 3 then ((ns.map V.int).length : Int) else 3) > 2 then (if ((ns.map V.int).length : Int) < 3 then ((ns.map V.int).length : Int) else 3) else 2) ∧ 0 ≤ N ∧ N ≤ 3 := by
    refine ⟨_, rfl, ?_, ?_⟩ <;> (split <;> (try split) <;> omega)
  obtain ⟨N, eN, N0, N5⟩ := hnum
  refine ⟨_, rfl, a, _, rfl, .inl hS, _, _, rfl, _, _, rfl, N, (by rw [eN]), by omega, by omega, ?_⟩
  refine for_range (lo := 0) (n := N.toNat) (fun i σ H' => ∃ (y1 y2 y3 y4 y5 y7 : Option V), σ = [some (.ref a), y1, y2, y3, y4, y5, none, y7] ∧ Same H H') ⟨none, none, none, none, none, none, rfl, Same.refl _⟩ ?_ ?_
  · rintro i σ H1 hi ⟨y1, y2, y3, y4, y5, y7, rfl, sH⟩
    refine ⟨_, rfl, _, rfl, a, ns, 0 + (i : Int), rfl, sH.seq hS, by omega, by omega, fun b H2 s2 nb B2 => ?_⟩
    refine ⟨_, rfl, b, 8, 10, rfl, by decide, by decide, B2.less (by decide), fun d H3 d0 d8 B3 U3 => ?_⟩
    have s3 : Same H1 H3 := fresh_but s2 nb U3
    refine ⟨_, _, rfl, rfl, ?_⟩
    obtain ⟨c, rfl⟩ : ∃ c : Nat, d = (c : Int) := ⟨d.toNat, by omega⟩
    have hc : c ≤ 7 := by omega
    have ecr : ((1 : Int) + (c : Int)) = (c : Int) + 1 := by omega
    refine ⟨_, rfl, (by show 3 ≤ sizeLine; decide), fun l hl => ?_⟩
    have hl4 : (upd H3 l (.lst (([31, 200, 2000] : List Int).map V.int))) l = some (.lst (([31, 200, 2000] : List Int).map V.int)) := upd_same
    have s4 : Same H1 (upd H3 l (.lst (([31, 200, 2000] : List Int).map V.int))) := s3.trans (same_new hl _)
    have nlb : l ≠ b := fun z => by obtain ⟨x, y, z', e, _⟩ := B3; rw [z, e] at hl; cases hl
    refine ⟨_, rfl, b, 3, 9, rfl, by decide, by decide, (B3.same (same_new hl _)).less (by decide), fun d2 H5 e0 e3 B5 U5 => ?_⟩
    have hl5 : H5 l = some (.lst (([31, 200, 2000] : List Int).map V.int)) := U5 _ _ nlb hl4
    obtain ⟨M, eM, M0, M1⟩ : ∃ M : Int, atI (([31, 200, 2000] : List Int).map V.int) d2 = some (.int M) ∧ 0 < M ∧ M ≤ 2000 := by
      have : d2 = 0 ∨ d2 = 1 ∨ d2 = 2 := by omega
      rcases this with rfl | rfl | rfl
      · exact ⟨31, atI_nat (j := 0) rfl, by decide, by decide⟩
      · exact ⟨200, atI_nat (j := 1) rfl, by decide, by decide⟩
      · exact ⟨2000, atI_nat (j := 2) rfl, by decide, by decide⟩
    refine ⟨l, _, _, _, rfl, rfl, SqL.of hl5, eM, ?_⟩
    refine ⟨b, M, 8, rfl, by omega, by omega, B5.less (by decide), fun d3 H6 f0 f3 B6 U6 => ?_⟩
    have nb4 : H1 b = none := nb
    have s6 : Same H1 H6 := fun x o z => U6 x o (ne_of_none z nb) (U5 x o (ne_of_none z nb) (s4 x o z))
    obtain ⟨h, rfl⟩ : ∃ h : Nat, d3 = (h : Int) := ⟨d3.toNat, by omega⟩
    have hh : h ≤ 1999 := by omega
    -- due
    refine ⟨_, rfl, 1, 1 + (c : Int), rfl, ⟨by decide, by decide, by omega, by omega⟩, ?_⟩
    have ec : ((1 : Int) + (c : Int) - 1).toNat = c := by omega
    rw [ec]
    intro D hD
    refine lc_range (lo := 1) (n := c) (fun j H' => H' D = some (.lst ((chs h j).map V.int)) ∧ Same H6 H') ⟨upd_same, same_new hD _⟩ ?_ ?_
    · rintro j H7 hj ⟨hD7, s7⟩
      refine ⟨rfl, ?_⟩
      refine ⟨_, rfl, _, rfl, h, j + 1, (by show [V.int (h : Int), V.int (1 + (j : Int))] = _; rw [show (1 : Int) + (j : Int) = ((j + 1 : Nat) : Int) by omega]), by omega, by omega, ?_⟩
      refine ⟨_, hD7, by rw [List.length_map, chs_len]; omega, ?_, ?_⟩
      · rw [upd_same, chs_up, List.map_append]
        rfl
      · intro x o z
        rw [upd_ne (ne_of_none z hD)]
        exact s7 _ _ z
    · rintro H7 ⟨hD7, s7⟩
      refine ⟨D, _, rfl, SqL.of hD7, ?_⟩
      rw [chs_sum]
      have sF : Same H H7 := sH.trans (s6.trans s7)
      -- right
      refine ⟨_, rfl, _, rfl, rfl, rfl, c, h, (by show [V.int (1 + (c : Int)), V.int (h : Int)] = _; rw [ecr]), hc, by omega, ?_⟩
      refine ⟨_, rfl, _, rfl, _, rfl, iteF ?_⟩
      refine ⟨_, rfl, rfl, rfl, c, 0, (by show [V.int (1 + (c : Int)), V.int 0] = _; rw [ecr]; rfl), hc, by decide, ?_⟩
      rw [sm_zero]
      refine ⟨0, rfl, _, rfl, iteF ?_⟩
      refine ⟨_, rfl, rfl, rfl, 0, h, rfl, by decide, by omega, ?_⟩
      refine ⟨0, rfl, _, rfl, iteF ?_⟩
      refine ⟨_, rfl, rfl, rfl, c, 0, (by show [V.int (1 + (c : Int)), V.int 0] = _; rw [ecr]; rfl), hc, by decide, ?_⟩
      rw [sm_zero]
      refine ⟨0, rfl, _, rfl, iteF ?_⟩
      refine ⟨_, rfl, _, _, rfl, rfl, _, rfl, ?_⟩
      refine ite2 (fun t => ?_) (fun t => ?_)
      · have t' := of_decide_eq_true t
        obtain ⟨c1, rfl⟩ : ∃ c1, c = c1 + 1 := ⟨c - 1, by omega⟩
        refine ⟨_, rfl, _, _, rfl, rfl, _, rfl, rfl, rfl, c1, h, ?_, by omega, by omega, ?_⟩
        · show [V.int (1 + ((c1 + 1 : Nat) : Int) - 1), V.int (h : Int)] = _
          rw [show 1 + ((c1 + 1 : Nat) : Int) - 1 = (c1 : Int) + 1 by omega]
        refine ⟨_, rfl, _, rfl, _, _, rfl, rfl, rfl, rfl, c1 + 1, h + 1, ?_, hc, by omega, ?_⟩
        · show [V.int (1 + ((c1 + 1 : Nat) : Int)), V.int ((h : Int) + 1)] = _
          rw [ecr]; rfl
        refine ⟨_, rfl, _, rfl, _, _, rfl, rfl, _, _, rfl, rfl, rfl, _, rfl, ?_⟩
        rw [sm_up]
        refine iteNS ?_ ?_
        · show V.int ((sm h (c1 + 1) + sm h c1 + 1 : Nat) : Int) = V.int ((sm h (c1 + 1) : Int) + (sm h c1 : Int) + 1)
          rfl
        exact ⟨_, _, _, _, _, _, rfl, sF⟩
      · exact ⟨_, _, _, _, _, _, rfl, sF⟩
  · rintro σ H1 ⟨y1, y2, y3, y4, y5, y7, rfl, sH⟩
    exact q H1
end
end SH

set_option Elab.async false
set_option linter.all false
set_option maxRecDepth 100000
namespace SH
open PySem L2
theorem all_mk {l : PySem.W.OpenLaw} {w : World} {K : PySem.W.Frag} {h : Heap} {mg : Str → Option Value} {fa f_most_steals f_Lbag f_Ltake f_Lwhole f_Lways f_Lright f_law : Addr} (X : K.In h) (G : h.Ns mainGlobals mg) (hfa : mg "law" = some (.ref fa))
    {od_most_steals od_Lbag od_Ltake od_Lwhole od_Lways od_Lright od_law an_most_steals an_Lbag an_Ltake an_Lwhole an_Lways an_Lright an_law : Option Addr} {sl_most_steals sl_Lbag sl_Ltake sl_Lwhole sl_Lways sl_Lright sl_law : Array (Option Value)} {oc_most_steals oc_Lbag oc_Ltake oc_Lwhole oc_Lways oc_Lright oc_law kV_Lbag kV_Ltake kV_Lwhole kV_Lways kV_Lright kV_law dc_most_steals dc_Lbag dc_Ltake dc_Lwhole dc_Lways dc_Lright dc_law pm_most_steals pm_Lbag pm_Ltake pm_Lwhole pm_Lways pm_Lright pm_law cd_most_steals cd_Lbag cd_Ltake cd_Lwhole cd_Lways cd_Lright cd_law ct_most_steals ct_Lbag ct_Ltake ct_Lwhole ct_Lways ct_Lright ct_law : Value}
    {DK : Addr} {uDK : Tok}
    (a_most_steals : PySem.W.nsIn K mainGlobals "most_steals" = some (some (.ref f_most_steals))) (l_most_steals : K.lookup f_most_steals = some ⟨oc_most_steals, od_most_steals, .func (PySem.W.fnOf "most_steals" "most_steals" (defArgs sMost) (defBody sMost) (defScope sMost) .none (.ref DK) dc_most_steals pm_most_steals an_most_steals cd_most_steals ct_most_steals), sl_most_steals⟩) (c_most_steals : PySem.W.codeIn K cd_most_steals "most_steals" = true) (k_most_steals : PySem.W.keepIn K (.ref f_most_steals) = true)
    (a_Lbag : PySem.W.nsIn K mainGlobals "_law_bag" = some (some (.ref f_Lbag))) (l_Lbag : K.lookup f_Lbag = some ⟨oc_Lbag, od_Lbag, .func (PySem.W.fnOf "_law_bag" "_law_bag" (defArgs sBag) (defBody sBag) (defScope sBag) .none kV_Lbag dc_Lbag pm_Lbag an_Lbag cd_Lbag ct_Lbag), sl_Lbag⟩) (c_Lbag : PySem.W.codeIn K cd_Lbag "_law_bag" = true) (k_Lbag : PySem.W.keepIn K (.ref f_Lbag) = true)
    (a_Ltake : PySem.W.nsIn K mainGlobals "_law_take" = some (some (.ref f_Ltake))) (l_Ltake : K.lookup f_Ltake = some ⟨oc_Ltake, od_Ltake, .func (PySem.W.fnOf "_law_take" "_law_take" (defArgs sTake) (defBody sTake) (defScope sTake) .none kV_Ltake dc_Ltake pm_Ltake an_Ltake cd_Ltake ct_Ltake), sl_Ltake⟩) (c_Ltake : PySem.W.codeIn K cd_Ltake "_law_take" = true) (k_Ltake : PySem.W.keepIn K (.ref f_Ltake) = true)
    (a_Lwhole : PySem.W.nsIn K mainGlobals "_law_whole" = some (some (.ref f_Lwhole))) (l_Lwhole : K.lookup f_Lwhole = some ⟨oc_Lwhole, od_Lwhole, .func (PySem.W.fnOf "_law_whole" "_law_whole" (defArgs sWhole) (defBody sWhole) (defScope sWhole) .none kV_Lwhole dc_Lwhole pm_Lwhole an_Lwhole cd_Lwhole ct_Lwhole), sl_Lwhole⟩) (c_Lwhole : PySem.W.codeIn K cd_Lwhole "_law_whole" = true) (k_Lwhole : PySem.W.keepIn K (.ref f_Lwhole) = true)
    (a_Lways : PySem.W.nsIn K mainGlobals "_law_ways" = some (some (.ref f_Lways))) (l_Lways : K.lookup f_Lways = some ⟨oc_Lways, od_Lways, .func (PySem.W.fnOf "_law_ways" "_law_ways" (defArgs sWays) (defBody sWays) (defScope sWays) .none kV_Lways dc_Lways pm_Lways an_Lways cd_Lways ct_Lways), sl_Lways⟩) (c_Lways : PySem.W.codeIn K cd_Lways "_law_ways" = true) (k_Lways : PySem.W.keepIn K (.ref f_Lways) = true)
    (a_Lright : PySem.W.nsIn K mainGlobals "_law_right" = some (some (.ref f_Lright))) (l_Lright : K.lookup f_Lright = some ⟨oc_Lright, od_Lright, .func (PySem.W.fnOf "_law_right" "_law_right" (defArgs sRight) (defBody sRight) (defScope sRight) .none kV_Lright dc_Lright pm_Lright an_Lright cd_Lright ct_Lright), sl_Lright⟩) (c_Lright : PySem.W.codeIn K cd_Lright "_law_right" = true) (k_Lright : PySem.W.keepIn K (.ref f_Lright) = true)
    (a_law : PySem.W.nsIn K mainGlobals "law" = some (some (.ref f_law))) (l_law : K.lookup f_law = some ⟨oc_law, od_law, .func (PySem.W.fnOf "law" "law" (defArgs sLaw) (defBody sLaw) (defScope sLaw) .none kV_law dc_law pm_law an_law cd_law ct_law), sl_law⟩) (c_law : PySem.W.codeIn K cd_law "law" = true) (k_law : PySem.W.keepIn K (.ref f_law) = true)
    (z_len : PySem.W.nsIn K mainGlobals "len" = some none)
    (z_abs : PySem.W.nsIn K mainGlobals "abs" = some none)
    (z_int : PySem.W.nsIn K mainGlobals "int" = some none)
    (z_range : PySem.W.nsIn K mainGlobals "range" = some none)
    (z_max : PySem.W.nsIn K mainGlobals "max" = some none)
    (z_min : PySem.W.nsIn K mainGlobals "min" = some none)
    (z_isinstance : PySem.W.nsIn K mainGlobals "isinstance" = some none)
    (z_sum : PySem.W.nsIn K mainGlobals "sum" = some none)
    (z_bool : PySem.W.nsIn K mainGlobals "bool" = some none)
    (gDK : PySem.W.nsIn K DK "height" = some (some (.int 0 uDK)))
    : ∃ fd : FuncData, (∀ (s : Shared) (v : Value), BindsTo s fd ⟨[v], []⟩ [("_law_script", v)]) ∧ ∀ base : Heap, K.In base → base.Ns mainGlobals mg → FnOk l.prog w K mg base CX0 3 fa fd ["_law_script"] (spLaw K) := by
  have e := hfa.symm.trans (PySem.W.mg_of X G a_law)
  cases e
  have F_most_steals := fun_mk (st := sMost) l_most_steals c_most_steals k_most_steals
  have m_most_steals := PySem.W.mg_of X G a_most_steals
  have F_Lbag := fun_mk (st := sBag) l_Lbag c_Lbag k_Lbag
  have b_Lbag := F_Lbag.binds (ps := ["_law_script", "_law_at"]) fun _ _ _ _ _ _ us hl => match us, hl with | [_, _], _ => rfl
  have m_Lbag := PySem.W.mg_of X G a_Lbag
  have F_Ltake := fun_mk (st := sTake) l_Ltake c_Ltake k_Ltake
  have b_Ltake := F_Ltake.binds (ps := ["_law_bag_here", "_law_many"]) fun _ _ _ _ _ _ us hl => match us, hl with | [_, _], _ => rfl
  have m_Ltake := PySem.W.mg_of X G a_Ltake
  have F_Lwhole := fun_mk (st := sWhole) l_Lwhole c_Lwhole k_Lwhole
  have b_Lwhole := F_Lwhole.binds (ps := ["_law_thing"]) fun _ _ _ _ _ _ us hl => match us, hl with | [_], _ => rfl
  have m_Lwhole := PySem.W.mg_of X G a_Lwhole
  have F_Lways := fun_mk (st := sWays) l_Lways c_Lways k_Lways
  have b_Lways := F_Lways.binds (ps := ["_law_many", "_law_few"]) fun _ _ _ _ _ _ us hl => match us, hl with | [_, _], _ => rfl
  have m_Lways := PySem.W.mg_of X G a_Lways
  have F_Lright := fun_mk (st := sRight) l_Lright c_Lright k_Lright
  have b_Lright := F_Lright.binds (ps := ["_law_told", "_law_due"]) fun _ _ _ _ _ _ us hl => match us, hl with | [_, _], _ => rfl
  have m_Lright := PySem.W.mg_of X G a_Lright
  have F_law := fun_mk (st := sLaw) l_law c_law k_law
  have m_law := PySem.W.mg_of X G a_law
  have T : Bi mg := ⟨PySem.W.mg_none_of X G z_len, PySem.W.mg_none_of X G z_abs, PySem.W.mg_none_of X G z_int, PySem.W.mg_none_of X G z_range, PySem.W.mg_none_of X G z_max, PySem.W.mg_none_of X G z_min, PySem.W.mg_none_of X G z_isinstance, PySem.W.mg_none_of X G z_sum, PySem.W.mg_none_of X G z_bool⟩
  refine ⟨PySem.W.fnOf "law" "law" (defArgs sLaw) (defBody sLaw) (defScope sLaw) .none kV_law dc_law pm_law an_law cd_law ct_law, fun s v => .of_eq rfl, fun base _ _ => ?_⟩
  obtain ⟨⟨g0, kb0⟩, ⟨g1, kb1⟩⟩ := most_kw l_most_steals gDK
  have WH : Fk l.prog w K mg base 1 "_law_whole" f_Lwhole _ ["_law_thing"] spWhole := ⟨ok_whole F_Lwhole T T.int T.bool, m_Lwhole, k_Lwhole, b_Lwhole⟩
  exact ok_law F_law ⟨ok_bag F_Lbag T, m_Lbag, k_Lbag, b_Lbag⟩ ⟨ok_take F_Ltake, m_Ltake, k_Ltake, b_Ltake⟩ ⟨ok_ways F_Lways T, m_Lways, k_Lways, b_Lways⟩ ⟨ok_right F_Lright WH, m_Lright, k_Lright, b_Lright⟩ ⟨ok_most F_most_steals T, m_most_steals, k_most_steals⟩ kb0 kb1 T
theorem walk {l : PySem.W.OpenLaw} {q : Program} {loose : List Str} {XP : (Str → Option Value) → Heap → Prop} {YP : World → Heap → Prop} {d : DefRec} {K : Params → PySem.W.Frag} (hn : l.most = some 63) (hdf : d.params.defaults = [])
    (hY : ∀ (w : World) (h : Heap), YP w h → (K w.params).In h)
    (F : ∀ (w : World) (mg : Str → Option Value) (fa : Addr) (h : Heap), (K w.params).In h → h.Ns mainGlobals mg → mg d.name = some (.ref fa) →
      ∃ fd : FuncData, (∀ (s : Shared) (u : Value), BindsTo s fd ⟨[u], []⟩ [("_law_script", u)]) ∧ ∀ base : Heap, (K w.params).In base → base.Ns mainGlobals mg → FnOk l.prog w (K w.params) mg base CX0 3 fa fd ["_law_script"] (spLaw (K w.params))) :
    PySem.W.WalkO q loose XP YP l.row.toRowW d [] (fun f vs => PySem.call f vs) :=
  L2.walk_of (n := 63) (k := 3) (x := "_law_script") (CX := fun _ => CX0) (sp := fun w => spLaw (K w.params)) hn (by decide) hdf ⟨rfl, by decide, by decide⟩ hY F (fun _ _ a ns hl _ hS => ⟨a, ns, rfl, hS, hl, fun _ => rfl⟩) fun _ _ _ _ _ z => z
end SH
open PySem PySem.W PyProof.Rows
set_option maxRecDepth 100000 in
set_option maxHeartbeats 0 in
theorem PySem.Challenge.cw_stealhall_k70_most_steals_holds : PySem.Challenge.rw_stealhall_k70_most_steals.Holds := by
  w_on; o_law; k_head; (case hw => w_witness2)
  k_fill
  refine SH.walk (l := PySem.Challenge.rw_stealhall_k70_most_steals) rfl rfl (fun w h Y => PySem.W.kIn_of Y) ?F
  case F =>
    intro w mg fa h KX G hmg
    refine' SH.all_mk KX G hmg ?a_most_steals ?l_most_steals ?c_most_steals ?k_most_steals ?a_Lbag ?l_Lbag ?c_Lbag ?k_Lbag ?a_Ltake ?l_Ltake ?c_Ltake ?k_Ltake ?a_Lwhole ?l_Lwhole ?c_Lwhole ?k_Lwhole ?a_Lways ?l_Lways ?c_Lways ?k_Lways ?a_Lright ?l_Lright ?c_Lright ?k_Lright ?a_law ?l_law ?c_law ?k_law ?z_len ?z_abs ?z_int ?z_range ?z_max ?z_min ?z_isinstance ?z_sum ?z_bool ?gDK
    (case a_most_steals => k_is)
    (case l_most_steals => k_is)
    (case c_most_steals => k_is)
    (case k_most_steals => k_is)
    (case a_Lbag => k_is)
    (case l_Lbag => k_is)
    (case c_Lbag => k_is)
    (case k_Lbag => k_is)
    (case a_Ltake => k_is)
    (case l_Ltake => k_is)
    (case c_Ltake => k_is)
    (case k_Ltake => k_is)
    (case a_Lwhole => k_is)
    (case l_Lwhole => k_is)
    (case c_Lwhole => k_is)
    (case k_Lwhole => k_is)
    (case a_Lways => k_is)
    (case l_Lways => k_is)
    (case c_Lways => k_is)
    (case k_Lways => k_is)
    (case a_Lright => k_is)
    (case l_Lright => k_is)
    (case c_Lright => k_is)
    (case k_Lright => k_is)
    (case a_law => k_is)
    (case l_law => k_is)
    (case c_law => k_is)
    (case k_law => k_is)
    (case z_len => k_is)
    (case z_abs => k_is)
    (case z_int => k_is)
    (case z_range => k_is)
    (case z_max => k_is)
    (case z_min => k_is)
    (case z_isinstance => k_is)
    (case z_sum => k_is)
    (case z_bool => k_is)
    (case gDK => k_is)
