import PyProof.Rows.All
import Wide.All
import OpenK.AllK
import Wide.FinOn
import HandS.ForMost
import HandS.More
import HandS.FStr
import HandS.IsInst
import HandS.Codes
import HandS.Walk
import HandS.RaiseMore
import HandS.Defaults
import HandS.Text
import HandS.ReplaceList
import HandS.Strs
import HandS.SetBool
import HandS.SetKeys
import HandS.DictComp
import KE.KCallOwn
import HandS.OwnEq
import PyProof.ReprRoads
import HandS.ForExc
import HandS.ExcInit
import HandS.ExcSuper
import KE.KExcSuper
import KE.KExcLine
import KE.KExcIs
import HandS.HotCalls
import HandS.ExcField
import PyProof.StrLawsRepr
import PyProof.FitsInt
import PyProof.NeKinds
import PySem.Challenge.RW_stealhall_k09_expressions_of_none
set_option Elab.async false
set_option linter.all false
set_option maxRecDepth 100000
/-! Expressions: what they are, their text, how they lie in the heap. -/
namespace SH
open PySem L2
inductive Sg where
  | add | sub | mul | lt | eq
def Sg.txt : Sg → Str
  | .add => "+"
  | .sub => "-"
  | .mul => "*"
  | .lt => "<"
  | .eq => "=="
def Sg.lv : Sg → Int
  | .add => 2
  | .sub => 2
  | .mul => 3
  | .lt => 1
  | .eq => 1
inductive Ex where
  | num (n : Int)
  | nam (s : Str)
  | op (g : Sg) (l r : Ex)
def Ex.lv : Ex → Int
  | .num _ => 4
  | .nam _ => 4
  | .op g _ _ => g.lv
def Ex.lw : Ex → Int
  | .num _ => 9
  | .nam _ => 9
  | .op g _ _ => g.lv
def br (b : Bool) (t : Str) : Str := if b = true then ("(" : Str) ++ t ++ (")" : Str) else t
def lB (g : Sg) (l : Ex) : Bool := decide (l.lv < g.lv) || decide (l.lv = 1)
def rB (g : Sg) (r : Ex) : Bool := decide (r.lv ≤ g.lv)
def Ex.txt : Ex → Str
  | .num n => (toString n : String)
  | .nam s => s
  | .op g l r => br (lB g l) l.txt ++ (" " : Str) ++ g.txt ++ (" " : Str) ++ br (rB g r) r.txt
/-- at most n deep, its parts within bounds -/
def Ex.ok : Nat → Ex → Prop
  | 0, _ => False
  | _ + 1, .num n => n.natAbs.log2 < 1920
  | _ + 1, .nam s => s.length ≤ 2000
  | n + 1, .op _ l r => Ex.ok n l ∧ Ex.ok n r
def lenB : Nat → Nat
  | 0 => 2000
  | n + 1 => 2 * lenB n + 2000
theorem app_len (a b : Str) : (a ++ b).length = a.length + b.length := by
  show (a.cps ++ b.cps).size = _
  rw [Array.size_append]
  all_goals rfl
theorem emp_app (a : Str) : Str.empty ++ a = a := by
  show (⟨#[] ++ a.cps⟩ : Str) = a
  rw [Array.empty_append]
theorem Sg.len (g : Sg) : g.txt.length ≤ 2 := by cases g <;> decide +kernel
theorem br_len (b : Bool) (t : Str) : (br b t).length ≤ t.length + 2 := by
  unfold br
  split
  · rw [app_len, app_len]
    have h1 : ("(" : Str).length = 1 := by decide +kernel
    have h2 : (")" : Str).length = 1 := by decide +kernel
    omega
  · omega
theorem Ex.len : ∀ (n : Nat) (e : Ex), Ex.ok n e → e.txt.length ≤ lenB n
  | 0, _, h => h.elim
  | n + 1, .num i, h => by
    have q := PyProof.Rows.int_text_len_1921 (i := i) h
    show (PySem.Str.ofString (toString i)).length ≤ 2 * lenB n + 2000
    omega
  | n + 1, .nam s, h => by
    show s.length ≤ 2 * lenB n + 2000
    have : s.length ≤ 2000 := h
    omega
  | n + 1, .op g l r, h => by
    have h1 := Ex.len n l h.1
    have h2 := Ex.len n r h.2
    have q1 := br_len (lB g l) l.txt
    have q2 := br_len (rB g r) r.txt
    have q3 := g.len
    have hb : (" " : Str).length = 1 := by decide +kernel
    show (br (lB g l) l.txt ++ (" " : Str) ++ g.txt ++ (" " : Str) ++ br (rB g r) r.txt).length ≤ 2 * lenB n + 2000
    rw [app_len, app_len, app_len, app_len]
    omega
theorem Ex.ok_up : ∀ {n m : Nat} {e : Ex}, n ≤ m → Ex.ok n e → Ex.ok m e
  | 0, _, _, _, h => h.elim
  | n + 1, m + 1, .num _, _, h => h
  | n + 1, m + 1, .nam _, _, h => h
  | n + 1, m + 1, .op _ _ _, hm, h => ⟨Ex.ok_up (by omega) h.1, Ex.ok_up (by omega) h.2⟩
/-- what lies at v is the expression -/
def TrIn (H : Hp) : Ex → V → Prop
  | .num n, v => ∃ a, v = .ref a ∧ H a = some (.tup [.str "number", .int n])
  | .nam s, v => ∃ a, v = .ref a ∧ H a = some (.tup [.str "name", .str s])
  | .op g l r, v => ∃ a x y, v = .ref a ∧ H a = some (.tup [.str g.txt, x, y]) ∧ TrIn H l x ∧ TrIn H r y
/-- all but what stands at b stays -/
def But (b : Addr) (H H' : Hp) : Prop := ∀ a o, a ≠ b → H a = some o → H' a = some o
theorem But.of {b : Addr} {H H' : Hp} (h : Same H H') : But b H H' := fun a o _ e => h a o e
theorem But.trans {b : Addr} {H H1 H2 : Hp} (h : But b H H1) (k : But b H1 H2) : But b H H2 := fun a o n e => k a o n (h a o n e)
theorem TrIn.same {H H' : Hp} (h : Same H H') : ∀ {e : Ex} {v : V}, TrIn H e v → TrIn H' e v
  | .num n, v, ⟨a, e, k⟩ => ⟨a, e, h _ _ k⟩
  | .nam n, v, ⟨a, e, k⟩ => ⟨a, e, h _ _ k⟩
  | .op g l r, v, ⟨a, x, y, e, k, p, q⟩ => ⟨a, x, y, e, h _ _ k, TrIn.same h p, TrIn.same h q⟩
theorem lst_ne {H : Hp} {a b : Addr} {xs ys : List V} (h : H a = some (.tup xs)) (k : H b = some (.lst ys)) : a ≠ b := fun e => by
  rw [e, k] at h
  cases h
theorem TrIn.but {H H' : Hp} {b : Addr} {ys : List V} (hb : H b = some (.lst ys)) (h : But b H H') : ∀ {e : Ex} {v : V}, TrIn H e v → TrIn H' e v
  | .num n, v, ⟨a, e, k⟩ => ⟨a, e, h _ _ (lst_ne k hb) k⟩
  | .nam n, v, ⟨a, e, k⟩ => ⟨a, e, h _ _ (lst_ne k hb) k⟩
  | .op g l r, v, ⟨a, x, y, e, k, p, q⟩ => ⟨a, x, y, e, h _ _ (lst_ne k hb) k, TrIn.but hb h p, TrIn.but hb h q⟩
theorem same_new {H : Hp} {p : Addr} (h : H p = none) (o : HO) : Same H (upd H p o) := fun b u q => by
  rw [upd_ne (ne_of_none q h)]
  exact q
def Ex.head : Ex → Str
  | .num _ => "number"
  | .nam _ => "name"
  | .op g _ _ => g.txt
theorem TrIn.tup {H : Hp} : ∀ {e : Ex} {v : V}, TrIn H e v → ∃ a xs, v = .ref a ∧ H a = some (.tup xs) ∧ xs[0]? = some (.str e.head)
  | .num n, v, ⟨a, e, k⟩ => ⟨a, _, e, k, rfl⟩
  | .nam n, v, ⟨a, e, k⟩ => ⟨a, _, e, k, rfl⟩
  | .op g l r, v, ⟨a, x, y, e, k, p, q⟩ => ⟨a, _, e, k, rfl⟩
theorem Sg.ne_number (g : Sg) : g.txt ≠ ("number" : Str) := by cases g <;> decide +kernel
theorem Sg.ne_name (g : Sg) : g.txt ≠ ("name" : Str) := by cases g <;> decide +kernel
/-! ### d.get(k, x) of a dict of the module, keys texts -/
section
variable {X : Cx} {o e f : Expr} {apos cpos : Pos} {td ty tx : TE}
def KGet (K : PySem.W.Frag) (w : World) (a : Addr) (x : Str) (r : Option V) : Prop :=
  ∃ es n ou, K.lookup a = some ⟨.type "dict", none, .dict es n, #[]⟩ ∧ PySem.W.KeysLit w.params es.toList ∧ (a == sysModules) = false ∧ PySem.W.nsIn K a x = some ou ∧
    ((∃ v u, r = some v ∧ ou = some u ∧ RelV v u) ∨ (r = none ∧ ou = none))
def tKGet2 (K : PySem.W.Frag) (w : World) (td ty tx : TE) : TE := fun σ H Q => td σ H fun x H1 => ∃ a es n, x = .ref a ∧ K.lookup a = some ⟨.type "dict", none, .dict es n, #[]⟩ ∧ PySem.W.KeysLit w.params es.toList ∧
  ty σ H1 fun y H2 => tx σ H2 fun z H3 => ∃ k r, y = .str k ∧ KGet K w a k r ∧ Q (r.getD z) H3
theorem pe_kget2 (ho : PE X o td) (he : PE X e ty) (hf : PE X f tx) (m : M2 X o "get" apos e f cpos) : PE X (.Call (.Attribute o "get" apos) [e, f] [] cpos) (tKGet2 X.K X.w td ty tx) := by
  refine ⟨fun pins s σ H Q I h => ?_⟩
  refine wpAny_Call_method m.base m.few m.line PySem.F.plainAttrs_dict PySem.F.slot_dict_get PySem.F.type_dict_get (thn (ho.run pins s σ H _ I h) fun u s1 ⟨x, H1, I1, rx, a, es, n, ex, hl, hk, q1⟩ => ?_)
  subst ex
  obtain rfl : u = Value.ref a := rx
  have hm := PySem.W.mapOf_K (prog := X.prog) (w := X.w) I1.kIn hl hk
  refine ⟨hm.typeIs, fun b q => ?_, ?_⟩
  · cases q
    exact ⟨_, I1.kIn _ _ hl, rfl⟩
  rw [m.trees]
  refine Calls.callWith_builtin rfl (Calls.evalArgs_plain (Calls.spliced_cons (thn (he.run pins s1 σ H1 _ I1 q1) fun iv s2 ⟨y, H2, I2, ry, q2⟩ =>
    Calls.spliced_cons (thn (hf.run pins s2 σ H2 _ I2 q2) fun fv s3 ⟨z, H3, I3, rz, k, r, ey, g, q3⟩ => Calls.spliced_nil ?_))))
  subst ey
  obtain ⟨t, rfl⟩ := (show ∃ t, iv = Value.str k t from ry)
  obtain ⟨es', n', ou, hl', hk', low, hn, hr⟩ := g
  have hm3 := PySem.W.mapOf_K (prog := X.prog) (w := X.w) I3.kIn hl' hk'
  refine call_meetsIn PySem.F.slot_dict_get hm3.typeIs PySem.F.entry_dict_get (PySem.F.args_dict_get_3 _ _ _) (meets_dict_get_default (strKind X.prog X.w) a (strKind_is X.prog X.w k t) low fv) ⟨_, hm3, ?_⟩
  rw [PySem.W.find_K hl' hn]
  rcases hr with ⟨v, u, rfl, rfl, rv⟩ | ⟨rfl, rfl⟩
  · exact ⟨v, H3, I3.tok _, rv, q3⟩
  · exact ⟨z, H3, I3.tok _, rz, q3⟩
end
/-! ### rules within a comprehension: the written part by its name -/
section
variable {X : Cx}
theorem ix_tupK (K : PySem.W.Frag) (h : X.K = K := by rfl) : IxR X (rIxT K) := h ▸ ix_tup
theorem ix_listK (K : PySem.W.Frag) (h : X.K = K := by rfl) : IxR X (rIxL K) := h ▸ ix_list
theorem call_len_seqK (K : PySem.W.Frag) (h : X.K = K := by rfl) : CallR X (.builtin "len") (fun xs H Q => ∃ p ys, xs = [V.ref p] ∧ (SqL K H p ys ∨ SqT K H p ys) ∧ Q (.int (ys.length : Nat)) H) := h ▸ call_len_seq
theorem op_in_seqK (K : PySem.W.Frag) (h : X.K = K := by rfl) : OpR X (compareOp .In) (rIn K false) := h ▸ op_in_seq
theorem op_notIn_seqK (K : PySem.W.Frag) (h : X.K = K := by rfl) : OpR X (compareOp .NotIn) (rIn K true) := h ▸ op_notIn_seq
end
end SH

set_option Elab.async false
set_option linter.all false
set_option maxRecDepth 100000
namespace SH
open PySem L2
def topS (i : Nat) : Stmt := PySem.Challenge.pw_stealhall_k09_expressions_of_none.main.body.getD i (.Pass ⟨0, 0, 0, 0⟩)
end SH


set_option Elab.async false
set_option linter.all false
set_option maxRecDepth 100000
namespace SH
open PySem L2
abbrev sBag : Stmt := topS 48
abbrev sTake : Stmt := topS 49
theorem scBag : FnScope ["_law_script", "_law_k", "_law_cell"] ["_law_script", "_law_k"] (defScope sBag) := ⟨rfl, rfl, rfl, by decide +kernel, rfl, by decide +kernel, by decide +kernel⟩
theorem scTake : FnScope ["_law_bag_here", "_law_many", "_law_digit", "_law_primes", "_law_step", "_law_base", "_law_found", "_law_prime"] ["_law_bag_here", "_law_many"] (defScope sTake) := ⟨rfl, rfl, rfl, by decide +kernel, rfl, by decide +kernel, by decide +kernel⟩
/-- the names of the built-ins are free -/
structure Bi (mg : Str → Option Value) : Prop where
  len : mg "len" = none
  abs : mg "abs" = none
  int : mg "int" = none
  str : mg "str" = none
  range : mg "range" = none
  max : mg "max" = none
  min : mg "min" = none
  isinstance : mg "isinstance" = none
  all : mg "all" = none
/-- a def that can be called -/
structure Fk (P : Program) (w : World) (K : PySem.W.Frag) (mg : Str → Option Value) (base : Heap) (lv : Nat) (x : Str) (f : Addr) (fd : FuncData) (ps : List Str) (sp : Sp) : Prop where
  G : FnOk P w K mg base CX0 lv f fd ps sp
  m : mg x = some (.ref f)
  k : PySem.W.keepIn K (.ref f) = true
  b : Binds K fd ps []
/-- a bag from which n can be taken -/
def Bag (H : Hp) (b : Addr) (n : Nat) : Prop := ∃ x y z : Int, H b = some (.lst [.int x, .int y, .int z]) ∧ 0 ≤ x ∧ 0 ≤ y ∧ y ≤ 4294967296 ∧ 0 ≤ z ∧ z + n ≤ 16777216
theorem Bag.less {H : Hp} {b : Addr} {n m : Nat} (h : Bag H b n) (hm : m ≤ n) : Bag H b m := by
  obtain ⟨x, y, z, e, h1, h2, h3, h4, h5⟩ := h
  exact ⟨x, y, z, e, h1, h2, h3, h4, by omega⟩
theorem Bag.same {H H' : Hp} {b : Addr} {n : Nat} (h : Bag H b n) (s : Same H H') : Bag H' b n := by
  obtain ⟨x, y, z, e, r⟩ := h
  exact ⟨x, y, z, s _ _ e, r⟩
theorem Bag.lst {H : Hp} {b : Addr} {n : Nat} (h : Bag H b n) : ∃ ys, H b = some (.lst ys) := by
  obtain ⟨x, y, z, e, _⟩ := h
  exact ⟨_, e⟩
def spBag (K : PySem.W.Frag) : Sp := fun vs H Q _ => ∃ (a : Addr) (ns : List Int) (k : Int), vs = [.ref a, .int k] ∧ SqL K H a (ns.map V.int) ∧ 0 ≤ k ∧ k ≤ 63 ∧
  ∀ b H', Same H H' → H b = none → Bag H' b 16000000 → Q (.ref b) H'
def spTake : Sp := fun vs H Q _ => ∃ (b : Addr) (m : Int) (n : Nat), vs = [.ref b, .int m] ∧ 0 < m ∧ m < 1073741824 ∧ Bag H b (n + 1) ∧
  ∀ (d : Int) (H' : Hp), 0 ≤ d → d < m → Bag H' b n → But b H H' → Q (.int d) H'
theorem bit01 (b : Bool) : -(2 ^ 64) < (if b = true then (1 : Int) else 0) ∧ (if b = true then (1 : Int) else 0) < 2 ^ 64 := by cases b <;> decide
theorem bit0 (b : Bool) : 0 ≤ (if b = true then (1 : Int) else 0) := by cases b <;> decide
section
variable {P : Program} {w : World} {K : PySem.W.Frag} {mg : Str → Option Value} {base : Heap}
theorem ok_bag {f : Addr} {fd : FuncData} (F : Fun K "_law_bag" "_law_bag" sBag f fd) (T : Bi mg) : FnOk P w K mg base CX0 1 f fd ["_law_script", "_law_k"] (spBag K) := by
  refine F.ok scBag (fun vs H Q E h => ?_) (fun cdv A outer s H vs Q E hr h => ?_)
  · obtain ⟨a, ns, k, rfl, _⟩ := h
    rfl
  obtain ⟨a, ns, k, rfl, hS, h0, h1, q⟩ := h
  refine ⟨_, (pss_cons (ps_set (i := 2) scBag.nd rfl (Or.inl rfl) (pe_op op_add (pe_op op_mul pe_int (pv 1)) pe_int))
    (C8.pss_cut (ps_if (pt_cmpR op_lt (pv 1) (pe_callB call_len_seq (by rfl) T.len (by decide +kernel) (pa_cons (pv 0) pa_nil)) (nomark _))
      (pss_one (ps_set (i := 2) scBag.nd rfl (Or.inl rfl) (pe_ix ix_list (pv 0) (pv 1) (fun _ _ => rfl))))
      pss_nil)
    (pss_one (ps_ret (pe_lst (pa_cons (pe_op op_mul (pe_callB call_abs (by rfl) T.abs (by decide +kernel) (pa_cons (pv 2) pa_nil)) (pe_callTy call_int1 (by rfl) T.int (by decide +kernel) (pa_cons (pe_cmpR op_ge (pe_callB call_abs (by rfl) T.abs (by decide +kernel) (pa_cons (pv 2) pa_nil)) (pe_op op_pow pe_int pe_int) (nomark _)) pa_nil))) (pa_cons (pe_op op_add (pe_op op_mod (pv 2) pe_int) (pe_op op_mul pe_int (pv 1))) (pa_cons pe_int pa_nil)))))))), ?_⟩
  have hl : (ns.map V.int).length = ns.length := List.length_map _
  refine ⟨_, rfl, _, _, rfl, rfl, .inl ⟨by decide, by decide⟩, _, _, rfl, rfl, ?_⟩
  refine ⟨fun σ' H' => ∃ c : Int, σ' = [some (.ref a), some (.int k), some (.int c)] ∧ H' = H, ?_, ?_⟩
  · refine ⟨_, rfl, _, rfl, a, _, rfl, .inl hS, _, _, rfl, rfl, _, rfl, ?_⟩
    refine ite2 (fun c => ?_) (fun c => ?_)
    · have c' := of_decide_eq_true c
      rw [hl] at c'
      have hk : k.toNat < ns.length := by omega
      refine ⟨_, rfl, _, rfl, a, _, k, .int ns[k.toNat], rfl, rfl, hS, ?_, ?_⟩
      · have q : atI (ns.map V.int) ((k.toNat : Nat) : Int) = some (.int ns[k.toNat]) := atI_nat (by rw [List.getElem?_map, List.getElem?_eq_getElem hk] <;> rfl)
        rwa [show ((k.toNat : Nat) : Int) = k by omega] at q
      · exact ⟨_, rfl, rfl⟩
    · exact ⟨_, rfl, rfl⟩
  · rintro σ' H' ⟨c, rfl, rfl⟩
    refine ⟨_, rfl, _, rfl, _, rfl, _, rfl, _, _, rfl, rfl, ⟨by decide, by decide, by decide⟩, _, _, rfl, rfl, .inr ⟨_, rfl, ?_⟩⟩
    refine ⟨_, _, rfl, rfl, .inr ?_, ?_⟩
    · exact bit01 _
    refine ⟨_, rfl, _, _, rfl, rfl, (by show (0 : Int) < 2147483647; decide), _, rfl, _, _, rfl, rfl, .inl ⟨by decide, by decide⟩, _, _, rfl, rfl, ?_⟩
    refine ⟨by show 3 ≤ sizeLine; decide, fun b hb => ?_⟩
    refine q b _ (same_new hb _) hb ⟨_, _, _, upd_same, ?_, ?_, ?_, Int.le_refl 0, by decide⟩
    · show 0 ≤ (if c < 0 then -c else c) * (if decide ((10 : Int) ^ 18 ≤ (if c < 0 then -c else c)) = true then (1 : Int) else 0)
      refine Int.mul_nonneg ?_ ?_
      · split <;> omega
      · exact bit0 _
    · have := Int.emod_nonneg c (show (2147483647 : Int) ≠ 0 by decide)
      show 0 ≤ c % 2147483647 + 37 * k
      omega
    · have := Int.emod_lt_of_pos c (show (0 : Int) < 2147483647 by decide)
      show c % 2147483647 + 37 * k ≤ 4294967296
      omega
theorem pow3 {a : Int} (h0 : 0 ≤ a) (h : a < 4611686018427387904) : CPow a 3 := ⟨by decide, by decide, by omega⟩
def primes : List Int := [2147483647, 2147483629, 2147483587, 2147483579, 2147483563, 2147483549, 2147483543, 2147483497, 2147483489, 2147483477, 2147483423, 2147483399]
theorem primes_at {z : Int} : ∃ p : Int, atI (primes.map V.int) (z % 12) = some (.int p) ∧ 0 < p ∧ p < 2147483648 := by
  have h0 := Int.emod_nonneg z (show (12 : Int) ≠ 0 by decide)
  have h1 := Int.emod_lt_of_pos z (show (0 : Int) < 12 by decide)
  have hk : (z % 12).toNat < primes.length := by show (z % 12).toNat < 12; omega
  have q : atI (primes.map V.int) (((z % 12).toNat : Nat) : Int) = some (.int primes[(z % 12).toNat]) := atI_nat (by rw [List.getElem?_map, List.getElem?_eq_getElem hk] <;> rfl)
  rw [show (((z % 12).toNat : Nat) : Int) = z % 12 by omega] at q
  have all : ∀ p ∈ primes, 0 < p ∧ p < 2147483648 := by decide
  exact ⟨_, q, all _ (List.getElem_mem hk)⟩
theorem base_le {y z : Int} (h2 : 0 ≤ y) (h3 : y ≤ 4294967296) (h4 : 0 ≤ z) (h5 : z ≤ 16777217) : 0 ≤ y * (2 * z + 1) + 7919 * z * z + 29 ∧ y * (2 * z + 1) + 7919 * z * z + 29 < 4611686018427387904 := by
  have a1 : y * (2 * z + 1) ≤ 4294967296 * 67108864 := Int.mul_le_mul h3 (by omega) (by omega) (by omega)
  have a2 : 0 ≤ y * (2 * z + 1) := Int.mul_nonneg h2 (by omega)
  have b1 : 7919 * z * z ≤ 132858781423 * 16777217 := Int.mul_le_mul (by omega) h5 h4 (by omega)
  have b2 : 0 ≤ 7919 * z * z := Int.mul_nonneg (by omega) h4
  omega
theorem ok_take {f : Addr} {fd : FuncData} (F : Fun K "_law_take" "_law_take" sTake f fd) : FnOk P w K mg base CX0 1 f fd ["_law_bag_here", "_law_many"] spTake := by
  refine F.ok scTake (fun vs H Q E h => ?_) (fun cdv A outer s H vs Q E hr h => ?_)
  · obtain ⟨b, m, n, rfl, _⟩ := h
    rfl
  obtain ⟨b, m, n, rfl, hm0, hm1, ⟨x, y, z, hb, hx, hy, hy1, hz, hz1⟩, q⟩ := h
  refine ⟨_, (pss_cons (ps_if (pt_cmpR op_gt (pe_ix ix_list (pv 0) pe_int (fun _ _ => rfl)) pe_int (nomark _))
      (pss_cons (ps_set (i := 2) scTake.nd rfl (Or.inl rfl) (pe_op op_mod (pe_ix ix_list (pv 0) pe_int (fun _ _ => rfl)) (pv 1)))
    (pss_cons (ps_asg (pe_op op_fdiv (pe_ix ix_list (pv 0) pe_int (fun _ _ => rfl)) (pv 1)) (pg_sub (pv 0) pe_int set_list))
    (pss_one (ps_ret (pv 2)))))
      pss_nil)
    (pss_cons (ps_set (i := 3) scTake.nd rfl (Or.inl rfl) (pe_tup (pa_cons pe_int (pa_cons pe_int (pa_cons pe_int (pa_cons pe_int (pa_cons pe_int (pa_cons pe_int (pa_cons pe_int (pa_cons pe_int (pa_cons pe_int (pa_cons pe_int (pa_cons pe_int (pa_cons pe_int pa_nil))))))))))))))
    (pss_cons (ps_asg (pe_op op_add (pe_ix ix_list (pv 0) pe_int (fun _ _ => rfl)) pe_int) (pg_sub (pv 0) pe_int set_list))
    (pss_cons (ps_set (i := 4) scTake.nd rfl (Or.inl rfl) (pe_ix ix_list (pv 0) pe_int (fun _ _ => rfl)))
    (pss_cons (ps_set (i := 5) scTake.nd rfl (Or.inl rfl) (pe_op op_add (pe_op op_add (pe_op op_mul (pe_ix ix_list (pv 0) pe_int (fun _ _ => rfl)) (pe_op op_add (pe_op op_mul pe_int (pv 4)) pe_int)) (pe_op op_mul (pe_op op_mul pe_int (pv 4)) (pv 4))) pe_int))
    (pss_cons (ps_set (i := 6) scTake.nd rfl (Or.inl rfl) (pe_op op_mod (pe_op op_pow (pv 5) pe_int) (pe_ix ix_tup (pv 3) (pe_op op_mod (pv 4) pe_int) (fun _ _ => rfl))))
    (pss_cons (ps_set (i := 7) scTake.nd rfl (Or.inl rfl) (pe_ix ix_tup (pv 3) (pe_op op_mod (pe_op op_add (pv 4) pe_int) pe_int) (fun _ _ => rfl)))
    (pss_one (ps_ret (pe_op op_mod (pe_op op_fdiv (pe_op op_mod (pe_op op_mul (pv 6) (pe_op op_add (pe_op op_fdiv (pv 6) pe_int) pe_int)) (pv 7)) pe_int) (pv 1))))))))))), ?_⟩
  have i0 : ∀ {u v t : V}, atI [u, v, t] 0 = some u := fun {u v t} => atI_nat (j := 0) rfl
  have i1 : ∀ {u v t : V}, atI [u, v, t] 1 = some v := fun {u v t} => atI_nat (j := 1) rfl
  have i2 : ∀ {u v t : V}, atI [u, v, t] 2 = some t := fun {u v t} => atI_nat (j := 2) rfl
  refine ⟨_, rfl, b, _, 0, _, rfl, rfl, SqL.of hb, i0, _, _, rfl, rfl, _, rfl, ?_⟩
  refine ite2 (fun c => ?_) (fun c => ?_)
  · refine ⟨_, rfl, b, _, 0, _, rfl, rfl, SqL.of hb, i0, _, rfl, _, _, rfl, rfl, hm0, ?_⟩
    refine ⟨_, rfl, b, _, 0, _, rfl, rfl, SqL.of hb, i0, _, rfl, _, _, rfl, rfl, ⟨hm0, hm1⟩, ?_⟩
    refine ⟨_, rfl, b, _, 0, 0, rfl, rfl, hb, rfl, ?_⟩
    refine ⟨_, rfl, ?_⟩
    refine q _ _ (Int.emod_nonneg x (by omega)) (Int.emod_lt_of_pos x hm0) ⟨_, y, z, upd_same, Int.ediv_nonneg hx (by omega), hy, hy1, hz, by omega⟩ fun a o na e => ?_
    rw [upd_ne na]
    exact e
  · refine ⟨by show 12 ≤ sizeLine; decide, fun t ht => ?_⟩
    have nt : b ≠ t := ne_of_none hb ht
    have hb1 : (upd H t (.tup (primes.map V.int))) b = some (.lst [.int x, .int y, .int z]) := by rw [upd_ne nt]; exact hb
    refine ⟨_, rfl, b, _, 2, _, rfl, rfl, SqL.of hb1, i2, _, _, rfl, rfl, ?_⟩
    refine ⟨_, rfl, b, _, 2, 2, rfl, rfl, hb1, rfl, ?_⟩
    have hb2 : (upd (upd H t (.tup (primes.map V.int))) b (.lst [.int x, .int y, .int (z + 1)])) b = some (.lst [.int x, .int y, .int (z + 1)]) := upd_same
    have ht2 : (upd (upd H t (.tup (primes.map V.int))) b (.lst [.int x, .int y, .int (z + 1)])) t = some (.tup (primes.map V.int)) := by rw [upd_ne (Ne.symm nt), upd_same]
    refine ⟨_, rfl, b, _, 2, _, rfl, rfl, SqL.of hb2, i2, ?_⟩
    obtain ⟨c0, c1⟩ := base_le (y := y) (z := z + 1) hy hy1 (by omega) (by omega)
    refine ⟨_, rfl, b, _, 1, _, rfl, rfl, SqL.of hb2, i1, _, rfl, _, _, rfl, rfl, .inl ⟨by decide, by decide⟩, _, _, rfl, rfl, _, _, rfl, rfl, .inl ⟨by omega, by omega⟩, ?_⟩
    refine ⟨_, rfl, _, _, rfl, rfl, .inl ⟨by decide, by decide⟩, _, rfl, _, _, rfl, rfl, .inl ⟨by omega, by omega⟩, _, _, rfl, rfl, _, _, rfl, rfl, ?_⟩
    obtain ⟨p1, e1, p1a, p1b⟩ := primes_at (z := z + 1)
    obtain ⟨p2, e2, p2a, p2b⟩ := primes_at (z := z + 1 + 5)
    refine ⟨_, rfl, _, _, rfl, rfl, pow3 c0 c1, _, rfl, _, rfl, _, _, rfl, rfl, (by show (0 : Int) < 12; decide), t, _, _, _, rfl, rfl, SqT.of ht2, e1, _, _, rfl, rfl, p1a, ?_⟩
    refine ⟨_, rfl, _, rfl, _, _, rfl, rfl, _, _, rfl, rfl, (by show (0 : Int) < 12; decide), t, _, _, _, rfl, rfl, SqT.of ht2, e2, ?_⟩
    have f0 := Int.emod_nonneg ((y * (2 * (z + 1) + 1) + 7919 * (z + 1) * (z + 1) + 29) ^ 3) (show p1 ≠ 0 by omega)
    have f1 := Int.emod_lt_of_pos ((y * (2 * (z + 1) + 1) + 7919 * (z + 1) * (z + 1) + 29) ^ 3) p1a
    refine ⟨_, rfl, _, rfl, _, _, rfl, rfl, ⟨by decide, by decide⟩, _, _, rfl, rfl, _, _, rfl, rfl, .inl ⟨Int.lt_of_lt_of_le (by decide) f0, Int.lt_trans f1 (by omega)⟩, _, rfl, _, _, rfl, rfl, p2a, _, _, rfl, rfl, ⟨by decide, by decide⟩, _, rfl, _, _, rfl, rfl, hm0, ?_⟩
    refine q _ _ (Int.emod_nonneg _ (by omega)) (Int.emod_lt_of_pos _ hm0) ⟨x, y, z + 1, hb2, hx, hy, hy1, by omega, by omega⟩ fun a o na e => ?_
    rw [upd_ne na, upd_ne (ne_of_none e ht)]
    exact e
end
end SH

set_option Elab.async false
set_option linter.all false
set_option maxRecDepth 100000
namespace SH
open PySem L2
abbrev sKept : Stmt := topS 50
abbrev sNames : Stmt := topS 51
abbrev sNumber : Stmt := topS 52
theorem scKept : FnScope [] [] (defScope sKept) := ⟨rfl, rfl, rfl, by decide +kernel, rfl, by decide +kernel, by decide +kernel⟩
theorem scNames : FnScope ["_law_bag_here", "_law_many", "_law_letters", "_law_found", "_law_k", "_law_name", "_law_way", "_law_some", "_law_j", "_law_letter", "_law_one"] ["_law_bag_here", "_law_many"] (defScope sNames) := ⟨rfl, rfl, rfl, by decide +kernel, rfl, by decide +kernel, by decide +kernel⟩
theorem scNumber : FnScope ["_law_bag_here", "_law_way", "_law_found", "_law_k"] ["_law_bag_here"] (defScope sNumber) := ⟨rfl, rfl, rfl, by decide +kernel, rfl, by decide +kernel, by decide +kernel⟩
/-! ### mathematics -/
def kept : List Str := ["work", "room", "go", "call", "wait", "if", "else", "end", "give", "fail"]
def letters : Str := "abcdefghijklmnopqrstuvwxyz"
theorem menu {xs : List V} {i : Int} (h0 : 0 ≤ i) (h1 : i < xs.length) : ∃ v, atI xs i = some v ∧ v ∈ xs := by
  have hk : i.toNat < xs.length := by omega
  refine ⟨xs[i.toNat], ?_, List.getElem_mem hk⟩
  have q : atI xs ((i.toNat : Nat) : Int) = some xs[i.toNat] := atI_nat (List.getElem?_eq_getElem hk)
  rwa [show ((i.toNat : Nat) : Int) = i by omega] at q
theorem menuI {ns : List Int} {i : Int} (h0 : 0 ≤ i) (h1 : i < ns.length) : ∃ k, atI (ns.map V.int) i = some (.int k) ∧ k ∈ ns := by
  obtain ⟨v, e, m⟩ := menu (xs := ns.map V.int) h0 (by rw [List.length_map]; exact h1)
  obtain ⟨k, hk, rfl⟩ := List.mem_map.mp m
  exact ⟨k, e, hk⟩
theorem menuS {ns : List Str} {i : Int} (h0 : 0 ≤ i) (h1 : i < ns.length) : ∃ k, atI (ns.map V.str) i = some (.str k) ∧ k ∈ ns := by
  obtain ⟨v, e, m⟩ := menu (xs := ns.map V.str) h0 (by rw [List.length_map]; exact h1)
  obtain ⟨k, hk, rfl⟩ := List.mem_map.mp m
  exact ⟨k, e, hk⟩
theorem log_ok {i : Int} (h0 : 0 ≤ i) (h1 : i < 1000000 ^ 5) : i.natAbs.log2 < 1920 := by
  by_cases z : i.natAbs = 0
  · rw [z]; decide
  · rw [Nat.log2_lt z]
    have : i.natAbs < 2 ^ 100 := by
      have e : (1000000 : Int) ^ 5 = 1000000000000000000000000000000 := by decide
      have e2 : (2 : Nat) ^ 100 = 1267650600228229401496703205376 := by decide
      rw [e] at h1
      rw [e2]
      omega
    exact Nat.lt_trans this (Nat.pow_lt_pow_right (by decide) (by decide))
def codes (s : Str) : List Nat := s.cps.toList
theorem codes_len (s : Str) : (codes s).length = s.length := Array.length_toList
theorem codes_app (a b : Str) : codes (a ++ b) = codes a ++ codes b := by
  show (a.cps ++ b.cps).toList = _
  rw [Array.toList_append]
  all_goals rfl
theorem codes_inj {a b : Str} (h : codes a = codes b) : a = b := by
  cases a with | mk x =>
  cases b with | mk y =>
  have : x = y := Array.toList_inj.mp h
  rw [this]
/-- a text of one to eight letters -/
def nmOk (s : Str) : Prop := 1 ≤ (codes s).length ∧ (codes s).length ≤ 8 ∧ ∀ c ∈ codes s, 97 ≤ c ∧ c ≤ 122
structure NmsOk (l : List Str) : Prop where
  each : ∀ s ∈ l, nmOk s ∧ s ∉ kept
  nd : l.Nodup
theorem NmsOk.snoc {l : List Str} {s : Str} (h : NmsOk l) (a : nmOk s) (b : s ∉ l ++ kept) : NmsOk (l ++ [s]) := by
  refine ⟨fun x hx => ?_, ?_⟩
  · rcases List.mem_append.mp hx with hx | hx
    · exact h.each x hx
    · rw [List.mem_singleton.mp hx]
      exact ⟨a, fun q => b (List.mem_append_right _ q)⟩
  · exact nd_snoc h.nd fun q => b (List.mem_append_left _ q)
theorem join_codes : ∀ l : List Str, codes (PySem.Txt.join (PySem.Str.ofString "") l) = (l.map codes).flatten := by
  have step : ∀ l : List Str, codes (PySem.Str.join (PySem.Str.ofString "") l) = (l.map codes).flatten := by
    intro l
    induction l with
    | nil => rfl
    | cons a r ih =>
      cases r with
      | nil => show codes a = codes a ++ []; rw [List.append_nil]
      | cons b t =>
        show codes (a ++ PySem.Str.ofString "" ++ PySem.Str.join (PySem.Str.ofString "") (b :: t)) = codes a ++ ((b :: t).map codes).flatten
        rw [codes_app, codes_app, ih]
        have z : codes (PySem.Str.ofString "") = [] := by decide +kernel
        rw [z, List.append_nil]
  intro l
  show codes (Builtin.Str.glued (PySem.Str.ofString "") l) = _
  rw [StrLaws.glued_eq_join]
  exact step l
theorem pig : ∀ (xs L : List Str), xs.Nodup → L.length < xs.length → ∃ x ∈ xs, x ∉ L
  | [], L, _, h => absurd h (Nat.not_lt_zero _)
  | x :: r, L, hn, h => by
    obtain ⟨h1, h2⟩ := List.nodup_cons.mp hn
    by_cases hx : x ∈ L
    · have hl := List.length_erase_of_mem hx
      rw [List.length_cons] at h
      obtain ⟨y, hy, hyL⟩ := pig r (L.erase x) h2 (by have := List.length_pos_of_mem hx; omega)
      refine ⟨y, List.mem_cons_of_mem _ hy, fun q => hyL ?_⟩
      refine (List.mem_erase_of_ne ?_).mpr q
      intro e
      rw [e] at hy
      exact h1 hy
    · exact ⟨x, List.mem_cons_self, hx⟩
def one (c : Nat) : Str := ⟨#[c]⟩
theorem codes_one (c : Nat) : codes (one c) = [c] := rfl
/-- the twenty-six of a name: another first letter -/
def some26 (s : Str) : List Str := (codes letters).map fun c => one c ++ cutS s (some 1) none
theorem cut1 (s : Str) : codes (cutS s (some 1) none) = (codes s).drop 1 := by
  unfold cutS
  show (((s.cps.toList.drop (HT.sIx s.length 0 (some 1))).take (HT.sIx s.length s.length none - HT.sIx s.length 0 (some 1))).toArray).toList = _
  rw [List.toList_toArray, show HT.sIx s.length 0 (some 1) = min 1 s.length from HT.sIx_nat s.length 0 1, HT.sIx_none]
  show (List.drop (min 1 s.length) (codes s)).take (s.length - min 1 s.length) = (codes s).drop 1
  rw [← codes_len]
  cases hc : codes s with
  | nil => rfl
  | cons x r =>
    rw [show min 1 (x :: r).length = 1 by rw [List.length_cons]; omega]
    show r.take ((x :: r).length - 1) = r
    rw [List.length_cons, Nat.add_sub_cancel, List.take_length]
theorem cutN {s : Str} {n : Nat} : codes (cutS s none (some (n : Int))) = (codes s).take n := by
  unfold cutS
  show (((s.cps.toList.drop (HT.sIx s.length 0 none)).take (HT.sIx s.length s.length (some (n : Int)) - HT.sIx s.length 0 none)).toArray).toList = _
  rw [List.toList_toArray, HT.sIx_nat, HT.sIx_none]
  show (List.drop 0 (codes s)).take (min n s.length - 0) = (codes s).take n
  rw [List.drop_zero, Nat.sub_zero, ← codes_len]
  by_cases h : n ≤ (codes s).length
  · rw [Nat.min_eq_left h]
  · rw [Nat.min_eq_right (by omega), List.take_length, List.take_of_length_le (by omega)]
theorem some26_nd (s : Str) : (some26 s).Nodup := by
  have base : (codes letters).Nodup := by decide +kernel
  unfold some26
  refine List.Pairwise.map _ ?_ base
  intro a b hab e
  have q := congrArg codes e
  rw [codes_app, codes_app, codes_one, codes_one] at q
  exact hab (List.cons.inj q).1
theorem some26_len (s : Str) : (some26 s).length = 26 := by
  unfold some26
  rw [List.length_map]
  decide +kernel
theorem letters_ok : ∀ c ∈ codes letters, 97 ≤ c ∧ c ≤ 122 := by decide +kernel
theorem kept_ok : ∀ s ∈ kept, ∀ c ∈ codes s, 97 ≤ c ∧ c ≤ 122 := by decide +kernel
theorem kept_pos : ∀ s ∈ kept, 1 ≤ (codes s).length ∧ (codes s).length ≤ 4 := by decide +kernel
theorem some26_ok {s t : Str} (h : nmOk s) (ht : t ∈ some26 s) : nmOk t := by
  unfold some26 at ht
  obtain ⟨c, hc, rfl⟩ := List.mem_map.mp ht
  obtain ⟨h1, h2, h3⟩ := h
  have e : codes (one c ++ cutS s (some 1) none) = c :: (codes s).drop 1 := by rw [codes_app, codes_one, cut1]; rfl
  refine ⟨?_, ?_, ?_⟩
  · rw [e, List.length_cons]; omega
  · rw [e, List.length_cons, List.length_drop]; omega
  · rw [e]
    intro x hx
    rcases List.mem_cons.mp hx with rfl | hx
    · exact letters_ok _ hc
    · exact h3 _ (List.mem_of_mem_drop hx)
theorem inV_str {x : Str} : ∀ {l : List Str}, inV (.str x) (l.map V.str) = decide (x ∈ l)
  | [] => rfl
  | y :: r => by
    show (eqV (.str y) (.str x) || inV (.str x) (r.map V.str)) = _
    rw [inV_str (l := r)]
    show ((y == x) || decide (x ∈ r)) = _
    by_cases e : x = y
    · subst e; simp
    · have e' : (y == x) = false := by simpa using fun h => e h.symm
      rw [e', Bool.false_or]
      simp [e]
theorem flat_strs (l : List Str) : (l.map V.str).all flatV = true := by
  rw [List.all_eq_true]
  intro x hx
  obtain ⟨s, _, rfl⟩ := List.mem_map.mp hx
  rfl
def spKept : Sp := fun vs H Q _ => vs = [] ∧ ∀ p, H p = none → Q (.ref p) (upd H p (.lst (kept.map V.str)))
def spNumber : Sp := fun vs H Q _ => ∃ (b : Addr) (n : Nat), vs = [.ref b] ∧ Bag H b (n + 8) ∧
  ∀ (i : Int) (H' : Hp), 0 ≤ i → i < 1000000 ^ 5 → Bag H' b n → But b H H' → Q (.int i) H'
def spNames : Sp := fun vs H Q _ => ∃ (b : Addr) (m n : Nat), vs = [.ref b, .int m] ∧ m ≤ 12 ∧ Bag H b (n + 16 * m) ∧
  ∀ (p : Addr) (nm : List Str) (H' : Hp), H p = none → H' p = some (.lst (nm.map V.str)) → nm.length = m → NmsOk nm → Bag H' b n → But b H H' → Q (.ref p) H'
section
variable {P : Program} {w : World} {K : PySem.W.Frag} {mg : Str → Option Value} {base : Heap}
theorem ok_kept {f : Addr} {fd : FuncData} (F : Fun K "_law_kept" "_law_kept" sKept f fd) : FnOk P w K mg base CX0 1 f fd [] spKept := by
  refine F.ok scKept (fun vs H Q E h => ?_) (fun cdv A outer s H vs Q E hr h => ?_)
  · obtain ⟨rfl, _⟩ := h
    rfl
  obtain ⟨rfl, q⟩ := h
  refine ⟨_, (pss_one (ps_ret (pe_lst (pa_cons pe_str (pa_cons pe_str (pa_cons pe_str (pa_cons pe_str (pa_cons pe_str (pa_cons pe_str (pa_cons pe_str (pa_cons pe_str (pa_cons pe_str (pa_cons pe_str pa_nil))))))))))))), ?_⟩
  exact ⟨by show 10 ≤ sizeLine; decide, fun p hp => q p hp⟩
theorem But.new {b : Addr} {H : Hp} {p : Addr} (h : H p = none) (o : HO) : But b H (upd H p o) := .of (same_new h o)
theorem ok_number {f t : Addr} {fd td : FuncData} (F : Fun K "_law_number" "_law_number" sNumber f fd) (TK : Fk P w K mg base 1 "_law_take" t td ["_law_bag_here", "_law_many"] spTake) (T : Bi mg) :
    FnOk P w K mg base CX0 2 f fd ["_law_bag_here"] spNumber := by
  refine F.ok scNumber (fun vs H Q E h => ?_) (fun cdv A outer s H vs Q E hr h => ?_)
  · obtain ⟨b, n, rfl, _⟩ := h
    rfl
  obtain ⟨b, n, rfl, hB, q⟩ := h
  refine ⟨_, (pss_cons (ps_set (i := 1) scNumber.nd rfl (Or.inl rfl) (pe_call TK.G (hr.mono (by omega)) (by rfl) TK.m TK.k TK.b .nil pass0 (pa_cons (pv 0) (pa_cons pe_int pa_nil))))
    (pss_cons (ps_if (pt_cmpR op_lt (pv 1) pe_int (nomark _))
      (pss_one (ps_ret (pe_call TK.G (hr.mono (by omega)) (by rfl) TK.m TK.k TK.b .nil pass0 (pa_cons (pv 0) (pa_cons (pe_ix ix_list (pe_lst (pa_cons pe_int (pa_cons pe_int pa_nil))) (pv 1) (fun _ _ => rfl)) pa_nil)))))
      pss_nil)
    (pss_cons (ps_set (i := 2) scNumber.nd rfl (Or.inl rfl) pe_int)
    (pss_cons (ps_for PassesOwn.never rfl (pi_range1 (by rfl) T.range (pa_cons (pe_ix ix_list (pe_lst (pa_cons pe_int (pa_cons pe_int pa_nil))) (pe_op op_sub (pv 1) pe_int) (fun _ _ => rfl)) pa_nil)) (pg_name (i := 3) scNumber.nd rfl (.inl rfl))
      (pss_one (ps_set (i := 2) scNumber.nd rfl (Or.inl rfl) (pe_op op_add (pe_op op_mul (pv 2) (pe_op op_pow pe_int pe_int)) (pe_call TK.G (hr.mono (by omega)) (by rfl) TK.m TK.k TK.b .nil pass0 (pa_cons (pv 0) (pa_cons (pe_op op_pow pe_int pe_int) pa_nil)))))))
    (pss_one (ps_ret (pv 2))))))), ?_⟩
  refine ⟨_, rfl, b, 4, n + 7, rfl, by decide, by decide, hB, fun d1 H1 a1 a2 B1 U1 => ?_⟩
  refine ⟨_, rfl, _, _, rfl, rfl, _, rfl, ?_⟩
  refine ite2 (fun c => ?_) (fun c => ?_)
  · have c' : d1 < 2 := of_decide_eq_true c
    obtain ⟨v, e, hv⟩ := menuI (ns := [4, 30]) a1 (by show d1 < 2; exact c')
    have hv' : v = 4 ∨ v = 30 := by simpa using hv
    refine ⟨_, rfl, (by show 2 ≤ sizeLine; decide), fun l hl => ?_⟩
    refine ⟨_, rfl, l, _, _, _, rfl, rfl, SqL.of upd_same, e, b, v, n + 6, rfl, by omega, by omega, B1.same (same_new hl _), fun d2 H2 b1 b2 B2 U2 => ?_⟩
    refine q _ _ b1 ?_ (B2.less (by omega)) (U1.trans ((But.new hl _).trans U2))
    have e : (1000000 : Int) ^ 5 = 1000000000000000000000000000000 := by decide
    rw [e]
    omega
  · have c' : ¬ d1 < 2 := of_decide_eq_false (Bool.eq_false_iff.mpr c)
    obtain ⟨v, e, hv⟩ := menuI (ns := [2, 5]) (i := d1 - 2) (by omega) (by show d1 - 2 < 2; omega)
    have hv' : v = 2 ∨ v = 5 := by simpa using hv
    refine ⟨(by show 2 ≤ sizeLine; decide), fun l hl => ?_⟩
    refine ⟨_, rfl, _, _, rfl, rfl, l, _, _, _, rfl, rfl, SqL.of upd_same, e, v, rfl, by omega, by omega, ?_⟩
    refine for_range (lo := 0) (n := v.toNat) (fun i σ H' => ∃ (c : Int) (y : Option V), σ = [some (.ref b), some (.int d1), some (.int c), y] ∧ 0 ≤ c ∧ c < 1000000 ^ i ∧ Bag H' b (n + 5 - i) ∧ But b H H') ?_ ?_ ?_
    · exact ⟨0, none, rfl, Int.le_refl _, by decide, (B1.same (same_new hl _)).less (by omega), U1.trans (But.new hl _)⟩
    · rintro i σ H2 hi ⟨c, y, rfl, c0, c1, B2, U2⟩
      refine ⟨_, rfl, _, _, rfl, rfl, ⟨by decide, by decide, by decide⟩, _, _, rfl, rfl, .inr ⟨by decide, by decide⟩, ?_⟩
      refine ⟨_, rfl, _, _, rfl, rfl, ⟨by decide, by decide, by decide⟩, b, _, n + 4 - i, rfl, by decide, by decide, B2.less (by omega), fun d2 H3 b1 b2 B3 U3 => ?_⟩
      refine ⟨_, _, rfl, rfl, _, _, rfl, ?_, ?_, B3.less (by omega), U2.trans U3⟩
      · show 0 ≤ c * 1000000 + d2
        omega
      · have b2' : d2 < 1000000 := b2
        show c * 1000000 + d2 < 1000000 ^ (i + 1)
        rw [Int.pow_succ]
        generalize (1000000 : Int) ^ i = X at c1 ⊢
        omega
    · rintro σ H2 ⟨c, y, rfl, c0, c1, B2, U2⟩
      refine ⟨_, rfl, q c H2 c0 ?_ (B2.less (by omega)) U2⟩
      rcases hv' with rfl | rfl
      · exact Int.lt_trans c1 (by decide)
      · exact c1
end
end SH

set_option Elab.async false
set_option linter.all false
set_option maxRecDepth 100000
namespace SH
open PySem L2
theorem signs_ok {l : List Str} (h1 : 1 ≤ l.length) (h8 : l.length ≤ 8) (h : ∀ s ∈ l, ∃ c, s = one c ∧ 97 ≤ c ∧ c ≤ 122) : nmOk (PySem.Txt.join (PySem.Str.ofString "") l) := by
  have e : ∀ l : List Str, (∀ s ∈ l, ∃ c, s = one c ∧ 97 ≤ c ∧ c ≤ 122) → ((l.map codes).flatten).length = l.length ∧ ∀ c ∈ (l.map codes).flatten, 97 ≤ c ∧ c ≤ 122 := by
    intro l
    induction l with
    | nil => intro _; exact ⟨rfl, fun c hc => by cases hc⟩
    | cons a r ih =>
      intro h
      obtain ⟨i1, i2⟩ := ih fun s hs => h s (List.mem_cons_of_mem _ hs)
      obtain ⟨c, rfl, c1, c2⟩ := h a List.mem_cons_self
      refine ⟨?_, ?_⟩
      · show (c :: (r.map codes).flatten).length = r.length + 1
        rw [List.length_cons, i1]
      · intro x hx
        rcases List.mem_cons.mp (show x ∈ c :: (r.map codes).flatten from hx) with rfl | hx
        · exact ⟨c1, c2⟩
        · exact i2 x hx
  obtain ⟨e1, e2⟩ := e l h
  refine ⟨?_, ?_, ?_⟩
  · rw [join_codes, e1]; exact h1
  · rw [join_codes, e1]; exact h8
  · rw [join_codes]; exact e2
theorem pre_ok {k s : Str} {n : Nat} (hk : k ∈ kept) (hs : nmOk s) (h1 : 1 ≤ n) (h8 : n ≤ 8) : nmOk (cutS (k ++ s) none (some (n : Int))) := by
  obtain ⟨k1, k2⟩ := kept_pos k hk
  obtain ⟨s1, s2, s3⟩ := hs
  refine ⟨?_, ?_, ?_⟩
  · rw [cutN, codes_app, List.length_take, List.length_append]; omega
  · rw [cutN, List.length_take]; omega
  · rw [cutN, codes_app]
    intro c hc
    rcases List.mem_append.mp (List.mem_of_mem_take hc) with h | h
    · exact kept_ok k hk c h
    · exact s3 c h
theorem ones_len : ∀ l : List Str, (∀ s ∈ l, ∃ c, s = one c ∧ 97 ≤ c ∧ c ≤ 122) → (l.map (·.length)).sum = l.length
  | [], _ => rfl
  | a :: r, h => by
    have ih := ones_len r fun s hs => h s (List.mem_cons_of_mem _ hs)
    obtain ⟨c, rfl, _⟩ := h a List.mem_cons_self
    show (one c).length + (r.map (·.length)).sum = r.length + 1
    rw [ih]
    show 1 + r.length = r.length + 1
    omega
theorem letter_at {i : Int} (h0 : 0 ≤ i) (h1 : i < 26) : ∃ c, atI letters.cps.toList i = some c ∧ 97 ≤ c ∧ c ≤ 122 := by
  have hl : (codes letters).length = 26 := by decide +kernel
  have hk : i.toNat < (codes letters).length := by omega
  refine ⟨(codes letters)[i.toNat], ?_, letters_ok _ (List.getElem_mem hk)⟩
  have q : atI (codes letters) ((i.toNat : Nat) : Int) = some (codes letters)[i.toNat] := atI_nat (List.getElem?_eq_getElem hk)
  rwa [show ((i.toNat : Nat) : Int) = i by omega] at q
theorem filt_snoc {l : List Str} {L : List Str} {i : Nat} {x : Str} (h : l[i]? = some x) : (l.take (i + 1)).filter (fun y => !decide (y ∈ L)) = (l.take i).filter (fun y => !decide (y ∈ L)) ++ (if (!decide (x ∈ L)) = true then [x] else []) := by
  rw [List.take_add_one, h, List.filter_append]
  congr 1
  show List.filter _ [x] = _
  rw [List.filter_cons, List.filter_nil]
theorem names_len {l : List Str} (h : NmsOk l) : True := trivial
section
variable {P : Program} {w : World} {K : PySem.W.Frag} {mg : Str → Option Value} {base : Heap}
theorem ok_names {f t k : Addr} {fd td kd : FuncData} (F : Fun K "_law_names" "_law_names" sNames f fd) (TK : Fk P w K mg base 1 "_law_take" t td ["_law_bag_here", "_law_many"] spTake) (KP : Fk P w K mg base 1 "_law_kept" k kd [] spKept) (T : Bi mg) :
    FnOk P w K mg base CX0 2 f fd ["_law_bag_here", "_law_many"] spNames := by
  refine F.ok scNames (fun vs H Q E h => ?_) (fun cdv A outer s H vs Q E hr h => ?_)
  · obtain ⟨b, m, n, rfl, _⟩ := h
    rfl
  obtain ⟨b, m, n, rfl, hm, hB, q⟩ := h
  refine ⟨_, (pss_cons (ps_set (i := 2) scNames.nd rfl (Or.inr rfl) pe_str)
    (pss_cons (ps_set (i := 3) scNames.nd rfl (Or.inr rfl) (pe_lst pa_nil))
    (pss_cons (ps_for PassesOwn.never rfl (pi_range1 (by rfl) T.range (pa_cons (pv 1) pa_nil)) (pg_name (i := 4) scNames.nd rfl (.inl rfl))
      (pss_cons (ps_set (i := 5) scNames.nd rfl (Or.inr rfl) (pe_join pe_str (pe_lc (own := [("_law_j", 8)]) (g := gName 8) (tt := tYes) (by rfl) scNames.nd (pi_range1 (by rfl) T.range (pa_cons (pe_ix ix_list (pe_lst (pa_cons pe_int (pa_cons pe_int (pa_cons pe_int (pa_cons pe_int pa_nil))))) (pe_call TK.G (hr.mono (by omega)) (by rfl) TK.m TK.k TK.b .nil pass0 (pa_cons (pv 0) (pa_cons pe_int pa_nil))) (fun _ _ => rfl)) pa_nil)) (blkOk_by (own := [("_law_j", 8)]) (N := ["_law_bag_here", "_law_many", "_law_letters", "_law_found", "_law_k", "_law_name", "_law_way", "_law_some", "_law_j", "_law_letter", "_law_one"]) (sc := defScope sNames) (by decide +kernel)) (fun _ _ _ _ _ => pg_name (i := 8) scNames.nd rfl (Or.inl rfl)) (fun _ _ _ _ _ => pts_nil) (fun _ _ _ _ _ => (pe_ix ix_str (pv 2) (pe_call TK.G (hr.mono (by omega)) (by rfl) TK.m TK.k TK.b .nil pass0 (pa_cons (pv 0) (pa_cons pe_int pa_nil))) (fun _ _ => rfl))))))
    (pss_cons (ps_set (i := 6) scNames.nd rfl (Or.inl rfl) (pe_call TK.G (hr.mono (by omega)) (by rfl) TK.m TK.k TK.b .nil pass0 (pa_cons (pv 0) (pa_cons pe_int pa_nil))))
    (C8.pss_cut (ps_if (pt_cmpR op_lt (pv 6) pe_int (nomark _))
      (pss_one (ps_set (i := 5) scNames.nd rfl (Or.inr rfl) (pe_slice sl_str (pe_op op_add_str (pe_ix ix_list (pe_call0 KP.G (hr.mono (by omega)) (by rfl) KP.m KP.k KP.b .nil pass0) (pe_call TK.G (hr.mono (by omega)) (by rfl) TK.m TK.k TK.b .nil pass0 (pa_cons (pv 0) (pa_cons pe_int pa_nil))) (fun _ _ => rfl)) (pv 5)) po_none (po_some (pe_ix ix_list (pe_lst (pa_cons pe_int (pa_cons pe_int pa_nil))) (pv 6) (fun _ _ => rfl))))))
      pss_nil)
    (pss_cons (ps_setLc (i := 7) (own := [("_law_letter", 9)]) (g := gName 9) (tt := tYes) (by rfl) scNames.nd rfl rfl (sw_true rfl rfl rfl (by decide +kernel)) (pi_str (pv 2)) (blkOk_by (own := [("_law_letter", 9)]) (N := ["_law_bag_here", "_law_many", "_law_letters", "_law_found", "_law_k", "_law_name", "_law_way", "_law_some", "_law_j", "_law_letter", "_law_one"]) (sc := defScope sNames) (by decide +kernel)) (fun _ _ _ _ _ => pg_name (i := 9) scNames.nd rfl (Or.inl rfl)) (fun _ _ _ _ _ => pts_nil) (fun _ _ _ _ _ => (pe_op op_add_str (pv 9) (pe_slice sl_str (pv 5) (po_some pe_int) po_none))))
    (C8.pss_cut (ps_if (pt_cmpR op_in_seq (pv 5) (pe_op op_cat (pv 3) (pe_call0 KP.G (hr.mono (by omega)) (by rfl) KP.m KP.k KP.b .nil pass0)) rfl)
      (pss_one (ps_set (i := 5) scNames.nd rfl (Or.inr rfl) (pe_ix ix_list (pe_lc (own := [("_law_one", 10)]) (g := gName 10) (tt := tTest (tOp (rIn K true) (tVar 10) (tOp rCat (tVar 3) (tCall spKept [] E0 tNil)))) (by rfl) scNames.nd (pi_list (pv 7)) (blkOk_by (own := [("_law_one", 10)]) (N := ["_law_bag_here", "_law_many", "_law_letters", "_law_found", "_law_k", "_law_name", "_law_way", "_law_some", "_law_j", "_law_letter", "_law_one"]) (sc := defScope sNames) (by decide +kernel)) (fun _ _ _ _ _ => pg_name (i := 10) scNames.nd rfl (Or.inl rfl)) (fun _ _ _ _ _ => (pts_one (pt_cmpR (op_notIn_seqK K) (pv 10) (pe_op op_cat (pv 3) (pe_call0 KP.G (hr.mono (by omega)) (by rfl) KP.m KP.k KP.b .nil pass0)) rfl))) (fun _ _ _ _ _ => (pv 10))) pe_int (fun _ _ => rfl))))
      pss_nil)
    (pss_one (ps_expr (pe_bm PySem.F.plainAttrs_list PySem.F.slot_list_append PySem.F.type_list_append mt_append (pv 3) (pa_cons (pv 5) pa_nil))))))))))
    (pss_one (ps_ret (pv 3)))))), ?_⟩
  have hs : sizeLine = 16777216 := by decide
  refine ⟨Nat.zero_le _, fun p hp => ?_⟩
  obtain ⟨ys0, hb0⟩ := hB.lst
  have npb : p ≠ b := fun e => by rw [e, hb0] at hp; cases hp
  refine ⟨_, rfl, m, rfl, by omega, by omega, ?_⟩
  refine for_range (lo := 0) (n := (m : Int).toNat) (fun i σ H' => ∃ (nm : List Str) (y4 y5 y6 y7 : Option V), σ = [some (.ref b), some (.int m), some (.str letters), some (.ref p), y4, y5, y6, y7, none, none, none] ∧
    H' p = some (.lst (nm.map V.str)) ∧ nm.length = i ∧ NmsOk nm ∧ Bag H' b (n + 16 * (m - i)) ∧ But b H H') ?_ ?_ ?_
  · exact ⟨[], none, none, none, none, rfl, upd_same, rfl, ⟨fun s h => (by cases h), List.nodup_nil⟩, hB.same (same_new hp _), But.new hp _⟩
  · rintro i σ H1 hi ⟨nm, y4, y5, y6, y7, rfl, hp1, hl, hN, B1, U1⟩
    have hi' : i < m := by omega
    -- the name by its letters
    refine ⟨⟨_, rfl⟩, (by show 4 ≤ sizeLine; decide), fun l1 hl1 => ?_⟩
    refine ⟨_, rfl, b, 4, n + 16 * (m - i) - 1, rfl, by decide, by decide, (B1.same (same_new hl1 _)).less (by omega), fun d1 H2 a1 a2 B2 U2 => ?_⟩
    have nb1 : l1 ≠ b := fun e => by obtain ⟨ys, hy⟩ := B1.lst; rw [e, hy] at hl1; cases hl1
    have hl2 : H2 l1 = some (.lst (([1, 2, 3, 8] : List Int).map V.int)) := U2 _ _ nb1 upd_same
    obtain ⟨v, ev, hv⟩ := menuI (ns := [1, 2, 3, 8]) a1 (by show d1 < 4; exact a2)
    have hv' : 1 ≤ v ∧ v ≤ 8 := by
      have : v = 1 ∨ v = 2 ∨ v = 3 ∨ v = 8 := by simpa using hv
      omega
    refine ⟨l1, _, _, _, rfl, rfl, SqL.of hl2, ev, v, rfl, by omega, by omega, ?_⟩
    intro D hD
    have hp2 : H2 p = some (.lst (nm.map V.str)) := U2 _ _ npb ((same_new hl1 _) _ _ hp1)
    have nDb : D ≠ b := fun e => by obtain ⟨ys, hy⟩ := B2.lst; rw [e, hy] at hD; cases hD
    have nDp : D ≠ p := fun e => by rw [e, hp2] at hD; cases hD
    have U12 : But b H1 H2 := (But.new hl1 _).trans U2
    refine lc_range (lo := 0) (n := v.toNat) (fun j H' => ∃ ss : List Str, H' D = some (.lst (ss.map V.str)) ∧ ss.length = j ∧ (∀ s ∈ ss, ∃ c, s = one c ∧ 97 ≤ c ∧ c ≤ 122) ∧ Bag H' b (n + 16 * (m - i) - 1 - j) ∧ (∀ a o, a ≠ b → a ≠ D → H2 a = some o → H' a = some o)) ?_ ?_ ?_
    · refine ⟨[], upd_same, rfl, fun s h => (by cases h), (B2.same (same_new hD _)).less (by omega), fun a o _ _ e => (same_new hD _) _ _ e⟩
    · rintro j H3 hj ⟨ss, hD3, hss, hone, B3, U3⟩
      refine ⟨rfl, ?_⟩
      refine ⟨_, rfl, _, rfl, b, 26, n + 16 * (m - i) - 2 - j, rfl, by decide, by decide, B3.less (by omega), fun d2 H4 b1 b2 B4 U4 => ?_⟩
      obtain ⟨c, ec, c1, c2⟩ := letter_at b1 b2
      refine ⟨letters, _, c, rfl, rfl, (by show letters.length ≤ sizeLine; decide +kernel), ec, ?_⟩
      refine ⟨_, U4 _ _ nDb hD3, by rw [List.length_map, hss]; omega, ss ++ [one c], ?_, by rw [List.length_append, hss]; rfl, ?_, ?_, ?_⟩
      · rw [upd_same, List.map_append]
        rfl
      · intro s hs'
        rcases List.mem_append.mp hs' with h | h
        · exact hone s h
        · exact ⟨c, List.mem_singleton.mp h, c1, c2⟩
      · have B5 : Bag (upd H4 D (.lst (ss.map V.str ++ [V.str (one c)]))) b (n + 16 * (m - i) - 2 - j) := by
          obtain ⟨x, y, z, e, r⟩ := B4
          exact ⟨x, y, z, by rw [upd_ne (Ne.symm nDb)]; exact e, r⟩
        exact B5.less (by omega)
      · intro a o na nd e
        rw [upd_ne nd]
        exact U4 _ _ na (U3 a o na nd e)
    · rintro H3 ⟨ss, hD3, hss, hone, B3, U3⟩
      have hp3 : H3 p = some (.lst (nm.map V.str)) := U3 _ _ npb (Ne.symm nDp) hp2
      have U13 : But b H1 H3 := fun a o na e => U3 a o na (ne_of_none (U12 a o na e) hD) (U12 a o na e)
      refine ⟨_, D, ss, rfl, rfl, .inl (SqL.of hD3), ?_, ?_⟩
      · rw [ones_len ss hone, hss]
        have z : (PySem.Str.ofString "").length = 0 := by decide
        rw [z]
        omega
      have nok : nmOk (PySem.Txt.join (PySem.Str.ofString "") ss) := signs_ok (by rw [hss]; omega) (by rw [hss]; omega) hone
      generalize PySem.Txt.join (PySem.Str.ofString "") ss = nme at nok
      -- its way
      refine ⟨_, rfl, b, 8, n + 16 * (m - i) - 10, rfl, by decide, by decide, B3.less (by omega), fun d3 H4 c1 c2 B4 U4 => ?_⟩
      have hp4 : H4 p = some (.lst (nm.map V.str)) := U4 _ _ npb hp3
      refine ⟨fun σ' H' => ∃ nme', nmOk nme' ∧ σ' = [some (.ref b), some (.int m), some (.str letters), some (.ref p), some (.int (0 + i)), some (.str nme'), some (.int d3), y7, none, none, none] ∧ H' p = some (.lst (nm.map V.str)) ∧ Bag H' b (n + 16 * (m - i) - 11) ∧ But b H1 H', ?_, ?_⟩
      · refine ⟨_, rfl, _, _, rfl, rfl, _, rfl, ?_⟩
        refine ite2 (fun c => ?_) (fun c => ?_)
        · have c' : d3 < 2 := of_decide_eq_true c
          refine ⟨rfl, fun kp hkp => ?_⟩
          have nkb : kp ≠ b := fun e => by obtain ⟨ys, hy⟩ := B4.lst; rw [e, hy] at hkp; cases hkp
          refine ⟨_, rfl, b, 10, n + 16 * (m - i) - 11, rfl, by decide, by decide, (B4.same (same_new hkp _)).less (by omega), fun d4 H5 e1 e2 B5 U5 => ?_⟩
          obtain ⟨kw, ek, hk⟩ := menuS (ns := kept) e1 (by show d4 < 10; exact e2)
          have hk5 : H5 kp = some (.lst (kept.map V.str)) := U5 _ _ nkb upd_same
          refine ⟨kp, _, _, _, rfl, rfl, SqL.of hk5, ek, _, rfl, kw, nme, rfl, rfl, ?_, ?_⟩
          · have k2 := (kept_pos kw hk).2
            have n2 := nok.2.1
            rw [codes_len] at k2 n2
            omega
          obtain ⟨lim, el, hlim⟩ := menuI (ns := [8, 5]) c1 (by show d3 < 2; exact c')
          have hlim' : lim = 8 ∨ lim = 5 := by simpa using hlim
          refine ⟨(by show 2 ≤ sizeLine; decide), fun l2 hl2' => ?_⟩
          refine ⟨_, rfl, l2, _, _, _, rfl, rfl, SqL.of upd_same, el, _, rfl, kw ++ nme, rfl, ?_, ?_⟩
          · have k2 := (kept_pos kw hk).2
            have n2 := nok.2.1
            rw [codes_len] at k2 n2
            rw [app_len]
            omega
          refine ⟨cutS (kw ++ nme) none (some lim), ?_, rfl, ?_, ?_, ?_⟩
          · rcases hlim' with rfl | rfl
            · exact pre_ok (n := 8) hk nok (by decide) (by decide)
            · exact pre_ok (n := 5) hk nok (by decide) (by decide)
          · exact (same_new hl2' _) _ _ (U5 _ _ npb ((same_new hkp _) _ _ hp4))
          · exact B5.same (same_new hl2' _)
          · exact U13.trans (U4.trans ((But.new hkp _).trans (U5.trans (But.new hl2' _))))
        · exact ⟨nme, nok, rfl, hp4, B4.less (by omega), U13.trans U4⟩
      · rintro σ' H5 ⟨nme', nok', rfl, hp5, B5, U5⟩
        -- the twenty-six others
        refine ⟨_, rfl, letters, rfl, ?_⟩
        intro D2 hD2
        have nD2b : D2 ≠ b := fun e => by obtain ⟨ys, hy⟩ := B5.lst; rw [e, hy] at hD2; cases hD2
        have sz : letters.cps.size = 26 := by decide +kernel
        refine lc_it walk_str (fun j H' => H' = upd H5 D2 (.lst (((some26 nme').take j).map V.str))) rfl (fun _ _ _ _ => trivial) ?_ ?_
        · rintro j x H6 H7 hj rfl ⟨rfl, c, hc, rfl⟩
          refine ⟨rfl, ?_⟩
          refine ⟨_, rfl, _, rfl, 1, rfl, nme', rfl, ?_, one c, _, rfl, rfl, ?_, ?_⟩
          · have := nok'.2.1
            rw [codes_len] at this
            omega
          · have := nok'.2.1
            have e1 := cut1 nme'
            have e2 := congrArg List.length e1
            rw [codes_len, List.length_drop] at e2
            have e3 : (one c).length = 1 := rfl
            omega
          · refine ⟨_, upd_same, ?_, ?_⟩
            · rw [List.length_map, List.length_take]
              omega
            · have hx : (some26 nme')[j]? = some (one c ++ cutS nme' (some 1) none) := by
                unfold some26
                rw [List.getElem?_map, show (codes letters)[j]? = some c from by unfold codes; rw [Array.getElem?_toList]; exact hc]
                rfl
              rw [List.take_add_one, hx, List.map_append]
              funext a
              by_cases ha : a = D2
              · subst ha
                rw [upd_same, upd_same]
                rfl
              · rw [upd_ne ha, upd_ne ha, upd_ne ha]
        · rintro H6 rfl
          have e26 : (some26 nme').take letters.cps.size = some26 nme' := List.take_of_length_le (by rw [some26_len, sz]; omega)
          rw [e26]
          have s6 : Same H5 (upd H5 D2 (.lst ((some26 nme').map V.str))) := same_new hD2 _
          have hD6 : (upd H5 D2 (.lst ((some26 nme').map V.str))) D2 = some (.lst ((some26 nme').map V.str)) := upd_same
          generalize upd H5 D2 (.lst ((some26 nme').map V.str)) = H6 at s6 hD6
          have hp6 := s6 _ _ hp5
          have B6 := B5.same s6
          have len12 : (nm ++ kept).length ≤ 22 := by
            rw [List.length_append]
            have : kept.length = 10 := rfl
            omega
          refine ⟨fun σ' H' => ∃ fin, nmOk fin ∧ fin ∉ nm ++ kept ∧ σ' = [some (.ref b), some (.int m), some (.str letters), some (.ref p), some (.int (0 + i)), some (.str fin), some (.int d3), some (.ref D2), none, none, none] ∧ Same H6 H', ?_, ?_⟩
          · refine ⟨_, rfl, _, rfl, rfl, fun kp hkp => ?_⟩
            have sk : Same H6 (upd H6 kp (.lst (kept.map V.str))) := same_new hkp _
            refine ⟨p, kp, _, _, rfl, rfl, sk _ _ hp6, upd_same, ?_, fun u hu => ?_⟩
            · rw [List.length_map, List.length_map]
              have : kept.length = 10 := rfl
              omega
            have su : Same _ _ := same_new hu (.lst (nm.map V.str ++ kept.map V.str))
            refine ⟨u, _, rfl, .inl (SqL.of upd_same), rfl, ?_, _, rfl, ?_⟩
            · rw [← List.map_append]; exact flat_strs _
            rw [← List.map_append] at su ⊢
            rw [if_neg Bool.false_ne_true, inV_str]
            refine ite2 (fun c => ?_) (fun c => ?_)
            · have su' := sk.trans su
              generalize upd (upd H6 kp (.lst (kept.map V.str))) u (.lst ((nm ++ kept).map V.str)) = H8 at su'
              -- [one for one in some if ..][0]
              refine ⟨_, rfl, D2, rfl, ⟨_, SqL.of (su' _ _ hD6)⟩, ?_⟩
              intro D3 hD3
              refine lc_list (K := K) (a := D2) (xs := (some26 nme').map V.str) (fun j H' => H' D3 = some (.lst ((((some26 nme').take j).filter (fun y => !decide (y ∈ nm ++ kept))).map V.str)) ∧ Same H8 H') ⟨upd_same, same_new hD3 _⟩ (fun j H' _ h => SqL.of (h.2 _ _ (su' _ _ hD6))) ?_ ?_
              · rintro j x H9 hx ⟨h9, s9⟩
                obtain ⟨x', hx', rfl⟩ : ∃ x', (some26 nme')[j]? = some x' ∧ V.str x' = x := by
                  rw [List.getElem?_map] at hx
                  obtain ⟨x', h1, h2⟩ := Option.map_eq_some_iff.mp hx
                  exact ⟨x', h1, h2⟩
                have hj26 : j < 26 := by
                  obtain ⟨h1, _⟩ := List.getElem?_eq_some_iff.mp hx'
                  rwa [some26_len] at h1
                refine ⟨rfl, ?_⟩
                refine ⟨_, rfl, _, rfl, rfl, fun kp2 hkp2 => ?_⟩
                have sk2 : Same H9 (upd H9 kp2 (.lst (kept.map V.str))) := same_new hkp2 _
                refine ⟨p, kp2, _, _, rfl, rfl, sk2 _ _ (s9 _ _ (su' _ _ hp6)), upd_same, ?_, fun u2 hu2 => ?_⟩
                · rw [List.length_map, List.length_map]
                  have : kept.length = 10 := rfl
                  omega
                have su2 : Same _ _ := same_new hu2 (.lst (nm.map V.str ++ kept.map V.str))
                refine ⟨u2, _, rfl, .inl (SqL.of upd_same), rfl, ?_, _, rfl, ?_⟩
                · rw [← List.map_append]; exact flat_strs _
                rw [← List.map_append] at su2 ⊢
                rw [if_pos rfl, inV_str]
                have s10 := sk2.trans su2
                generalize upd (upd H9 kp2 (.lst (kept.map V.str))) u2 (.lst ((nm ++ kept).map V.str)) = H10 at s10
                have fs := filt_snoc (L := nm ++ kept) hx'
                refine ite2 (fun c2 => ?_) (fun c2 => ?_)
                · refine ⟨_, rfl, _, s10 _ _ h9, ?_, ?_, ?_⟩
                  · rw [List.length_map]
                    have := List.length_filter_le (fun y => !decide (y ∈ nm ++ kept)) ((some26 nme').take j)
                    rw [List.length_take, some26_len] at this
                    omega
                  · rw [upd_same, fs, if_pos c2, List.map_append]
                    rfl
                  · intro a o e
                    rw [upd_ne (ne_of_none e hD3)]
                    exact s10 _ _ (s9 _ _ e)
                · refine ⟨?_, s9.trans s10⟩
                  rw [fs, if_neg c2, List.append_nil]
                  exact s10 _ _ h9
              · rintro H9 ⟨h9, s9⟩
                rw [List.length_map, List.take_length] at h9
                obtain ⟨x, hx, hxL⟩ := pig (some26 nme') (nm ++ kept) (some26_nd _) (by rw [some26_len]; omega)
                have hin : x ∈ (some26 nme').filter (fun y => !decide (y ∈ nm ++ kept)) := List.mem_filter.mpr ⟨hx, by rw [decide_eq_false hxL]; rfl⟩
                cases hf : (some26 nme').filter (fun y => !decide (y ∈ nm ++ kept)) with
                | nil => rw [hf] at hin; cases hin
                | cons z r =>
                  have hz : z ∈ (some26 nme').filter (fun y => !decide (y ∈ nm ++ kept)) := by rw [hf]; exact List.mem_cons_self
                  obtain ⟨z1, z2⟩ := List.mem_filter.mp hz
                  rw [hf] at h9
                  refine ⟨D3, _, 0, .str z, rfl, rfl, SqL.of h9, atI_nat (j := 0) rfl, z, some26_ok nok' z1, ?_, rfl, su'.trans s9⟩
                  intro q
                  rw [decide_eq_true q] at z2
                  cases z2
            · refine ⟨nme', nok', ?_, rfl, sk.trans su⟩
              exact of_decide_eq_false (Bool.eq_false_iff.mpr c)
          · rintro σ' H7 ⟨fin, fok, fno, rfl, s7⟩
            have hp7 := s7 _ _ hp6
            refine ⟨_, rfl, .inl ⟨rfl, _, SqL.of hp7⟩, _, rfl, p, _, _, rfl, rfl, hp7, ?_, ?_⟩
            · rw [List.length_map]
              omega
            · refine ⟨nm ++ [fin], _, _, _, _, rfl, ?_, ?_, hN.snoc fok fno, ?_, ?_⟩
              · rw [upd_same, List.map_append]
                rfl
              · rw [List.length_append, hl]
                rfl
              · obtain ⟨x, y, z, e, r1, r2, r3, r4, r5⟩ := B6.same s7
                exact ⟨x, y, z, by rw [upd_ne (Ne.symm npb)]; exact e, r1, r2, r3, r4, by omega⟩
              · intro a o na e
                have hap : a ≠ p := ne_of_none e hp
                rw [upd_ne hap]
                exact s7 _ _ (s6 _ _ (U5 _ _ na (U1 _ _ na e)))
  · rintro σ H1 ⟨nm, y4, y5, y6, y7, rfl, hp1, hl, hN, B1, U1⟩
    exact ⟨_, rfl, q p nm H1 hp hp1 (by omega) hN (B1.less (by omega)) U1⟩
end
end SH

set_option Elab.async false
set_option linter.all false
set_option maxRecDepth 100000
namespace SH
open PySem L2
abbrev sTree : Stmt := topS 53
theorem scTree : FnScope ["_law_bag_here", "_law_names_here", "_law_deep", "_law_way", "_law_sign_here"] ["_law_bag_here", "_law_names_here", "_law_deep"] (defScope sTree) := ⟨rfl, rfl, rfl, by decide +kernel, rfl, by decide +kernel, by decide +kernel⟩
/-- an expression at most n deep, of these names -/
def Ex.of (nm : List Str) : Nat → Ex → Prop
  | 0, _ => False
  | _ + 1, .num i => 0 ≤ i ∧ i < 1000000 ^ 5
  | _ + 1, .nam s => s ∈ nm
  | n + 1, .op _ l r => Ex.of nm n l ∧ Ex.of nm n r
theorem Ex.of_up {nm : List Str} : ∀ {n m : Nat} {e : Ex}, n ≤ m → Ex.of nm n e → Ex.of nm m e
  | 0, _, _, _, h => h.elim
  | n + 1, m + 1, .num _, _, h => h
  | n + 1, m + 1, .nam _, _, h => h
  | n + 1, m + 1, .op _ _ _, hm, h => ⟨Ex.of_up (by omega) h.1, Ex.of_up (by omega) h.2⟩
theorem Ex.of_ok {nm : List Str} (hn : ∀ s ∈ nm, nmOk s) : ∀ {n : Nat} {e : Ex}, Ex.of nm n e → Ex.ok n e
  | 0, _, h => h
  | n + 1, .num i, h => log_ok h.1 h.2
  | n + 1, .nam s, h => by
    have q := (hn s h).2.1
    rw [codes_len] at q
    show s.length ≤ 2000
    omega
  | n + 1, .op _ _ _, h => ⟨Ex.of_ok hn h.1, Ex.of_ok hn h.2⟩
def sgs : List Sg := [.add, .sub, .mul, .lt, .eq]
def tc : Nat → Nat
  | 0 => 0
  | n + 1 => 2 * tc n + 12
def spTree (n : Nat) : Sp := fun vs H Q _ => ∃ (b a : Addr) (nm : List Str) (k : Nat), vs = [.ref b, .ref a, .int n] ∧ H a = some (.lst (nm.map V.str)) ∧ a ≠ b ∧ nm.length ≤ 1000 ∧ (∀ s ∈ nm, nmOk s) ∧ 1 ≤ n ∧ Bag H b (k + tc n) ∧
  ∀ (v : V) (e : Ex) (H' : Hp), TrIn H' e v → Ex.of nm n e → Bag H' b k → But b H H' → Q v H'
theorem sgs_at {i : Int} (h0 : 0 ≤ i) (h1 : i < 5) : ∃ g : Sg, atI (sgs.map fun g => V.str g.txt) i = some (.str g.txt) := by
  obtain ⟨v, e, m⟩ := menu (xs := sgs.map fun g => V.str g.txt) h0 (by show i < 5; exact h1)
  obtain ⟨g, _, rfl⟩ := List.mem_map.mp m
  exact ⟨g, e⟩
theorem strOk_nm {s : Str} (h : nmOk s) : PyData.strOk s = true := by
  unfold PyData.strOk
  rw [Array.all_eq_true']
  intro x hx
  have := (h.2.2 x (Array.mem_toList_iff.mpr hx)).2
  exact decide_eq_true (by omega)
theorem dp_strs {K : PySem.W.Frag} {H : Hp} : ∀ l : List Str, DpAll K H (l.map V.str) (l.map PyData.str)
  | [] => .nil
  | _ :: r => .cons (.str _) (dp_strs r)
theorem lay_strs : ∀ {l : List Str}, (∀ s ∈ l, nmOk s) → PyData.canLayAll0 (l.map PyData.str) = true ∧ PyData.depthAll (l.map PyData.str) = 0
  | [], _ => ⟨rfl, rfl⟩
  | a :: r, h => by
    obtain ⟨h1, h2⟩ := lay_strs (l := r) fun s hs => h s (List.mem_cons_of_mem _ hs)
    refine ⟨?_, ?_⟩
    · show (PyData.strOk a && PyData.canLayAll0 (r.map PyData.str)) = true
      rw [strOk_nm (h a List.mem_cons_self), h1] <;> rfl
    · show max 0 (PyData.depthAll (r.map PyData.str)) = 0
      rw [h2] <;> rfl
theorem shaped_strs {l : List Str} (h : ∀ s ∈ l, nmOk s) : SeqAt.shaped (.list (l.map PyData.str)) = true := by
  obtain ⟨h1, h2⟩ := lay_strs h
  show (PyData.canLayAll0 (l.map PyData.str) && decide (PyData.depthAll (l.map PyData.str) + 1 ≤ 64)) = true
  rw [h1, h2] <;> rfl
theorem trNum {H : Hp} {p : Addr} {i : Int} (h : H p = some (.tup [.str "number", .int i])) : TrIn H (.num i) (.ref p) := ⟨p, rfl, h⟩
theorem trNam {H : Hp} {p : Addr} {i : Str} (h : H p = some (.tup [.str "name", .str i])) : TrIn H (.nam i) (.ref p) := ⟨p, rfl, h⟩
def spTrees (N : Nat) : Sp := fun vs H Q E => ∃ n, n ≤ N ∧ spTree n vs H Q E
section
variable {P : Program} {w : World} {K : PySem.W.Frag} {mg : Str → Option Value} {base : Heap}
theorem ok_tree {n : Nat} {f t u : Addr} {fd td ud : FuncData} (F : Fun K "_law_tree" "_law_tree" sTree f fd) (TK : Fk P w K mg base 1 "_law_take" t td ["_law_bag_here", "_law_many"] spTake) (NB : Fk P w K mg base 2 "_law_number" u ud ["_law_bag_here"] spNumber)
    (TR : Fk P w K mg base (n + 2) "_law_tree" f fd ["_law_bag_here", "_law_names_here", "_law_deep"] (spTree n)) (T : Bi mg) : FnOk P w K mg base CX0 (n + 3) f fd ["_law_bag_here", "_law_names_here", "_law_deep"] (spTree (n + 1)) := by
  refine F.ok scTree (fun vs H Q E h => ?_) (fun cdv A outer s H vs Q E hr h => ?_)
  · obtain ⟨b, a, nm, k, rfl, _⟩ := h
    rfl
  obtain ⟨b, a, nm, k, rfl, ha, nab, hnl, hnm, _, hB, q⟩ := h
  refine ⟨_, (pss_cons (ps_set (i := 3) scTree.nd rfl (Or.inl rfl) (pe_call TK.G (hr.mono (by omega)) (by rfl) TK.m TK.k TK.b .nil pass0 (pa_cons (pv 0) (pa_cons pe_int pa_nil))))
    (pss_cons (ps_if (PW.pt (pw_or (pt_cmpR op_eq (pv 2) pe_int (nomark _)) (pw_or1 (pt_cmpR op_eq (pv 3) pe_int (nomark _)))))
      (C8.pss_cut (ps_if (PW.pt (pw_and (pt_cmpR (op_neD hr.units) (pv 1) (pe_lst pa_nil) (nomark _)) (pw_and1 (pt_cmpR op_gt (pe_call TK.G (hr.mono (by omega)) (by rfl) TK.m TK.k TK.b .nil pass0 (pa_cons (pv 0) (pa_cons pe_int pa_nil))) pe_int (nomark _)))))
      (pss_one (ps_ret (pe_tup (pa_cons pe_str (pa_cons (pe_ix ix_list (pv 1) (pe_call TK.G (hr.mono (by omega)) (by rfl) TK.m TK.k TK.b .nil pass0 (pa_cons (pv 0) (pa_cons (pe_callB call_len_seq (by rfl) T.len (by decide +kernel) (pa_cons (pv 1) pa_nil)) pa_nil))) (fun _ _ => rfl)) pa_nil)))))
      pss_nil)
    (pss_one (ps_ret (pe_tup (pa_cons pe_str (pa_cons (pe_call NB.G (hr.mono (by omega)) (by rfl) NB.m NB.k NB.b .nil pass0 (pa_cons (pv 0) pa_nil)) pa_nil))))))
      pss_nil)
    (pss_cons (ps_set (i := 4) scTree.nd rfl (Or.inl rfl) (pe_ix ix_list (pe_lst (pa_cons pe_str (pa_cons pe_str (pa_cons pe_str (pa_cons pe_str (pa_cons pe_str pa_nil)))))) (pe_call TK.G (hr.mono (by omega)) (by rfl) TK.m TK.k TK.b .nil pass0 (pa_cons (pv 0) (pa_cons pe_int pa_nil))) (fun _ _ => rfl)))
    (pss_one (ps_ret (pe_tup (pa_cons (pv 4) (pa_cons (pe_call TR.G hr (by rfl) TR.m TR.k TR.b .nil pass0 (pa_cons (pv 0) (pa_cons (pv 1) (pa_cons (pe_op op_sub (pv 2) pe_int) pa_nil)))) (pa_cons (pe_call TR.G hr (by rfl) TR.m TR.k TR.b .nil pass0 (pa_cons (pv 0) (pa_cons (pv 1) (pa_cons (pe_op op_sub (pv 2) pe_int) pa_nil)))) pa_nil))))))))), ?_⟩
  have hs : sizeLine = 16777216 := by decide
  have htc : tc (n + 1) = 2 * tc n + 12 := rfl
  refine ⟨_, rfl, b, 5, k + 2 * tc n + 11, rfl, by decide, by decide, hB, fun d1 H1 a1 a2 B1 U1 => ?_⟩
  have ha1 := U1 _ _ nab ha
  refine ⟨_, rfl, rfl, _, rfl, ?_⟩
  refine ite2 (fun c => ?leafA) (fun c => ⟨_, rfl, rfl, _, rfl, ite2 (fun c2 => ?leafB) (fun c2 => ?rec)⟩)
  case rec =>
    have hn1 : 1 ≤ n := by
      have c' : ¬ (V.int ((n + 1 : Nat) : Int) = V.int 1) := of_decide_eq_false (Bool.eq_false_iff.mpr c)
      rcases Nat.eq_zero_or_pos n with z | z
      · exact absurd (by rw [z]; rfl) c'
      · exact z
    refine ⟨(by show 5 ≤ sizeLine; decide), fun l hl => ?_⟩
    refine ⟨_, rfl, b, 5, k + 2 * tc n + 10, rfl, by decide, by decide, B1.same (same_new hl _), fun d2 H2 b1 b2 B2 U2 => ?_⟩
    obtain ⟨g, eg⟩ := sgs_at b1 b2
    have nlb : l ≠ b := fun e => by obtain ⟨ys, hy⟩ := B1.lst; rw [e, hy] at hl; cases hl
    have hl2 : H2 l = some (.lst (sgs.map fun g => V.str g.txt)) := U2 _ _ nlb upd_same
    refine ⟨l, _, _, _, rfl, rfl, SqL.of hl2, eg, ?_⟩
    have U12 : But b H H2 := U1.trans ((But.new hl _).trans U2)
    have ha2 := U12 _ _ nab ha
    have en : ((n + 1 : Nat) : Int) - 1 = (n : Int) := by omega
    refine ⟨_, rfl, _, rfl, _, rfl, _, rfl, _, _, rfl, rfl, b, a, nm, k + tc n, (by show [V.ref b, V.ref a, V.int (((n + 1 : Nat) : Int) - 1)] = _; rw [en]), ha2, nab, hnl, hnm, hn1, B2.less (by omega), fun v1 e1 H3 t1 o1 B3 U3 => ?_⟩
    have ha3 := U3 _ _ nab ha2
    refine ⟨_, rfl, _, rfl, _, rfl, _, _, rfl, rfl, b, a, nm, k, (by show [V.ref b, V.ref a, V.int (((n + 1 : Nat) : Int) - 1)] = _; rw [en]), ha3, nab, hnl, hnm, hn1, B3, fun v2 e2 H4 t2 o2 B4 U4 => ?_⟩
    refine ⟨(by show 3 ≤ sizeLine; decide), fun p hp => ?_⟩
    obtain ⟨ys, hys⟩ := B3.lst
    have t1' : TrIn H4 e1 v1 := t1.but hys U4
    refine q (.ref p) (.op g e1 e2) _ ⟨p, v1, v2, rfl, upd_same, t1'.same (same_new hp _), t2.same (same_new hp _)⟩ ⟨o1, o2⟩ (B4.same (same_new hp _)) (U12.trans (U3.trans (U4.trans (But.new hp _))))
  all_goals
    refine ⟨fun σ' H' => σ' = [some (.ref b), some (.ref a), some (.int ((n + 1 : Nat) : Int)), some (.int d1), none] ∧ Bag H' b (k + 8) ∧ But b H H', ?_, ?_⟩
    · refine ⟨_, rfl, Nat.zero_le _, fun l hl => ?_⟩
      have sl := same_new hl (.lst [])
      refine ⟨.list (nm.map PyData.str), .list [], .lst (SqL.of (sl _ _ ha1)) (dp_strs nm), .lst (SqL.of upd_same) .nil, shaped_strs hnm, rfl, _, rfl, ?_⟩
      cases hnm' : nm with
      | nil => exact ⟨rfl, (B1.same sl).less (by omega), U1.trans (But.of sl)⟩
      | cons z r =>
        have el : (nm.length : Int) = (z :: r).length := by rw [hnm']
        refine ⟨_, rfl, b, 3, k + 2 * tc n + 10, rfl, by decide, by decide, B1.same sl, fun d2 H2 b1 b2 B2 U2 => ?_⟩
        have U12 : But b H H2 := U1.trans ((But.of sl).trans U2)
        have ha2 : H2 a = some (.lst (nm.map V.str)) := U12 _ _ nab ha
        refine ⟨_, _, rfl, rfl, _, rfl, ?_⟩
        refine ite2 (fun c3 => ?_) (fun c3 => ?_)
        · refine ⟨_, rfl, _, rfl, _, rfl, a, _, rfl, .inl (SqL.of ha2), b, _, k + 2 * tc n + 9, rfl, ?_, ?_, B2, fun d3 H3 e1 e2 B3 U3 => ?_⟩
          · rw [List.length_map, el, List.length_cons]; omega
          · rw [List.length_map]; omega
          · rw [List.length_map] at e2
            obtain ⟨x, ex, hx⟩ := menuS (ns := nm) e1 e2
            refine ⟨a, _, _, _, rfl, rfl, SqL.of (U3 _ _ nab ha2), ex, (by show 2 ≤ sizeLine; decide), fun p hp => ?_⟩
            exact q (.ref p) (.nam x) _ (trNam upd_same) hx ((B3.same (same_new hp _)).less (by omega)) (U12.trans (U3.trans (But.new hp _)))
        · exact ⟨rfl, B2.less (by omega), U12⟩
    · rintro σ' H2 ⟨rfl, B2, U2⟩
      refine ⟨_, rfl, b, k, rfl, B2, fun i H3 i0 i1 B3 U3 => ?_⟩
      refine ⟨(by show 2 ≤ sizeLine; decide), fun p hp => ?_⟩
      exact q (.ref p) (.num i) _ (trNum upd_same) ⟨i0, i1⟩ (B3.same (same_new hp _)) (U2.trans (U3.trans (But.new hp _)))
theorem tree_none {f : Addr} {fd : FuncData} : FnOk P w K mg base CX0 2 f fd ["_law_bag_here", "_law_names_here", "_law_deep"] (spTree 0) := by
  have no : ∀ vs H Q E, ¬ spTree 0 vs H Q E := fun vs H Q E h => by
    obtain ⟨_, _, _, _, _, _, _, _, _, h1, _⟩ := h
    omega
  exact ⟨fun vs H Q E h => absurd h (no vs H Q E), fun A outer s H args us vs Q E _ _ _ _ h => absurd h (no vs H Q E)⟩
theorem trees {f t u : Addr} {fd td ud : FuncData} (F : Fun K "_law_tree" "_law_tree" sTree f fd) (m : mg "_law_tree" = some (.ref f)) (bd : Binds K fd ["_law_bag_here", "_law_names_here", "_law_deep"] []) (TK : Fk P w K mg base 1 "_law_take" t td ["_law_bag_here", "_law_many"] spTake)
    (NB : Fk P w K mg base 2 "_law_number" u ud ["_law_bag_here"] spNumber) (T : Bi mg) : ∀ n : Nat, FnOk P w K mg base CX0 (n + 2) f fd ["_law_bag_here", "_law_names_here", "_law_deep"] (spTree n)
  | 0 => tree_none
  | n + 1 => ok_tree F TK NB ⟨trees F m bd TK NB T n, m, F.kp, bd⟩ T
theorem trees_all {f t u : Addr} {fd td ud : FuncData} (F : Fun K "_law_tree" "_law_tree" sTree f fd) (m : mg "_law_tree" = some (.ref f)) (bd : Binds K fd ["_law_bag_here", "_law_names_here", "_law_deep"] []) (TK : Fk P w K mg base 1 "_law_take" t td ["_law_bag_here", "_law_many"] spTake)
    (NB : Fk P w K mg base 2 "_law_number" u ud ["_law_bag_here"] spNumber) (T : Bi mg) (N : Nat) : FnOk P w K mg base CX0 (N + 2) f fd ["_law_bag_here", "_law_names_here", "_law_deep"] (spTrees N) := by
  refine ⟨fun vs H Q E h => ?_, fun A outer s H args us vs Q E hr he hb hv h => ?_⟩
  · obtain ⟨n, hn, h⟩ := h
    exact (trees (P := P) (w := w) (base := base) F m bd TK NB T n).len vs H Q E h
  · obtain ⟨n, hn, h⟩ := h
    exact (trees (P := P) (w := w) (base := base) F m bd TK NB T n).run A outer s H args us vs Q E (hr.mono (by omega)) he hb hv h
end
end SH

set_option Elab.async false
set_option linter.all false
set_option maxRecDepth 100000
namespace SH
open PySem L2
/-! ### rows and works -/
def NmOk (s : Str) : Prop := nmOk s ∧ s ∉ kept
def Ex.fine : Nat → Ex → Prop
  | 0, _ => False
  | _ + 1, .num i => 0 ≤ i ∧ i < 1000000 ^ 5
  | _ + 1, .nam s => NmOk s
  | n + 1, .op _ l r => Ex.fine n l ∧ Ex.fine n r
theorem Ex.fine_up : ∀ {n m : Nat} {e : Ex}, n ≤ m → Ex.fine n e → Ex.fine m e
  | 0, _, _, _, h => h.elim
  | n + 1, m + 1, .num _, _, h => h
  | n + 1, m + 1, .nam _, _, h => h
  | n + 1, m + 1, .op _ _ _, hm, h => ⟨Ex.fine_up (by omega) h.1, Ex.fine_up (by omega) h.2⟩
theorem Ex.of_fine {nm : List Str} (hn : ∀ s ∈ nm, NmOk s) : ∀ {n : Nat} {e : Ex}, Ex.of nm n e → Ex.fine n e
  | 0, _, h => h
  | n + 1, .num i, h => h
  | n + 1, .nam s, h => hn s h
  | n + 1, .op _ _ _, h => ⟨Ex.of_fine hn h.1, Ex.of_fine hn h.2⟩
theorem Ex.fine_ok : ∀ {n : Nat} {e : Ex}, Ex.fine n e → Ex.ok n e
  | 0, _, h => h
  | n + 1, .num i, h => log_ok h.1 h.2
  | n + 1, .nam s, h => by
    have q := h.1.2.1
    rw [codes_len] at q
    show s.length ≤ 2000
    omega
  | n + 1, .op _ _ _, h => ⟨Ex.fine_ok h.1, Ex.fine_ok h.2⟩
inductive Rs where
  | nil
  | put (x : Str) (e : Ex) (t : Rs)
  | go (w : Bool) (x f : Str) (es : List Ex) (t : Rs)
  | wait (x y : Str) (e : Option Ex) (t : Rs)
  | iff (e : Ex) (a b t : Rs)
  | give (w : Bool) (e : Ex) (t : Rs)
def goW : Bool → Str
  | false => "go"
  | true => "call"
def giveW : Bool → Str
  | false => "give"
  | true => "fail"
def TrsIn (H : Hp) : List Ex → List V → Prop
  | [], vs => vs = []
  | e :: es, vs => ∃ v r, vs = v :: r ∧ TrIn H e v ∧ TrsIn H es r
def OptIn (H : Hp) : Option Ex → V → Prop
  | none, v => v = .non
  | some e, v => TrIn H e v
def RsIn (H : Hp) : Rs → List V → Prop
  | .nil, vs => vs = []
  | .put x e t, vs => ∃ a v r, vs = .ref a :: r ∧ H a = some (.tup [.str "put", .str x, v]) ∧ TrIn H e v ∧ RsIn H t r
  | .go w x f es t, vs => ∃ a p ws r, vs = .ref a :: r ∧ H a = some (.tup [.str (goW w), .str x, .str f, .ref p]) ∧ H p = some (.tup ws) ∧ TrsIn H es ws ∧ RsIn H t r
  | .wait x y oe t, vs => ∃ a v r, vs = .ref a :: r ∧ H a = some (.tup [.str "wait", .str x, .str y, v]) ∧ OptIn H oe v ∧ RsIn H t r
  | .iff e A B t, vs => ∃ a v p xs p' ys r, vs = .ref a :: r ∧ H a = some (.tup [.str "if", v, .ref p, .ref p']) ∧ TrIn H e v ∧ H p = some (.tup xs) ∧ RsIn H A xs ∧ H p' = some (.tup ys) ∧ RsIn H B ys ∧ RsIn H t r
  | .give w e t, vs => ∃ a v r, vs = .ref a :: r ∧ H a = some (.tup [.str (giveW w), v]) ∧ TrIn H e v ∧ RsIn H t r
def Rs.count : Rs → Nat
  | .nil => 0
  | .put _ _ t => 1 + t.count
  | .go _ _ _ _ t => 1 + t.count
  | .wait _ _ _ t => 1 + t.count
  | .iff _ a b t => 1 + a.count + b.count + t.count
  | .give _ _ t => 1 + t.count
def Rs.rc : Rs → Nat
  | .nil => 0
  | .iff _ a b _ => 1 + a.count + b.count
  | _ => 1
def Rs.tl : Rs → Rs
  | .nil => .nil
  | .put _ _ t => t
  | .go _ _ _ _ t => t
  | .wait _ _ _ t => t
  | .iff _ _ _ t => t
  | .give _ _ t => t
theorem Rs.count_eq (r : Rs) : r.count = r.rc + r.tl.count := by cases r <;> rfl
/-- the goes and calls, from the first on -/
def Rs.starts : Rs → List (Str × Nat)
  | .nil => []
  | .put _ _ t => t.starts
  | .go _ _ f es t => (f, es.length) :: t.starts
  | .wait _ _ _ t => t.starts
  | .iff _ a b t => a.starts ++ b.starts ++ t.starts
  | .give _ _ t => t.starts
def Rs.ok : Nat → Rs → Prop
  | _, .nil => True
  | n, .put x e t => NmOk x ∧ Ex.fine 6 e ∧ Rs.ok n t
  | n, .go _ x f es t => NmOk x ∧ NmOk f ∧ es.length ≤ 4 ∧ (∀ e ∈ es, Ex.fine 6 e) ∧ Rs.ok n t
  | n, .wait x y oe t => NmOk x ∧ NmOk y ∧ (∀ e, oe = some e → Ex.fine 6 e) ∧ Rs.ok n t
  | n, .iff e a b t => 1 ≤ n ∧ Ex.fine 6 e ∧ Rs.ok (n - 1) a ∧ Rs.ok (n - 1) b ∧ Rs.ok n t
  | n, .give _ e t => Ex.fine 6 e ∧ Rs.ok n t
theorem Rs.ok_tl {n : Nat} : ∀ {r : Rs}, Rs.ok n r → Rs.ok n r.tl
  | .nil, _ => trivial
  | .put _ _ _, h => h.2.2
  | .go _ _ _ _ _, h => h.2.2.2.2
  | .wait _ _ _ _, h => h.2.2.2
  | .iff _ _ _ _, h => h.2.2.2.2
  | .give _ _ _, h => h.2
theorem RsIn.tl {H : Hp} : ∀ {r : Rs} {v : V} {vs : List V}, RsIn H r (v :: vs) → RsIn H r.tl vs
  | .nil, _, _, h => by cases h
  | .put _ _ _, _, _, ⟨a, v, r, e, _, _, h⟩ => by cases e; exact h
  | .go _ _ _ _ _, _, _, ⟨a, p, ws, r, e, _, _, _, h⟩ => by cases e; exact h
  | .wait _ _ _ _, _, _, ⟨a, v, r, e, _, _, h⟩ => by cases e; exact h
  | .iff _ _ _ _, _, _, ⟨a, v, p, xs, p', ys, r, e, _, _, _, _, _, _, h⟩ => by cases e; exact h
  | .give _ _ _, _, _, ⟨a, v, r, e, _, _, h⟩ => by cases e; exact h
theorem Rs.rc_pos {H : Hp} : ∀ {r : Rs} {v : V} {vs : List V}, RsIn H r (v :: vs) → 1 ≤ r.rc
  | .nil, _, _, h => by cases h
  | .put _ _ _, _, _, _ => Nat.le_refl _
  | .go _ _ _ _ _, _, _, _ => Nat.le_refl _
  | .wait _ _ _ _, _, _, _ => Nat.le_refl _
  | .iff _ a b _, _, _, _ => by show 1 ≤ 1 + a.count + b.count; omega
  | .give _ _ _, _, _, _ => Nat.le_refl _
/-! ### a name of the module that holds a number -/
def Gi (mg : Str → Option Value) (x : Str) (i : Int) : Prop := ∃ t, mg x = some (.int i t)
theorem pe_gi {X : Cx} {x : Str} {i : Int} {pos : Pos} (h : Gi X.mg x i) (hg : Gl X x := by rfl) (hd : (x == ("__debug__" : Str)) = false := by decide) : PE X (.Name x pos) (tC (.int i)) := by
  obtain ⟨t, h⟩ := h
  exact pe_glob hg h ⟨t, rfl⟩ hd
def signsL : List Str := ["+", "-", "*", "<", "=="]
structure Gf (K : PySem.W.Frag) (mg : Str → Option Value) : Prop where
  words : ∃ a, mg "WORDS" = some (.ref a) ∧ ∀ H, SqT K H a (kept.map V.str)
  signs : ∃ a, mg "SIGNS" = some (.ref a) ∧ ∀ H, SqT K H a (signsL.map V.str)
  letters : ∃ t, mg "LETTERS" = some (.str letters t)
  lets : Gi mg "MOST_LETTERS" 8
  num : Gi mg "MOST_NUMBER" (1000000 ^ 5 - 1)
abbrev sTupOf : Stmt := topS 20
abbrev sWhole : Stmt := topS 21
abbrev sWithin : Stmt := topS 22
abbrev sIsName : Stmt := topS 23
abbrev sLeaf : Stmt := topS 25
abbrev sIsEx : Stmt := topS 24
theorem scTupOf : FnScope ["thing", "many"] ["thing", "many"] (defScope sTupOf) := ⟨rfl, rfl, rfl, by decide +kernel, rfl, by decide +kernel, by decide +kernel⟩
theorem scWhole : FnScope ["thing"] ["thing"] (defScope sWhole) := ⟨rfl, rfl, rfl, by decide +kernel, rfl, by decide +kernel, by decide +kernel⟩
theorem scWithin : FnScope ["thing", "most"] ["thing", "most"] (defScope sWithin) := ⟨rfl, rfl, rfl, by decide +kernel, rfl, by decide +kernel, by decide +kernel⟩
theorem scIsName : FnScope ["thing", "letter"] ["thing"] (defScope sIsName) := ⟨rfl, rfl, rfl, by decide +kernel, rfl, by decide +kernel, by decide +kernel⟩
theorem scLeaf : FnScope ["pair"] ["pair"] (defScope sLeaf) := ⟨rfl, rfl, rfl, by decide +kernel, rfl, by decide +kernel, by decide +kernel⟩
theorem scIsEx : FnScope ["thing", "deepest"] ["thing", "deepest"] (defScope sIsEx) := ⟨rfl, rfl, rfl, by decide +kernel, rfl, by decide +kernel, by decide +kernel⟩
def spTupOf : Sp := fun vs H Q _ => ∃ (a : Addr) (xs : List V) (n : Int), vs = [.ref a, .int n] ∧ H a = some (.tup xs) ∧ Q (.bl (decide (V.int (xs.length : Nat) = V.int n))) H
def spWhole : Sp := fun vs H Q _ => ∃ i : Int, vs = [.int i] ∧ Q (.bl true) H
def spWithin : Sp := fun vs H Q _ => ∃ i m : Int, vs = [.int i, .int m] ∧ 0 ≤ i ∧ i ≤ m ∧ Q (.bl true) H
def spIsName : Sp := fun vs H Q _ => ∃ s : Str, vs = [.str s] ∧ NmOk s ∧ ∀ H', Same H H' → Q (.bl true) H'
def Ex.isLeaf : Ex → Bool
  | .op _ _ _ => false
  | _ => true
def spLeaf : Sp := fun vs H Q _ => ∃ (v : V) (e : Ex), vs = [v] ∧ TrIn H e v ∧ e.isLeaf = true ∧ Ex.fine 1 e ∧ ∀ H', Same H H' → Q (.bl true) H'
def spIsEx (n : Nat) : Sp := fun vs H Q _ => ∃ (v : V) (e : Ex), vs = [v, .int n] ∧ TrIn H e v ∧ Ex.fine n e ∧ ∀ H', Same H H' → Q (.bl true) H'
section
variable {P : Program} {w : World} {K : PySem.W.Frag} {mg : Str → Option Value} {base : Heap}
/-- a def with defaults, no error leaves it -/
theorem ok0 {x qual : Str} {st : Stmt} {dvs : List V} {kws : List (Str × V)} {f : Addr} {fd : FuncData} {N ps : List Str} {k : Nat} {sp : Sp} (F : FunD K x qual (defArgs st) (defBody st) (defScope st) dvs kws f fd) (S : FnScope N ps (defScope st)) (len : ∀ vs H Q E, sp vs H Q E → vs.length = ps.length)
    (hb : ∀ (cdv : Value) (A : Around) (outer : List Env) (s : Shared) (H : Hp) (vs : List V) (Q : VK) (E : XK), Room k (A.deeper (PyProof.Rows.envOfC qual (defScope st) s.heap.objs.size f cdv)) → sp vs H Q E →
      ∃ t, PSs (cxOf CX0 P w K mg base N qual (defScope st) f cdv A outer s H E).nox (defBody st) t ∧ t { nx := fun _ H' => Q .non H', rt := Q } (L2.start N vs) H) : FnOk P w K mg base CX0 (k + 1) f fd ps sp :=
  F.ok S len fun cdv A outer s H vs Q E hr h => by
    obtain ⟨t, h1, h2⟩ := hb cdv A outer s H vs Q E hr h
    exact ⟨t, h1.nox, h2⟩
theorem ok_tupOf {f : Addr} {fd : FuncData} (F : Fun K "is_tuple_of" "is_tuple_of" sTupOf f fd) (T : Bi mg) (mt : mg "tuple" = none) : FnOk P w K mg base CX0 1 f fd ["thing", "many"] spTupOf := by
  refine F.ok scTupOf (fun vs H Q E h => ?_) (fun cdv A outer s H vs Q E hr h => ?_)
  · obtain ⟨a, xs, n, rfl, _⟩ := h
    rfl
  obtain ⟨a, xs, n, rfl, ha, q⟩ := h
  refine ⟨_, (pss_one (ps_ret (pe_and (pe_callB call_isi (by rfl) T.isinstance (by decide +kernel) (pa_cons (pv 0) (pa_cons (pe_bltn (v := .ty "tuple") (by rfl) mt (by decide +kernel) rfl) pa_nil))) (pe_one (pe_cmpR op_eq (pe_callB call_len_seq (by rfl) T.len (by decide +kernel) (pa_cons (pv 0) pa_nil)) (pv 1) (nomark _)))))), ?_⟩
  refine ⟨_, rfl, _, _, _, _, true, rfl, .ty "tuple", .base (.tup ha), kit_ty (by decide +kernel), _, rfl, ?_⟩
  exact ⟨_, rfl, a, _, rfl, .inr (SqT.of ha), _, rfl, rfl, q⟩
theorem ok_whole {f : Addr} {fd : FuncData} (F : Fun K "is_whole" "is_whole" sWhole f fd) (T : Bi mg) (mt : mg "bool" = none) : FnOk P w K mg base CX0 1 f fd ["thing"] spWhole := by
  refine F.ok scWhole (fun vs H Q E h => ?_) (fun cdv A outer s H vs Q E hr h => ?_)
  · obtain ⟨i, rfl, _⟩ := h
    rfl
  obtain ⟨i, rfl, q⟩ := h
  refine ⟨_, (pss_one (ps_ret (pe_and (pe_callB call_isi (by rfl) T.isinstance (by decide +kernel) (pa_cons (pv 0) (pa_cons (pe_bltn (v := .ty "int") (by rfl) T.int (by decide +kernel) rfl) pa_nil))) (pe_one (pe_not (pe_callB call_isi (by rfl) T.isinstance (by decide +kernel) (pa_cons (pv 0) (pa_cons (pe_bltn (v := .ty "bool") (by rfl) mt (by decide +kernel) rfl) pa_nil)))))))), ?_⟩
  refine ⟨_, rfl, _, _, _, _, true, rfl, .ty "int", .base (.int i), kit_ty (by decide +kernel), _, rfl, ?_⟩
  exact ⟨_, rfl, _, _, _, _, false, rfl, .ty "bool", .base (.int i), kit_ty (by decide +kernel), _, rfl, q⟩
theorem ok_within {f g : Addr} {fd gd : FuncData} (F : Fun K "is_whole_within" "is_whole_within" sWithin f fd) (WH : Fk P w K mg base 1 "is_whole" g gd ["thing"] spWhole) : FnOk P w K mg base CX0 2 f fd ["thing", "most"] spWithin := by
  refine F.ok scWithin (fun vs H Q E h => ?_) (fun cdv A outer s H vs Q E hr h => ?_)
  · obtain ⟨i, m, rfl, _⟩ := h
    rfl
  obtain ⟨i, m, rfl, h0, h1, q⟩ := h
  refine ⟨_, (pss_one (ps_ret (pe_and (pe_call WH.G (hr.mono (by omega)) (by rfl) WH.m WH.k WH.b .nil pass0 (pa_cons (pv 0) pa_nil)) (pe_one (pe_chain op_le op_le pe_int (pv 0) (pv 1)))))), ?_⟩
  refine ⟨_, rfl, i, rfl, _, rfl, ?_⟩
  refine ⟨_, rfl, _, _, rfl, rfl, _, rfl, ?_⟩
  rw [decide_eq_true h0]
  refine ⟨_, rfl, _, _, rfl, rfl, ?_⟩
  show Q (.bl (decide (i ≤ m))) H
  rw [decide_eq_true h1]
  exact q
theorem ok_isName {f : Addr} {fd : FuncData} (F : Fun K "is_name" "is_name" sIsName f fd) (T : Bi mg) (G : Gf K mg) : FnOk P w K mg base CX0 1 f fd ["thing"] spIsName := by
  refine F.ok scIsName (fun vs H Q E h => ?_) (fun cdv A outer s H vs Q E hr h => ?_)
  · obtain ⟨i, rfl, _⟩ := h
    rfl
  obtain ⟨z, rfl, ⟨⟨n1, n2, n3⟩, nk⟩, q⟩ := h
  obtain ⟨aW, gW, sW⟩ := G.words
  obtain ⟨tL, gLt⟩ := G.letters
  refine ⟨_, (pss_cons (ps_if (PW.pt (pw_or (pt_not (pt_val (pe_callB call_isi (by rfl) T.isinstance (by decide +kernel) (pa_cons (pv 0) (pa_cons (pe_bltn (v := .ty "str") (by rfl) T.str (by decide +kernel) rfl) pa_nil))))) (pw_or1 (pt_not (pt_chain op_le op_le pe_int (pe_callB call_len (by rfl) T.len (by decide +kernel) (pa_cons (pv 0) pa_nil)) (pe_gi G.lets))))))
      (pss_one (ps_ret pe_bl))
      pss_nil)
    (pss_one (ps_ret (pe_and (pe_cmpR op_notIn_seq (pv 0) (pe_glob (v := .ref aW) rfl gW rfl) rfl) (pe_one (pe_callB (cr_all rfl) (by rfl) T.all (by decide +kernel) (pa_cons (pe_lc (own := [("letter", 1)]) (g := gName 1) (tt := tYes) (by rfl) scIsName.nd (pi_str (pv 0)) (blkOk_by (own := [("letter", 1)]) (N := ["thing", "letter"]) (sc := defScope sIsName) (by decide +kernel)) (fun _ _ _ _ _ => pg_name (i := 1) scIsName.nd rfl (Or.inl rfl)) (fun _ _ _ _ _ => pts_nil) (fun _ _ _ _ _ => (pe_cmpR op_in_sign (pv 1) (pe_glob (v := .str letters) rfl gLt ⟨_, rfl⟩) rfl))) pa_nil))))))), ?_⟩
  rw [codes_len] at n1 n2
  have hs : sizeLine = 16777216 := by decide
  refine ⟨_, rfl, _, _, _, _, true, rfl, .ty "str", .base (.str z), kit_ty (by decide +kernel), _, rfl, ?_⟩
  refine ⟨_, rfl, _, z.length, rfl, ⟨by omega, rfl⟩, _, _, rfl, rfl, _, rfl, ?_⟩
  rw [decide_eq_true (by omega : (1 : Int) ≤ (z.length : Nat))]
  refine ⟨_, _, rfl, rfl, _, rfl, ?_⟩
  rw [decide_eq_true (by omega : ((z.length : Nat) : Int) ≤ 8)]
  refine ⟨_, rfl, aW, _, rfl, .inr (sW _), rfl, flat_strs kept, _, rfl, ?_⟩
  rw [if_pos rfl, inV_str, decide_eq_false nk]
  refine ⟨_, rfl, z, rfl, ?_⟩
  intro D hD
  refine lc_it walk_str (fun j H' => H' D = some (.lst ((List.replicate j true).map V.bl)) ∧ Same H H') ⟨upd_same, same_new hD _⟩ (fun _ _ _ _ => trivial) ?_ ?_
  · rintro j x H1 H2 hj ⟨hD1, s1⟩ ⟨rfl, c, hc, rfl⟩
    refine ⟨rfl, ?_⟩
    refine ⟨_, rfl, c, letters, rfl, rfl, ?_⟩
    have hc' : c ∈ letters.cps.toList := by
      have hm : c ∈ codes z := by
        unfold codes
        exact List.mem_of_getElem? (by rw [Array.getElem?_toList]; exact hc)
      have hr' := n3 c hm
      have all : ∀ c : Fin 123, 97 ≤ c.val → c.val ∈ letters.cps.toList := by decide +kernel
      exact all ⟨c, by omega⟩ hr'.1
    refine ⟨_, hD1, ?_, ?_, ?_⟩
    · rw [List.length_map, List.length_replicate]
      have : j < z.length := hj
      omega
    · rw [upd_same, decide_eq_true hc', List.replicate_succ', List.map_append]
      rfl
    · intro x o zz
      rw [upd_ne (ne_of_none zz hD)]
      exact s1 _ _ zz
  · rintro H1 ⟨hD1, s1⟩
    refine ⟨D, _, rfl, SqL.of hD1, ?_⟩
    have : (List.replicate z.cps.size true).all id = true := by
      rw [List.all_eq_true]
      intro x hx
      exact (List.mem_replicate.mp hx).2
    rw [this]
    exact q H1 s1
theorem ok_leaf {f g h : Addr} {fd gd hd : FuncData} (F : Fun K "is_leaf" "is_leaf" sLeaf f fd) (WI : Fk P w K mg base 2 "is_whole_within" g gd ["thing", "most"] spWithin) (IN : Fk P w K mg base 1 "is_name" h hd ["thing"] spIsName) (G : Gf K mg) : FnOk P w K mg base CX0 3 f fd ["pair"] spLeaf := by
  refine F.ok scLeaf (fun vs H Q E h => ?_) (fun cdv A outer s H vs Q E hr h => ?_)
  · obtain ⟨v, e, rfl, _⟩ := h
    rfl
  obtain ⟨v, e, rfl, hT, hlf, hf, q⟩ := h
  refine ⟨_, (pss_cons (ps_if (pt_cmpR op_eq (pe_ix ix_tup (pv 0) pe_int (fun _ _ => rfl)) pe_str (nomark _))
      (pss_one (ps_ret (pe_call WI.G (hr.mono (by omega)) (by rfl) WI.m WI.k WI.b .nil pass0 (pa_cons (pe_ix ix_tup (pv 0) pe_int (fun _ _ => rfl)) (pa_cons (pe_gi G.num) pa_nil)))))
      pss_nil)
    (pss_one (ps_ret (pe_and (pe_cmpR op_eq (pe_ix ix_tup (pv 0) pe_int (fun _ _ => rfl)) pe_str (nomark _)) (pe_one (pe_call IN.G (hr.mono (by omega)) (by rfl) IN.m IN.k IN.b .nil pass0 (pa_cons (pe_ix ix_tup (pv 0) pe_int (fun _ _ => rfl)) pa_nil))))))), ?_⟩
  cases e with
  | num i =>
    obtain ⟨a, rfl, ha⟩ := hT
    refine ⟨_, rfl, a, _, 0, _, rfl, rfl, SqT.of ha, atI_nat rfl, rfl, _, rfl, ?_⟩
    rw [decide_eq_true rfl]
    refine iteT ⟨_, rfl, a, _, 1, _, rfl, rfl, SqT.of ha, atI_nat (j := 1) rfl, i, _, rfl, hf.1, ?_, q H (Same.refl H)⟩
    have := hf.2
    omega
  | nam z =>
    obtain ⟨a, rfl, ha⟩ := hT
    refine ⟨_, rfl, a, _, 0, _, rfl, rfl, SqT.of ha, atI_nat rfl, rfl, _, rfl, ?_⟩
    rw [decide_eq_false (by intro z; have := V.str.inj z; revert this; decide +kernel)]
    refine iteF ?_
    refine ⟨_, rfl, a, _, 0, _, rfl, rfl, SqT.of ha, atI_nat rfl, rfl, _, rfl, ?_⟩
    rw [decide_eq_true rfl]
    refine iteT ⟨_, rfl, a, _, 1, _, rfl, rfl, SqT.of ha, atI_nat (j := 1) rfl, z, rfl, hf, q⟩
  | op g l r => cases hlf
theorem ok_isEx {n : Nat} {f t l : Addr} {fd td ld : FuncData} (F : FunD K "is_expression" "is_expression" (defArgs sIsEx) (defBody sIsEx) (defScope sIsEx) [.int 6] [] f fd) (TO : Fk P w K mg base 1 "is_tuple_of" t td ["thing", "many"] spTupOf) (LF : Fk P w K mg base 3 "is_leaf" l ld ["pair"] spLeaf)
    (IE : Fk P w K mg base (n + 3) "is_expression" f fd ["thing", "deepest"] (spIsEx n)) (G : Gf K mg) : FnOk P w K mg base CX0 (n + 4) f fd ["thing", "deepest"] (spIsEx (n + 1)) := by
  refine ok0 F scIsEx (fun vs H Q E h => ?_) (fun cdv A outer s H vs Q E hr h => ?_)
  · obtain ⟨v, e, rfl, _⟩ := h
    rfl
  obtain ⟨v, e, rfl, hT, hf, q⟩ := h
  obtain ⟨aS, gS, sS⟩ := G.signs
  refine ⟨_, (pss_cons (ps_if (pt_val (pe_call TO.G (hr.mono (by omega)) (by rfl) TO.m TO.k TO.b .nil pass0 (pa_cons (pv 0) (pa_cons pe_int pa_nil))))
      (pss_one (ps_ret (pe_call LF.G (hr.mono (by omega)) (by rfl) LF.m LF.k LF.b .nil pass0 (pa_cons (pv 0) pa_nil))))
      pss_nil)
    (pss_cons (ps_if (PW.pt (pw_or (pt_not (pt_val (pe_call TO.G (hr.mono (by omega)) (by rfl) TO.m TO.k TO.b .nil pass0 (pa_cons (pv 0) (pa_cons pe_int pa_nil))))) (pw_or1 (pt_cmpR op_notIn_seq (pe_ix ix_tup (pv 0) pe_int (fun _ _ => rfl)) (pe_glob (v := .ref aS) rfl gS rfl) rfl))))
      (pss_one (ps_ret pe_bl))
      pss_nil)
    (pss_one (ps_ret (pe_and (pe_cmpR op_gt (pv 1) pe_int (nomark _)) (pe_and (pe_call IE.G hr (by rfl) IE.m IE.k IE.b .nil pass0 (pa_cons (pe_ix ix_tup (pv 0) pe_int (fun _ _ => rfl)) (pa_cons (pe_op op_sub (pv 1) pe_int) pa_nil))) (pe_one (pe_call IE.G hr (by rfl) IE.m IE.k IE.b .nil pass0 (pa_cons (pe_ix ix_tup (pv 0) pe_int (fun _ _ => rfl)) (pa_cons (pe_op op_sub (pv 1) pe_int) pa_nil)))))))))), ?_⟩
  cases e with
  | num i =>
    have hT' := hT
    obtain ⟨a, rfl, ha⟩ := hT
    refine ⟨_, rfl, a, _, 2, rfl, ha, _, rfl, ?_⟩
    refine ⟨_, rfl, _, .num i, rfl, hT', rfl, hf, q⟩
  | nam z =>
    have hT' := hT
    obtain ⟨a, rfl, ha⟩ := hT
    refine ⟨_, rfl, a, _, 2, rfl, ha, _, rfl, ?_⟩
    refine ⟨_, rfl, _, .nam z, rfl, hT', rfl, hf, q⟩
  | op g x y =>
    obtain ⟨a, vx, vy, rfl, ha, tx, ty⟩ := hT
    refine ⟨_, rfl, a, _, 2, rfl, ha, _, rfl, ?_⟩
    refine ⟨_, rfl, a, _, 3, rfl, ha, _, rfl, ?_⟩
    refine ⟨_, rfl, a, _, 0, _, rfl, rfl, SqT.of ha, atI_nat rfl, aS, _, rfl, .inr (sS _), rfl, flat_strs signsL, _, rfl, ?_⟩
    have e1 : inV (.str g.txt) (signsL.map V.str) = true := by
      rw [inV_str]
      cases g <;> decide +kernel
    rw [if_pos rfl, e1]
    have hn : 1 ≤ n := by
      cases n with
      | zero => exact hf.1.elim
      | succ m => exact Nat.succ_le_succ (Nat.zero_le _)
    have en : ((n + 1 : Nat) : Int) - 1 = (n : Int) := by omega
    refine ⟨_, rfl, _, _, rfl, rfl, _, rfl, ?_⟩
    rw [decide_eq_true (by omega : (1 : Int) < ((n + 1 : Nat) : Int))]
    refine ⟨_, rfl, a, _, 1, _, rfl, rfl, SqT.of ha, atI_nat (j := 1) rfl, _, rfl, _, _, rfl, rfl, vx, x, (by show [vx, V.int (((n + 1 : Nat) : Int) - 1)] = _; rw [en]), tx, hf.1, fun H1 s1 => ?_⟩
    refine ⟨_, rfl, ?_⟩
    refine ⟨_, rfl, a, _, 2, _, rfl, rfl, SqT.of (s1 _ _ ha), atI_nat (j := 2) rfl, _, rfl, _, _, rfl, rfl, vy, y, (by show [vy, V.int (((n + 1 : Nat) : Int) - 1)] = _; rw [en]), ty.same s1, hf.2, fun H2 s2 => q H2 (s1.trans s2)⟩
theorem isEx_none {f : Addr} {fd : FuncData} : FnOk P w K mg base CX0 3 f fd ["thing", "deepest"] (spIsEx 0) := by
  have no : ∀ vs H Q E, ¬ spIsEx 0 vs H Q E := fun vs H Q E h => by
    obtain ⟨_, _, _, _, h1, _⟩ := h
    exact h1
  exact ⟨fun vs H Q E h => absurd h (no vs H Q E), fun A outer s H args us vs Q E _ _ _ _ h => absurd h (no vs H Q E)⟩
theorem isExs {f t l : Addr} {fd td ld : FuncData} (F : FunD K "is_expression" "is_expression" (defArgs sIsEx) (defBody sIsEx) (defScope sIsEx) [.int 6] [] f fd) (m : mg "is_expression" = some (.ref f)) (bd : Binds K fd ["thing", "deepest"] []) (TO : Fk P w K mg base 1 "is_tuple_of" t td ["thing", "many"] spTupOf) (LF : Fk P w K mg base 3 "is_leaf" l ld ["pair"] spLeaf) (G : Gf K mg) :
    ∀ n : Nat, FnOk P w K mg base CX0 (n + 3) f fd ["thing", "deepest"] (spIsEx n)
  | 0 => isEx_none
  | n + 1 => ok_isEx F TO LF ⟨isExs F m bd TO LF G n, m, F.kp, bd⟩ G
end
end SH

set_option Elab.async false
set_option linter.all false
set_option maxRecDepth 100000
/-! Expressions read by a pile: mathematics. -/
namespace SH
open PySem L2
inductive Tn where
  | lp | rp
  | sg (g : Sg)
  | num (n : Int)
  | nam (s : Str)
def brT (b : Bool) (t : List Tn) : List Tn := if b = true then Tn.lp :: (t ++ [Tn.rp]) else t
def Ex.tks : Ex → List Tn
  | .num n => [.num n]
  | .nam s => [.nam s]
  | .op g l r => brT (lB g l) l.tks ++ Tn.sg g :: brT (rB g r) r.tks
def Ex.dep : Ex → Nat
  | .num _ => 1
  | .nam _ => 1
  | .op _ l r => 1 + max l.dep r.dep
def one? (b : Bool) : Nat := if b = true then 1 else 0
/-- how many pairs of brackets are wanted -/
def Ex.nb : Ex → Nat
  | .num _ => 0
  | .nam _ => 0
  | .op g l r => (l.nb + one? (lB g l)) + (r.nb + one? (rB g r))
def isLp : Tn → Bool
  | .lp => true
  | _ => false
def isRp : Tn → Bool
  | .rp => true
  | _ => false
def lps (ts : List Tn) : Nat := (ts.filter isLp).length
theorem lps_app (a b : List Tn) : lps (a ++ b) = lps a + lps b := by unfold lps; rw [List.filter_append, List.length_append]
theorem lps_br (b : Bool) (t : List Tn) : lps (brT b t) = lps t + one? b := by
  cases b with
  | false => rfl
  | true =>
    show lps ([Tn.lp] ++ (t ++ [Tn.rp])) = _
    rw [lps_app, lps_app]
    show 1 + (lps t + 0) = lps t + 1
    omega
theorem Ex.lps : ∀ e : Ex, lps e.tks = e.nb
  | .num _ => rfl
  | .nam _ => rfl
  | .op g l r => by
    show SH.lps (brT (lB g l) l.tks ++ ([Tn.sg g] ++ brT (rB g r) r.tks)) = _
    rw [lps_app, lps_app, lps_br, lps_br, Ex.lps l, Ex.lps r]
    show _ + (0 + _) = (l.nb + _) + (r.nb + _)
    omega
abbrev Ot := Ex × Nat
abbrev Pile := List (Option Sg)
def mk2 (g : Sg) (a o : Ot) : Ot := (.op g a.1 o.1, 1 + max a.2 o.2)
/-- all signs behind the last bracket folded -/
def closeM : Pile → List Ot → Option (List Ot × Pile)
  | none :: p, outs => some (outs, p)
  | some g :: p, o :: a :: r => if (mk2 g a o).2 < 7 then closeM p (mk2 g a o :: r) else none
  | _, _ => none
/-- what binds as much or more, folded -/
def signM (g : Sg) : Pile → List Ot → Option (List Ot × Pile)
  | none :: p, outs => some (outs, none :: p)
  | some h :: p, outs => if g.lv ≤ h.lv then (if g.lv = 1 ∧ h.lv = 1 then none else match outs with
      | o :: a :: r => if (mk2 h a o).2 < 7 then signM g p (mk2 h a o :: r) else none
      | _ => none) else some (outs, some h :: p)
  | [], _ => none
structure RS where
  outs : List Ot
  pile : Pile
  w : Bool
def cntN (p : Pile) : Nat := (p.filter Option.isNone).length
def stepM (S : RS) : Tn → Option RS
  | t => match S.pile, S.w, t with
    | [], _, _ => none
    | p, true, .lp => if cntN p < 9 then some ⟨S.outs, none :: p, true⟩ else none
    | p, true, .num n => some ⟨(.num n, 1) :: S.outs, p, false⟩
    | p, true, .nam n => some ⟨(.nam n, 1) :: S.outs, p, false⟩
    | p, false, .sg g => (signM g p S.outs).map fun x => ⟨x.1, some g :: x.2, true⟩
    | p, false, .rp => (closeM p S.outs).map fun x => ⟨x.1, x.2, false⟩
    | _, _, _ => none
def readM : RS → List Tn → Option RS
  | S, [] => some S
  | S, t :: r => match stepM S t with
    | some S' => readM S' r
    | none => none
def RS0 : RS := ⟨[], [none], true⟩
def resM (ts : List Tn) : Option Ex := match readM RS0 (ts ++ [.rp]) with
  | some ⟨o :: _, [], _⟩ => some o.1
  | _ => none
/-! what binds: levels -/
theorem Sg.lv_pos (g : Sg) : 1 ≤ g.lv ∧ g.lv ≤ 3 := by cases g <;> decide
theorem Ex.lv_pos (e : Ex) : 1 ≤ e.lv ∧ e.lv ≤ 4 := by
  cases e with
  | num _ => show (1 : Int) ≤ 4 ∧ (4 : Int) ≤ 4; decide
  | nam _ => show (1 : Int) ≤ 4 ∧ (4 : Int) ≤ 4; decide
  | op g l r => have := g.lv_pos; show 1 ≤ g.lv ∧ g.lv ≤ 4; omega
theorem Ex.dep_pos (e : Ex) : 1 ≤ e.dep := by
  cases e with
  | num _ => exact Nat.le_refl 1
  | nam _ => exact Nat.le_refl 1
  | op g l r => show 1 ≤ 1 + max l.dep r.dep; omega
def tb : Pile → Int
  | some g :: _ => g.lv
  | _ => 0
theorem lB_f {g : Sg} {l : Ex} (h : lB g l = false) : g.lv ≤ l.lv ∧ l.lv ≠ 1 := by
  unfold lB at h
  rw [Bool.or_eq_false_iff] at h
  have h1 := of_decide_eq_false h.1
  have h2 := of_decide_eq_false h.2
  exact ⟨by omega, h2⟩
theorem rB_f {g : Sg} {l : Ex} (h : rB g l = false) : g.lv < l.lv := by
  unfold rB at h
  have h1 := of_decide_eq_false h
  omega
theorem lB_t {g : Sg} {l : Ex} (h : lB g l = true) : l.lv < g.lv ∨ l.lv = 1 := by
  unfold lB at h
  rw [Bool.or_eq_true] at h
  exact h.elim (fun h => .inl (of_decide_eq_true h)) (fun h => .inr (of_decide_eq_true h))
theorem rB_t {g : Sg} {l : Ex} (h : rB g l = true) : l.lv ≤ g.lv := of_decide_eq_true h
/-! ### the shown parts are read -/
def okNx (lv : Int) (t : Tn) : Prop := t = .rp ∨ ∃ g, t = .sg g ∧ g.lv ≤ lv ∧ lv ≠ 1
theorem readM_cons {S S' : RS} {t : Tn} {r : List Tn} (h : stepM S t = some S') : readM S (t :: r) = readM S' r := by
  show (match stepM S t with | some S' => readM S' r | none => none) = _
  rw [h]
theorem readM_eq {S S' : RS} {t : Tn} {r : List Tn} (h : stepM S t = stepM S' t) : readM S (t :: r) = readM S' (t :: r) := by
  show (match stepM S t with | some S' => readM S' r | none => none) = (match stepM S' t with | some S' => readM S' r | none => none)
  rw [h]
theorem sign_low {g : Sg} {p : Pile} (hp : p ≠ []) (h : tb p < g.lv) (outs : List Ot) : signM g p outs = some (outs, p) := by
  cases p with
  | nil => exact absurd rfl hp
  | cons x p =>
    cases x with
    | none => rfl
    | some k =>
      have h' : k.lv < g.lv := h
      show (if g.lv ≤ k.lv then _ else _) = _
      rw [if_neg (by omega)]
theorem step_lp {outs : List Ot} {p : Pile} (hp : p ≠ []) (h : cntN p < 9) : stepM ⟨outs, p, true⟩ .lp = some ⟨outs, none :: p, true⟩ := by
  cases p with
  | nil => exact absurd rfl hp
  | cons x p => show (if cntN (x :: p) < 9 then _ else _) = _; rw [if_pos h]
theorem step_sg {outs : List Ot} {p : Pile} {g : Sg} (hp : p ≠ []) : stepM ⟨outs, p, false⟩ (.sg g) = (signM g p outs).map fun x => ⟨x.1, some g :: x.2, true⟩ := by
  cases p with
  | nil => exact absurd rfl hp
  | cons x p => rfl
theorem step_rp {outs : List Ot} {p : Pile} (hp : p ≠ []) : stepM ⟨outs, p, false⟩ .rp = (closeM p outs).map fun x => ⟨x.1, x.2, false⟩ := by
  cases p with
  | nil => exact absurd rfl hp
  | cons x p => rfl
theorem read_ex : ∀ (e : Ex) (outs : List Ot) (p : Pile) (t : Tn) (r : List Tn), p ≠ [] → tb p < e.lv → cntN p + e.dep ≤ 9 → e.dep ≤ 6 → okNx e.lv t →
    readM ⟨outs, p, true⟩ (e.tks ++ t :: r) = readM ⟨(e, e.dep) :: outs, p, false⟩ (t :: r)
  | .num n, outs, p, t, r, hp, _, _, _, _ => by
    refine readM_cons ?_
    cases p with
    | nil => exact absurd rfl hp
    | cons x p => rfl
  | .nam n, outs, p, t, r, hp, _, _, _, _ => by
    refine readM_cons ?_
    cases p with
    | nil => exact absurd rfl hp
    | cons x p => rfl
  | .op g a b, outs, p, t, r, hp, hb, hc, hd, hn => by
    have hd' : 1 + max a.dep b.dep ≤ 6 := hd
    have hc' : cntN p + (1 + max a.dep b.dep) ≤ 9 := hc
    have hb' : tb p < g.lv := hb
    have gl := g.lv_pos
    have wrap : ∀ (e : Ex) (outs : List Ot) (q : Pile) (t : Tn) (r : List Tn), q ≠ [] → cntN q + (1 + e.dep) ≤ 9 →
        (∀ (outs : List Ot) (p : Pile) (t : Tn) (r : List Tn), p ≠ [] → tb p < e.lv → cntN p + e.dep ≤ 9 → okNx e.lv t → readM ⟨outs, p, true⟩ (e.tks ++ t :: r) = readM ⟨(e, e.dep) :: outs, p, false⟩ (t :: r)) →
        readM ⟨outs, q, true⟩ (Tn.lp :: (e.tks ++ [Tn.rp]) ++ t :: r) = readM ⟨(e, e.dep) :: outs, q, false⟩ (t :: r) := by
      intro e outs q t r hq hcq ih
      rw [List.cons_append, List.append_assoc]
      rw [readM_cons (step_lp hq (by have := e.dep_pos; omega))]
      show readM _ (e.tks ++ Tn.rp :: (t :: r)) = _
      rw [ih outs (none :: q) .rp (t :: r) (by intro h; cases h) (by have := e.lv_pos; show (0 : Int) < _; omega) (by show cntN (none :: q) + _ ≤ 9; have : cntN (none :: q) = cntN q + 1 := rfl; omega) (.inl rfl)]
      exact readM_cons (by rw [step_rp (by intro h; cases h)]; rfl)
    show readM _ ((brT (lB g a) a.tks ++ Tn.sg g :: brT (rB g b) b.tks) ++ t :: r) = _
    rw [List.append_assoc, List.cons_append]
    have s1 : readM ⟨outs, p, true⟩ (brT (lB g a) a.tks ++ Tn.sg g :: (brT (rB g b) b.tks ++ t :: r)) = readM ⟨(a, a.dep) :: outs, p, false⟩ (Tn.sg g :: (brT (rB g b) b.tks ++ t :: r)) := by
      cases hl : lB g a with
      | true => exact wrap a outs p _ _ hp (by omega) fun outs p t r h1 h2 h3 h4 => read_ex a outs p t r h1 h2 h3 (by omega) h4
      | false =>
        obtain ⟨l1, l2⟩ := lB_f hl
        exact read_ex a outs p _ _ hp (by omega) (by omega) (by omega) (.inr ⟨g, rfl, l1, l2⟩)
    rw [s1, readM_cons (S' := ⟨(a, a.dep) :: outs, some g :: p, true⟩) (by rw [step_sg hp, sign_low hp hb']; rfl)]
    have s2 : readM ⟨(a, a.dep) :: outs, some g :: p, true⟩ (brT (rB g b) b.tks ++ t :: r) = readM ⟨(b, b.dep) :: (a, a.dep) :: outs, some g :: p, false⟩ (t :: r) := by
      have hcg : cntN (some g :: p) = cntN p := rfl
      cases hr : rB g b with
      | true => exact wrap b _ _ _ _ (by intro h; cases h) (by omega) fun outs p t r h1 h2 h3 h4 => read_ex b outs p t r h1 h2 h3 (by omega) h4
      | false =>
        have l1 := rB_f hr
        refine read_ex b _ _ _ _ (by intro h; cases h) l1 (by omega) (by omega) ?_
        rcases hn with h | ⟨k, h, k1, k2⟩
        · exact .inl h
        · have k1' : k.lv ≤ g.lv := k1
          exact .inr ⟨k, h, by omega, by omega⟩
    rw [s2]
    refine readM_eq ?_
    have hdd : (mk2 g (a, a.dep) (b, b.dep)).2 < 7 := by show 1 + max a.dep b.dep < 7; omega
    rcases hn with rfl | ⟨k, rfl, k1, k2⟩
    · rw [step_rp (by intro h; cases h), step_rp hp]
      show Option.map _ (if (mk2 g (a, a.dep) (b, b.dep)).2 < 7 then _ else _) = _
      rw [if_pos hdd]
      rfl
    · have k1' : k.lv ≤ g.lv := k1
      have k2' : g.lv ≠ 1 := k2
      rw [step_sg (by intro h; cases h), step_sg hp]
      show Option.map _ (if k.lv ≤ g.lv then (if k.lv = 1 ∧ g.lv = 1 then none else (if (mk2 g (a, a.dep) (b, b.dep)).2 < 7 then _ else _)) else _) = _
      rw [if_pos k1', if_neg (by omega), if_pos hdd]
      rfl
theorem res_ex {e : Ex} (h : e.dep ≤ 6) : resM e.tks = some e := by
  have q := read_ex e [] [none] .rp [] (by intro h; cases h) (by have := e.lv_pos; show (0 : Int) < _; omega) (by show 1 + e.dep ≤ 9; omega) h (.inl rfl)
  unfold resM RS0
  rw [q]
  rfl
/-! ### no reading saves a bracket -/
def Stg (s : Int) (o : Ex) (k : Nat) : Prop := o.nb + (if o.lv < s then 1 else 0) ≤ k
def sL (g : Sg) : Int := if g.lv < 2 then 2 else g.lv
inductive Wi : List Ot → Pile → Nat → Prop
  | nil : Wi [] [] 0
  | lp {outs p c} : Wi outs p c → Wi outs (none :: p) (c + 1)
  | sg {outs p c k} {o : Ot} {g : Sg} : Wi outs p c → p ≠ [] → tb p < g.lv → Stg (sL g) o.1 k → Wi (o :: outs) (some g :: p) (c + k)
def Ni (outs : List Ot) (p : Pile) (c : Nat) : Prop := ∃ o os k d, outs = o :: os ∧ Wi os p d ∧ Stg 4 o.1 k ∧ c = d + k
def SI (S : RS) (c : Nat) : Prop := if S.w = true then Wi S.outs S.pile c ∧ S.pile ≠ [] else Ni S.outs S.pile c
theorem Stg.low {s t : Int} {o : Ex} {k : Nat} (h : Stg s o k) (hs : t ≤ s) : Stg t o k := by
  unfold Stg at *
  by_cases h1 : o.lv < t
  · rw [if_pos h1]; rw [if_pos (by omega)] at h; exact h
  · rw [if_neg h1]
    split at h <;> omega
theorem Stg.four {s : Int} {o : Ex} {k : Nat} (h : Stg 4 o k) (hs : s ≤ 4) : Stg s o k := h.low hs
theorem fold_nb {g : Sg} {a o : Ex} {ka k : Nat} (ha : Stg (sL g) a ka) (ho : Stg (g.lv + 1) o k) : (Ex.op g a o).nb ≤ ka + k := by
  show (a.nb + one? (lB g a)) + (o.nb + one? (rB g o)) ≤ _
  have h1 : a.nb + one? (lB g a) ≤ ka := by
    unfold Stg at ha
    cases hl : lB g a with
    | false => show a.nb + 0 ≤ ka; split at ha <;> omega
    | true =>
      have q := lB_t hl
      have := g.lv_pos
      rw [if_pos (by unfold sL; split <;> omega)] at ha
      exact ha
  have h2 : o.nb + one? (rB g o) ≤ k := by
    unfold Stg at ho
    cases hl : rB g o with
    | false => show o.nb + 0 ≤ k; split at ho <;> omega
    | true =>
      have q := rB_t hl
      rw [if_pos (by omega)] at ho
      exact ho
  omega
theorem tb_le (p : Pile) : 0 ≤ tb p ∧ tb p ≤ 3 := by
  cases p with
  | nil => show (0 : Int) ≤ 0 ∧ (0 : Int) ≤ 3; decide
  | cons x p =>
    cases x with
    | none => show (0 : Int) ≤ 0 ∧ (0 : Int) ≤ 3; decide
    | some g => have := g.lv_pos; show 0 ≤ g.lv ∧ g.lv ≤ 3; omega
theorem close_ok : ∀ (p : Pile) (o : Ot) (os : List Ot) (k d : Nat), Wi os p d → Stg (tb p + 1) o.1 k → ∀ x, closeM p (o :: os) = some x → Ni x.1 x.2 (d + k)
  | [], o, os, k, d, _, _, x, h => by cases h
  | none :: p, o, os, k, d, hW, hS, x, h => by
    cases h
    cases hW with
    | lp hW =>
      refine ⟨o, os, k + 1, _, rfl, hW, ?_, by omega⟩
      unfold Stg at hS ⊢
      split at hS <;> split <;> omega
  | some g :: p, o, os, k, d, hW, hS, x, h => by
    cases hW with
    | @sg outs _ c ka a _ hW hp hb ha =>
      have h' : (if (mk2 g a o).2 < 7 then closeM p (mk2 g a o :: outs) else none) = some x := h
      split at h'
      · have q := fold_nb ha hS
        have := close_ok p (mk2 g a o) outs (ka + k) c hW (by
          unfold Stg
          show (Ex.op g a.1 o.1).nb + (if g.lv < _ then 1 else 0) ≤ _
          rw [if_neg (by omega)]
          exact q) x h'
        rw [show c + ka + k = c + (ka + k) by omega]
        exact this
      · cases h'
theorem sign_ok (g : Sg) : ∀ (p : Pile) (o : Ot) (os : List Ot) (k d : Nat), Wi os p d → Stg (tb p + 1) o.1 k → Stg (sL g) o.1 k → ∀ x, signM g p (o :: os) = some x → Wi x.1 (some g :: x.2) (d + k)
  | [], o, os, k, d, _, _, _, x, h => by cases h
  | none :: p, o, os, k, d, hW, hS, hL, x, h => by
    cases h
    exact .sg hW (by intro h; cases h) (by have := g.lv_pos; show (0 : Int) < _; omega) hL
  | some e :: p, o, os, k, d, hW, hS, hL, x, h => by
    by_cases h1 : g.lv ≤ e.lv
    · cases hW with
      | @sg outs _ c ka a _ hW hp hb ha =>
        have h' : (if g.lv ≤ e.lv then (if g.lv = 1 ∧ e.lv = 1 then none else (if (mk2 e a o).2 < 7 then signM g p (mk2 e a o :: outs) else none)) else some (o :: a :: outs, some e :: p)) = some x := h
        rw [if_pos h1] at h'
        split at h'
        · cases h'
        · rename_i h2
          split at h'
          · have q := fold_nb ha hS
            have e1 := e.lv_pos
            have g1 := g.lv_pos
            have := sign_ok g p (mk2 e a o) outs (ka + k) c hW (by
              unfold Stg
              show (Ex.op e a.1 o.1).nb + (if e.lv < _ then 1 else 0) ≤ _
              rw [if_neg (by omega)]
              exact q) (by
              unfold Stg
              show (Ex.op e a.1 o.1).nb + (if e.lv < _ then 1 else 0) ≤ _
              rw [if_neg (by unfold sL; split <;> omega)]
              exact q) x h'
            rw [show c + ka + k = c + (ka + k) by omega]
            exact this
          · cases h'
    · have h' : (if g.lv ≤ e.lv then _ else some (o :: os, some e :: p)) = some x := h
      rw [if_neg h1] at h'
      cases h'
      exact .sg hW (by intro h; cases h) (by show e.lv < _; omega) hL
theorem sL_le (g : Sg) : sL g ≤ 4 := by have := g.lv_pos; unfold sL; split <;> omega
theorem step_ok {S S' : RS} {c : Nat} {t : Tn} (h : SI S c) (e : stepM S t = some S') : SI S' (c + one? (isLp t)) := by
  obtain ⟨outs, p, w⟩ := S
  cases p with
  | nil => cases e
  | cons x p =>
    cases w with
    | true =>
      obtain ⟨hW, hp⟩ : Wi outs (x :: p) c ∧ x :: p ≠ [] := h
      cases t with
      | lp =>
        have e' : (if cntN (x :: p) < 9 then some (RS.mk outs (none :: x :: p) true) else none) = some S' := e
        split at e'
        · cases e'
          exact ⟨.lp hW, by intro h; cases h⟩
        · cases e'
      | rp => cases e
      | sg g => cases e
      | num n =>
        cases e
        exact ⟨_, _, 0, c, rfl, hW, by unfold Stg; exact Nat.le_refl 0, rfl⟩
      | nam n =>
        cases e
        exact ⟨_, _, 0, c, rfl, hW, by unfold Stg; exact Nat.le_refl 0, rfl⟩
    | false =>
      obtain ⟨o, os, k, d, eo, hW, hS, ec⟩ : Ni outs (x :: p) c := h
      have eo' : outs = o :: os := eo
      subst eo'
      have hb := tb_le (x :: p)
      cases t with
      | lp => cases x <;> cases e
      | num n => cases x <;> cases e
      | nam n => cases x <;> cases e
      | sg g =>
        rw [step_sg (by intro h; cases h)] at e
        cases hs : signM g (x :: p) (o :: os) with
        | none => rw [hs] at e; cases e
        | some y =>
          rw [hs] at e
          cases e
          have := sign_ok g _ o os k d hW (hS.four (by omega)) (hS.four (sL_le g)) y hs
          rw [ec]
          exact ⟨this, by intro h; cases h⟩
      | rp =>
        rw [step_rp (by intro h; cases h)] at e
        cases hs : closeM (x :: p) (o :: os) with
        | none => rw [hs] at e; cases e
        | some y =>
          rw [hs] at e
          cases e
          have := close_ok _ o os k d hW (hS.four (by omega)) y hs
          rw [ec]
          exact this
theorem read_ok : ∀ (ts : List Tn) (S S' : RS) (c : Nat), SI S c → readM S ts = some S' → SI S' (c + lps ts)
  | [], S, S', c, h, e => by cases e; exact h
  | t :: r, S, S', c, h, e => by
    have e' : (match stepM S t with | some S' => readM S' r | none => none) = some S' := e
    cases hs : stepM S t with
    | none => rw [hs] at e'; cases e'
    | some S1 =>
      rw [hs] at e'
      have := read_ok r S1 S' _ (step_ok h hs) e'
      rw [show lps (t :: r) = one? (isLp t) + lps r by
        rw [show t :: r = [t] ++ r from rfl, lps_app]
        cases t <;> rfl]
      rw [← Nat.add_assoc]
      exact this
theorem SI0 : SI RS0 1 := ⟨.lp .nil, by intro h; cases h⟩
theorem res_nb {ts : List Tn} {e : Ex} (h : resM ts = some e) : e.nb ≤ lps ts := by
  unfold resM at h
  split at h
  · rename_i o os w hr
    cases h
    have q := read_ok _ _ _ _ SI0 hr
    rw [lps_app] at q
    cases w with
    | true => exact absurd rfl q.2
    | false =>
      obtain ⟨o', os', k, d, e1, hW, hS, e2⟩ : Ni _ _ _ := q
      cases e1
      cases hW
      have e3 : lps [Tn.rp] = 0 := rfl
      unfold Stg at hS
      split at hS
      · omega
      · rename_i h4
        obtain ⟨oe, od⟩ := o
        cases oe with
        | num n => exact Nat.zero_le _
        | nam n => exact Nat.zero_le _
        | op g l r => have := g.lv_pos; have h5 : ¬ g.lv < 4 := h4; omega
  · cases h
end SH

set_option Elab.async false
set_option linter.all false
set_option maxRecDepth 100000
/-! Parts of an expression's text: mathematics. -/
namespace SH
open PySem L2 TL
def cd (s : Str) : List Nat := s.cps.toList
theorem cd_len (s : Str) : (cd s).length = s.length := Array.length_toList
theorem cd_app (a b : Str) : cd (a ++ b) = cd a ++ cd b := by
  show (a.cps ++ b.cps).toList = _
  rw [Array.toList_append]
  all_goals rfl
theorem cd_inj {a b : Str} (h : cd a = cd b) : a = b := by
  cases a with | mk x =>
  cases b with | mk y =>
  have : x = y := Array.toList_inj.mp h
  rw [this]
def uno (c : Nat) : Str := ⟨#[c]⟩
theorem cd_uno (c : Nat) : cd (uno c) = [c] := rfl
abbrev Pc := Option Tn
def Tn.txt : Tn → Str
  | .lp => "("
  | .rp => ")"
  | .sg g => g.txt
  | .num n => (toString n : String)
  | .nam s => s
def ptxt : Pc → Str
  | none => " "
  | some t => t.txt
def Tn.kd : Tn → Int
  | .sg .eq => 2
  | .num _ => 1
  | .nam _ => 0
  | _ => 3
def pkd : Pc → Int
  | none => 4
  | some t => t.kd
def nmL (s : Str) : Prop := 1 ≤ (cd s).length ∧ (cd s).length ≤ 8 ∧ ∀ c ∈ cd s, 97 ≤ c ∧ c ≤ 122
def POk : Pc → Prop
  | some (.num n) => 0 ≤ n ∧ n < 1000000 ^ 5
  | some (.nam s) => nmL s
  | _ => True
def brP (b : Bool) (t : List Pc) : List Pc := if b = true then some .lp :: (t ++ [some .rp]) else t
def Ex.pcs : Ex → List Pc
  | .num n => [some (.num n)]
  | .nam s => [some (.nam s)]
  | .op g l r => brP (lB g l) l.pcs ++ none :: some (.sg g) :: none :: brP (rB g r) r.pcs
def flat (ps : List Pc) : List Nat := (ps.map fun p => cd (ptxt p)).flatten
theorem flat_app (a b : List Pc) : flat (a ++ b) = flat a ++ flat b := by unfold flat; rw [List.map_append, List.flatten_append]
theorem flat_cons (p : Pc) (b : List Pc) : flat (p :: b) = cd (ptxt p) ++ flat b := rfl
theorem cd_lp : cd ("(" : Str) = [40] := by decide +kernel
theorem cd_rp : cd (")" : Str) = [41] := by decide +kernel
theorem cd_bl : cd (" " : Str) = [32] := by decide +kernel
theorem cd_sg (g : Sg) : cd g.txt = match g with | .add => [43] | .sub => [45] | .mul => [42] | .lt => [60] | .eq => [61, 61] := by cases g <;> decide +kernel
theorem flat_br (b : Bool) (ps : List Pc) (t : Str) (h : flat ps = cd t) : flat (brP b ps) = cd (br b t) := by
  cases b with
  | false => exact h
  | true =>
    show flat (some Tn.lp :: (ps ++ [some Tn.rp])) = cd (("(" : Str) ++ t ++ (")" : Str))
    rw [flat_cons, flat_app, h, cd_app, cd_app]
    show cd ("(" : Str) ++ (cd t ++ (cd (")" : Str) ++ [])) = _
    rw [List.append_nil, List.append_assoc]
theorem Ex.flat : ∀ e : Ex, SH.flat e.pcs = cd e.txt
  | .num n => by show cd _ ++ [] = _; rw [List.append_nil]; rfl
  | .nam n => by show cd _ ++ [] = _; rw [List.append_nil]; rfl
  | .op g l r => by
    show SH.flat (brP (lB g l) l.pcs ++ none :: some (.sg g) :: none :: brP (rB g r) r.pcs) = cd (br (lB g l) l.txt ++ (" " : Str) ++ g.txt ++ (" " : Str) ++ br (rB g r) r.txt)
    rw [flat_app, flat_cons, flat_cons, flat_cons, flat_br _ _ _ (Ex.flat l), flat_br _ _ _ (Ex.flat r)]
    rw [cd_app, cd_app, cd_app, cd_app]
    show _ ++ (cd (" " : Str) ++ (cd g.txt ++ (cd (" " : Str) ++ _))) = _
    simp only [List.append_assoc]
def toks (ps : List Pc) : List Tn := ps.filterMap id
theorem toks_app (a b : List Pc) : toks (a ++ b) = toks a ++ toks b := List.filterMap_append
theorem toks_br (b : Bool) {ps : List Pc} {t : List Tn} (h : toks ps = t) : toks (brP b ps) = brT b t := by
  cases b with
  | false => exact h
  | true =>
    show Tn.lp :: toks (ps ++ [some Tn.rp]) = Tn.lp :: (t ++ [Tn.rp])
    rw [toks_app, h]
    rfl
theorem Ex.toks : ∀ e : Ex, SH.toks e.pcs = e.tks
  | .num n => rfl
  | .nam n => rfl
  | .op g l r => by
    show SH.toks (brP (lB g l) l.pcs ++ none :: some (.sg g) :: none :: brP (rB g r) r.pcs) = brT (lB g l) l.tks ++ Tn.sg g :: brT (rB g r) r.tks
    rw [toks_app, toks_br _ (Ex.toks l), ← toks_br _ (Ex.toks r)]
    rfl
/-! ### numbers -/
theorem numL_head : ∀ (n : Nat), 0 < n → ∀ r, numL n ≠ 48 :: r := by
  intro n
  induction n using Nat.strongRecOn with
  | _ n ih =>
    intro hn r h
    by_cases h1 : n < 10
    · rw [numL_lt h1] at h
      have := (List.cons.inj h).1
      omega
    · rw [numL_step (by omega)] at h
      cases hd : numL (n / 10) with
      | nil => exact absurd hd (numL_ne _)
      | cons a t =>
        rw [hd] at h
        have : a = 48 := (List.cons.inj h).1
        subst this
        exact ih (n / 10) (by omega) (by omega) t hd
theorem cd_num {n : Int} (h : 0 ≤ n) : cd ((toString n : String) : Str) = numL n.toNat := by
  have e : n = ((n.toNat : Nat) : Int) := by omega
  have q := tl_num n.toNat
  rw [← e] at q
  exact q
theorem num_len {n : Int} (h : 0 ≤ n) (h1 : n < 1000000 ^ 5) : (numL n.toNat).length ≤ 30 := by
  refine numL_len (by decide) ?_
  have e : (1000000 : Int) ^ 5 = 1000000000000000000000000000000 := by decide
  have e2 : (10 : Nat) ^ 30 = 1000000000000000000000000000000 := by decide
  rw [e] at h1
  rw [e2]
  omega
theorem num_dig (n : Nat) : ∀ c ∈ numL n, 48 ≤ c ∧ c ≤ 57 := fun c hc => numL_digits n c hc
/-! ### kinds -/
def kdC (c : Nat) : Int := if 97 ≤ c ∧ c ≤ 122 then 0 else if 48 ≤ c ∧ c ≤ 57 then 1 else if c = 61 then 2 else if c = 32 then 4 else if c ∈ [40, 41, 44, 43, 45, 42, 60] then 3 else 9
theorem kd_let {c : Nat} (h : 97 ≤ c ∧ c ≤ 122) : kdC c = 0 := by unfold kdC; rw [if_pos h]
theorem kd_dig {c : Nat} (h : 48 ≤ c ∧ c ≤ 57) : kdC c = 1 := by unfold kdC; rw [if_neg (by omega), if_pos h]
theorem pc_kinds {p : Pc} (h : POk p) : ∀ c ∈ cd (ptxt p), kdC c = pkd p := by
  intro c hc
  rcases p with _ | t
  · rw [show cd (ptxt none) = [32] from cd_bl] at hc
    rw [List.mem_singleton.mp hc]; decide
  · cases t with
    | lp => rw [show cd (ptxt (some .lp)) = [40] from cd_lp] at hc; rw [List.mem_singleton.mp hc]; decide
    | rp => rw [show cd (ptxt (some .rp)) = [41] from cd_rp] at hc; rw [List.mem_singleton.mp hc]; decide
    | sg g =>
      rw [show cd (ptxt (some (.sg g))) = _ from cd_sg g] at hc
      cases g with
      | eq => have : c = 61 := by simpa using hc
              rw [this]; decide
      | add => rw [List.mem_singleton.mp hc]; decide
      | sub => rw [List.mem_singleton.mp hc]; decide
      | mul => rw [List.mem_singleton.mp hc]; decide
      | lt => rw [List.mem_singleton.mp hc]; decide
    | num n =>
      rw [show cd (ptxt (some (.num n))) = _ from cd_num h.1] at hc
      exact kd_dig (num_dig _ c hc)
    | nam s => exact kd_let (h.2.2 c hc)
theorem pc_ne {p : Pc} (h : POk p) : cd (ptxt p) ≠ [] := by
  rcases p with _ | t
  · rw [show cd (ptxt none) = [32] from cd_bl]; intro h; cases h
  · cases t with
    | lp => rw [show cd (ptxt (some .lp)) = [40] from cd_lp]; intro h; cases h
    | rp => rw [show cd (ptxt (some .rp)) = [41] from cd_rp]; intro h; cases h
    | sg g => rw [show cd (ptxt (some (.sg g))) = _ from cd_sg g]; cases g <;> (intro h; cases h)
    | num n => rw [show cd (ptxt (some (.num n))) = _ from cd_num h.1]; exact numL_ne _
    | nam s => intro e; have := h.1; rw [show cd s = [] from e] at this; exact absurd this (by decide)
theorem kd_range (t : Tn) : 0 ≤ t.kd ∧ t.kd ≤ 3 := by
  cases t with
  | sg g => cases g <;> decide
  | lp => decide
  | rp => decide
  | num n => show (0 : Int) ≤ 1 ∧ (1 : Int) ≤ 3; decide
  | nam n => show (0 : Int) ≤ 0 ∧ (0 : Int) ≤ 3; decide
theorem pc_clean {p : Pc} (h : POk p) : (p ≠ some .lp → 40 ∉ cd (ptxt p)) ∧ (p ≠ some .rp → 41 ∉ cd (ptxt p)) := by
  rcases p with _ | t
  · rw [show cd (ptxt none) = [32] from cd_bl]; exact ⟨fun _ => by decide, fun _ => by decide⟩
  · cases t with
    | lp => rw [show cd (ptxt (some .lp)) = [40] from cd_lp]; exact ⟨fun h => absurd rfl h, fun _ => by decide⟩
    | rp => rw [show cd (ptxt (some .rp)) = [41] from cd_rp]; exact ⟨fun _ => by decide, fun h => absurd rfl h⟩
    | sg g => rw [show cd (ptxt (some (.sg g))) = _ from cd_sg g]; cases g <;> exact ⟨fun _ => by decide, fun _ => by decide⟩
    | num n =>
      rw [show cd (ptxt (some (.num n))) = _ from cd_num h.1]
      exact ⟨fun _ hc => by have := num_dig _ _ hc; omega, fun _ hc => by have := num_dig _ _ hc; omega⟩
    | nam s => exact ⟨fun _ hc => by have := h.2.2 _ hc; omega, fun _ hc => by have := h.2.2 _ hc; omega⟩
theorem pc_blank {t : Tn} (h : POk (some t)) : 32 ∉ cd t.txt := fun hc => by
  have := pc_kinds h 32 hc
  have h2 := kd_range t
  have e : kdC 32 = 4 := by decide
  rw [e] at this
  have e3 : pkd (some t) = t.kd := rfl
  omega
/-! ### sign by sign -/
def mrg (k : Int) (t : Str) (j : Int) : Prop := k = j ∧ (j < 2 ∨ j = 2 ∧ t.length = 1)
instance (k : Int) (t : Str) (j : Int) : Decidable (mrg k t j) := by unfold mrg; infer_instance
def addC (F : List (Int × Str)) (c : Nat) : List (Int × Str) := match F.getLast? with
  | some x => if mrg x.1 x.2 (kdC c) then F.dropLast ++ [(kdC c, x.2 ++ uno c)] else F ++ [(kdC c, uno c)]
  | none => F ++ [(kdC c, uno c)]
theorem add_on {F : List (Int × Str)} {k : Int} {t : Str} {c : Nat} (h : mrg k t (kdC c)) : addC (F ++ [(k, t)]) c = F ++ [(kdC c, t ++ uno c)] := by
  unfold addC
  rw [List.getLast?_concat]
  show (if mrg k t (kdC c) then _ else _) = _
  rw [if_pos h, List.dropLast_concat]
theorem add_new {F : List (Int × Str)} {c : Nat} (h : ∀ x, F.getLast? = some x → ¬ mrg x.1 x.2 (kdC c)) : addC F c = F ++ [(kdC c, uno c)] := by
  unfold addC
  cases e : F.getLast? with
  | none => rfl
  | some x => show (if mrg x.1 x.2 (kdC c) then _ else _) = _; rw [if_neg (h x e)]
theorem add_run {k : Int} (hk : k < 2) : ∀ (cs : List Nat) (F : List (Int × Str)) (t : Str), (∀ c ∈ cs, kdC c = k) → cs.foldl addC (F ++ [(k, t)]) = F ++ [(k, t ++ ⟨cs.toArray⟩)]
  | [], F, t, _ => by
    show F ++ [(k, t)] = _
    congr 3
  | c :: r, F, t, h => by
    have e := h c List.mem_cons_self
    show r.foldl addC (addC (F ++ [(k, t)]) c) = _
    rw [add_on (by rw [e]; exact ⟨rfl, .inl hk⟩), e, add_run hk r F _ fun x hx => h x (List.mem_cons_of_mem _ hx)]
    congr 3
    exact cd_inj (by
      rw [cd_app, cd_app, cd_app, cd_uno]
      show cd t ++ [c] ++ r = cd t ++ (c :: r)
      rw [List.append_assoc]; rfl)
theorem str_mk (s : Str) : (⟨(cd s).toArray⟩ : Str) = s := cd_inj (by show ((cd s).toArray).toList = _; rw [List.toList_toArray])
theorem add_piece {F : List (Int × Str)} {p : Pc} (hp : POk p) (hs : ∀ x, F.getLast? = some x → x.1 = pkd p → 3 ≤ pkd p) : (cd (ptxt p)).foldl addC F = F ++ [(pkd p, ptxt p)] := by
  have hk := pc_kinds hp
  have hn := pc_ne hp
  have fresh : ∀ c r, cd (ptxt p) = c :: r → addC F c = F ++ [(pkd p, uno c)] := by
    intro c r e
    have ec : kdC c = pkd p := hk c (by rw [e]; exact List.mem_cons_self)
    rw [add_new, ec]
    intro x hx hm
    rw [ec] at hm
    have h3 := hs x hx hm.1
    have := hm.2
    omega
  by_cases h2 : pkd p < 2
  · cases e : cd (ptxt p) with
    | nil => exact absurd e hn
    | cons c r =>
      show r.foldl addC (addC F c) = _
      rw [fresh c r e, add_run h2 r F _ fun x hx => hk x (by rw [e]; exact List.mem_cons_of_mem _ hx)]
      congr 3
      exact cd_inj (by rw [cd_app, cd_uno]; show [c] ++ r = _; rw [e]; rfl)
  · have single : ∀ c, cd (ptxt p) = [c] → (cd (ptxt p)).foldl addC F = F ++ [(pkd p, ptxt p)] := by
      intro c e
      rw [e]
      show addC F c = _
      rw [fresh c [] e, show uno c = ptxt p from cd_inj (by rw [cd_uno, e])]
    rcases p with _ | t
    · exact single 32 cd_bl
    · cases t with
      | lp => exact single 40 cd_lp
      | rp => exact single 41 cd_rp
      | num n => exact absurd (show (1 : Int) < 2 by decide) h2
      | nam n => exact absurd (show (0 : Int) < 2 by decide) h2
      | sg g =>
        cases g with
        | add => exact single 43 (cd_sg .add)
        | sub => exact single 45 (cd_sg .sub)
        | mul => exact single 42 (cd_sg .mul)
        | lt => exact single 60 (cd_sg .lt)
        | eq =>
          have e : cd (ptxt (some (.sg .eq))) = [61, 61] := cd_sg .eq
          rw [e]
          show addC (addC F 61) 61 = _
          rw [fresh 61 [61] e, add_on ⟨by decide, .inr ⟨by decide, rfl⟩⟩]
          show F ++ [(kdC 61, uno 61 ++ uno 61)] = F ++ [(2, _)]
          rw [show kdC 61 = 2 by decide, show uno 61 ++ uno 61 = ptxt (some (.sg .eq)) from cd_inj (by rw [e, cd_app]; rfl)]
def Lse : Bool → List Pc → Prop
  | _, [] => True
  | b, p :: r => if pkd p = 4 then Lse false r else if pkd p = 3 then Lse b r else b = false ∧ Lse true r
theorem fold_pcs : ∀ (ps : List Pc) (F : List (Int × Str)) (b : Bool), Lse b ps → (∀ p ∈ ps, POk p) → (b = false → ∀ x, F.getLast? = some x → 3 ≤ x.1) → (flat ps).foldl addC F = F ++ ps.map fun p => (pkd p, ptxt p)
  | [], F, b, _, _, _ => by show F = F ++ []; rw [List.append_nil]
  | p :: r, F, b, h, ho, hb => by
    rw [flat_cons, List.foldl_append]
    have h' : (if pkd p = 4 then Lse false r else if pkd p = 3 then Lse b r else b = false ∧ Lse true r) := h
    have op := ho p List.mem_cons_self
    have or' : ∀ p ∈ r, POk p := fun q hq => ho q (List.mem_cons_of_mem _ hq)
    have fin : ∀ b', Lse b' r → (3 ≤ pkd p ∨ b' = true) → (∀ x, F.getLast? = some x → x.1 = pkd p → 3 ≤ pkd p) → (flat r).foldl addC ((cd (ptxt p)).foldl addC F) = F ++ (p :: r).map fun p => (pkd p, ptxt p) := by
      intro b' hl hb' hs
      rw [add_piece op hs, fold_pcs r _ b' hl or' ?_, List.append_assoc]
      · rfl
      · intro e x hx
        rw [List.getLast?_concat] at hx
        cases hx
        rcases hb' with q | q
        · exact q
        · rw [q] at e; cases e
    by_cases k4 : pkd p = 4
    · rw [if_pos k4] at h'
      exact fin false h' (.inl (by omega)) fun _ _ _ => by omega
    · rw [if_neg k4] at h'
      by_cases k3 : pkd p = 3
      · rw [if_pos k3] at h'
        exact fin b h' (.inl (by omega)) fun _ _ _ => by omega
      · rw [if_neg k3] at h'
        obtain ⟨hb0, h1⟩ := h'
        refine fin true h1 (.inr rfl) fun x hx e => ?_
        have := hb hb0 x hx
        omega
theorem Lse_br (b : Bool) {ps rest : List Pc} (h : ∀ rest, Lse true rest → Lse false (ps ++ rest)) (hr : Lse true rest) : Lse false (brP b ps ++ rest) := by
  cases b with
  | false => exact h rest hr
  | true =>
    show Lse false (some Tn.lp :: ((ps ++ [some Tn.rp]) ++ rest))
    rw [List.append_assoc]
    exact h (some Tn.rp :: rest) hr
theorem Ex.lse : ∀ (e : Ex) (rest : List Pc), Lse true rest → Lse false (e.pcs ++ rest)
  | .num n, rest, h => ⟨rfl, h⟩
  | .nam n, rest, h => ⟨rfl, h⟩
  | .op g l r, rest, h => by
    show Lse false ((brP (lB g l) l.pcs ++ none :: some (.sg g) :: none :: brP (rB g r) r.pcs) ++ rest)
    rw [List.append_assoc]
    refine Lse_br _ (fun rest => Ex.lse l rest) ?_
    have q : Lse false (brP (rB g r) r.pcs ++ rest) := Lse_br _ (fun rest => Ex.lse r rest) h
    cases g with
    | eq => exact ⟨rfl, q⟩
    | _ => exact q
theorem Lse_cut {x : Pc} (hx : pkd x = 3) : ∀ (P : List Pc) (b : Bool) (Q : List Pc), Lse b (P ++ x :: Q) → Lse b (P ++ Q)
  | [], b, Q, h => by
    have h' : (if pkd x = 4 then Lse false Q else if pkd x = 3 then Lse b Q else _) := h
    rw [if_neg (by omega), if_pos hx] at h'
    exact h'
  | p :: P, b, Q, h => by
    have h' : (if pkd p = 4 then Lse false (P ++ x :: Q) else if pkd p = 3 then Lse b (P ++ x :: Q) else b = false ∧ Lse true (P ++ x :: Q)) := h
    show (if pkd p = 4 then Lse false (P ++ Q) else if pkd p = 3 then Lse b (P ++ Q) else b = false ∧ Lse true (P ++ Q))
    by_cases k4 : pkd p = 4
    · rw [if_pos k4] at h' ⊢; exact Lse_cut hx P _ Q h'
    · rw [if_neg k4] at h' ⊢
      by_cases k3 : pkd p = 3
      · rw [if_pos k3] at h' ⊢; exact Lse_cut hx P _ Q h'
      · rw [if_neg k3] at h' ⊢; exact ⟨h'.1, Lse_cut hx P _ Q h'.2⟩
/-! ### where a bracket stands -/
theorem past {c : Nat} : ∀ {X Y A B : List Nat}, c ∉ X → X ++ Y = A ++ c :: B → ∃ A', A = X ++ A' ∧ Y = A' ++ c :: B
  | [], Y, A, B, _, h => ⟨A, rfl, h⟩
  | x :: X, Y, [], B, hx, h => absurd (by rw [(List.cons.inj h).1]; exact List.mem_cons_self) hx
  | x :: X, Y, a :: A, B, hx, h => by
    obtain ⟨h1, h2⟩ := List.cons.inj h
    obtain ⟨A', e1, e2⟩ := past (fun q => hx (List.mem_cons_of_mem _ q)) h2
    exact ⟨A', by rw [e1, h1]; rfl, e2⟩
theorem find_pc {c : Nat} {t : Pc} (ht : cd (ptxt t) = [c]) (hc : ∀ p, POk p → p ≠ t → c ∉ cd (ptxt p)) : ∀ (ps : List Pc) (A B : List Nat), (∀ p ∈ ps, POk p) → flat ps = A ++ c :: B → ∃ P Q, ps = P ++ t :: Q ∧ flat P = A ∧ flat Q = B
  | [], A, B, _, h => by
    have h' : [] = A ++ c :: B := h
    cases A <;> cases h'
  | p :: r, A, B, ho, h => by
    rw [flat_cons] at h
    have or' : ∀ p ∈ r, POk p := fun q hq => ho q (List.mem_cons_of_mem _ hq)
    by_cases e : p = t
    · subst e
      rw [ht] at h
      cases A with
      | nil => exact ⟨[], r, rfl, rfl, (List.cons.inj h).2⟩
      | cons a A' =>
        obtain ⟨h1, h2⟩ := List.cons.inj h
        obtain ⟨P, Q, e1, e2, e3⟩ := find_pc ht hc r A' B or' h2
        exact ⟨p :: P, Q, by rw [e1]; rfl, by rw [flat_cons, ht, e2, h1]; rfl, e3⟩
    · obtain ⟨A', e1, e2⟩ := past (hc p (ho p List.mem_cons_self) e) h
      obtain ⟨P, Q, e3, e4, e5⟩ := find_pc ht hc r A' B or' e2
      exact ⟨p :: P, Q, by rw [e3]; rfl, by rw [flat_cons, e4, e1], e5⟩
theorem less_pcs {ps : List Pc} {A M B : List Nat} (ho : ∀ p ∈ ps, POk p) (hl : Lse false ps) (h : flat ps = A ++ 40 :: (M ++ 41 :: B)) :
    ∃ qs, flat qs = A ++ (M ++ B) ∧ (∀ p ∈ qs, POk p) ∧ Lse false qs ∧ lps (toks qs) + 1 = lps (toks ps) ∧ ∀ p ∈ qs, p ∈ ps := by
  obtain ⟨P, Q, e1, e2, e3⟩ := find_pc (t := some .lp) cd_lp (fun p hp => (pc_clean hp).1) ps A _ ho h
  subst e1
  have oQ : ∀ p ∈ Q, POk p := fun q hq => ho q (List.mem_append_right _ (List.mem_cons_of_mem _ hq))
  obtain ⟨R, S, f1, f2, f3⟩ := find_pc (t := some .rp) cd_rp (fun p hp => (pc_clean hp).2) Q M B oQ e3
  subst f1
  refine ⟨P ++ (R ++ S), by rw [flat_app, flat_app, e2, f2, f3], fun p hp => ?_, ?_, ?_, fun p hp => ?_⟩
  · rcases List.mem_append.mp hp with q | q
    · exact ho p (List.mem_append_left _ q)
    · rcases List.mem_append.mp q with q | q
      · exact oQ p (List.mem_append_left _ q)
      · exact oQ p (List.mem_append_right _ (List.mem_cons_of_mem _ q))
  · have h1 := Lse_cut (x := some .lp) rfl P false (R ++ some .rp :: S) hl
    rw [← List.append_assoc] at h1
    have h2 := Lse_cut (x := some .rp) rfl (P ++ R) false S h1
    rw [List.append_assoc] at h2
    exact h2
  · have c1 : ∀ X : List Pc, lps (toks (some Tn.lp :: X)) = 1 + lps (toks X) := fun X => by
      show lps ([Tn.lp] ++ toks X) = _
      rw [lps_app]; rfl
    have c2 : ∀ X : List Pc, lps (toks (some Tn.rp :: X)) = lps (toks X) := fun X => rfl
    rw [toks_app, toks_app, lps_app, lps_app, toks_app, lps_app, c1, toks_app, lps_app, c2]
    omega
  · rcases List.mem_append.mp hp with q | q
    · exact List.mem_append_left _ q
    · refine List.mem_append_right _ (List.mem_cons_of_mem _ ?_)
      rcases List.mem_append.mp q with q | q
      · exact List.mem_append_left _ q
      · exact List.mem_append_right _ (List.mem_cons_of_mem _ q)
/-! ### brackets stand in pairs -/
def bal (cs : List Nat) : Prop := (∀ n, (cs.take n).count 41 ≤ (cs.take n).count 40) ∧ cs.count 41 = cs.count 40
theorem bal_app {a b : List Nat} (ha : bal a) (hb : bal b) : bal (a ++ b) := by
  refine ⟨fun n => ?_, ?_⟩
  · rw [List.take_append, List.count_append, List.count_append]
    have := ha.1 n
    have := hb.1 (n - a.length)
    omega
  · rw [List.count_append, List.count_append, ha.2, hb.2]
theorem bal_clean {a : List Nat} (h1 : 40 ∉ a) (h2 : 41 ∉ a) : bal a := by
  refine ⟨fun n => ?_, ?_⟩
  · rw [List.count_eq_zero.mpr fun h => h2 (List.mem_of_mem_take h)]; exact Nat.zero_le _
  · rw [List.count_eq_zero.mpr h1, List.count_eq_zero.mpr h2]
theorem bal_wrap {a : List Nat} (h : bal a) : bal (40 :: (a ++ [41])) := by
  refine ⟨fun n => ?_, ?_⟩
  · cases n with
    | zero => exact Nat.le_refl _
    | succ n =>
      rw [List.take_succ_cons, List.count_cons, List.count_cons, List.take_append, List.count_append, List.count_append]
      have h1 := h.1 n
      have h2 : (List.take (n - a.length) [41]).count 41 ≤ 1 := Nat.le_trans List.count_le_length (by rw [List.length_take]; exact Nat.min_le_right _ _)
      simp only [beq_self_eq_true, if_true, show ((40 : Nat) == 41) = false from rfl, Bool.false_eq_true, if_false]
      omega
  · rw [List.count_cons, List.count_cons, List.count_append, List.count_append, h.2]
    simp
theorem br_bal (b : Bool) {t : Str} (h : bal (cd t)) : bal (cd (br b t)) := by
  cases b with
  | false => exact h
  | true =>
    show bal (cd (("(" : Str) ++ t ++ (")" : Str)))
    rw [cd_app, cd_app, cd_lp, cd_rp]
    show bal (40 :: (cd t ++ [41]))
    exact bal_wrap h
/-- its names and numbers are in order -/
def Ex.pfit : Ex → Prop
  | .num n => POk (some (.num n))
  | .nam s => POk (some (.nam s))
  | .op _ l r => l.pfit ∧ r.pfit
theorem Ex.bal : ∀ e : Ex, e.pfit → SH.bal (cd e.txt)
  | .num n, h => bal_clean ((pc_clean (p := some (.num n)) h).1 (by intro h; cases h)) ((pc_clean (p := some (.num n)) h).2 (by intro h; cases h))
  | .nam n, h => bal_clean ((pc_clean (p := some (.nam n)) h).1 (by intro h; cases h)) ((pc_clean (p := some (.nam n)) h).2 (by intro h; cases h))
  | .op g l r, h => by
    show SH.bal (cd (br (lB g l) l.txt ++ (" " : Str) ++ g.txt ++ (" " : Str) ++ br (rB g r) r.txt))
    rw [cd_app, cd_app, cd_app, cd_app]
    have b1 : SH.bal (cd (" " : Str)) := by rw [cd_bl]; exact bal_clean (by decide) (by decide)
    have b2 : SH.bal (cd g.txt) := bal_clean ((pc_clean (p := some (.sg g)) trivial).1 (by intro h; cases h)) ((pc_clean (p := some (.sg g)) trivial).2 (by intro h; cases h))
    exact bal_app (bal_app (bal_app (bal_app (br_bal _ (Ex.bal l h.1)) b1) b2) b1) (br_bal _ (Ex.bal r h.2))
theorem br_ok (b : Bool) {ps : List Pc} (h : ∀ p ∈ ps, POk p) : ∀ p ∈ brP b ps, POk p := by
  cases b with
  | false => exact h
  | true =>
    intro p hp
    rcases List.mem_cons.mp (show p ∈ some Tn.lp :: (ps ++ [some Tn.rp]) from hp) with rfl | q
    · trivial
    · rcases List.mem_append.mp q with q | q
      · exact h p q
      · rw [List.mem_singleton.mp q]; trivial
theorem Ex.pok : ∀ e : Ex, e.pfit → ∀ p ∈ e.pcs, POk p
  | .num n, h, p, hp => by rw [List.mem_singleton.mp hp]; exact h
  | .nam n, h, p, hp => by rw [List.mem_singleton.mp hp]; exact h
  | .op g l r, h, p, hp => by
    rcases List.mem_append.mp (show p ∈ brP (lB g l) l.pcs ++ none :: some (.sg g) :: none :: brP (rB g r) r.pcs from hp) with q | q
    · exact br_ok _ (Ex.pok l h.1) p q
    · rcases List.mem_cons.mp q with rfl | q
      · trivial
      · rcases List.mem_cons.mp q with rfl | q
        · trivial
        · rcases List.mem_cons.mp q with rfl | q
          · trivial
          · exact br_ok _ (Ex.pok r h.2) p q
theorem pc_chk {p : Pc} (h : POk p) : (pkd p = 0 → (ptxt p).length ≤ 8) ∧ (pkd p = 1 → (ptxt p).length ≤ 30 ∧ ∃ d r, cd (ptxt p) = d :: r ∧ (d = 48 → r = [])) := by
  rcases p with _ | t
  · exact ⟨fun h => absurd h (by decide), fun h => absurd h (by decide)⟩
  · cases t with
    | lp => exact ⟨fun h => absurd h (by decide), fun h => absurd h (by decide)⟩
    | rp => exact ⟨fun h => absurd h (by decide), fun h => absurd h (by decide)⟩
    | sg g => cases g <;> exact ⟨fun h => absurd h (by decide), fun h => absurd h (by decide)⟩
    | num n =>
      have e : cd (ptxt (some (.num n))) = _ := cd_num h.1
      refine ⟨fun h => absurd (show (1 : Int) = 0 from h) (by decide), fun _ => ⟨?_, ?_⟩⟩
      · rw [← cd_len, e]; exact num_len h.1 h.2
      · rw [e]
        cases hd : numL n.toNat with
        | nil => exact absurd hd (numL_ne _)
        | cons d r =>
          refine ⟨d, r, rfl, fun e48 => ?_⟩
          subst e48
          by_cases hp : 0 < n.toNat
          · exact absurd hd (numL_head _ hp r)
          · rw [show n.toNat = 0 by omega, numL_lt (by decide)] at hd
            exact (List.cons.inj hd).2.symm
    | nam s =>
      refine ⟨fun _ => ?_, fun h => absurd (show (0 : Int) = 1 from h) (by decide)⟩
      rw [← cd_len]; exact h.2.1
end SH

set_option Elab.async false
set_option linter.all false
set_option maxRecDepth 100000
namespace SH
open PySem L2
abbrev sKind : Stmt := topS 55
theorem scKind : FnScope ["_law_sign_here"] ["_law_sign_here"] (defScope sKind) := ⟨rfl, rfl, rfl, by decide +kernel, rfl, by decide +kernel, by decide +kernel⟩
/-- the kind of a sign -/
def spKind : Sp := fun vs H Q _ => ∃ c, vs = [.str (uno c)] ∧ ∀ H', Same H H' → Q (.int (kdC c)) H'
theorem lets_are (c : Nat) : c ∈ ("abcdefghijklmnopqrstuvwxyz" : Str).cps.toList ↔ 97 ≤ c ∧ c ≤ 122 := by
  have e : ("abcdefghijklmnopqrstuvwxyz" : Str).cps.toList = (List.range 26).map (97 + ·) := by decide +kernel
  rw [e, List.mem_map]
  constructor
  · rintro ⟨a, ha, rfl⟩
    have := List.mem_range.mp ha
    omega
  · intro h
    exact ⟨c - 97, List.mem_range.mpr (by omega), by omega⟩
theorem digs_are (c : Nat) : c ∈ ("0123456789" : Str).cps.toList ↔ 48 ≤ c ∧ c ≤ 57 := by
  have e : ("0123456789" : Str).cps.toList = (List.range 10).map (48 + ·) := by decide +kernel
  rw [e, List.mem_map]
  constructor
  · rintro ⟨a, ha, rfl⟩
    have := List.mem_range.mp ha
    omega
  · intro h
    exact ⟨c - 48, List.mem_range.mpr (by omega), by omega⟩
theorem marks_are : ("(),+-*<" : Str).cps.toList = [40, 41, 44, 43, 45, 42, 60] := by decide +kernel
def kdD : List (Key × V) := [(.inr "=", .int 2), (.inr " ", .int 4)]
section
variable {P : Program} {w : World} {K : PySem.W.Frag} {mg : Str → Option Value} {base : Heap}
theorem ok_kind {f : Addr} {fd : FuncData} (F : Fun K "_law_kind" "_law_kind" sKind f fd) (T : Bi mg) : FnOk P w K mg base CX0 1 f fd ["_law_sign_here"] spKind := by
  refine F.ok scKind (fun vs H Q E h => ?_) (fun cdv A outer s H vs Q E hr h => ?_)
  · obtain ⟨c, rfl, _⟩ := h
    rfl
  obtain ⟨c, rfl, q⟩ := h
  refine ⟨_, (pss_cons (ps_if (pt_cmpR op_in_sign (pv 0) pe_str rfl)
      (pss_one (ps_ret pe_int))
      pss_nil)
    (pss_cons (ps_if (pt_cmpR op_in_sign (pv 0) pe_str rfl)
      (pss_one (ps_ret pe_int))
      pss_nil)
    (pss_one (ps_ret (pe_dget2 (hu_of hr) (pe_disp (pps_cons pe_str pe_int (pps_cons pe_str pe_int pps_nil)) (by rfl) (by rfl) (fun z => by cases z) (by decide)) (pv 0) (pe_ix ix_list (pe_lst (pa_cons pe_int (pa_cons pe_int pa_nil))) (pe_callTy call_int1 (by rfl) T.int (by decide +kernel) (pa_cons (pe_cmpR op_in_sign (pv 0) pe_str rfl) pa_nil)) (fun _ _ => rfl)) ⟨rfl, rfl, rfl, rfl⟩))))), ?_⟩
  refine ⟨_, rfl, c, _, rfl, rfl, _, rfl, ?_⟩
  refine ite2 (fun h => ?_) (fun h => ?_)
  · have h0 : c ∈ ("abcdefghijklmnopqrstuvwxyz" : Str).cps.toList := of_decide_eq_true h
    have h1 := (lets_are c).mp h0
    have := q H (Same.refl _)
    rw [show kdC c = 0 from kd_let h1] at this
    exact this
  have n1 : ¬ (97 ≤ c ∧ c ≤ 122) := fun h1 => h (decide_eq_true (show c ∈ ("abcdefghijklmnopqrstuvwxyz" : Str).cps.toList from (lets_are c).mpr h1))
  refine ⟨_, rfl, c, _, rfl, rfl, _, rfl, ?_⟩
  refine ite2 (fun h => ?_) (fun h => ?_)
  · have h0 : c ∈ ("0123456789" : Str).cps.toList := of_decide_eq_true h
    have h1 := (digs_are c).mp h0
    have := q H (Same.refl _)
    rw [show kdC c = 1 from kd_dig h1] at this
    exact this
  have n2 : ¬ (48 ≤ c ∧ c ≤ 57) := fun h1 => h (decide_eq_true (show c ∈ ("0123456789" : Str).cps.toList from (digs_are c).mpr h1))
  refine fun d hd => ⟨upd_same, kdD, rfl, by decide, ?_⟩
  have e1 : upd (upd H d (.dK [])) d (.dK (mergeK [] kdD)) = upd H d (.dK (mergeK [] kdD)) := upd_upd
  rw [e1]
  have s1 := same_new hd (.dK (mergeK [] kdD))
  have hd1 : (upd H d (.dK (mergeK [] kdD))) d = some (.dK (mergeK [] kdD)) := upd_same
  generalize upd H d (.dK (mergeK [] kdD)) = H1 at s1 hd1
  refine ⟨d, rfl, .inl ⟨_, .inl hd1⟩, _, rfl, (by show 2 ≤ sizeLine; decide), fun l hl => ?_⟩
  have s2 := same_new hl (.lst [.int 9, .int 3])
  refine ⟨_, rfl, c, _, rfl, rfl, .inr ⟨_, rfl, ?_⟩⟩
  rw [marks_are]
  have hd2 := s2 _ _ hd1
  have fin : ∀ (i : Int) (v : Int), atI [V.int 9, .int 3] i = some (.int v) → v = (if c ∈ [40, 41, 44, 43, 45, 42, 60] then 3 else 9) → rIxL K (.ref l) (.int i) (upd H1 l (.lst [.int 9, .int 3])) fun z H3 => ∃ o, DGet H3 d (.str (uno c)) o ∧ Q (o.getD z) H3 := by
    intro i v ei ev
    refine ⟨l, _, _, _, rfl, rfl, SqL.of upd_same, ei, _, DGet.k (k := Sum.inr (uno c)) hd2, ?_⟩
    have := q _ (s1.trans s2)
    unfold kdC at this
    rw [if_neg n1, if_neg n2] at this
    by_cases c1 : c = 61
    · subst c1
      exact this
    · rw [if_neg c1] at this
      by_cases c2 : c = 32
      · subst c2
        exact this
      · rw [if_neg c2, ← ev] at this
        have e : valV (mergeK [] kdD) (Sum.inr (uno c)) = none := by
          have h1 : (uno 61) ≠ uno c := fun h => c1 (by have := congrArg cd h; exact ((List.cons.inj this).1).symm)
          have h2 : (uno 32) ≠ uno c := fun h => c2 (by have := congrArg cd h; exact ((List.cons.inj this).1).symm)
          rw [show mergeK [] kdD = kdD by decide +kernel]
          show (kdD.find? fun kv => decide (kv.1 = Sum.inr (uno c))).map _ = none
          have f1 : decide ((Sum.inr ("=" : Str) : Key) = Sum.inr (uno c)) = false := decide_eq_false fun h => h1 (Sum.inr.inj h)
          have f2 : decide ((Sum.inr (" " : Str) : Key) = Sum.inr (uno c)) = false := decide_eq_false fun h => h2 (Sum.inr.inj h)
          unfold kdD
          have f3 : decide (("=" : Str) = uno c) = false := decide_eq_false h1
          have f4 : decide ((" " : Str) = uno c) = false := decide_eq_false h2
          simp [List.find?, f3, f4]
        rw [e]
        exact this
  by_cases hm : c ∈ [40, 41, 44, 43, 45, 42, 60]
  · rw [decide_eq_true hm]
    exact fin 1 3 rfl (by rw [if_pos hm])
  · rw [decide_eq_false hm]
    exact fin 0 9 rfl (by rw [if_neg hm])
end
end SH

set_option Elab.async false
set_option linter.all false
set_option maxRecDepth 100000
/-! Expressions read by descent: mathematics. -/
namespace SH
open PySem L2
def leafT : Ex → Option Tn
  | .num n => some (.num n)
  | .nam s => some (.nam s)
  | .op _ _ _ => none
def cap (g : Sg) : Int := if g.lv < 2 then 2 else g.lv
/-- these parts are read as that tree, at that level, with so many brackets within one another at most -/
inductive Pr : Nat → Int → Ex → List Tn → Prop
  | leaf {k : Nat} {e : Ex} {t : Tn} : leafT e = some t → Pr k 4 e [t]
  | brk {k : Nat} {e : Ex} {ts : List Tn} : Pr k 1 e ts → Pr (k + 1) 4 e (Tn.lp :: (ts ++ [Tn.rp]))
  | up {k : Nat} {L : Int} {e : Ex} {ts : List Tn} : 1 ≤ L → L ≤ 3 → Pr k (L + 1) e ts → Pr k L e ts
  | op {k : Nat} {g : Sg} {l r : Ex} {tl tr : List Tn} : Pr k (cap g) l tl → Pr k (g.lv + 1) r tr → Pr k g.lv (.op g l r) (tl ++ Tn.sg g :: tr)
theorem Pr.mono {k : Nat} {L : Int} {e : Ex} {ts : List Tn} (h : Pr k L e ts) : ∀ {m : Nat}, k ≤ m → Pr m L e ts := by
  induction h with
  | leaf h => intro m _; exact .leaf h
  | brk _ ih => intro m hm; cases m with
    | zero => omega
    | succ m => exact .brk (ih (by omega))
  | up h1 h2 _ ih => intro m hm; exact .up h1 h2 (ih hm)
  | op _ _ i1 i2 => intro m hm; exact .op (i1 hm) (i2 hm)
theorem Pr.low {k : Nat} {e : Ex} {ts : List Tn} : ∀ (n : Nat) {L : Int}, Pr k (L + n) e ts → 1 ≤ L → L + n ≤ 4 → Pr k L e ts
  | 0, L, h, _, _ => by rwa [show L + ((0 : Nat) : Int) = L by omega] at h
  | n + 1, L, h, h1, h2 => by
    refine .up h1 (by omega) (Pr.low n ?_ (by omega) (by omega))
    rwa [show L + 1 + ((n : Nat) : Int) = L + ((n + 1 : Nat) : Int) by omega]
theorem Pr.to {k : Nat} {e : Ex} {ts : List Tn} {L M : Int} (h : Pr k M e ts) (h1 : 1 ≤ L) (h2 : L ≤ M) (h3 : M ≤ 4) : Pr k L e ts :=
  Pr.low (M - L).toNat (by rwa [show L + (((M - L).toNat : Nat) : Int) = M by omega]) h1 (by omega)
/-- signs of one level, from the left -/
def fl (e0 : Ex) (l : List (Sg × Ex × List Tn)) : Ex := l.foldl (fun a x => .op x.1 a x.2.1) e0
def sgm (l : List (Sg × Ex × List Tn)) : List Tn := (l.map fun x => Tn.sg x.1 :: x.2.2).flatten
theorem fl_snoc (e0 : Ex) (l : List (Sg × Ex × List Tn)) (x : Sg × Ex × List Tn) : fl e0 (l ++ [x]) = .op x.1 (fl e0 l) x.2.1 := by unfold fl; rw [List.foldl_append]; rfl
theorem sgm_snoc (l : List (Sg × Ex × List Tn)) (x : Sg × Ex × List Tn) : sgm (l ++ [x]) = sgm l ++ Tn.sg x.1 :: x.2.2 := by
  unfold sgm
  rw [List.map_append, List.flatten_append]
  show _ ++ (Tn.sg x.1 :: x.2.2 ++ []) = _
  rw [List.append_nil]
structure Chn (k : Nat) (L : Int) (e : Ex) (ts : List Tn) (e0 : Ex) (t0 : List Tn) (l : List (Sg × Ex × List Tn)) : Prop where
  first : Pr k (L + 1) e0 t0
  each : ∀ x ∈ l, x.1.lv = L ∧ Pr k (L + 1) x.2.1 x.2.2
  tree : e = fl e0 l
  text : ts = t0 ++ sgm l
theorem Pr.chain {k : Nat} {L : Int} {e : Ex} {ts : List Tn} (h : Pr k L e ts) (hL : L = 2 ∨ L = 3) : ∃ e0 t0 l, Chn k L e ts e0 t0 l := by
  induction h with
  | leaf _ => omega
  | brk _ _ => omega
  | @up k L e ts h1 h2 h _ => exact ⟨e, ts, [], h, (fun x hx => by cases hx), rfl, by show ts = ts ++ []; rw [List.append_nil]⟩
  | @op k g l r tl tr h1 h2 i1 _ =>
    have hc : cap g = g.lv := by unfold cap; rw [if_neg (by omega)]
    rw [hc] at h1
    obtain ⟨e0, t0, lx, c⟩ := i1 (by rw [hc]; exact hL)
    rw [hc] at c
    refine ⟨e0, t0, lx ++ [(g, r, tr)], c.first, fun x hx => ?_, ?_, ?_⟩
    · rcases List.mem_append.mp hx with hx | hx
      · exact c.each x hx
      · rw [List.mem_singleton.mp hx]; exact ⟨rfl, h2⟩
    · rw [fl_snoc, ← c.tree]
    · rw [sgm_snoc, c.text, List.append_assoc]
theorem Pr.one {k : Nat} {L : Int} {e : Ex} {ts : List Tn} (h : Pr k L e ts) (hL : L = 1) : Pr k 2 e ts ∨ ∃ g l r tl tr, g.lv = 1 ∧ e = .op g l r ∧ ts = tl ++ Tn.sg g :: tr ∧ Pr k 2 l tl ∧ Pr k 2 r tr := by
  cases h with
  | leaf _ => omega
  | brk _ => omega
  | up h1 h2 h => subst hL; exact .inl h
  | @op _ g l r tl tr h1 h2 =>
    rw [hL] at h2
    have hc : cap g = 2 := by unfold cap; rw [if_pos (by omega)]
    rw [hc] at h1
    exact .inr ⟨g, l, r, tl, tr, hL, rfl, rfl, h1, h2⟩
theorem Pr.four {k : Nat} {L : Int} {e : Ex} {ts : List Tn} (h : Pr k L e ts) (hL : L = 4) : (∃ t, leafT e = some t ∧ ts = [t]) ∨ ∃ j us, k = j + 1 ∧ ts = Tn.lp :: (us ++ [Tn.rp]) ∧ Pr j 1 e us := by
  cases h with
  | leaf h => exact .inl ⟨_, h, rfl⟩
  | brk h => exact .inr ⟨_, _, rfl, rfl, h⟩
  | up h1 h2 _ => omega
  | @op _ g _ _ _ _ _ _ => have := g.lv_pos; omega
theorem Pr.ne {k : Nat} {L : Int} {e : Ex} {ts : List Tn} (h : Pr k L e ts) : 1 ≤ ts.length := by
  induction h with
  | leaf _ => exact Nat.le_refl 1
  | brk _ _ => rw [List.length_cons]; omega
  | up _ _ _ ih => exact ih
  | op _ _ _ _ => rw [List.length_append, List.length_cons]; omega
/-- what follows is no sign that binds so much -/
def nx (L : Int) (rest : List Tn) : Prop := ∀ g r, rest = Tn.sg g :: r → g.lv < L
theorem nx.up {L M : Int} {rest : List Tn} (h : nx L rest) (hm : L ≤ M) : nx M rest := fun g r e => by have := h g r e; omega
theorem nx_sg {L : Int} {g : Sg} {r : List Tn} (h : g.lv < L) : nx L (Tn.sg g :: r) := fun k r' e => by
  have := Tn.sg.inj (List.cons.inj e).1
  rw [← this]; exact h
theorem nx_rp {L : Int} {r : List Tn} : nx L (Tn.rp :: r) := fun k r' e => by cases e
theorem nx_nil {L : Int} : nx L [] := fun k r' e => by cases e
/-- no two parts of one kind run together -/
def Ajs : List Pc → Prop
  | [] => True
  | [_] => True
  | p :: q :: r => ¬ (pkd p = pkd q ∧ pkd p < 3) ∧ Ajs (q :: r)
theorem Ajs.tl : ∀ {ps : List Pc} {p : Pc}, Ajs (p :: ps) → Ajs ps
  | [], _, _ => trivial
  | _ :: _, _, h => h.2
theorem Ajs.snoc : ∀ {ps : List Pc} {p : Pc}, Ajs ps → (∀ q, ps.getLast? = some q → ¬ (pkd q = pkd p ∧ pkd q < 3)) → Ajs (ps ++ [p])
  | [], _, _, _ => trivial
  | [a], p, _, h => ⟨h a rfl, trivial⟩
  | a :: b :: r, p, h, k => ⟨h.1, Ajs.snoc (ps := b :: r) h.2 fun q hq => k q (by rw [List.getLast?_cons_cons]; exact hq)⟩
theorem Ajs.drop : ∀ (n : Nat) {ps : List Pc}, Ajs ps → Ajs (ps.drop n)
  | 0, _, h => h
  | n + 1, [], _ => trivial
  | n + 1, _ :: _, h => Ajs.drop n h.tl
theorem flat_ne : ∀ {ps : List Pc}, (∀ p ∈ ps, POk p) → ps.length ≤ (flat ps).length
  | [], _ => Nat.le_refl _
  | p :: r, h => by
    have h1 := flat_ne (ps := r) fun p hp => h p (List.mem_cons_of_mem _ hp)
    have h2 := List.length_pos_iff.mpr (pc_ne (h p List.mem_cons_self))
    rw [flat_cons, List.length_append, List.length_cons]
    omega
end SH
namespace SH
open PySem L2
theorem sgm_cons (x : Sg × Ex × List Tn) (l : List (Sg × Ex × List Tn)) : sgm (x :: l) = Tn.sg x.1 :: (x.2.2 ++ sgm l) := rfl
theorem sgm_app (a b : List (Sg × Ex × List Tn)) : sgm (a ++ b) = sgm a ++ sgm b := by unfold sgm; rw [List.map_append, List.flatten_append]
/-- the next part's text -/
def pk (rest : List Tn) : Str := match rest with
  | [] => Str.empty
  | t :: _ => t.txt
theorem sg_of_txt {t : Tn} {g : Sg} (h : POk (some t)) (e : t.txt = g.txt) : t = .sg g := by
  have k := pc_kinds h
  cases t with
  | sg k' =>
    have := congrArg cd e
    rw [show cd (Tn.sg k').txt = _ from cd_sg k', cd_sg] at this
    cases k' <;> cases g <;> first | rfl | cases this
  | lp =>
    have := congrArg cd e
    rw [show cd (Tn.lp).txt = [40] from cd_lp, cd_sg] at this
    cases g <;> cases this
  | rp =>
    have := congrArg cd e
    rw [show cd (Tn.rp).txt = [41] from cd_rp, cd_sg] at this
    cases g <;> cases this
  | num n =>
    exfalso
    have h2 : ∃ c ∈ cd g.txt, kdC c ≠ 1 := by rw [cd_sg]; cases g <;> decide
    obtain ⟨c, hc, hn⟩ := h2
    exact hn (k c (by show c ∈ cd (Tn.num n).txt; rw [e]; exact hc))
  | nam n =>
    exfalso
    have h2 : ∃ c ∈ cd g.txt, kdC c ≠ 0 := by rw [cd_sg]; cases g <;> decide
    obtain ⟨c, hc, hn⟩ := h2
    exact hn (k c (by show c ∈ cd (Tn.nam n).txt; rw [e]; exact hc))
/-- none of these signs comes -/
theorem pk_nx {L : Int} {rest : List Tn} (ho : ∀ t ∈ rest, POk (some t)) (h : nx L rest) (g : Sg) (hg : L ≤ g.lv) : pk rest ≠ g.txt := by
  cases rest with
  | nil =>
    intro e
    have := congrArg cd e
    rw [cd_sg] at this
    cases g <;> cases this
  | cons t r =>
    intro e
    have := sg_of_txt (ho t List.mem_cons_self) (show t.txt = g.txt from e)
    have := h g r (by rw [this])
    omega
end SH

set_option Elab.async false
set_option linter.all false
set_option maxRecDepth 100000
/-! Any parts: descent and pile read alike. Mathematics. -/
namespace SH
open PySem L2
abbrev Rd := List Tn → Option (Ex × List Tn)
section
variable (bad : Str → Bool)
def stepB (S : RS) (t : Tn) : Option RS := match t with
  | .nam s => if bad s = true then none else stepM S (.nam s)
  | t => stepM S t
def finB : RS → Option Ex
  | ⟨o :: _, [], _⟩ => some o.1
  | _ => none
/-- what the pile makes of these parts from that state -/
def RB : RS → List Tn → Option Ex
  | S, [] => finB S
  | S, t :: r => match stepB bad S t with
    | some S' => RB S' r
    | none => none
def loopR (f : Rd) (L : Int) : Nat → Ex → Rd
  | n + 1, e, .sg g :: r => if g.lv = L then (match f r with
      | some (b, r') => if (Ex.op g e b).dep ≤ 6 then loopR f L n (.op g e b) r' else none
      | none => none) else some (e, .sg g :: r)
  | _, e, ts => some (e, ts)
def levR (f : Rd) (L : Int) : Rd := fun ts => match f ts with
  | some (e, r) => loopR f L r.length e r
  | none => none
def sumR (f : Rd) : Rd := levR (levR f 3) 2
def treeR (f : Rd) : Rd := fun ts => match sumR f ts with
  | some (e, .sg g :: r) => if g.lv = 1 then (match sumR f r with
      | some (b, r') => if (Ex.op g e b).dep ≤ 6 then some (.op g e b, r') else none
      | none => none) else some (e, .sg g :: r)
  | x => x
def singR : Nat → Rd
  | _, .num n :: r => some (.num n, r)
  | _, .nam s :: r => if bad s = true then none else some (.nam s, r)
  | m + 1, .lp :: r => match treeR (singR m) r with
    | some (e, .rp :: r') => some (e, r')
    | _ => none
  | _, _ => none
def wholeR (ts : List Tn) : Option Ex := match treeR (singR bad 8) ts with
  | some (e, []) => some e
  | _ => none
variable {bad}
theorem RB_cons {S S' : RS} {t : Tn} {r : List Tn} (h : stepB bad S t = some S') : RB bad S (t :: r) = RB bad S' r := by
  show (match stepB bad S t with | some S' => RB bad S' r | none => none) = _
  rw [h]
theorem RB_none {S : RS} {t : Tn} {r : List Tn} (h : stepB bad S t = none) : RB bad S (t :: r) = none := by
  show (match stepB bad S t with | some S' => RB bad S' r | none => none) = _
  rw [h]
theorem stepB_sg {S : RS} {g : Sg} : stepB bad S (.sg g) = stepM S (.sg g) := rfl
/-- behind an expression nothing but a sign or a closing bracket is let by -/
theorem stepB_off {outs : List Ot} {p : Pile} {t : Tn} (h1 : ∀ g, t ≠ .sg g) (h2 : t ≠ .rp) : stepB bad ⟨outs, p, false⟩ t = none := by
  cases t with
  | sg g => exact absurd rfl (h1 g)
  | rp => exact absurd rfl h2
  | lp => cases p <;> rfl
  | num n => cases p <;> rfl
  | nam s =>
    show (if bad s = true then none else stepM ⟨outs, p, false⟩ (.nam s)) = none
    split
    · rfl
    · cases p <;> rfl
def Good (e : Ex) : Ot := (e, e.dep)
/-- the right operand is read: the fold -/
theorem RB_fold {outs : List Ot} {p : Pile} {g : Sg} {e b : Ex} (hp : p ≠ []) (h1 : 1 < g.lv) : ∀ {r : List Tn}, nx (g.lv + 1) r →
    RB bad ⟨Good b :: Good e :: outs, some g :: p, false⟩ (r ++ [.rp]) = if (Ex.op g e b).dep ≤ 6 then RB bad ⟨Good (.op g e b) :: outs, p, false⟩ (r ++ [.rp]) else none := by
  intro r hn
  have key : ∀ t r', (t = .rp ∨ ∃ k, t = .sg k ∧ k.lv ≤ g.lv) ∨ ((∀ k, t ≠ .sg k) ∧ t ≠ .rp) →
      RB bad ⟨Good b :: Good e :: outs, some g :: p, false⟩ (t :: r') = if (Ex.op g e b).dep ≤ 6 then RB bad ⟨Good (.op g e b) :: outs, p, false⟩ (t :: r') else none := by
    intro t r' h
    have hd : (mk2 g (Good e) (Good b)).2 < 7 ↔ (Ex.op g e b).dep ≤ 6 := by
      show 1 + max e.dep b.dep < 7 ↔ 1 + max e.dep b.dep ≤ 6
      omega
    rcases h with (rfl | ⟨k, rfl, hk⟩) | ⟨h2, h3⟩
    · show (match stepM ⟨Good b :: Good e :: outs, some g :: p, false⟩ .rp with | some S' => RB bad S' r' | none => none) = _
      rw [step_rp (by intro h; cases h)]
      show (match Option.map _ (if (mk2 g (Good e) (Good b)).2 < 7 then closeM p (mk2 g (Good e) (Good b) :: outs) else none) with | some S' => RB bad S' r' | none => none) = if _ then (match stepM ⟨Good (.op g e b) :: outs, p, false⟩ .rp with | some S' => RB bad S' r' | none => none) else none
      rw [step_rp hp]
      by_cases c : (Ex.op g e b).dep ≤ 6
      · rw [if_pos c, if_pos (hd.mpr c)]; rfl
      · rw [if_neg c, if_neg (fun z => c (hd.mp z))]; rfl
    · show (match stepM ⟨Good b :: Good e :: outs, some g :: p, false⟩ (.sg k) with | some S' => RB bad S' r' | none => none) = _
      rw [step_sg (by intro h; cases h)]
      show (match Option.map _ (if k.lv ≤ g.lv then (if k.lv = 1 ∧ g.lv = 1 then none else (if (mk2 g (Good e) (Good b)).2 < 7 then signM k p (mk2 g (Good e) (Good b) :: outs) else none)) else _) with | some S' => RB bad S' r' | none => none) = if _ then (match stepM ⟨Good (.op g e b) :: outs, p, false⟩ (.sg k) with | some S' => RB bad S' r' | none => none) else none
      rw [if_pos hk, if_neg (by omega), step_sg hp]
      by_cases c : (Ex.op g e b).dep ≤ 6
      · rw [if_pos c, if_pos (hd.mpr c)]; rfl
      · rw [if_neg c, if_neg (fun z => c (hd.mp z))]; rfl
    · rw [RB_none (stepB_off h2 h3), RB_none (stepB_off h2 h3)]
      split <;> rfl
  cases r with
  | nil => exact key .rp [] (.inl (.inl rfl))
  | cons t r =>
    refine key t (r ++ [.rp]) ?_
    by_cases c1 : t = .rp
    · exact .inl (.inl c1)
    by_cases c2 : ∃ k, t = .sg k
    · obtain ⟨k, rfl⟩ := c2
      have := hn k r rfl
      exact .inl (.inr ⟨k, rfl, by omega⟩)
    · exact .inr ⟨fun k hk => c2 ⟨k, hk⟩, c1⟩
/-- a reader of that level does what the pile does -/
def Sim (bad : Str → Bool) (L : Int) (m : Nat) (f : Rd) : Prop := ∀ (ts : List Tn) (outs : List Ot) (p : Pile), p ≠ [] → tb p < L → cntN p + m = 9 →
  (∀ e r, f ts = some (e, r) → RB bad ⟨outs, p, true⟩ (ts ++ [.rp]) = RB bad ⟨Good e :: outs, p, false⟩ (r ++ [.rp]) ∧ e.dep ≤ 6 ∧ r.length < ts.length ∧ nx L r) ∧
  (f ts = none → RB bad ⟨outs, p, true⟩ (ts ++ [.rp]) = none)
theorem loop_sim {L : Int} (hL : L = 2 ∨ L = 3) {m : Nat} {f : Rd} (hf : Sim bad (L + 1) m f) : ∀ (n : Nat) (ts : List Tn) (e : Ex) (outs : List Ot) (p : Pile), ts.length ≤ n → e.dep ≤ 6 → nx (L + 1) ts → p ≠ [] → tb p < L → cntN p + m = 9 →
    (∀ e' r, loopR f L n e ts = some (e', r) → RB bad ⟨Good e :: outs, p, false⟩ (ts ++ [.rp]) = RB bad ⟨Good e' :: outs, p, false⟩ (r ++ [.rp]) ∧ e'.dep ≤ 6 ∧ r.length ≤ ts.length ∧ nx L r) ∧
    (loopR f L n e ts = none → RB bad ⟨Good e :: outs, p, false⟩ (ts ++ [.rp]) = none) := by
  intro n
  induction n with
  | zero =>
    intro ts e outs p hn he hx hp hb hc
    cases ts with
    | nil => exact ⟨fun e' r h => by cases h; exact ⟨rfl, he, Nat.le_refl _, nx_nil⟩, fun h => by cases h⟩
    | cons t r => exact absurd hn (Nat.not_succ_le_zero _)
  | succ n ih =>
    intro ts e outs p hn he hx hp hb hc
    have same : loopR f L (n + 1) e ts = some (e, ts) → nx L ts → (∀ e' r, loopR f L (n + 1) e ts = some (e', r) → RB bad ⟨Good e :: outs, p, false⟩ (ts ++ [.rp]) = RB bad ⟨Good e' :: outs, p, false⟩ (r ++ [.rp]) ∧ e'.dep ≤ 6 ∧ r.length ≤ ts.length ∧ nx L r) ∧
        (loopR f L (n + 1) e ts = none → RB bad ⟨Good e :: outs, p, false⟩ (ts ++ [.rp]) = none) := fun h k =>
      ⟨fun e' r h' => (by rw [h] at h'; cases h'; exact ⟨rfl, he, Nat.le_refl _, k⟩), fun h' => by rw [h] at h'; cases h'⟩
    cases ts with
    | nil => exact same rfl nx_nil
    | cons t r =>
      by_cases c : ∃ g, t = .sg g
      · obtain ⟨g, rfl⟩ := c
        have eq : loopR f L (n + 1) e (.sg g :: r) = if g.lv = L then (match f r with
          | some (b, r') => if (Ex.op g e b).dep ≤ 6 then loopR f L n (.op g e b) r' else none
          | none => none) else some (e, .sg g :: r) := rfl
        by_cases cg : g.lv = L
        · rw [if_pos cg] at eq
          have hst : stepB bad ⟨Good e :: outs, p, false⟩ (.sg g) = some ⟨Good e :: outs, some g :: p, true⟩ := by
            rw [stepB_sg, step_sg hp, sign_low hp (by omega)]
            rfl
          obtain ⟨s1, s2⟩ := hf r (Good e :: outs) (some g :: p) (by intro h; cases h) (by show g.lv < L + 1; omega) hc
          have e1 : RB bad ⟨Good e :: outs, p, false⟩ (.sg g :: r ++ [.rp]) = RB bad ⟨Good e :: outs, some g :: p, true⟩ (r ++ [.rp]) := RB_cons hst
          cases hr : f r with
          | none =>
            rw [hr] at eq
            have eq : loopR f L (n + 1) e (.sg g :: r) = none := eq
            exact ⟨fun e' r' h => (by rw [eq] at h; cases h), fun _ => by rw [e1]; exact s2 hr⟩
          | some x =>
            obtain ⟨b, r'⟩ := x
            rw [hr] at eq
            have eq : loopR f L (n + 1) e (.sg g :: r) = if (Ex.op g e b).dep ≤ 6 then loopR f L n (.op g e b) r' else none := eq
            obtain ⟨t1, t2, t3, t4⟩ := s1 b r' hr
            rw [← cg] at t4
            have e2 := RB_fold (bad := bad) (outs := outs) (e := e) (b := b) hp (by omega) t4
            by_cases cd : (Ex.op g e b).dep ≤ 6
            · rw [if_pos cd] at eq e2
              have hlen : r.length + 1 ≤ n + 1 := hn
              rw [cg] at t4
              obtain ⟨i1, i2⟩ := ih r' (.op g e b) outs p (by omega) cd t4 hp hb hc
              refine ⟨fun e' r'' h => ?_, fun h => ?_⟩
              · rw [eq] at h
                obtain ⟨j1, j2, j3, j4⟩ := i1 e' r'' h
                exact ⟨by rw [e1, t1, e2, j1], j2, by show r''.length ≤ r.length + 1; omega, j4⟩
              · rw [eq] at h
                rw [e1, t1, e2, i2 h]
            · rw [if_neg cd] at eq e2
              exact ⟨fun e' r'' h => (by rw [eq] at h; cases h), fun _ => by rw [e1, t1, e2]⟩
        · rw [if_neg cg] at eq
          refine same eq (fun k r' h => ?_)
          have h1 := hx k r' h
          have h2 := Tn.sg.inj (List.cons.inj h).1
          rw [← h2] at h1 ⊢
          omega
      · refine same ?_ (fun k r' h => absurd ⟨k, (List.cons.inj h).1⟩ c)
        cases t with
        | sg g => exact absurd ⟨g, rfl⟩ c
        | _ => rfl
theorem lev_sim {L : Int} (hL : L = 2 ∨ L = 3) {m : Nat} {f : Rd} (hf : Sim bad (L + 1) m f) : Sim bad L m (levR f L) := by
  intro ts outs p hp hb hc
  obtain ⟨s1, s2⟩ := hf ts outs p hp (by omega) hc
  have eq : levR f L ts = match f ts with
    | some (e, r) => loopR f L r.length e r
    | none => none := rfl
  cases hr : f ts with
  | none =>
    rw [hr] at eq
    have eq : levR f L ts = none := eq
    exact ⟨fun e r h => (by rw [eq] at h; cases h), fun _ => s2 hr⟩
  | some x =>
    obtain ⟨e, r⟩ := x
    rw [hr] at eq
    have eq : levR f L ts = loopR f L r.length e r := eq
    obtain ⟨t1, t2, t3, t4⟩ := s1 e r hr
    obtain ⟨i1, i2⟩ := loop_sim hL hf r.length r e outs p (Nat.le_refl _) t2 t4 hp hb hc
    refine ⟨fun e' r' h => ?_, fun h => ?_⟩
    · rw [eq] at h
      obtain ⟨j1, j2, j3, j4⟩ := i1 e' r' h
      exact ⟨by rw [t1, j1], j2, by omega, j4⟩
    · rw [eq] at h
      rw [t1, i2 h]
theorem sum_sim {m : Nat} {f : Rd} (hf : Sim bad 4 m f) : Sim bad 2 m (sumR f) := lev_sim (.inl rfl) (lev_sim (.inr rfl) hf)
/-- a whole tree, and what may come behind it -/
def SimT (bad : Str → Bool) (m : Nat) (f : Rd) : Prop := ∀ (ts : List Tn) (outs : List Ot) (p : Pile), p ≠ [] → tb p < 1 → cntN p + m = 9 →
  (∀ e r, f ts = some (e, r) → e.dep ≤ 6 ∧ r.length < ts.length ∧ RB bad ⟨outs, p, true⟩ (ts ++ [.rp]) = (match r with
    | [] => RB bad ⟨Good e :: outs, p, false⟩ [.rp]
    | .rp :: r' => RB bad ⟨Good e :: outs, p, false⟩ (.rp :: (r' ++ [.rp]))
    | _ => none)) ∧
  (f ts = none → RB bad ⟨outs, p, true⟩ (ts ++ [.rp]) = none)
/-- behind a comparison -/
theorem RB_cmp {outs : List Ot} {p : Pile} {g : Sg} {e b : Ex} (hp : p ≠ []) (h1 : g.lv = 1) : ∀ {r : List Tn}, nx 2 r →
    RB bad ⟨Good b :: Good e :: outs, some g :: p, false⟩ (r ++ [.rp]) = if (Ex.op g e b).dep ≤ 6 then (match r with
    | [] => RB bad ⟨Good (.op g e b) :: outs, p, false⟩ [.rp]
    | .rp :: r' => RB bad ⟨Good (.op g e b) :: outs, p, false⟩ (.rp :: (r' ++ [.rp]))
    | _ => none) else none := by
  have hd : (mk2 g (Good e) (Good b)).2 < 7 ↔ (Ex.op g e b).dep ≤ 6 := by
    show 1 + max e.dep b.dep < 7 ↔ 1 + max e.dep b.dep ≤ 6
    omega
  have key : ∀ r', RB bad ⟨Good b :: Good e :: outs, some g :: p, false⟩ (.rp :: r') = if (Ex.op g e b).dep ≤ 6 then RB bad ⟨Good (.op g e b) :: outs, p, false⟩ (.rp :: r') else none := by
    intro r'
    show (match stepM ⟨Good b :: Good e :: outs, some g :: p, false⟩ .rp with | some S' => RB bad S' r' | none => none) = _
    rw [step_rp (by intro h; cases h)]
    show (match Option.map _ (if (mk2 g (Good e) (Good b)).2 < 7 then closeM p (mk2 g (Good e) (Good b) :: outs) else none) with | some S' => RB bad S' r' | none => none) = if _ then (match stepM ⟨Good (.op g e b) :: outs, p, false⟩ .rp with | some S' => RB bad S' r' | none => none) else none
    rw [step_rp hp]
    by_cases c : (Ex.op g e b).dep ≤ 6
    · rw [if_pos c, if_pos (hd.mpr c)]; rfl
    · rw [if_neg c, if_neg (fun z => c (hd.mp z))]; rfl
  intro r hn
  cases r with
  | nil => exact key []
  | cons t r =>
    by_cases c1 : t = .rp
    · rw [c1]; exact key (r ++ [.rp])
    by_cases c2 : ∃ k, t = .sg k
    · obtain ⟨k, rfl⟩ := c2
      have hk := hn k r rfl
      have hk1 := k.lv_pos
      have hs : stepB bad ⟨Good b :: Good e :: outs, some g :: p, false⟩ (.sg k) = none := by
        rw [stepB_sg, step_sg (by intro h; cases h)]
        show Option.map _ (if k.lv ≤ g.lv then (if k.lv = 1 ∧ g.lv = 1 then none else _) else _) = _
        rw [if_pos (by omega), if_pos (by omega)]
        rfl
      have hz : RB bad ⟨Good b :: Good e :: outs, some g :: p, false⟩ (.sg k :: r ++ [.rp]) = none := RB_none hs
      rw [hz]
      split <;> rfl
    · have hz : RB bad ⟨Good b :: Good e :: outs, some g :: p, false⟩ (t :: r ++ [.rp]) = none := RB_none (stepB_off (fun k hk => c2 ⟨k, hk⟩) c1)
      rw [hz]
      cases t with
      | rp => exact absurd rfl c1
      | sg k => exact absurd ⟨k, rfl⟩ c2
      | _ => split <;> rfl
theorem tree_sim {m : Nat} {f : Rd} (hf : Sim bad 4 m f) : SimT bad m (treeR f) := by
  intro ts outs p hp hb hc
  have hS := sum_sim hf
  obtain ⟨s1, s2⟩ := hS ts outs p hp (by omega) hc
  have eq : treeR f ts = match sumR f ts with
    | some (e, .sg g :: r) => if g.lv = 1 then (match sumR f r with
        | some (b, r') => if (Ex.op g e b).dep ≤ 6 then some (.op g e b, r') else none
        | none => none) else some (e, .sg g :: r)
    | x => x := rfl
  cases hr : sumR f ts with
  | none =>
    rw [hr] at eq
    have eq : treeR f ts = none := eq
    exact ⟨fun e r h => (by rw [eq] at h; cases h), fun _ => s2 hr⟩
  | some x =>
    obtain ⟨e, r⟩ := x
    obtain ⟨t1, t2, t3, t4⟩ := s1 e r hr
    rw [hr] at eq
    cases r with
    | nil =>
      have eq : treeR f ts = some (e, []) := eq
      exact ⟨fun e' r' h => by rw [eq] at h; cases h; exact ⟨t2, t3, t1⟩, fun h => by rw [eq] at h; cases h⟩
    | cons t r =>
      cases t with
      | rp =>
        have eq : treeR f ts = some (e, .rp :: r) := eq
        exact ⟨fun e' r' h => by rw [eq] at h; cases h; exact ⟨t2, t3, t1⟩, fun h => by rw [eq] at h; cases h⟩
      | lp =>
        have eq : treeR f ts = some (e, .lp :: r) := eq
        have z : RB bad ⟨Good e :: outs, p, false⟩ (.lp :: (r ++ [.rp])) = none := RB_none (stepB_off (fun k hk => by cases hk) (by intro h; cases h))
        exact ⟨fun e' r' h => by rw [eq] at h; cases h; exact ⟨t2, t3, t1.trans z⟩, fun h => by rw [eq] at h; cases h⟩
      | num n =>
        have eq : treeR f ts = some (e, .num n :: r) := eq
        have z : RB bad ⟨Good e :: outs, p, false⟩ (.num n :: (r ++ [.rp])) = none := RB_none (stepB_off (fun k hk => by cases hk) (by intro h; cases h))
        exact ⟨fun e' r' h => by rw [eq] at h; cases h; exact ⟨t2, t3, t1.trans z⟩, fun h => by rw [eq] at h; cases h⟩
      | nam n =>
        have eq : treeR f ts = some (e, .nam n :: r) := eq
        have z : RB bad ⟨Good e :: outs, p, false⟩ (.nam n :: (r ++ [.rp])) = none := RB_none (stepB_off (fun k hk => by cases hk) (by intro h; cases h))
        exact ⟨fun e' r' h => by rw [eq] at h; cases h; exact ⟨t2, t3, t1.trans z⟩, fun h => by rw [eq] at h; cases h⟩
      | sg g =>
        have hg := t4 g r rfl
        have hg1 := g.lv_pos
        have cg : g.lv = 1 := by omega
        have eq : treeR f ts = if g.lv = 1 then (match sumR f r with
          | some (b, r') => if (Ex.op g e b).dep ≤ 6 then some (.op g e b, r') else none
          | none => none) else some (e, .sg g :: r) := eq
        rw [if_pos cg] at eq
        have hst : stepB bad ⟨Good e :: outs, p, false⟩ (.sg g) = some ⟨Good e :: outs, some g :: p, true⟩ := by
          rw [stepB_sg, step_sg hp, sign_low hp (by omega)]
          rfl
        have e1 : RB bad ⟨Good e :: outs, p, false⟩ (.sg g :: r ++ [.rp]) = RB bad ⟨Good e :: outs, some g :: p, true⟩ (r ++ [.rp]) := RB_cons hst
        obtain ⟨u1, u2⟩ := hS r (Good e :: outs) (some g :: p) (by intro h; cases h) (by show g.lv < 2; omega) hc
        cases hr2 : sumR f r with
        | none =>
          rw [hr2] at eq
          have eq : treeR f ts = none := eq
          exact ⟨fun e r h => (by rw [eq] at h; cases h), fun _ => by rw [t1, e1, u2 hr2]⟩
        | some y =>
          obtain ⟨b, r'⟩ := y
          rw [hr2] at eq
          have eq : treeR f ts = if (Ex.op g e b).dep ≤ 6 then some (.op g e b, r') else none := eq
          obtain ⟨v1, v2, v3, v4⟩ := u1 b r' hr2
          have e2 := RB_cmp (bad := bad) (outs := outs) (e := e) (b := b) hp cg v4
          have t3' : r.length + 1 < ts.length := t3
          by_cases cd : (Ex.op g e b).dep ≤ 6
          · rw [if_pos cd] at eq e2
            exact ⟨fun e' r'' h => by rw [eq] at h; cases h; exact ⟨cd, by omega, by rw [t1, e1, v1, e2]⟩, fun h => by rw [eq] at h; cases h⟩
          · rw [if_neg cd] at eq e2
            exact ⟨fun e' r'' h => (by rw [eq] at h; cases h), fun _ => by rw [t1, e1, v1, e2]⟩
theorem step_true_off {outs : List Ot} {p : Pile} {t : Tn} (h : t = .rp ∨ ∃ g, t = .sg g) : stepB bad ⟨outs, p, true⟩ t = none := by
  rcases h with rfl | ⟨g, rfl⟩ <;> cases p <;> rfl
theorem sing_sim : ∀ m : Nat, Sim bad 4 m (singR bad m) := by
  intro m
  induction m with
  | zero =>
    intro ts outs p hp hb hc
    cases ts with
    | nil => exact ⟨fun e r h => (by cases h), fun _ => RB_none (step_true_off (.inl rfl))⟩
    | cons t r =>
      cases t with
      | num n =>
        refine ⟨fun e r' h => ?_, fun h => by cases h⟩
        cases h
        refine ⟨RB_cons ?_, by show 1 ≤ 6; decide, Nat.lt_succ_self _, fun g r' _ => by have := g.lv_pos; omega⟩
        cases p with
        | nil => exact absurd rfl hp
        | cons x p => rfl
      | nam s =>
        have eq : singR bad 0 (.nam s :: r) = if bad s = true then none else some (.nam s, r) := rfl
        by_cases c : bad s = true
        · rw [if_pos c] at eq
          refine ⟨fun e r' h => (by rw [eq] at h; cases h), fun _ => RB_none ?_⟩
          show (if bad s = true then none else _) = none
          rw [if_pos c]
        · rw [if_neg c] at eq
          refine ⟨fun e r' h => ?_, fun h => by rw [eq] at h; cases h⟩
          rw [eq] at h
          cases h
          refine ⟨RB_cons ?_, by show 1 ≤ 6; decide, Nat.lt_succ_self _, fun g r' _ => by have := g.lv_pos; omega⟩
          show (if bad s = true then none else stepM ⟨outs, p, true⟩ (.nam s)) = _
          rw [if_neg c]
          cases p with
          | nil => exact absurd rfl hp
          | cons x p => rfl
      | lp =>
        refine ⟨fun e r' h => (by cases h), fun _ => RB_none ?_⟩
        cases p with
        | nil => exact absurd rfl hp
        | cons x p =>
          show (if cntN (x :: p) < 9 then _ else none) = none
          rw [if_neg (by omega)]
      | rp => exact ⟨fun e r' h => (by cases h), fun _ => RB_none (step_true_off (.inl rfl))⟩
      | sg g => exact ⟨fun e r' h => (by cases h), fun _ => RB_none (step_true_off (.inr ⟨g, rfl⟩))⟩
  | succ m ih =>
    intro ts outs p hp hb hc
    cases ts with
    | nil => exact ⟨fun e r h => (by cases h), fun _ => RB_none (step_true_off (.inl rfl))⟩
    | cons t r =>
      cases t with
      | num n =>
        refine ⟨fun e r' h => ?_, fun h => by cases h⟩
        cases h
        refine ⟨RB_cons ?_, by show 1 ≤ 6; decide, Nat.lt_succ_self _, fun g r' _ => by have := g.lv_pos; omega⟩
        cases p with
        | nil => exact absurd rfl hp
        | cons x p => rfl
      | nam s =>
        have eq : singR bad (m + 1) (.nam s :: r) = if bad s = true then none else some (.nam s, r) := rfl
        by_cases c : bad s = true
        · rw [if_pos c] at eq
          refine ⟨fun e r' h => (by rw [eq] at h; cases h), fun _ => RB_none ?_⟩
          show (if bad s = true then none else _) = none
          rw [if_pos c]
        · rw [if_neg c] at eq
          refine ⟨fun e r' h => ?_, fun h => by rw [eq] at h; cases h⟩
          rw [eq] at h
          cases h
          refine ⟨RB_cons ?_, by show 1 ≤ 6; decide, Nat.lt_succ_self _, fun g r' _ => by have := g.lv_pos; omega⟩
          show (if bad s = true then none else stepM ⟨outs, p, true⟩ (.nam s)) = _
          rw [if_neg c]
          cases p with
          | nil => exact absurd rfl hp
          | cons x p => rfl
      | lp =>
        have eq : singR bad (m + 1) (.lp :: r) = match treeR (singR bad m) r with
          | some (e, .rp :: r') => some (e, r')
          | _ => none := rfl
        have hst : stepB bad ⟨outs, p, true⟩ .lp = some ⟨outs, none :: p, true⟩ := step_lp hp (by omega)
        have e1 : RB bad ⟨outs, p, true⟩ (.lp :: r ++ [.rp]) = RB bad ⟨outs, none :: p, true⟩ (r ++ [.rp]) := RB_cons hst
        obtain ⟨s1, s2⟩ := tree_sim ih r outs (none :: p) (by intro h; cases h) (by show (0 : Int) < 1; decide) (by have : cntN (none :: p) = cntN p + 1 := rfl; omega)
        have hcl : ∀ o, stepB bad ⟨o :: outs, none :: p, false⟩ .rp = some ⟨o :: outs, p, false⟩ := fun o => by
          show stepM ⟨o :: outs, none :: p, false⟩ .rp = _
          rw [step_rp (by intro h; cases h)]
          rfl
        cases hr : treeR (singR bad m) r with
        | none =>
          rw [hr] at eq
          have eq : singR bad (m + 1) (.lp :: r) = none := eq
          exact ⟨fun e r' h => (by rw [eq] at h; cases h), fun _ => by rw [e1]; exact s2 hr⟩
        | some x =>
          obtain ⟨e, r'⟩ := x
          rw [hr] at eq
          obtain ⟨t1, t2, t3⟩ := s1 e r' hr
          cases r' with
          | nil =>
            have eq : singR bad (m + 1) (.lp :: r) = none := eq
            refine ⟨fun e r' h => (by rw [eq] at h; cases h), fun _ => ?_⟩
            rw [e1, t3]
            show RB bad _ [.rp] = none
            rw [RB_cons (hcl _)]
            cases p with
            | nil => exact absurd rfl hp
            | cons x p => rfl
          | cons t r' =>
            cases t with
            | rp =>
              have eq : singR bad (m + 1) (.lp :: r) = some (e, r') := eq
              refine ⟨fun e' r'' h => ?_, fun h => by rw [eq] at h; cases h⟩
              rw [eq] at h
              cases h
              refine ⟨?_, t1, ?_, fun g r' _ => by have := g.lv_pos; omega⟩
              · rw [e1, t3]
                exact RB_cons (hcl _)
              · have t2' : r'.length + 1 < r.length := t2
                show r'.length < r.length + 1
                omega
            | lp =>
              have eq : singR bad (m + 1) (.lp :: r) = none := eq
              exact ⟨fun e r' h => (by rw [eq] at h; cases h), fun _ => by rw [e1, t3]⟩
            | num n =>
              have eq : singR bad (m + 1) (.lp :: r) = none := eq
              exact ⟨fun e r' h => (by rw [eq] at h; cases h), fun _ => by rw [e1, t3]⟩
            | nam n =>
              have eq : singR bad (m + 1) (.lp :: r) = none := eq
              exact ⟨fun e r' h => (by rw [eq] at h; cases h), fun _ => by rw [e1, t3]⟩
            | sg n =>
              have eq : singR bad (m + 1) (.lp :: r) = none := eq
              exact ⟨fun e r' h => (by rw [eq] at h; cases h), fun _ => by rw [e1, t3]⟩
      | rp => exact ⟨fun e r' h => (by cases h), fun _ => RB_none (step_true_off (.inl rfl))⟩
      | sg g => exact ⟨fun e r' h => (by cases h), fun _ => RB_none (step_true_off (.inr ⟨g, rfl⟩))⟩
/-- descent and pile read alike, and refuse alike -/
theorem whole_pile (ts : List Tn) : wholeR bad ts = RB bad RS0 (ts ++ [.rp]) := by
  obtain ⟨s1, s2⟩ := tree_sim (bad := bad) (sing_sim 8) ts [] [none] (by intro h; cases h) (by show (0 : Int) < 1; decide) rfl
  have hcl : ∀ o, stepB bad ⟨[o], [none], false⟩ .rp = some ⟨[o], [], false⟩ := fun o => rfl
  unfold wholeR
  cases hr : treeR (singR bad 8) ts with
  | none => exact (s2 hr).symm
  | some x =>
    obtain ⟨e, r⟩ := x
    obtain ⟨t1, t2, t3⟩ := s1 e r hr
    show _ = RB bad ⟨[], [none], true⟩ (ts ++ [.rp])
    rw [t3]
    cases r with
    | nil => show some e = RB bad _ [.rp]; rw [RB_cons (hcl _)]; rfl
    | cons t r =>
      cases t with
      | rp =>
        show none = RB bad _ (.rp :: (r ++ [.rp]))
        rw [RB_cons (hcl _)]
        cases r with
        | nil => exact (RB_none rfl).symm
        | cons t r =>
          refine (RB_none ?_).symm
          cases t with
          | nam s => show (if bad s = true then none else none) = none; split <;> rfl
          | _ => rfl
      | _ => rfl
end
end SH

set_option Elab.async false
set_option linter.all false
set_option maxRecDepth 100000
/-! Any text cut into parts. Mathematics. -/
namespace SH
open PySem L2 TL
/-- the longest part at the head -/
def munch : List Nat → List Nat
  | [] => []
  | c :: r => if kdC c = 0 then c :: r.takeWhile (fun x => decide (kdC x = 0)) else if kdC c = 1 then c :: r.takeWhile (fun x => decide (kdC x = 1)) else if c = 61 ∧ r.head? = some 61 then [61, 61] else [c]
def lexF : Nat → List Nat → List (Int × List Nat)
  | n + 1, c :: r => (kdC c, munch (c :: r)) :: lexF n ((c :: r).drop (munch (c :: r)).length)
  | _, _ => []
def lexL (cs : List Nat) : List (Int × List Nat) := lexF cs.length cs
theorem munch_eq (c : Nat) (r : List Nat) : munch (c :: r) = if kdC c = 0 then c :: r.takeWhile (fun x => decide (kdC x = 0)) else if kdC c = 1 then c :: r.takeWhile (fun x => decide (kdC x = 1)) else if c = 61 ∧ r.head? = some 61 then [61, 61] else [c] := rfl
theorem munch_pre : ∀ cs : List Nat, ∃ B, cs = munch cs ++ B
  | [] => ⟨[], rfl⟩
  | c :: r => by
    rw [munch_eq]
    by_cases c0 : kdC c = 0
    · rw [if_pos c0]; exact ⟨r.dropWhile (fun x => decide (kdC x = 0)), by rw [List.cons_append, List.takeWhile_append_dropWhile]⟩
    rw [if_neg c0]
    by_cases c1 : kdC c = 1
    · rw [if_pos c1]; exact ⟨r.dropWhile (fun x => decide (kdC x = 1)), by rw [List.cons_append, List.takeWhile_append_dropWhile]⟩
    rw [if_neg c1]
    by_cases c2 : c = 61 ∧ r.head? = some 61
    · rw [if_pos c2]
      cases r with
      | nil => cases c2.2
      | cons d r => obtain ⟨rfl, h⟩ := c2; cases h; exact ⟨r, rfl⟩
    · rw [if_neg c2]; exact ⟨r, rfl⟩
theorem munch_pos (c : Nat) (r : List Nat) : 1 ≤ (munch (c :: r)).length := by
  rw [munch_eq]
  by_cases c0 : kdC c = 0
  · rw [if_pos c0, List.length_cons]; omega
  rw [if_neg c0]
  by_cases c1 : kdC c = 1
  · rw [if_pos c1, List.length_cons]; omega
  rw [if_neg c1]
  by_cases c2 : c = 61 ∧ r.head? = some 61
  · rw [if_pos c2]; decide
  · rw [if_neg c2]; exact Nat.le_refl 1
theorem munch_len (cs : List Nat) : (munch cs).length ≤ cs.length := by
  obtain ⟨B, h⟩ := munch_pre cs
  have := congrArg List.length h
  rw [List.length_append] at this
  omega
theorem lexF_any : ∀ (n : Nat) (cs : List Nat), cs.length ≤ n → lexF n cs = lexF cs.length cs := by
  intro n
  induction n using Nat.strongRecOn with
  | _ n ih =>
    intro cs h
    cases cs with
    | nil => cases n <;> rfl
    | cons c r =>
      cases n with
      | zero => exact absurd h (Nat.not_succ_le_zero _)
      | succ n =>
        show (kdC c, munch (c :: r)) :: lexF n _ = (kdC c, munch (c :: r)) :: lexF r.length _
        have h' : r.length + 1 ≤ n + 1 := h
        have hd : ((c :: r).drop (munch (c :: r)).length).length ≤ r.length := by
          rw [List.length_drop]
          have := munch_pos c r
          show r.length + 1 - _ ≤ _
          omega
        congr 1
        by_cases e : r.length = n
        · rw [e]
        · rw [ih n (by omega) _ (by omega), ih r.length (by omega) _ hd]
theorem lexL_nil : lexL [] = [] := rfl
theorem lexL_cons (c : Nat) (r : List Nat) : lexL (c :: r) = (kdC c, munch (c :: r)) :: lexL ((c :: r).drop (munch (c :: r)).length) := by
  show (kdC c, munch (c :: r)) :: lexF r.length _ = _
  congr 1
  refine lexF_any _ _ ?_
  rw [List.length_drop]
  have := munch_pos c r
  show r.length + 1 - _ ≤ _
  omega
/-- what is behind the longest part does not go with it -/
theorem munch_end {c : Nat} {r : List Nat} {d : Nat} {t : List Nat} (h : (c :: r).drop (munch (c :: r)).length = d :: t) : ¬ mrg (kdC c) ⟨(munch (c :: r)).toArray⟩ (kdC d) := by
  intro hm
  obtain ⟨h1, h2⟩ := hm
  have run : ∀ k : Int, munch (c :: r) = c :: r.takeWhile (fun x => decide (kdC x = k)) → kdC d ≠ k := by
    intro k e hk
    rw [e] at h
    have h3 : r.drop (r.takeWhile (fun x => decide (kdC x = k))).length = d :: t := h
    have h4 : r.drop (r.takeWhile (fun x => decide (kdC x = k))).length = r.dropWhile (fun x => decide (kdC x = k)) := by
      have e5 : r.takeWhile (fun x => decide (kdC x = k)) ++ r.dropWhile (fun x => decide (kdC x = k)) = r := List.takeWhile_append_dropWhile
      have e6 : (r.takeWhile (fun x => decide (kdC x = k)) ++ r.dropWhile (fun x => decide (kdC x = k))).drop (r.takeWhile (fun x => decide (kdC x = k))).length = r.drop (r.takeWhile (fun x => decide (kdC x = k))).length := by rw [e5]
      rw [List.drop_left] at e6
      exact e6.symm
    rw [h4] at h3
    have h5 := List.head?_dropWhile_not (fun x => decide (kdC x = k)) r
    rw [h3] at h5
    have h6 : decide (kdC d = k) = false := h5
    exact of_decide_eq_false h6 hk
  have hu : munch (c :: r) = if kdC c = 0 then c :: r.takeWhile (fun x => decide (kdC x = 0)) else if kdC c = 1 then c :: r.takeWhile (fun x => decide (kdC x = 1)) else if c = 61 ∧ r.head? = some 61 then [61, 61] else [c] := rfl
  by_cases c0 : kdC c = 0
  · rw [if_pos c0] at hu
    exact run 0 hu (by omega)
  rw [if_neg c0] at hu
  by_cases c1 : kdC c = 1
  · rw [if_pos c1] at hu
    exact run 1 hu (by omega)
  rw [if_neg c1] at hu
  have kge : ∀ x : Nat, 0 ≤ kdC x := fun x => by unfold kdC; split <;> (try split) <;> (try split) <;> (try split) <;> (try split) <;> omega
  have k2 : ∀ x : Nat, kdC x = 2 → x = 61 := fun x hx => by
    unfold kdC at hx
    split at hx
    · omega
    · split at hx
      · omega
      · split at hx
        · assumption
        · split at hx
          · omega
          · split at hx <;> omega
  rcases h2 with h2 | ⟨h2, h3⟩
  · have := kge d
    omega
  · by_cases c2 : c = 61 ∧ r.head? = some 61
    · rw [if_pos c2] at hu
      rw [hu] at h3
      exact absurd (show (2 : Nat) = 1 from h3) (by decide)
    · rw [if_neg c2] at hu
      rw [hu] at h
      have h4 : r = d :: t := h
      refine c2 ⟨k2 c (by omega), ?_⟩
      rw [h4, k2 d h2]
      rfl
theorem munch_fold {c : Nat} {r : List Nat} {F : List (Int × Str)} (h : ∀ x, F.getLast? = some x → ¬ mrg x.1 x.2 (kdC c)) : (munch (c :: r)).foldl addC F = F ++ [(kdC c, ⟨(munch (c :: r)).toArray⟩)] := by
  have hu : munch (c :: r) = if kdC c = 0 then c :: r.takeWhile (fun x => decide (kdC x = 0)) else if kdC c = 1 then c :: r.takeWhile (fun x => decide (kdC x = 1)) else if c = 61 ∧ r.head? = some 61 then [61, 61] else [c] := rfl
  have run : ∀ k : Int, k < 2 → kdC c = k → munch (c :: r) = c :: r.takeWhile (fun x => decide (kdC x = k)) → (munch (c :: r)).foldl addC F = F ++ [(kdC c, ⟨(munch (c :: r)).toArray⟩)] := by
    intro k hk e hu
    rw [hu]
    show (r.takeWhile _).foldl addC (addC F c) = _
    have hall : ∀ (l : List Nat) (p : Nat → Bool), ∀ x ∈ l.takeWhile p, p x = true := by
      intro l p
      induction l with
      | nil => intro x hx; cases hx
      | cons a l ih =>
        intro x hx
        rw [List.takeWhile_cons] at hx
        split at hx
        · rename_i ha
          rcases List.mem_cons.mp hx with rfl | hx
          · exact ha
          · exact ih x hx
        · cases hx
    rw [add_new h, e, add_run hk _ F _ fun x hx => of_decide_eq_true (hall _ _ x hx)]
    congr 3
    exact cd_inj (by rw [cd_app, cd_uno]; show [c] ++ _ = c :: _; rfl)
  by_cases c0 : kdC c = 0
  · rw [if_pos c0] at hu
    exact run 0 (by decide) c0 hu
  rw [if_neg c0] at hu
  by_cases c1 : kdC c = 1
  · rw [if_pos c1] at hu
    exact run 1 (by decide) c1 hu
  rw [if_neg c1] at hu
  by_cases c2 : c = 61 ∧ r.head? = some 61
  · rw [if_pos c2] at hu
    rw [hu]
    show addC (addC F 61) 61 = _
    obtain ⟨rfl, _⟩ := c2
    rw [add_new h, add_on ⟨rfl, .inr ⟨by decide, rfl⟩⟩]
    congr 3
  · rw [if_neg c2] at hu
    rw [hu]
    exact add_new h
/-- sign by sign, and part by part: alike -/
theorem fold_lex : ∀ (n : Nat) (cs : List Nat) (F : List (Int × Str)), cs.length ≤ n → (∀ c r, cs = c :: r → ∀ x, F.getLast? = some x → ¬ mrg x.1 x.2 (kdC c)) →
    cs.foldl addC F = F ++ (lexL cs).map fun x => (x.1, (⟨x.2.toArray⟩ : Str)) := by
  intro n
  induction n with
  | zero =>
    intro cs F hn h
    cases cs with
    | nil => show F = F ++ []; rw [List.append_nil]
    | cons c r => exact absurd hn (Nat.not_succ_le_zero _)
  | succ n ih =>
    intro cs F hn h
    cases cs with
    | nil => show F = F ++ []; rw [List.append_nil]
    | cons c r =>
      rw [lexL_cons]
      have hp := munch_pos c r
      have e : (c :: r) = munch (c :: r) ++ (c :: r).drop (munch (c :: r)).length := by
        obtain ⟨B, hB⟩ := munch_pre (c :: r)
        have : (c :: r).drop (munch (c :: r)).length = B := by
          generalize munch (c :: r) = M at hB ⊢
          rw [hB, List.drop_left]
        rw [this]; exact hB
      have step : (c :: r).foldl addC F = ((c :: r).drop (munch (c :: r)).length).foldl addC ((munch (c :: r)).foldl addC F) := by
        rw [← List.foldl_append, ← e]
      rw [step, munch_fold (h c r rfl), ih _ _ (by
        rw [List.length_drop]
        have : r.length + 1 ≤ n + 1 := hn
        show r.length + 1 - _ ≤ n
        omega) (fun d t hd x hx => ?_), List.append_assoc]
      · rfl
      · rw [List.getLast?_concat] at hx
        cases hx
        exact munch_end hd
/-! ### which parts are let by -/
/-- the law: too long, or led by a nought; a sign of none -/
def badL (x : Int × List Nat) : Bool := decide (x.1 = 9) || (decide (x.1 = 0) && decide (8 < x.2.length)) || (decide (x.1 = 1) && (decide (30 < x.2.length) || (decide (x.2.head? = some 48) && decide (x.2 ≠ [48]))))
/-- what such a part is, read -/
def PtOk (t : Tn) : Prop := match t with
  | .num n => 0 ≤ n ∧ n < 1000000 ^ 5
  | .nam s => nmL s ∨ s = uno 44 ∨ s = uno 61
  | _ => True
theorem num_ex : ∀ (n : Nat) (ds : List Nat), ds.length ≤ n → ds ≠ [] → (∀ d ∈ ds, 48 ≤ d ∧ d ≤ 57) → (ds.head? = some 48 → ds = [48]) → ∃ m : Nat, numL m = ds ∧ m < 10 ^ ds.length ∧ (ds ≠ [48] → 0 < m) := by
  intro n
  induction n with
  | zero =>
    intro ds hn h0 _ _
    exact absurd (List.length_eq_zero_iff.mp (by omega)) h0
  | succ n ih =>
    intro ds hn h0 hd hz
    rcases List.eq_nil_or_concat ds with rfl | ⟨as, d, e⟩
    · exact absurd rfl h0
    · rw [List.concat_eq_append] at e
      subst e
      have hdd := hd d (List.mem_append_right _ List.mem_cons_self)
      by_cases c : as = []
      · subst c
        refine ⟨d - 48, ?_, by show d - 48 < 10 ^ 1; omega, fun h => ?_⟩
        · rw [numL_lt (by omega)]
          show [48 + (d - 48)] = [d]
          congr 1; omega
        · by_cases e : d = 48
          · subst e; exact absurd rfl h
          · omega
      · rw [List.length_append] at hn
        have hlen : as.length + 1 ≤ n + 1 := hn
        have hh : (as ++ [d]).head? = as.head? := by
          cases as with
          | nil => exact absurd rfl c
          | cons a r => rfl
        have n48 : as.head? ≠ some 48 := fun h => by
          have := hz (by rw [hh]; exact h)
          have := congrArg List.length this
          rw [List.length_append] at this
          have h1 : as.length + 1 = 1 := this
          exact c (List.length_eq_zero_iff.mp (by omega))
        obtain ⟨m, m1, m2, m3⟩ := ih as (by omega) c (fun x hx => hd x (List.mem_append_left _ hx)) (fun h => absurd h n48)
        have mp := m3 (fun e => n48 (by rw [e]; rfl))
        refine ⟨10 * m + (d - 48), ?_, ?_, fun _ => by omega⟩
        · rw [numL_step (by omega), show (10 * m + (d - 48)) / 10 = m by omega, show (10 * m + (d - 48)) % 10 = d - 48 by omega, m1]
          congr 2; omega
        · rw [List.length_append]
          show _ < 10 ^ (as.length + 1)
          rw [Nat.pow_succ]
          omega
end SH

set_option Elab.async false
set_option linter.all false
set_option maxRecDepth 100000
/-! Which parts are let by, on both sides. Mathematics. -/
namespace SH
open PySem L2 TL
theorem kd_in (c : Nat) : kdC c = 0 ∨ kdC c = 1 ∨ kdC c = 2 ∨ kdC c = 3 ∨ kdC c = 4 ∨ kdC c = 9 := by
  unfold kdC
  split
  · simp
  · split
    · simp
    · split
      · simp
      · split
        · simp
        · split <;> simp
theorem kd0 {c : Nat} (h : kdC c = 0) : 97 ≤ c ∧ c ≤ 122 := by
  by_cases k : 97 ≤ c ∧ c ≤ 122
  · exact k
  · exfalso
    unfold kdC at h
    rw [if_neg k] at h
    split at h
    · omega
    · split at h
      · omega
      · split at h
        · omega
        · split at h <;> omega
theorem kd1 {c : Nat} (h : kdC c = 1) : 48 ≤ c ∧ c ≤ 57 := by
  unfold kdC at h
  by_cases a : 97 ≤ c ∧ c ≤ 122
  · rw [if_pos a] at h; omega
  · rw [if_neg a] at h
    by_cases b : 48 ≤ c ∧ c ≤ 57
    · exact b
    · rw [if_neg b] at h
      split at h <;> (try split at h) <;> (try split at h) <;> omega
theorem kd2 {c : Nat} (h : kdC c = 2) : c = 61 := by
  unfold kdC at h
  split at h
  · omega
  · split at h
    · omega
    · split at h
      · assumption
      · split at h
        · omega
        · split at h <;> omega
theorem kd3 {c : Nat} (h : kdC c = 3) : c ∈ [40, 41, 44, 43, 45, 42, 60] := by
  unfold kdC at h
  split at h
  · omega
  · split at h
    · omega
    · split at h
      · omega
      · split at h
        · omega
        · split at h
          · assumption
          · omega
/-- a part as it is cut -/
structure LexP (x : Int × List Nat) : Prop where
  ne : x.2 ≠ []
  kd : ∀ c ∈ x.2, kdC c = x.1
  one : 2 ≤ x.1 → (∃ c, x.2 = [c]) ∨ x.2 = [61, 61]
theorem mem_tw {p : Nat → Bool} : ∀ {l : List Nat} {x : Nat}, x ∈ l.takeWhile p → p x = true
  | [], x, h => by cases h
  | a :: l, x, h => by
    rw [List.takeWhile_cons] at h
    by_cases ha : p a = true
    · rw [if_pos ha] at h
      rcases List.mem_cons.mp h with rfl | h
      · exact ha
      · exact mem_tw h
    · rw [if_neg ha] at h
      cases h
theorem munch_lexP (c : Nat) (r : List Nat) : LexP (kdC c, munch (c :: r)) := by
  have run : ∀ k : Int, k < 2 → kdC c = k → LexP (kdC c, c :: r.takeWhile (fun x => decide (kdC x = k))) := fun k hk e =>
    ⟨(fun h => by cases h), (fun d hd => by
      rcases List.mem_cons.mp hd with rfl | hd
      · rfl
      · have h1 := of_decide_eq_true (mem_tw hd)
        show kdC d = kdC c
        rw [h1, e]), (fun h => by have h : 2 ≤ kdC c := h; omega)⟩
  rw [munch_eq]
  by_cases c0 : kdC c = 0
  · rw [if_pos c0]; exact run 0 (by decide) c0
  rw [if_neg c0]
  by_cases c1 : kdC c = 1
  · rw [if_pos c1]; exact run 1 (by decide) c1
  rw [if_neg c1]
  by_cases c2 : c = 61 ∧ r.head? = some 61
  · rw [if_pos c2]
    obtain ⟨rfl, _⟩ := c2
    exact ⟨(fun h => by cases h), (fun d hd => by have : d = 61 := by simpa using hd
                                                  rw [this]), fun _ => .inr rfl⟩
  · rw [if_neg c2]
    exact ⟨(fun h => by cases h), (fun d hd => by rw [List.mem_singleton.mp hd]), fun _ => .inl ⟨c, rfl⟩⟩
theorem lexL_all : ∀ (n : Nat) (cs : List Nat), cs.length ≤ n → ∀ x ∈ lexL cs, LexP x := by
  intro n
  induction n with
  | zero =>
    intro cs hn x hx
    cases cs with
    | nil => cases hx
    | cons c r => exact absurd hn (Nat.not_succ_le_zero _)
  | succ n ih =>
    intro cs hn x hx
    cases cs with
    | nil => cases hx
    | cons c r =>
      rw [lexL_cons] at hx
      rcases List.mem_cons.mp hx with rfl | hx
      · exact munch_lexP c r
      · have hp := munch_pos c r
        refine ih _ ?_ x hx
        rw [List.length_drop]
        have : r.length + 1 ≤ n + 1 := hn
        show r.length + 1 - _ ≤ n
        omega
def figB9 (l : List Nat) : Bool := match l with
  | [] => false
  | c :: _ => decide (48 ≤ c ∧ c ≤ 57)
def marks9 : List Str := ["(", ")", ",", "=", "==", "+", "-", "*", "<"]
def strL (l : List Nat) : Str := ⟨l.toArray⟩
theorem cd_strL (l : List Nat) : cd (strL l) = l := by show (l.toArray).toList = l; rw [List.toList_toArray]
instance (s : Str) : Decidable (nmL s) := by unfold nmL; infer_instance
/-- what the program lets by as a part -/
def pOk (kp : List Str) (l : List Nat) : Bool := if figB9 l = true then (decide (l = [48]) || decide (l.head? ≠ some 48)) else (decide (strL l ∈ marks9) || decide (strL l ∈ kp) || decide (nmL (strL l)))
/-- a part as a token; what reads as none is a name of none -/
def PtAny (t : Tn) : Prop := match t with
  | .num n => 0 ≤ n ∧ n < 1000000 ^ 5
  | .nam s => nmL s ∨ s = uno 44 ∨ s = uno 61 ∨ (30 < (cd s).length ∧ ∀ c ∈ cd s, 48 ≤ c ∧ c ≤ 57)
  | _ => True
theorem strL_eq {l : List Nat} {s : Str} (h : strL l = s) : l = cd s := by rw [← h, cd_strL]
theorem marks_kd : ∀ s ∈ marks9, ∀ c ∈ cd s, kdC c = 2 ∨ kdC c = 3 := by decide +kernel
theorem marks_tok : ∀ s ∈ marks9, ∃ t, PtAny t ∧ t.txt = s := by
  intro s hs
  have e : s = "(" ∨ s = ")" ∨ s = "," ∨ s = "=" ∨ s = "==" ∨ s = "+" ∨ s = "-" ∨ s = "*" ∨ s = "<" := by
    simpa [marks9] using hs
  rcases e with rfl | rfl | rfl | rfl | rfl | rfl | rfl | rfl | rfl
  · exact ⟨.lp, trivial, rfl⟩
  · exact ⟨.rp, trivial, rfl⟩
  · exact ⟨.nam (uno 44), .inr (.inl rfl), by decide +kernel⟩
  · exact ⟨.nam (uno 61), .inr (.inr (.inl rfl)), by decide +kernel⟩
  · exact ⟨.sg .eq, trivial, by decide +kernel⟩
  · exact ⟨.sg .add, trivial, by decide +kernel⟩
  · exact ⟨.sg .sub, trivial, by decide +kernel⟩
  · exact ⟨.sg .mul, trivial, by decide +kernel⟩
  · exact ⟨.sg .lt, trivial, by decide +kernel⟩
theorem pok_tok {kp : List Str} (hk : ∀ s ∈ kp, nmL s) {x : Int × List Nat} (h : LexP x) (hp : pOk kp x.2 = true) : ∃ t, PtAny t ∧ t.txt = strL x.2 := by
  unfold pOk at hp
  by_cases hf : figB9 x.2 = true
  · rw [if_pos hf] at hp
    have hn := h.ne
    have hall : ∀ c ∈ x.2, 48 ≤ c ∧ c ≤ 57 := by
      cases e : x.2 with
      | nil => exact absurd e hn
      | cons c r =>
        rw [e] at hf
        have hc : 48 ≤ c ∧ c ≤ 57 := of_decide_eq_true hf
        have k1 := h.kd c (by rw [e]; exact List.mem_cons_self)
        rw [kd_dig hc] at k1
        intro d hd
        have := h.kd d (by rw [e]; exact hd)
        exact kd1 (by rw [this, ← k1])
    by_cases hl : x.2.length ≤ 30
    · have hz : x.2.head? = some 48 → x.2 = [48] := fun e => by
        rw [Bool.or_eq_true] at hp
        rcases hp with hp | hp
        · exact of_decide_eq_true hp
        · exact absurd e (of_decide_eq_true hp)
      obtain ⟨m, m1, m2, _⟩ := num_ex x.2.length x.2 (Nat.le_refl _) hn hall hz
      have e2 : (10 : Nat) ^ 30 = 1000000000000000000000000000000 := by decide
      have e3 : (10 : Nat) ^ x.2.length ≤ 10 ^ 30 := Nat.pow_le_pow_right (by decide) hl
      have e : (1000000 : Int) ^ 5 = 1000000000000000000000000000000 := by decide
      refine ⟨.num (m : Int), ⟨by omega, by rw [e]; omega⟩, cd_inj ?_⟩
      rw [cd_strL]
      show cd ((toString ((m : Nat) : Int) : String) : Str) = x.2
      rw [cd_num (by omega), ← m1]
      rfl
    · exact ⟨.nam (strL x.2), .inr (.inr (.inr ⟨by rw [cd_strL]; omega, by rw [cd_strL]; exact hall⟩)), rfl⟩
  · rw [if_neg hf, Bool.or_eq_true, Bool.or_eq_true] at hp
    rcases hp with (hp | hp) | hp
    · exact marks_tok _ (of_decide_eq_true hp)
    · exact ⟨.nam (strL x.2), .inl (hk _ (of_decide_eq_true hp)), rfl⟩
    · exact ⟨.nam (strL x.2), .inl (of_decide_eq_true hp), rfl⟩
theorem head_kd {x : Int × List Nat} (h : LexP x) : ∃ c r, x.2 = c :: r ∧ kdC c = x.1 := by
  cases e : x.2 with
  | nil => exact absurd e h.ne
  | cons c r => exact ⟨c, r, rfl, h.kd c (by rw [e]; exact List.mem_cons_self)⟩
theorem fig_iff {x : Int × List Nat} (h : LexP x) : figB9 x.2 = decide (x.1 = 1) := by
  obtain ⟨c, r, e, k⟩ := head_kd h
  rw [e, ← k]
  show decide (48 ≤ c ∧ c ≤ 57) = _
  refine decide_eq_decide.mpr ⟨kd_dig, kd1⟩
theorem good_pok {kp : List Str} {x : Int × List Nat} (h : LexP x) (h4 : x.1 ≠ 4) (hb : badL x = false) : pOk kp x.2 = true := by
  unfold badL at hb
  rw [Bool.or_eq_false_iff, Bool.or_eq_false_iff] at hb
  obtain ⟨⟨b9, b0⟩, b1⟩ := hb
  have b9 := of_decide_eq_false b9
  unfold pOk
  rw [fig_iff h]
  obtain ⟨c, r, e, k⟩ := head_kd h
  by_cases c1 : x.1 = 1
  · rw [if_pos (decide_eq_true c1)]
    rw [decide_eq_true c1, Bool.true_and, Bool.or_eq_false_iff] at b1
    obtain ⟨_, b3⟩ := b1
    rw [Bool.or_eq_true]
    by_cases cz : x.2 = [48]
    · exact .inl (decide_eq_true cz)
    · right
      rw [decide_eq_true cz, Bool.and_true] at b3
      exact decide_eq_true (of_decide_eq_false b3)
  · rw [if_neg (by rw [decide_eq_false c1]; decide), Bool.or_eq_true, Bool.or_eq_true]
    by_cases c0 : x.1 = 0
    · right
      rw [decide_eq_true c0, Bool.true_and] at b0
      have b0 := of_decide_eq_false b0
      refine decide_eq_true ⟨?_, ?_, ?_⟩
      · rw [cd_strL, e, List.length_cons]; omega
      · rw [cd_strL]; omega
      · rw [cd_strL]; intro d hd; exact kd0 (by rw [h.kd d hd, c0])
    · left; left
      have k' := kd_in c
      rw [k] at k'
      have h2 : 2 ≤ x.1 := by omega
      rcases h.one h2 with ⟨d, ed⟩ | ed
      · have hd := h.kd d (by rw [ed]; exact List.mem_cons_self)
        rw [ed]
        by_cases c2 : x.1 = 2
        · have : d = 61 := kd2 (by rw [hd, c2])
          rw [this]; decide +kernel
        · have h3 := kd3 (c := d) (by omega)
          have key : ∀ d ∈ [40, 41, 44, 43, 45, 42, 60], decide (strL [d] ∈ marks9) = true := by decide +kernel
          exact key d h3
      · rw [ed]; decide +kernel
theorem nm_kd {s : Str} (h : nmL s) : ∀ c ∈ cd s, kdC c = 0 := fun c hc => kd_let (h.2.2 c hc)
theorem bad_pok {kp : List Str} (hk : ∀ s ∈ kp, nmL s) {x : Int × List Nat} (h : LexP x) (hb : badL x = true) (hp : pOk kp x.2 = true) : x.1 = 1 ∧ 30 < x.2.length := by
  unfold pOk at hp
  rw [fig_iff h] at hp
  obtain ⟨c, r, e, k⟩ := head_kd h
  have hc : c ∈ x.2 := by rw [e]; exact List.mem_cons_self
  unfold badL at hb
  by_cases c1 : x.1 = 1
  · refine ⟨c1, ?_⟩
    rw [if_pos (decide_eq_true c1), Bool.or_eq_true] at hp
    rw [decide_eq_false (show x.1 ≠ 9 by omega), decide_eq_false (show x.1 ≠ 0 by omega), Bool.false_and, Bool.false_or, Bool.false_or, decide_eq_true c1, Bool.true_and, Bool.or_eq_true, Bool.and_eq_true] at hb
    rcases hb with hb | ⟨h1, h2⟩
    · exact of_decide_eq_true hb
    · exfalso
      rcases hp with hp | hp
      · exact of_decide_eq_true h2 (of_decide_eq_true hp)
      · exact of_decide_eq_true hp (of_decide_eq_true h1)
  · exfalso
    rw [if_neg (by rw [decide_eq_false c1]; decide), Bool.or_eq_true, Bool.or_eq_true] at hp
    rw [decide_eq_false c1, Bool.false_and, Bool.or_false, Bool.or_eq_true, Bool.and_eq_true] at hb
    have hn : (nmL (strL x.2)) → False := fun hn => by
      have k0 := nm_kd hn c (by rw [cd_strL]; exact hc)
      rcases hb with hb | ⟨_, hb⟩
      · have := of_decide_eq_true hb; omega
      · have := of_decide_eq_true hb
        have h8 := hn.2.1
        rw [cd_strL] at h8
        omega
    rcases hp with (hp | hp) | hp
    · have := marks_kd _ (of_decide_eq_true hp) c (by rw [cd_strL]; exact hc)
      rcases hb with hb | ⟨hb, _⟩
      · have := of_decide_eq_true hb; omega
      · have := of_decide_eq_true hb; omega
    · exact hn (hk _ (of_decide_eq_true hp))
    · exact hn (of_decide_eq_true hp)
/-- the parts that are no blanks -/
def partsL (cs : List Nat) : List (List Nat) := ((lexL cs).filter fun x => decide (x.1 ≠ 4)).map fun x => x.2
/-- every part let by: the parts as tokens -/
theorem toks_of {kp : List Str} (hk : ∀ s ∈ kp, nmL s) : ∀ (L : List (Int × List Nat)), (∀ x ∈ L, LexP x) → (∀ x ∈ L, x.1 ≠ 4 → pOk kp x.2 = true) →
    ∃ ts : List Tn, (∀ t ∈ ts, PtAny t) ∧ ts.map (fun t => t.txt) = (L.filter fun x => decide (x.1 ≠ 4)).map fun x => strL x.2
  | [], _, _ => ⟨[], (fun t ht => by cases ht), rfl⟩
  | x :: L, h, hp => by
    obtain ⟨ts, h1, h2⟩ := toks_of hk L (fun y hy => h y (List.mem_cons_of_mem _ hy)) (fun y hy => hp y (List.mem_cons_of_mem _ hy))
    by_cases c : x.1 = 4
    · exact ⟨ts, h1, by rw [List.filter_cons, if_neg (by rw [decide_eq_false (by omega)]; decide)]; exact h2⟩
    · obtain ⟨t, t1, t2⟩ := pok_tok hk (h x List.mem_cons_self) (hp x List.mem_cons_self c)
      refine ⟨t :: ts, fun y hy => ?_, ?_⟩
      · rcases List.mem_cons.mp hy with rfl | hy
        · exact t1
        · exact h1 y hy
      · rw [List.filter_cons, if_pos (decide_eq_true c), List.map_cons, List.map_cons, t2, h2]
section
variable {bad : Str → Bool}
theorem RB_bad : ∀ (ts : List Tn) (S : RS) (e : Ex), RB bad S ts = some e → ∀ s, Tn.nam s ∈ ts → bad s = false
  | [], _, _, _, s, h => by cases h
  | t :: r, S, e, h, s, hs => by
    have h' : (match stepB bad S t with | some S' => RB bad S' r | none => none) = some e := h
    cases e1 : stepB bad S t with
    | none => rw [e1] at h'; cases h'
    | some S' =>
      rw [e1] at h'
      rcases List.mem_cons.mp hs with hs | hs
      · subst hs
        cases hb : bad s with
        | false => rfl
        | true =>
          have e2 : (if bad s = true then none else stepM S (.nam s)) = some S' := e1
          rw [if_pos hb] at e2
          cases e2
      · exact RB_bad r S' e h' s hs
/-- a number that is too long is read by neither -/
theorem whole_long (hb : ∀ s, bad s = false → nmL s) {ts : List Tn} (ht : ∀ t ∈ ts, PtAny t) {l : List Nat} (hl : 30 < l.length) (hm : strL l ∈ ts.map (fun t => t.txt)) : wholeR bad ts = none := by
  cases h : wholeR bad ts with
  | none => rfl
  | some e =>
    exfalso
    rw [whole_pile] at h
    obtain ⟨t, t1, t2⟩ := List.mem_map.mp hm
    have hlen : 30 < (cd t.txt).length := by rw [t2, cd_strL]; exact hl
    cases t with
    | lp => rw [show cd (Tn.lp).txt = [40] from cd_lp] at hlen; exact absurd hlen (by decide)
    | rp => rw [show cd (Tn.rp).txt = [41] from cd_rp] at hlen; exact absurd hlen (by decide)
    | sg g => rw [show cd (Tn.sg g).txt = _ from cd_sg g] at hlen; cases g <;> exact absurd hlen (by decide)
    | num n =>
      have hn : 0 ≤ n ∧ n < 1000000 ^ 5 := ht _ t1
      rw [show cd (Tn.num n).txt = _ from cd_num hn.1] at hlen
      have := num_len hn.1 hn.2
      omega
    | nam s =>
      have h1 := RB_bad _ _ _ h s (List.mem_append_left _ t1)
      have h2 := (hb s h1).2.1
      have h3 : 30 < (cd s).length := hlen
      omega
end
/-- what the program reads -/
def progM (kp : List Str) (bad : Str → Bool) (cs : List Nat) (o : Option Ex) : Prop :=
  (∃ x ∈ lexL cs, x.1 ≠ 4 ∧ pOk kp x.2 = false) ∧ o = none ∨ (∀ x ∈ lexL cs, x.1 ≠ 4 → pOk kp x.2 = true) ∧
    ∃ ts : List Tn, (∀ t ∈ ts, PtAny t) ∧ ts.map (fun t => t.txt) = ((lexL cs).filter fun x => decide (x.1 ≠ 4)).map (fun x => strL x.2) ∧ o = wholeR bad ts
/-- what the law reads -/
def lawM (bad : Str → Bool) (cs : List Nat) (o : Option Ex) : Prop :=
  (∃ x ∈ lexL cs, badL x = true) ∧ o = none ∨ (∀ x ∈ lexL cs, badL x = false) ∧
    ∃ ts : List Tn, (∀ t ∈ ts, PtAny t) ∧ ts.map (fun t => t.txt) = ((lexL cs).filter fun x => decide (x.1 ≠ 4)).map (fun x => strL x.2) ∧ o = RB bad RS0 (ts ++ [.rp])
/-- both read alike, any text -/
theorem prog_law {kp : List Str} {bad : Str → Bool} (hk : ∀ s ∈ kp, nmL s) (hb : ∀ s, bad s = false → nmL s) (cs : List Nat) : ∃ o, progM kp bad cs o ∧ lawM bad cs o := by
  have hL := lexL_all cs.length cs (Nat.le_refl _)
  by_cases c : ∃ x ∈ lexL cs, badL x = true
  · obtain ⟨x, hx, hxb⟩ := c
    refine ⟨none, ?_, .inl ⟨⟨x, hx, hxb⟩, rfl⟩⟩
    by_cases d : ∃ y ∈ lexL cs, y.1 ≠ 4 ∧ pOk kp y.2 = false
    · exact .inl ⟨d, rfl⟩
    · have hp : ∀ y ∈ lexL cs, y.1 ≠ 4 → pOk kp y.2 = true := fun y hy h4 => by
        cases e : pOk kp y.2 with
        | true => rfl
        | false => exact absurd ⟨y, hy, h4, e⟩ d
      obtain ⟨ts, t1, t2⟩ := toks_of hk (lexL cs) hL hp
      refine .inr ⟨hp, ts, t1, t2, ?_⟩
      have h4 : x.1 ≠ 4 := fun h4 => by
        unfold badL at hxb
        rw [decide_eq_false (show x.1 ≠ 9 by omega), decide_eq_false (show x.1 ≠ 0 by omega), decide_eq_false (show x.1 ≠ 1 by omega)] at hxb
        cases hxb
      obtain ⟨k1, k2⟩ := bad_pok hk (hL x hx) hxb (hp x hx h4)
      refine (whole_long hb t1 k2 ?_).symm
      rw [t2]
      exact List.mem_map.mpr ⟨x, List.mem_filter.mpr ⟨hx, decide_eq_true h4⟩, rfl⟩
  · have hg : ∀ x ∈ lexL cs, badL x = false := fun x hx => by
      cases e : badL x with
      | false => rfl
      | true => exact absurd ⟨x, hx, e⟩ c
    have hp : ∀ y ∈ lexL cs, y.1 ≠ 4 → pOk kp y.2 = true := fun y hy h4 => good_pok (hL y hy) h4 (hg y hy)
    obtain ⟨ts, t1, t2⟩ := toks_of hk (lexL cs) hL hp
    exact ⟨wholeR bad ts, .inr ⟨hp, ts, t1, t2, rfl⟩, .inr ⟨hg, ts, t1, t2, whole_pile ts⟩⟩
end SH

set_option Elab.async false
set_option linter.all false
set_option maxRecDepth 100000
/-! Sets of unlike texts: set(tuple), {.. for .. in ..}, and how many stand in one. -/
namespace SHSet
open PySem PySem.Spec PyProof.Rows
/-- a set in which just these unlike texts stand -/
def TxtSet (prog : Program) (w : World) (h : Heap) (D : Addr) (xs : List Str) : Prop := h.SetOf (strKind prog w) D (fun y => decide (y ∈ xs)) xs.length
section
variable {prog : Program} {w : World} {A : Around} {D : Addr}
theorem TxtSet.keep {h k : Heap} {xs : List Str} (q : TxtSet prog w h D xs) (m : ∀ o, h.get? D = some o → k.get? D = some o) : TxtSet prog w k D xs := by
  obtain ⟨o, es, ep, tb, ho, rest⟩ := q
  exact ⟨o, es, ep, tb, m _ ho, rest⟩
/-- one more text, if it isn't there -/
def addT (xs : List Str) (y : Str) : List Str := if y ∈ xs then xs else xs ++ [y]
/-- each once -/
def dd (xs : List Str) : List Str := xs.foldl addT []
theorem dd_snoc (xs : List Str) (y : Str) : dd (xs ++ [y]) = addT (dd xs) y := by
  unfold dd
  rw [List.foldl_append]
  rfl
theorem addT_len (xs : List Str) (y : Str) : (addT xs y).length ≤ xs.length + 1 := by
  unfold addT
  split
  · omega
  · rw [List.length_append, List.length_singleton]
    omega
theorem dd_len (n : Nat) : ∀ xs : List Str, xs.length = n → (dd xs).length ≤ n := by
  induction n with
  | zero =>
    intro xs h
    rw [List.eq_nil_of_length_eq_zero h]
    exact Nat.le_refl _
  | succ n ih =>
    intro xs h
    have hne : xs ≠ [] := fun z => by rw [z] at h; cases h
    have e := (List.dropLast_concat_getLast hne).symm
    have hl : xs.dropLast.length = n := by rw [List.length_dropLast, h]; rfl
    have := ih xs.dropLast hl
    have a := addT_len (dd xs.dropLast) (xs.getLast hne)
    rw [e, dd_snoc]
    omega
theorem dd_fold : ∀ (xs acc : List Str), (acc ++ xs).Nodup → xs.foldl addT acc = acc ++ xs
  | [], acc, _ => (List.append_nil acc).symm
  | x :: r, acc, h => by
    have hx : x ∉ acc := fun m => by
      have := List.nodup_append.mp h
      exact this.2.2 x m x List.mem_cons_self rfl
    show r.foldl addT (addT acc x) = acc ++ x :: r
    have e : addT acc x = acc ++ [x] := by unfold addT; rw [if_neg hx]
    have e2 : acc ++ x :: r = (acc ++ [x]) ++ r := by rw [List.append_assoc]; rfl
    rw [e, e2]
    rw [e2] at h
    exact dd_fold r (acc ++ [x]) h
theorem dd_nd {xs : List Str} (h : xs.Nodup) : dd xs = xs := dd_fold xs [] h
theorem TxtSet.one {xs : List Str} {y : Str} {t : Tok} {s : Shared} {E : Value → Shared → Prop} {Q : Bool → Shared → Prop} (q : TxtSet prog w s.heap D xs) (few : xs.length + 1 < scanBound)
    (h : ∀ k, s.heap.SameBut D k → TxtSet prog w k D (addT xs y) → ∀ r, Q r { s with heap := k, toks := s.toks + 1 }) : wpAny (model prog w) A (setAdd D (.str y t)) Q E s := by
  unfold setAdd
  refine wpAny_holding (wpAny_bind ((strKind prog w).pyHash (k := y) (strKind_is prog w y t) ?_))
  refine wpAny_setAddHashed_of (knd := strKind prog w) (s := { s with toks := s.toks + 1 }) (strKind_is prog w y t) rfl q few fun k sb st => h k sb ?_ _
  unfold addT
  by_cases hy : y ∈ xs
  · rw [if_pos hy]
    refine SetOf_congr st (fun z => ?_) (by rw [decide_eq_true hy]; rfl)
    by_cases e : z = y
    · subst e; simp [hy]
    · simp [e]
  · rw [if_neg hy]
    refine SetOf_congr st (fun z => ?_) ?_
    · simp [List.mem_append]
    · rw [if_neg (by rw [decide_eq_false hy]; exact Bool.false_ne_true), List.length_append]
      rfl
end
section
variable {prog : Program} {w : World} {A : Around} {R : Result → Shared → Prop} {J D : Addr} {ft wt : List Addr} {Gs : Array GenState → Array GenState → Prop} {n : Nat} {Pi : Nat → Value → Prop} {Sat : Nat → Shared → Prop}
theorem texts_loop (W : WalksS prog w A.in1 J ft wt Gs n Pi Sat) (out : D ∉ ft) {xs : List Str} (len : xs.length = n) (few : n + 1 < scanBound) (val : ∀ i v, Pi i v → ∃ t, v = .str (xs.getD i Str.empty) t) :
    ∀ (m i : Nat) (s : Shared), i + m = n → Sat i s → TxtSet prog w s.heap D (dd (xs.take i)) → (∀ z, Moved (D :: wt) Gs s z → TxtSet prog w z.heap D (dd xs) → R (.ok (.ret .none)) z) →
      codeAny (model prog w) A (.builtin "set.update.loop" ⟨[.ref D, .ref J], []⟩) R s := by
  have outW : D ∉ wt := fun q => out (W.sub _ q)
  have wide : ∀ b ∈ wt, b ∈ D :: wt := fun b q => List.mem_cons_of_mem _ q
  intro m
  induction m with
  | zero =>
    intro i s him st q fin
    have ei : xs.take i = xs := List.take_of_length_le (by omega)
    rw [ei] at q
    refine codeAny_builtin PyProof.Rows.F.entry_set_update_loop (by
      rw [Around.under_plainId PyProof.Rows.F.plain_set_update_loop _]
      refine (show wpAny _ A.in1 (pyNext (.ref J) >>= _) _ _ s from wpAny_bind (W.done s _ _ (by rw [show n = i by omega]; exact st) fun z mv => ?_))
      exact (show wpAny _ A.in1 (ret Value.none) _ _ z from wpAny_pure (fin z (mv.mono wide) (q.keep fun o ho => mv.heap D o outW ho))))
  | succ m ih =>
    intro i s him st q fin
    have lt : i < xs.length := by omega
    refine codeAny_builtin PyProof.Rows.F.entry_set_update_loop (by
      rw [Around.under_plainId PyProof.Rows.F.plain_set_update_loop _]
      refine (show wpAny _ A.in1 (pyNext (.ref J) >>= _) _ _ s from wpAny_bind (W.item i s _ _ (by omega) st fun v z pv stz mv => ?_))
      obtain ⟨t, rfl⟩ := val i v pv
      have qz : TxtSet prog w z.heap D (dd (xs.take i)) := q.keep fun o ho => mv.heap D o outW ho
      have here : xs.getD i Str.empty = xs[i] := by rw [List.getD_eq_getElem?_getD, List.getElem?_eq_getElem lt]; rfl
      have more : xs.take (i + 1) = xs.take i ++ [xs.getD i Str.empty] := by rw [here, List.take_add_one, List.getElem?_eq_getElem lt]; rfl
      refine (show wpAny _ A.in1 (holding [Value.str (xs.getD i Str.empty) t] (setAdd D (.str (xs.getD i Str.empty) t)) >>= _) _ _ z from wpAny_bind (wpAny_holding ?_))
      refine qz.one (by have := dd_len i (xs.take i) (by rw [List.length_take]; omega); omega) fun k sb qk r => ?_
      rw [← dd_snoc, ← more] at qk
      refine wpAny_pure ⟨plainId_quiet PyProof.Rows.F.plain_set_update_loop _, ih (i + 1) _ (by omega) (W.frame _ z _ _ stz (Nat.le_succ _) fun b hb o e => ?_) qk fun u mu qu => ?_⟩
      · exact (sb.2 b (fun q : b = D => out (q ▸ hb))).trans e
      · refine fin u (Moved.trans W.gtrans ((mv.mono wide).then_heap (Nat.le_succ _) fun b o hb e => ?_) mu) qu
        exact (sb.2 b (fun q : b = D => hb (by rw [q]; exact List.mem_cons_self))).trans e)
end
section
variable {prog : Program} {w : World} {A : Around} {E : Value → Shared → Prop} {s : Shared}
/-- an empty set, just made -/
abbrev bareSet (led : Bool) : Obj := { cls := .type "set", dict := none, data := .set #[] 0 (.fresh 0 0 led) }
theorem txt0 {h : Heap} {D : Addr} {led : Bool} (g : h.get? D = some (bareSet led)) : TxtSet prog w h D [] :=
  SetOf_congr ((setObjOf_fresh (knd := strKind prog w) led).setOf g (by decide)) (fun _ => rfl) rfl
/-- set.__init__ over a tuple of texts -/
theorem init_texts {D l : Addr} {items : Array Value} {xs : List Str} {led : Bool} {Q : Value → Shared → Prop} (quiet : A.handled = none) (hl : s.heap.IsTuple l items) (hx : StrsAre items.toList xs) (few : xs.length + 1 < scanBound) (hD : D < s.heap.objs.size) (hDl : l < D) (g : s.heap.get? D = some (bareSet led))
    (h : ∀ (k : Heap) (tk : Nat), TxtSet prog w k D (dd xs) → (∀ b o, b < D → s.heap.get? b = some o → k.get? b = some o) → Q .none { s with heap := k, toks := tk }) :
    codeAny (model prog w) A (.call (.builtin "set.__init__") ⟨[.ref D, .ref l], []⟩) (wants Q E) s := by
  have ty : s.TypeIs (.ref D) "set" := ⟨_, g, rfl⟩
  refine codeAny_call_builtin PySem.F.called_set.init.plain PySem.F.entry_set_init (check_set_init_1 ty ?_)
  obtain ⟨⟨c1, c2, c3, c4⟩, at_l, k1, k2, k3⟩ := hl
  simp only at k1 k3
  subst k1
  subst k3
  have f1 := PySem.F.sub_tuple_set
  have f2 := PySem.F.sub_tuple_frozenset
  have f3 : (Value.type "tuple" == Value.type "dict") = false := by decide
  have whole : s.heap.IsTuple l items := ⟨_, at_l, rfl, k2, rfl⟩
  unfold Builtin.«set.__init__» noKeywords Builtin.Frozenset.updateFrom
  generalize hit : pyIter = PI
  wp_walk
  subst hit
  refine wpAny_pyIter_tuple whole (wpAny_bind (wpAny_runValue ?_))
  have calm : A.in1.in1.handled = none := by simp [quiet]
  have lJ : l ≠ s.heap.objs.size := Nat.ne_of_lt (Nat.lt_trans hDl hD)
  have hsz : xs.length = items.size := by rw [← StrsAre.len_eq hx, Array.length_toList]
  refine texts_loop (prog := prog) (w := w) (A := A.in1) ((Walks.tuple calm _ l lJ items).toS) (D := D) ?_ hsz (by omega) (fun i v hv => SS.strs_at hx i v (by rw [Array.getElem?_toList]; exact hv)) items.size 0 _ (by omega) ?_ ?_ fun z mv qz => ?_
  · simp only [List.mem_cons, List.mem_singleton, List.not_mem_nil, or_false, not_or]
    exact ⟨Nat.ne_of_lt hD, Nat.ne_of_gt hDl⟩
  · exact ⟨⟨_, Heap.get?_push_size _ rfl, rfl, rfl⟩, whole.push _⟩
  · exact txt0 (led := led) (Heap.get?_push_of_some _ g)
  · obtain ⟨hz, gz, dz, tz, oz⟩ := z
    obtain rfl : gz = s.gens := mv.gens
    obtain rfl : dz = s.drawn := mv.drawn
    obtain rfl : oz = s.os := mv.os
    refine wpAny_pure (wpAny_pure (h hz tz qz fun b o hb e => mv.heap b o ?_ (Heap.get?_push_of_some _ e)))
    simp only [List.mem_cons, List.mem_singleton, List.not_mem_nil, or_false, not_or]
    exact ⟨Nat.ne_of_lt hb, Nat.ne_of_lt (Nat.lt_trans hb hD)⟩
/-- set(tuple of unlike texts) -/
theorem call_texts {l : Addr} {items : Array Value} {xs : List Str} {Q : Value → Shared → Prop} (quiet : A.handled = none) (hl : s.heap.IsTuple l items) (hx : StrsAre items.toList xs) (few : xs.length + 1 < scanBound)
    (h : ∀ (k : Heap) (tk : Nat), TxtSet prog w k s.heap.objs.size (dd xs) → (∀ b o, b < s.heap.objs.size → s.heap.get? b = some o → k.get? b = some o) → Q (.ref s.heap.objs.size) { s with heap := k, toks := tk }) :
    wpAny (model prog w) A (call (.type "set") [.ref l]) Q E s := by
  obtain ⟨c, tl, f1⟩ := PySem.F.called_set.mro
  have f2 := PySem.F.called_set.made
  have f3 := PySem.F.called_set.sub
  refine wpAny_call (codeAny_of_tree (show wpAny _ _ (callAny (.type "set") _) _ _ _ from wpAny_pure ⟨Code.quiet_builtin _ (by decide +kernel), codeAny_builtin PySem.F.entry_type_call ?_⟩))
  rw [Around.under_plain (weight_type_call_type "set" [.ref l] []) rfl]
  have f4 := PySem.F.called_set.notType
  have f5 := PySem.F.called_set.canCreate
  have f6 := PySem.F.typeCall_set_1 (.ref l)
  repeat (any_goals (first | assumption | wp_step))
  refine codeAny_mono (code_set_new_1 (.ref l) (E := E) (Q₁ := fun o z => ∃ led : Bool, o = .ref s.heap.objs.size ∧ z = { s with heap := s.heap.push (bareSet led) }) fun led => ⟨led, rfl, rfl⟩) fun r z hr => ?_
  cases r with
  | error e => exact hr
  | ok fl =>
    cases fl with
    | ret obj =>
      obtain ⟨led, rfl, rfl⟩ := hr
      have g : (s.heap.push (bareSet led)).get? s.heap.objs.size = some (bareSet led) := Heap.get?_push_size _ rfl
      have f7 : Shared.TypeIs { s with heap := s.heap.push (bareSet led) } (.ref s.heap.objs.size) "set" := ⟨_, g, rfl⟩
      have f8 := PySem.F.called_set.init.lookup
      have f9 := PySem.F.called_set.init.bind (.ref s.heap.objs.size)
      repeat (any_goals (first | assumption | wp_step))
      have hlt : l < s.heap.objs.size := by
        obtain ⟨o, ho, _⟩ := hl
        exact Heap.lt_size ho
      refine codeAny_mono (init_texts (prog := prog) (w := w) (E := E) (Q := fun r z => r = .none ∧ ∃ k tk, z = { s with heap := k, toks := tk } ∧ TxtSet prog w k s.heap.objs.size (dd xs) ∧ ∀ b o, b < s.heap.objs.size → s.heap.get? b = some o → k.get? b = some o) (led := led) (by simp [quiet]) (hl.push _) hx few (by rw [Heap.size_push]; exact Nat.lt_succ_self _) hlt g fun k tk q kp => ⟨rfl, k, tk, rfl, q, fun b o hb e => kp b o hb (Heap.get?_push_of_some _ e)⟩) fun r z hr => ?_
      cases r with
      | error e => exact hr
      | ok fl =>
        cases fl with
        | ret r =>
          obtain ⟨rfl, k, tk, rfl, q, kp⟩ := hr
          repeat (any_goals (first | assumption | wp_step))
          exact h k tk q kp
        | _ => exact hr.elim
    | _ => exact hr.elim
end
end SHSet
namespace SH
open PySem PySem.Spec PyProof.Rows L2 SHSet
/-- len(set(t)), t a tuple of texts -/
def tLenTxt (K : PySem.W.Frag) (ta : TE) : TE := fun σ H Q => ta σ H fun x H1 => ∃ (l : Addr) (xs : List Str), x = .ref l ∧ SqT K H1 l (xs.map V.str) ∧ xs.length ≤ 1000 ∧ Q (.int ((dd xs).length : Nat)) H1
section
variable {X : Cx}
theorem pe_lenTxt {a : Expr} {ta : TE} {p p2 q pos : Pos} (hg : Gl X "len") (ml : X.mg "len" = none) (hg2 : Gl X "set") (ms : X.mg "set" = none) (ha : PE X a ta) (quiet : X.calm = true := by rfl)
    (plain : starEach [a] X.env = (false, eval a X.env) :: starEach [] X.env := by rfl) : PE X (.Call (.Name "len" p) [.Call (.Name "set" p2) [a] [] q] [] pos) (tLenTxt X.K ta) := by
  refine ⟨fun pins s σ H Q I h => Call_ (ld_blt I hg ml boot_len (callWith_builtin1 (args_cons (Call_ (ld_blt I hg2 ms boot_set ?_)) rfl) rfl rfl))⟩
  refine callWith_type1 (args_cons (thn (ha.run pins s σ H _ I h) fun v z ⟨x, H1, J, rx, l, xs, ex, tq, few, fin⟩ => args_nil ?_) plain) plain rfl
  subst ex
  cases rx
  obtain ⟨its, rv, tup, _⟩ := J.tuple tq
  have small : (dd xs).length ≤ 1000 := Nat.le_trans (dd_len xs.length xs rfl) few
  refine call_texts (J.ok.hd quiet) tup (xs := xs) (by simpa using strsAre_of rv) (by unfold scanBound; omega) fun k tk qs kp => args_nil ?_
  obtain ⟨o, es, ep, tb, h1, h2, h3, _, _, _, h4, h5⟩ := qs
  have J2 : Inv X pins σ H1 { z with heap := k, toks := tk } := J.kept fun b o e => kp b o (Heap.lt_size e) e
  exact call_len_set h1 h2 h3 h4 (by rw [h5]; omega) ⟨.int ((dd xs).length : Nat), H1, J2.tok _, ⟨_, by rw [h5]⟩, fin⟩
end
end SH

set_option Elab.async false
set_option linter.all false
set_option maxRecDepth 100000
set_option maxHeartbeats 2000000
/-! {e for x in xs}, e a text. -/
namespace SH
open PySem PySem.Spec PyProof.Rows L2 SHSet
/-- the set of texts at D -/
def TxtO (P : Program) (w : World) (D : Addr) (xs : List Str) : HO := .ext fun h => TxtSet P w h D xs
theorem txtO_ok {P : Program} {w : World} {H : Hp} {h : Heap} {D : Addr} {xs : List Str} (q : TxtSet P w h D xs) : ObjOk P w H h D (TxtO P w D xs) := by
  have q' := q
  obtain ⟨o, _, _, _, ho, _⟩ := q'
  exact ⟨q, ⟨o, ho⟩, fun h1 h2 p k => TxtSet.keep p k⟩
section
variable {X : Cx}
theorem add_txt {pins : List (Addr × Obj)} {σ : L2.St} {H : Hp} {s : Shared} {E : Value → Shared → Prop} {D : Addr} {xs : List Str} {z : Str} {t : Tok} {Q : Value → Shared → Prop} (I : Inv X pins σ H s) (hD : H D = some (TxtO X.prog X.w D xs)) (few : xs.length + 1 < scanBound)
    (h : ∀ s', Inv X pins σ (upd H D (TxtO X.prog X.w D (addT xs z))) s' → Q .none s') : wpAny (model X.prog X.w) X.A (call (.builtin "set.add") [.ref D, .str z t]) Q E s := by
  have q : TxtSet X.prog X.w s.heap D xs := (I.hok D _ hD).1
  refine call_set_add (knd := strKind X.prog X.w) (k := z) (strKind_is X.prog X.w z t) rfl q few fun k sb st => ?_
  have nw : TxtSet X.prog X.w k D (addT xs z) := by
    unfold addT
    by_cases hy : z ∈ xs
    · rw [if_pos hy]
      refine SetOf_congr st (fun y => ?_) (by rw [decide_eq_true hy]; rfl)
      by_cases e : y = z
      · subst e; simp [hy]
      · simp [e]
    · rw [if_neg hy]
      refine SetOf_congr st (fun y => ?_) ?_
      · simp [List.mem_append]
      · rw [if_neg (by rw [decide_eq_false hy]; exact Bool.false_ne_true), List.length_append]
        rfl
  have ex : ∃ u, k.get? D = some u := by
    have n2 := nw
    obtain ⟨o, _, _, _, ho, _⟩ := n2
    exact ⟨o, ho⟩
  exact h _ (I.write (e := D) (t' := s.toks + 1) (by rw [hD]; trivial) (.inl rfl) (fun b u hb hu => (sb.2 b hb).trans hu) ex (txtO_ok nw))
/-- the readings of {e for x in xs}: D the new set -/
def tTxc (P : Program) (w : World) (wi : TI) (g : TG) (te : TE) (vs : List Nat) : TE := fun σ H Q => wi σ H fun J H1 => ∀ D, H1 D = none → ∃ W : Nat → Nat → Hp → Prop, (∃ m, W 0 m (upd H1 D (TxtO P w D []))) ∧ ∀ i m H, W i m H →
  (J.stop i H ∧ Q (.ref D) H) ∨ (J.go i H ∧ ∃ Nx : Hp → Prop, (∀ H', Nx H' → ∃ m', m' < m ∧ W (i + 1) m' H') ∧ ∀ x H', J.yld i H x H' → g x (wipe σ vs) H' fun σ2 H2 => wipe σ2 vs = wipe σ vs ∧
    te σ2 H2 fun y H4 => ∃ (z : Str) (xs : List Str), y = .str z ∧ H4 D = some (TxtO P w D xs) ∧ xs.length + 1 < scanBound ∧ Nx (upd H4 D (TxtO P w D (addT xs z))))
abbrev freshSet (w : World) : Obj := { cls := .type "set", dict := none, data := .set #[] 0 (.fresh 0 0 (!w.params.followText "set-order")) }
theorem pe_txc {elt tg iter : Expr} {scope : Scope} {own : List (PySem.Str × Nat)} {pos : Pos} {wi : TI} {g : TG} {te : TE} (quiet : X.calm = true) (ndN : X.N.Nodup) (hi : PI X tg iter wi) (ok : BlkOk X.N X.env.scope scope own)
    (hg : ∀ (s : Shared) (H : Hp) (C : Addr) (cl : List (PySem.Str × Addr)) (fp : List Addr), PG (X.blk s H scope (compEnvC scope cl C X.env) fp) tg g)
    (he : ∀ (s : Shared) (H : Hp) (C : Addr) (cl : List (PySem.Str × Addr)) (fp : List Addr), PE (X.blk s H scope (compEnvC scope cl C X.env) fp) elt te) (fold : ∀ x, foldedSetIterable iter X.env x = pure x := by intro _; rfl) :
    PE X (.SetComp elt [⟨tg, iter, [], 0⟩] scope pos) (tTxc X.prog X.w wi g te (own.map (·.2))) := by
  refine ⟨fun pins s σ H Q I h => ?_⟩
  rw [PpSet.eval_SetComp]
  have fr : ∀ y ∈ scope.names, y.2 = .free → ∃ c, X.env.cells.lookup y.1 = some c := fun y hy e => (ok.free y hy e).elim (fun k => I.ok.has _ (.inl k)) fun k => I.ok.has _ (.inr k)
  refine wpAny_comprehension_free (use := none) rfl fold (closure_ok fr) ok.kind (fun y hy e => by rw [ok.uniq y hy, e]) (thn (hi.run pins s σ H _ I h) fun _ s1 hx => thn hx fun _ s2 ⟨it, fp, tn, J, H2, e, I2, T, st2, f2, q⟩ => ?_)
  subst e
  refine PpSet.newSet_ok (newEnv_comp ?_)
  generalize hD : s2.heap.objs.size = D
  obtain ⟨W, ⟨m0, w0⟩, turn⟩ := q D (I2.hok.fresh (Nat.le_of_eq hD))
  generalize ez : ({ s2 with heap := s2.heap.push (freshSet X.w) } : Shared) = sz
  have I3 : Inv X pins σ (upd H2 D (TxtO X.prog X.w D [])) sz := by
    subst ez
    refine I2.laid (t' := s2.toks) (fun b o e => Heap.get?_push_of_some _ e) (Nat.le_of_eq hD) ?_
    subst hD
    exact txtO_ok (txt0 (Heap.get?_push_size _ rfl))
  have hh : sz.heap = s2.heap.push (freshSet X.w) := by subst ez; rfl
  have below : ∀ b ∈ fp, b < s2.heap.objs.size := fun b hb => (T.obj _ _ st2 b hb).elim fun o ho => Heap.lt_size ho.1
  have f3 : ∀ b ∈ fp, FpOk X pins (upd H2 D (TxtO X.prog X.w D [])) b ∧ b < sz.heap.objs.size := fun b hb => by
    refine ⟨⟨?_, (f2 b hb).2⟩, by rw [hh, Heap.size_push]; exact Nat.lt_succ_of_lt (below b hb)⟩
    rw [upd_ne (fun z => Nat.lt_irrefl _ (hD ▸ z ▸ below b hb))]
    exact (f2 b hb).1
  have st3 : tn 0 sz.heap := T.keep _ _ _ st2 fun b _ o e => by rw [hh]; exact Heap.get?_push_of_some _ e
  have I4 := block_start I3 ok ndN f3
  have pg := hg sz (upd H2 D (TxtO X.prog X.w D [])) sz.heap.objs.size (cellsFrom (sz.heap.objs.size + 1) scope.names (cloFrom X.env.cells scope.names [])) fp
  have pe := he sz (upd H2 D (TxtO X.prog X.w D [])) sz.heap.objs.size (cellsFrom (sz.heap.objs.size + 1) scope.names (cloFrom X.env.cells scope.names [])) fp
  show codeAny _ _ (.compStart (.SetComp elt [⟨tg, iter, [], 0⟩] scope pos) 0 (.ref it) (.ref D) (compEnvC scope (cellsFrom (sz.heap.objs.size + 1) scope.names (cloFrom X.env.cells scope.names [])) sz.heap.objs.size X.env)) (compPost (model X.prog X.w) X.A X.xe none _ (.ref D) sz.heap.objs.size) { sz with heap := pushCells (sz.heap.push { cls := .type "dict", data := .dict #[] }) scope.names }
  have nfp : ∀ b ∈ fp, (upd H2 D (TxtO X.prog X.w D [])) b = none := fun b hb => (f3 b hb).1.1
  generalize ec : compEnvC scope (cellsFrom (sz.heap.objs.size + 1) scope.names (cloFrom X.env.cells scope.names [])) sz.heap.objs.size X.env = ce at I4 pg pe ⊢
  have cl : ce.locals = sz.heap.objs.size := by subst ec; rfl
  generalize upd H2 D (TxtO X.prog X.w D []) = H3 at I3 I4 pg pe w0 nfp f3
  generalize e4 : ({ sz with heap := pushCells (sz.heap.push { cls := .type "dict", data := .dict #[] }) scope.names } : Shared) = s4 at I4 ⊢
  have st4 : tn 0 s4.heap := T.keep _ _ _ st3 fun b _ o e => by rw [← e4]; exact pushCells_keeps _ _ _ _ (Heap.get?_push_of_some _ e)
  have stat : ∀ {σ' : L2.St} {H' : Hp} {s' : Shared}, Inv (X.blk sz H3 scope ce fp) [] σ' H' s' → (∀ b ∈ fp, H' b = none) → ∀ b ∈ fp, FpOk (X.blk sz H3 scope ce fp) [] H' b := fun {_ _ _} K hn b hb =>
    ⟨hn b hb, (K.ok.exf b hb).1, K.ok.exfs b hb, .inl hb, fun x c e => (K.ok.exf b hb).2 x c e, fun p hp => absurd (show p ∈ ([] : List (Addr × Obj)) ++ [] from hp) (by simp)⟩
  have loop : codeAny (model X.prog X.w) X.A (.compLoop (.SetComp elt [⟨tg, iter, [], 0⟩] scope pos) 0 (.ref it) (.ref D) ce) (compPost (model X.prog X.w) X.A X.xe none (EP X pins σ Q) (.ref D) sz.heap.objs.size) s4 := by
    refine PpSet.compLoopS_any (fun n z => ∃ i H', Inv (X.blk sz H3 scope ce fp) [] (wipe σ (own.map (·.2))) H' z ∧ tn i z.heap ∧ (∀ b ∈ fp, H' b = none) ∧ W i n H') ?_ m0 ⟨0, H3, I4, st4, nfp, w0⟩
    rintro n s5 ⟨i, H5, I5, st5, n5, w5⟩
    rcases turn i n H5 w5 with ⟨stop, qq⟩ | ⟨go, Nx, hNx, step⟩
    · refine thnF (T.done (X.blk sz H3 scope ce fp) rfl rfl rfl quiet i [] s5 _ H5 (fun _ _ => False) I5 (stat I5 n5) st5 stop) fun r s6 ⟨hr, I6⟩ => ?_
      subst hr
      have I7 : Inv X pins σ H5 s6 := I3.call' (ch := fp) I6.os I6.base I6.hok I6.bare fun b hb => have u := (f3 b hb).1.2; ⟨u.2.2.1, u.1, u.2.2.2.1, u.2.2.2.2⟩
      have nC : H5 sz.heap.objs.size = none := cl ▸ (show H5 ce.locals = none from I6.free)
      obtain ⟨m, hn, _⟩ := I6.loc
      have hn' : s6.heap.Ns sz.heap.objs.size m := cl ▸ (show s6.heap.Ns ce.locals m from hn)
      obtain ⟨u0, u1, u2, u3, u4, u5⟩ := I3.fpOk (Nat.le_refl _) nC
      refine ⟨m, hn', fun k sb => ⟨.ref D, H5, I7.turned (t' := s6.toks) (fun b o hb e => (sb.2 b hb).trans e) u0 u1 u3 u4 u5, rfl, qq⟩⟩
    · refine thnF (T.item (X.blk sz H3 scope ce fp) rfl rfl rfl quiet i [] s5 _ H5 (fun _ _ => False) I5 (stat I5 n5) st5 go) fun r s6 ⟨u, hr, h6⟩ => ?_
      subst hr
      refine thnF h6 fun _ s7 ⟨x, H7, I7, r7, y7, st7, n7⟩ => ?_
      refine thnF (pg.run _ s7 _ H7 x u _ (I7.pinned (stat I7 n7) (T.obj _ _ st7)) r7 (step x H7 y7)) fun _ s8 ⟨σ8, H8, I8, hw8, q8⟩ => ?_
      refine thnF ((pts_nil (X := X.blk sz H3 scope ce fp)).run _ s8 σ8 H8 _ I8 (show tYes σ8 H8 (fun b K => b = true ∧ te σ8 K _) from ⟨rfl, q8⟩)) fun b s9 ⟨H9, I9, eb, q9⟩ => ?_
      subst eb
      simp only [if_true]
      refine thnF (pe.run _ s9 σ8 H9 _ I9 q9) fun z s10 ⟨yv, H10, I10, r10, zt, xs, ey, hD10, few, nx⟩ => ?_
      subst ey
      obtain ⟨tk, rfl⟩ := (show ∃ tk, z = Value.str zt tk from r10)
      refine add_txt (X := X.blk sz H3 scope ce fp) I10 hD10 few fun s11 I11 => ?_
      obtain ⟨m', hm, w'⟩ := hNx _ nx
      have pin : ∀ b ∈ fp, ∀ o, s7.heap.get? b = some o → s11.heap.get? b = some o ∧ (upd H10 D (TxtO X.prog X.w D (addT xs zt))) b = none := fun b hb o e =>
        have v := I11.pin (b, o) (List.mem_append_right _ (List.mem_append_right _ (mem_pinsAt hb e)))
        ⟨v.1, v.2.1⟩
      refine ⟨m', hm, i + 1, _, (I11.unpinned (pins := [])).weak (by rw [← hw8, wipe_length]) (fun j v e => ?_), T.keep _ _ _ st7 fun b hb o e => (pin b hb o e).1, fun b hb => ?_, w'⟩
      · rw [← hw8] at e
        exact (wipe_some e).1
      · exact (T.obj _ _ st7 b hb).elim fun o ho => (pin b hb o ho.1).2
  exact PpSet.codeAny_compStart_set loop (T.self X.A 0 _ _ _ st4 loop)
/-- len of such a set -/
theorem call_lenTxt : CallR X (.builtin "len") (fun xs H Q => ∃ (D : Addr) (l : List Str), xs = [.ref D] ∧ H D = some (TxtO X.prog X.w D l) ∧ l.length ≤ 1000 ∧ Q (.int (l.length : Nat)) H) := by
  intro pins s σ H xs us Q I r h
  obtain ⟨D, l, rfl, hD, few, q⟩ := h
  obtain ⟨u, rfl, ru⟩ := vals1 r
  cases ru
  obtain ⟨o, es, ep, tb, h1, h2, h3, _, _, _, h4, h5⟩ := (I.hok D _ hD).1
  exact call_len_set h1 h2 h3 h4 (by rw [h5]; omega) ⟨.int (l.length : Nat), H, I.tok _, ⟨_, by rw [h5]⟩, q⟩
end
end SH

set_option Elab.async false
set_option linter.all false
set_option maxRecDepth 100000
namespace SH
open PySem PySem.Spec PyProof.Rows L2
section
variable {X : Cx}
/-- y = {k: v for x in xs} -/
theorem ps_setDc {i : Nat} {y : PySem.Str} {py : Pos} {kx vx tg iter : Expr} {scope : Scope} {own : List (PySem.Str × Nat)} {pos spos : Pos} {wi : TI} {g : TG} {tk tv : TE} (quiet : X.calm = true) (ndN : X.N.Nodup) (hy : X.N[i]? = some y) (yl : X.env.scope.names.lookup y = some .local)
    (swap : swapsWith (.DictComp kx vx [⟨tg, iter, [], 0⟩] scope pos) (some (.Name y py)) spos.line X.env = pure true) (hi : PI X tg iter wi) (ok : BlkOk X.N X.env.scope scope own)
    (hg : ∀ (s : Shared) (H : Hp) (C : Addr) (cl : List (PySem.Str × Addr)) (fp : List Addr), PG (X.blk s H scope (compEnvC scope cl C X.env) fp) tg g)
    (hk : ∀ (s : Shared) (H : Hp) (C : Addr) (cl : List (PySem.Str × Addr)) (fp : List Addr), PE (X.blk s H scope (compEnvC scope cl C X.env) fp) kx tk)
    (hv : ∀ (s : Shared) (H : Hp) (C : Addr) (cl : List (PySem.Str × Addr)) (fp : List Addr), PE (X.blk s H scope (compEnvC scope cl C X.env) fp) vx tv) (fold : ∀ x, foldedSetIterable iter X.env x = pure x := by intro _; rfl) :
    PS X (.Assign [.Name y py] (.DictComp kx vx [⟨tg, iter, [], 0⟩] scope pos) spos) (tAsg (tDc wi g tYes tk tv (own.map (·.2))) (gName i)) := by
  refine ⟨fun pins s σ H D I h => ?_⟩
  rw [exec_Assign_Name_used _ _ _ _ swap]
  refine wpAny_bind (wpAny_standAt (wpAny_bind (show wpAny _ X.A (do let _ ← comprehension (.DictComp kx vx [⟨tg, iter, [], 0⟩] scope pos) scope X.env (firstIterPos [⟨tg, iter, [], 0⟩] pos) newDict false (eval iter X.env) (some (assign (.Name y py) X.env))) _ _ s from ?_)))
  refine wpAny_bind (thn (dc_core (Q := fun x H1 => gName i x σ H1 D.nx) (Qf := fun _ z => SP X pins D .next z) quiet ndN I hi ok hg (fun _ _ _ _ _ => pts_nil) hk hv fold h fun L C z m H' J q hn f => ?_) fun _ z hq => wpAny_pure (wpAny_pure hq))
  refine (show wpAny _ _ (assign (.Name y py) X.env (.ref L)) _ _ _ from wpAny_assign_Name (store_ok2 (v := V.ref L) J ndN hy (.inl yl) rfl (fun u J2 ⟨a, sb, ha⟩ => ?_) (.inr yl)))
  have other : C ≠ a := ha.elim (fun e => e ▸ f.2.1) fun e k => f.2.2.2.2.1 y a e k.symm
  exact ⟨m, hn.sameBut sb other, fun k sk => ⟨_, H', J2.turned (t' := u.toks) (fun b o hb e => (sk.2 b hb).trans e) f.1 f.2.1 f.2.2.2.1 f.2.2.2.2.1 f.2.2.2.2.2, q⟩⟩
theorem sw_dict {kx vx : Expr} {gs : List Comprehension} {scope : Scope} {pos py : Pos} {y : PySem.Str} {l : Nat} {env : Env} (hk : env.scope.kind = .function) (hy : env.scope.names.lookup y = some .local) (hl : (py.line == pos.line) = true)
    (ha : (scope.names.any fun (n, k) => n == y && (k == .local || k == .cell)) = false) : swapsWith (.DictComp kx vx gs scope pos) (some (.Name y py)) l env = pure true := by
  have k1 : env.kindOf y = some .local := hy
  have k2 : env.blockKind = .function := by unfold Env.blockKind; rw [hk]; rfl
  unfold swapsWith
  simp only [k2, k1, ha, Expr.pos, hl]
  rfl
/-- str(x) by an own __str__ -/
def rStrOwn (C : Addr) (sp : Sp) : List V → Hp → VK → Prop := fun xs H Q => ∃ (a dx : Addr) (fs : List (PySem.Str × V)), xs = [V.ref a] ∧ H a = some (.ins C dx fs) ∧ sp [.ref a] H (fun v H' => ∃ z, v = .str z ∧ Q v H') E0
theorem call_strOwn {C g : Addr} {gd : FuncData} {n : Nat} {sp : Sp} (hs : PySem.W.findIn X.K (.ref C) "__str__" = some (some (.ref g))) (hf : PySem.W.isFn X.K (.ref g) = true) (F : FnOk X.prog X.w X.K X.mg X.base CX0 n g gd ["self"] sp) (hb : Binds X.K gd ["self"] []) (hr : Room (n + 2) X.A) : CallR X (.type "str") (rStrOwn C sp) := by
  intro pins s σ H xs us Q I r h
  obtain ⟨a, dx, fs, rfl, ha, q⟩ := h
  obtain ⟨u, rfl, ru⟩ := vals1 r
  cases ru
  obtain ⟨mA, om, _⟩ := ins_get I.hok ha
  obtain ⟨od, J, _⟩ := om.look
  have room : Room n X.A.in1.in1 := (show Room (n + 1) X.A.in1 from Room.in1 hr).in1
  have hu : X.A.in1.in1.units < cLine := by have := room.un; omega
  have rv : Vals [V.ref a] [Value.ref a] := .cons rfl .nil
  refine PySem.W.kso_call hu I.kIn J hs hf (wpAny_call (codeAny_mono (F.run X.A.in1.in1 X.stack s H ⟨[.ref a], []⟩ [.ref a] [.ref a] _ E0 room I.env0.in1.in1 (hb s [.ref a] I.kIn rfl) rv q) fun r z hq => ?_))
  cases r with
  | error e => exact hq.elim
  | ok fl =>
    cases fl with
    | ret v =>
      obtain ⟨y, H', J2, ry, t, ey, fin⟩ := I.after hq
      subst ey
      obtain ⟨tk, rfl⟩ := (show ∃ tk, v = Value.str t tk from ry)
      exact ⟨.str t, H', J2, ⟨tk, rfl⟩, fin⟩
    | _ => exact False.elim hq
end
end SH

set_option Elab.async false
set_option linter.all false
set_option maxRecDepth 100000
namespace SW
open PySem PySem.SeqAt PySem.Spec PyProof.Rows
open AutoSeq1 (wpAny_loadPart')
open MeetsSeq MeetsSeq2 MeetsSeq3 SeqRoads2
section
variable {M : Model} {prog : Program} {w : World} {A : Around} {E : Value → Shared → Prop} {s : Shared} {K : PySem.W.Frag} {x C f : Addr} {ox : Obj} {od : Option Obj} {b tb : Value}
/-- the != that every class has, bound -/
theorem bound_ne {args : List Value} {Q : Option Value → Shared → Prop} (KX : K.In s.heap) (J : PySem.W.InstAt s.heap x ox C od) (hN : PySem.W.findIn K (.ref C) "__ne__" = some (some (.builtin "object.__ne__")))
    (h : wpAny M A (call (.builtin "object.__ne__") (.ref x :: args)) (fun v => Q (some v)) E s) : wpAny M A (callSpecialIfBound? (.ref x) "__ne__" args) Q E s := by
  simp only [bindSpecialIfBound?, callSpecialIfBound?]
  refine wpAny_holding (wpAny_bind (wpAny_bind (wpAny_bind (J.type.here ((PySem.W.looks_findIn KX hN).here (wpAny_bind (wpAny_askSetting (wpAny_ite ?_))))))))
  have last : wpAny M A (call (.builtin "object.__ne__") ([.ref x] ++ args) >>= fun v => pure (some v)) Q E s := wpAny_bind (wpAny_mono h (fun _ _ z => wpAny_pure z) fun _ _ z => z)
  split
  · exact wpAny_bind (wpAny_of_eq (F.cmp_object.ne.bind _) (wpAny_pure (by exact last)))
  · exact wpAny_tryCatch (wpAny_bind (wpAny_of_eq (F.cmp_object.ne.bind _) (wpAny_pure (by exact last))))
theorem ne_entry {Q : Fin → Shared → Prop} (KX : K.In s.heap) (J : PySem.W.InstAt s.heap x ox C od) (hE : PySem.W.findIn K (.ref C) "__eq__" = some (some (.ref f))) (hf : PySem.W.isFn K (.ref f) = true) (hu : A.units < cLine)
    (hc : wpAny M A (call (.ref f) [.ref x, b]) (fun v s' => ∃ r, v = .bool r ∧ Q (.done (.ret (.bool (!r)))) s') E s) : wpAny M A (Builtin.«object.__ne__» ⟨[.ref x, b], []⟩) Q E s := by
  unfold Builtin.«object.__ne__»
  repeat (first
    | with_reducible refine wpAny_cRoomFor hu ?_
    | (refine wpAny_bind (m := callSpecialIfBound? (.ref x) (Str.ofString "__eq__") [b]) (PySem.W.ifBound_K KX J hE hf (wpAny_mono hc (fun r s' z => by
          obtain ⟨t, rfl, q⟩ := z
          repeat (first | exact q | exact wpAny_pure q | exact wpAny_truthy_bool q | (refine wpAny_bind (m := truthy (.bool _)) (wpAny_truthy_bool ?_)) | wp_step)) fun _ _ z => z)))
    | wp_step)
theorem rc_ne {Q : Value → Shared → Prop} (hu : A.units + 1 < cLine) (KX : K.In s.heap) (J : PySem.W.InstAt s.heap x ox C od) (hb : PySem.W.Looks (model prog w) s.heap (typeOf b) tb) (hn : PySem.W.notFirst K C tb = true)
    (hN : PySem.W.findIn K (.ref C) "__ne__" = some (some (.builtin "object.__ne__"))) (hE : PySem.W.findIn K (.ref C) "__eq__" = some (some (.ref f))) (hf : PySem.W.isFn K (.ref f) = true) (hm : PySem.W.mroIn K C (.type "object") = some true)
    (hc : wpAny (model prog w) A.in1 (call (.ref f) [.ref x, b]) (fun v s' => ∃ r, v = .bool r ∧ Q (.bool (!r)) s') E s) : wpAny (model prog w) A (richCompare .NotEq (.ref x) b) Q E s := by
  have one : wpAny (model prog w) A (tryCompare (.ref x) "__ne__" b) (fun r s' => ∃ v, r = some v ∧ Q v s') E s := by
    unfold tryCompare
    refine wpAny_bind (bound_ne KX J hN (wpAny_call (codeAny_call_builtin F.cmp_object.ne.plain F.cmpEntry_ne (PySem.W.check_slot F.cmpKind_ne F.cmpSplit_ne (J.type.andThen (PySem.W.looks_mroIn KX hm)) (F.cmpArgs_ne _ _)
      (ne_entry (A := A.in1) KX J hE hf hu (wpAny_mono hc (fun v s' z => ?_) fun _ _ z => z))))))
    obtain ⟨r, rfl, q⟩ := z
    exact ⟨r, rfl, wpAny_pure ⟨_, rfl, q⟩⟩
  unfold richCompare
  simp only [oneThing_ref, cmpInfo_NotEq]
  refine wpAny_holding (wpAny_bind (wpAny_cRoomFor (by omega) (wpAny_bind (J.type.here (wpAny_bind (hb.here ?_))))))
  split
  · rename_i q
    have e : PySem.W.subIn K tb (.ref C) = some false := by
      rcases Bool.or_eq_true_iff.mp hn with e | e
      · rw [beq_iff_eq.mp e] at q
        simp at q
      · exact beq_iff_eq.mp e
    refine wpAny_bind ((PySem.W.looks_subIn KX e).here ?_)
    simp only [Bool.false_eq_true, if_false]
    refine wpAny_bind (wpAny_mono one (fun r s' z => ?_) fun _ _ z => z)
    obtain ⟨v, rfl, k⟩ := z
    exact wpAny_pure k
  · refine wpAny_bind (wpAny_pure ?_)
    simp only [Bool.false_eq_true, if_false]
    refine wpAny_bind (wpAny_mono one (fun r s' z => ?_) fun _ _ z => z)
    obtain ⟨v, rfl, k⟩ := z
    exact wpAny_pure k
/-- the right one's own == is asked where the left one, of a built-in type, knows nothing of it -/
theorem rc_back {u : Value} {T : String} {Q : Value → Shared → Prop} (hu : A.units < cLine) (KX : K.In s.heap) (J : PySem.W.InstAt s.heap x ox C od) (hT : s.TypeIs u T) (hs : PySem.W.mroIn K C (.type T) = some false)
    (hE : PySem.W.findIn K (.ref C) "__eq__" = some (some (.ref f))) (hf : PySem.W.isFn K (.ref f) = true) (no : wpAny (model prog w) A (tryCompare u "__eq__" (.ref x)) (fun r s' => r = none ∧ s' = s) E s)
    (hc : wpAny (model prog w) A (call (.ref f) [.ref x, u]) (fun v s' => ∃ r, v = .bool r ∧ Q (.bool r) s') E s) : wpAny (model prog w) A (richCompare .Eq u (.ref x)) Q E s := by
  have two : wpAny (model prog w) A (tryCompare (.ref x) "__eq__" u) (fun r s' => ∃ v, r = some v ∧ Q v s') E s := by
    unfold tryCompare
    refine wpAny_bind (PySem.W.ifBound_K KX J hE hf (wpAny_mono hc (fun v s' z => ?_) fun _ _ z => z))
    obtain ⟨r, rfl, q⟩ := z
    exact wpAny_pure ⟨_, rfl, q⟩
  simp only [richCompare, cmpInfo_Eq, hT.oneThing_none]
  refine wpAny_holding (wpAny_bind (wpAny_cRoomFor hu ?_))
  refine wpAny_bind (wpAny_typeOf hT (wpAny_bind (J.type.here ?_)))
  split
  · refine wpAny_bind ((PySem.W.looks_mroIn KX hs).here ?_)
    simp only [Bool.not_false, Bool.false_eq_true, if_true, if_false]
    refine wpAny_bind (m := tryCompare u _ (.ref x)) (wpAny_mono no (fun r s1 z => ?_) fun _ _ z => z)
    obtain ⟨rfl, rfl⟩ := z
    refine wpAny_bind (m := tryCompare (.ref x) _ u) (wpAny_mono two (fun r s2 z => ?_) fun _ _ z => z)
    obtain ⟨v, rfl, k⟩ := z
    exact wpAny_pure k
  · rename_i q
    exact absurd (by simp) q
/-- y is the one item of a list: is x in it? -/
theorem in_one {l : Addr} {y v : Value} {its : Array Value} {n : Nat} {dd : Option Addr} {sl : Array (Option Value)} {Q : Value → Shared → Prop} (i0 : its[0]? = some y) (hl : s.heap.get? l = some { cls := .type "list", dict := dd, data := .seq its n, slots := sl })
    (he : wpAny (model prog w) A.in1 (eqBool y v) (fun r s' => (∃ (its' : Array Value) (n' : Nat) (dd' : Option Addr) (sl' : Array (Option Value)), its'[1]? = none ∧ s'.heap.get? l = some { cls := .type "list", dict := dd', data := .seq its' n', slots := sl' }) ∧ Q (.bool r) s') E s) : wpAny (model prog w) A (compareOp .In v (.ref l)) Q E s := by
  show wpAny _ A (do return .bool (← contains (.ref l) v)) Q E s
  refine wpAny_bind (wpAny_contains_slot ⟨_, hl, rfl⟩ F.slot_list_contains (wpAny_mono (Q := fun z s' => ∃ r, z = .bool r ∧ Q (.bool r) s') (GQ.call_here F.slot_list_contains ⟨_, hl, rfl⟩ F.entry_list_contains (F.args_list_contains_2 _ _) ?_) (fun z s' hz => ?_) fun _ _ z => z))
  · obtain ⟨hp, g, d, tk, os⟩ := s
    wp_walk using wpAny_loadPart' hl
    refine ⟨plainId_quiet plain_contains_loop _, codeAny_builtin entry_contains_loop ?_⟩
    rw [Around.under_plainId plain_contains_loop _]
    have e0 : its[((0 : Nat) : Int).toNat]? = some y := i0
    have e0' : its[(0 : Int).toNat]? = some y := i0
    wp_walk using wpAny_loadPart' hl
    first | rw [e0] | rw [e0'] | rw [i0]
    refine wpAny_bind (wpAny_mono he (fun r s2 z => ?_) fun _ _ z => z)
    obtain ⟨⟨its', n', dd', sl', i1', hl2⟩, q⟩ := z
    obtain ⟨hp2, g2, d2, tk2, os2⟩ := s2
    cases r with
    | true =>
      wp_walk
      exact ⟨true, rfl, q⟩
    | false =>
      wp_walk
      refine ⟨plainId_quiet plain_contains_loop _, codeAny_builtin entry_contains_loop ?_⟩
      rw [Around.under_plainId plain_contains_loop _]
      have e1 : its'[((0 : Int) + 1).toNat]? = none := i1'
      wp_walk using wpAny_loadPart' hl2
      first | rw [e1] | rw [i1']
      wp_walk
      exact ⟨false, rfl, q⟩
  · obtain ⟨r, rfl, q⟩ := hz
    exact wpAny_truthy_bool (wpAny_pure q)
/-- what knows nothing of an instance -/
theorem no_none (hx : s.heap.get? x = some ox) : wpAny (model prog w) A (tryCompare .none "__eq__" (.ref x)) (fun r s' => r = none ∧ s' = s) E s :=
  wpAny_tryCompare_declines (T := "NoneType") rfl F.slot_NoneType_eq_refl (GQ.call_here F.slot_NoneType_eq_refl rfl F.entry_NoneType_eq (F.args_NoneType_eq_2 _ _) (by
    obtain ⟨hp, g, d, tk, os⟩ := s
    wp_walk
    exact ⟨rfl, rfl, rfl⟩))
theorem no_int {i : Int} {t : Tok} {dx : Addr} (hx : s.heap.get? x = some (PySem.W.instObj C dx)) : wpAny (model prog w) A (tryCompare (.int i t) "__eq__" (.ref x)) (fun r s' => r = none ∧ s' = s) E s :=
  wpAny_tryCompare_declines (T := "int") rfl F.slot_int_eq_refl (GQ.call_here F.slot_int_eq_refl rfl F.entry_int_eq (F.args_int_eq_2 _ _) (by
    obtain ⟨hp, g, d, tk, os⟩ := s
    wp_walk using wpAny_loadPart' hx, wpAny_load hx
    exact ⟨rfl, rfl, rfl⟩))
theorem no_bool {i : Bool} {dx : Addr} (hx : s.heap.get? x = some (PySem.W.instObj C dx)) : wpAny (model prog w) A (tryCompare (.bool i) "__eq__" (.ref x)) (fun r s' => r = none ∧ s' = s) E s :=
  wpAny_tryCompare_declines (T := "bool") rfl F.slot_bool_eq_refl (GQ.call_here F.slot_bool_eq_refl rfl F.entry_int_eq (F.args_int_eq_2 _ _) (by
    obtain ⟨hp, g, d, tk, os⟩ := s
    wp_walk using wpAny_loadPart' hx, wpAny_load hx
    exact ⟨rfl, rfl, rfl⟩))
theorem no_str {i : Str} {t : Tok} {dx : Addr} (hx : s.heap.get? x = some (PySem.W.instObj C dx)) : wpAny (model prog w) A (tryCompare (.str i t) "__eq__" (.ref x)) (fun r s' => r = none ∧ s' = s) E s :=
  wpAny_tryCompare_declines (T := "str") rfl F.slot_str_eq_refl (GQ.call_here F.slot_str_eq_refl rfl F.entry_str_eq (F.args_str_eq_2 _ _) (by
    obtain ⟨hp, g, d, tk, os⟩ := s
    wp_walk using wpAny_loadPart' hx, wpAny_load hx
    exact ⟨rfl, rfl, rfl⟩))
theorem no_list {l : Addr} {its : Array Value} {n : Nat} {dd : Option Addr} {sl : Array (Option Value)} (hl : s.heap.get? l = some { cls := .type "list", dict := dd, data := .seq its n, slots := sl }) (KX : K.In s.heap) (J : PySem.W.InstAt s.heap x ox C od) (hm : PySem.W.mroIn K C (.type "list") = some false) :
    wpAny (model prog w) A (tryCompare (.ref l) "__eq__" (.ref x)) (fun r s' => r = none ∧ s' = s) E s :=
  wpAny_tryCompare_declines (T := "list") ⟨_, hl, rfl⟩ F.slot_list_eq_refl (GQ.call_here F.slot_list_eq_refl ⟨_, hl, rfl⟩ F.entry_list_eq (F.args_list_eq_2 _ _) (by
    have e : PySem.W.Looks (model prog w) s.heap (isInstance (.ref x) (.type "list")) false := J.type.andThen (PySem.W.looks_mroIn KX hm)
    obtain ⟨hp, g, d, tk, os⟩ := s
    wp_walk using wpAny_loadPart' hl, e.here
    exact ⟨rfl, rfl, rfl⟩))
theorem no_tup {l : Addr} {its : Array Value} {n : Nat} {dd : Option Addr} {sl : Array (Option Value)} (hl : s.heap.get? l = some { cls := .type "tuple", dict := dd, data := .seq its n, slots := sl }) (KX : K.In s.heap) (J : PySem.W.InstAt s.heap x ox C od) (hm : PySem.W.mroIn K C (.type "tuple") = some false) :
    wpAny (model prog w) A (tryCompare (.ref l) "__eq__" (.ref x)) (fun r s' => r = none ∧ s' = s) E s :=
  wpAny_tryCompare_declines (T := "tuple") ⟨_, hl, rfl⟩ F.slot_tuple_eq_refl (GQ.call_here F.slot_tuple_eq_refl ⟨_, hl, rfl⟩ F.entry_tuple_eq (F.args_tuple_eq_2 _ _) (by
    have e : PySem.W.Looks (model prog w) s.heap (isInstance (.ref x) (.type "tuple")) false := J.type.andThen (PySem.W.looks_mroIn KX hm)
    obtain ⟨hp, g, d, tk, os⟩ := s
    wp_walk using wpAny_loadPart' hl, e.here
    exact ⟨rfl, rfl, rfl⟩))
end
end SW

set_option Elab.async false
set_option linter.all false
set_option maxRecDepth 100000
namespace SH
open PySem PySem.Spec PyProof.Rows L2
/-- a class with its own ==, and nothing else of that kind -/
structure OwnQ (K : PySem.W.Frag) (C f : Addr) : Prop where
  eq : PySem.W.findIn K (.ref C) "__eq__" = some (some (.ref f))
  fn : PySem.W.isFn K (.ref f) = true
  ne : PySem.W.findIn K (.ref C) "__ne__" = some (some (.builtin "object.__ne__"))
  obj : PySem.W.mroIn K C (.type "object") = some true
  li : PySem.W.mroIn K C (.type "list") = some false
  tu : PySem.W.mroIn K C (.type "tuple") = some false
  it : PySem.W.mroIn K C (.type "int") = some false
  bo : PySem.W.mroIn K C (.type "bool") = some false
  st : PySem.W.mroIn K C (.type "str") = some false
  no : PySem.W.mroIn K C (.type "NoneType") = some false
/-- a promise that gives a truth -/
def Tru (sp : Sp) (a : Addr) (y : V) (H : Hp) (Q : Bool → Hp → Prop) : Prop := sp [.ref a, y] H (fun z H' => ∃ r, z = .bl r ∧ Q r H') E0
section
variable {X : Cx} {n : Nat} {C f : Addr} {fd : FuncData} {ps : List PySem.Str} {sp : Sp} {pins : List (Addr × Obj)} {σ : L2.St} {H : Hp} {s : Shared}
theorem own_run (F : FnOk X.prog X.w X.K X.mg X.base CX0 n f fd ps sp) (hb : Binds X.K fd ps []) {A : Around} (sb : Sub X n A) (I : Inv X pins σ H s) {a : Addr} {y : V} {v : Value} (ry : RelV y v) {Q : Bool → Hp → Prop} (q : Tru sp a y H Q) :
    wpAny (model X.prog X.w) A (call (.ref f) [.ref a, v]) (fun r s' => ∃ z H', r = .bool z ∧ Inv X pins σ H' s' ∧ Q z H') X.xe s := by
  have e0 : Env0 X.prog X.w X.K X.mg X.base A X.stack s H := by
    have e := I.env0
    exact ⟨by rw [sb.fr]; exact e.frames, e.mod, e.bs, e.bsz, e.funs, e.frf, e.hok, e.bare⟩
  have hl := F.len _ _ _ _ q
  have rv : Vals [V.ref a, y] [Value.ref a, v] := .cons rfl (.cons ry .nil)
  refine wpAny_call (codeAny_mono (F.run A X.stack s H ⟨[.ref a, v], []⟩ [.ref a, v] [.ref a, y] _ E0 sb.room e0 (by
    have := hb s [.ref a, v] I.kIn (by simpa using hl)
    simpa using this) rv q) fun r s' hq => ?_)
  cases r with
  | error e => exact hq.elim
  | ok fl =>
    cases fl with
    | ret w =>
      obtain ⟨z, H', I', rz, t, rfl, k⟩ := I.after hq
      cases rz
      exact ⟨t, H', rfl, I', k⟩
    | next => exact False.elim hq
    | brk => exact False.elim hq
    | cont => exact False.elim hq
def rEqO (K : PySem.W.Frag) (C : Addr) (sp : Sp) (neg : Bool) : R2 := fun x y H Q => ∃ (a dx : Addr) (fs : List (PySem.Str × V)) (t : Value), x = .ref a ∧ H a = some (.ins C dx fs) ∧ TyX K H y t ∧ PySem.W.notFirst K C t = true ∧ Tru sp a y H fun r H' => Q (.bl (if neg then !r else r)) H'
theorem rc_own (T : OwnQ X.K C f) (F : FnOk X.prog X.w X.K X.mg X.base CX0 n f fd ps sp) (hb : Binds X.K fd ps []) {A : Around} (sb : Sub X n A) (I : Inv X pins σ H s) {a dx : Addr} {fs : List (PySem.Str × V)} {y : V} {v t : Value} (ha : H a = some (.ins C dx fs)) (ry : RelV y v) (ty : TyX X.K H y t) (nf : PySem.W.notFirst X.K C t = true) {Q : Bool → Hp → Prop} (q : Tru sp a y H Q) :
    wpAny (model X.prog X.w) A (richCompare .Eq (.ref a) v) (fun r s' => ∃ z H', r = .bool z ∧ Inv X pins σ H' s' ∧ Q z H') X.xe s := by
  obtain ⟨mA, om, _⟩ := ins_get I.hok ha
  obtain ⟨od, J, _⟩ := om.look
  obtain ⟨P, Z, p, _⟩ := kit_of I ry ty
  obtain ⟨m, hF⟩ := I.fr
  refine PySem.W.cmp_K (op := .Eq) sb.room.units0 hF I.ok.mod.kin J (Z.ty _ _ I.kIn p) nf T.eq T.fn (wpAny_mono (own_run F hb sb I ry q) (fun r s' z => ?_) fun _ _ z => z)
  obtain ⟨t, H', rfl, k⟩ := z
  exact ⟨t, H', rfl, k⟩
theorem op_eqO (T : OwnQ X.K C f) (F : FnOk X.prog X.w X.K X.mg X.base CX0 n f fd ps sp) (hb : Binds X.K fd ps []) (hr : Room n X.A) : OpR X (compareOp .Eq) (rEqO X.K C sp false) := by
  intro pins s σ H x y v u Q I rx ry h
  obtain ⟨a, dx, fs, t, rfl, ha, ty, nf, q⟩ := h
  cases rx
  refine (show wpAny (model X.prog X.w) X.A (richCompare .Eq (.ref a) u) _ _ s from wpAny_mono (rc_own T F hb ⟨hr, rfl⟩ I ha ry ty nf q) (fun r s' z => ?_) fun _ _ z => z)
  obtain ⟨t, H', rfl, I', k⟩ := z
  exact ⟨.bl t, H', I', rfl, k⟩
theorem op_neO (T : OwnQ X.K C f) (F : FnOk X.prog X.w X.K X.mg X.base CX0 n f fd ps sp) (hb : Binds X.K fd ps []) (hr : Room (n + 1) X.A) : OpR X (compareOp .NotEq) (rEqO X.K C sp true) := by
  intro pins s σ H x y v u Q I rx ry h
  obtain ⟨a, dx, fs, t, rfl, ha, ty, nf, q⟩ := h
  cases rx
  obtain ⟨mA, om, _⟩ := ins_get I.hok ha
  obtain ⟨od, J, _⟩ := om.look
  obtain ⟨P, Z, p, _⟩ := kit_of I ry ty
  have hu : X.A.units + 1 < cLine := hr.in1.units0
  refine (show wpAny (model X.prog X.w) X.A (richCompare .NotEq (.ref a) u) _ _ s from SW.rc_ne hu I.kIn J (Z.ty _ _ I.kIn p) nf T.ne T.eq T.fn T.obj (wpAny_mono (own_run F hb ⟨hr.in1, rfl⟩ I ry q) (fun r s' z => ?_) fun _ _ z => z))
  obtain ⟨t, H', rfl, I', k⟩ := z
  exact ⟨t, rfl, .bl (!t), H', I', rfl, k⟩
/-- b in [a], both of the class, not the same -/
def rInO (K : PySem.W.Frag) (C : Addr) (sp : Sp) : R2 := fun x y H Q => ∃ (a b l dx : Addr) (fs : List (PySem.Str × V)) (t : Value), x = .ref b ∧ y = .ref l ∧ b ≠ a ∧ H l = some (.lst [.ref a]) ∧ H a = some (.ins C dx fs) ∧ TyX K H x t ∧ PySem.W.notFirst K C t = true ∧ Tru sp a x H fun r H' => H' l = some (.lst [.ref a]) ∧ Q (.bl r) H'
theorem op_inO (T : OwnQ X.K C f) (F : FnOk X.prog X.w X.K X.mg X.base CX0 n f fd ps sp) (hb : Binds X.K fd ps []) (hr : Room (n + 1) X.A) : OpR X (compareOp .In) (rInO X.K C sp) := by
  intro pins s σ H x y v u Q I rx ry h
  obtain ⟨a, b, l, dx, fs, t, rfl, rfl, ne, hl, ha, ty, nf, q⟩ := h
  cases rx
  cases ry
  obtain ⟨_, its, n0, rv, hl1⟩ := (show ObjOk X.prog X.w H s.heap l (.lst [.ref a]) from I.hok l _ hl)
  obtain ⟨u1, e1, r1⟩ := vals1 rv
  subst e1
  cases r1
  refine SW.in_one (y := .ref a) rfl hl1 (GQ.eqBool_refG (Ne.symm ne) (wpAny_mono (rc_own T F hb ⟨hr.in1, rfl⟩ I ha (show RelV (.ref b) (.ref b) from rfl) ty nf q) (fun r s' z => ?_) fun _ _ z => z))
  obtain ⟨t, H', rfl, I', hl', k⟩ := z
  obtain ⟨_, its', n1, rv', hl2⟩ := (show ObjOk X.prog X.w H' s'.heap l (.lst [.ref a]) from I'.hok l _ hl')
  obtain ⟨u2, e2, _⟩ := vals1 rv'
  subst e2
  exact ⟨t, rfl, ⟨_, _, _, _, rfl, hl2⟩, .bl t, H', I', rfl, k⟩
/-- a thing of a built-in type -/
inductive Alien (H : Hp) : V → Prop where
  | non : Alien H .non
  | bl (b : Bool) : Alien H (.bl b)
  | int (i : Int) : Alien H (.int i)
  | str (z : PySem.Str) : Alien H (.str z)
  | lst {p : Addr} {xs : List V} (e : H p = some (.lst xs)) : Alien H (.ref p)
  | tup {p : Addr} {xs : List V} (e : H p = some (.tup xs)) : Alien H (.ref p)
theorem Alien.ty {K : PySem.W.Frag} {H : Hp} {C : Addr} {z : V} (h : Alien H z) : ∃ t, TyX K H z t ∧ PySem.W.notFirst K C t = true := by
  have no : ∀ T l, fastBuiltinMro T = some l → l.contains (Value.ref C) = false → PySem.W.notFirst K C (.type T) = true := fun T l e c => by
    have : PySem.W.subIn K (.type T) (.ref C) = some false := by
      show (fastBuiltinMro T).map (·.contains (.ref C)) = some false
      rw [e, Option.map_some, c]
    unfold PySem.W.notFirst
    rw [this]
    simp
  cases h with
  | non => exact ⟨_, .base .non, no "NoneType" [.type "NoneType", .type "object"] (by decide +kernel) (by simp)⟩
  | bl b => exact ⟨_, .base (.bl b), no "bool" [.type "bool", .type "int", .type "object"] (by decide +kernel) (by simp)⟩
  | int i => exact ⟨_, .base (.int i), no "int" [.type "int", .type "object"] (by decide +kernel) (by simp)⟩
  | str z => exact ⟨_, .base (.str z), no "str" [.type "str", .type "object"] (by decide +kernel) (by simp)⟩
  | lst e => exact ⟨_, .base (.lst e), no "list" [.type "list", .type "object"] (by decide +kernel) (by simp)⟩
  | tup e => exact ⟨_, .base (.tup e), no "tuple" [.type "tuple", .type "object"] (by decide +kernel) (by simp)⟩
theorem eq_alien (T : OwnQ X.K C f) (F : FnOk X.prog X.w X.K X.mg X.base CX0 n f fd ps sp) (hb : Binds X.K fd ps []) {A : Around} (sb : Sub X n A) (I : Inv X pins σ H s) {a dx : Addr} {fs : List (PySem.Str × V)} {z : V} {v : Value} (ha : H a = some (.ins C dx fs)) (rz : RelV z v) (al : Alien H z) {Q : Bool → Hp → Prop} (q : Tru sp a z H Q) :
    wpAny (model X.prog X.w) A (eqBool v (.ref a)) (fun r s' => ∃ H', Inv X pins σ H' s' ∧ Q r H') X.xe s := by
  obtain ⟨mA, om, _⟩ := ins_get I.hok ha
  obtain ⟨od, J, _⟩ := om.look
  have run := own_run F hb sb I rz q
  have hu := sb.room.units0
  have back : ∀ {T' : String}, s.TypeIs v T' → PySem.W.mroIn X.K C (.type T') = some false → wpAny (model X.prog X.w) A (tryCompare v "__eq__" (.ref a)) (fun r s' => r = none ∧ s' = s) X.xe s →
      wpAny (model X.prog X.w) A (richCompare .Eq v (.ref a)) (fun w s' => ∃ r H', w = .bool r ∧ Inv X pins σ H' s' ∧ Q r H') X.xe s := fun hT hm no =>
    SW.rc_back hu I.kIn J hT hm T.eq T.fn no (wpAny_mono run (fun w s' k => by
      obtain ⟨r, H', rfl, I', k⟩ := k
      exact ⟨r, rfl, r, H', rfl, I', k⟩) fun _ _ k => k)
  have flat : (v == Value.ref a) = false → (∀ bits tok, v ≠ .float bits tok) → wpAny (model X.prog X.w) A (richCompare .Eq v (.ref a)) (fun w s' => ∃ r H', w = .bool r ∧ Inv X pins σ H' s' ∧ Q r H') X.xe s →
      wpAny (model X.prog X.w) A (eqBool v (.ref a)) (fun r s' => ∃ H', Inv X pins σ H' s' ∧ Q r H') X.xe s := fun ne _ h => by
    unfold eqBool
    refine wpAny_holding (wpAny_ite_split (fun k => absurd k (by rw [ne]; simp)) fun _ => ?_)
    have go : wpAny (model X.prog X.w) A (do let r ← richCompare .Eq v (.ref a); truthOfDropped r) (fun r s' => ∃ H', Inv X pins σ H' s' ∧ Q r H') X.xe s := by
      refine wpAny_bind (wpAny_mono h (fun w s' k => ?_) fun _ _ k => k)
      obtain ⟨r, H', rfl, I', k⟩ := k
      exact wpAny_truthy_bool ⟨H', I', k⟩
    cases v <;> exact go
  cases al with
  | non =>
    cases rz
    exact flat rfl (fun _ _ k => nomatch k) (back rfl T.no (SW.no_none J.at_))
  | bl b =>
    cases rz
    exact flat rfl (fun _ _ k => nomatch k) (back rfl T.bo (SW.no_bool J.at_))
  | int i =>
    obtain ⟨t, rfl⟩ := rz
    exact flat rfl (fun _ _ k => nomatch k) (back rfl T.it (SW.no_int J.at_))
  | str i =>
    obtain ⟨t, rfl⟩ := rz
    exact flat rfl (fun _ _ k => nomatch k) (back rfl T.st (SW.no_str J.at_))
  | @lst p xs e =>
    cases rz
    obtain ⟨_, its, n0, _, hl⟩ := (show ObjOk X.prog X.w H s.heap p (.lst xs) from I.hok p _ e)
    have ne : p ≠ a := fun k => by
      rw [k, ha] at e
      cases e
    exact flat (by simpa using ne) (fun _ _ k => nomatch k) (back ⟨_, hl, rfl⟩ T.li (SW.no_list hl I.kIn J T.li))
  | @tup p xs e =>
    cases rz
    obtain ⟨_, its, _, o, h1, h2, n0, h3⟩ := (show ObjOk X.prog X.w H s.heap p (.tup xs) from I.hok p _ e)
    have ne : p ≠ a := fun k => by
      rw [k, ha] at e
      cases e
    obtain ⟨oc, od', dt, sl⟩ := o
    simp only at h2 h3
    subst h2 h3
    exact flat (by simpa using ne) (fun _ _ k => nomatch k) (back ⟨_, h1, rfl⟩ T.tu (SW.no_tup h1 I.kIn J T.tu))
/-- a in [z], z of a built-in type -/
def rInB (C : Addr) (sp : Sp) : R2 := fun x y H Q => ∃ (a l dx : Addr) (fs : List (PySem.Str × V)) (z : V), x = .ref a ∧ y = .ref l ∧ H l = some (.lst [z]) ∧ H a = some (.ins C dx fs) ∧ Alien H z ∧ Tru sp a z H fun r H' => H' l = some (.lst [z]) ∧ Q (.bl r) H'
theorem op_inB (T : OwnQ X.K C f) (F : FnOk X.prog X.w X.K X.mg X.base CX0 n f fd ps sp) (hb : Binds X.K fd ps []) (hr : Room (n + 1) X.A) : OpR X (compareOp .In) (rInB C sp) := by
  intro pins s σ H x y v u Q I rx ry h
  obtain ⟨a, l, dx, fs, z, rfl, rfl, hl, ha, al, q⟩ := h
  cases rx
  cases ry
  obtain ⟨_, its, n0, rv, hl1⟩ := (show ObjOk X.prog X.w H s.heap l (.lst [z]) from I.hok l _ hl)
  obtain ⟨u1, e1, r1⟩ := vals1 rv
  subst e1
  refine SW.in_one (y := u1) rfl hl1 (wpAny_mono (eq_alien T F hb ⟨hr.in1, rfl⟩ I ha r1 al q) (fun r s' k => ?_) fun _ _ k => k)
  obtain ⟨H', I', hl', k⟩ := k
  obtain ⟨_, its', n1, rv', hl2⟩ := (show ObjOk X.prog X.w H' s'.heap l (.lst [z]) from I'.hok l _ hl')
  obtain ⟨u2, e2, _⟩ := vals1 rv'
  subst e2
  exact ⟨⟨_, _, _, _, rfl, hl2⟩, .bl r, H', I', rfl, k⟩
end
end SH

set_option Elab.async false
set_option linter.all false
set_option maxRecDepth 100000
/-! repr of plain data; defs that ask for it, which are called where no such text is under way. -/
namespace SH
open PySem PySem.Spec PyProof.Rows L2
/-- a def's promise, where no guard stands around the call -/
structure FnG (P : Program) (w : World) (K : PySem.W.Frag) (mg : PySem.Str → Option Value) (base : Heap) (k : Nat) (f : Addr) (fd : FuncData) (ps : List PySem.Str) (sp : Sp) : Prop where
  len : ∀ vs H Q E, sp vs H Q E → vs.length = ps.length
  run : ∀ (A : Around) (outer : List Env) (s : Shared) (H : Hp) (args : Args) (us : List Value) (vs : List V) (Q : VK) (E : XK), A.guards = some [] → Room k A → Env0 P w K mg base A outer s H →
    BindsTo s fd args (ps.zip us) → Vals vs us → sp vs H Q E → codeAny (model P w) A (.call (.ref f) args) (CR CX0 outer P w H s Q E) s
section
variable {P : Program} {w : World} {K : PySem.W.Frag} {mg : PySem.Str → Option Value} {base : Heap}
theorem FnG.of {k : Nat} {f : Addr} {fd : FuncData} {ps : List PySem.Str} {sp : Sp} (F : FnOk P w K mg base CX0 k f fd ps sp) : FnG P w K mg base k f fd ps sp :=
  ⟨F.len, fun A outer s H args us vs Q E _ => F.run A outer s H args us vs Q E⟩
theorem FnG.mono {j k : Nat} {f : Addr} {fd : FuncData} {ps : List PySem.Str} {sp : Sp} (F : FnG P w K mg base j f fd ps sp) (h : j ≤ k) : FnG P w K mg base k f fd ps sp :=
  ⟨F.len, fun A outer s H args us vs Q E g r => F.run A outer s H args us vs Q E g (r.mono h)⟩
/-- a def of the text, by its body -/
theorem okG {x qual : PySem.Str} {st : Stmt} {f : Addr} {fd : FuncData} {N ps : List PySem.Str} {k : Nat} {sp : Sp} (F : Fun K x qual st f fd) (S : FnScope N ps (defScope st)) (len : ∀ vs H Q E, sp vs H Q E → vs.length = ps.length)
    (body : ∀ (cdv : Value) (A : Around) (outer : List Env) (s : Shared) (H : Hp) (vs : List V) (Q : VK) (E : XK), (A.deeper (envOfC qual (defScope st) s.heap.objs.size f cdv)).guards = some [] → Room k (A.deeper (envOfC qual (defScope st) s.heap.objs.size f cdv)) → sp vs H Q E →
      ∃ t, PSs (cxOf CX0 P w K mg base N qual (defScope st) f cdv A outer s H E).nox (defBody st) t ∧ t { nx := fun _ H' => Q .non H', rt := Q } (start N vs) H) : FnG P w K mg base (k + 1) f fd ps sp := by
  obtain ⟨oc, od, kV, doc, pm, an, cdv, ct, osl, rfl, look, code⟩ := F.ex
  refine ⟨len, ?_⟩
  intro A outer s H args us vs Q E gd room env bind rel want
  have many := len _ _ _ _ want
  have still : ∀ b o, base.get? b = some o → s.heap.get? b = some o := fun b o e => (env.bs b o e).1
  have inK := env.mod.kin.keeps still
  refine codeAny_call_function room.depth (inK _ _ look) rfl S.co S.gen rfl (PySem.W.codeRec_of inK code) (bind _ _ _ _ ?_)
  refine wpAny_newFunctionEnv_cells S.kind ?_ fun env' he s1 made => ?_
  · rintro ⟨n, v⟩ hy
    cases S.par n (List.of_mem_zip hy).1 with
    | inl q => exact .inl q
    | inr q => exact .inr ⟨q, PySem.W.cellsFrom_some _ _ _ (.inl q)⟩
  subst he
  refine ⟨(env.mod.nolimit.keeps still).keeps made.toInCall.keep, codeAny_func ?_⟩
  obtain ⟨t, ht, hq⟩ := body cdv A outer s H vs Q E gd (room.deeper _) want
  have begun : Inv (cxOf CX0 P w K mg base N qual (defScope st) f cdv A outer s H E) [] (start N vs) H s1 := inv_start S room.hd env many rel made
  refine wpAny_mono (ht.nox.run [] s1 _ H _ begun hq) (fun fl s' out => ?_) fun _ _ out => out
  cases fl with
  | ret u => exact let ⟨v, _, H', J, rv, q⟩ := out; ⟨v, H', J.os, J.bare, J.base, J.hok, rv, q⟩
  | next => exact let ⟨_, H', J, q⟩ := out; ⟨V.non, H', J.os, J.bare, J.base, J.hok, rfl, q⟩
  | brk => exact (let ⟨_, _, _, q⟩ := out; False.elim q)
  | cont => exact (let ⟨_, _, _, q⟩ := out; False.elim q)
end
section
variable {X : Cx}
/-- f(..) of such a def -/
theorem pe_callG {k : Nat} {f : Addr} {fd : FuncData} {ps : List PySem.Str} {sp : Sp} {x : PySem.Str} {p pos : Pos} {e : Expr} {es : List Expr} {t : TA} (F : FnG X.prog X.w X.K X.mg X.base k f fd ps sp) (gd : X.A.guards = some []) (hr : Room k X.A) (hg : Gl X x) (hm : X.mg x = some (.ref f)) (hk : PySem.W.keepIn X.K (.ref f) = true) (hb : Binds X.K fd ps [])
    (ha : PA X (e :: es) t) (hdb : (x == ("__debug__" : PySem.Str)) = false := by decide) (he : starEach (e :: es) X.env = (false, eval e X.env) :: starEach es X.env := by rfl) (hpl : (backTo pos (starEach es X.env)).any (·.1) = false := by rfl) :
    PE X (.Call (.Name x p) (e :: es) [] pos) (tCall sp [] E0 t) := by
  constructor
  intro pins s σ H Q I h
  refine wpAny_Call_Name_kw (ld_glob I hg hm ?_ hdb)
  refine PySem.W.callWith_K (h₀ := X.base) I.ok.mod.kin hk (thn (ha.run pos pins s σ H _ I h) ?_) he hpl
  rintro us s1 ⟨vs, H1, I1, r, q⟩
  rw [List.append_nil] at q
  refine ⟨I1.kIn, wpAny_call (codeAny_mono (F.run X.A X.stack s1 H1 ⟨us, []⟩ us vs Q E0 gd hr I1.env0 ?_ r q) fun r' s' hq => ?_)⟩
  · have := hb s1 us I1.kIn (by rw [List.append_nil, ← r.length]; exact F.len _ _ _ _ q)
    rwa [List.append_nil] at this
  · cases r' with
    | error e => exact False.elim hq
    | ok fl =>
      cases fl with
      | ret u => exact I1.after hq
      | next => exact False.elim hq
      | brk => exact False.elim hq
      | cont => exact False.elim hq
/-- repr(x), x a list or tuple of plain data -/
def rRepr (K : PySem.W.Frag) : List V → Hp → VK → Prop := fun xs H Q => ∃ (a : Addr) (d : PyData), xs = [.ref a] ∧ Dp K H (.ref a) d ∧ d.showable = true ∧ d.hasDict = false ∧ d.depth ≤ 60 ∧ d.shown.length ≤ sizeLine ∧ Q (.str d.shown) H
theorem call_reprD (gd : X.A.guards = some []) (hu : X.A.units + 64 < cLine) : CallR X (.builtin "repr") (rRepr X.K) := by
  intro pins s σ H xs us Q I r h
  obtain ⟨a, d, rfl, dp, sh, nd, de, sz, q⟩ := h
  obtain ⟨u, rfl, ru⟩ := vals1 r
  cases ru
  obtain ⟨as, rd⟩ := Dp.reads I d _ _ dp rfl
  refine repr_of_reads' rd sh (fun z => by rw [nd] at z; cases z) gd (by omega) (fun _ _ e => e) (fun h' t tk kp => ?_) sz
  exact ⟨.str d.shown, H, I.kept (t' := tk) kp, ⟨_, rfl⟩, q⟩
theorem call_reprK (K : PySem.W.Frag) (gd : X.A.guards = some []) (hu : X.A.units + 64 < cLine) (hK : X.K = K := by rfl) : CallR X (.builtin "repr") (rRepr K) := hK ▸ call_reprD gd hu
end
/-! ### the beginning -/
/-- the heap in which the script alone is known, and what comes of the law's end -/
theorem law_begin {P : Program} {w : World} {K : PySem.W.Frag} {mg mb : PySem.Str → Option Value} {a : Addr} {s₁ : Shared} {vs : List Value} {ns : List Int} (inK : K.In s₁.heap) (gl : s₁.heap.Ns mainGlobals mg) (bl : s₁.heap.Ns builtinsNs mb) (boot : ∀ x : PySem.Str, x ≠ "__name__" → mb x = bootBuiltins x) (nl : s₁.heap.NoLimit) (gens : s₁.gens = #[])
    (at_ : s₁.heap.get? a = some { cls := .type "list", data := .seq vs.toArray }) (hin : IntsAre vs ns) (few : ns.length ≤ sizeLine) :
    ∃ (H : Hp) (base : Heap), SqL K H a (ns.map V.int) ∧ Env0 P w K mg base callerA [] s₁ H ∧ K.In base ∧ base.Ns mainGlobals mg ∧ ∀ (r : Result) (s' : Shared), CR CX0 [] P w H s₁ (fun v _ => v = .bl true) E0 r s' → r = .ok (.ret (.bool true)) ∧ OldK s₁.heap s'.heap ∧ s'.os = s₁.os ∧ AllBare s'.gens := by
  have vals := vals_ints hin
  have many := hin.length
  -- any heap that knows no more than the script, as it lies there
  have any : ∀ H : Hp, (∀ b u, H b = some u → b = a ∧ K.lookup a = none ∧ ∃ o xs, u = .frz o xs) → SqL K H a (ns.map V.int) → HOk P w H s₁.heap →
      ∃ (H : Hp) (base : Heap), SqL K H a (ns.map V.int) ∧ Env0 P w K mg base callerA [] s₁ H ∧ K.In base ∧ base.Ns mainGlobals mg ∧ ∀ (r : Result) (s' : Shared), CR CX0 [] P w H s₁ (fun v _ => v = .bl true) E0 r s' → r = .ok (.ret (.bool true)) ∧ OldK s₁.heap s'.heap ∧ s'.os = s₁.os ∧ AllBare s'.gens := by
    intro H only sq ok
    have clear : ∀ {b : Addr} {o : Obj}, s₁.heap.get? b = some o → (b = a → K.lookup a = none → False) → (hidT s₁.heap H).get? b = some o := fun {b o} e no => by
      refine hidT_get e ?_
      cases q : H b with
      | none => rfl
      | some u => exact (no (only b u q).1 (only b u q).2.1).elim
    have ns' : ∀ {b : Addr} {m : PySem.Str → Option Value}, s₁.heap.Ns b m → (hidT s₁.heap H).Ns b m := by
      rintro b m ⟨o, es, ep, e, d, r⟩
      refine ⟨o, es, ep, clear e fun z _ => ?_, d, r⟩
      subst z
      rw [at_] at e
      cases e
      cases (show Data.seq vs.toArray _ = Data.dict es ep from d)
    have kb : K.In (hidT s₁.heap H) := fun b o e => clear (inK b o e) fun z n => by
      subst z
      rw [n] at e
      cases e
    refine ⟨H, hidT s₁.heap H, sq, ⟨rfl, ⟨kb, ns' gl, ⟨mb, ns' bl, boot⟩, ?_⟩, fun b o e => of_hidT e, Nat.le_of_eq (hidT_size _ _), trivial, ?_, ok, .of_eq gens⟩, kb, ns' gl, ?_⟩
    · obtain ⟨mc, h1, h2⟩ := nl
      exact ⟨mc, ns' h1, h2⟩
    · intro b hb
      cases (show b ∈ ([] : List Addr) from hb)
    · intro r s' h
      cases r with
      | error e => exact False.elim h
      | ok fl =>
        cases fl with
        | next => exact False.elim h
        | brk => exact False.elim h
        | cont => exact False.elim h
        | ret u =>
          obtain ⟨v, H', os, bare, un, ok', rv, q⟩ := h
          cases (show v = .bl true from q)
          cases (show u = Value.bool true from rv)
          refine ⟨rfl, OldK.of_keep fun b o e => ?_, os, bare⟩
          cases q : H b with
          | none => exact un.keep b o e q (fun z => by cases (show b ∈ ([] : List Addr) from z)) (by simp)
          | some u =>
            obtain ⟨_, _, ob, xs, rfl⟩ := only b u q
            have e1 := (ok b _ q).1
            rw [e] at e1
            cases e1
            exact (ok' b _ (un.frzs b _ _ q)).1
  cases look : K.lookup a with
  | some o =>
    have e := inK a o look
    rw [at_] at e
    cases e
    refine any (fun _ => none) (fun b u z => by cases z) ?_ (fun b u z => by cases (show (none : Option HO) = some u from z))
    exact .inr ⟨_, vs.toArray, _, look, rfl, rfl, rfl, by rw [List.size_toArray, many]; exact few, by simpa using vals⟩
  | none =>
    refine any (fun b => if b = a then some (.frz { cls := .type "list", data := .seq vs.toArray } (.lst (ns.map V.int))) else none) ?_ (.inl (.inr ⟨{ cls := .type "list", data := .seq vs.toArray }, if_pos rfl⟩)) ?_
    · intro b u z
      by_cases hb : b = a
      · rw [if_pos hb] at z
        cases z
        exact ⟨hb, look, _, _, rfl⟩
      · rw [if_neg hb] at z
        cases z
    · intro b u z
      by_cases hb : b = a
      · have z' := (if_pos hb).symm.trans z
        cases z'
        subst hb
        exact ⟨at_, by rw [List.length_map]; exact few, vs, _, vals, at_⟩
      · cases (if_neg hb).symm.trans z
/-- the law's walk, from such a promise of it -/
theorem walk_G {l : PySem.W.OpenLaw} {k : Nat} {q : Program} {loose : List PySem.Str} {XP : (PySem.Str → Option Value) → Heap → Prop} {YP : World → Heap → Prop} {d : DefRec} {K : Params → PySem.W.Frag} {sp : PySem.W.Frag → Sp} (most : l.most = some 63) (nodf : d.params.defaults = []) (room : Room k callerA)
    (hY : ∀ (w : World) (h : Heap), YP w h → (K w.params).In h)
    (F : ∀ (w : World) (mg : PySem.Str → Option Value) (fa : Addr) (h : Heap), (K w.params).In h → h.Ns mainGlobals mg → mg d.name = some (.ref fa) →
      ∃ fd : FuncData, (∀ (s : Shared) (u : Value), BindsTo s fd ⟨[u], []⟩ [("_law_script", u)]) ∧ ∀ base : Heap, (K w.params).In base → base.Ns mainGlobals mg → FnG l.prog w (K w.params) mg base k fa fd ["_law_script"] (sp (K w.params)))
    (hsp : ∀ (K : PySem.W.Frag) (H : Hp) (a : Addr) (ns : List Int), ns.length ≤ 63 → SqL K H a (ns.map V.int) → sp K [.ref a] H (fun v _ => v = .bl true) E0) :
    PySem.W.WalkO q loose XP YP l.row.toRowW d [] (fun f vs => PySem.call f vs) := by
  refine Att.attach_call most nodf fun w s₀ s₁ mg mb fa o pm cd doc a vs ns G Y ho hd hcd hmg hobj hints hlen hg => ?_
  obtain ⟨fd, hb, hF⟩ := F w mg fa _ (hY w _ Y) G.T.g hmg
  obtain ⟨H, base, sq, env, kb, nb, out⟩ := law_begin (P := l.prog) (w := w) (hY w _ Y) G.T.g G.T.b G.T.builtins G.T.nolimit hg hobj hints (Nat.le_trans hlen (by decide))
  exact codeAny_mono ((hF base kb nb).run callerA [] s₁ H ⟨[.ref a], []⟩ [.ref a] [.ref a] _ _ rfl room env (hb s₁ (.ref a)) (.cons rfl .nil) (hsp _ H a ns hlen sq)) out
end SH

set_option Elab.async false
set_option linter.all false
set_option maxRecDepth 100000
set_option maxHeartbeats 2000000
/-! Errors of one's own whose __init__ says super().__init__(f'..') and keeps its one argument: raw. -/
namespace SH
open PySem PySem.W PySem.Calls PySem.Spec PyProof.Rows PySem.HandSPX
section
variable {prog : Program} {w : World} {A : Around} {E : Value → Shared → Prop} {R : Result → Shared → Prop} {h : Heap} {g : Array GenState} {d : Drawn} {t : Nat} {os : OsState}
open Builtin Builtin.ObjectAttr
/-- the first field stored on an error, whatever built-in it comes of -/
theorem osaB {K : Frag} {name : PySem.Str} {tk : Tok} {v : Value} {x C : Addr} {fv : Array Value} {cd : ClassData}
    (X : K.In h) (hx : h.get? x = some { cls := .ref C, data := .fields fv }) (hcd : clsIn K C = some cd) (some_ : cd.mro.isEmpty = false) (obj : cd.mro.contains (.type "object") = true) (pass : ∀ self : Value, refuseLoop self "__setattr__" cd.mro = pure ()) (hh : cd.hasDict = true) (ha : findIn K (.ref C) name = some none)
    (out : ∀ h' tk' dx, (∀ b o, b ≠ x → h.get? b = some o → h'.get? b = some o) → h.objs.size ≤ dx → dx ≠ x → h'.get? x = some { cls := .ref C, dict := some dx, data := .fields fv } →
      h'.Ns1 dx (fun y => if y = name then some v else none) → R (.ok (.ret .none)) ⟨h', g, d, tk', os⟩) :
    codeAny (model prog w) A (.call (.builtin "object.__setattr__") ⟨[.ref x, .str name tk, v], []⟩) R ⟨h, g, d, t, os⟩ := by
  have I : InstAt h x { cls := .ref C, data := .fields fv } C none := ⟨hx, rfl, rfl, trivial⟩
  have xs : x ≠ h.objs.size := Nat.ne_of_lt (Heap.lt_size hx)
  have S := F.store_object
  have under : Looks (model prog w) h (isInstance (.ref x) (.type "object")) true := I.type.andThen (looks_mroIn X (by unfold mroIn; rw [hcd, Option.bind_some, if_neg (by rw [some_]; decide), obj]))
  have mro : Looks (model prog w) h (mroOf (.ref C)) cd.mro := (looks_clsIn X hcd).andThen .now
  have none_ : Looks (model prog w) h (storeTaker? none) none := .now
  have data : Looks (model prog w) h (classData C) cd := looks_clsIn X hcd
  refine codeAny_call_builtin S.slot.plain S.entry (@check_slot (model prog w) _ _ ⟨h, g, d, t, os⟩ "object.__setattr__" "object" "__setattr__" (.ref x) [.str name tk, v] [] _ S.kind S.split under (S.args (.ref x) (.str name tk) v) ?_)
  rw [osa_eq, refuse_eq]
  refine wpAny_bind (wpAny_bind (I.type.at (wpAny_bind (mro.at ?_))))
  rw [pass]
  refine wpAny_pure (wpAny_bind (I.type.at (wpAny_bind ((looks_findIn X ha).at (wpAny_bind (none_.at ?_))))))
  show wpAny _ _ (storeInOwnDict (.ref x) (.ref C) (.str name tk) name v false) _ _ _
  obtain ⟨_, _, _, _, _, hd, _, _, _, _, _⟩ := cd
  dsimp only at hh
  subst hh
  unfold storeInOwnDict ownDictForStores
  repeat (first | with_reducible refine store_in_new ?_ ?_ | with_reducible refine wpAny_loadPart_at hx ?_ | with_reducible refine data.at ?_ | wp_step)
  · exact ⟨_, #[], _,
      (Heap.get?_update_ne _ _ _ _ xs.symm).trans (Heap.get?_push_at rfl rfl), rfl,
      fun e he => absurd he (by simp), fun _ => rfl⟩
  · intro h' tk' ns same
    have there : (h.push { cls := .type "dict", data := .dict #[] }).get? x = some { cls := .ref C, data := .fields fv } := Heap.get?_push_of_some _ hx
    refine out h' tk' h.objs.size ?_ (Nat.le_refl _) xs.symm ((same.2 x xs).trans (Heap.get?_update_self _ there rfl)) ns
    intro b o hb ho
    exact (same.2 b (Nat.ne_of_lt (Heap.lt_size ho))).trans ((Heap.get?_update_ne _ _ _ _ hb).trans (Heap.get?_push_of_some _ ho))
/-- the bound __init__ of the built-in called: new args, nothing else -/
theorem call_mw {nm q : PySem.Str} {C N : Addr} {bs bm bmB : List Value} {hdct : Bool} {sn : List PySem.Str} {sub : List Value} {ab : Bool} {col : Option Bool} {dd : Option Addr} {k0 k1 k2 k3 k5 : Option Value} {B newId i : String} (FB : ExcBaseFacts B newId i bmB) (lt : i.startsWith "lifetime." = false) {u e t0 : Addr} {rest : List Value} {Q : Value → Shared → Prop}
    (hC : h.get? C = some (excClassObj nm q C N bs bm hdct sn sub ab col dd k0 k1 k2 k3 k5 newId)) (he : h.get? e = some (excO C t0)) (hu : h.get? u = some (kxs_mw i e)) (hz : rest.length ≤ sizeLine)
    (out : ∀ h' t1, (∀ b o, b ≠ e → h.get? b = some o → h'.get? b = some o) → h'.get? e = some (excO C t1) → Q .none ⟨h', g, d, t, os⟩) :
    wpAny (model prog w) A (call (.ref u) rest) Q E ⟨h, g, d, t, os⟩ := by
  refine wpAny_call (codeAny_of_tree ?_)
  show wpAny _ A.in1 (callAny (.ref u) ⟨rest, []⟩) _ _ _
  simp only [callAny]
  refine wpAny_bind (wpAny_load hu ?_)
  simp only [show (Value.type "method-wrapper" == Value.type "method" || Value.type "method-wrapper" == Value.type "builtin_function_or_method" || Value.type "method-wrapper" == Value.type "method-wrapper") = true by decide, if_true]
  refine KFB.if_so (by decide) ?_
  refine wpAny_bind (ESX.check_bound FB hC he rfl ?_)
  refine wpAny_bind (wpAny_pure (wpAny_pure ?_))
  refine ⟨Code.quiet_builtin _ lt, codeAny_builtin FB.initEntry ?_⟩
  rw [Around.under_plainId FB.init.plain _]
  wp_walk
  refine out _ h.objs.size ?_ ?_
  · intro b o hb ho
    rw [Heap.get?_update_other _ _ (Ne.symm hb)]
    exact Heap.get?_push_of_some _ ho
  · rw [Heap.get?_update_self _ (Heap.get?_push_of_some _ he) rfl]
    rfl
/-- what may stand in the f-string -/
def Fmt (v : Value) : Prop := (∃ y t, v = .str y t ∧ y.length ≤ 100000) ∨ ∃ i t, v = .int i t ∧ i.natAbs.log2 < 1920
theorem ldN {M : Model} {s : Shared} {env : Env} {m : PySem.Str → Option Value} {y : PySem.Str} {pos : Pos} {v : Value} {Q : Value → Shared → Prop} (hk : env.scope.kind = .function) (hl : env.kindOf y = some .local) (hn : s.heap.Ns env.locals m) (hv : m y = some v) (hd : (y == ("__debug__" : PySem.Str)) = false) (q : Q v s) : wpAny M A (eval (.Name y pos) env) Q E s := wpAny_Name (wpAny_loadName_local hk hl hn hv q) hd
/-- {f} -/
theorem fmt_any {s : Shared} {env : Env} {m : PySem.Str → Option Value} {f : PySem.Str} {pf pv : Pos} {v : Value} {Q : Value → Shared → Prop} (hk : env.scope.kind = .function) (hl : env.kindOf f = some .local) (hn : s.heap.Ns env.locals m) (hv : m f = some v) (hd : (f == ("__debug__" : PySem.Str)) = false) (hF : Fmt v)
    (q : ∀ (y : PySem.Str) (t tk : Nat), y.length ≤ 100000 → Q (.str y t) { s with toks := tk }) : wpAny (model prog w) A (eval (.FormattedValue (.Name f pf) (-1) none pv) env) Q E s := by
  have hs : sizeLine = 16777216 := by decide
  refine wpAny_FormattedValue_plain (ldN hk hl hn hv hd ?_)
  rcases hF with ⟨y, t, rfl, l⟩ | ⟨i, t, rfl, l⟩
  · exact wpAny_formatField_str (q y t s.toks l) (q y _ _ l) (by omega)
  · refine wpAny_formatField_int l (q _ _ _ ?_)
    have e := int_text_length_le (a := i) (k := 1920) (by decide) l
    rw [PySem.ofString_length]
    omega
/-- f'a{f}' and f'a{f}b' -/
theorem js_any {s : Shared} {env : Env} {m : PySem.Str → Option Value} {f a b : PySem.Str} {j1 j2 : Nat} {pf pv pa pb pos : Pos} {v : Value} {parts : List Expr} {Q : Value → Shared → Prop} (hp : parts = [.Constant (.str a) j1 pa, .FormattedValue (.Name f pf) (-1) none pv] ∨ parts = [.Constant (.str a) j1 pa, .FormattedValue (.Name f pf) (-1) none pv, .Constant (.str b) j2 pb])
    (la : a.length ≤ 1000) (lb : b.length ≤ 1000) (hk : env.scope.kind = .function) (hl : env.kindOf f = some .local) (hn : s.heap.Ns env.locals m) (hv : m f = some v) (hd : (f == ("__debug__" : PySem.Str)) = false) (hF : Fmt v)
    (q : ∀ (y : PySem.Str) (t tk : Nat), Q (.str y t) { s with toks := tk }) : wpAny (model prog w) A (eval (.JoinedStr parts pos) env) Q E s := by
  have hs : sizeLine = 16777216 := by decide
  have e0 : (Str.empty ++ a).length = a.length := by rw [strLen_append]; exact Nat.zero_add _
  have step : ∀ {e : Expr} {es : List Expr}, evalEach (e :: es) env = eval e env :: evalEach es env := fun {e es} => by first | rfl | simp [evalEach]
  have stop : evalEach [] env = [] := by first | rfl | simp [evalEach]
  have add : ∀ x y : PySem.Str, (x ++ y).length = x.length + y.length := fun x y => by rw [strLen_append]
  rcases hp with rfl | rfl
  · refine wpAny_JoinedStr ?_
    rw [step, step, stop]
    refine Calls.Constant_str ⟨a, _, rfl, by omega, ?_⟩
    refine fmt_any (s := { s with toks := _ }) hk hl hn hv hd hF fun y t tk ly => ⟨y, t, rfl, by rw [add]; omega, ?_⟩
    exact ⟨by rw [add]; omega, q _ _ _⟩
  · refine wpAny_JoinedStr ?_
    rw [step, step, step, stop]
    refine Calls.Constant_str ⟨a, _, rfl, by omega, ?_⟩
    refine fmt_any (s := { s with toks := _ }) hk hl hn hv hd hF fun y t tk ly => ⟨y, t, rfl, by rw [add]; omega, ?_⟩
    refine Calls.Constant_str ⟨b, _, rfl, by rw [add, add]; omega, ?_⟩
    exact ⟨by rw [add, add]; omega, q _ _ _⟩
end
end SH

set_option Elab.async false
set_option linter.all false
set_option maxRecDepth 100000
set_option maxHeartbeats 2000000
namespace SH
open PySem PySem.W PySem.Calls PySem.Spec PyProof.Rows PySem.HandSPX
/-! ### the text of such an __init__ -/
def supA (f : PySem.Str) (p1 p2 : Pos) : Arguments := { posonlyargs := [], args := [{ arg := "self", annotation := none, pos := p1 }, { arg := f, annotation := none, pos := p2 }], vararg := none, kwonlyargs := [], kw_defaults := [], kwarg := none, defaults := [] }
def supB (f : PySem.Str) (js : List Expr) (p0 p1 p2 p3 p4 p5 q1 q2 q3 q4 : Pos) : List Stmt :=
  [.Expr (.Call (.Attribute (.Call (.Name "super" p0) [] [] p1) "__init__" p2) [.JoinedStr js p3] [] p4) p5, .Assign [.Attribute (.Name "self" q1) f q2] (.Name f q3) q4]
def supS (f : PySem.Str) : Scope := { kind := .function, names := [(PySem.Str.ofString "self", .local), (f, .local), (PySem.Str.ofString "__class__", .free), (PySem.Str.ofString "super", .globalImplicit)], isGenerator := false, isCoroutine := false, more := [] }
/-- what the written part says of such a class, at C, and of its __init__, at fI; B the built-in that it comes of -/
structure SupC (prog : Program) (K : Frag) (mg : PySem.Str → Option Value) (x f : PySem.Str) (C fI : Addr) (B newId i : String) (bmB : List Value) : Prop where
  gC : mg x = some (.ref C)
  FB : ExcBaseFacts B newId i bmB
  KF : KxsFacts B i
  lt : i.startsWith "lifetime." = false
  cls : ∃ nm q N bs bm sn sub ab col dd k0 k1 k2 k3 k5, K.lookup C = some (excClassObj nm q C N bs bm true sn sub ab col dd k0 k1 k2 k3 k5 newId) ∧ (∀ X : String, bm.contains (.type X) = bmB.contains (.type X)) ∧ (∀ self : Value, refuseLoop self "__setattr__" bm = pure ()) ∧ alongIn K "__init__" bm = some (some (.builtin i)) ∧ bm.contains (.type "object") = true
  sa : findIn K (.ref C) "__setattr__" = some (some (.builtin "object.__setattr__"))
  noF : findIn K (.ref C) f = some none
  iC : findIn K (.ref C) "__init__" = some (some (.ref fI))
  tC : typeIn K (.ref fI) = some (.type "function")
  kC : keepIn K (.ref C) = true
  exC : subIn K (.ref C) (.type "BaseException") = some true
  tyC : typeIn K (.ref C) = some (.type "type")
  hB : subIn K (.ref C) (.type B) = some true
  op : nsIn K cStatics "thirdparty.any" = some none
  sup : mg "super" = none
  top : (prog.main.scope.names.lookup ("super" : PySem.Str)).isSome = false
  self : (f == ("self" : PySem.Str)) = false
  dbg : (f == ("__debug__" : PySem.Str)) = false
  n3 : (supS f).names.lookup ("super" : PySem.Str) = some .globalImplicit
  n4 : (supS f).names.lookup ("__class__" : PySem.Str) = some .free
  fn : ∃ (oc : Value) (od : Option Addr) (dV kV doc pm : Value) (an : Option Addr) (cda : Addr) (ct : Value) (osl : Array (Option Value)) (cc : Addr) (q : PySem.Str) (js : List Expr) (p1 p2 r0 r1 r2 r3 r4 r5 q1 q2 q3 q4 : Pos),
    K.lookup fI = some ⟨oc, od, .func (ksFn "__init__" q (supA f p1 p2) (supB f js r0 r1 r2 r3 r4 r5 q1 q2 q3 q4) (supS f) dV kV doc pm an (.ref cda) ct cc), osl⟩ ∧ codeIn K (.ref cda) q = true ∧ (r2.endLine == r4.line) = true ∧ (∀ u v : Value, bindArgs (ksFn "__init__" q (supA f p1 p2) (supB f js r0 r1 r2 r3 r4 r5 q1 q2 q3 q4) (supS f) dV kV doc pm an (.ref cda) ct cc) ⟨[u, v], []⟩ = pure [(PySem.Str.ofString "self", u), (f, v)]) ∧
    (∃ (ccl : Value) (cdd : Option Addr) (vs : Array Value) (ccs : Array (Option Value)) (file : PySem.Str) (tf : Tok), K.lookup cda = some ⟨ccl, cdd, .fields vs, ccs⟩ ∧ vs[2]? = some (.str file tf) ∧ ((prog.main.file : PySem.Str) == file) = true) ∧
    (∃ (cl : Value) (cld : Option Addr) (csl : Array (Option Value)), K.lookup cc = some ⟨cl, cld, .cell (some (.ref C)), csl⟩) ∧
    ∃ (a b : PySem.Str) (j1 j2 : Nat) (pf pv pa pb : Pos), a.length ≤ 1000 ∧ b.length ≤ 1000 ∧ (js = [.Constant (.str a) j1 pa, .FormattedValue (.Name f pf) (-1) none pv] ∨ js = [.Constant (.str a) j1 pa, .FormattedValue (.Name f pf) (-1) none pv, .Constant (.str b) j2 pb])
/-- what __init__ leaves of a fresh error at x -/
structure SupEnd (h h' : Heap) (x C dx t1 : Addr) (f : PySem.Str) (v : Value) : Prop where
  keep : ∀ b o, b ≠ x → h.get? b = some o → h'.get? b = some o
  obj : h'.get? x = some { cls := .ref C, dict := some dx, data := .fields #[.ref t1, .none, .none, .none, .bool false, .none] }
  dbig : h.objs.size ≤ dx
  dne : dx ≠ x
  ns : h'.Ns1 dx (fun y => if y = f then some v else none)
section
variable {prog : Program} {w : World} {A : Around} {E : Value → Shared → Prop} {R : Result → Shared → Prop} {s : Shared} {K : Frag} {mg mb : PySem.Str → Option Value} {x f : PySem.Str} {C fI : Addr} {B newId i : String} {bmB : List Value}
theorem sup_init (T : SupC prog K mg x f C fI B newId i bmB) {e t0 : Addr} {v : Value} (X : K.In s.heap) (gl : s.heap.Ns mainGlobals mg) (bl : s.heap.Ns builtinsNs mb) (boot : mb "super" = some (.type "super")) (lim : s.heap.NoLimit) (he : s.heap.get? e = some (excO C t0)) (new : K.lookup e = none) (hF : Fmt v) (room : A.depth < recursionLimit)
    (out : ∀ h' tk dx t1, SupEnd s.heap h' e C dx t1 f v → R (.ok (.ret .none)) { s with heap := h', toks := tk }) : codeAny (model prog w) A (.call (.ref fI) ⟨[.ref e, v], []⟩) R s := by
  obtain ⟨oc, od, dV, kV, doc, pm, an, cda, ct, osl, cc, q, js, p1, p2, r0, r1, r2, r3, r4, r5, q1, q2, q3, q4, lk, hcd, hline, hbind, ⟨ccl, cdd, vs, ccs, file, tf, lc, hvs, hfile⟩, ⟨cl, cld, csl, lcell⟩, a, b, j1, j2, pf, pv, pa, pb, la, lb, hjs⟩ := T.fn
  obtain ⟨nm, qn, N, bs, bm, sn, sub, ab, col, dd, k0, k1, k2, k3, k5, lC, hT, pass, along, obj⟩ := T.cls
  have hcl : clsIn K C = some { name := nm, bases := bs, mro := .ref C :: bm, ns := N, qualname := qn, hasDict := true, slotNames := sn, subclasses := sub, abstract := ab, collection := col, hasDel := false } := by unfold clsIn; rw [lC] <;> rfl
  have l1 : (supS f).names.lookup ("self" : PySem.Str) = some .local := by simp [supS, List.lookup]
  have l2 : (supS f).names.lookup f = some .local := by
    simp only [supS, List.lookup, T.self]
    simp
  refine ks_codeAny_call_defAt (fd := ksFn "__init__" q (supA f p1 p2) (supB f js r0 r1 r2 r3 r4 r5 q1 q2 q3 q4) (supS f) dV kV doc pm an (.ref cda) ct cc) (binds := [(PySem.Str.ofString "self", .ref e), (f, v)]) room (X _ _ lk) rfl lim (codeRec_of X hcd) rfl (BindsTo.of_eq (hbind _ _)) ?_ ?_ (fun h₁ ns k => ?_)
  · intro y hy
    simp [supS] at hy
    rcases hy with rfl | rfl | rfl | rfl <;> (intro z; cases z)
  · intro y hy
    simp at hy
    rcases hy with rfl | rfl
    · exact l1
    · exact l2
  have hn : h₁.Ns s.heap.objs.size (fun y => [(f, v), (PySem.Str.ofString "self", Value.ref e)].lookup y) := ns
  have v1 : [(f, v), (PySem.Str.ofString "self", Value.ref e)].lookup f = some v := by simp [List.lookup]
  have v2 : [(f, v), (PySem.Str.ofString "self", Value.ref e)].lookup (PySem.Str.ofString "self") = some (Value.ref e) := by
    have : (PySem.Str.ofString "self" == f) = false := by
      have z := T.self
      rw [beq_eq_false_iff_ne] at z ⊢
      exact fun y => z y.symm
    simp [List.lookup, this]
  have X₁ : K.In h₁ := X.keeps k
  have he₁ := k _ _ he
  have nL : s.heap.objs.size ≠ e := Nat.ne_of_gt (Heap.lt_size he)
  obtain ⟨hp, g, d, t, os⟩ := s
  dsimp only at *
  show _root_.PySem.wpAt _ _ _ (execs (supB f js r0 r1 r2 r3 r4 r5 q1 q2 q3 q4) _) _ _ _
  unfold supB
  refine ks_wpAt_execs_cons (ks_wpAt_Expr_any (ks_wpAt_MethodCall (pl := pure false) ?_ (by
    rw [arm_eval_Call]
    unfold methodCall methodCallPos
    rw [hline]
    simp only [Bool.or_true, if_true, pure_bind]
    rfl)))
  refine ks_wpAt_super_base T.n3 T.n4 (by decide) rfl (X₁ _ _ lk) rfl rfl rfl (X₁ _ _ lc) rfl hvs hfile T.top ?_
  refine ks_loadName_global rfl T.n3 (loadGlobal_builtin (gl.keeps k) T.sup (bl.keeps k) boot ⟨rfl, ?_⟩)
  refine wpAny_loadName_free rfl T.n4 rfl ⟨_, X₁ _ _ lcell, rfl⟩ ?_
  refine wpAny_loadName_local rfl l1 hn v2 ?_
  have oC := X₁ _ _ lC
  refine ks_wpAny_isType_cls oC rfl ⟨rfl, ?_⟩
  have hself : mroIn K C (.ref C) = some true := by
    unfold mroIn
    rw [hcl]
    simp
  have eC : e ≠ C := fun z => by
    rw [z, lC] at new
    cases new
  refine ks_wpAny_call_super oC rfl he₁ rfl (fun c z => by cases z) (looks_mroIn X₁ hself) (fun h₂ so k₂ => ?_)
  have X₂ : K.In h₂ := X₁.keeps k₂
  have he₂ := k₂ _ _ he₁
  have I₂ : InstAt h₂ e (excO C t0) C none := ⟨he₂, rfl, rfl, trivial⟩
  have mro₂ : Looks (model prog w) h₂ (mroOf (.ref C)) (.ref C :: bm) := (looks_clsIn X₂ hcl).andThen .now
  refine kxs_getMethod T.KF so (looks_opaque X₂ T.op) mro₂ (ESX.drop_own C bm) X₂ along (I₂.type.andThen (looks_subIn X₂ T.hB)) eC (by decide) ?_
  -- the text, and the call
  have k₃ : ∀ b o, h₂.get? b = some o → (h₂.push (kxs_mw i e)).get? b = some o := fun b o z => Heap.get?_push_of_some _ z
  have hu : (h₂.push (kxs_mw i e)).get? h₂.objs.size = some (kxs_mw i e) := Heap.get?_push_at rfl rfl
  refine kxs_callWith (i := i) (x := e) (by rfl) ?_
  refine evalArgs_plain ?_
  refine Calls.spliced_cons ?_
  refine js_any (pos := r3) (f := f) (v := v) (m := fun y => [(f, v), (PySem.Str.ofString "self", Value.ref e)].lookup y) hjs la lb (by rfl) (by exact l2) (hn.keeps fun b o z => k₃ b o (k₂ b o z)) v1 T.dbg hF fun y ty tk => ?_
  refine Calls.spliced_nil ⟨hu, ?_⟩
  refine call_mw T.FB T.lt (k₃ _ _ (k₂ _ _ oC)) (k₃ _ _ he₂) hu (by show 1 ≤ sizeLine; decide) fun h₄ t1 k₄ he₄ => ?_
  -- self.f = f
  have k14 : ∀ b o, b ≠ e → h₁.get? b = some o → h₄.get? b = some o := fun b o ne z => k₄ b o ne (k₃ b o (k₂ b o z))
  have X₄ : K.In h₄ := fun b o z => k14 b o (fun y => by rw [y, new] at z; cases z) (X₁ b o z)
  have hn₄ : h₄.Ns hp.objs.size (fun y => [(f, v), (PySem.Str.ofString "self", Value.ref e)].lookup y) := by
    obtain ⟨o, es, ep, z, zd, zr⟩ := hn
    exact ⟨o, es, ep, k14 _ _ nL z, zd, zr⟩
  refine ks_wpAt_execs_cons (ks_wpAt_Assign_Attr (wpAt_of_wpAny ?_))
  refine ldN (by rfl) (by exact l2) hn₄ v1 T.dbg ?_
  refine ldN (by rfl) (by exact l1) hn₄ v2 (by decide) ?_
  refine set_plain X₄ (ox := excO C t1) (od := none) ⟨he₄, rfl, rfl, trivial⟩ T.sa ?_
  refine osaB X₄ he₄ hcl rfl (by show (Value.ref C :: bm).contains (.type "object") = true; rw [List.contains_cons, obj, Bool.or_true]) (fun self => by rw [refuseLoop_ref]; exact pass self) rfl T.noF (fun h₅ tk₅ dx k₅ dn dne hx₅ hn₅ => ?_)
  refine wpAt_of_wpAny (wpAny_execs_nil ?_)
  have z := hn₄.lt
  have z' : hp.objs.size ≤ dx := Nat.le_trans (Nat.le_of_lt z) dn
  exact out h₅ tk₅ dx t1 ⟨fun b o ne y => k₅ b o ne (k14 b o ne (k b o y)), hx₅, z', dne, hn₅⟩
/-- a made error of this kind -/
structure SupMade (h h' : Heap) (e C d : Addr) (f : PySem.Str) (v : Value) : Prop where
  keep : ∀ b o, h.get? b = some o → h'.get? b = some o
  new : h.objs.size ≤ e
  obj : ∃ oe vs, h'.get? e = some oe ∧ oe.cls = .ref C ∧ oe.dict = some d ∧ oe.data = .fields vs ∧ vs[1]? = some .none
  dbig : h.objs.size ≤ d
  dne : d ≠ e
  ns : h'.Ns1 d (fun y => if y = f then some v else none)
theorem sup_made (T : SupC prog K mg x f C fI B newId i bmB) {v : Value} (X : K.In s.heap) (gl : s.heap.Ns mainGlobals mg) (bl : s.heap.Ns builtinsNs mb) (boot : mb "super" = some (.type "super")) (lim : s.heap.NoLimit) (hF : Fmt v) (room : A.depth + 1 < recursionLimit)
    (out : ∀ h' tk e d, SupMade s.heap h' e C d f v → R (.ok (.ret (.ref e))) { s with heap := h', toks := tk }) : codeAny (model prog w) A (.call (.ref C) ⟨[v], []⟩) R s := by
  obtain ⟨nm, qn, N, bs, bm, sn, sub, ab, col, dd, k0, k1, k2, k3, k5, lC, hT, pass, along, obj⟩ := T.cls
  obtain ⟨hp, g, dr, tk, os⟩ := s
  have kk : ∀ b o, hp.get? b = some o → ((hp.push (kdv_tup [v])).push (excO C hp.objs.size)).get? b = some o := fun b o z => Heap.get?_push_of_some _ (Heap.get?_push_of_some _ z)
  have there : ((hp.push (kdv_tup [v])).push (excO C hp.objs.size)).get? (hp.objs.size + 1) = some (excO C hp.objs.size) := by heap_get
  have fresh : K.lookup (hp.objs.size + 1) = none := by
    cases z : K.lookup (hp.objs.size + 1) with
    | none => rfl
    | some o =>
      have y : hp.objs.size + 1 < hp.objs.size := Heap.lt_size (X _ _ z)
      exact absurd (Nat.lt_of_succ_lt y) (Nat.lt_irrefl _)
  refine call_own T.FB hT (X _ _ lC) (looks_findIn X T.iC) (fun self => bind_fn X self T.tC) (by show 1 ≤ sizeLine; decide) ?_
  refine sup_init (s := ⟨(hp.push (kdv_tup [v])).push (excO C hp.objs.size), g, dr, tk, os⟩) T (X.keeps kk) (gl.keeps kk) (bl.keeps kk) boot (lim.keeps kk) there fresh hF room fun h' tk' dx t1 D => ?_
  have big : hp.objs.size + 1 + 1 ≤ dx := by
    have y := D.dbig
    rw [Heap.size_push, Heap.size_push] at y
    exact y
  refine ⟨rfl, out h' tk' (hp.objs.size + 1) dx ⟨fun b o y => D.keep b o (Nat.ne_of_lt (Nat.lt_succ_of_lt (Heap.lt_size y))) (kk b o y), Nat.le_succ _, ⟨_, _, D.obj, rfl, rfl, rfl, rfl⟩, ?_, D.dne, D.ns⟩⟩
  show hp.objs.size ≤ dx
  omega
end
end SH

set_option Elab.async false
set_option linter.all false
set_option maxRecDepth 100000
set_option maxHeartbeats 2000000
/-! raise X(e), X such an error, as a rule. -/
namespace SH
open PySem PySem.Spec PyProof.Rows L2
/-- what may be told in its text -/
def FmtV (v : V) : Prop := (∃ y : PySem.Str, v = .str y ∧ y.length ≤ 100000) ∨ ∃ i : Int, v = .int i ∧ i.natAbs.log2 < 1920
theorem FmtV.fmt {v : V} {u : Value} (h : FmtV v) (r : RelV v u) : Fmt u := by
  rcases h with ⟨y, rfl, l⟩ | ⟨i, rfl, l⟩
  · obtain ⟨t, rfl⟩ := r
    exact .inl ⟨y, t, rfl, l⟩
  · obtain ⟨t, rfl⟩ := r
    exact .inr ⟨i, t, rfl, l⟩
section
variable {X : Cx} {x f : PySem.Str} {C fI : Addr} {B newId i : String} {bmB : List Value}
/-- X(e) -/
def tMkS (C : Addr) (f : PySem.Str) (ta : TA) : L2.St → Hp → XK → Prop := fun σ H Q => ta σ H fun vs H1 => ∃ v, vs = [v] ∧ FmtV v ∧ ∀ d, H1 d = none → Q (.ref C) (some d) (upd H1 d (.xd [(f, v)]))
theorem pmk_sup {a : Expr} {ta : TA} {p pos : Pos} {k : Nat} (T : SupC X.prog X.K X.mg x f C fI B newId i bmB) (hr : Room k X.A) (ha : PA X [a] ta) (hg : Gl X x) (hdb : (x == ("__debug__" : PySem.Str)) = false := by decide)
    (he : starEach (a :: []) X.env = (false, eval a X.env) :: starEach [] X.env := by rfl) (hpl : (backTo pos (starEach [] X.env)).any (·.1) = false := by rfl) :
    PMk X (.Call (.Name x p) [a] [] pos) (tMkS C f ta) := by
  intro pins s σ H Q I h
  refine wpAny_Call_Name_kw (ld_glob I hg T.gC ?_ hdb)
  refine PySem.W.callWith_K (h₀ := X.base) I.ok.mod.kin T.kC (thn (ha.run pos pins s σ H _ I h) ?_) he hpl
  rintro us s1 ⟨vs, H1, I1, r1, v, rfl, fv, q1⟩
  refine ⟨I1.kIn, ?_⟩
  obtain ⟨u, rfl, ru⟩ := vals1 r1
  show wpAny _ _ (call (.ref C) [u]) _ _ _
  have lim := I1.nolimit
  have gl := I1.ok.mod.glob.keeps I1.bk
  obtain ⟨mb, bl0, boot⟩ := I1.ok.mod.blt
  have bl := bl0.keeps I1.bk
  have sup : mb "super" = some (.type "super") := (boot _ (by decide)).trans (by decide +kernel)
  have kIn := I1.kIn
  obtain ⟨hp, g, dr, tk, os⟩ := s1
  refine wpAny_call (sup_made T kIn gl bl sup lim (fv.fmt ru) (by have := hr.dp; omega) fun h' tk' e d M => ?_)
  show MkP X pins σ Q (.ref e) ⟨h', g, dr, tk', os⟩
  obtain ⟨oe, vs, hoe, hc, hd, hdat, h1⟩ := M.obj
  have hns := M.ns
  -- all but the error itself
  obtain ⟨G', g1, g2⟩ := restrict h' fun b => decide (b ≠ e)
  have same : ∀ b, b ≠ e → G'.get? b = h'.get? b := fun b hb => g1 b (decide_eq_true hb)
  have gone : G'.get? e = none := g2 e (by simp)
  have old : ∀ b o, hp.get? b = some o → G'.get? b = some o := fun b o z => (same b (Nat.ne_of_lt (Nat.lt_of_lt_of_le (Heap.lt_size z) M.new))).trans (M.keep b o z)
  have ob : ObjOk X.prog X.w (upd H1 d (.xd [(f, v)])) G' d (.xd [(f, v)]) := ⟨_, hns.at (fun o z => (same d M.dne).trans z), relO_put (fs := []) ru fun _ => True.intro⟩
  have J : L2.Inv X pins σ (upd H1 d (.xd [(f, v)])) ⟨G', g, dr, tk', os⟩ := I1.laid (t' := tk') old M.dbig ob
  refine ⟨e, oe, vs, ⟨G', g, dr, tk', os⟩, _, .ref C, some d, rfl, J, ?_, gone, hoe, ⟨hc, hd⟩, hdat, h1, ?_, rfl, I1.bare, raises_own T.exC T.tyC, q1 d (I1.hok.fresh M.dbig)⟩
  · intro b o z
    by_cases hb : b = e
    · rw [hb] at z
      have z' : G'.get? e = some o := z
      rw [gone] at z'
      cases z'
    · exact (same b hb).symm.trans z
  · rw [upd_ne (Ne.symm M.dne)]
    exact I1.hok.fresh M.new
/-- raise X(e) -/
def tRaiseS (C : Addr) (f : PySem.Str) (W : WX) (ta : TA) : TS := fun _ σ H => tMkS C f ta σ H fun cls d H' => W cls d σ H'
theorem ps_raiseS {a : Expr} {ta : TA} {W : WX} {p pos pos2 : Pos} {k : Nat} (hc : X.calm = true) (T : SupC X.prog X.K X.mg x f C fI B newId i bmB) (hr : Room k X.A) (tk : Takes X W) (ha : PA X [a] ta) (hg : Gl X x) (hdb : (x == ("__debug__" : PySem.Str)) = false := by decide)
    (he : starEach (a :: []) X.env = (false, eval a X.env) :: starEach [] X.env := by rfl) (hpl : (backTo pos (starEach [] X.env)).any (·.1) = false := by rfl) :
    PS X (.Raise (some (.Call (.Name x p) [a] [] pos)) none pos2) (tRaiseS C f W ta) := ps_raise hc tk (pmk_sup T hr ha hg hdb he hpl)
end
end SH

set_option Elab.async false
set_option linter.all false
set_option maxRecDepth 100000
set_option maxHeartbeats 2000000
/-! Defs that are handed a caught error, within an except suite; isinstance of it there. -/
namespace SH
open PySem PySem.Spec PyProof.Rows L2
/-- a def's promise where p's object, an error, stands in the state and may be handed -/
structure FnE (P : Program) (w : World) (K : PySem.W.Frag) (mg : PySem.Str → Option Value) (base : Heap) (k : Nat) (f : Addr) (fd : FuncData) (ps : List PySem.Str) (sp : Addr → Value → Option Addr → Sp) : Prop where
  len : ∀ a cls d vs H Q E, sp a cls d vs H Q E → vs.length = ps.length
  run : ∀ (A : Around) (outer : List Env) (s : Shared) (H : Hp) (args : Args) (us : List Value) (vs : List V) (Q : VK) (E : XK) (p : Addr × Obj) (cls : Value) (d : Option Addr), L2H.RoomH k A → L2H.PinOk outer H s p → Zc cls d p.2 → (∃ vs, p.2.data = .fields vs) → Env0 P w K mg base A outer s H →
    BindsTo s fd args (ps.zip us) → Vals vs us → sp p.1 cls d vs H Q E → codeAny (model P w) A (.call (.ref f) args) (CR CX0 outer P w H s Q E) s
section
variable {P : Program} {w : World} {K : PySem.W.Frag} {mg : PySem.Str → Option Value} {base : Heap}
theorem okE {x qual : PySem.Str} {st : Stmt} {f : Addr} {fd : FuncData} {N ps : List PySem.Str} {k : Nat} {sp : Addr → Value → Option Addr → Sp} (F : Fun K x qual st f fd) (S : FnScope N ps (defScope st)) (len : ∀ a cls d vs H Q E, sp a cls d vs H Q E → vs.length = ps.length)
    (body : ∀ (cdv : Value) (A : Around) (outer : List Env) (s : Shared) (H : Hp) (vs : List V) (Q : VK) (E : XK) (p : Addr × Obj) (cls : Value) (d : Option Addr), Zc cls d p.2 → (∃ vs, p.2.data = .fields vs) → L2H.RoomH k (A.deeper (envOfC qual (defScope st) s.heap.objs.size f cdv)) → sp p.1 cls d vs H Q E →
      ∃ t, PSs (L2H.cxH CX0 P w K mg base N qual (defScope st) f cdv A outer s H E p) (defBody st) t ∧ t { nx := fun _ H' => Q .non H', rt := Q } (start N vs) H) : FnE P w K mg base (k + 1) f fd ps sp := by
  obtain ⟨oc, od, kV, doc, pm, an, cdv, ct, osl, rfl, look, code⟩ := F.ex
  refine ⟨len, ?_⟩
  intro A outer s H args us vs Q E p cls d room pin hz hf env bind rel want
  have many := len _ _ _ _ _ _ _ want
  have still : ∀ b o, base.get? b = some o → s.heap.get? b = some o := fun b o e => (env.bs b o e).1
  have inK := env.mod.kin.keeps still
  refine codeAny_call_function room.depth (inK _ _ look) rfl S.co S.gen rfl (PySem.W.codeRec_of inK code) (bind _ _ _ _ ?_)
  refine wpAny_newFunctionEnv_cells S.kind ?_ fun env' he s1 made => ?_
  · rintro ⟨n, v⟩ hy
    cases S.par n (List.of_mem_zip hy).1 with
    | inl q => exact .inl q
    | inr q => exact .inr ⟨q, PySem.W.cellsFrom_some _ _ _ (.inl q)⟩
  subst he
  refine ⟨(env.mod.nolimit.keeps still).keeps made.toInCall.keep, codeAny_func ?_⟩
  obtain ⟨t, ht, hq⟩ := body cdv A outer s H vs Q E p cls d hz hf (room.deeper _) want
  have begun : L2.Inv (L2H.cxH CX0 P w K mg base N qual (defScope st) f cdv A outer s H E p) [] (start N vs) H s1 := L2H.inv_startH S pin env many rel made
  refine wpAny_mono (ht.run [] s1 _ H _ begun hq) (fun fl s' out => ?_) fun _ _ out => out
  cases fl with
  | ret u => exact let ⟨v, _, H', J, rv, q⟩ := out; ⟨v, H', J.os, J.bare, J.base, J.hok, rv, q⟩
  | next => exact let ⟨_, H', J, q⟩ := out; ⟨V.non, H', J.os, J.bare, J.base, J.hok, rfl, q⟩
  | brk => exact (let ⟨_, _, _, q⟩ := out; False.elim q)
  | cont => exact (let ⟨_, _, _, q⟩ := out; False.elim q)
end
section
variable {X : Cx}
/-- f(e, ..) in a suite that holds the error at a -/
theorem pe_callE {k : Nat} {a : Addr} {oe : Obj} {pn : List (Addr × Obj)} {f : Addr} {fd : FuncData} {ps : List PySem.Str} {sp : Addr → Value → Option Addr → Sp} {cls : Value} {d : Option Addr} (hz : Zc cls d oe) (hf : ∃ vs, oe.data = .fields vs) {x : PySem.Str} {p pos : Pos} {e : Expr} {es : List Expr} {t : TA} (F : FnE X.prog X.w X.K X.mg X.base k f fd ps sp) (hr : L2H.RoomH k (X.suite a ((a, oe) :: pn)).A) (hg : Gl (X.suite a ((a, oe) :: pn)) x) (hm : X.mg x = some (.ref f)) (hk : PySem.W.keepIn X.K (.ref f) = true) (hb : Binds X.K fd ps [])
    (ha : PA (X.suite a ((a, oe) :: pn)) (e :: es) t) (hdb : (x == ("__debug__" : PySem.Str)) = false := by decide) (he : starEach (e :: es) X.env = (false, eval e X.env) :: starEach es X.env := by rfl) (hpl : (backTo pos (starEach es X.env)).any (·.1) = false := by rfl) :
    PE (X.suite a ((a, oe) :: pn)) (.Call (.Name x p) (e :: es) [] pos) (tCall (sp a cls d) [] E0 t) := by
  constructor
  intro pins s σ H Q I h
  refine wpAny_Call_Name_kw (ld_glob I hg hm ?_ hdb)
  refine PySem.W.callWith_K (h₀ := X.base) I.ok.mod.kin hk (thn (ha.run pos pins s σ H _ I h) ?_) he hpl
  rintro us s1 ⟨vs, H1, I1, r, q⟩
  rw [List.append_nil] at q
  have P1 := I1.pin (a, oe) (List.mem_append_left _ List.mem_cons_self)
  have pin : L2H.PinOk (X.suite a ((a, oe) :: pn)).stack H1 s1 (a, oe) := ⟨P1.1, P1.2.1, fun hm => (List.mem_cons.mp (I1.stkSub a hm)).elim P1.2.2.1 P1.2.2.2.1, P1.2.2.2.2⟩
  refine ⟨I1.kIn, wpAny_call (codeAny_mono (F.run _ _ s1 H1 ⟨us, []⟩ us vs Q E0 (a, oe) cls d hr pin hz hf I1.env0 ?_ r q) fun r' s' hq => ?_)⟩
  · have := hb s1 us I1.kIn (by rw [List.append_nil, ← r.length]; exact F.len _ _ _ _ _ _ _ q)
    rwa [List.append_nil] at this
  · cases r' with
    | error e => exact False.elim hq
    | ok fl =>
      cases fl with
      | ret u => exact I1.after hq
      | next => exact False.elim hq
      | brk => exact False.elim hq
      | cont => exact False.elim hq
/-- what the class of an error says, so that isinstance looks at it rightly -/
structure ErC (K : PySem.W.Frag) (D : Addr) : Prop where
  cl : (PySem.W.clsIn K D).isSome = true
  hg : PySem.W.findIn K (.ref D) "__getattribute__" = some (some (.builtin "BaseException.__getattribute__"))
  hk : PySem.W.findIn K (.ref D) "__getattr__" = some none
  hs : PySem.W.subIn K (.ref D) (.type "BaseException") = some true
  ha : PySem.W.findIn K (.ref D) "__class__" = some (some (.builtin "object.__class__"))
  hn : PySem.W.specialIn K (.builtin "object.__class__") "__get__" = some (some (.builtin "getset_descriptor.__get__"))
  ht : PySem.W.takesIn K (.builtin "object.__class__") = some true
  hm : PySem.W.mroIn K D (.type "object") = some true
/-- isinstance(e, c), e a pinned error of the class at D, its dict at dd -/
def rIsP (K : PySem.W.Frag) (D a dd : Addr) : List V → Hp → VK → Prop := fun xs H Q => ∃ (c : V) (cv : Value) (b : Bool) (fs : List (PySem.Str × V)), xs = [.ref a, c] ∧ (∀ u, RelV c u → u = cv) ∧ H dd = some (.xd fs) ∧ PySem.W.kitOne K (.ref D) cv = some b ∧ Q (.bl b) H
theorem call_isP {a D dd : Addr} {oe : Obj} (C : ErC X.K D) (hz : Zc (.ref D) (some dd) oe) (hf : ∃ vs, oe.data = .fields vs) (hp : (a, oe) ∈ X.pn) : CallR X (.builtin "isinstance") (rIsP X.K D a dd) := by
  intro pins s σ H xs us Q I r h
  obtain ⟨c, cv, b, fs, rfl, hcv, hd, e, q⟩ := h
  cases r with
  | cons rx rr =>
    cases rr with
    | cons rt rr =>
      cases rr
      cases rx
      have ec := hcv _ rt
      subst ec
      obtain ⟨hget, _⟩ := I.pin (a, oe) (List.mem_append.mpr (.inl hp))
      obtain ⟨mA, hns, _⟩ := (show ObjOk X.prog X.w H s.heap dd (.xd fs) from I.hok dd _ hd)
      obtain ⟨od, ho, _⟩ := lookIn_ns hns
      obtain ⟨vs, hv⟩ := hf
      have J : PySem.W.InstAt s.heap a oe D (some od) := ⟨hget, hz.1, by unfold PySem.W.notCls; rw [hv] <;> rfl, by rw [hz.2]; exact ho⟩
      exact PySem.W.kia_one (PySem.W.kitx_exc C.cl C.hg C.hk C.hs C.ha C.hn C.ht C.hm) I.kIn J e (fun z => nomatch z) fun tk => ⟨.bl b, H, I.kept (t' := tk) fun _ _ z => z, rfl, q⟩
/-- o.m(e, ..), what it raises wished for at the caller's slots -/
def tMethX (C : Addr) (m : PySem.Str) (sp : Sp) (E : L2.St → XK) (ta : TE) (t : TA) : TE := fun σ H Q => ta σ H fun x H1 => ∃ a dx fs, x = .ref a ∧ H1 a = some (.ins C dx fs) ∧ fs.lookup m = none ∧ t σ H1 fun vs H2 => sp (x :: vs) H2 Q (E σ)
theorem pe_methX {CX : CXT} {k : Nat} {f C : Addr} {fd : FuncData} {ps : List PySem.Str} {sp : Sp} {E : L2.St → XK} {m : PySem.Str} {pos apos : Pos} {e o : Expr} {es : List Expr} {ta : TE} {t : TA} {pl : Sem Bool} (he : PE X o ta) (c : Cls X.K C) (hm : Meth X.K C m f) (F : FnOk X.prog X.w X.K X.mg X.base CX k f fd ps sp) (hr : Room k X.A) (hb : Binds X.K fd ps []) (hx : ∀ σ, PassesAt CX X σ (E σ)) (ha : PA X (e :: es) t)
    (hst : starEach (e :: es) X.env = (false, eval e X.env) :: starEach es X.env := by rfl) (hpl : (backTo pos (starEach es X.env)).any (·.1) = false := by rfl)
    (ht : eval (.Call (.Attribute o m apos) (e :: es) [] pos) X.env = (do
      let ov ← eval o X.env
      standAt apos.atName
      let (f, first) ← holding [ov] (getMethod ov m pl)
      callWith pos f first (backTo pos (starEach (e :: es) X.env)) (backToKw pos (keywordEach [] X.env))) := by rfl) :
    PE X (.Call (.Attribute o m apos) (e :: es) [] pos) (tMethX C m sp E ta t) := by
  constructor
  intro pins s σ H Q I h
  refine PySem.W.methodCall_KW (pl := pl) (thn (he.run pins s σ H _ I h) ?_) ht
  rintro u s1 ⟨x, H1, I1, rx, a, dx, fs, rfl, ea, l, q⟩
  obtain rfl : u = Value.ref a := rx
  refine getmeth_ok I1 ea c hm l (PySem.W.callWith_K (first := [.ref a]) (h₀ := X.base) I.ok.mod.kin hm.kp (thn (ha.run pos pins s1 σ H1 _ I1 q) ?_) hst hpl)
  rintro us s2 ⟨vs, H2, I2, r, q2⟩
  exact ⟨I2.kIn, run_fnS (us := .ref a :: us) (vs := .ref a :: vs) F hr hb (hx σ) I2 (.cons rfl r) q2⟩
/-- xs.count(y), flat things -/
def rCntF (K : PySem.W.Frag) : V → List V → Hp → VK → Prop := fun x xs H Q => ∃ (a : Addr) (ys : List V) (y : V), x = .ref a ∧ xs = [y] ∧ SqL K H a ys ∧ flatV y = true ∧ ys.all flatV = true ∧ Q (.int (ys.countP (fun z => eqV z y) : Nat)) H
theorem countU {y : V} : ∀ {ys : List V} {its : List Value}, Vals ys its → ys.all flatV = true → its.countP (eqU y) = ys.countP fun z => eqV z y
  | _, _, .nil, _ => rfl
  | _, _, .cons r rs, h => by
    rw [List.all_cons, Bool.and_eq_true] at h
    rw [List.countP_cons, List.countP_cons, countU rs h.2, eqU_of r h.1]
theorem mt_countF : MtR X "list.count" (rCntF X.K) := by
  intro pins s σ H x xs v us Q I rx rxs h
  obtain ⟨a, ys, y, rfl, rfl, hs, fy, fys, q⟩ := h
  cases rx
  obtain ⟨u, rfl, ru⟩ := rxs.one
  obtain ⟨its, rv, ⟨⟨cls, dd, data, sl⟩, n, ho, hc, hdn, hd⟩, hlen⟩ := I.list hs
  simp only at hc hd
  subst hc hd
  refine call_meets PySem.F.slot_list_count ⟨_, ho, rfl⟩ PySem.F.entry_list_count (PySem.F.args_list_count_2 _ _) (SeqAt.list_countAt a its.toArray n dd sl u (eqU y)) ⟨ho, fun u' hu' => mem_eqAt ru fy rv fys u' (by simpa using hu'), ?_⟩
  refine ⟨.int (ys.countP (fun z => eqV z y) : Nat), H, I.tok _, ⟨s.toks, ?_⟩, q⟩
  show Value.int ((its.toArray.toList.countP (eqU y) : Nat) : Int) s.toks = _
  rw [List.toList_toArray, countU rv fys]
theorem unH {k : Nat} {A : Around} (r : L2H.RoomH k A) : A.units + 64 < cLine := by
  have := r.un
  omega
end
end SH

set_option Elab.async false
set_option linter.all false
/-! slices of texts -/
namespace SH
open PySem L2
theorem cut_ij (z : Str) (i j : Nat) : cd (cutS z (some (i : Int)) (some (j : Int))) = ((cd z).drop (min i z.length)).take (min j z.length - min i z.length) := by
  unfold cutS
  rw [HT.sIx_nat, HT.sIx_nat]
  show ((List.take _ (List.drop _ (cd z))).toArray).toList = _
  rw [List.toList_toArray]
theorem cut_mid {z : Str} {A X B : List Nat} (h : cd z = A ++ (X ++ B)) : cutS z (some (A.length : Int)) (some ((A.length + X.length : Nat) : Int)) = ⟨X.toArray⟩ := by
  refine cd_inj ?_
  rw [cut_ij]
  have hl := cd_len z
  have hl2 := congrArg List.length h
  rw [List.length_append, List.length_append] at hl2
  rw [show min A.length z.length = A.length by omega, show min (A.length + X.length) z.length = A.length + X.length by omega, h, List.drop_left, Nat.add_sub_cancel_left, List.take_left]
  show X = (X.toArray).toList
  rw [List.toList_toArray]
theorem mk_cd (s : Str) : (⟨(cd s).toArray⟩ : Str) = s := cd_inj (by show ((cd s).toArray).toList = _; rw [List.toList_toArray])
end SH

set_option Elab.async false
set_option linter.all false
set_option maxRecDepth 100000
namespace SH
open PySem L2
abbrev sFigs : Stmt := topS 34
abbrev sRunAt : Stmt := topS 32
abbrev sPartAt : Stmt := topS 31
abbrev sIsPart : Stmt := topS 33
abbrev sPartsOf : Stmt := topS 30
theorem scFigs : FnScope ["part"] ["part"] (defScope sFigs) := ⟨rfl, rfl, rfl, by decide +kernel, rfl, by decide +kernel, by decide +kernel⟩
theorem scRun : FnScope ["text", "at", "signs", "behind"] ["text", "at", "signs"] (defScope sRunAt) := ⟨rfl, rfl, rfl, by decide +kernel, rfl, by decide +kernel, by decide +kernel⟩
theorem scPartAt : FnScope ["text", "at", "signs"] ["text", "at"] (defScope sPartAt) := ⟨rfl, rfl, rfl, by decide +kernel, rfl, by decide +kernel, by decide +kernel⟩
theorem scIsPart : FnScope ["text"] ["text"] (defScope sIsPart) := ⟨rfl, rfl, rfl, by decide +kernel, rfl, by decide +kernel, by decide +kernel⟩
theorem scPartsOf : FnScope ["text", "row", "parts", "at", "part"] ["text", "row"] (defScope sPartsOf) := ⟨rfl, rfl, rfl, by decide +kernel, rfl, by decide +kernel, by decide +kernel⟩
def figs : Str := "0123456789"
def marksL : List Str := ["(", ")", ",", "=", "==", "+", "-", "*", "<"]
/-- the names of the module of parts -/
structure Gp (K : PySem.W.Frag) (mg : Str → Option Value) : Prop where
  fg : ∃ t, mg "FIGURES" = some (.str figs t)
  np : ∃ t, mg "NO_PART" = some (.str Str.empty t)
  mks : ∃ a, mg "MARKS" = some (.ref a) ∧ ∀ H, SqT K H a (marksL.map V.str)
  figs : Gi mg "MOST_FIGURES" 30
  brks : Gi mg "MOST_BRACKETS" 8
def figB (l : List Nat) : Bool := match l with
  | [] => false
  | c :: _ => decide (48 ≤ c ∧ c ≤ 57)
def spFigs : Sp := fun vs H Q _ => ∃ s, vs = [.str s] ∧ s.length ≤ 1000000 ∧ Q (.bl (figB (cd s))) H
/-- a run of signs from a place on -/
def spRun : Sp := fun vs H Q _ => ∃ (s z : Str) (A X B : List Nat), vs = [.str s, .int (A.length : Nat), .str z] ∧ cd s = A ++ (X ++ B) ∧ (∀ c ∈ X, c ∈ cd z) ∧ (∀ c r, B = c :: r → c ∉ cd z) ∧ s.length ≤ 1000000 ∧ Q (.str ⟨X.toArray⟩) H
/-- the part that begins at a place -/
def spPartAt : Sp := fun vs H Q _ => ∃ (s : Str) (A R : List Nat) (c : Nat), vs = [.str s, .int (A.length : Nat)] ∧ cd s = A ++ c :: R ∧ s.length ≤ 1000000 ∧ ∀ H', Same H H' → Q (.str (strL (munch (c :: R)))) H'
def nameB (s : Str) : Bool := decide (nmL s ∧ s ∉ kept)
def badN (s : Str) : Bool := !nameB s
def spNameB : Sp := fun vs H Q _ => ∃ s, vs = [.str s] ∧ s.length ≤ 1000000 ∧ ∀ H', Same H H' → Q (.bl (nameB s)) H'
def spIsPart : Sp := fun vs H Q _ => ∃ s : Str, vs = [.str s] ∧ s.length ≤ 1000000 ∧ ∀ H', Same H H' → Q (.bl (pOk kept (cd s))) H'
/-- a text that can not be read, at that row -/
def BadT (CB : Addr) (H : Hp) (E : XK) (r : Int) : Prop := ∀ x H', Same H H' → H' x = none → E (.ref CB) (some x) (upd H' x (.xd [("row", .int r)]))
def lexOk (cs : List Nat) : Prop := ∀ x ∈ lexL cs, x.1 ≠ 4 → pOk kept x.2 = true
def ptsL (L : List (Int × List Nat)) : List V := (L.filter fun x => decide (x.1 ≠ 4)).map fun x => V.str (strL x.2)
def spPartsOf (CB : Addr) : Sp := fun vs H Q E => ∃ (s : Str) (r : Int), vs = [.str s, .int r] ∧ s.length ≤ 1000000 ∧ r.natAbs.log2 < 1920 ∧
  (lexOk (cd s) → ∀ (l : Addr) (H' : Hp), Same H H' → H l = none → H' l = some (.lst (ptsL (lexL (cd s)))) → Q (.ref l) H') ∧
  (¬ lexOk (cd s) → BadT CB H E r)
theorem nameB_nm {s : Str} (h : badN s = false) : nmL s := by
  unfold badN nameB at h
  by_cases c : nmL s ∧ s ∉ kept
  · exact c.1
  · rw [decide_eq_false c] at h
    cases h
theorem kept_nm : ∀ s ∈ kept, nmL s := by decide +kernel
theorem figs_are (c : Nat) : c ∈ figs.cps.toList ↔ 48 ≤ c ∧ c ≤ 57 := digs_are c
theorem lets_are' (c : Nat) : c ∈ letters.cps.toList ↔ 97 ≤ c ∧ c ≤ 122 := lets_are c
theorem kd_one (c : Nat) : kdC c = 1 ↔ 48 ≤ c ∧ c ≤ 57 := by
  constructor
  · intro h
    unfold kdC at h
    by_cases a : 97 ≤ c ∧ c ≤ 122
    · rw [if_pos a] at h; omega
    · rw [if_neg a] at h
      by_cases b : 48 ≤ c ∧ c ≤ 57
      · exact b
      · rw [if_neg b] at h
        split at h <;> (try split at h) <;> (try split at h) <;> omega
  · exact kd_dig
section
variable {P : Program} {w : World} {K : PySem.W.Frag} {mg : Str → Option Value} {base : Heap} {CB fB : Addr} {B newId i0 : String} {bmB : List Value}
theorem ok_figs {f : Addr} {fd : FuncData} (F : Fun K "is_figures" "is_figures" sFigs f fd) (J : Gp K mg) : FnOk P w K mg base CX0 1 f fd ["part"] spFigs := by
  refine F.ok scFigs (fun vs H Q E h => ?_) (fun cdv A outer s H vs Q E hr h => ?_)
  · obtain ⟨s, rfl, _⟩ := h
    rfl
  obtain ⟨z, rfl, hz, q⟩ := h
  obtain ⟨tF, gFg⟩ := J.fg
  obtain ⟨tN, gNp⟩ := J.np
  refine ⟨_, (pss_one (ps_ret (pe_and (pe_cmpR op_ne (pv 0) (pe_glob (v := .str Str.empty) rfl gNp ⟨_, rfl⟩) (nomark _)) (pe_one (pe_cmpR op_in_sign (pe_ix ix_str (pv 0) pe_int (fun _ _ => rfl)) (pe_glob (v := .str figs) rfl gFg ⟨_, rfl⟩) rfl))))), ?_⟩
  have hs : sizeLine = 16777216 := by decide
  refine ⟨_, rfl, rfl, ?_⟩
  cases e : cd z with
  | nil =>
    rw [e] at q
    have : z = Str.empty := cd_inj (by rw [e]; rfl)
    rw [decide_eq_true (by rw [this])]
    exact ⟨_, rfl, iteF q⟩
  | cons c r =>
    rw [e] at q
    rw [decide_eq_false (fun h => by
      have := congrArg cd (V.str.inj h)
      rw [e] at this
      cases this)]
    refine ⟨_, rfl, iteT ?_⟩
    refine ⟨_, rfl, z, 0, c, rfl, rfl, by omega, (by show atI (cd z) 0 = some c; rw [e]; exact atI_nat (j := 0) rfl), c, figs, rfl, rfl, ?_⟩
    rw [show decide (c ∈ figs.cps.toList) = decide (48 ≤ c ∧ c ≤ 57) from decide_eq_decide.mpr (figs_are c)]
    exact q
theorem ok_run {f : Addr} {fd : FuncData} (F : Fun K "run_at" "run_at" sRunAt f fd) (T : Bi mg) : FnOk P w K mg base CX0 1 f fd ["text", "at", "signs"] spRun := by
  refine F.ok scRun (fun vs H Q E h => ?_) (fun cdv A outer s H vs Q E hr h => ?_)
  · obtain ⟨s, z, A, X, B, rfl, _⟩ := h
    rfl
  obtain ⟨t, z, A0, X, B, rfl, et, hX, hB, hz, q⟩ := h
  refine ⟨_, (pss_cons (ps_set (i := 3) scRun.nd rfl (Or.inl rfl) (pv 1))
    (pss_cons (ps_while PassesOwn.never (PW.pt (pw_and (pt_cmpR op_lt (pv 3) (pe_callB call_len (by rfl) T.len (by decide +kernel) (pa_cons (pv 0) pa_nil)) (nomark _)) (pw_and1 (pt_cmpR op_in_sign (pe_ix ix_str (pv 0) (pv 3) (fun _ _ => rfl)) (pv 2) rfl))))
      (pss_one (ps_aug (i := 3) scRun.nd rfl (Or.inl rfl) pe_int ip_add)))
    (pss_one (ps_ret (pe_slice sl_str (pv 0) (po_some (pv 1)) (po_some (pv 3))))))), ?_⟩
  have hs : sizeLine = 16777216 := by decide
  have hl := cd_len t
  have hl2 := congrArg List.length et
  rw [List.length_append, List.length_append] at hl2
  refine ⟨_, rfl, ?_⟩
  refine ⟨fun m σ H' => ∃ j, m = X.length - j ∧ j ≤ X.length ∧ σ = [some (.str t), some (.int (A0.length : Nat)), some (.str z), some (.int ((A0.length + j : Nat) : Int))] ∧ H = H', ⟨_, 0, rfl, Nat.zero_le _, rfl, rfl⟩, ?_⟩
  rintro m σ _ ⟨j, rfl, hj, rfl, rfl⟩
  have hlen : (A0.length + j : Nat) < t.length ↔ j < X.length ∨ B ≠ [] := by
    constructor
    · intro h
      by_cases hb : B = []
      · rw [hb] at hl2; simp only [List.length_nil] at hl2; exact .inl (by omega)
      · exact .inr hb
    · rintro (h | h)
      · omega
      · have := List.length_pos_iff.mpr h; omega
  have fin : j = X.length → Q (.str (cutS t (some (A0.length : Int)) (some ((A0.length + j : Nat) : Int)))) H := fun e => by
    rw [e, cut_mid et]; exact q
  refine ⟨_, rfl, _, rfl, _, _, rfl, ⟨by omega, rfl⟩, _, _, rfl, rfl, _, rfl, ?_⟩
  by_cases c1 : A0.length + j < t.length
  · rw [decide_eq_true (by omega : ((A0.length + j : Nat) : Int) < (t.length : Nat))]
    refine iteT ?_
    have hat : ∃ c, (cd t)[A0.length + j]? = some c := ⟨_, List.getElem?_eq_getElem (by omega)⟩
    obtain ⟨c, hc⟩ := hat
    refine ⟨_, rfl, _, rfl, t, _, c, rfl, rfl, by omega, atI_nat hc, _, rfl, c, z, rfl, rfl, _, rfl, ?_⟩
    rw [et, List.getElem?_append_right (by omega), show A0.length + j - A0.length = j by omega] at hc
    by_cases c2 : j < X.length
    · rw [List.getElem?_append_left c2] at hc
      rw [decide_eq_true (show c ∈ z.cps.toList from hX c (List.mem_of_getElem? hc))]
      refine iteT ⟨fun σ' H' => σ' = [some (.str t), some (.int (A0.length : Nat)), some (.str z), some (.int ((A0.length + (j + 1) : Nat) : Int))] ∧ H = H', ?_, ?_⟩
      · rintro σ' H' ⟨rfl, rfl⟩
        exact ⟨X.length - (j + 1), by omega, j + 1, rfl, c2, rfl, rfl⟩
      · refine ⟨_, rfl, _, _, rfl, rfl, ?_, rfl⟩
        show [some (V.str t), some (V.int (A0.length : Nat)), some (V.str z), some (V.int (((A0.length + j : Nat) : Int) + 1))] = _
        rw [show ((A0.length + j : Nat) : Int) + 1 = ((A0.length + (j + 1) : Nat) : Int) by omega]
    · have ej : j = X.length := by omega
      rw [List.getElem?_append_right (by omega), ej, Nat.sub_self] at hc
      rw [decide_eq_false (show ¬ c ∈ z.cps.toList from by
        cases B with
        | nil => cases hc
        | cons b r => cases hc; exact hB _ r rfl)]
      refine iteF ?_
      exact ⟨_, rfl, _, rfl, _, rfl, _, rfl, _, rfl, _, rfl, by omega, fin ej⟩
  · rw [decide_eq_false (by omega : ¬ ((A0.length + j : Nat) : Int) < (t.length : Nat))]
    refine iteF ?_
    refine iteF ?_
    have ej : j = X.length := by
      by_cases e : j < X.length
      · exact absurd (hlen.mpr (.inl e)) c1
      · omega
    exact ⟨_, rfl, _, rfl, _, rfl, _, rfl, _, rfl, _, rfl, by omega, fin ej⟩
theorem lets_k (c : Nat) : c ∈ letters.cps.toList ↔ kdC c = 0 := ⟨fun h => kd_let ((lets_are' c).mp h), fun h => (lets_are' c).mpr (kd0 h)⟩
theorem figs_k (c : Nat) : c ∈ figs.cps.toList ↔ kdC c = 1 := ⟨fun h => kd_dig ((figs_are c).mp h), fun h => (figs_are c).mpr (kd1 h)⟩
theorem tw_end {p : Nat → Bool} {r : List Nat} : ∀ c t, r.dropWhile p = c :: t → p c = false := fun c t h => by
  have h5 := List.head?_dropWhile_not p r
  rw [h] at h5
  exact h5
theorem ok_partAt {f g : Addr} {fd gd : FuncData} (F : Fun K "part_at" "part_at" sPartAt f fd) (RU : Fk P w K mg base 1 "run_at" g gd ["text", "at", "signs"] spRun) (G : Gf K mg) (J : Gp K mg) : FnOk P w K mg base CX0 2 f fd ["text", "at"] spPartAt := by
  refine F.ok scPartAt (fun vs H Q E h => ?_) (fun cdv A outer s H vs Q E hr h => ?_)
  · obtain ⟨s, A, B, t, rfl, _⟩ := h
    rfl
  obtain ⟨z, A0, R, c0, rfl, et, hz, q⟩ := h
  obtain ⟨tF, gFg⟩ := J.fg
  obtain ⟨tL, gLt⟩ := G.letters
  refine ⟨_, (pss_cons (ps_for PassesOwn.never rfl (pi_tup (pe_tup (pa_cons (pe_glob (v := .str letters) rfl gLt ⟨_, rfl⟩) (pa_cons (pe_glob (v := .str figs) rfl gFg ⟨_, rfl⟩) pa_nil)))) (pg_name (i := 2) scPartAt.nd rfl (.inl rfl))
      (pss_one (ps_if (pt_cmpR op_in_sign (pe_ix ix_str (pv 0) (pv 1) (fun _ _ => rfl)) (pv 2) rfl)
      (pss_one (ps_ret (pe_call RU.G (hr.mono (by omega)) (by rfl) RU.m RU.k RU.b .nil pass0 (pa_cons (pv 0) (pa_cons (pv 1) (pa_cons (pv 2) pa_nil))))))
      pss_nil)))
    (pss_one (ps_ret (pe_ifExp (pt_cmpR op_eq (pe_slice sl_str (pv 0) (po_some (pv 1)) (po_some (pe_op op_add (pv 1) pe_int))) pe_str (nomark _)) pe_str (pe_ix ix_str (pv 0) (pv 1) (fun _ _ => rfl)))))), ?_⟩
  have hs : sizeLine = 16777216 := by decide
  have hl := cd_len z
  have hl2 := congrArg List.length et
  rw [List.length_append, List.length_cons] at hl2
  have hu := munch_eq c0 R
  refine ⟨(by show 2 ≤ sizeLine; decide), fun p np => ?_⟩
  have S1 := same_new np (.tup [.str letters, .str figs])
  have h1 : (upd H p (.tup [.str letters, .str figs])) p = some (.tup [.str letters, .str figs]) := upd_same
  generalize upd H p (.tup [.str letters, .str figs]) = H1 at S1 h1
  have hat : (cd z)[A0.length]? = some c0 := by
    rw [et, List.getElem?_append_right (Nat.le_refl _), Nat.sub_self]
    rfl
  have run : ∀ (sg : Str) (k : Int), (∀ c, c ∈ sg.cps.toList ↔ kdC c = k) → kdC c0 = k → munch (c0 :: R) = c0 :: R.takeWhile (fun x => decide (kdC x = k)) → spRun [.str z, .int (A0.length : Nat), .str sg] H1 Q E := fun sg k hsg hk hm =>
    ⟨z, sg, A0, munch (c0 :: R), R.dropWhile (fun x => decide (kdC x = k)), rfl, by rw [hm, List.cons_append, List.takeWhile_append_dropWhile]; exact et, (fun c hc => by
      rw [hm] at hc
      refine (hsg c).mpr ?_
      rcases List.mem_cons.mp hc with rfl | hc
      · exact hk
      · exact of_decide_eq_true (mem_tw hc)), (fun c r e h => by
      have := tw_end c r e
      exact of_decide_eq_false this ((hsg c).mp h)), hz, q H1 S1⟩
  refine ⟨p, rfl, ⟨_, SqT.of h1⟩, for_tup (K := K) (a := p) (xs := [.str letters, .str figs]) (fun i σ H' => ∃ y : Option V, σ = [some (.str z), some (.int (A0.length : Nat)), y] ∧ H1 = H' ∧ (1 ≤ i → kdC c0 ≠ 0) ∧ (2 ≤ i → kdC c0 ≠ 1)) ⟨_, rfl, rfl, fun h => by omega, fun h => by omega⟩ (fun i σ H' _ ⟨_, _, e, _⟩ => by rw [← e]; exact SqT.of h1) ?_ ?_⟩
  · rintro i x σ _ hx ⟨y, rfl, rfl, h0, h1'⟩
    match i, hx with
    | 0, hx =>
      cases hx
      refine ⟨_, rfl, _, rfl, z, _, c0, rfl, rfl, by omega, atI_nat hat, _, rfl, c0, letters, rfl, rfl, _, rfl, ?_⟩
      by_cases c : kdC c0 = 0
      · rw [decide_eq_true ((lets_k c0).mpr c)]
        refine iteT ?_
        rw [if_pos c] at hu
        exact ⟨_, rfl, _, rfl, _, rfl, run letters 0 lets_k c hu⟩
      · rw [decide_eq_false (fun h => c ((lets_k c0).mp h))]
        exact iteF ⟨_, rfl, rfl, fun _ => c, fun h => by omega⟩
    | 1, hx =>
      cases hx
      refine ⟨_, rfl, _, rfl, z, _, c0, rfl, rfl, by omega, atI_nat hat, _, rfl, c0, figs, rfl, rfl, _, rfl, ?_⟩
      by_cases c : kdC c0 = 1
      · rw [decide_eq_true ((figs_k c0).mpr c)]
        refine iteT ?_
        rw [if_neg (by omega), if_pos c] at hu
        exact ⟨_, rfl, _, rfl, _, rfl, run figs 1 figs_k c hu⟩
      · rw [decide_eq_false (fun h => c ((figs_k c0).mp h))]
        exact iteF ⟨_, rfl, rfl, fun _ => h0 (Nat.le_refl 1), fun _ => c⟩
    | i + 2, hx => cases hx
  · rintro σ _ ⟨y, rfl, rfl, h0, h1'⟩
    have k0' := h0 (by decide)
    have k1' := h1' (by decide)
    rw [if_neg k0', if_neg k1'] at hu
    refine ⟨_, rfl, _, rfl, _, rfl, _, rfl, _, _, rfl, rfl, _, rfl, z, rfl, by omega, rfl, _, rfl, ?_⟩
    have hcut : cd (cutS z (some (A0.length : Int)) (some ((A0.length : Int) + 2))) = (c0 :: R).take 2 := by
      have := cut_ij z A0.length (A0.length + 2)
      rw [show ((A0.length + 2 : Nat) : Int) = (A0.length : Int) + 2 by omega] at this
      rw [this, show min A0.length z.length = A0.length by omega, et, List.drop_left]
      by_cases c2 : A0.length + 2 ≤ z.length
      · rw [show min (A0.length + 2) z.length - A0.length = 2 by omega]
      · have h3 : (c0 :: R).length ≤ 2 := by rw [List.length_cons]; omega
        rw [List.take_of_length_le (i := 2) h3, List.take_of_length_le (by rw [List.length_cons]; omega)]
    have ceq : cd ("==" : Str) = [61, 61] := by decide +kernel
    by_cases ce : c0 = 61 ∧ R.head? = some 61
    · rw [if_pos ce] at hu
      have : cutS z (some (A0.length : Int)) (some ((A0.length : Int) + 2)) = ("==" : Str) := cd_inj (by
        rw [hcut, ceq]
        obtain ⟨rfl, e2⟩ := ce
        cases R with
        | nil => cases e2
        | cons d R => cases e2; rfl)
      rw [show decide (V.str (cutS z (some (A0.length : Int)) (some ((A0.length : Int) + 2))) = V.str "==") = true from decide_eq_true (by rw [this])]
      refine iteT ?_
      have e3 : strL (munch (c0 :: R)) = ("==" : Str) := cd_inj (by rw [cd_strL, hu, ceq])
      rw [e3] at q
      exact q H1 S1
    · rw [if_neg ce] at hu
      rw [show decide (V.str (cutS z (some (A0.length : Int)) (some ((A0.length : Int) + 2))) = V.str "==") = false from decide_eq_false (fun h => by
        have := congrArg cd (V.str.inj h)
        rw [hcut, ceq] at this
        cases R with
        | nil => cases this
        | cons d R =>
          have h2 : [c0, d] = [61, 61] := this
          exact ce ⟨(List.cons.inj h2).1, by rw [(List.cons.inj (List.cons.inj h2).2).1]; rfl⟩)]
      refine iteF ?_
      refine ⟨_, rfl, _, rfl, z, _, c0, rfl, rfl, by omega, atI_nat hat, ?_⟩
      have e3 : strL (munch (c0 :: R)) = (⟨#[c0]⟩ : Str) := cd_inj (by rw [cd_strL, hu]; rfl)
      rw [e3] at q
      exact q H1 S1
theorem ok_nameB {f : Addr} {fd : FuncData} (F : Fun K "is_name" "is_name" sIsName f fd) (T : Bi mg) (G : Gf K mg) : FnOk P w K mg base CX0 1 f fd ["thing"] spNameB := by
  refine F.ok scIsName (fun vs H Q E h => ?_) (fun cdv A outer s H vs Q E hr h => ?_)
  · obtain ⟨i, rfl, _⟩ := h
    rfl
  obtain ⟨z, rfl, hz, q⟩ := h
  obtain ⟨aW, gW, sW⟩ := G.words
  obtain ⟨tL, gLt⟩ := G.letters
  refine ⟨_, (pss_cons (ps_if (PW.pt (pw_or (pt_not (pt_val (pe_callB call_isi (by rfl) T.isinstance (by decide +kernel) (pa_cons (pv 0) (pa_cons (pe_bltn (v := .ty "str") (by rfl) T.str (by decide +kernel) rfl) pa_nil))))) (pw_or1 (pt_not (pt_chain op_le op_le pe_int (pe_callB call_len (by rfl) T.len (by decide +kernel) (pa_cons (pv 0) pa_nil)) (pe_gi G.lets))))))
      (pss_one (ps_ret pe_bl))
      pss_nil)
    (pss_one (ps_ret (pe_and (pe_cmpR op_notIn_seq (pv 0) (pe_glob (v := .ref aW) rfl gW rfl) rfl) (pe_one (pe_callB (cr_all rfl) (by rfl) T.all (by decide +kernel) (pa_cons (pe_lc (own := [("letter", 1)]) (g := gName 1) (tt := tYes) (by rfl) scIsName.nd (pi_str (pv 0)) (blkOk_by (own := [("letter", 1)]) (N := ["thing", "letter"]) (sc := defScope sIsName) (by decide +kernel)) (fun _ _ _ _ _ => pg_name (i := 1) scIsName.nd rfl (Or.inl rfl)) (fun _ _ _ _ _ => pts_nil) (fun _ _ _ _ _ => (pe_cmpR op_in_sign (pv 1) (pe_glob (v := .str letters) rfl gLt ⟨_, rfl⟩) rfl))) pa_nil))))))), ?_⟩
  have hs : sizeLine = 16777216 := by decide
  have hl := cd_len z
  refine ⟨_, rfl, _, _, _, _, true, rfl, .ty "str", .base (.str z), kit_ty (by decide +kernel), _, rfl, ?_⟩
  refine ⟨_, rfl, _, z.length, rfl, ⟨by omega, rfl⟩, _, _, rfl, rfl, _, rfl, ?_⟩
  have short : ¬ (1 ≤ z.length ∧ z.length ≤ 8) → Q (.bl false) H := fun h => by
    have e : nameB z = false := decide_eq_false fun ⟨⟨a, b, _⟩, _⟩ => h ⟨by omega, by omega⟩
    rw [e] at q
    exact q H (Same.refl H)
  by_cases c1 : 1 ≤ z.length
  · rw [decide_eq_true (by omega : (1 : Int) ≤ (z.length : Nat))]
    refine ⟨_, _, rfl, rfl, _, rfl, ?_⟩
    by_cases c2 : z.length ≤ 8
    · rw [decide_eq_true (by omega : ((z.length : Nat) : Int) ≤ 8)]
      refine ⟨_, rfl, aW, _, rfl, .inr (sW _), rfl, flat_strs kept, _, rfl, ?_⟩
      rw [if_pos rfl, inV_str]
      by_cases ck : z ∈ kept
      · have e : nameB z = false := decide_eq_false fun h => h.2 ck
        rw [e] at q
        rw [decide_eq_true ck]
        exact q H (Same.refl H)
      · rw [decide_eq_false ck]
        refine ⟨_, rfl, z, rfl, ?_⟩
        intro D hD
        refine lc_it walk_str (fun j H' => H' D = some (.lst ((((cd z).take j).map fun c => decide (c ∈ letters.cps.toList)).map V.bl)) ∧ Same H H') ⟨upd_same, same_new hD _⟩ (fun _ _ _ _ => trivial) ?_ ?_
        · rintro j x H1 H2 hj ⟨hD1, s1⟩ ⟨rfl, c, hc, rfl⟩
          refine ⟨rfl, ?_⟩
          refine ⟨_, rfl, c, letters, rfl, rfl, ?_⟩
          refine ⟨_, hD1, ?_, ?_, ?_⟩
          · rw [List.length_map, List.length_map, List.length_take]
            have : j < z.length := hj
            omega
          · have e1 : (cd z)[j]? = some c := by
              unfold cd
              rw [Array.getElem?_toList]
              exact hc
            rw [upd_same, List.take_add_one, e1, List.map_append, List.map_append]
            rfl
          · intro x o zz
            rw [upd_ne (ne_of_none zz hD)]
            exact s1 _ _ zz
        · rintro H1 ⟨hD1, s1⟩
          refine ⟨D, _, rfl, SqL.of hD1, ?_⟩
          have e : ((List.take z.cps.size (cd z)).map fun c => decide (c ∈ letters.cps.toList)).all id = nameB z := by
            rw [List.take_of_length_le (by rw [hl]; exact Nat.le_refl _), Bool.eq_iff_iff, List.all_eq_true]
            constructor
            · intro h
              exact decide_eq_true ⟨⟨by omega, by omega, fun c hc => (lets_are' c).mp (of_decide_eq_true (h _ (List.mem_map.mpr ⟨c, hc, rfl⟩)))⟩, ck⟩
            · intro h x hx
              obtain ⟨c, hc, rfl⟩ := List.mem_map.mp hx
              exact decide_eq_true ((lets_are' c).mpr ((of_decide_eq_true h).1.2.2 c hc))
          rw [e]
          exact q H1 s1
    · rw [decide_eq_false (by omega : ¬ ((z.length : Nat) : Int) ≤ 8)]
      exact iteT (short (by omega))
  · rw [decide_eq_false (by omega : ¬ (1 : Int) ≤ (z.length : Nat))]
    rw [if_neg Bool.false_ne_true]
    exact ⟨false, rfl, iteT (short (by omega))⟩
theorem ok_isPart {f g h : Addr} {fd gd hd : FuncData} (F : Fun K "is_part" "is_part" sIsPart f fd) (IF : Fk P w K mg base 1 "is_figures" g gd ["part"] spFigs) (IN : Fk P w K mg base 1 "is_name" h hd ["thing"] spNameB) (G : Gf K mg) (J : Gp K mg) : FnOk P w K mg base CX0 2 f fd ["text"] spIsPart := by
  refine F.ok scIsPart (fun vs H Q E h => ?_) (fun cdv A outer s H vs Q E hr h => ?_)
  · obtain ⟨t, rfl, _⟩ := h
    rfl
  obtain ⟨t, rfl, htl, q⟩ := h
  obtain ⟨aW, gW, sW⟩ := G.words
  obtain ⟨aMk, gMk, sMk⟩ := J.mks
  refine ⟨_, (pss_cons (ps_if (pt_val (pe_call IF.G (hr.mono (by omega)) (by rfl) IF.m IF.k IF.b .nil pass0 (pa_cons (pv 0) pa_nil)))
      (pss_one (ps_ret (pe_or (pe_cmpR op_eq (pv 0) pe_str (nomark _)) (pe_one (pe_cmpR op_ne (pe_ix ix_str (pv 0) pe_int (fun _ _ => rfl)) pe_str (nomark _))))))
      pss_nil)
    (pss_one (ps_ret (pe_or (pe_cmpR op_in_seq (pv 0) (pe_glob (v := .ref aMk) rfl gMk rfl) rfl) (pe_or (pe_cmpR op_in_seq (pv 0) (pe_glob (v := .ref aW) rfl gW rfl) rfl) (pe_one (pe_call IN.G (hr.mono (by omega)) (by rfl) IN.m IN.k IN.b .nil pass0 (pa_cons (pv 0) pa_nil)))))))), ?_⟩
  have hs : sizeLine = 16777216 := by decide
  have est : strL (cd t) = t := cd_inj (cd_strL _)
  refine ⟨_, rfl, _, rfl, by omega, _, rfl, ?_⟩
  have hpo : pOk kept (cd t) = if figB (cd t) = true then (decide (cd t = [48]) || decide ((cd t).head? ≠ some 48)) else (decide (t ∈ marksL) || decide (t ∈ kept) || decide (nmL t)) := by
    unfold pOk
    rw [est]
    rfl
  have c0 : cd ("0" : Str) = [48] := by decide +kernel
  cases hf : figB (cd t) with
  | true =>
    rw [hf, if_pos rfl] at hpo
    refine iteT ?_
    obtain ⟨d, r, ed⟩ : ∃ d r, cd t = d :: r := by
      cases e : cd t with
      | nil => rw [e] at hf; cases hf
      | cons d r => exact ⟨d, r, rfl⟩
    refine ⟨_, rfl, rfl, _, rfl, ?_⟩
    by_cases c2 : t = ("0" : Str)
    · rw [decide_eq_true (by rw [c2])]
      rw [show pOk kept (cd t) = true by rw [hpo, decide_eq_true (by rw [c2, c0]), Bool.true_or]] at q
      exact iteT (q H (Same.refl H))
    · rw [decide_eq_false (fun z => c2 (V.str.inj z))]
      have n48 : cd t ≠ [48] := fun e => c2 (cd_inj (by rw [e, c0]))
      refine iteF ?_
      refine ⟨_, rfl, t, 0, d, rfl, rfl, by omega, (by show atI (cd t) 0 = some d; rw [ed]; exact atI_nat (j := 0) rfl), rfl, ?_⟩
      rw [hpo, decide_eq_false n48, Bool.false_or, ed] at q
      have : (!decide (V.str (⟨#[d]⟩ : Str) = V.str "0")) = decide ((d :: r).head? ≠ some 48) := by
        by_cases e : d = 48
        · rw [e, decide_eq_false (show ¬ ((48 :: r).head? ≠ some 48) from fun z => z rfl), show decide (V.str (⟨#[48]⟩ : Str) = V.str "0") = true by decide +kernel]; rfl
        · rw [decide_eq_false (fun z => e (by
            have h1 := congrArg cd (V.str.inj z)
            rw [c0] at h1
            exact (List.cons.inj h1).1)), decide_eq_true (show (d :: r).head? ≠ some 48 from fun z => e (Option.some.inj z))]
          rfl
      rw [← this] at q
      exact q H (Same.refl H)
  | false =>
    rw [hf, if_neg Bool.false_ne_true] at hpo
    refine iteF ?_
    refine ⟨_, rfl, aMk, _, rfl, .inr (sMk _), rfl, flat_strs marksL, _, rfl, ?_⟩
    rw [if_neg Bool.false_ne_true, inV_str]
    by_cases cm : t ∈ marksL
    · rw [decide_eq_true cm]
      rw [hpo, decide_eq_true cm, Bool.true_or, Bool.true_or] at q
      exact iteT (q H (Same.refl H))
    · rw [decide_eq_false cm]
      refine iteF ?_
      refine ⟨_, rfl, aW, _, rfl, .inr (sW _), rfl, flat_strs kept, _, rfl, ?_⟩
      rw [if_neg Bool.false_ne_true, inV_str]
      by_cases ck : t ∈ kept
      · rw [decide_eq_true ck]
        rw [hpo, decide_eq_true ck, Bool.or_true, Bool.true_or] at q
        exact iteT (q H (Same.refl H))
      · rw [decide_eq_false ck]
        refine iteF ?_
        refine ⟨_, rfl, t, rfl, by omega, fun H1 S1 => ?_⟩
        rw [hpo, decide_eq_false cm, decide_eq_false ck, Bool.false_or, Bool.false_or] at q
        rw [show nameB t = decide (nmL t) from decide_eq_decide.mpr ⟨fun h => h.1, fun h => ⟨h, ck⟩⟩]
        exact q H1 S1
theorem ok_partsOf {f g h : Addr} {fd gd hd : FuncData} (F : Fun K "parts_of" "parts_of" sPartsOf f fd) (PA : Fk P w K mg base 2 "part_at" g gd ["text", "at"] spPartAt) (IP : Fk P w K mg base 2 "is_part" h hd ["text"] spIsPart) (TB : SupC P K mg "BadText" "row" CB fB B newId i0 bmB) (T : Bi mg) : FnOk P w K mg base (L2.CX P w) 3 f fd ["text", "row"] (spPartsOf CB) := by
  refine F.okX scPartsOf (fun vs H Q E h => ?_) (fun cdv A outer s H vs Q E hr h => ?_)
  · obtain ⟨s, r, rfl, _⟩ := h
    rfl
  obtain ⟨z, r, rfl, hz, hrb, q, qe⟩ := h
  refine ⟨_, (pss_cons (ps_set (i := 2) scPartsOf.nd rfl (Or.inl rfl) (pe_lst pa_nil))
    (pss_cons (ps_set (i := 3) scPartsOf.nd rfl (Or.inl rfl) pe_int)
    (pss_cons (ps_while (passes_of rfl) (pt_cmpR op_lt (pv 3) (pe_callB call_len (by rfl) T.len (by decide +kernel) (pa_cons (pv 0) pa_nil)) (nomark _))
      (pss_one (ps_if (pt_cmpR op_eq (pe_ix ix_str (pv 0) (pv 3) (fun _ _ => rfl)) pe_str (nomark _))
      (pss_one (ps_aug (i := 3) scPartsOf.nd rfl (Or.inl rfl) pe_int ip_add))
      (pss_cons (ps_set (i := 4) scPartsOf.nd rfl (Or.inl rfl) (pe_call PA.G (hr.mono (by omega)) (by rfl) PA.m PA.k PA.b .nil pass0 (pa_cons (pv 0) (pa_cons (pv 3) pa_nil))))
    (pss_cons (ps_if (pt_not (pt_val (pe_call IP.G (hr.mono (by omega)) (by rfl) IP.m IP.k IP.b .nil pass0 (pa_cons (pv 4) pa_nil))))
      (pss_one (ps_raiseS rfl TB hr (takes_of rfl rfl rfl rfl) (pa_cons (pv 1) pa_nil) rfl))
      pss_nil)
    (pss_cons (ps_expr (pe_bm PySem.F.plainAttrs_list PySem.F.slot_list_append PySem.F.type_list_append mt_append (pv 2) (pa_cons (pv 4) pa_nil)))
    (pss_one (ps_aug (i := 3) scPartsOf.nd rfl (Or.inl rfl) (pe_callB call_len (by rfl) T.len (by decide +kernel) (pa_cons (pv 4) pa_nil)) ip_add))))))))
    (pss_one (ps_ret (pv 2)))))), ?_⟩
  have hs : sizeLine = 16777216 := by decide
  refine ⟨Nat.zero_le _, fun l nl => ?_⟩
  have hl := cd_len z
  refine ⟨fun m σ H' => ∃ (A R : List Nat) (dn : List (Int × List Nat)) (y : Option V), m = R.length ∧ cd z = A ++ R ∧ lexL (cd z) = dn ++ lexL R ∧ (∀ x ∈ dn, x.1 ≠ 4 → pOk kept x.2 = true) ∧ dn.length ≤ A.length ∧ σ = [some (.str z), some (.int r), some (.ref l), some (.int (A.length : Nat)), y] ∧ Same H H' ∧ H' l = some (.lst (ptsL dn)), ⟨_, [], cd z, [], _, rfl, rfl, rfl, (fun x hx => by cases hx), Nat.le_refl _, rfl, same_new nl _, upd_same⟩, ?_⟩
  rintro m σ H1 ⟨A, R, dn, y, rfl, eA, eL, hd, hdl, rfl, S1, h1⟩
  refine ⟨_, rfl, _, rfl, _, _, rfl, ⟨by omega, rfl⟩, _, _, rfl, rfl, _, rfl, ?_⟩
  have hl2 := congrArg List.length eA
  rw [List.length_append, hl] at hl2
  cases R with
  | nil =>
    rw [decide_eq_false (by rw [List.length_nil] at hl2; omega : ¬ ((A.length : Nat) : Int) < (z.length : Nat))]
    refine iteF ?_
    rw [lexL_nil, List.append_nil] at eL
    rw [← eL] at h1 hd
    exact ⟨_, rfl, q hd l H1 S1 nl h1⟩
  | cons c R =>
    rw [List.length_cons] at hl2
    rw [decide_eq_true (by omega : ((A.length : Nat) : Int) < (z.length : Nat))]
    have hat : (cd z)[A.length]? = some c := by
      rw [eA, List.getElem?_append_right (Nat.le_refl _), Nat.sub_self]
      rfl
    rw [lexL_cons] at eL
    obtain ⟨B, hB⟩ := munch_pre (c :: R)
    have hdr : (c :: R).drop (munch (c :: R)).length = B := by
      generalize munch (c :: R) = M at hB ⊢
      rw [hB, List.drop_left]
    rw [hdr] at eL
    have hml := congrArg List.length hB
    rw [List.length_append, List.length_cons] at hml
    have hmp := munch_pos c R
    have eA2 : cd z = (A ++ munch (c :: R)) ++ B := by rw [List.append_assoc, ← hB]; exact eA
    have eL2 : lexL (cd z) = (dn ++ [(kdC c, munch (c :: R))]) ++ lexL B := by rw [List.append_assoc]; exact eL
    refine iteT ⟨fun σ' H' => ∃ y : Option V, σ' = [some (.str z), some (.int r), some (.ref l), some (.int ((A ++ munch (c :: R)).length : Nat)), y] ∧ Same H H' ∧ H' l = some (.lst (ptsL (dn ++ [(kdC c, munch (c :: R))]))) ∧ (kdC c ≠ 4 → pOk kept (munch (c :: R)) = true), ?_, ?_⟩
    · rintro σ' H' ⟨y', rfl, a1, a2, a3⟩
      refine ⟨B.length, by rw [List.length_cons]; omega, A ++ munch (c :: R), B, dn ++ [(kdC c, munch (c :: R))], y', rfl, eA2, eL2, fun x hx => ?_, ?_, rfl, a1, a2⟩
      · rcases List.mem_append.mp hx with hx | hx
        · exact hd x hx
        · rw [List.mem_singleton.mp hx]; exact a3
      · rw [List.length_append, List.length_append]
        show dn.length + 1 ≤ _
        omega
    · refine ⟨_, rfl, _, rfl, z, _, c, rfl, rfl, by omega, atI_nat hat, rfl, _, rfl, ?_⟩
      by_cases c4 : c = 32
      · subst c4
        have k4 : kdC 32 = 4 := by decide
        have m4 : munch (32 :: R) = [32] := by rw [munch_eq, if_neg (by decide), if_neg (by decide), if_neg (fun z => absurd z.1 (by decide))]
        rw [decide_eq_true (by decide +kernel)]
        refine iteT ?_
        refine ⟨_, rfl, _, _, rfl, rfl, y, ?_, S1, ?_, fun h => absurd k4 h⟩
        · rw [m4, List.length_append]
          rfl
        · have : ptsL (dn ++ [(kdC 32, munch (32 :: R))]) = ptsL dn := by
            unfold ptsL
            rw [List.filter_append, List.filter_cons, if_neg (by rw [k4, decide_eq_false (show ¬ ((4 : Int) ≠ 4) from fun z => z rfl)]; decide)]
            show List.map _ (_ ++ []) = _
            rw [List.append_nil]
          rw [this]
          exact h1
      · have n4 : kdC c ≠ 4 := fun h => by
          unfold kdC at h
          by_cases a1 : 97 ≤ c ∧ c ≤ 122
          · rw [if_pos a1] at h; omega
          rw [if_neg a1] at h
          by_cases a2 : 48 ≤ c ∧ c ≤ 57
          · rw [if_pos a2] at h; omega
          rw [if_neg a2] at h
          by_cases a3 : c = 61
          · rw [if_pos a3] at h; omega
          rw [if_neg a3, if_neg c4] at h
          split at h <;> omega
        rw [decide_eq_false (fun h => c4 (by
          have := congrArg cd (V.str.inj h)
          rw [cd_bl] at this
          exact (List.cons.inj this).1))]
        refine iteF ?_
        refine ⟨_, rfl, _, rfl, z, A, R, c, rfl, eA, hz, fun H2 S2 => ?_⟩
        have hsl : (strL (munch (c :: R))).length ≤ z.length := by
          rw [← cd_len, cd_strL]
          have := munch_len (c :: R)
          rw [List.length_cons] at this
          omega
        refine ⟨_, rfl, strL (munch (c :: R)), rfl, by omega, fun H3 S3 => ⟨_, rfl, ?_⟩⟩
        rw [cd_strL]
        have S13 := S2.trans S3
        cases hp : pOk kept (munch (c :: R)) with
        | false =>
          refine iteT ?_
          have hno : ¬ lexOk (cd z) := fun h => by
            have := h (kdC c, munch (c :: R)) (by rw [eL]; exact List.mem_append_right _ List.mem_cons_self) n4
            rw [hp] at this
            cases this
          exact ⟨_, rfl, _, rfl, .inr ⟨_, rfl, hrb⟩, fun d hd' => qe hno d _ (S1.trans S13) hd'⟩
        | true =>
          refine iteF ?_
          have h3 := S13 _ _ h1
          refine ⟨_, rfl, .inl ⟨rfl, _, SqL.of h3⟩, _, rfl, l, _, _, rfl, rfl, h3, ?_, ?_⟩
          · have : (ptsL dn).length ≤ dn.length := by
              unfold ptsL
              rw [List.length_map]
              exact List.length_filter_le _ _
            omega
          · refine ⟨_, rfl, _, rfl, _, _, rfl, ⟨by omega, rfl⟩, _, _, rfl, rfl, some (.str (strL (munch (c :: R)))), ?_, fun b u e => ?_, ?_, fun _ => rfl⟩
            · rw [List.length_append]
              show _ = [some (V.str z), some (V.int r), some (V.ref l), some (V.int (((A.length + (munch (c :: R)).length : Nat)) : Int)), some (.str (strL (munch (c :: R))))]
              rw [show (munch (c :: R)).length = (strL (munch (c :: R))).length by rw [← cd_len, cd_strL], show (((A.length + (strL (munch (c :: R))).length : Nat)) : Int) = (A.length : Int) + ((strL (munch (c :: R))).length : Nat) by omega]
              rfl
            · rw [upd_ne (ne_of_none e nl)]
              exact S13 _ _ (S1 _ _ e)
            · rw [upd_same]
              have : ptsL (dn ++ [(kdC c, munch (c :: R))]) = ptsL dn ++ [V.str (strL (munch (c :: R)))] := by
                unfold ptsL
                rw [List.filter_append, List.filter_cons, if_pos (decide_eq_true n4), List.map_append]
                rfl
              rw [this]
end
end SH

set_option Elab.async false
set_option linter.all false
set_option maxRecDepth 100000
namespace SH
open PySem L2
abbrev sLineInit : Stmt := inClass (topS 35) 0
abbrev sPeek : Stmt := inClass (topS 35) 1
abbrev sTakeL : Stmt := inClass (topS 35) 2
abbrev sSkip : Stmt := inClass (topS 35) 3
theorem scLineInit : FnScope ["self", "text", "row"] ["self", "text", "row"] (defScope sLineInit) := ⟨rfl, rfl, rfl, by decide +kernel, rfl, by decide +kernel, by decide +kernel⟩
theorem scPeek : FnScope ["self"] ["self"] (defScope sPeek) := ⟨rfl, rfl, rfl, by decide +kernel, rfl, by decide +kernel, by decide +kernel⟩
theorem scTakeL : FnScope ["self", "part"] ["self"] (defScope sTakeL) := ⟨rfl, rfl, rfl, by decide +kernel, rfl, by decide +kernel, by decide +kernel⟩
theorem scSkip : FnScope ["self", "wanted"] ["self", "wanted"] (defScope sSkip) := ⟨rfl, rfl, rfl, by decide +kernel, rfl, by decide +kernel, by decide +kernel⟩
/-- a def that raises passes on what the defs that it asks raise -/
theorem passX {X : Cx} {E : XK} (tk : Takes X fun cls d _ H => E cls d H) : Passes (L2.CX X.prog X.w) X E := fun pins σ H s e s' I h => passAt tk σ pins H s e s' I h
/-- a def that can be called, and may raise -/
structure FkX (P : Program) (w : World) (K : PySem.W.Frag) (mg : Str → Option Value) (base : Heap) (lv : Nat) (x : Str) (f : Addr) (fd : FuncData) (ps : List Str) (sp : Sp) : Prop where
  G : FnOk P w K mg base (L2.CX P w) lv f fd ps sp
  m : mg x = some (.ref f)
  k : PySem.W.keepIn K (.ref f) = true
  b : Binds K fd ps []
/-- a method that can be called, and may raise -/
structure FkMX (P : Program) (w : World) (K : PySem.W.Frag) (mg : Str → Option Value) (base : Heap) (lv : Nat) (C : Addr) (m : Str) (f : Addr) (fd : FuncData) (ps : List Str) (sp : Sp) : Prop where
  M : Meth K C m f
  G : FnOk P w K mg base (L2.CX P w) lv f fd ps sp
  b : Binds K fd ps []
/-- a method that can be called -/
structure FkMm (P : Program) (w : World) (K : PySem.W.Frag) (mg : Str → Option Value) (base : Heap) (lv : Nat) (C : Addr) (m : Str) (f : Addr) (fd : FuncData) (ps : List Str) (sp : Sp) : Prop where
  M : Meth K C m f
  G : FnOk P w K mg base CX0 lv f fd ps sp
  b : Binds K fd ps []
structure LineT (K : PySem.W.Frag) (C : Addr) : Prop where
  cl : Cls K C
  parts : NoAttr K C "parts"
  row : NoAttr K C "row"
  place : NoAttr K C "place"
def lnF (l : Addr) (r k : Int) : List (Str × V) := [("parts", .ref l), ("row", .int r), ("place", .int k)]
/-- a line's parts, and how far it is read -/
structure LnS (H : Hp) (C x dx l : Addr) (r : Int) (ts : List Tn) (k : Nat) : Prop where
  ins : H x = some (.ins C dx (lnF l r (k : Nat)))
  lst : H l = some (.lst (ts.map fun t => V.str t.txt))
def tokAt (ts : List Tn) (k : Nat) : Str := match ts[k]? with
  | some t => t.txt
  | none => Str.empty
def ButX (x : Addr) (H H' : Hp) : Prop := ∀ a u, a ≠ x → H a = some u → H' a = some u
theorem ButX.refl {x : Addr} (H : Hp) : ButX x H H := fun _ _ _ e => e
theorem ButX.trans {x : Addr} {H H1 H2 : Hp} (h : ButX x H H1) (k : ButX x H1 H2) : ButX x H H2 := fun a u n e => k a u n (h a u n e)
theorem ButX.same {x : Addr} {H H1 : Hp} (h : Same H H1) : ButX x H H1 := fun a u _ e => h a u e
theorem TrIn.butx {H H' : Hp} {x C dx : Addr} {fs : List (Str × V)} (hx : H x = some (.ins C dx fs)) (h : ButX x H H') : ∀ {e : Ex} {v : V}, TrIn H e v → TrIn H' e v
  | .num n, v, ⟨a, e, k⟩ => ⟨a, e, h _ _ (fun z => by rw [z, hx] at k; cases k) k⟩
  | .nam n, v, ⟨a, e, k⟩ => ⟨a, e, h _ _ (fun z => by rw [z, hx] at k; cases k) k⟩
  | .op g l r, v, ⟨a, p, q, e, k, m, n⟩ => ⟨a, p, q, e, h _ _ (fun z => by rw [z, hx] at k; cases k) k, TrIn.butx hx h m, TrIn.butx hx h n⟩
/-- a line of which nothing is read yet -/
structure LnV (H : Hp) (C x dx l : Addr) (r : Int) (vs : List V) (k : Nat) : Prop where
  ins : H x = some (.ins C dx (lnF l r (k : Nat)))
  lst : H l = some (.lst vs)
def spLineInit (CB C : Addr) : Sp := fun vs H Q E => ∃ (x dx : Addr) (s : Str) (r : Int), vs = [.ref x, .str s, .int r] ∧ H x = some (.ins C dx []) ∧ s.length ≤ 1000000 ∧ r.natAbs.log2 < 1920 ∧
  (lexOk (cd s) → ∀ (l : Addr) (H' : Hp), H l = none → LnV H' C x dx l r (ptsL (lexL (cd s))) 0 → ButX x H H' → Q .non H') ∧
  (¬ lexOk (cd s) → ∀ d H', Same H H' → H' d = none → E (.ref CB) (some d) (upd H' d (.xd [("row", .int r)])))
def spPeek (C : Addr) : Sp := fun vs H Q _ => ∃ (x dx l : Addr) (r : Int) (ts : List Tn) (k : Nat), vs = [.ref x] ∧ LnS H C x dx l r ts k ∧ k ≤ ts.length + 1000 ∧ ts.length ≤ 1000000 ∧ Q (.str (tokAt ts k)) H
def spTakeL (C : Addr) : Sp := fun vs H Q _ => ∃ (x dx l : Addr) (r : Int) (ts : List Tn) (k : Nat), vs = [.ref x] ∧ LnS H C x dx l r ts k ∧ k ≤ ts.length + 1000 ∧ ts.length ≤ 1000000 ∧ ∀ H', LnS H' C x dx l r ts (k + 1) → ButX x H H' → Q (.str (tokAt ts k)) H'
/-- a text that can not be read, some of its line read -/
def BadX (CB x : Addr) (H : Hp) (E : XK) (r : Int) : Prop := ∀ d H', ButX x H H' → H' d = none → E (.ref CB) (some d) (upd H' d (.xd [("row", .int r)]))
def spSkip (CB C : Addr) : Sp := fun vs H Q E => ∃ (x dx l : Addr) (r : Int) (ts : List Tn) (k : Nat) (z : Str), vs = [.ref x, .str z] ∧ LnS H C x dx l r ts k ∧ k ≤ ts.length + 1000 ∧ ts.length ≤ 1000000 ∧ r.natAbs.log2 < 1920 ∧
  (tokAt ts k = z → ∀ H', LnS H' C x dx l r ts (k + 1) → ButX x H H' → Q .non H') ∧ (tokAt ts k ≠ z → BadX CB x H E r)
section
variable {P : Program} {w : World} {K : PySem.W.Frag} {mg : Str → Option Value} {base : Heap} {CB fB : Addr} {B newId i0 : String} {bmB : List Value}
theorem upd_upd {H : Hp} {a : Addr} {o o' : HO} : upd (upd H a o) a o' = upd H a o' := by
  funext b
  by_cases e : b = a
  · rw [e, upd_same, upd_same]
  · rw [upd_ne e, upd_ne e, upd_ne e]
theorem ok_lineInit {f g C : Addr} {fd gd : FuncData} (F : Fun K "__init__" "Line.__init__" sLineInit f fd) (LT : LineT K C) (PO : FkX P w K mg base 3 "parts_of" g gd ["text", "row"] (spPartsOf CB)) : FnOk P w K mg base (L2.CX P w) 4 f fd ["self", "text", "row"] (spLineInit CB C) := by
  refine F.okX scLineInit (fun vs H Q E h => ?_) (fun cdv A outer s H vs Q E hr h => ?_)
  · obtain ⟨x, dx, s, r, rfl, _⟩ := h
    rfl
  obtain ⟨x, dx, s, r, rfl, hx, hz, hrb, q, qe⟩ := h
  refine ⟨_, (pss_cons (ps_fld (pv 0) (pe_call PO.G (hr.mono (by omega)) (by rfl) PO.m PO.k PO.b .nil (passX (takes_of rfl rfl rfl rfl)) (pa_cons (pv 1) (pa_cons (pv 2) pa_nil))) rfl)
    (pss_cons (ps_fld (pv 0) (pv 2) rfl)
    (pss_one (ps_fld (pv 0) pe_int rfl)))), ?_⟩
  refine ⟨_, rfl, _, rfl, s, r, rfl, hz, hrb, fun hok l H1 S1 nl hl => ?_, fun hno d H1 S1 hd => qe hno d H1 S1 hd⟩
  have hx1 := S1 _ _ hx
  have nlx : l ≠ x := fun z => by rw [z, hx] at nl; cases nl
  refine ⟨_, rfl, x, C, dx, _, rfl, hx1, LT.cl, LT.parts, (by decide), ?_⟩
  refine ⟨_, rfl, _, rfl, x, C, dx, _, rfl, upd_same, LT.cl, LT.row, (by show 1 < 1000; decide), ?_⟩
  rw [upd_upd]
  refine ⟨_, rfl, x, C, dx, _, rfl, upd_same, LT.cl, LT.place, (by show 2 < 1000; decide), ?_⟩
  rw [upd_upd]
  exact q hok l _ nl ⟨upd_same, by rw [upd_ne nlx]; exact hl⟩ fun a u n e => by rw [upd_ne n]; exact S1 _ _ e
theorem ok_peek {f C : Addr} {fd : FuncData} (F : Fun K "peek" "Line.peek" sPeek f fd) (LT : LineT K C) (J : Gp K mg) (T : Bi mg) : FnOk P w K mg base CX0 1 f fd ["self"] (spPeek C) := by
  refine F.ok scPeek (fun vs H Q E h => ?_) (fun cdv A outer s H vs Q E hr h => ?_)
  · obtain ⟨x, dx, l, r, ts, k, rfl, _⟩ := h
    rfl
  obtain ⟨x, dx, l, r, ts, k, rfl, L, hk, hz, q⟩ := h
  obtain ⟨tN, gNp⟩ := J.np
  refine ⟨_, (pss_one (ps_ret (pe_ifExp (pt_cmpR op_lt (pe_fld (pv 0) rfl) (pe_callB call_len_seq (by rfl) T.len (by decide +kernel) (pa_cons (pe_fld (pv 0) rfl) pa_nil)) (nomark _)) (pe_ix ix_list (pe_fld (pv 0) rfl) (pe_fld (pv 0) rfl) (fun _ _ => rfl)) (pe_glob (v := .str Str.empty) rfl gNp ⟨_, rfl⟩)))), ?_⟩
  have hs : sizeLine = 16777216 := by decide
  refine ⟨_, rfl, x, C, dx, _, _, rfl, L.ins, LT.cl, LT.place, rfl, _, rfl, x, C, dx, _, _, rfl, L.ins, LT.cl, LT.parts, rfl, l, _, rfl, .inl (SqL.of L.lst), _, _, rfl, rfl, _, rfl, ?_⟩
  rw [List.length_map]
  unfold tokAt at q
  by_cases c : k < ts.length
  · rw [decide_eq_true (by omega : ((k : Nat) : Int) < (ts.length : Nat))]
    refine iteT ?_
    rw [List.getElem?_eq_getElem c] at q
    refine ⟨_, rfl, x, C, dx, _, _, rfl, L.ins, LT.cl, LT.parts, rfl, _, rfl, x, C, dx, _, _, rfl, L.ins, LT.cl, LT.place, rfl, l, _, _, _, rfl, rfl, SqL.of L.lst, atI_nat (by rw [List.getElem?_map, List.getElem?_eq_getElem c]; rfl), q⟩
  · rw [decide_eq_false (by omega : ¬ ((k : Nat) : Int) < (ts.length : Nat))]
    refine iteF ?_
    rw [List.getElem?_eq_none (by omega)] at q
    exact q
theorem ok_takeL {f g C : Addr} {fd gd : FuncData} (F : Fun K "take" "Line.take" sTakeL f fd) (LT : LineT K C) (PK : FkMm P w K mg base 1 C "peek" g gd ["self"] (spPeek C)) : FnOk P w K mg base CX0 2 f fd ["self"] (spTakeL C) := by
  refine F.ok scTakeL (fun vs H Q E h => ?_) (fun cdv A outer s H vs Q E hr h => ?_)
  · obtain ⟨x, dx, l, r, ts, k, rfl, _⟩ := h
    rfl
  obtain ⟨x, dx, l, r, ts, k, rfl, L, hk, hz, q⟩ := h
  refine ⟨_, (pss_cons (ps_set (i := 1) scTakeL.nd rfl (Or.inl rfl) (pe_meth0 (pv 0) LT.cl PK.M PK.G (hr.mono (by omega)) PK.b .nil pass0))
    (pss_cons (ps_fldaug (pv 0) pe_int in_add)
    (pss_one (ps_ret (pv 1))))), ?_⟩
  refine ⟨_, rfl, x, dx, _, rfl, L.ins, rfl, x, dx, l, r, ts, k, rfl, L, hk, hz, ?_⟩
  refine ⟨_, rfl, x, C, dx, _, _, rfl, L.ins, LT.cl, LT.place, rfl, _, _, rfl, rfl, dx, _, L.ins, (by show 3 < 1000; decide), _, rfl, ?_⟩
  have nlx : l ≠ x := fun z => by have := L.lst; rw [z, L.ins] at this; cases this
  exact q _ ⟨upd_same, by rw [upd_ne nlx]; exact L.lst⟩ fun a u n e => by rw [upd_ne n]; exact e
theorem ok_skip {f g C : Addr} {fd gd : FuncData} (F : Fun K "skip" "Line.skip" sSkip f fd) (LT : LineT K C) (TA : FkMm P w K mg base 2 C "take" g gd ["self"] (spTakeL C)) (TB : SupC P K mg "BadText" "row" CB fB B newId i0 bmB) : FnOk P w K mg base (L2.CX P w) 3 f fd ["self", "wanted"] (spSkip CB C) := by
  refine F.okX scSkip (fun vs H Q E h => ?_) (fun cdv A outer s H vs Q E hr h => ?_)
  · obtain ⟨x, dx, l, r, ts, k, z, rfl, _⟩ := h
    rfl
  obtain ⟨x, dx, l, r, ts, k, z, rfl, L, hk, hz, hrb, q, qe⟩ := h
  refine ⟨_, (pss_one (ps_if (pt_cmpR op_ne (pe_meth0 (pv 0) LT.cl TA.M TA.G (hr.mono (by omega)) TA.b .nil pass0) (pv 1) (nomark _))
      (pss_one (ps_raiseS rfl TB hr (takes_of rfl rfl rfl rfl) (pa_cons (pe_fld (pv 0) rfl) pa_nil) rfl))
      pss_nil)), ?_⟩
  refine ⟨_, rfl, x, dx, _, rfl, L.ins, rfl, x, dx, l, r, ts, k, rfl, L, hk, hz, fun H1 L1 B1 => ?_⟩
  refine ⟨_, rfl, rfl, _, rfl, ?_⟩
  by_cases c : tokAt ts k = z
  · rw [c, decide_eq_true rfl]
    exact iteF (q c H1 L1 B1)
  · rw [decide_eq_false (fun z => c (V.str.inj z))]
    refine iteT ?_
    exact ⟨_, rfl, x, C, dx, _, _, rfl, L1.ins, LT.cl, LT.row, rfl, _, rfl, .inr ⟨_, rfl, hrb⟩, fun d hd => qe c d H1 B1 hd⟩
end
end SH

set_option Elab.async false
set_option linter.all false
set_option maxRecDepth 100000
namespace SH
open PySem L2
abbrev sOper : Stmt := topS 42
abbrev sRdNum : Stmt := topS 45
abbrev sRdName : Stmt := topS 46
abbrev sSingle : Stmt := topS 43
abbrev sBrack : Stmt := topS 44
theorem scOper : FnScope ["line", "sign", "left", "right", "tree"] ["line", "sign", "left", "right"] (defScope sOper) := ⟨rfl, rfl, rfl, by decide +kernel, rfl, by decide +kernel, by decide +kernel⟩
theorem scRdNum : FnScope ["line", "most", "part"] ["line", "most"] (defScope sRdNum) := ⟨rfl, rfl, rfl, by decide +kernel, rfl, by decide +kernel, by decide +kernel⟩
theorem scRdName : FnScope ["line", "part"] ["line"] (defScope sRdName) := ⟨rfl, rfl, rfl, by decide +kernel, rfl, by decide +kernel, by decide +kernel⟩
theorem scSingle : FnScope ["line", "brackets"] ["line", "brackets"] (defScope sSingle) := ⟨rfl, rfl, rfl, by decide +kernel, rfl, by decide +kernel, by decide +kernel⟩
theorem scBrack : FnScope ["line", "brackets", "tree"] ["line", "brackets"] (defScope sBrack) := ⟨rfl, rfl, rfl, by decide +kernel, rfl, by decide +kernel, by decide +kernel⟩
theorem tokAt_pk {ts rest : List Tn} {j : Nat} (h : ts.drop j = rest) : tokAt ts j = pk rest := by
  have e : ts[j]? = (ts.drop j)[0]? := by rw [List.getElem?_drop, Nat.add_zero]
  unfold tokAt pk
  rw [e, h]
  cases rest <;> rfl
theorem at_drop {ts tl : List Tn} {t : Tn} {j : Nat} (h : ts.drop j = t :: tl) : ts[j]? = some t := by
  have e : ts[j]? = (ts.drop j)[0]? := by rw [List.getElem?_drop, Nat.add_zero]
  rw [e, h]
  rfl
theorem drop_more {ts a b : List Tn} {j : Nat} (h : ts.drop j = a ++ b) : ts.drop (j + a.length) = b := by
  rw [← List.drop_drop, h, List.drop_left]
theorem len_drop {ts a b : List Tn} {j : Nat} (h : ts.drop j = a ++ b) (ha : 1 ≤ a.length) : j + a.length ≤ ts.length := by
  have := congrArg List.length h
  rw [List.length_drop, List.length_append] at this
  omega
def mostNum : Int := 1000000 ^ 5 - 1
/-! ### what readers leave -/
theorem fine_dep : ∀ {n : Nat} {e : Ex} {m : Nat}, Ex.fine n e → e.dep ≤ m → Ex.fine m e
  | 0, e, m, h, _ => h.elim
  | n + 1, .num i, m, h, hm => by
    cases m with
    | zero => exact absurd hm (by show ¬ 1 ≤ 0; decide)
    | succ m => exact h
  | n + 1, .nam i, m, h, hm => by
    cases m with
    | zero => exact absurd hm (by show ¬ 1 ≤ 0; decide)
    | succ m => exact h
  | n + 1, .op g a b, m, h, hm => by
    have hm' : 1 + max a.dep b.dep ≤ m := hm
    cases m with
    | zero => omega
    | succ m => exact ⟨fine_dep h.1 (by omega), fine_dep h.2 (by omega)⟩
theorem fine_le : ∀ {n : Nat} {e : Ex}, Ex.fine n e → e.dep ≤ n
  | 0, e, h => h.elim
  | n + 1, .num i, h => by show 1 ≤ n + 1; omega
  | n + 1, .nam i, h => by show 1 ≤ n + 1; omega
  | n + 1, .op g a b, h => by
    have h1 := fine_le h.1
    have h2 := fine_le h.2
    show 1 + max a.dep b.dep ≤ n + 1
    omega
theorem fine_op {g : Sg} {a b : Ex} (ha : Ex.fine 6 a) (hb : Ex.fine 6 b) (h : (Ex.op g a b).dep ≤ 6) : Ex.fine 6 (.op g a b) := by
  have h' : 1 + max a.dep b.dep ≤ 6 := h
  have h1 : a.dep ≤ 5 := by omega
  have h2 : b.dep ≤ 5 := by omega
  exact ⟨fine_dep ha h1, fine_dep hb h2⟩
structure TsOk (ts : List Tn) : Prop where
  each : ∀ t ∈ ts, PtAny t ∧ t.txt.length ≤ 1000000
  few : ts.length ≤ 1000000
def AllP (ts : List Tn) : Prop := ∀ t ∈ ts, PtAny t
def GoodR (f : Rd) : Prop := ∀ ts e rest, AllP ts → f ts = some (e, rest) → (∃ n, 1 ≤ n ∧ n ≤ ts.length ∧ rest = ts.drop n) ∧ Ex.fine 6 e
theorem AllP.drop {ts : List Tn} (h : AllP ts) (n : Nat) : AllP (ts.drop n) := fun t ht => h t (List.mem_of_mem_drop ht)
theorem loop_good {f : Rd} (hf : GoodR f) (L : Int) : ∀ (n : Nat) (e : Ex) (ts : List Tn) (e' : Ex) (rest : List Tn), AllP ts → Ex.fine 6 e → loopR f L n e ts = some (e', rest) → (∃ k, k ≤ ts.length ∧ rest = ts.drop k) ∧ Ex.fine 6 e' := by
  intro n
  induction n with
  | zero => intro e ts e' rest ha he h; cases h; exact ⟨⟨0, Nat.zero_le _, rfl⟩, he⟩
  | succ n ih =>
    intro e ts e' rest ha he h
    have same : loopR f L (n + 1) e ts = some (e, ts) → (∃ k, k ≤ ts.length ∧ rest = ts.drop k) ∧ Ex.fine 6 e' := fun h1 => by
      rw [h1] at h; cases h; exact ⟨⟨0, Nat.zero_le _, rfl⟩, he⟩
    cases ts with
    | nil => exact same rfl
    | cons t r =>
      by_cases c : ∃ g, t = .sg g
      · obtain ⟨g, rfl⟩ := c
        have eq : loopR f L (n + 1) e (.sg g :: r) = if g.lv = L then (match f r with
          | some (b, r') => if (Ex.op g e b).dep ≤ 6 then loopR f L n (.op g e b) r' else none
          | none => none) else some (e, .sg g :: r) := rfl
        by_cases cg : g.lv = L
        · rw [if_pos cg] at eq
          cases hr : f r with
          | none => rw [hr] at eq; rw [eq] at h; cases h
          | some x =>
            obtain ⟨b, r'⟩ := x
            rw [hr] at eq
            have eq : loopR f L (n + 1) e (.sg g :: r) = if (Ex.op g e b).dep ≤ 6 then loopR f L n (.op g e b) r' else none := eq
            obtain ⟨⟨k, k1, k2, k3⟩, hb⟩ := hf r b r' (fun t ht => ha t (List.mem_cons_of_mem _ ht)) hr
            by_cases cd : (Ex.op g e b).dep ≤ 6
            · rw [if_pos cd] at eq
              rw [eq] at h
              obtain ⟨⟨m, m1, m2⟩, m3⟩ := ih _ r' e' rest (by rw [k3]; exact (AllP.drop (fun t ht => ha t (List.mem_cons_of_mem _ ht)) k)) (fine_op he hb cd) h
              refine ⟨⟨1 + (k + m), ?_, ?_⟩, m3⟩
              · rw [k3, List.length_drop] at m1
                rw [List.length_cons]; omega
              · rw [m2, k3, List.drop_drop, Nat.add_comm 1]; rfl
            · rw [if_neg cd] at eq
              rw [eq] at h; cases h
        · rw [if_neg cg] at eq
          exact same eq
      · refine same ?_
        cases t with
        | sg g => exact absurd ⟨g, rfl⟩ c
        | _ => rfl
theorem lev_good {f : Rd} (hf : GoodR f) (L : Int) : GoodR (levR f L) := by
  intro ts e rest ha h
  have eq : levR f L ts = match f ts with
    | some (e, r) => loopR f L r.length e r
    | none => none := rfl
  cases hr : f ts with
  | none => rw [hr] at eq; rw [eq] at h; cases h
  | some x =>
    obtain ⟨b, r'⟩ := x
    rw [hr] at eq
    rw [eq] at h
    obtain ⟨⟨k, k1, k2, k3⟩, hb⟩ := hf ts b r' ha hr
    obtain ⟨⟨m, m1, m2⟩, m3⟩ := loop_good hf L _ _ r' e rest (by rw [k3]; exact ha.drop k) hb h
    refine ⟨⟨k + m, by omega, ?_, ?_⟩, m3⟩
    · rw [k3, List.length_drop] at m1; omega
    · rw [m2, k3, List.drop_drop]
theorem tree_good {f : Rd} (hf : GoodR f) : GoodR (treeR f) := by
  have hS : GoodR (sumR f) := lev_good (lev_good hf 3) 2
  intro ts e rest ha h
  have eq : treeR f ts = match sumR f ts with
    | some (e, .sg g :: r) => if g.lv = 1 then (match sumR f r with
        | some (b, r') => if (Ex.op g e b).dep ≤ 6 then some (.op g e b, r') else none
        | none => none) else some (e, .sg g :: r)
    | x => x := rfl
  cases hr : sumR f ts with
  | none => rw [hr] at eq; rw [eq] at h; cases h
  | some x =>
    obtain ⟨b, r'⟩ := x
    rw [hr] at eq
    obtain ⟨⟨k, k1, k2, k3⟩, hb⟩ := hS ts b r' ha hr
    have same : treeR f ts = some (b, r') → (∃ n, 1 ≤ n ∧ n ≤ ts.length ∧ rest = ts.drop n) ∧ Ex.fine 6 e := fun h1 => by
      rw [h1] at h; cases h; exact ⟨⟨k, k1, k2, k3⟩, hb⟩
    cases r' with
    | nil => exact same eq
    | cons t r =>
      cases t with
      | sg g =>
        have eq : treeR f ts = if g.lv = 1 then (match sumR f r with
          | some (c, r') => if (Ex.op g b c).dep ≤ 6 then some (.op g b c, r') else none
          | none => none) else some (b, .sg g :: r) := eq
        by_cases cg : g.lv = 1
        · rw [if_pos cg] at eq
          have hal : AllP (.sg g :: r) := by rw [k3]; exact ha.drop k
          cases hr2 : sumR f r with
          | none => rw [hr2] at eq; rw [eq] at h; cases h
          | some y =>
            obtain ⟨c, r2⟩ := y
            rw [hr2] at eq
            have eq : treeR f ts = if (Ex.op g b c).dep ≤ 6 then some (.op g b c, r2) else none := eq
            obtain ⟨⟨m, m1, m2, m3⟩, hc⟩ := hS r c r2 (fun t ht => hal t (List.mem_cons_of_mem _ ht)) hr2
            by_cases cd : (Ex.op g b c).dep ≤ 6
            · rw [if_pos cd] at eq
              rw [eq] at h
              cases h
              have hl := congrArg List.length k3
              rw [List.length_cons, List.length_drop] at hl
              refine ⟨⟨k + (m + 1), by omega, by omega, ?_⟩, fine_op hb hc cd⟩
              rw [m3, ← List.drop_drop, ← k3]
              rfl
            · rw [if_neg cd] at eq
              rw [eq] at h; cases h
        · rw [if_neg cg] at eq
          exact same eq
      | lp => exact same eq
      | rp => exact same eq
      | num n => exact same eq
      | nam n => exact same eq
theorem badN_f {s : Str} (h : ¬ badN s = true) : nameB s = true := by
  unfold badN at h
  cases e : nameB s with
  | true => rfl
  | false => rw [e] at h; exact absurd rfl h
theorem sing_good : ∀ m : Nat, GoodR (singR badN m) := by
  have leaf : ∀ (m : Nat) (t : Tn) (r : List Tn) (e : Ex) (rest : List Tn), PtAny t → (∀ u, singR badN m (t :: r) = some u → t ≠ .lp → ∃ e, leafT e = some t ∧ u = (e, r) ∧ (∀ s, e = .nam s → nameB s = true)) := by
    intro m t r e rest hp u h hl
    cases t with
    | lp => exact absurd rfl hl
    | num n => cases m <;> (cases h; exact ⟨_, rfl, rfl, fun s h => by cases h⟩)
    | rp => cases m <;> cases h
    | sg g => cases m <;> cases h
    | nam s =>
      have h' : (if badN s = true then none else some (Ex.nam s, r)) = some u := by cases m <;> exact h
      by_cases c : badN s = true
      · rw [if_pos c] at h'; cases h'
      · rw [if_neg c] at h'; cases h'; exact ⟨_, rfl, rfl, fun s' h => by cases h; exact badN_f c⟩
  have leafG : ∀ (m : Nat) (t : Tn) (r : List Tn) (e : Ex) (rest : List Tn), AllP (t :: r) → t ≠ .lp → singR badN m (t :: r) = some (e, rest) → (∃ n, 1 ≤ n ∧ n ≤ (t :: r).length ∧ rest = (t :: r).drop n) ∧ Ex.fine 6 e := by
    intro m t r e rest ha hl h
    obtain ⟨e', e1, e2, e3⟩ := leaf m t r e rest (ha t List.mem_cons_self) _ h hl
    cases e2
    refine ⟨⟨1, Nat.le_refl 1, by rw [List.length_cons]; omega, rfl⟩, ?_⟩
    cases e with
    | num n => cases e1; exact ha _ List.mem_cons_self
    | nam s =>
      have := of_decide_eq_true (e3 s rfl)
      exact this
    | op g a b => cases e1
  intro m
  induction m with
  | zero =>
    intro ts e rest ha h
    cases ts with
    | nil => cases h
    | cons t r =>
      by_cases c : t = .lp
      · subst c; cases h
      · exact leafG 0 t r e rest ha c h
  | succ m ih =>
    intro ts e rest ha h
    cases ts with
    | nil => cases h
    | cons t r =>
      by_cases c : t = .lp
      · subst c
        have h' : (match treeR (singR badN m) r with
          | some (e, .rp :: r') => some (e, r')
          | _ => none) = some (e, rest) := h
        cases hr : treeR (singR badN m) r with
        | none => rw [hr] at h'; cases h'
        | some x =>
          obtain ⟨e2, r2⟩ := x
          rw [hr] at h'
          obtain ⟨⟨k, k1, k2, k3⟩, hb⟩ := tree_good ih r e2 r2 (fun t ht => ha t (List.mem_cons_of_mem _ ht)) hr
          cases r2 with
          | nil => cases h'
          | cons t r2 =>
            cases t with
            | rp =>
              cases h'
              have hl := congrArg List.length k3
              rw [List.length_cons, List.length_drop] at hl
              refine ⟨⟨1 + (k + 1), by omega, by rw [List.length_cons]; omega, ?_⟩, hb⟩
              rw [Nat.add_comm 1]
              show rest = r.drop (k + 1)
              rw [← List.drop_drop, ← k3]
              rfl
            | lp => cases h'
            | sg g => cases h'
            | num n => cases h'
            | nam n => cases h'
      · exact leafG (m + 1) t r e rest ha c h
/-! ### tokens, looked at -/
theorem any_pok {t : Tn} (h : PtAny t) (hn : ∀ s, t ≠ .nam s) : POk (some t) := by
  cases t with
  | nam s => exact absurd rfl (hn s)
  | num n => exact h
  | _ => trivial
theorem any_nam {s : Str} (h : PtAny (.nam s)) : cd s ≠ [] ∧ ((∀ c ∈ cd s, kdC c = 0) ∨ (∀ c ∈ cd s, kdC c = 3 ∧ c = 44) ∨ (∀ c ∈ cd s, kdC c = 2) ∨ (30 < (cd s).length ∧ ∀ c ∈ cd s, kdC c = 1)) := by
  rcases h with h | rfl | rfl | ⟨h1, h2⟩
  · refine ⟨fun z => ?_, .inl (nm_kd h)⟩
    have := h.1
    rw [z] at this
    exact absurd this (by decide)
  · exact ⟨(by rw [cd_uno]; exact fun z => (by cases z)), .inr (.inl fun c hc => by rw [cd_uno] at hc; rw [List.mem_singleton.mp hc]; decide)⟩
  · exact ⟨(by rw [cd_uno]; exact fun z => (by cases z)), .inr (.inr (.inl fun c hc => by rw [cd_uno] at hc; rw [List.mem_singleton.mp hc]; decide))⟩
  · refine ⟨fun z => ?_, .inr (.inr (.inr ⟨h1, fun c hc => kd_dig (h2 c hc)⟩))⟩
    rw [z] at h1
    exact absurd h1 (by decide)
theorem any_lp {t : Tn} (h : PtAny t) : decide (V.str t.txt = V.str "(") = isLp t := by
  by_cases c : t = .lp
  · subst c; exact decide_eq_true rfl
  · have hl : isLp t = false := by cases t <;> first | rfl | exact absurd rfl c
    rw [hl]
    refine decide_eq_false fun z => ?_
    have hm : 40 ∈ cd t.txt := by rw [V.str.inj z, cd_lp]; exact List.mem_cons_self
    by_cases cn : ∃ s, t = .nam s
    · obtain ⟨s, rfl⟩ := cn
      have hm' : 40 ∈ cd s := hm
      have k40 : kdC 40 = 3 := by decide
      rcases (any_nam h).2 with a | a | a | a
      · have := a 40 hm'; omega
      · have := (a 40 hm').2; omega
      · have := a 40 hm'; omega
      · have := a.2 40 hm'; omega
    · exact (pc_clean (any_pok h fun s e => cn ⟨s, e⟩)).1 (fun z => c (Option.some.inj z)) hm
theorem any_fig {t : Tn} (h : PtAny t) (hn : ∀ n, t ≠ .num n) : figB (cd t.txt) = true → ∃ s, t = .nam s ∧ 30 < (cd s).length ∧ nameB s = false := by
  intro hf
  obtain ⟨c, r, ec, k1⟩ : ∃ c r, cd t.txt = c :: r ∧ kdC c = 1 := by
    cases e : cd t.txt with
    | nil => rw [e] at hf; cases hf
    | cons c r => rw [e] at hf; exact ⟨c, r, rfl, kd_dig (of_decide_eq_true hf)⟩
  have hm : c ∈ cd t.txt := by rw [ec]; exact List.mem_cons_self
  by_cases cn : ∃ s, t = .nam s
  · obtain ⟨s, rfl⟩ := cn
    have hm' : c ∈ cd s := hm
    rcases (any_nam h).2 with a | a | a | a
    · have := a c hm'; omega
    · have := (a c hm').1; omega
    · have := a c hm'; omega
    · refine ⟨s, rfl, a.1, decide_eq_false fun hh => ?_⟩
      have := hh.1.2.1
      omega
  · exfalso
    have hp := any_pok h fun s e => cn ⟨s, e⟩
    have := pc_kinds hp c hm
    rw [k1] at this
    cases t with
    | num n => exact hn n rfl
    | nam s => exact cn ⟨s, rfl⟩
    | lp => exact absurd this (by decide)
    | rp => exact absurd this (by decide)
    | sg g => cases g <;> exact absurd this (by decide)
theorem num_fig {n : Int} (h : PtAny (.num n)) : figB (cd (Tn.num n).txt) = true := by
  have hp : POk (some (.num n)) := h
  rw [show cd (Tn.num n).txt = _ from cd_num hp.1]
  cases hd : TL.numL n.toNat with
  | nil => exact absurd hd (TL.numL_ne _)
  | cons c r => exact decide_eq_true (num_dig n.toNat c (by rw [hd]; exact List.mem_cons_self))
theorem nameB_not {t : Tn} (h : PtAny t) (hn : ∀ s, t ≠ .nam s) : nameB t.txt = false := by
  refine decide_eq_false fun hh => ?_
  have hp := any_pok h hn
  cases e : cd t.txt with
  | nil => exact absurd e (pc_ne hp)
  | cons c r =>
    have hm : c ∈ cd t.txt := by rw [e]; exact List.mem_cons_self
    have k1 := pc_kinds hp c hm
    rw [nm_kd hh.1 c hm] at k1
    cases t with
    | num n => exact absurd (show (0 : Int) = 1 from k1) (by decide)
    | nam s => exact hn s rfl
    | lp => exact absurd k1 (by decide)
    | rp => exact absurd k1 (by decide)
    | sg g => cases g <;> exact absurd k1 (by decide)
theorem nameB_nil : nameB Str.empty = false := decide_eq_false fun hh => absurd hh.1.1 (by decide)
/-! ### promises -/
def spIsExB (n : Nat) : Sp := fun vs H Q _ => ∃ (v : V) (e : Ex), vs = [v, .int n] ∧ TrIn H e v ∧ Ex.fine (n + 1) e ∧ ∀ H', Same H H' → Q (.bl (decide (e.dep ≤ n))) H'
def spOper (CB C : Addr) : Sp := fun vs H Q E => ∃ (x dx l : Addr) (r : Int) (ts : List Tn) (j : Nat) (g : Sg) (a b : Ex) (vl vr : V), vs = [.ref x, .str g.txt, vl, vr] ∧ LnS H C x dx l r ts j ∧ r.natAbs.log2 < 1920 ∧ TrIn H a vl ∧ TrIn H b vr ∧ Ex.fine 6 a ∧ Ex.fine 6 b ∧
  ((Ex.op g a b).dep ≤ 6 → ∀ v H', Same H H' → TrIn H' (.op g a b) v → Q v H') ∧ (¬ (Ex.op g a b).dep ≤ 6 → BadX CB x H E r)
def spRdNum (CB C : Addr) : Sp := fun vs H Q E => ∃ (x dx l : Addr) (r : Int) (ts : List Tn) (j : Nat) (t : Tn), vs = [.ref x, .int mostNum] ∧ LnS H C x dx l r ts j ∧ r.natAbs.log2 < 1920 ∧ ts[j]? = some t ∧ TsOk ts ∧ figB (cd t.txt) = true ∧
  (∀ n, t = .num n → ∀ H', LnS H' C x dx l r ts (j + 1) → ButX x H H' → Q (.int n) H') ∧ ((∀ n, t ≠ .num n) → BadX CB x H E r)
def spRdName (CB C : Addr) : Sp := fun vs H Q E => ∃ (x dx l : Addr) (r : Int) (ts : List Tn) (j : Nat), vs = [.ref x] ∧ LnS H C x dx l r ts j ∧ r.natAbs.log2 < 1920 ∧ j ≤ ts.length ∧ TsOk ts ∧
  (nameB (tokAt ts j) = true → ∀ H', LnS H' C x dx l r ts (j + 1) → ButX x H H' → Q (.str (tokAt ts j)) H') ∧ (nameB (tokAt ts j) = false → BadX CB x H E r)
/-- what a reader leaves, or that it can not read -/
def RdRes (CB C x dx l : Addr) (r : Int) (ts : List Tn) (H : Hp) (Q : VK) (E : XK) : Option (Ex × List Tn) → Prop
  | some (e, rest) => ∀ v H', TrIn H' e v → LnS H' C x dx l r ts (ts.length - rest.length) → ButX x H H' → Q v H'
  | none => BadX CB x H E r
def spRd (CB C : Addr) (m : Nat) (f : Rd) : Sp := fun vs H Q E => ∃ (x dx l : Addr) (r : Int) (ts : List Tn) (j b : Nat), vs = [.ref x, .int (b : Nat)] ∧ b + m = 8 ∧ LnS H C x dx l r ts j ∧ r.natAbs.log2 < 1920 ∧ j ≤ ts.length ∧ TsOk ts ∧ RdRes CB C x dx l r ts H Q E (f (ts.drop j))
def spBr (CB C : Addr) (m : Nat) : Sp := fun vs H Q E => ∃ (x dx l : Addr) (r : Int) (ts u : List Tn) (j b : Nat), vs = [.ref x, .int (b : Nat)] ∧ b + m = 9 ∧ LnS H C x dx l r ts j ∧ r.natAbs.log2 < 1920 ∧ ts.drop j = .lp :: u ∧ TsOk ts ∧ RdRes CB C x dx l r ts H Q E (singR badN m (.lp :: u))
theorem BadX.of {CB x : Addr} {H H1 : Hp} {E : XK} {r : Int} (h : BadX CB x H E r) (b : ButX x H H1) : BadX CB x H1 E r := fun d H' b' n => h d H' (b.trans b') n
theorem tok_len {ts : List Tn} (h : TsOk ts) (j : Nat) : (tokAt ts j).length ≤ 1000000 := by
  unfold tokAt
  cases e : ts[j]? with
  | none => show (0 : Nat) ≤ _; omega
  | some t => exact (h.each t (List.mem_of_getElem? e)).2
section
variable {P : Program} {w : World} {K : PySem.W.Frag} {mg : Str → Option Value} {base : Heap} {CB fB : Addr} {B newId i0 : String} {bmB : List Value}
theorem ok_oper {f g C : Addr} {fd gd : FuncData} {vd : Value} (F : Fun K "operation" "operation" sOper f fd) (LT : LineT K C) (IE : Fk P w K mg base 9 "is_expression" g gd ["thing", "deepest"] (spIsExB 6)) (bE : Binds K gd ["thing", "deepest"] [vd]) (vE : Vals [V.int 6] [vd]) (TB : SupC P K mg "BadText" "row" CB fB B newId i0 bmB) : FnOk P w K mg base (L2.CX P w) 10 f fd ["line", "sign", "left", "right"] (spOper CB C) := by
  refine F.okX scOper (fun vs H Q E h => ?_) (fun cdv A outer s H vs Q E hr h => ?_)
  · obtain ⟨x, dx, l, r, ts, j, g, a, b, vl, vr, rfl, _⟩ := h
    rfl
  obtain ⟨x, dx, l, r, ts, j, g, a, b, vl, vr, rfl, L, hrb, hl, hr', fa, fb, q, qe⟩ := h
  refine ⟨_, (pss_cons (ps_set (i := 4) scOper.nd rfl (Or.inl rfl) (pe_tup (pa_cons (pv 1) (pa_cons (pv 2) (pa_cons (pv 3) pa_nil)))))
    (pss_cons (ps_if (pt_not (pt_val (pe_call IE.G (hr.mono (by omega)) (by rfl) IE.m IE.k bE vE pass0 (pa_cons (pv 4) pa_nil))))
      (pss_one (ps_raiseS rfl TB hr (takes_of rfl rfl rfl rfl) (pa_cons (pe_fld (pv 0) rfl) pa_nil) rfl))
      pss_nil)
    (pss_one (ps_ret (pv 4))))), ?_⟩
  refine ⟨_, rfl, _, rfl, _, rfl, (by show 3 ≤ sizeLine; decide), fun p np => ?_⟩
  have S1 := same_new np (.tup [.str g.txt, vl, vr])
  have hT : TrIn (upd H p (.tup [.str g.txt, vl, vr])) (.op g a b) (.ref p) := ⟨p, vl, vr, rfl, upd_same, hl.same S1, hr'.same S1⟩
  refine ⟨_, rfl, .ref p, .op g a b, rfl, hT, ⟨fa, fb⟩, fun H2 S2 => ⟨_, rfl, ?_⟩⟩
  by_cases c : (Ex.op g a b).dep ≤ 6
  · rw [decide_eq_true c]
    refine iteF ?_
    exact ⟨_, rfl, q c (.ref p) H2 (S1.trans S2) (hT.same S2)⟩
  · rw [decide_eq_false c]
    refine iteT ?_
    exact ⟨_, rfl, x, C, dx, _, _, rfl, S2 _ _ (S1 _ _ L.ins), LT.cl, LT.row, rfl, _, rfl, .inr ⟨_, rfl, hrb⟩, fun d hd => qe c d H2 (.same (S1.trans S2)) hd⟩
theorem ok_rdNum {f g h C : Addr} {fd gd hd : FuncData} (F : Fun K "read_number" "read_number" sRdNum f fd) (LT : LineT K C) (TA : FkMm P w K mg base 2 C "take" g gd ["self"] (spTakeL C)) (IF : Fk P w K mg base 1 "is_figures" h hd ["part"] spFigs) (J : Gp K mg) (T : Bi mg) (TB : SupC P K mg "BadText" "row" CB fB B newId i0 bmB) : FnOk P w K mg base (L2.CX P w) 3 f fd ["line", "most"] (spRdNum CB C) := by
  refine F.okX scRdNum (fun vs H Q E h => ?_) (fun cdv A outer s H vs Q E hr h => ?_)
  · obtain ⟨x, dx, l, r, ts, j, t, rfl, _⟩ := h
    rfl
  obtain ⟨x, dx, l, r, ts, j, t, rfl, L, hrb, ht, ho, hf, q, qe⟩ := h
  refine ⟨_, (pss_cons (ps_set (i := 2) scRdNum.nd rfl (Or.inl rfl) (pe_meth0 (pv 0) LT.cl TA.M TA.G (hr.mono (by omega)) TA.b .nil pass0))
    (pss_cons (ps_if (PW.pt (pw_or (pt_not (pt_val (pe_call IF.G (hr.mono (by omega)) (by rfl) IF.m IF.k IF.b .nil pass0 (pa_cons (pv 2) pa_nil)))) (pw_or (pt_cmpR op_gt (pe_callB call_len (by rfl) T.len (by decide +kernel) (pa_cons (pv 2) pa_nil)) (pe_gi J.figs) (nomark _)) (pw_or1 (pt_cmpR op_gt (pe_callTy call_int_str (by rfl) T.int (by decide +kernel) (pa_cons (pv 2) pa_nil)) (pv 1) (nomark _))))))
      (pss_one (ps_raiseS rfl TB hr (takes_of rfl rfl rfl rfl) (pa_cons (pe_fld (pv 0) rfl) pa_nil) rfl))
      pss_nil)
    (pss_one (ps_ret (pe_callTy call_int_str (by rfl) T.int (by decide +kernel) (pa_cons (pv 2) pa_nil)))))), ?_⟩
  have hs : sizeLine = 16777216 := by decide
  have hjl : j < ts.length := (List.getElem?_eq_some_iff.mp ht).1
  obtain ⟨hpa, htl⟩ := ho.each t (List.mem_of_getElem? ht)
  refine ⟨_, rfl, x, dx, _, rfl, L.ins, rfl, x, dx, l, r, ts, j, rfl, L, by omega, ho.few, fun H1 L1 B1 => ?_⟩
  have et : tokAt ts j = t.txt := by unfold tokAt; rw [ht]
  rw [et]
  refine ⟨_, rfl, _, rfl, by omega, _, rfl, ?_⟩
  rw [hf]
  refine iteF ?_
  refine ⟨_, rfl, _, _, rfl, ⟨by omega, rfl⟩, _, _, rfl, rfl, _, rfl, ?_⟩
  by_cases cn : ∃ n, t = .num n
  · obtain ⟨n, rfl⟩ := cn
    have hp : POk (some (.num n)) := hpa
    have htl : (Tn.num n).txt.length ≤ 30 := by
      rw [← cd_len, show cd (Tn.num n).txt = _ from cd_num hp.1]; exact num_len hp.1 hp.2
    have hin : PySem.intText? (Tn.num n).txt = some n := by
      have h0 : 0 ≤ n := hp.1
      have e : n = ((n.toNat : Nat) : Int) := by omega
      have := TL.int_num (n := n.toNat) (Nat.le_trans (num_len hp.1 hp.2) (by decide))
      rw [← e] at this
      exact this
    rw [decide_eq_false (by show ¬ (30 : Int) < (((Tn.num n).txt.length : Nat) : Int); omega)]
    refine iteF ?_
    refine ⟨_, rfl, _, n, rfl, hin, by omega, _, rfl, _, _, rfl, rfl, _, rfl, ?_⟩
    rw [decide_eq_false (by have := hp.2; show ¬ (1000000 ^ 5 - 1 : Int) < n; omega)]
    refine iteF ?_
    exact ⟨_, rfl, _, n, rfl, hin, by omega, q n rfl H1 L1 B1⟩
  · obtain ⟨z, rfl, hz, _⟩ := any_fig hpa (fun n e => cn ⟨n, e⟩) hf
    rw [cd_len] at hz
    rw [decide_eq_true (by show (30 : Int) < ((z.length : Nat) : Int); omega)]
    refine iteT ?_
    refine iteT ?_
    exact ⟨_, rfl, x, C, dx, _, _, rfl, L1.ins, LT.cl, LT.row, rfl, _, rfl, .inr ⟨_, rfl, hrb⟩, fun d hd => qe (fun n e => cn ⟨n, e⟩) d H1 B1 hd⟩
theorem ok_rdName {f g h C : Addr} {fd gd hd : FuncData} (F : Fun K "read_name" "read_name" sRdName f fd) (LT : LineT K C) (TA : FkMm P w K mg base 2 C "take" g gd ["self"] (spTakeL C)) (IN : Fk P w K mg base 1 "is_name" h hd ["thing"] spNameB) (TB : SupC P K mg "BadText" "row" CB fB B newId i0 bmB) : FnOk P w K mg base (L2.CX P w) 3 f fd ["line"] (spRdName CB C) := by
  refine F.okX scRdName (fun vs H Q E h => ?_) (fun cdv A outer s H vs Q E hr h => ?_)
  · obtain ⟨x, dx, l, r, ts, j, rfl, _⟩ := h
    rfl
  obtain ⟨x, dx, l, r, ts, j, rfl, L, hrb, hj, ho, q, qe⟩ := h
  refine ⟨_, (pss_cons (ps_set (i := 1) scRdName.nd rfl (Or.inl rfl) (pe_meth0 (pv 0) LT.cl TA.M TA.G (hr.mono (by omega)) TA.b .nil pass0))
    (pss_cons (ps_if (pt_not (pt_val (pe_call IN.G (hr.mono (by omega)) (by rfl) IN.m IN.k IN.b .nil pass0 (pa_cons (pv 1) pa_nil))))
      (pss_one (ps_raiseS rfl TB hr (takes_of rfl rfl rfl rfl) (pa_cons (pe_fld (pv 0) rfl) pa_nil) rfl))
      pss_nil)
    (pss_one (ps_ret (pv 1))))), ?_⟩
  refine ⟨_, rfl, x, dx, _, rfl, L.ins, rfl, x, dx, l, r, ts, j, rfl, L, by omega, ho.few, fun H1 L1 B1 => ?_⟩
  refine ⟨_, rfl, tokAt ts j, rfl, tok_len ho j, fun H2 S2 => ⟨_, rfl, ?_⟩⟩
  cases e : nameB (tokAt ts j) with
  | true =>
    refine iteF ?_
    exact ⟨_, rfl, q e H2 ⟨S2 _ _ L1.ins, S2 _ _ L1.lst⟩ (B1.trans (.same S2))⟩
  | false =>
    refine iteT ?_
    exact ⟨_, rfl, x, C, dx, _, _, rfl, S2 _ _ L1.ins, LT.cl, LT.row, rfl, _, rfl, .inr ⟨_, rfl, hrb⟩, fun d hd => qe e d H2 (B1.trans (.same S2)) hd⟩
end
end SH

set_option Elab.async false
set_option linter.all false
set_option maxRecDepth 100000
namespace SH
open PySem L2
theorem RdRes.no {CB C x dx l : Addr} {r : Int} {ts : List Tn} {H : Hp} {Q : VK} {E : XK} {o : Option (Ex × List Tn)} (h : o = none) (k : BadX CB x H E r) : RdRes CB C x dx l r ts H Q E o := by rw [h]; exact k
theorem RdRes.yes {CB C x dx l : Addr} {r : Int} {ts : List Tn} {H : Hp} {Q : VK} {E : XK} {o : Option (Ex × List Tn)} {e : Ex} {rest : List Tn} (h : o = some (e, rest)) (k : ∀ v H', TrIn H' e v → LnS H' C x dx l r ts (ts.length - rest.length) → ButX x H H' → Q v H') : RdRes CB C x dx l r ts H Q E o := by rw [h]; exact k
theorem len_rest {ts u : List Tn} {t : Tn} {j : Nat} (h : ts.drop j = t :: u) : ts.length - u.length = j + 1 ∧ j < ts.length := by
  have := congrArg List.length h
  rw [List.length_drop, List.length_cons] at this
  omega
theorem drop_rest {ts rest : List Tn} {j n : Nat} (hj : j ≤ ts.length) (hn : n ≤ (ts.drop j).length) (h : rest = (ts.drop j).drop n) : ts.drop (ts.length - rest.length) = rest ∧ ts.length - rest.length = j + n := by
  have hl := congrArg List.length h
  rw [List.length_drop, List.length_drop] at hl
  rw [List.length_drop] at hn
  have e : ts.length - rest.length = j + n := by omega
  rw [e]
  exact ⟨by rw [h, List.drop_drop], rfl⟩
theorem TsOk.all {ts : List Tn} (h : TsOk ts) (n : Nat) : AllP (ts.drop n) := fun t ht => (h.each t (List.mem_of_mem_drop ht)).1
/-- the promise that is asked of the def itself: nothing at no depth -/
def spIsExC : Nat → Sp
  | 0 => fun _ _ _ _ => False
  | n + 1 => spIsExB (n + 1)
section
variable {P : Program} {w : World} {K : PySem.W.Frag} {mg : Str → Option Value} {base : Heap} {CB fB : Addr} {B newId i0 : String} {bmB : List Value}
theorem ok_isExB {n : Nat} {f t l : Addr} {fd td ld : FuncData} (F : FunD K "is_expression" "is_expression" (defArgs sIsEx) (defBody sIsEx) (defScope sIsEx) [.int 6] [] f fd) (TO : Fk P w K mg base 1 "is_tuple_of" t td ["thing", "many"] spTupOf) (LF : Fk P w K mg base 3 "is_leaf" l ld ["pair"] spLeaf)
    (IE : Fk P w K mg base (n + 3) "is_expression" f fd ["thing", "deepest"] (spIsExC n)) (G : Gf K mg) : FnOk P w K mg base CX0 (n + 4) f fd ["thing", "deepest"] (spIsExB (n + 1)) := by
  refine ok0 F scIsEx (fun vs H Q E h => ?_) (fun cdv A outer s H vs Q E hr h => ?_)
  · obtain ⟨v, e, rfl, _⟩ := h
    rfl
  obtain ⟨v, e, rfl, hT, hf, q⟩ := h
  obtain ⟨aS, gS, sS⟩ := G.signs
  refine ⟨_, (pss_cons (ps_if (pt_val (pe_call TO.G (hr.mono (by omega)) (by rfl) TO.m TO.k TO.b .nil pass0 (pa_cons (pv 0) (pa_cons pe_int pa_nil))))
      (pss_one (ps_ret (pe_call LF.G (hr.mono (by omega)) (by rfl) LF.m LF.k LF.b .nil pass0 (pa_cons (pv 0) pa_nil))))
      pss_nil)
    (pss_cons (ps_if (PW.pt (pw_or (pt_not (pt_val (pe_call TO.G (hr.mono (by omega)) (by rfl) TO.m TO.k TO.b .nil pass0 (pa_cons (pv 0) (pa_cons pe_int pa_nil))))) (pw_or1 (pt_cmpR op_notIn_seq (pe_ix ix_tup (pv 0) pe_int (fun _ _ => rfl)) (pe_glob (v := .ref aS) rfl gS rfl) rfl))))
      (pss_one (ps_ret pe_bl))
      pss_nil)
    (pss_one (ps_ret (pe_and (pe_cmpR op_gt (pv 1) pe_int (nomark _)) (pe_and (pe_call IE.G hr (by rfl) IE.m IE.k IE.b .nil pass0 (pa_cons (pe_ix ix_tup (pv 0) pe_int (fun _ _ => rfl)) (pa_cons (pe_op op_sub (pv 1) pe_int) pa_nil))) (pe_one (pe_call IE.G hr (by rfl) IE.m IE.k IE.b .nil pass0 (pa_cons (pe_ix ix_tup (pv 0) pe_int (fun _ _ => rfl)) (pa_cons (pe_op op_sub (pv 1) pe_int) pa_nil)))))))))), ?_⟩
  cases e with
  | num i =>
    have hT' := hT
    obtain ⟨a, rfl, ha⟩ := hT
    refine ⟨_, rfl, a, _, 2, rfl, ha, _, rfl, ?_⟩
    rw [decide_eq_true (show (Ex.num i).dep ≤ n + 1 by show 1 ≤ n + 1; omega)] at q
    refine ⟨_, rfl, _, .num i, rfl, hT', rfl, hf, q⟩
  | nam z =>
    have hT' := hT
    obtain ⟨a, rfl, ha⟩ := hT
    refine ⟨_, rfl, a, _, 2, rfl, ha, _, rfl, ?_⟩
    rw [decide_eq_true (show (Ex.nam z).dep ≤ n + 1 by show 1 ≤ n + 1; omega)] at q
    refine ⟨_, rfl, _, .nam z, rfl, hT', rfl, hf, q⟩
  | op g x y =>
    obtain ⟨a, vx, vy, rfl, ha, tx, ty⟩ := hT
    have hdd : (Ex.op g x y).dep ≤ n + 1 ↔ x.dep ≤ n ∧ y.dep ≤ n := by
      show 1 + max x.dep y.dep ≤ n + 1 ↔ _
      omega
    refine ⟨_, rfl, a, _, 2, rfl, ha, _, rfl, ?_⟩
    refine ⟨_, rfl, a, _, 3, rfl, ha, _, rfl, ?_⟩
    refine ⟨_, rfl, a, _, 0, _, rfl, rfl, SqT.of ha, atI_nat rfl, aS, _, rfl, .inr (sS _), rfl, flat_strs signsL, _, rfl, ?_⟩
    have e1 : inV (.str g.txt) (signsL.map V.str) = true := by
      rw [inV_str]
      cases g <;> decide +kernel
    rw [if_pos rfl, e1]
    have en : ((n + 1 : Nat) : Int) - 1 = (n : Int) := by omega
    refine ⟨_, rfl, _, _, rfl, rfl, _, rfl, ?_⟩
    cases n with
    | zero =>
      have xp := x.dep_pos
      rw [decide_eq_false (fun z => by have := (hdd.mp z).1; omega)] at q
      rw [decide_eq_false (by decide : ¬ (1 : Int) < ((0 + 1 : Nat) : Int))]
      exact q H (Same.refl H)
    | succ n =>
      rw [decide_eq_true (by omega : (1 : Int) < ((n + 1 + 1 : Nat) : Int))]
      refine ⟨_, rfl, a, _, 1, _, rfl, rfl, SqT.of ha, atI_nat (j := 1) rfl, _, rfl, _, _, rfl, rfl, vx, x, (by show [vx, V.int (((n + 1 + 1 : Nat) : Int) - 1)] = _; rw [en]), tx, hf.1, fun H1 s1 => ?_⟩
      refine ⟨_, rfl, ?_⟩
      by_cases c : x.dep ≤ n + 1
      · rw [decide_eq_true c]
        refine ⟨_, rfl, a, _, 2, _, rfl, rfl, SqT.of (s1 _ _ ha), atI_nat (j := 2) rfl, _, rfl, _, _, rfl, rfl, vy, y, (by show [vy, V.int (((n + 1 + 1 : Nat) : Int) - 1)] = _; rw [en]), ty.same s1, hf.2, fun H2 s2 => ?_⟩
        rw [show decide (y.dep ≤ n + 1) = decide ((Ex.op g x y).dep ≤ n + 1 + 1) from decide_eq_decide.mpr ⟨fun z => hdd.mpr ⟨c, z⟩, fun z => (hdd.mp z).2⟩]
        exact q H2 (s1.trans s2)
      · rw [decide_eq_false c]
        rw [decide_eq_false (fun z => c (hdd.mp z).1)] at q
        exact q H1 s1
theorem isExB_none {f : Addr} {fd : FuncData} : FnOk P w K mg base CX0 3 f fd ["thing", "deepest"] (fun vs H Q E => False) :=
  ⟨fun vs H Q E h => h.elim, fun A outer s H args us vs Q E _ _ _ _ h => h.elim⟩
theorem ok_single {m : Nat} {f0 g h i u n C : Addr} {fd gd hd idd md nd : FuncData} (F : Fun K "read_single" "read_single" sSingle f0 fd) (LT : LineT K C) (PK : FkMm P w K mg base 1 C "peek" g gd ["self"] (spPeek C)) (RB : FkX P w K mg base (11 + 5 * m) "read_bracketed" h hd ["line", "brackets"] (spBr CB C m))
    (IF : Fk P w K mg base 1 "is_figures" i idd ["part"] spFigs) (RN : FkX P w K mg base 3 "read_number" u md ["line", "most"] (spRdNum CB C)) (RA : FkX P w K mg base 3 "read_name" n nd ["line"] (spRdName CB C)) (G : Gf K mg) : FnOk P w K mg base (L2.CX P w) (12 + 5 * m) f0 fd ["line", "brackets"] (spRd CB C m (singR badN m)) := by
  have hlv : 12 + 5 * m = 11 + 5 * m + 1 := by omega
  rw [hlv]
  refine F.okX scSingle (fun vs H Q E h => ?_) (fun cdv A outer s H vs Q E hr h => ?_)
  · obtain ⟨x, dx, l, r, ts, j, b, rfl, _⟩ := h
    rfl
  obtain ⟨x, dx, l, r, ts, j, b, rfl, hb, L, hrb, hj, ho, q⟩ := h
  refine ⟨_, (pss_cons (ps_if (pt_cmpR op_eq (pe_meth0 (pv 0) LT.cl PK.M PK.G (hr.mono (by omega)) PK.b .nil pass0) pe_str (nomark _))
      (pss_one (ps_ret (pe_call RB.G (hr.mono (by omega)) (by rfl) RB.m RB.k RB.b .nil (passX (takes_of rfl rfl rfl rfl)) (pa_cons (pv 0) (pa_cons (pe_op op_add (pv 1) pe_int) pa_nil)))))
      pss_nil)
    (pss_cons (ps_if (pt_val (pe_call IF.G (hr.mono (by omega)) (by rfl) IF.m IF.k IF.b .nil pass0 (pa_cons (pe_meth0 (pv 0) LT.cl PK.M PK.G (hr.mono (by omega)) PK.b .nil pass0) pa_nil)))
      (pss_one (ps_ret (pe_tup (pa_cons pe_str (pa_cons (pe_call RN.G (hr.mono (by omega)) (by rfl) RN.m RN.k RN.b .nil (passX (takes_of rfl rfl rfl rfl)) (pa_cons (pv 0) (pa_cons (pe_gi G.num) pa_nil))) pa_nil)))))
      pss_nil)
    (pss_one (ps_ret (pe_tup (pa_cons pe_str (pa_cons (pe_call RA.G (hr.mono (by omega)) (by rfl) RA.m RA.k RA.b .nil (passX (takes_of rfl rfl rfl rfl)) (pa_cons (pv 0) pa_nil)) pa_nil))))))), ?_⟩
  have hs : sizeLine = 16777216 := by decide
  have hz := ho.few
  refine ⟨_, rfl, x, dx, _, rfl, L.ins, rfl, x, dx, l, r, ts, j, rfl, L, by omega, hz, rfl, _, rfl, ?_⟩
  have htl := tok_len ho j
  have nm : ∀ (st : decide (V.str (tokAt ts j) = V.str "(") = false) (fg : figB (cd (tokAt ts j)) = false), (nameB (tokAt ts j) = true → ∀ p H', H' p = some (.tup [.str "name", .str (tokAt ts j)]) → LnS H' C x dx l r ts (j + 1) → ButX x H H' → Q (.ref p) H') → (nameB (tokAt ts j) = false → BadX CB x H E r) → True := fun _ _ _ _ => trivial
  cases hd : ts.drop j with
  | nil =>
    rw [hd] at q
    have et : tokAt ts j = Str.empty := tokAt_pk hd
    have q' : BadX CB x H E r := by cases m <;> exact q
    rw [et] at htl ⊢
    rw [show decide (V.str Str.empty = V.str "(") = false by decide +kernel]
    refine iteF ?_
    refine ⟨_, rfl, x, dx, _, rfl, L.ins, rfl, x, dx, l, r, ts, j, rfl, L, by omega, hz, ?_⟩
    rw [et]
    refine ⟨_, rfl, by omega, _, rfl, ?_⟩
    rw [show figB (cd Str.empty) = false by decide +kernel]
    refine iteF ?_
    refine ⟨_, rfl, x, dx, l, r, ts, j, rfl, L, hrb, hj, ho, fun e => ?_, fun _ => q'⟩
    rw [et, nameB_nil] at e
    cases e
  | cons t u =>
    rw [hd] at q
    have et : tokAt ts j = t.txt := tokAt_pk hd
    have htj := at_drop hd
    obtain ⟨hpa, hlt⟩ := ho.each t (List.mem_of_getElem? htj)
    obtain ⟨lr1, lr2⟩ := len_rest hd
    rw [et, any_lp hpa]
    by_cases cl : t = .lp
    · subst cl
      refine iteT ?_
      refine ⟨_, rfl, _, rfl, _, _, rfl, rfl, x, dx, l, r, ts, u, j, b + 1, ?_, by omega, L, hrb, hd, ho, q⟩
      show [V.ref x, V.int (((b : Nat) : Int) + 1)] = _
      rfl
    · rw [show isLp t = false by cases t <;> first | rfl | exact absurd rfl cl]
      refine iteF ?_
      refine ⟨_, rfl, x, dx, _, rfl, L.ins, rfl, x, dx, l, r, ts, j, rfl, L, by omega, hz, ?_⟩
      rw [et]
      refine ⟨_, rfl, by omega, _, rfl, ?_⟩
      cases hf : figB (cd t.txt) with
      | true =>
        refine iteT ?_
        refine ⟨_, rfl, x, dx, l, r, ts, j, t, rfl, L, hrb, htj, ho, hf, fun v e H1 L1 B1 => ⟨(by show 2 ≤ sizeLine; decide), fun p np => ?_⟩, fun hn => ?_⟩
        · subst e
          have q' : ∀ v' H', TrIn H' (.num v) v' → LnS H' C x dx l r ts (ts.length - u.length) → ButX x H H' → Q v' H' := by cases m <;> exact q
          rw [lr1] at q'
          have S2 := same_new np (.tup [.str "number", .int v])
          exact q' (.ref p) _ ⟨p, rfl, upd_same⟩ ⟨S2 _ _ L1.ins, S2 _ _ L1.lst⟩ (B1.trans (.same S2))
        · obtain ⟨z, rfl, _, hz2⟩ := any_fig hpa hn hf
          have e1 : singR badN m (.nam z :: u) = none := by
            have : singR badN m (.nam z :: u) = if badN z = true then none else some (.nam z, u) := by cases m <;> rfl
            rw [this, if_pos (by unfold badN; rw [hz2]; rfl)]
          rw [e1] at q
          exact q
      | false =>
        refine iteF ?_
        have nnum : ∀ n, t ≠ .num n := fun n e => by
          subst e
          rw [num_fig hpa] at hf
          cases hf
        refine ⟨_, rfl, x, dx, l, r, ts, j, rfl, L, hrb, hj, ho, fun e H1 L1 B1 => ⟨(by show 2 ≤ sizeLine; decide), fun p np => ?_⟩, fun e => ?_⟩
        · rw [et] at e
          by_cases cn : ∃ s, t = .nam s
          · obtain ⟨z, rfl⟩ := cn
            have hbz : ¬ badN z = true := by
              have e' : nameB z = true := e
              unfold badN; rw [e']; decide
            have e1 : singR badN m (.nam z :: u) = some (.nam z, u) := by
              have : singR badN m (.nam z :: u) = if badN z = true then none else some (.nam z, u) := by cases m <;> rfl
              rw [this, if_neg hbz]
            rw [e1] at q
            have q' : ∀ v' H', TrIn H' (.nam z) v' → LnS H' C x dx l r ts (ts.length - u.length) → ButX x H H' → Q v' H' := q
            rw [lr1] at q'
            rw [et]
            have S2 := same_new np (.tup [.str "name", .str (Tn.nam z).txt])
            exact q' (.ref p) _ ⟨p, rfl, upd_same⟩ ⟨S2 _ _ L1.ins, S2 _ _ L1.lst⟩ (B1.trans (.same S2))
          · rw [nameB_not hpa (fun s h => cn ⟨s, h⟩)] at e
            cases e
        · rw [et] at e
          have e1 : singR badN m (t :: u) = none := by
            cases t with
            | lp => exact absurd rfl cl
            | num n => exact absurd rfl (nnum n)
            | rp => cases m <;> rfl
            | sg g => cases m <;> rfl
            | nam z =>
              have : singR badN m (.nam z :: u) = if badN z = true then none else some (.nam z, u) := by cases m <;> rfl
              have e' : nameB z = false := e
              rw [this, if_pos (by unfold badN; rw [e']; rfl)]
          rw [e1] at q
          exact q
theorem ok_brack {m : Nat} {f0 g h C : Addr} {fd gd hd : FuncData} (F : Fun K "read_bracketed" "read_bracketed" sBrack f0 fd) (LT : LineT K C) (SK : FkMX P w K mg base 3 C "skip" g gd ["self", "wanted"] (spSkip CB C)) (RT : FkX P w K mg base (15 + 5 * m) "read_tree" h hd ["line", "brackets"] (spRd CB C m (treeR (singR badN m)))) (J : Gp K mg) (TB : SupC P K mg "BadText" "row" CB fB B newId i0 bmB) :
    FnOk P w K mg base (L2.CX P w) (11 + 5 * (m + 1)) f0 fd ["line", "brackets"] (spBr CB C (m + 1)) := by
  have hlv : 11 + 5 * (m + 1) = 15 + 5 * m + 1 := by omega
  rw [hlv]
  refine F.okX scBrack (fun vs H Q E h => ?_) (fun cdv A outer s H vs Q E hr h => ?_)
  · obtain ⟨x, dx, l, r, ts, u, j, b, rfl, _⟩ := h
    rfl
  obtain ⟨x, dx, l, r, ts, u, j, b, rfl, hb, L, hrb, hd', ho, q⟩ := h
  refine ⟨_, (pss_cons (ps_if (pt_cmpR op_gt (pv 1) (pe_gi J.brks) (nomark _))
      (pss_one (ps_raiseS rfl TB hr (takes_of rfl rfl rfl rfl) (pa_cons (pe_fld (pv 0) rfl) pa_nil) rfl))
      pss_nil)
    (pss_cons (ps_expr (pe_meth (pv 0) LT.cl SK.M SK.G (hr.mono (by omega)) SK.b .nil (passX (takes_of rfl rfl rfl rfl)) (pa_cons pe_str pa_nil)))
    (pss_cons (ps_set (i := 2) scBrack.nd rfl (Or.inl rfl) (pe_call RT.G (hr.mono (by omega)) (by rfl) RT.m RT.k RT.b .nil (passX (takes_of rfl rfl rfl rfl)) (pa_cons (pv 0) (pa_cons (pv 1) pa_nil))))
    (pss_cons (ps_expr (pe_meth (pv 0) LT.cl SK.M SK.G (hr.mono (by omega)) SK.b .nil (passX (takes_of rfl rfl rfl rfl)) (pa_cons pe_str pa_nil)))
    (pss_one (ps_ret (pv 2))))))), ?_⟩
  have hz := ho.few
  obtain ⟨lr1, lr2⟩ := len_rest hd'
  refine ⟨_, rfl, _, _, rfl, rfl, _, rfl, ?_⟩
  rw [decide_eq_false (by omega : ¬ (8 : Int) < ((b : Nat) : Int))]
  refine iteF ?_
  refine ⟨_, rfl, x, dx, _, rfl, L.ins, rfl, x, dx, l, r, ts, j, "(", rfl, L, by omega, hz, hrb, fun _ H1 L1 B1 => ?_, fun hne => absurd (tokAt_pk hd') hne⟩
  have hd1 : ts.drop (j + 1) = u := drop_more (a := [Tn.lp]) hd'
  have eq : singR badN (m + 1) (.lp :: u) = match treeR (singR badN m) u with
    | some (e, .rp :: r') => some (e, r')
    | _ => none := rfl
  refine ⟨_, rfl, _, rfl, x, dx, l, r, ts, j + 1, b, rfl, by omega, L1, hrb, by omega, ho, ?_⟩
  rw [hd1]
  cases hT : treeR (singR badN m) u with
  | none =>
    rw [hT] at eq
    rw [eq] at q
    exact BadX.of q B1
  | some y =>
    obtain ⟨e, rest⟩ := y
    rw [hT] at eq
    intro v H2 tv L2 B2
    obtain ⟨⟨n, n1, n2, n3⟩, _⟩ := tree_good (sing_good m) u e rest (by rw [← hd1]; exact ho.all _) hT
    obtain ⟨d1, d2⟩ := drop_rest (ts := ts) (rest := rest) (j := j + 1) (n := n) (by omega) (by rw [hd1]; exact n2) (by rw [hd1]; exact n3)
    have hkl : ts.length - rest.length ≤ ts.length := Nat.sub_le _ _
    refine ⟨_, rfl, x, dx, _, rfl, L2.ins, rfl, x, dx, l, r, ts, ts.length - rest.length, ")", rfl, L2, by omega, hz, hrb, fun hok H3 L3 B3 => ?_, fun hne => ?_⟩
    · rw [tokAt_pk d1] at hok
      cases rest with
      | nil => exact absurd hok (by decide +kernel)
      | cons t rest' =>
        have hpt : PtAny t := ho.all (ts.length - (t :: rest').length) t (by rw [d1]; exact List.mem_cons_self)
        have ht : t = .rp := by
          by_cases c : t = .rp
          · exact c
          · exfalso
            have hm : 41 ∈ cd t.txt := by rw [show t.txt = ")" from hok, cd_rp]; exact List.mem_cons_self
            by_cases cn : ∃ s, t = .nam s
            · obtain ⟨s, rfl⟩ := cn
              have hm' : 41 ∈ cd s := hm
              have k41 : kdC 41 = 3 := by decide
              rcases (any_nam hpt).2 with a | a | a | a
              · have := a 41 hm'; omega
              · have := (a 41 hm').2; omega
              · have := a 41 hm'; omega
              · have := a.2 41 hm'; omega
            · exact (pc_clean (any_pok hpt fun s e => cn ⟨s, e⟩)).2 (fun z => c (Option.some.inj z)) hm
        subst ht
        have eq : singR badN (m + 1) (.lp :: u) = some (e, rest') := eq
        rw [eq] at q
        refine ⟨_, rfl, ?_⟩
        refine q v H3 (tv.butx L2.ins B3) ?_ (B1.trans (B2.trans B3))
        have : ts.length - rest'.length = ts.length - (Tn.rp :: rest').length + 1 := by
          have h1 := congrArg List.length d1
          rw [List.length_drop, List.length_cons] at h1
          rw [List.length_cons]
          omega
        rw [this]
        exact L3
    · rw [tokAt_pk d1] at hne
      have e1 : singR badN (m + 1) (.lp :: u) = none := by
        rw [eq]
        cases rest with
        | nil => rfl
        | cons t rest' =>
          cases t with
          | rp => exact absurd rfl hne
          | _ => rfl
      rw [e1] at q
      exact BadX.of q (B1.trans B2)
end
end SH

set_option Elab.async false
set_option linter.all false
set_option maxRecDepth 100000
namespace SH
open PySem L2
abbrev sProd : Stmt := topS 41
abbrev sSum : Stmt := topS 40
abbrev sTreeR : Stmt := topS 39
abbrev sExprR : Stmt := topS 38
theorem scProd : FnScope ["line", "brackets", "tree", "sign"] ["line", "brackets"] (defScope sProd) := ⟨rfl, rfl, rfl, by decide +kernel, rfl, by decide +kernel, by decide +kernel⟩
theorem scSum : FnScope ["line", "brackets", "tree", "sign"] ["line", "brackets"] (defScope sSum) := ⟨rfl, rfl, rfl, by decide +kernel, rfl, by decide +kernel, by decide +kernel⟩
theorem scTreeR : FnScope ["line", "brackets", "left", "sign"] ["line", "brackets"] (defScope sTreeR) := ⟨rfl, rfl, rfl, by decide +kernel, rfl, by decide +kernel, by decide +kernel⟩
theorem scExprR : FnScope ["text", "line", "tree"] ["text"] (defScope sExprR) := ⟨rfl, rfl, rfl, by decide +kernel, rfl, by decide +kernel, by decide +kernel⟩
theorem loop_any {f : Rd} (hf : GoodR f) (L : Int) : ∀ (n : Nat) (e : Ex) (ts : List Tn), AllP ts → ts.length ≤ n → loopR f L n e ts = loopR f L ts.length e ts := by
  intro n
  induction n using Nat.strongRecOn with
  | _ n ih =>
    intro e ts ha hn
    cases ts with
    | nil => cases n <;> rfl
    | cons t r =>
      cases n with
      | zero => exact absurd hn (Nat.not_succ_le_zero _)
      | succ n =>
        have hn' : r.length ≤ n := Nat.le_of_succ_le_succ hn
        have har : AllP r := fun t ht => ha t (List.mem_cons_of_mem _ ht)
        cases t with
        | sg g =>
          show (if g.lv = L then (match f r with
            | some (b, r') => if (Ex.op g e b).dep ≤ 6 then loopR f L n (.op g e b) r' else none
            | none => none) else some (e, Tn.sg g :: r)) = (if g.lv = L then (match f r with
            | some (b, r') => if (Ex.op g e b).dep ≤ 6 then loopR f L r.length (.op g e b) r' else none
            | none => none) else some (e, Tn.sg g :: r))
          cases hr : f r with
          | none => rfl
          | some x =>
            obtain ⟨b, r'⟩ := x
            obtain ⟨⟨k, k1, k2, k3⟩, _⟩ := hf r b r' har hr
            have hl : r'.length ≤ r.length := by rw [k3, List.length_drop]; omega
            have hl2 : r'.length + 1 ≤ r.length := by rw [k3, List.length_drop]; omega
            have ha' : AllP r' := by rw [k3]; exact har.drop k
            have e1 := ih n (Nat.lt_succ_self n) (.op g e b) r' ha' (by omega)
            have e2 := ih r.length (by omega) (.op g e b) r' ha' hl
            simp only [e1, e2]
        | lp => rfl
        | rp => rfl
        | num i => rfl
        | nam i => rfl
def lpR (f : Rd) (L : Int) (e : Ex) (ts : List Tn) : Option (Ex × List Tn) := loopR f L ts.length e ts
theorem lp_end {f : Rd} {L : Int} {e : Ex} {ts : List Tn} (h : ∀ g r, ts = .sg g :: r → g.lv ≠ L) : lpR f L e ts = some (e, ts) := by
  unfold lpR
  cases ts with
  | nil => rfl
  | cons t r =>
    cases t with
    | sg g =>
      show (if g.lv = L then _ else some (e, Tn.sg g :: r)) = _
      rw [if_neg (h g r rfl)]
    | lp => rfl
    | rp => rfl
    | num i => rfl
    | nam i => rfl
theorem lp_step {f : Rd} (hf : GoodR f) {L : Int} {e : Ex} {g : Sg} {r : List Tn} (ha : AllP r) (h : g.lv = L) : lpR f L e (.sg g :: r) = match f r with
    | some (b, r') => if (Ex.op g e b).dep ≤ 6 then lpR f L (.op g e b) r' else none
    | none => none := by
  show (if g.lv = L then (match f r with
    | some (b, r') => if (Ex.op g e b).dep ≤ 6 then loopR f L r.length (.op g e b) r' else none
    | none => none) else some (e, Tn.sg g :: r)) = _
  rw [if_pos h]
  cases hr : f r with
  | none => rfl
  | some x =>
    obtain ⟨b, r'⟩ := x
    obtain ⟨⟨k, k1, k2, k3⟩, _⟩ := hf r b r' ha hr
    have ha' : AllP r' := by rw [k3]; exact ha.drop k
    have e2 := loop_any hf L r.length (.op g e b) r' ha' (by rw [k3, List.length_drop]; omega)
    show (if _ then loopR f L r.length (.op g e b) r' else none) = _
    rw [e2]
    rfl
theorem any_sg {t : Tn} {g : Sg} (h : PtAny t) (e : t.txt = g.txt) : t = .sg g := by
  by_cases cn : ∃ s, t = .nam s
  · exfalso
    obtain ⟨s, rfl⟩ := cn
    have e' : s = g.txt := e
    subst e'
    have hg := cd_sg g
    rcases h with h | h | h | h
    · have k : ∀ c ∈ cd g.txt, kdC c = 0 := nm_kd h
      rw [hg] at k
      cases g <;> exact absurd (k _ List.mem_cons_self) (by decide)
    · have := congrArg cd h
      rw [hg, cd_uno] at this
      cases g <;> exact absurd this (by decide)
    · have := congrArg cd h
      rw [hg, cd_uno] at this
      cases g <;> exact absurd this (by decide)
    · have := h.1
      rw [hg] at this
      cases g <;> exact absurd this (by decide)
  · exact sg_of_txt (any_pok h fun s e => cn ⟨s, e⟩) e
theorem pk_any {rest : List Tn} (h : AllP rest) {g : Sg} (e : pk rest = g.txt) : ∃ r, rest = .sg g :: r := by
  cases rest with
  | nil =>
    have := congrArg cd e
    rw [cd_sg] at this
    cases g <;> exact absurd this (by decide)
  | cons t r => exact ⟨r, by rw [any_sg (h t List.mem_cons_self) (show t.txt = g.txt from e)]⟩
section
variable {P : Program} {w : World} {K : PySem.W.Frag} {mg : Str → Option Value} {base : Heap} {CB fB : Addr} {B newId i0 : String} {bmB : List Value}
theorem ok_prod {m : Nat} {f0 g h i o C : Addr} {fd gd hd idd od : FuncData} (F : Fun K "read_product" "read_product" sProd f0 fd) (LT : LineT K C) (PK : FkMm P w K mg base 1 C "peek" g gd ["self"] (spPeek C)) (TA : FkMm P w K mg base 2 C "take" h hd ["self"] (spTakeL C))
    (RS : FkX P w K mg base (12 + 5 * m) "read_single" i idd ["line", "brackets"] (spRd CB C m (singR badN m))) (OP : FkX P w K mg base 10 "operation" o od ["line", "sign", "left", "right"] (spOper CB C)) (TB : SupC P K mg "BadText" "row" CB fB B newId i0 bmB) : FnOk P w K mg base (L2.CX P w) (13 + 5 * m) f0 fd ["line", "brackets"] (spRd CB C m (levR (singR badN m) 3)) := by
  have hlv : 13 + 5 * m = 12 + 5 * m + 1 := by omega
  rw [hlv]
  refine F.okX scProd (fun vs H Q E h => ?_) (fun cdv A outer s H vs Q E hr h => ?_)
  · obtain ⟨x, dx, l, r, ts, j, b, rfl, _⟩ := h
    rfl
  obtain ⟨x, dx, l, r, ts, j, b, rfl, hb, L, hrb, hj, ho, q⟩ := h
  refine ⟨_, (pss_cons (ps_set (i := 2) scProd.nd rfl (Or.inl rfl) (pe_call RS.G (hr.mono (by omega)) (by rfl) RS.m RS.k RS.b .nil (passX (takes_of rfl rfl rfl rfl)) (pa_cons (pv 0) (pa_cons (pv 1) pa_nil))))
    (pss_cons (ps_while (passes_of rfl) (pt_cmpR op_eq (pe_meth0 (pv 0) LT.cl PK.M PK.G (hr.mono (by omega)) PK.b .nil pass0) pe_str (nomark _))
      (pss_cons (ps_set (i := 3) scProd.nd rfl (Or.inl rfl) (pe_meth0 (pv 0) LT.cl TA.M TA.G (hr.mono (by omega)) TA.b .nil pass0))
    (pss_one (ps_set (i := 2) scProd.nd rfl (Or.inl rfl) (pe_call OP.G (hr.mono (by omega)) (by rfl) OP.m OP.k OP.b .nil (passX (takes_of rfl rfl rfl rfl)) (pa_cons (pv 0) (pa_cons (pv 3) (pa_cons (pv 2) (pa_cons (pe_call RS.G (hr.mono (by omega)) (by rfl) RS.m RS.k RS.b .nil (passX (takes_of rfl rfl rfl rfl)) (pa_cons (pv 0) (pa_cons (pv 1) pa_nil))) pa_nil)))))))))
    (pss_one (ps_ret (pv 2))))), ?_⟩
  have hz := ho.few
  have gd : GoodR (singR badN m) := sing_good m
  have eq : levR (singR badN m) 3 (ts.drop j) = match (singR badN m) (ts.drop j) with
    | some (e, r) => lpR (singR badN m) 3 e r
    | none => none := rfl
  refine ⟨_, rfl, _, rfl, x, dx, l, r, ts, j, b, rfl, hb, L, hrb, hj, ho, ?_⟩
  cases hT : (singR badN m) (ts.drop j) with
  | none =>
    rw [hT] at eq
    rw [eq] at q
    exact q
  | some y =>
    obtain ⟨e0, rest0⟩ := y
    rw [hT] at eq
    rw [eq] at q
    have q : RdRes CB C x dx l r ts H Q E (lpR (singR badN m) 3 e0 rest0) := q
    obtain ⟨⟨n, n1, n2, n3⟩, hf0⟩ := gd _ e0 rest0 (ho.all _) hT
    obtain ⟨d1, d2⟩ := drop_rest (ts := ts) (rest := rest0) hj n2 n3
    intro v0 H1 tv0 L1 B1
    refine ⟨fun k σ H' => ∃ (e : Ex) (rest : List Tn) (v : V) (y : Option V), k = rest.length ∧ ts.drop (ts.length - rest.length) = rest ∧ Ex.fine 6 e ∧ σ = [some (.ref x), some (.int (b : Nat)), some v, y] ∧ TrIn H' e v ∧ LnS H' C x dx l r ts (ts.length - rest.length) ∧ ButX x H H' ∧ RdRes CB C x dx l r ts H Q E (lpR (singR badN m) 3 e rest), ⟨_, e0, rest0, v0, _, rfl, d1, hf0, rfl, tv0, L1, B1, q⟩, ?_⟩
    rintro k σ H2 ⟨e, rest, v, y, rfl, hrest, hfe, rfl, tv, L2, B2, q⟩
    have hal : AllP rest := by rw [← hrest]; exact ho.all _
    have hkl : ts.length - rest.length ≤ ts.length := Nat.sub_le _ _
    refine ⟨_, rfl, x, dx, _, rfl, L2.ins, rfl, x, dx, l, r, ts, _, rfl, L2, by omega, hz, ?_⟩
    rw [tokAt_pk hrest]
    refine ⟨rfl, _, rfl, ?_⟩
    by_cases ct : ∃ g r0, g.lv = 3 ∧ rest = Tn.sg g :: r0
    · obtain ⟨g0, r0, hg, rfl⟩ := ct
      have hg' : g0.lv = 3 := hg
      have har : AllP r0 := fun t ht => hal t (List.mem_cons_of_mem _ ht)
      obtain ⟨lr1, lr2⟩ := len_rest hrest
      have hr1 : ts.drop (ts.length - (Tn.sg g0 :: r0).length + 1) = r0 := drop_more (a := [Tn.sg g0]) hrest
      rw [lp_step gd har hg'] at q
      have hin : g0.txt = ("*" : Str) := by cases g0 <;> first | rfl | exact absurd hg' (by decide)
      show (if decide (V.str g0.txt = V.str "*") = true then _ else _)
      rw [decide_eq_true (by rw [hin])]
      refine iteT ⟨fun σ' H' => ∃ (e : Ex) (rest' : List Tn) (v : V) (y : Option V), rest'.length < (Tn.sg g0 :: r0).length ∧ ts.drop (ts.length - rest'.length) = rest' ∧ Ex.fine 6 e ∧ σ' = [some (.ref x), some (.int (b : Nat)), some v, y] ∧ TrIn H' e v ∧ LnS H' C x dx l r ts (ts.length - rest'.length) ∧ ButX x H H' ∧ RdRes CB C x dx l r ts H Q E (lpR (singR badN m) 3 e rest'), ?_, ?_⟩
      · rintro σ' H' ⟨e', rest', v', y', a0, a1, a2, rfl, a3, a4, a5, a6⟩
        exact ⟨rest'.length, a0, e', rest', v', y', rfl, a1, a2, rfl, a3, a4, a5, a6⟩
      · refine ⟨_, rfl, x, dx, _, rfl, L2.ins, rfl, x, dx, l, r, ts, _, rfl, L2, by omega, hz, fun H3 L3 B3 => ?_⟩
        rw [tokAt_pk hrest]
        refine ⟨_, rfl, _, rfl, _, rfl, _, rfl, _, rfl, x, dx, l, r, ts, _, b, rfl, hb, L3, hrb, by omega, ho, ?_⟩
        rw [hr1]
        cases hR : (singR badN m) r0 with
        | none =>
          rw [hR] at q
          exact BadX.of q (B2.trans B3)
        | some z =>
          obtain ⟨b', r'⟩ := z
          rw [hR] at q
          have q : RdRes CB C x dx l r ts H Q E (if (Ex.op g0 e b').dep ≤ 6 then lpR (singR badN m) 3 (.op g0 e b') r' else none) := q
          obtain ⟨⟨n', m1, m2, m3⟩, hfb⟩ := gd _ b' r' har hR
          obtain ⟨e1, e2⟩ := drop_rest (ts := ts) (rest := r') (j := ts.length - (Tn.sg g0 :: r0).length + 1) (n := n') (by omega) (by rw [hr1]; exact m2) (by rw [hr1]; exact m3)
          intro v4 H4 tv4 L4 B4
          have tv' := (tv.butx L2.ins B3).butx L3.ins B4
          refine ⟨x, dx, l, r, ts, _, g0, e, b', v, v4, rfl, L4, hrb, tv', tv4, hfe, hfb, fun hd v5 H5 S5 tv5 => ?_, fun hd => ?_⟩
          · rw [if_pos hd] at q
            refine ⟨.op g0 e b', r', v5, _, ?_, e1, fine_op hfe hfb hd, rfl, tv5, ⟨S5 _ _ L4.ins, S5 _ _ L4.lst⟩, B2.trans (B3.trans (B4.trans (.same S5))), q⟩
            rw [List.length_cons, m3, List.length_drop]
            omega
          · rw [if_neg hd] at q
            exact BadX.of q (B2.trans (B3.trans B4))
    · have hpk : pk rest ≠ ("*" : Str) := fun h => by
        obtain ⟨r0, h0⟩ := pk_any (g := .mul) hal h
        exact ct ⟨.mul, r0, rfl, h0⟩
      rw [decide_eq_false (fun z => hpk (V.str.inj z))]
      refine iteF ?_
      rw [lp_end (fun g r hh h => ct ⟨g, r, h, hh⟩)] at q
      exact ⟨_, rfl, q v _ tv L2 B2⟩
theorem ok_sum {m : Nat} {f0 g h i o C : Addr} {fd gd hd idd od : FuncData} (F : Fun K "read_sum" "read_sum" sSum f0 fd) (LT : LineT K C) (PK : FkMm P w K mg base 1 C "peek" g gd ["self"] (spPeek C)) (TA : FkMm P w K mg base 2 C "take" h hd ["self"] (spTakeL C))
    (RP : FkX P w K mg base (13 + 5 * m) "read_product" i idd ["line", "brackets"] (spRd CB C m (levR (singR badN m) 3))) (OP : FkX P w K mg base 10 "operation" o od ["line", "sign", "left", "right"] (spOper CB C)) (TB : SupC P K mg "BadText" "row" CB fB B newId i0 bmB) : FnOk P w K mg base (L2.CX P w) (14 + 5 * m) f0 fd ["line", "brackets"] (spRd CB C m (levR (levR (singR badN m) 3) 2)) := by
  have hlv : 14 + 5 * m = 13 + 5 * m + 1 := by omega
  rw [hlv]
  refine F.okX scSum (fun vs H Q E h => ?_) (fun cdv A outer s H vs Q E hr h => ?_)
  · obtain ⟨x, dx, l, r, ts, j, b, rfl, _⟩ := h
    rfl
  obtain ⟨x, dx, l, r, ts, j, b, rfl, hb, L, hrb, hj, ho, q⟩ := h
  refine ⟨_, (pss_cons (ps_set (i := 2) scSum.nd rfl (Or.inl rfl) (pe_call RP.G (hr.mono (by omega)) (by rfl) RP.m RP.k RP.b .nil (passX (takes_of rfl rfl rfl rfl)) (pa_cons (pv 0) (pa_cons (pv 1) pa_nil))))
    (pss_cons (ps_while (passes_of rfl) (pt_cmpR op_in_seq (pe_meth0 (pv 0) LT.cl PK.M PK.G (hr.mono (by omega)) PK.b .nil pass0) (pe_tup (pa_cons pe_str (pa_cons pe_str pa_nil))) rfl)
      (pss_cons (ps_set (i := 3) scSum.nd rfl (Or.inl rfl) (pe_meth0 (pv 0) LT.cl TA.M TA.G (hr.mono (by omega)) TA.b .nil pass0))
    (pss_one (ps_set (i := 2) scSum.nd rfl (Or.inl rfl) (pe_call OP.G (hr.mono (by omega)) (by rfl) OP.m OP.k OP.b .nil (passX (takes_of rfl rfl rfl rfl)) (pa_cons (pv 0) (pa_cons (pv 3) (pa_cons (pv 2) (pa_cons (pe_call RP.G (hr.mono (by omega)) (by rfl) RP.m RP.k RP.b .nil (passX (takes_of rfl rfl rfl rfl)) (pa_cons (pv 0) (pa_cons (pv 1) pa_nil))) pa_nil)))))))))
    (pss_one (ps_ret (pv 2))))), ?_⟩
  have hz := ho.few
  have gd : GoodR (levR (singR badN m) 3) := lev_good (sing_good m) 3
  have eq : levR (levR (singR badN m) 3) 2 (ts.drop j) = match (levR (singR badN m) 3) (ts.drop j) with
    | some (e, r) => lpR (levR (singR badN m) 3) 2 e r
    | none => none := rfl
  refine ⟨_, rfl, _, rfl, x, dx, l, r, ts, j, b, rfl, hb, L, hrb, hj, ho, ?_⟩
  cases hT : (levR (singR badN m) 3) (ts.drop j) with
  | none =>
    rw [hT] at eq
    rw [eq] at q
    exact q
  | some y =>
    obtain ⟨e0, rest0⟩ := y
    rw [hT] at eq
    rw [eq] at q
    have q : RdRes CB C x dx l r ts H Q E (lpR (levR (singR badN m) 3) 2 e0 rest0) := q
    obtain ⟨⟨n, n1, n2, n3⟩, hf0⟩ := gd _ e0 rest0 (ho.all _) hT
    obtain ⟨d1, d2⟩ := drop_rest (ts := ts) (rest := rest0) hj n2 n3
    intro v0 H1 tv0 L1 B1
    refine ⟨fun k σ H' => ∃ (e : Ex) (rest : List Tn) (v : V) (y : Option V), k = rest.length ∧ ts.drop (ts.length - rest.length) = rest ∧ Ex.fine 6 e ∧ σ = [some (.ref x), some (.int (b : Nat)), some v, y] ∧ TrIn H' e v ∧ LnS H' C x dx l r ts (ts.length - rest.length) ∧ ButX x H H' ∧ RdRes CB C x dx l r ts H Q E (lpR (levR (singR badN m) 3) 2 e rest), ⟨_, e0, rest0, v0, _, rfl, d1, hf0, rfl, tv0, L1, B1, q⟩, ?_⟩
    rintro k σ H2 ⟨e, rest, v, y, rfl, hrest, hfe, rfl, tv, L2, B2, q⟩
    have hal : AllP rest := by rw [← hrest]; exact ho.all _
    have hkl : ts.length - rest.length ≤ ts.length := Nat.sub_le _ _
    refine ⟨_, rfl, x, dx, _, rfl, L2.ins, rfl, x, dx, l, r, ts, _, rfl, L2, by omega, hz, ?_⟩
    rw [tokAt_pk hrest]
    refine ⟨(by show 2 ≤ sizeLine; decide), fun p np => ⟨p, _, rfl, .inr (SqT.of upd_same), rfl, rfl, _, rfl, ?_⟩⟩
    rw [if_neg Bool.false_ne_true, show inV (.str (pk rest)) [V.str "+", V.str "-"] = decide (pk rest ∈ [("+" : Str), "-"]) from inV_str (l := ["+", "-"])]
    have S2 := same_new np (.tup [.str "+", .str "-"])
    have L2' : LnS (upd H2 p (.tup [.str "+", .str "-"])) C x dx l r ts (ts.length - rest.length) := ⟨S2 _ _ L2.ins, S2 _ _ L2.lst⟩
    have tv2 := tv.same S2
    have B2' := B2.trans (.same S2)
    generalize upd H2 p (.tup [.str "+", .str "-"]) = H2' at S2 L2' tv2 B2'
    have L2 := L2'
    have tv := tv2
    have B2 := B2'
    by_cases ct : ∃ g r0, g.lv = 2 ∧ rest = Tn.sg g :: r0
    · obtain ⟨g0, r0, hg, rfl⟩ := ct
      have hg' : g0.lv = 2 := hg
      have har : AllP r0 := fun t ht => hal t (List.mem_cons_of_mem _ ht)
      obtain ⟨lr1, lr2⟩ := len_rest hrest
      have hr1 : ts.drop (ts.length - (Tn.sg g0 :: r0).length + 1) = r0 := drop_more (a := [Tn.sg g0]) hrest
      rw [lp_step gd har hg'] at q
      have hin : g0.txt ∈ [("+" : Str), "-"] := by cases g0 <;> first | decide +kernel | exact absurd hg' (by decide)
      show (if decide (g0.txt ∈ [("+" : Str), "-"]) = true then _ else _)
      rw [decide_eq_true hin]
      refine iteT ⟨fun σ' H' => ∃ (e : Ex) (rest' : List Tn) (v : V) (y : Option V), rest'.length < (Tn.sg g0 :: r0).length ∧ ts.drop (ts.length - rest'.length) = rest' ∧ Ex.fine 6 e ∧ σ' = [some (.ref x), some (.int (b : Nat)), some v, y] ∧ TrIn H' e v ∧ LnS H' C x dx l r ts (ts.length - rest'.length) ∧ ButX x H H' ∧ RdRes CB C x dx l r ts H Q E (lpR (levR (singR badN m) 3) 2 e rest'), ?_, ?_⟩
      · rintro σ' H' ⟨e', rest', v', y', a0, a1, a2, rfl, a3, a4, a5, a6⟩
        exact ⟨rest'.length, a0, e', rest', v', y', rfl, a1, a2, rfl, a3, a4, a5, a6⟩
      · refine ⟨_, rfl, x, dx, _, rfl, L2.ins, rfl, x, dx, l, r, ts, _, rfl, L2, by omega, hz, fun H3 L3 B3 => ?_⟩
        rw [tokAt_pk hrest]
        refine ⟨_, rfl, _, rfl, _, rfl, _, rfl, _, rfl, x, dx, l, r, ts, _, b, rfl, hb, L3, hrb, by omega, ho, ?_⟩
        rw [hr1]
        cases hR : (levR (singR badN m) 3) r0 with
        | none =>
          rw [hR] at q
          exact BadX.of q (B2.trans B3)
        | some z =>
          obtain ⟨b', r'⟩ := z
          rw [hR] at q
          have q : RdRes CB C x dx l r ts H Q E (if (Ex.op g0 e b').dep ≤ 6 then lpR (levR (singR badN m) 3) 2 (.op g0 e b') r' else none) := q
          obtain ⟨⟨n', m1, m2, m3⟩, hfb⟩ := gd _ b' r' har hR
          obtain ⟨e1, e2⟩ := drop_rest (ts := ts) (rest := r') (j := ts.length - (Tn.sg g0 :: r0).length + 1) (n := n') (by omega) (by rw [hr1]; exact m2) (by rw [hr1]; exact m3)
          intro v4 H4 tv4 L4 B4
          have tv' := (tv.butx L2.ins B3).butx L3.ins B4
          refine ⟨x, dx, l, r, ts, _, g0, e, b', v, v4, rfl, L4, hrb, tv', tv4, hfe, hfb, fun hd v5 H5 S5 tv5 => ?_, fun hd => ?_⟩
          · rw [if_pos hd] at q
            refine ⟨.op g0 e b', r', v5, _, ?_, e1, fine_op hfe hfb hd, rfl, tv5, ⟨S5 _ _ L4.ins, S5 _ _ L4.lst⟩, B2.trans (B3.trans (B4.trans (.same S5))), q⟩
            rw [List.length_cons, m3, List.length_drop]
            omega
          · rw [if_neg hd] at q
            exact BadX.of q (B2.trans (B3.trans B4))
    · have hpk : pk rest ∉ [("+" : Str), "-"] := by
        intro hm
        rcases List.mem_cons.mp hm with h | h
        · obtain ⟨r0, h0⟩ := pk_any (g := .add) hal h
          exact ct ⟨.add, r0, rfl, h0⟩
        · obtain ⟨r0, h0⟩ := pk_any (g := .sub) hal (List.mem_singleton.mp h)
          exact ct ⟨.sub, r0, rfl, h0⟩
      rw [decide_eq_false hpk]
      refine iteF ?_
      rw [lp_end (fun g r hh h => ct ⟨g, r, h, hh⟩)] at q
      exact ⟨_, rfl, q v _ tv L2 B2⟩
end
end SH

set_option Elab.async false
set_option linter.all false
set_option maxRecDepth 100000
namespace SH
open PySem L2
theorem lex_lens : ∀ (n : Nat) (cs : List Nat), cs.length ≤ n → (lexL cs).length ≤ cs.length ∧ ∀ x ∈ lexL cs, x.2.length ≤ cs.length := by
  intro n
  induction n with
  | zero =>
    intro cs hn
    cases cs with
    | nil => exact ⟨Nat.le_refl _, fun x hx => by cases hx⟩
    | cons c r => exact absurd hn (Nat.not_succ_le_zero _)
  | succ n ih =>
    intro cs hn
    cases cs with
    | nil => exact ⟨Nat.le_refl _, fun x hx => by cases hx⟩
    | cons c r =>
      have hp := munch_pos c r
      have hl := munch_len (c :: r)
      have hn' : r.length + 1 ≤ n + 1 := hn
      have hd : ((c :: r).drop (munch (c :: r)).length).length = r.length + 1 - (munch (c :: r)).length := by rw [List.length_drop, List.length_cons]
      obtain ⟨i1, i2⟩ := ih ((c :: r).drop (munch (c :: r)).length) (by omega)
      rw [lexL_cons, List.length_cons, List.length_cons]
      refine ⟨by omega, fun x hx => ?_⟩
      rcases List.mem_cons.mp hx with rfl | hx
      · rw [List.length_cons] at hl; exact hl
      · have := i2 x hx; omega
def spRead (CB : Addr) : Sp := fun vs H Q E => ∃ (s : Str) (o : Option Ex), vs = [.str s] ∧ s.length ≤ 1000000 ∧ progM kept badN (cd s) o ∧
  (∀ e, o = some e → ∀ v H', Same H H' → TrIn H' e v → Q v H') ∧ (o = none → BadT CB H E 1)
section
variable {P : Program} {w : World} {K : PySem.W.Frag} {mg : Str → Option Value} {base : Heap} {CB fB : Addr} {B newId i0 : String} {bmB : List Value}
theorem brack_no {f0 h g C : Addr} {fd hd gd : FuncData} (F : Fun K "read_bracketed" "read_bracketed" sBrack f0 fd) (LT : LineT K C) (SK : FkMX P w K mg base 3 C "skip" g gd ["self", "wanted"] (spSkip CB C)) (RT : FkX P w K mg base 10 "read_tree" h hd ["line", "brackets"] (fun _ _ _ _ => False)) (J : Gp K mg) (TB : SupC P K mg "BadText" "row" CB fB B newId i0 bmB) : FnOk P w K mg base (L2.CX P w) 11 f0 fd ["line", "brackets"] (spBr CB C 0) := by
  refine F.okX scBrack (fun vs H Q E h => ?_) (fun cdv A outer s H vs Q E hr h => ?_)
  · obtain ⟨x, dx, l, r, ts, u, j, b, rfl, _⟩ := h
    rfl
  obtain ⟨x, dx, l, r, ts, u, j, b, rfl, hb, L, hrb, hd', ho, q⟩ := h
  refine ⟨_, (pss_cons (ps_if (pt_cmpR op_gt (pv 1) (pe_gi J.brks) (nomark _))
      (pss_one (ps_raiseS rfl TB hr (takes_of rfl rfl rfl rfl) (pa_cons (pe_fld (pv 0) rfl) pa_nil) rfl))
      pss_nil)
    (pss_cons (ps_expr (pe_meth (pv 0) LT.cl SK.M SK.G (hr.mono (by omega)) SK.b .nil (passX (takes_of rfl rfl rfl rfl)) (pa_cons pe_str pa_nil)))
    (pss_cons (ps_set (i := 2) scBrack.nd rfl (Or.inl rfl) (pe_call RT.G (hr.mono (by omega)) (by rfl) RT.m RT.k RT.b .nil (passX (takes_of rfl rfl rfl rfl)) (pa_cons (pv 0) (pa_cons (pv 1) pa_nil))))
    (pss_cons (ps_expr (pe_meth (pv 0) LT.cl SK.M SK.G (hr.mono (by omega)) SK.b .nil (passX (takes_of rfl rfl rfl rfl)) (pa_cons pe_str pa_nil)))
    (pss_one (ps_ret (pv 2))))))), ?_⟩
  refine ⟨_, rfl, _, _, rfl, rfl, _, rfl, ?_⟩
  rw [decide_eq_true (by omega : (8 : Int) < ((b : Nat) : Int))]
  refine iteT ?_
  exact ⟨_, rfl, x, C, dx, _, _, rfl, L.ins, LT.cl, LT.row, rfl, _, rfl, .inr ⟨_, rfl, hrb⟩, fun d hd => q d H (ButX.refl H) hd⟩
theorem ok_treeR {m : Nat} {f0 g h i o C : Addr} {fd gd hd idd od : FuncData} {dvs : List V} (F : FunD K "read_tree" "read_tree" (defArgs sTreeR) (defBody sTreeR) (defScope sTreeR) dvs [] f0 fd) (LT : LineT K C) (PK : FkMm P w K mg base 1 C "peek" g gd ["self"] (spPeek C)) (TA : FkMm P w K mg base 2 C "take" h hd ["self"] (spTakeL C))
    (RM : FkX P w K mg base (14 + 5 * m) "read_sum" i idd ["line", "brackets"] (spRd CB C m (sumR (singR badN m)))) (OP : FkX P w K mg base 10 "operation" o od ["line", "sign", "left", "right"] (spOper CB C)) : FnOk P w K mg base (L2.CX P w) (15 + 5 * m) f0 fd ["line", "brackets"] (spRd CB C m (treeR (singR badN m))) := by
  have hlv : 15 + 5 * m = 14 + 5 * m + 1 := by omega
  rw [hlv]
  refine FunD.ok (CX := L2.CX P w) F scTreeR (fun vs H Q E h => ?_) (fun cdv A outer s H vs Q E hr h => ?_)
  · obtain ⟨x, dx, l, r, ts, j, b, rfl, _⟩ := h
    rfl
  obtain ⟨x, dx, l, r, ts, j, b, rfl, hb, L, hrb, hj, ho, q⟩ := h
  refine ⟨_, (pss_cons (ps_set (i := 2) scTreeR.nd rfl (Or.inl rfl) (pe_call RM.G (hr.mono (by omega)) (by rfl) RM.m RM.k RM.b .nil (passX (takes_of rfl rfl rfl rfl)) (pa_cons (pv 0) (pa_cons (pv 1) pa_nil))))
    (pss_cons (ps_if (pt_cmpR op_notIn_seq (pe_meth0 (pv 0) LT.cl PK.M PK.G (hr.mono (by omega)) PK.b .nil pass0) (pe_tup (pa_cons pe_str (pa_cons pe_str pa_nil))) rfl)
      (pss_one (ps_ret (pv 2)))
      pss_nil)
    (pss_cons (ps_set (i := 3) scTreeR.nd rfl (Or.inl rfl) (pe_meth0 (pv 0) LT.cl TA.M TA.G (hr.mono (by omega)) TA.b .nil pass0))
    (pss_one (ps_ret (pe_call OP.G (hr.mono (by omega)) (by rfl) OP.m OP.k OP.b .nil (passX (takes_of rfl rfl rfl rfl)) (pa_cons (pv 0) (pa_cons (pv 3) (pa_cons (pv 2) (pa_cons (pe_call RM.G (hr.mono (by omega)) (by rfl) RM.m RM.k RM.b .nil (passX (takes_of rfl rfl rfl rfl)) (pa_cons (pv 0) (pa_cons (pv 1) pa_nil))) pa_nil)))))))))), ?_⟩
  have hz := ho.few
  have gd : GoodR (sumR (singR badN m)) := lev_good (lev_good (sing_good m) 3) 2
  have eq : treeR (singR badN m) (ts.drop j) = match sumR (singR badN m) (ts.drop j) with
    | some (e, .sg g :: r) => if g.lv = 1 then (match sumR (singR badN m) r with
        | some (b, r') => if (Ex.op g e b).dep ≤ 6 then some (.op g e b, r') else none
        | none => none) else some (e, .sg g :: r)
    | x => x := rfl
  refine ⟨_, rfl, _, rfl, x, dx, l, r, ts, j, b, rfl, hb, L, hrb, hj, ho, ?_⟩
  cases hT : sumR (singR badN m) (ts.drop j) with
  | none =>
    rw [hT] at eq
    have eq : treeR (singR badN m) (ts.drop j) = none := eq
    rw [eq] at q
    exact q
  | some y =>
    obtain ⟨e, rest⟩ := y
    rw [hT] at eq
    obtain ⟨⟨n, n1, n2, n3⟩, hfe⟩ := gd _ e rest (ho.all _) hT
    obtain ⟨hrest, d2⟩ := drop_rest (ts := ts) (rest := rest) hj n2 n3
    have hkl : ts.length - rest.length ≤ ts.length := Nat.sub_le _ _
    have hal : AllP rest := by rw [← hrest]; exact ho.all _
    intro v H1 tv L1 B1
    refine ⟨_, rfl, x, dx, _, rfl, L1.ins, rfl, x, dx, l, r, ts, _, rfl, L1, by omega, hz, ?_⟩
    rw [tokAt_pk hrest]
    refine ⟨(by show 2 ≤ sizeLine; decide), fun p np => ⟨p, _, rfl, .inr (SqT.of upd_same), rfl, rfl, _, rfl, ?_⟩⟩
    rw [if_pos rfl, show inV (.str (pk rest)) [V.str "<", V.str "=="] = decide (pk rest ∈ [("<" : Str), "=="]) from inV_str (l := ["<", "=="])]
    have S2 := same_new np (.tup [.str "<", .str "=="])
    have L2 : LnS (upd H1 p (.tup [.str "<", .str "=="])) C x dx l r ts (ts.length - rest.length) := ⟨S2 _ _ L1.ins, S2 _ _ L1.lst⟩
    have tv2 := tv.same S2
    have B2 := B1.trans (.same S2)
    generalize upd H1 p (.tup [.str "<", .str "=="]) = H2 at S2 L2 tv2 B2
    by_cases ct : ∃ g r0, g.lv = 1 ∧ rest = Tn.sg g :: r0
    · obtain ⟨g0, r0, hg, rfl⟩ := ct
      have har : AllP r0 := fun t ht => hal t (List.mem_cons_of_mem _ ht)
      obtain ⟨lr1, lr2⟩ := len_rest hrest
      have hr1 : ts.drop (ts.length - (Tn.sg g0 :: r0).length + 1) = r0 := drop_more (a := [Tn.sg g0]) hrest
      have hin : g0.txt ∈ [("<" : Str), "=="] := by cases g0 <;> first | decide +kernel | exact absurd hg (by decide)
      show (if (!decide (g0.txt ∈ [("<" : Str), "=="])) = true then _ else _)
      rw [decide_eq_true hin]
      refine iteF ?_
      refine ⟨_, rfl, x, dx, _, rfl, L2.ins, rfl, x, dx, l, r, ts, _, rfl, L2, by omega, hz, fun H3 L3 B3 => ?_⟩
      rw [tokAt_pk hrest]
      refine ⟨_, rfl, _, rfl, _, rfl, _, rfl, _, rfl, x, dx, l, r, ts, _, b, rfl, hb, L3, hrb, by omega, ho, ?_⟩
      rw [hr1]
      have eq : treeR (singR badN m) (ts.drop j) = if g0.lv = 1 then (match sumR (singR badN m) r0 with
        | some (b, r') => if (Ex.op g0 e b).dep ≤ 6 then some (.op g0 e b, r') else none
        | none => none) else some (e, .sg g0 :: r0) := eq
      rw [if_pos hg] at eq
      cases hR : sumR (singR badN m) r0 with
      | none =>
        rw [hR] at eq
        have eq : treeR (singR badN m) (ts.drop j) = none := eq
        rw [eq] at q
        exact BadX.of q (B2.trans B3)
      | some z =>
        obtain ⟨b', r'⟩ := z
        rw [hR] at eq
        have eq : treeR (singR badN m) (ts.drop j) = if (Ex.op g0 e b').dep ≤ 6 then some (.op g0 e b', r') else none := eq
        obtain ⟨_, hfb⟩ := gd _ b' r' har hR
        intro v4 H4 tv4 L4 B4
        have tv' := (tv2.butx L2.ins B3).butx L3.ins B4
        refine ⟨x, dx, l, r, ts, _, g0, e, b', v, v4, rfl, L4, hrb, tv', tv4, hfe, hfb, fun hd v5 H5 S5 tv5 => ?_, fun hd => ?_⟩
        · rw [if_pos hd] at eq
          rw [eq] at q
          exact q v5 H5 tv5 ⟨S5 _ _ L4.ins, S5 _ _ L4.lst⟩ (B2.trans (B3.trans (B4.trans (.same S5))))
        · rw [if_neg hd] at eq
          rw [eq] at q
          exact BadX.of q (B2.trans (B3.trans B4))
    · have hpk : pk rest ∉ [("<" : Str), "=="] := by
        intro hm
        rcases List.mem_cons.mp hm with h | h
        · obtain ⟨r0, h0⟩ := pk_any (g := .lt) hal h
          exact ct ⟨.lt, r0, rfl, h0⟩
        · obtain ⟨r0, h0⟩ := pk_any (g := .eq) hal (List.mem_singleton.mp h)
          exact ct ⟨.eq, r0, rfl, h0⟩
      rw [decide_eq_false hpk]
      refine iteT ?_
      have e1 : treeR (singR badN m) (ts.drop j) = some (e, rest) := by
        rw [eq]
        cases rest with
        | nil => rfl
        | cons t r0 =>
          cases t with
          | sg g =>
            have hng : ¬ g.lv = 1 := fun h => ct ⟨g, r0, h, rfl⟩
            show (if g.lv = 1 then _ else _) = _
            rw [if_neg hng]
          | lp => rfl
          | rp => rfl
          | num n => rfl
          | nam n => rfl
      rw [e1] at q
      exact ⟨_, rfl, q v _ tv2 L2 B2⟩
theorem ok_exprR {f0 g h i C : Addr} {fd gd hd idd : FuncData} {vd : Value} (F : Fun K "read_expression" "read_expression" sExprR f0 fd) (LT : LineT K C) (mC : mg "Line" = some (.ref C)) (MK : L2.Mk K C i) (GI : FnOk P w K mg base (L2.CX P w) 4 i idd ["self", "text", "row"] (spLineInit CB C)) (bLi : Binds K idd ["self", "text", "row"] [])
    (SK : FkMX P w K mg base 3 C "skip" g gd ["self", "wanted"] (spSkip CB C)) (RT : FkX P w K mg base 55 "read_tree" h hd ["line", "brackets"] (spRd CB C 8 (treeR (singR badN 8)))) (bT : Binds K hd ["line", "brackets"] [vd]) (vT : Vals [V.int 0] [vd]) (J : Gp K mg) : FnOk P w K mg base (L2.CX P w) 56 f0 fd ["text"] (spRead CB) := by
  refine F.okX scExprR (fun vs H Q E h => ?_) (fun cdv A outer s H vs Q E hr h => ?_)
  · obtain ⟨s, o, rfl, _⟩ := h
    rfl
  obtain ⟨z, o, rfl, hz, hM, q, qe⟩ := h
  obtain ⟨tN, gNp⟩ := J.np
  refine ⟨_, (pss_cons (ps_set (i := 1) scExprR.nd rfl (Or.inl rfl) (pe_make MK GI (hr.mono (by omega)) (by rfl) mC bLi .nil (passX (takes_of rfl rfl rfl rfl)) (pa_cons (pv 0) (pa_cons pe_int pa_nil))))
    (pss_cons (ps_set (i := 2) scExprR.nd rfl (Or.inl rfl) (pe_call RT.G (hr.mono (by omega)) (by rfl) RT.m RT.k bT vT (passX (takes_of rfl rfl rfl rfl)) (pa_cons (pv 1) pa_nil)))
    (pss_cons (ps_expr (pe_meth (pv 1) LT.cl SK.M SK.G (hr.mono (by omega)) SK.b .nil (passX (takes_of rfl rfl rfl rfl)) (pa_cons (pe_glob (v := .str Str.empty) rfl gNp ⟨_, rfl⟩) pa_nil)))
    (pss_one (ps_ret (pv 2)))))), ?_⟩
  have one : (1 : Int).natAbs.log2 < 1920 := by decide
  refine ⟨_, rfl, fun x dx nx ndx nex => ?_⟩
  have free : ∀ {H'}, ButX x (upd (upd H dx (.own x)) x (.ins C dx [])) H' → Same H H' := fun b a u e => by
    have na : a ≠ x := fun z => by rw [z, nx] at e; cases e
    have nd : a ≠ dx := fun z => by rw [z, ndx] at e; cases e
    exact b _ _ na (by rw [upd_ne na, upd_ne nd]; exact e)
  have bad : o = none → ∀ {H1}, ButX x (upd (upd H dx (.own x)) x (.ins C dx [])) H1 → BadX CB x H1 E 1 := fun e H1 b d H' b' n => qe e d H' (free (b.trans b')) n
  refine ⟨x, dx, z, 1, rfl, upd_same, hz, one, fun hok l H1 nl L1 B1 => ⟨rfl, ?_⟩, fun hno d H1 S1 n1 => ?_⟩
  · obtain ⟨hp, ts, t1, t2, ho⟩ : lexOk (cd z) ∧ ∃ ts : List Tn, (∀ t ∈ ts, PtAny t) ∧ ts.map (fun t => t.txt) = ((lexL (cd z)).filter fun x => decide (x.1 ≠ 4)).map (fun x => strL x.2) ∧ o = wholeR badN ts := by
      rcases hM with ⟨⟨y, hy, h4, hp⟩, _⟩ | h
      · have := hok y hy h4
        rw [hp] at this
        cases this
      · exact h
    obtain ⟨l1, l2⟩ := lex_lens (cd z).length (cd z) (Nat.le_refl _)
    rw [cd_len] at l1 l2
    have hts : TsOk ts := by
      refine ⟨fun t ht => ⟨t1 t ht, ?_⟩, ?_⟩
      · have : t.txt ∈ ts.map (fun t => t.txt) := List.mem_map.mpr ⟨t, ht, rfl⟩
        rw [t2] at this
        obtain ⟨y, hy, e⟩ := List.mem_map.mp this
        rw [← e, ← cd_len, cd_strL]
        have := l2 y (List.mem_filter.mp hy).1
        omega
      · have := congrArg List.length t2
        rw [List.length_map, List.length_map] at this
        have h3 := List.length_filter_le (fun x : Int × List Nat => decide (x.1 ≠ 4)) (lexL (cd z))
        omega
    have eL : ptsL (lexL (cd z)) = ts.map fun t => V.str t.txt := by
      have := congrArg (List.map V.str) t2
      rw [List.map_map, List.map_map] at this
      exact this.symm
    have L1' : LnS H1 C x dx l 1 ts 0 := ⟨L1.ins, by rw [← eL]; exact L1.lst⟩
    have hw : wholeR badN ts = match treeR (singR badN 8) ts with
      | some (e, []) => some e
      | _ => none := rfl
    refine ⟨_, rfl, x, dx, l, 1, ts, 0, 0, rfl, rfl, L1', one, Nat.zero_le _, hts, ?_⟩
    rw [List.drop_zero]
    cases hT : treeR (singR badN 8) ts with
    | none =>
      rw [hT] at hw
      exact bad (by rw [ho, hw]) B1
    | some y =>
      obtain ⟨e, rest⟩ := y
      rw [hT] at hw
      obtain ⟨⟨n, n1, n2, n3⟩, _⟩ := tree_good (sing_good 8) ts e rest (fun t ht => t1 t ht) hT
      obtain ⟨d1, d2⟩ := drop_rest (ts := ts) (rest := rest) (j := 0) (n := n) (Nat.zero_le _) (by rw [List.drop_zero]; exact n2) (by rw [List.drop_zero]; exact n3)
      have hkl : ts.length - rest.length ≤ ts.length := Nat.sub_le _ _
      intro v H2 tv L2 B2
      refine ⟨_, rfl, x, dx, _, rfl, L2.ins, rfl, x, dx, l, 1, ts, _, Str.empty, rfl, L2, by omega, hts.few, one, fun hok2 H3 L3 B3 => ?_, fun hne => ?_⟩
      · rw [tokAt_pk d1] at hok2
        have er : rest = [] := by
          cases rest with
          | nil => rfl
          | cons t r0 =>
            exfalso
            have hpt : PtAny t := hts.all (ts.length - (t :: r0).length) t (by rw [d1]; exact List.mem_cons_self)
            have h0 : t.txt = Str.empty := hok2
            by_cases cn : ∃ s, t = .nam s
            · obtain ⟨s, rfl⟩ := cn
              exact (any_nam hpt).1 (congrArg cd h0)
            · exact pc_ne (any_pok hpt fun s e => cn ⟨s, e⟩) (congrArg cd h0)
        subst er
        refine ⟨_, rfl, q e (by rw [ho, hw]) v H3 (free (B1.trans (B2.trans B3))) (tv.butx L2.ins B3)⟩
      · rw [tokAt_pk d1] at hne
        refine bad ?_ (B1.trans B2)
        rw [ho, hw]
        cases rest with
        | nil => exact absurd rfl hne
        | cons t r0 => rfl
  · have ho : o = none := by
      rcases hM with ⟨_, h⟩ | ⟨h, _⟩
      · exact h
      · exact absurd h hno
    exact qe ho d H1 (free (.same S1)) n1
end
end SH

set_option Elab.async false
set_option linter.all false
set_option maxRecDepth 100000
/-! plain data of tuples: how deep, how long their text. -/
namespace SH
open PySem L2
mutual
def onlyT : PyData → Bool
  | .none => true
  | .bool _ => true
  | .int _ => true
  | .str _ => true
  | .list _ => false
  | .tuple ds => onlyTs ds
  | .dict _ => false
def onlyTs : List PyData → Bool
  | [] => true
  | d :: ds => onlyT d && onlyTs ds
end
theorem onlyTs_mem : ∀ {ds : List PyData}, (∀ d ∈ ds, onlyT d = true) → onlyTs ds = true
  | [], _ => rfl
  | d :: ds, h => by
    show (onlyT d && onlyTs ds) = true
    rw [h d (List.mem_cons_self ..), onlyTs_mem fun e he => h e (List.mem_cons_of_mem _ he)]
    rfl
theorem mem_onlyTs : ∀ {ds : List PyData}, onlyTs ds = true → ∀ d ∈ ds, onlyT d = true
  | [], _, d, hd => by cases hd
  | e :: ds, h, d, hd => by
    have h' : (onlyT e && onlyTs ds) = true := h
    rw [Bool.and_eq_true] at h'
    rcases List.mem_cons.mp hd with rfl | hd
    · exact h'.1
    · exact mem_onlyTs h'.2 d hd
/-! such data stay where the tuples stay -/
def KpT (K : PySem.W.Frag) (H H' : Hp) : Prop := ∀ a xs, SqT K H a xs → SqT K H' a xs
mutual
theorem Dp.keep {K : PySem.W.Frag} {H H' : Hp} (h : KpT K H H') : ∀ {d : PyData} {v : V}, onlyT d = true → Dp K H v d → Dp K H' v d
  | .none, _, _, .non => .non
  | .bool _, _, _, .bl b => .bl b
  | .int _, _, _, .int i => .int i
  | .str _, _, _, .str x => .str x
  | .list _, _, o, _ => by cases o
  | .tuple ds, _, o, .tup s q => .tup (h _ _ s) (DpAll.keep h o q)
  | .dict _, _, o, _ => by cases o
theorem DpAll.keep {K : PySem.W.Frag} {H H' : Hp} (h : KpT K H H') : ∀ {ds : List PyData} {vs : List V}, onlyTs ds = true → DpAll K H vs ds → DpAll K H' vs ds
  | [], _, _, .nil => .nil
  | d :: ds, _, o, .cons a b => by
    have o' : (onlyT d && onlyTs ds) = true := o
    rw [Bool.and_eq_true] at o'
    exact .cons (Dp.keep h o'.1 a) (DpAll.keep h o'.2 b)
end
theorem Same.kpT {K : PySem.W.Frag} {H H' : Hp} (s : Same H H') : KpT K H H' := fun a xs h => by
  rcases h with (h | ⟨o, h⟩) | h
  · exact .inl (.inl (s _ _ h))
  · exact .inl (.inr ⟨o, s _ _ h⟩)
  · exact .inr h
theorem KpT.trans {K : PySem.W.Frag} {H H1 H2 : Hp} (a : KpT K H H1) (b : KpT K H1 H2) : KpT K H H2 := fun x xs h => b x xs (a x xs h)
theorem KpT.lst {K : PySem.W.Frag} {H : Hp} {l : Addr} {xs zs : List V} (h : H l = some (.lst xs)) : KpT K H (upd H l (.lst zs)) := fun a ys q => by
  rcases q with (q | ⟨o, q⟩) | q
  · exact .inl (.inl (by rw [upd_ne (fun z => by rw [z, h] at q; cases q)]; exact q))
  · exact .inl (.inr ⟨o, by rw [upd_ne (fun z => by rw [z, h] at q; cases q)]; exact q⟩)
  · exact .inr q
theorem DpAll.app {K : PySem.W.Frag} {H : Hp} : ∀ {as bs : List V} {ds es : List PyData}, DpAll K H as ds → DpAll K H bs es → DpAll K H (as ++ bs) (ds ++ es)
  | _, _, _, _, .nil, q => q
  | _, _, _, _, .cons a b, q => .cons a (DpAll.app b q)
theorem DpAll.len {K : PySem.W.Frag} {H : Hp} : ∀ {as : List V} {ds : List PyData}, DpAll K H as ds → as.length = ds.length
  | _, _, .nil => rfl
  | _, _, .cons _ b => by rw [List.length_cons, List.length_cons, DpAll.len b]
theorem DpAll.rev {K : PySem.W.Frag} {H : Hp} : ∀ {as : List V} {ds : List PyData}, DpAll K H as ds → DpAll K H as.reverse ds.reverse
  | _, _, .nil => .nil
  | _, _, .cons a b => by
    rw [List.reverse_cons, List.reverse_cons]
    exact DpAll.app (DpAll.rev b) (.cons a .nil)
/-! ### how long their text is -/
theorem piled_sum : ∀ ts : List Str, piled ts = (ts.map fun t => t.length + 2).sum
  | [] => rfl
  | t :: ts => by rw [piled_cons, piled_sum ts, List.map_cons, List.sum_cons]
theorem tuple_len (ts : List Str) : (tupleText ts).length ≤ 3 + (ts.map fun t => t.length + 2).sum := by
  unfold tupleText
  rw [strLen_append, strLen_append]
  have e1 : (((if ts.length == 1 then ",)" else ")" : String) : Str)).length ≤ 2 := by split <;> decide
  have e2 : (("(" : String) : Str).length = 1 := rfl
  cases ts with
  | nil =>
    have : (Str.join ", " ([] : List Str)).length = 0 := rfl
    omega
  | cons x r =>
    have := join_length_add (x :: r) (by simp)
    rw [piled_sum] at this
    omega
theorem textFrom_le : ∀ (ts : List Str) (k : Nat) (acc : Str), (textFrom k acc ts).length ≤ acc.length + (ts.map fun t => t.length + 2).sum
  | [], _, acc => Nat.le_refl _
  | t :: r, k, acc => by
    have h := textFrom_le r (k + 1) (acc ++ (if k > 0 then ", " else "" : String) ++ t)
    have e : (acc ++ (if k > 0 then ", " else "" : String) ++ t).length ≤ acc.length + 2 + t.length := by
      rw [strLen_append, strLen_append]
      have : (((if k > 0 then ", " else "" : String) : Str)).length ≤ 2 := by split <;> decide
      omega
    show (textFrom (k + 1) (acc ++ (if k > 0 then ", " else "" : String) ++ t) r).length ≤ _
    rw [List.map_cons, List.sum_cons]
    omega
theorem list_len (ts : List Str) : (listText ts).length ≤ 2 + (ts.map fun t => t.length + 2).sum := by
  unfold listText
  rw [strLen_append]
  have := textFrom_le ts 0 "["
  have e1 : (("[" : String) : Str).length = 1 := rfl
  have e2 : (("]" : String) : Str).length = 1 := rfl
  omega
/-- plain data of tuples, no deeper than n, with a text of at most m signs -/
structure Nice (n m : Nat) (d : PyData) : Prop where
  lay : PySem.PyData.canLay0 d = true
  dep : d.depth ≤ n
  ot : onlyT d = true
  sh : d.showable = true
  nd : d.hasDict = false
  sz : d.shown.length ≤ m
theorem Nice.up {n m n' m' : Nat} {d : PyData} (h : Nice n m d) (a : n ≤ n') (b : m ≤ m') : Nice n' m' d := ⟨h.lay, Nat.le_trans h.dep a, h.ot, h.sh, h.nd, Nat.le_trans h.sz b⟩
theorem showAll_mem : ∀ {ds : List PyData}, (∀ d ∈ ds, PyData.showable d = true) → PyData.showableAll ds = true
  | [], _ => rfl
  | d :: ds, h => by
    show (PyData.showable d && PyData.showableAll ds) = true
    rw [h d (List.mem_cons_self ..), showAll_mem fun e he => h e (List.mem_cons_of_mem _ he)]
    rfl
theorem noDict_mem : ∀ {ds : List PyData}, (∀ d ∈ ds, PyData.hasDict d = false) → PyData.hasDictAll ds = false
  | [], _ => rfl
  | d :: ds, h => by
    show (PyData.hasDict d || PyData.hasDictAll ds) = false
    rw [h d (List.mem_cons_self ..), noDict_mem fun e he => h e (List.mem_cons_of_mem _ he)]
    rfl
theorem shownAll_map : ∀ ds : List PyData, PyData.shownAll ds = ds.map PyData.shown
  | [] => rfl
  | d :: ds => by
    show PyData.shown d :: PyData.shownAll ds = _
    rw [shownAll_map ds]
    rfl
theorem lay_all (xs : List PyData) : PySem.PyData.canLayAll0 xs = xs.all PySem.PyData.canLay0 := by
  induction xs with
  | nil => rfl
  | cons x xs ih =>
    show (PySem.PyData.canLay0 x && PySem.PyData.canLayAll0 xs) = _
    rw [ih, List.all_cons]
theorem deep_all {n : Nat} : ∀ {xs : List PyData}, (∀ x ∈ xs, x.depth ≤ n) → PySem.PyData.depthAll xs ≤ n
  | [], _ => Nat.zero_le _
  | x :: xs, h => by
    show max x.depth (PySem.PyData.depthAll xs) ≤ n
    have h1 := h x (List.mem_cons_self ..)
    have h2 := deep_all fun y hy => h y (List.mem_cons_of_mem _ hy)
    omega
/-- the parts one by one: no deeper than n, their texts together -/
inductive Nices (n : Nat) : Nat → List PyData → Prop
  | nil : Nices n 0 []
  | cons {m k : Nat} {d : PyData} {ds : List PyData} : Nice n m d → Nices n k ds → Nices n (m + 2 + k) (d :: ds)
theorem Nices.mem {n k : Nat} {ds : List PyData} (h : Nices n k ds) : ∀ d ∈ ds, ∃ m, Nice n m d := by
  induction h with
  | nil => intro d hd; cases hd
  | cons a _ ih =>
    intro e he
    rcases List.mem_cons.mp he with rfl | he
    · exact ⟨_, a⟩
    · exact ih e he
theorem Nices.sum {n k : Nat} {ds : List PyData} (h : Nices n k ds) : ((PyData.shownAll ds).map fun t => t.length + 2).sum ≤ k := by
  induction h with
  | nil => exact Nat.le_refl _
  | @cons m k d ds a _ ih =>
    show ((PyData.shown d :: PyData.shownAll ds).map fun t => t.length + 2).sum ≤ _
    rw [List.map_cons, List.sum_cons]
    have := a.sz
    omega
theorem Nices.app {n k l : Nat} {ds es : List PyData} (a : Nices n k ds) (b : Nices n l es) : Nices n (k + l) (ds ++ es) := by
  induction a with
  | nil => rw [Nat.zero_add]; exact b
  | @cons m k d ds h _ ih =>
    have := Nices.cons h ih
    rw [show m + 2 + k + l = m + 2 + (k + l) by omega]
    exact this
theorem Nices.all {n m : Nat} : ∀ {ds : List PyData}, (∀ d ∈ ds, Nice n m d) → Nices n (ds.length * (m + 2)) ds
  | [], _ => by rw [List.length_nil, Nat.zero_mul]; exact .nil
  | d :: ds, h => by
    have := Nices.cons (h d (List.mem_cons_self ..)) (Nices.all fun e he => h e (List.mem_cons_of_mem _ he))
    rw [List.length_cons, Nat.succ_mul, Nat.add_comm]
    exact this
theorem nice_tup {n k : Nat} {ds : List PyData} (h : Nices n k ds) : Nice (n + 1) (3 + k) (.tuple ds) := by
  have me := h.mem
  refine ⟨?_, ?_, ?_, ?_, ?_, ?_⟩
  · show PySem.PyData.canLayAll0 ds = true
    rw [lay_all, List.all_eq_true]
    exact fun d hd => (let ⟨_, z⟩ := me d hd; z.lay)
  · show PySem.PyData.depthAll ds + 1 ≤ n + 1
    have := deep_all (n := n) fun d hd => (let ⟨_, z⟩ := me d hd; z.dep)
    omega
  · exact onlyTs_mem fun d hd => (let ⟨_, z⟩ := me d hd; z.ot)
  · exact showAll_mem fun d hd => (let ⟨_, z⟩ := me d hd; z.sh)
  · exact noDict_mem fun d hd => (let ⟨_, z⟩ := me d hd; z.nd)
  · have := tuple_len (PyData.shownAll ds)
    have := h.sum
    show (tupleText (PyData.shownAll ds)).length ≤ _
    omega
/-- a list of such data -/
structure NiceL (ds : List PyData) : Prop where
  lay : PySem.PyData.canLay0 (.list ds) = true
  dep : (PyData.list ds).depth ≤ 40
  ot : onlyTs ds = true
  sh : (PyData.list ds).showable = true
  nd : (PyData.list ds).hasDict = false
  sz : (PyData.list ds).shown.length ≤ sizeLine
theorem niceL {n k : Nat} {ds : List PyData} (h : Nices n k ds) (hn : n < 40) (hk : k + 2 ≤ sizeLine) : NiceL ds := by
  have me := h.mem
  refine ⟨?_, ?_, ?_, ?_, ?_, ?_⟩
  · show PySem.PyData.canLayAll0 ds = true
    rw [lay_all, List.all_eq_true]
    exact fun d hd => (let ⟨_, z⟩ := me d hd; z.lay)
  · show PySem.PyData.depthAll ds + 1 ≤ 40
    have := deep_all (n := n) fun d hd => (let ⟨_, z⟩ := me d hd; z.dep)
    omega
  · exact onlyTs_mem fun d hd => (let ⟨_, z⟩ := me d hd; z.ot)
  · exact showAll_mem fun d hd => (let ⟨_, z⟩ := me d hd; z.sh)
  · exact noDict_mem fun d hd => (let ⟨_, z⟩ := me d hd; z.nd)
  · have := list_len (PyData.shownAll ds)
    have := h.sum
    show (listText (PyData.shownAll ds)).length ≤ _
    omega
theorem NiceL.shaped {ds : List PyData} (h : NiceL ds) : SeqAt.shaped (.list ds) = true := by
  unfold SeqAt.shaped
  rw [h.lay, decide_eq_true (Nat.le_trans h.dep (by decide))]
  rfl
theorem NiceL.refl {ds : List PyData} (h : NiceL ds) : PyData.eqv (.list ds) (.list ds) = true := SeqAt.eqv_refl _ h.lay
theorem nice_int {n : Nat} {i : Int} (h : i.natAbs < 2 ^ 100) : Nice n 101 (.int i) := by
  have lg : i.natAbs.log2 < 1920 := by
    by_cases z : i.natAbs = 0
    · rw [z]; decide
    · have := (Nat.log2_lt z).mpr h
      omega
  refine ⟨rfl, Nat.zero_le _, rfl, decide_eq_true lg, rfl, ?_⟩
  show (Str.ofString (toString i)).length ≤ 101
  have e := int_text_length_le (a := i) (k := 100) (by decide) (by
    by_cases z : i.natAbs = 0
    · rw [z]; decide
    · exact (Nat.log2_lt z).mpr h)
  rw [ofString_length]; exact e
theorem nice_lit {n m : Nat} {s : Str} (h : PySem.PyData.strOk s = true) (k : (reprText s).length ≤ m) : Nice n m (.str s) := ⟨h, Nat.zero_le _, rfl, rfl, rfl, k⟩
end SH

set_option Elab.async false
set_option linter.all false
set_option maxRecDepth 100000
/-! lists held against []. -/
namespace SH
open PySem PySem.Spec PyProof.Rows L2
def rEqNil (K : PySem.W.Frag) : R2 := fun x y H Q => ∃ (a b : Addr) (xs : List V), x = .ref a ∧ y = .ref b ∧ SqL K H a xs ∧ SqL K H b [] ∧ Q (.bl xs.isEmpty) H
def rNeNil (K : PySem.W.Frag) : R2 := fun x y H Q => ∃ (a b : Addr) (xs : List V), x = .ref a ∧ y = .ref b ∧ SqL K H a xs ∧ SqL K H b [] ∧ Q (.bl (!xs.isEmpty)) H
section
variable {X : Cx}
theorem op_eqNil (hu : X.A.units + 64 < cLine) : OpR X (compareOp .Eq) (rEqNil X.K) := by
  intro pins s σ H x y v u Q I rx ry h
  obtain ⟨a, b, xs, rfl, rfl, ha, hb, q⟩ := h
  obtain ⟨its, rv, hl, _⟩ := I.list ha
  obtain ⟨its2, rv2, hl2, _⟩ := I.list hb
  obtain rfl : v = Value.ref a := rx
  obtain rfl : u = Value.ref b := ry
  cases rv2
  cases rv with
  | nil => exact SeqAt.eq_listAt (e := fun _ => true) hl.isList hl2.isList rfl (by omega) (fun j h1 => absurd h1 (Nat.not_lt_zero _)) ⟨.bl true, H, I, rfl, q⟩
  | cons _ _ => exact SeqAt.eq_list_lengthsAt hl.isList hl2.isList (by simp) (by omega) ⟨.bl false, H, I, rfl, q⟩
theorem op_neNil (hu : X.A.units + 64 < cLine) : OpR X (compareOp .NotEq) (rNeNil X.K) := by
  intro pins s σ H x y v u Q I rx ry h
  obtain ⟨a, b, xs, rfl, rfl, ha, hb, q⟩ := h
  obtain ⟨its, rv, hl, _⟩ := I.list ha
  obtain ⟨its2, rv2, hl2, _⟩ := I.list hb
  obtain rfl : v = Value.ref a := rx
  obtain rfl : u = Value.ref b := ry
  cases rv2
  cases rv with
  | nil => exact SeqAt.RcNeAt.lists (e := fun _ => true) hl.isList hl2.isList rfl (by omega) (fun j h1 => absurd h1 (Nat.not_lt_zero _)) _ _ _ _ ⟨.bl false, H, I, rfl, q⟩
  | cons _ _ => exact SeqAt.RcNeAt.lists_lengths hl.isList hl2.isList (by simp) (by omega) _ _ _ _ ⟨.bl true, H, I, rfl, q⟩
end
end SH

set_option Elab.async false
set_option linter.all false
set_option maxRecDepth 100000
namespace SH
open PySem L2
abbrev sParts : Stmt := topS 56
theorem scParts : FnScope ["_law_text_here", "_law_found", "_law_sign_here", "_law_kind_here", "_law_part"] ["_law_text_here"] (defScope sParts) := ⟨rfl, rfl, rfl, by decide +kernel, rfl, by decide +kernel, by decide +kernel⟩
section
variable {P : Program} {w : World} {K : PySem.W.Frag} {mg : Str → Option Value} {base : Heap}
/-- pairs of a kind and a text -/
def PrsIn (H : Hp) (F : List (Int × Str)) (vs : List V) : Prop := vs.length = F.length ∧ ∀ (i : Nat) (x : Int × Str), F[i]? = some x → ∃ a : Addr, vs[i]? = some (.ref a) ∧ H a = some (.tup [.int x.1, .str x.2])
theorem PrsIn.keep {H H' : Hp} {F vs} (h : PrsIn H F vs) (k : ∀ a xs, H a = some (.tup xs) → H' a = some (.tup xs)) : PrsIn H' F vs := ⟨h.1, fun i x e => let ⟨a, h1, h2⟩ := h.2 i x e; ⟨a, h1, k _ _ h2⟩⟩
theorem PrsIn.snoc {H : Hp} {F vs} {k : Int} {t : Str} {a : Addr} (h : PrsIn H F vs) (e : H a = some (.tup [.int k, .str t])) : PrsIn H (F ++ [(k, t)]) (vs ++ [.ref a]) := by
  refine ⟨by rw [List.length_append, List.length_append, h.1]; rfl, fun i x hi => ?_⟩
  rcases Nat.lt_trichotomy i F.length with hl | hl | hl
  · rw [List.getElem?_append_left hl] at hi
    rw [List.getElem?_append_left (by rw [h.1]; exact hl)]
    exact h.2 i x hi
  · subst hl
    rw [List.getElem?_concat_length] at hi
    cases hi
    refine ⟨a, ?_, e⟩
    rw [← h.1, List.getElem?_concat_length]
  · rw [List.getElem?_eq_none (by rw [List.length_append]; show F.length + 1 ≤ i; omega)] at hi
    cases hi
theorem PrsIn.init {H : Hp} {G : List (Int × Str)} {x : Int × Str} {vs : List V} (h : PrsIn H (G ++ [x]) vs) : ∃ us a, vs = us ++ [.ref a] ∧ PrsIn H G us ∧ H a = some (.tup [.int x.1, .str x.2]) := by
  obtain ⟨a, e1, e2⟩ := h.2 G.length x List.getElem?_concat_length
  have hl : vs.length = G.length + 1 := by rw [h.1, List.length_append]; rfl
  have hv : vs = vs.dropLast ++ [.ref a] := by
    have hne : vs ≠ [] := fun z => by rw [z] at hl; cases hl
    have q := List.dropLast_concat_getLast hne
    have e3 : vs.getLast hne = .ref a := by
      rw [List.getLast_eq_getElem]
      have : vs[vs.length - 1]? = some (.ref a) := by rw [show vs.length - 1 = G.length by omega]; exact e1
      rw [List.getElem?_eq_getElem (by omega)] at this
      exact Option.some.inj this
    rw [e3] at q
    exact q.symm
  refine ⟨vs.dropLast, a, hv, ⟨by rw [List.length_dropLast]; omega, fun i y hi => ?_⟩, e2⟩
  have hi' : i < G.length := (List.getElem?_eq_some_iff.mp hi).1
  obtain ⟨b, f1, f2⟩ := h.2 i y (by rw [List.getElem?_append_left hi']; exact hi)
  refine ⟨b, ?_, f2⟩
  rw [List.getElem?_dropLast, if_pos (by omega)]
  exact f1
def spParts : Sp := fun vs H Q _ => ∃ t : Str, vs = [.str t] ∧ t.length ≤ 1000000 ∧ ((∃ x ∈ lexL (cd t), badL x = true) → ∀ H', Same H H' → Q .non H') ∧
  ((∀ x ∈ lexL (cd t), badL x = false) → ∀ (p : Addr) (H' : Hp), Same H H' → H p = none → H' p = some (.lst (ptsL (lexL (cd t)))) → Q (.ref p) H')
theorem lex_has : ∀ (n : Nat) (cs : List Nat), cs.length ≤ n → ∀ c ∈ cs, ∃ x ∈ lexL cs, c ∈ x.2 := by
  intro n
  induction n with
  | zero =>
    intro cs hn c hc
    cases cs with
    | nil => cases hc
    | cons a r => exact absurd hn (Nat.not_succ_le_zero _)
  | succ n ih =>
    intro cs hn c hc
    cases cs with
    | nil => cases hc
    | cons a r =>
      have hp := munch_pos a r
      have hn' : r.length + 1 ≤ n + 1 := hn
      obtain ⟨B, hB⟩ := munch_pre (a :: r)
      have hdr : (a :: r).drop (munch (a :: r)).length = B := by
        generalize munch (a :: r) = M at hB ⊢
        rw [hB, List.drop_left]
      rw [lexL_cons]
      rw [hB] at hc
      rcases List.mem_append.mp hc with h | h
      · exact ⟨_, List.mem_cons_self, h⟩
      · have hl := congrArg List.length hB
        rw [List.length_append, List.length_cons] at hl
        obtain ⟨x, h1, h2⟩ := ih B (by omega) c h
        exact ⟨x, List.mem_cons_of_mem _ (by rw [hdr]; exact h1), h2⟩
theorem lex_sub : ∀ (n : Nat) (cs : List Nat), cs.length ≤ n → ∀ x ∈ lexL cs, ∀ c ∈ x.2, c ∈ cs := by
  intro n
  induction n with
  | zero =>
    intro cs hn x hx
    cases cs with
    | nil => cases hx
    | cons a r => exact absurd hn (Nat.not_succ_le_zero _)
  | succ n ih =>
    intro cs hn x hx c hc
    cases cs with
    | nil => cases hx
    | cons a r =>
      have hp := munch_pos a r
      have hn' : r.length + 1 ≤ n + 1 := hn
      rw [lexL_cons] at hx
      rcases List.mem_cons.mp hx with rfl | hx
      · obtain ⟨B, hB⟩ := munch_pre (a :: r)
        rw [hB]
        exact List.mem_append_left _ hc
      · refine List.mem_of_mem_drop (ih _ ?_ x hx c hc)
        rw [List.length_drop, List.length_cons]
        omega
theorem ixN_last (xs : List V) (v : V) : ixN (xs ++ [v]).length (-1) = some xs.length := by
  have hl : (xs ++ [v]).length = xs.length + 1 := by simp
  unfold ixN
  rw [hl]
  simp only [show ¬ (0 : Int) ≤ -1 by omega, if_false]
  split
  · congr 1; omega
  · omega
theorem addC_len (F : List (Int × Str)) (c : Nat) : (addC F c).length ≤ F.length + 1 := by
  unfold addC
  split
  · rename_i x hx
    split
    · rw [List.length_append, List.length_dropLast]; show F.length - 1 + 1 ≤ _; omega
    · rw [List.length_append]; exact Nat.le_refl _
  · rw [List.length_append]; exact Nat.le_refl _
theorem fold_len : ∀ (cs : List Nat) (F : List (Int × Str)), (cs.foldl addC F).length ≤ F.length + cs.length
  | [], F => Nat.le_refl _
  | c :: r, F => by
    have := fold_len r (addC F c)
    have := addC_len F c
    show (r.foldl addC (addC F c)).length ≤ F.length + (r.length + 1)
    omega
theorem addC_tl (F : List (Int × Str)) (c n : Nat) (h : ∀ x ∈ F, x.2.length ≤ n) : ∀ x ∈ addC F c, x.2.length ≤ n + 1 := by
  have h1 : (uno c).length = 1 := rfl
  unfold addC
  split
  · rename_i y hy
    have := h y (List.mem_of_getLast? hy)
    split
    · intro x hx
      rcases List.mem_append.mp hx with q | q
      · have := h x (List.dropLast_subset _ q); omega
      · rw [List.mem_singleton.mp q]; show (y.2 ++ uno c).length ≤ _; rw [app_len]; omega
    · intro x hx
      rcases List.mem_append.mp hx with q | q
      · have := h x q; omega
      · rw [List.mem_singleton.mp q]; show (uno c).length ≤ _; omega
  · intro x hx
    rcases List.mem_append.mp hx with q | q
    · have := h x q; omega
    · rw [List.mem_singleton.mp q]; show (uno c).length ≤ _; omega
theorem fold_tl : ∀ (cs : List Nat) (F : List (Int × Str)) (n : Nat), (∀ x ∈ F, x.2.length ≤ n) → ∀ x ∈ cs.foldl addC F, x.2.length ≤ n + cs.length
  | [], F, n, h, x, hx => h x hx
  | c :: r, F, n, h, x, hx => by
    have := fold_tl r (addC F c) (n + 1) (addC_tl F c n h) x hx
    show x.2.length ≤ n + (r.length + 1)
    omega
theorem ok_parts {f k1 : Addr} {fd k1d : FuncData} (F : Fun K "_law_parts" "_law_parts" sParts f fd) (KI : Fk P w K mg base 1 "_law_kind" k1 k1d ["_law_sign_here"] spKind) (T : Bi mg) : FnOk P w K mg base CX0 2 f fd ["_law_text_here"] spParts := by
  refine F.ok scParts (fun vs H Q E h => ?_) (fun cdv A outer s H vs Q E hr h => ?_)
  · obtain ⟨t, rfl, _⟩ := h
    rfl
  obtain ⟨t, rfl, hz, qn, q⟩ := h
  refine ⟨_, (pss_cons (ps_set (i := 1) scParts.nd rfl (Or.inl rfl) (pe_lst pa_nil))
    (pss_cons (ps_for PassesOwn.never rfl (pi_str (pv 0)) (pg_name (i := 2) scParts.nd rfl (.inl rfl))
      (pss_cons (ps_set (i := 3) scParts.nd rfl (Or.inl rfl) (pe_call KI.G (hr.mono (by omega)) (by rfl) KI.m KI.k KI.b .nil pass0 (pa_cons (pv 2) pa_nil)))
    (pss_cons (ps_if (pt_cmpR op_eq (pv 3) pe_int (nomark _))
      (pss_one (ps_ret pe_non))
      pss_nil)
    (pss_one (ps_if (PW.pt (pw_and (pt_cmpR (SH.op_neNil hr.units) (pv 1) (pe_lst pa_nil) (nomark _)) (pw_and (pt_cmpR op_eq (pe_ix ix_tup (pe_ix ix_list (pv 1) (pe_un un_neg pe_int) (fun _ _ => rfl)) pe_int (fun _ _ => rfl)) (pv 3) (nomark _)) (pw_and1 (PW.pt (pw_or (pt_cmpR op_lt (pv 3) pe_int (nomark _)) (pw_or1 (PW.pt (pw_and (pt_cmpR op_eq (pv 3) pe_int (nomark _)) (pw_and1 (pt_cmpR op_eq (pe_callB call_len (by rfl) T.len (by decide +kernel) (pa_cons (pe_ix ix_tup (pe_ix ix_list (pv 1) (pe_un un_neg pe_int) (fun _ _ => rfl)) pe_int (fun _ _ => rfl)) pa_nil)) pe_int (nomark _))))))))))))
      (pss_one (ps_asg (pe_tup (pa_cons (pv 3) (pa_cons (pe_op op_add_str (pe_ix ix_tup (pe_ix ix_list (pv 1) (pe_un un_neg pe_int) (fun _ _ => rfl)) pe_int (fun _ _ => rfl)) (pv 2)) pa_nil))) (pg_sub (pv 1) (pe_un un_neg pe_int) set_list)))
      (pss_one (ps_expr (pe_bm PySem.F.plainAttrs_list PySem.F.slot_list_append PySem.F.type_list_append mt_append (pv 1) (pa_cons (pe_tup (pa_cons (pv 3) (pa_cons (pv 2) pa_nil))) pa_nil)))))))))
    (pss_cons (ps_for PassesOwn.never rfl (pi_list (pv 1)) (pg_tup rfl (pgs_cons (pg_name (i := 3) scParts.nd rfl (.inl rfl)) (pgs_cons (pg_name (i := 4) scParts.nd rfl (.inl rfl)) pgs_nil)))
      (pss_one (ps_if (PW.pt (pw_or (PW.pt (pw_and (pt_cmpR op_eq (pv 3) pe_int (nomark _)) (pw_and1 (pt_cmpR op_gt (pe_callB call_len (by rfl) T.len (by decide +kernel) (pa_cons (pv 4) pa_nil)) pe_int (nomark _))))) (pw_or1 (PW.pt (pw_and (pt_cmpR op_eq (pv 3) pe_int (nomark _)) (pw_and1 (PW.pt (pw_or (pt_cmpR op_gt (pe_callB call_len (by rfl) T.len (by decide +kernel) (pa_cons (pv 4) pa_nil)) pe_int (nomark _)) (pw_or1 (PW.pt (pw_and (pt_cmpR op_eq (pe_ix ix_str (pv 4) pe_int (fun _ _ => rfl)) pe_str (nomark _)) (pw_and1 (pt_cmpR op_ne (pv 4) pe_str (nomark _))))))))))))))
      (pss_one (ps_ret pe_non))
      pss_nil)))
    (pss_one (ps_ret (pe_lc (own := [("_law_kind_here", 3), ("_law_part", 4)]) (g := gTup K 2 (gCons (gName 3) (gCons (gName 4) gNil))) (by rfl) scParts.nd (pi_list (pv 1)) (blkOk_by (own := [("_law_kind_here", 3), ("_law_part", 4)]) (N := ["_law_text_here", "_law_found", "_law_sign_here", "_law_kind_here", "_law_part"]) (sc := defScope sParts) (by decide +kernel)) (fun _ _ _ _ _ => pg_tup rfl (pgs_cons (pg_name (i := 3) scParts.nd rfl (Or.inl rfl)) (pgs_cons (pg_name (i := 4) scParts.nd rfl (Or.inl rfl)) pgs_nil))) (fun _ _ _ _ _ => (pts_one (pt_cmpR op_ne (pv 3) pe_int (nomark _)))) (fun _ _ _ _ _ => (pv 4)))))))), ?_⟩
  have hs : sizeLine = 16777216 := by decide
  refine ⟨by decide, fun l nl => ?_⟩
  have esz : t.cps.size = (cd t).length := (Array.length_toList).symm
  have hLx := lexL_all (cd t).length (cd t) (Nat.le_refl _)
  refine ⟨_, rfl, t, rfl, for_it walk_str (fun i σ H' => ∃ (s k p : Option V) (vs : List V), σ = [some (.str t), some (.ref l), s, k, p] ∧ Same H H' ∧ H' l = some (.lst vs) ∧ PrsIn H' (((cd t).take i).foldl addC []) vs ∧ ∀ c ∈ (cd t).take i, kdC c ≠ 9) ?_ (fun _ _ _ _ _ => trivial) ?_ ?_⟩
  · exact ⟨none, none, none, [], rfl, same_new nl _, upd_same, ⟨rfl, fun i x h => by cases h⟩, fun c h => by cases h⟩
  · rintro i x σ H1 _ hi ⟨s0, k0, p0, vs, rfl, S1, h1, P1, N1⟩ ⟨rfl, c, hc, rfl⟩
    have hci : (cd t)[i]? = some c := by unfold cd; rw [Array.getElem?_toList]; exact hc
    have hn : (cd t).take (i + 1) = (cd t).take i ++ [c] := by rw [List.take_add_one, hci]; rfl
    refine ⟨_, rfl, c, rfl, fun H2 S2 => ?_⟩
    refine ⟨_, rfl, rfl, _, rfl, ?_⟩
    have h2 := S2 _ _ h1
    by_cases h9 : kdC c = 9
    · rw [decide_eq_true (by rw [h9])]
      refine iteT ?_
      obtain ⟨x, x1, x2⟩ := lex_has _ _ (Nat.le_refl _) c (List.mem_of_getElem? hci)
      refine qn ⟨x, x1, ?_⟩ H2 (S1.trans S2)
      have := (hLx x x1).kd c x2
      unfold badL
      rw [decide_eq_true (show x.1 = 9 by omega), Bool.true_or, Bool.true_or]
    rw [decide_eq_false (by intro z; exact h9 (V.int.inj z))]
    refine iteF ?_
    have P2 := P1.keep fun a xs e => S2 a _ e
    have S12 := S1.trans S2
    generalize hF : List.foldl addC [] (List.take i (cd t)) = F at P2
    have hF1 : List.foldl addC [] (List.take (i + 1) (cd t)) = addC F c := by rw [hn, List.foldl_append, hF]; rfl
    have hfl : (cd t).length ≤ 1000000 := by rw [cd_len]; exact hz
    have hlen : vs.length ≤ 1000000 := by
      rw [P2.1, ← hF]
      have := fold_len ((cd t).take i) []
      rw [List.length_take] at this
      simp only [List.length_nil] at this
      omega
    have htl : ∀ x ∈ F, x.2.length ≤ 1000000 := fun x hx => by
      rw [← hF] at hx
      have := fold_tl ((cd t).take i) [] 0 (fun x h => by cases h) x hx
      rw [List.length_take] at this
      omega
    refine ⟨_, rfl, Nat.zero_le _, fun l2 nl2 => ?_⟩
    have S3 := same_new nl2 (.lst [])
    have h3 := S3 _ _ h2
    have P3 := P2.keep fun a xs e => S3 a _ e
    refine ⟨l, l2, vs, rfl, rfl, SqL.of h3, SqL.of upd_same, _, rfl, ?_⟩
    generalize upd H2 l2 (.lst []) = H3 at S3 h3 P3
    have S13 := S12.trans S3
    have Pend : ∀ vs' H4, Same H H4 → H4 l = some (.lst vs') → PrsIn H4 (addC F c) vs' → ∃ (s k p : Option V) (vs : List V), [some (.str t), some (.ref l), some (.str (uno c)), some (.int (kdC c)), p0] = [some (.str t), some (.ref l), s, k, p] ∧ Same H H4 ∧ H4 l = some (.lst vs) ∧ PrsIn H4 (List.foldl addC [] (List.take (i + 1) (cd t))) vs ∧ ∀ c ∈ (cd t).take (i + 1), kdC c ≠ 9 :=
      fun vs' H4 a b d => ⟨_, _, _, vs', rfl, a, b, by rw [hF1]; exact d, fun e he => by
        rw [hn] at he
        rcases List.mem_append.mp he with he | he
        · exact N1 e he
        · rw [List.mem_singleton.mp he]; exact h9⟩
    rcases List.eq_nil_or_concat F with eF | ⟨G, ⟨k, tt⟩, eF⟩
    · subst eF
      have ev : vs = [] := List.length_eq_zero_iff.mp P3.1
      subst ev
      have hA : addC [] c = [] ++ [(kdC c, uno c)] := rfl
      refine iteF ?_
      refine iteF ?_
      refine ⟨_, rfl, .inl ⟨rfl, _, SqL.of h3⟩, _, rfl, _, rfl, (by show 2 ≤ sizeLine; decide), fun T nT => ?_⟩
      have S4 := same_new nT (.tup [.int (kdC c), .str (uno c)])
      have nTl : l ≠ T := ne_of_none h3 nT
      refine ⟨l, _, _, rfl, rfl, S4 _ _ h3, Nat.lt_of_le_of_lt hlen (by omega), Pend _ _ (fun b u e => ?_) upd_same ?_⟩
      · rw [upd_ne (fun z => by rw [z, nl] at e; cases e)]; exact S4 _ _ (S13 _ _ e)
      · rw [hA]
        refine PrsIn.snoc (P3.keep fun a xs e => ?_) ?_
        · rw [upd_ne (fun z => by rw [z, h3] at e; cases e)]; exact S4 _ _ e
        · rw [upd_ne nTl.symm]; exact upd_same
    · rw [List.concat_eq_append] at eF
      subst eF
      obtain ⟨us, a, ev, Pu, ha⟩ := P3.init
      have h3' := h3
      rw [ev] at h3'
      have htt : tt.length ≤ 1000000 := htl (k, tt) (List.mem_append_right _ List.mem_cons_self)
      have hcat : tt.length + (uno c).length ≤ sizeLine := by rw [show (uno c).length = 1 from rfl]; omega
      rw [show vs.isEmpty = false by rw [ev]; cases us <;> rfl]
      refine iteT ?_
      refine ⟨_, rfl, _, rfl, l, _, _, _, rfl, rfl, SqL.of h3', atI_last _ _, a, _, 0, _, rfl, rfl, SqT.of ha, atI_nat rfl, ?_⟩
      refine ⟨_, rfl, rfl, _, rfl, ?_⟩
      by_cases k1 : k = kdC c
      · rw [decide_eq_true (by rw [k1])]
        refine iteT ?_
        refine ⟨_, rfl, _, _, rfl, rfl, _, rfl, ?_⟩
        by_cases k2 : kdC c < 2
        · rw [decide_eq_true k2]
          refine iteT ?_
          refine iteT ?_
          have hA : addC (G ++ [(k, tt)]) c = G ++ [(kdC c, tt ++ uno c)] := add_on ⟨k1, .inl k2⟩
          refine ⟨_, rfl, _, rfl, _, rfl, l, _, _, _, rfl, rfl, SqL.of h3', atI_last _ _, a, _, 1, _, rfl, rfl, SqT.of ha, atI_nat (j := 1) rfl, _, rfl, _, _, rfl, rfl, hcat, ?_⟩
          refine ⟨(by show 2 ≤ sizeLine; decide), fun T nT => ?_⟩
          have S4 := same_new nT (.tup [.int (kdC c), .str (tt ++ uno c)])
          have nTl : l ≠ T := ne_of_none h3 nT
          refine ⟨_, rfl, _, rfl, l, _, _, _, rfl, rfl, S4 _ _ h3', ixN_last _ _, ?_⟩
          refine Pend _ _ (fun b u e => ?_) upd_same ?_
          · rw [upd_ne (fun z => by rw [z, nl] at e; cases e)]; exact S4 _ _ (S13 _ _ e)
          · rw [hA, show (us ++ [V.ref a]).set us.length (.ref T) = us ++ [.ref T] by simp]
            refine PrsIn.snoc (Pu.keep fun a xs e => ?_) ?_
            · rw [upd_ne (fun z => by rw [z, h3] at e; cases e)]; exact S4 _ _ e
            · rw [upd_ne nTl.symm]; exact upd_same
        · rw [decide_eq_false k2]
          refine iteF ?_
          refine ⟨_, rfl, rfl, _, rfl, ?_⟩
          by_cases k3 : kdC c = 2
          · rw [decide_eq_true (by rw [k3])]
            refine iteT ?_
            refine ⟨_, rfl, _, rfl, l, _, _, _, rfl, rfl, SqL.of h3', atI_last _ _, a, _, 1, _, rfl, rfl, SqT.of ha, atI_nat (j := 1) rfl, ?_⟩
            refine ⟨_, _, rfl, ⟨by show tt.length ≤ sizeLine; omega, rfl⟩, rfl, _, rfl, ?_⟩
            by_cases k4 : tt.length = 1
            · rw [decide_eq_true (by rw [k4]; rfl)]
              refine iteT ?_
              have hA : addC (G ++ [(k, tt)]) c = G ++ [(kdC c, tt ++ uno c)] := add_on ⟨k1, .inr ⟨k3, k4⟩⟩
              refine ⟨_, rfl, _, rfl, _, rfl, l, _, _, _, rfl, rfl, SqL.of h3', atI_last _ _, a, _, 1, _, rfl, rfl, SqT.of ha, atI_nat (j := 1) rfl, _, rfl, _, _, rfl, rfl, hcat, ?_⟩
              refine ⟨(by show 2 ≤ sizeLine; decide), fun T nT => ?_⟩
              have S4 := same_new nT (.tup [.int (kdC c), .str (tt ++ uno c)])
              have nTl : l ≠ T := ne_of_none h3 nT
              refine ⟨_, rfl, _, rfl, l, _, _, _, rfl, rfl, S4 _ _ h3', ixN_last _ _, ?_⟩
              refine Pend _ _ (fun b u e => ?_) upd_same ?_
              · rw [upd_ne (fun z => by rw [z, nl] at e; cases e)]; exact S4 _ _ (S13 _ _ e)
              · rw [hA, show (us ++ [V.ref a]).set us.length (.ref T) = us ++ [.ref T] by simp]
                refine PrsIn.snoc (Pu.keep fun a xs e => ?_) ?_
                · rw [upd_ne (fun z => by rw [z, h3] at e; cases e)]; exact S4 _ _ e
                · rw [upd_ne nTl.symm]; exact upd_same
            · rw [decide_eq_false (fun z : (V.int ((tt.length : Nat) : Int) = V.int 1) => k4 (by have := V.int.inj z; omega))]
              refine iteF ?_
              have hA : addC (G ++ [(k, tt)]) c = G ++ [(k, tt)] ++ [(kdC c, uno c)] := add_new fun x hx hm => by
                rw [List.getLast?_concat] at hx
                cases hx
                have := hm.2
                have k4' : ¬ (k, tt).2.length = 1 := k4
                omega
              refine ⟨_, rfl, .inl ⟨rfl, _, SqL.of h3⟩, _, rfl, _, rfl, (by show 2 ≤ sizeLine; decide), fun T nT => ?_⟩
              have S4 := same_new nT (.tup [.int (kdC c), .str (uno c)])
              have nTl : l ≠ T := ne_of_none h3 nT
              refine ⟨l, _, _, rfl, rfl, S4 _ _ h3, Nat.lt_of_le_of_lt hlen (by omega), Pend _ _ (fun b u e => ?_) upd_same ?_⟩
              · rw [upd_ne (fun z => by rw [z, nl] at e; cases e)]; exact S4 _ _ (S13 _ _ e)
              · rw [hA]
                refine PrsIn.snoc (P3.keep fun a xs e => ?_) ?_
                · rw [upd_ne (fun z => by rw [z, h3] at e; cases e)]; exact S4 _ _ e
                · rw [upd_ne nTl.symm]; exact upd_same
          · rw [decide_eq_false (fun z => k3 (V.int.inj z))]
            refine iteF ?_
            refine iteF ?_
            have hA : addC (G ++ [(k, tt)]) c = G ++ [(k, tt)] ++ [(kdC c, uno c)] := add_new fun x hx hm => by
              rw [List.getLast?_concat] at hx
              cases hx
              have := hm.2
              omega
            refine ⟨_, rfl, .inl ⟨rfl, _, SqL.of h3⟩, _, rfl, _, rfl, (by show 2 ≤ sizeLine; decide), fun T nT => ?_⟩
            have S4 := same_new nT (.tup [.int (kdC c), .str (uno c)])
            have nTl : l ≠ T := ne_of_none h3 nT
            refine ⟨l, _, _, rfl, rfl, S4 _ _ h3, Nat.lt_of_le_of_lt hlen (by omega), Pend _ _ (fun b u e => ?_) upd_same ?_⟩
            · rw [upd_ne (fun z => by rw [z, nl] at e; cases e)]; exact S4 _ _ (S13 _ _ e)
            · rw [hA]
              refine PrsIn.snoc (P3.keep fun a xs e => ?_) ?_
              · rw [upd_ne (fun z => by rw [z, h3] at e; cases e)]; exact S4 _ _ e
              · rw [upd_ne nTl.symm]; exact upd_same
      · rw [decide_eq_false (fun z => k1 (V.int.inj z))]
        refine iteF ?_
        refine iteF ?_
        have hA : addC (G ++ [(k, tt)]) c = G ++ [(k, tt)] ++ [(kdC c, uno c)] := add_new fun x hx hm => by
          rw [List.getLast?_concat] at hx
          cases hx
          exact k1 hm.1
        refine ⟨_, rfl, .inl ⟨rfl, _, SqL.of h3⟩, _, rfl, _, rfl, (by show 2 ≤ sizeLine; decide), fun T nT => ?_⟩
        have S4 := same_new nT (.tup [.int (kdC c), .str (uno c)])
        have nTl : l ≠ T := ne_of_none h3 nT
        refine ⟨l, _, _, rfl, rfl, S4 _ _ h3, Nat.lt_of_le_of_lt hlen (by omega), Pend _ _ (fun b u e => ?_) upd_same ?_⟩
        · rw [upd_ne (fun z => by rw [z, nl] at e; cases e)]; exact S4 _ _ (S13 _ _ e)
        · rw [hA]
          refine PrsIn.snoc (P3.keep fun a xs e => ?_) ?_
          · rw [upd_ne (fun z => by rw [z, h3] at e; cases e)]; exact S4 _ _ e
          · rw [upd_ne nTl.symm]; exact upd_same
  · rintro σ H1 ⟨s0, k0, p0, vs, rfl, S1, h1, P1, N1⟩
    rw [esz, List.take_length, fold_lex (cd t).length (cd t) [] (Nat.le_refl _) (fun _ _ _ x h => by cases h), List.nil_append] at P1
    rw [esz, List.take_length] at N1
    have hvl : vs.length = (lexL (cd t)).length := by rw [P1.1, List.length_map]
    obtain ⟨l1, l2⟩ := lex_lens (cd t).length (cd t) (Nat.le_refl _)
    rw [cd_len] at l1 l2
    have no9 : ∀ p ∈ lexL (cd t), p.1 = 9 → False := fun p hp h9 => by
      obtain ⟨d, r, ed, k⟩ := head_kd (hLx p hp)
      exact N1 d (lex_sub _ _ (Nat.le_refl _) p hp d (by rw [ed]; exact List.mem_cons_self)) (by rw [k, h9])
    clear N1
    generalize hL : lexL (cd t) = L at *
    have Pall : ∀ (i : Nat) (x : Int × List Nat), L[i]? = some x → ∃ a : Addr, vs[i]? = some (.ref a) ∧ H1 a = some (.tup [.int x.1, .str (strL x.2)]) := fun i x e => P1.2 i (x.1, strL x.2) (by rw [List.getElem?_map, e]; rfl)
    refine ⟨_, rfl, l, rfl, ⟨_, SqL.of h1⟩, for_list (K := K) (xs := vs) (fun i σ H' => ∃ (s k p : Option V), σ = [some (.str t), some (.ref l), s, k, p] ∧ H1 = H' ∧ ∀ x ∈ L.take i, badL x = false) ⟨_, _, _, rfl, rfl, fun x hx => by cases hx⟩ (fun i σ H' _ h => by obtain ⟨_, _, _, _, rfl, _⟩ := h; exact SqL.of h1) ?_ ?_⟩
    · rintro i x σ _ hx ⟨s1, k1, p1, rfl, rfl, hg⟩
      have hil : i < vs.length := (List.getElem?_eq_some_iff.mp hx).1
      have hpi : L[i]? = some L[i] := List.getElem?_eq_getElem (by omega)
      generalize L[i]'(by omega) = p at hpi
      have hpm := List.mem_of_getElem? hpi
      have hpo := hLx p hpm
      obtain ⟨a, ea, ha⟩ := Pall i p hpi
      rw [hx] at ea
      cases ea
      have hsz : (strL p.2).length ≤ 1000000 := by
        have := l2 p hpm
        rw [← cd_len, cd_strL]
        omega
      have els : (strL p.2).length = p.2.length := by rw [← cd_len, cd_strL]
      have go : badL p = false → ∀ (s k q : Option V), ∃ (s' k' p' : Option V), [some (V.str t), some (.ref l), s, k, q] = [some (.str t), some (.ref l), s', k', p'] ∧ H1 = H1 ∧ ∀ x ∈ L.take (i + 1), badL x = false := fun hb s k q => ⟨s, k, q, rfl, rfl, fun x hx => by
        rw [List.take_add_one, hpi] at hx
        rcases List.mem_append.mp hx with hx | hx
        · exact hg x hx
        · rw [List.mem_singleton.mp hx]; exact hb⟩
      have stop : badL p = true → Q .non H1 := fun hb => qn ⟨p, hpm, hb⟩ H1 S1
      refine ⟨a, _, rfl, SqT.of ha, rfl, _, _, rfl, _, _, rfl, rfl, ?_⟩
      refine ⟨_, rfl, rfl, _, rfl, ?_⟩
      by_cases h0 : p.1 = 0
      · have eb : badL p = decide (8 < p.2.length) := by
          unfold badL
          rw [decide_eq_false (show p.1 ≠ 9 by omega), decide_eq_true h0, decide_eq_false (show p.1 ≠ 1 by omega), Bool.false_and, Bool.or_false, Bool.false_or, Bool.true_and]
        rw [decide_eq_true (by show V.int p.1 = V.int 0; rw [h0])]
        refine iteT ?_
        refine ⟨_, rfl, _, _, rfl, ⟨by show (strL p.2).length ≤ sizeLine; omega, rfl⟩, _, _, rfl, rfl, _, rfl, ?_⟩
        by_cases c8 : 8 < p.2.length
        · rw [decide_eq_true (by show (8 : Int) < ((strL p.2).length : Nat); omega)]
          refine iteT ?_
          exact iteT (stop (by rw [eb]; exact decide_eq_true c8))
        · rw [decide_eq_false (by show ¬ (8 : Int) < ((strL p.2).length : Nat); omega)]
          refine iteF ?_
          refine ⟨_, rfl, rfl, _, rfl, ?_⟩
          rw [decide_eq_false (fun z : V.int p.1 = V.int 1 => by have := V.int.inj z; omega)]
          refine iteF ?_
          refine iteF ?_
          exact go (by rw [eb]; exact decide_eq_false c8) _ _ _
      · rw [decide_eq_false (fun z : V.int p.1 = V.int 0 => h0 (V.int.inj z))]
        refine iteF ?_
        refine iteF ?_
        refine ⟨_, rfl, rfl, _, rfl, ?_⟩
        by_cases h1 : p.1 = 1
        · have eb : badL p = (decide (30 < p.2.length) || (decide (p.2.head? = some 48) && decide (p.2 ≠ [48]))) := by
            unfold badL
            rw [decide_eq_false (show p.1 ≠ 9 by omega), decide_eq_false h0, decide_eq_true h1, Bool.false_and, Bool.false_or, Bool.true_and, Bool.false_or]
          obtain ⟨d, r, ed, _⟩ := head_kd hpo
          rw [decide_eq_true (by show V.int p.1 = V.int 1; rw [h1])]
          refine iteT ?_
          refine ⟨_, rfl, _, _, rfl, ⟨by show (strL p.2).length ≤ sizeLine; omega, rfl⟩, _, _, rfl, rfl, _, rfl, ?_⟩
          by_cases c30 : 30 < p.2.length
          · rw [decide_eq_true (by show (30 : Int) < ((strL p.2).length : Nat); omega)]
            refine iteT ?_
            exact iteT (stop (by rw [eb, decide_eq_true c30, Bool.true_or]))
          rw [decide_eq_false (by show ¬ (30 : Int) < ((strL p.2).length : Nat); omega)]
          rw [decide_eq_false c30, Bool.false_or] at eb
          refine iteF ?_
          refine ⟨_, rfl, strL p.2, 0, d, rfl, rfl, by omega, (by show atI (cd (strL p.2)) 0 = some d; rw [cd_strL, ed]; exact atI_nat (j := 0) rfl), rfl, _, rfl, ?_⟩
          by_cases e48 : d = 48
          · subst e48
            rw [decide_eq_true (by decide +kernel)]
            refine iteT ?_
            refine ⟨_, rfl, rfl, _, rfl, ?_⟩
            have e0 : cd ("0" : Str) = [48] := by decide +kernel
            by_cases c0 : p.2 = [48]
            · rw [show (!decide (V.str (strL p.2) = V.str "0")) = false by rw [decide_eq_true (show V.str (strL p.2) = V.str "0" by rw [show strL p.2 = ("0" : Str) from cd_inj (by rw [cd_strL, c0, e0])])]; rfl]
              refine iteF ?_
              exact go (by rw [eb, decide_eq_false (show ¬ (p.2 ≠ [48]) from fun z => z c0), Bool.and_false]) _ _ _
            · have nz : ¬ (V.str (strL p.2) = V.str "0") := fun z => by
                have := congrArg cd (V.str.inj z)
                rw [cd_strL, e0] at this
                exact c0 this
              rw [show (!decide (V.str (strL p.2) = V.str "0")) = true by rw [decide_eq_false nz]; rfl]
              refine iteT ?_
              exact stop (by rw [eb, decide_eq_true (show p.2.head? = some 48 by rw [ed]; rfl), decide_eq_true c0]; rfl)
          · rw [decide_eq_false (fun z => e48 (by
              have := congrArg cd (V.str.inj z)
              rw [show cd ("0" : Str) = [48] by decide +kernel] at this
              exact (List.cons.inj this).1))]
            refine iteF ?_
            refine iteF ?_
            exact go (by rw [eb, decide_eq_false (show ¬ p.2.head? = some 48 by rw [ed]; exact fun z => e48 (Option.some.inj z)), Bool.false_and]) _ _ _
        · rw [decide_eq_false (fun z : V.int p.1 = V.int 1 => h1 (V.int.inj z))]
          refine iteF ?_
          refine iteF ?_
          refine go ?_ _ _ _
          have k9 : p.1 ≠ 9 := fun h9 => by
            exact no9 p hpm h9
          unfold badL
          rw [decide_eq_false k9, decide_eq_false h0, decide_eq_false h1, Bool.false_and, Bool.false_and]
          rfl
    · rintro σ _ ⟨s1, k1, p1, rfl, rfl, hg⟩
      rw [hvl, List.take_length] at hg
      refine ⟨_, rfl, l, rfl, ⟨_, SqL.of h1⟩, fun D hD => ?_⟩
      have nl2 : l ≠ D := ne_of_none h1 hD
      refine lc_list (K := K) (a := l) (xs := vs) (fun j H' => H' D = some (.lst (ptsL (L.take j))) ∧ Same H1 H') ⟨upd_same, same_new hD _⟩ (fun j H' _ h => SqL.of (h.2 _ _ h1)) ?_ ?_
      · rintro j x H2 hx ⟨d2, S2⟩
        have hil : j < vs.length := (List.getElem?_eq_some_iff.mp hx).1
        have hpi : L[j]? = some L[j] := List.getElem?_eq_getElem (by omega)
        generalize L[j]'(by omega) = p at hpi
        obtain ⟨a, ea, ha⟩ := Pall j p hpi
        rw [hx] at ea
        cases ea
        refine ⟨a, _, rfl, SqT.of (S2 _ _ ha), rfl, _, _, rfl, _, _, rfl, rfl, rfl, ?_⟩
        refine ⟨_, rfl, rfl, _, rfl, ?_⟩
        have et : ptsL (L.take (j + 1)) = ptsL (L.take j) ++ ptsL [p] := by
          unfold ptsL
          rw [List.take_add_one, hpi, List.filter_append, List.map_append]
          rfl
        by_cases h4 : p.1 = 4
        · rw [show (!decide (V.int p.1 = V.int 4)) = false by rw [decide_eq_true (by rw [h4])]; rfl]
          refine iteF ⟨?_, S2⟩
          have : ptsL [p] = [] := by
            unfold ptsL
            rw [List.filter_cons, if_neg (by rw [decide_eq_false (fun z => z h4)]; decide)]
            rfl
          rw [et, this, List.append_nil]
          exact d2
        · rw [decide_eq_false (fun z => h4 (V.int.inj z))]
          refine iteT ⟨_, rfl, _, d2, ?_, ?_, fun b u e => ?_⟩
          · have : (ptsL (L.take j)).length ≤ L.length := by
              unfold ptsL
              rw [List.length_map]
              exact Nat.le_trans (List.length_filter_le _ _) (by rw [List.length_take]; omega)
            omega
          · have : ptsL [p] = [V.str (strL p.2)] := by
              unfold ptsL
              rw [List.filter_cons, if_pos (decide_eq_true h4)]
              rfl
            rw [upd_same, et, this]
          · rw [upd_ne (ne_of_none e hD)]
            exact S2 _ _ e
      · rintro H2 ⟨d2, S2⟩
        rw [hvl, List.take_length] at d2
        exact q hg D H2 (S1.trans S2) (S1.free hD) d2
end
end SH

set_option Elab.async false
set_option linter.all false
set_option maxRecDepth 100000
namespace SH
open PySem L2
abbrev sTitle : Stmt := topS 57
abbrev sFold : Stmt := topS 58
theorem scTitle : FnScope ["_law_part"] ["_law_part"] (defScope sTitle) := ⟨rfl, rfl, rfl, by decide +kernel, rfl, by decide +kernel, by decide +kernel⟩
theorem scFold : FnScope ["_law_outs", "_law_pile", "_law_other", "_law_one"] ["_law_outs", "_law_pile"] (defScope sFold) := ⟨rfl, rfl, rfl, by decide +kernel, rfl, by decide +kernel, by decide +kernel⟩
def spTitle : Sp := fun vs H Q _ => ∃ (s : Str) (c : Nat) (r : List Nat), vs = [.str s] ∧ cd s = c :: r ∧ s.length ≤ 1000000 ∧ ∀ H', Same H H' → Q (.bl (decide (kdC c = 0) && !decide (s ∈ kept))) H'
/-- a tree and how deep it is -/
def OtIn (H : Hp) (v : V) (o : Ot) : Prop := ∃ (a : Addr) (t : V), v = .ref a ∧ H a = some (.tup [t, .int (o.2 : Nat)]) ∧ TrIn H o.1 t
def OtsR (H : Hp) : List Ot → List V → Prop
  | [], vs => vs = []
  | o :: os, vs => ∃ us v, vs = us ++ [v] ∧ OtIn H v o ∧ OtsR H os us
def sgV : Option Sg → V
  | none => .str "("
  | some g => .str g.txt
def pileV (p : Pile) : List V := (p.map sgV).reverse
theorem pileV_cons (x : Option Sg) (p : Pile) : pileV (x :: p) = pileV p ++ [sgV x] := by unfold pileV; rw [List.map_cons, List.reverse_cons]
theorem pileV_len (p : Pile) : (pileV p).length = p.length := by unfold pileV; rw [List.length_reverse, List.length_map]
/-- all but the two lists stays -/
def But2 (a b : Addr) (H H' : Hp) : Prop := ∀ c o, c ≠ a → c ≠ b → H c = some o → H' c = some o
theorem But2.trans {a b : Addr} {H H1 H2 : Hp} (h : But2 a b H H1) (k : But2 a b H1 H2) : But2 a b H H2 := fun c o x y e => k c o x y (h c o x y e)
theorem But2.tup {a b : Addr} {H H' : Hp} {xs ys : List V} (h : But2 a b H H') (ha : H a = some (.lst xs)) (hb : H b = some (.lst ys)) : ∀ c zs, H c = some (.tup zs) → H' c = some (.tup zs) :=
  fun c zs e => h c _ (fun z => by rw [z, ha] at e; cases e) (fun z => by rw [z, hb] at e; cases e) e
theorem TrIn.tups {H H' : Hp} (h : ∀ c zs, H c = some (.tup zs) → H' c = some (.tup zs)) : ∀ {e : Ex} {v : V}, TrIn H e v → TrIn H' e v
  | .num n, v, ⟨a, e, k⟩ => ⟨a, e, h _ _ k⟩
  | .nam n, v, ⟨a, e, k⟩ => ⟨a, e, h _ _ k⟩
  | .op g l r, v, ⟨a, x, y, e, k, p, q⟩ => ⟨a, x, y, e, h _ _ k, TrIn.tups h p, TrIn.tups h q⟩
theorem OtIn.tups {H H' : Hp} (h : ∀ c zs, H c = some (.tup zs) → H' c = some (.tup zs)) {o : Ot} {v : V} (k : OtIn H v o) : OtIn H' v o := let ⟨a, t, e, f, g⟩ := k; ⟨a, t, e, h _ _ f, g.tups h⟩
theorem OtsR.tups {H H' : Hp} (h : ∀ c zs, H c = some (.tup zs) → H' c = some (.tup zs)) : ∀ {os : List Ot} {vs : List V}, OtsR H os vs → OtsR H' os vs
  | [], _, e => e
  | _ :: _, _, ⟨us, v, e, f, g⟩ => ⟨us, v, e, f.tups h, OtsR.tups h g⟩
theorem OtsR.len {H : Hp} : ∀ {os : List Ot} {vs : List V}, OtsR H os vs → vs.length = os.length
  | [], _, e => by rw [show _ = [] from e]; rfl
  | _ :: _, _, ⟨us, v, e, f, g⟩ => by rw [e, List.length_append, OtsR.len g]; rfl
/-- enough trees for the signs -/
def enough : Pile → Nat → Prop
  | [], _ => False
  | none :: _, _ => True
  | some _ :: p, n => 2 ≤ n ∧ enough p (n - 1)
theorem Wi.enough {os : List Ot} {p : Pile} {c : Nat} (h : Wi os p c) (hp : p ≠ []) : enough p (os.length + 1) := by
  induction h with
  | nil => exact absurd rfl hp
  | lp _ _ => trivial
  | sg _ hp' _ _ ih => exact ⟨by rw [List.length_cons]; omega, ih hp'⟩
def spFold : Sp := fun vs H Q _ => ∃ (lo lp : Addr) (us : List V) (x y : V) (a o : Ot) (g : Sg) (qv : List V), vs = [.ref lo, .ref lp] ∧ lo ≠ lp ∧ H lo = some (.lst (us ++ [x] ++ [y])) ∧ OtIn H x a ∧ OtIn H y o ∧ H lp = some (.lst (qv ++ [.str g.txt])) ∧ us.length ≤ 1000000 ∧
  ∀ (H' : Hp) (z : V), H' lo = some (.lst (us ++ [z])) → OtIn H' z (mk2 g a o) → H' lp = some (.lst qv) → But2 lo lp H H' → Q (.bl (decide ((mk2 g a o).2 < 7))) H'
section
variable {P : Program} {w : World} {K : PySem.W.Frag} {mg : Str → Option Value} {base : Heap}
theorem ok_title {f k1 k2 : Addr} {fd k1d k2d : FuncData} (F : Fun K "_law_is_title" "_law_is_title" sTitle f fd) (KI : Fk P w K mg base 1 "_law_kind" k1 k1d ["_law_sign_here"] spKind) (KP : Fk P w K mg base 1 "_law_kept" k2 k2d [] spKept) :
    FnOk P w K mg base CX0 2 f fd ["_law_part"] spTitle := by
  refine F.ok scTitle (fun vs H Q E h => ?_) (fun cdv A outer s H vs Q E hr h => ?_)
  · obtain ⟨s, c, r, rfl, _⟩ := h
    rfl
  obtain ⟨z, c, r, rfl, ez, hz, q⟩ := h
  refine ⟨_, (pss_one (ps_ret (pe_and (pe_cmpR op_eq (pe_call KI.G (hr.mono (by omega)) (by rfl) KI.m KI.k KI.b .nil pass0 (pa_cons (pe_ix ix_str (pv 0) pe_int (fun _ _ => rfl)) pa_nil)) pe_int (nomark _)) (pe_one (pe_cmpR op_notIn_seq (pv 0) (pe_call0 KP.G (hr.mono (by omega)) (by rfl) KP.m KP.k KP.b .nil pass0) rfl))))), ?_⟩
  have hs : sizeLine = 16777216 := by decide
  refine ⟨_, rfl, z, 0, c, rfl, rfl, by omega, (by show atI (cd z) 0 = some c; rw [ez]; exact atI_nat (j := 0) rfl), c, rfl, fun H2 S2 => ?_⟩
  refine ⟨rfl, _, rfl, ?_⟩
  by_cases h0 : kdC c = 0
  · rw [decide_eq_true (by rw [h0])]
    refine iteT ?_
    refine ⟨_, rfl, rfl, fun p hp => ?_⟩
    refine ⟨p, _, rfl, .inl (SqL.of upd_same), rfl, flat_strs kept, ?_⟩
    rw [if_pos rfl]
    rw [inV_str]
    have := q _ (S2.trans (same_new hp (.lst (kept.map V.str))))
    rw [decide_eq_true h0, Bool.true_and] at this
    exact this
  · rw [decide_eq_false (fun z => h0 (V.int.inj z))]
    refine iteF ?_
    have := q _ S2
    rw [decide_eq_false h0, Bool.false_and] at this
    exact this
theorem ok_fold {f : Addr} {fd : FuncData} (F : Fun K "_law_fold" "_law_fold" sFold f fd) (T : Bi mg) : FnOk P w K mg base CX0 1 f fd ["_law_outs", "_law_pile"] spFold := by
  refine F.ok scFold (fun vs H Q E h => ?_) (fun cdv A outer s H vs Q E hr h => ?_)
  · obtain ⟨lo, lp, us, x, y, a, o, g, qv, rfl, _⟩ := h
    rfl
  obtain ⟨lo, lp, us, x, y, a, o, g, qv, rfl, hne, h1, hx, hy, h2, hz, q⟩ := h
  refine ⟨_, (pss_cons (ps_par (i := 2) (j := 3) rfl scFold.nd rfl rfl (by decide) rfl rfl (pa_cons (pe_bm0 PySem.F.plainAttrs_list PySem.F.slot_list_pop PySem.F.type_list_pop mt_pop (pv 0)) (pa_cons (pe_bm0 PySem.F.plainAttrs_list PySem.F.slot_list_pop PySem.F.type_list_pop mt_pop (pv 0)) pa_nil)) (by rfl))
    (pss_cons (ps_expr (pe_bm PySem.F.plainAttrs_list PySem.F.slot_list_append PySem.F.type_list_append mt_append (pv 0) (pa_cons (pe_tup (pa_cons (pe_tup (pa_cons (pe_bm0 PySem.F.plainAttrs_list PySem.F.slot_list_pop PySem.F.type_list_pop mt_pop (pv 1)) (pa_cons (pe_ix ix_tup (pv 3) pe_int (fun _ _ => rfl)) (pa_cons (pe_ix ix_tup (pv 2) pe_int (fun _ _ => rfl)) pa_nil)))) (pa_cons (pe_op op_add pe_int (pe_callB (call_max2 rfl) (by rfl) T.max (by decide +kernel) (pa_cons (pe_ix ix_tup (pv 3) pe_int (fun _ _ => rfl)) (pa_cons (pe_ix ix_tup (pv 2) pe_int (fun _ _ => rfl)) pa_nil)))) pa_nil))) pa_nil)))
    (pss_one (ps_ret (pe_cmpR op_lt (pe_ix ix_tup (pe_ix ix_list (pv 0) (pe_un un_neg pe_int) (fun _ _ => rfl)) pe_int (fun _ _ => rfl)) pe_int (nomark _)))))), ?_⟩
  have hs : sizeLine = 16777216 := by decide
  have glast : ∀ (l : List V) (v : V), (l ++ [v])[(l ++ [v]).length - 1]? = some v := fun l v => by rw [List.length_append]; exact List.getElem?_concat_length
  refine ⟨_, rfl, .inl ⟨rfl, _, SqL.of h1⟩, lo, _, y, rfl, rfl, h1, glast _ _, ?_⟩
  rw [List.dropLast_concat]
  refine ⟨_, rfl, .inl ⟨rfl, _, SqL.of upd_same⟩, lo, _, x, rfl, rfl, upd_same, glast _ _, ?_⟩
  rw [List.dropLast_concat, upd_upd]
  refine ⟨_, _, rfl, ?_⟩
  have h2' : (upd H lo (.lst us)) lp = some (.lst (qv ++ [.str g.txt])) := by rw [upd_ne hne.symm]; exact h2
  refine ⟨_, rfl, .inl ⟨rfl, _, SqL.of upd_same⟩, ?_⟩
  refine ⟨_, rfl, .inl ⟨rfl, _, SqL.of h2'⟩, lp, _, .str g.txt, rfl, rfl, h2', glast _ _, ?_⟩
  rw [List.dropLast_concat]
  obtain ⟨ax, tx, rfl, hax, Tx⟩ := hx
  obtain ⟨ay, ty, rfl, hay, Ty⟩ := hy
  have B0 : But2 lo lp H (upd (upd H lo (.lst us)) lp (.lst qv)) := fun c u n1 n2 e => by rw [upd_ne n2, upd_ne n1]; exact e
  have g1 : (upd (upd H lo (.lst us)) lp (.lst qv)) lo = some (.lst us) := by rw [upd_ne hne, upd_same]
  have g2 : (upd (upd H lo (.lst us)) lp (.lst qv)) lp = some (.lst qv) := upd_same
  have K0 := B0.tup h1 h2
  generalize upd (upd H lo (.lst us)) lp (.lst qv) = H1 at B0 g1 g2 K0
  have e1 := K0 _ _ hax
  have e2 := K0 _ _ hay
  refine ⟨_, rfl, ax, _, 0, _, rfl, rfl, SqT.of e1, atI_nat rfl, _, rfl, ay, _, 0, _, rfl, rfl, SqT.of e2, atI_nat rfl, (by show 3 ≤ sizeLine; decide), fun p np => ?_⟩
  have S1 := same_new np (.tup [.str g.txt, tx, ty])
  have f1 := S1 _ _ e1
  have f2 := S1 _ _ e2
  refine ⟨_, rfl, ax, _, 1, _, rfl, rfl, SqT.of f1, atI_nat (j := 1) rfl, _, rfl, ay, _, 1, _, rfl, rfl, SqT.of f2, atI_nat (j := 1) rfl, _, _, rfl, _, _, rfl, rfl, (by show 2 ≤ sizeLine; decide), fun p2 np2 => ?_⟩
  have em : (1 : Int) + (if (o.2 : Int) > (a.2 : Int) then (o.2 : Int) else (a.2 : Int)) = ((1 + max a.2 o.2 : Nat) : Int) := by
    split <;> omega
  have S2 := same_new np2 (.tup [.ref p, .int (1 + if (o.2 : Int) > (a.2 : Int) then (o.2 : Int) else (a.2 : Int))])
  have S12 := S1.trans S2
  refine ⟨lo, _, _, rfl, rfl, S12 _ _ g1, by omega, ?_⟩
  have h5 : (upd (upd (upd H1 p (.tup [.str g.txt, tx, ty])) p2 (.tup [.ref p, .int (1 + if (o.2 : Int) > (a.2 : Int) then (o.2 : Int) else (a.2 : Int))])) lo (.lst (us ++ [.ref p2]))) lo = some (.lst (us ++ [.ref p2])) := upd_same
  have n1 : p ≠ lo := fun z => by rw [z, g1] at np; cases np
  have n2 : p2 ≠ lo := fun z => by rw [z] at np2; rw [S1 _ _ g1] at np2; cases np2
  have h6 : (upd (upd (upd H1 p (.tup [.str g.txt, tx, ty])) p2 (.tup [.ref p, .int (1 + if (o.2 : Int) > (a.2 : Int) then (o.2 : Int) else (a.2 : Int))])) lo (.lst (us ++ [.ref p2]))) p2 = some (.tup [.ref p, .int (1 + if (o.2 : Int) > (a.2 : Int) then (o.2 : Int) else (a.2 : Int))]) := by rw [upd_ne n2, upd_same]
  have h7 : (upd (upd (upd H1 p (.tup [.str g.txt, tx, ty])) p2 (.tup [.ref p, .int (1 + if (o.2 : Int) > (a.2 : Int) then (o.2 : Int) else (a.2 : Int))])) lo (.lst (us ++ [.ref p2]))) p = some (.tup [.str g.txt, tx, ty]) := by rw [upd_ne n1]; exact S2 _ _ upd_same
  have h8 : (upd (upd (upd H1 p (.tup [.str g.txt, tx, ty])) p2 (.tup [.ref p, .int (1 + if (o.2 : Int) > (a.2 : Int) then (o.2 : Int) else (a.2 : Int))])) lo (.lst (us ++ [.ref p2]))) lp = some (.lst qv) := by rw [upd_ne hne.symm]; exact S12 _ _ g2
  have B1 : But2 lo lp H1 (upd (upd (upd H1 p (.tup [.str g.txt, tx, ty])) p2 (.tup [.ref p, .int (1 + if (o.2 : Int) > (a.2 : Int) then (o.2 : Int) else (a.2 : Int))])) lo (.lst (us ++ [.ref p2]))) := fun c u m1 m2 e => by rw [upd_ne m1]; exact S12 _ _ e
  generalize (upd (upd (upd H1 p (.tup [.str g.txt, tx, ty])) p2 (.tup [.ref p, .int (1 + if (o.2 : Int) > (a.2 : Int) then (o.2 : Int) else (a.2 : Int))])) lo (.lst (us ++ [.ref p2]))) = H2 at h5 h6 h7 h8 B1
  rw [em] at h6
  have B := B0.trans B1
  have KT := B.tup h1 h2
  refine ⟨_, rfl, _, rfl, lo, _, _, _, rfl, rfl, SqL.of h5, atI_last _ _, p2, _, 1, _, rfl, rfl, SqT.of h6, atI_nat (j := 1) rfl, _, _, rfl, rfl, ?_⟩
  have := q H2 (.ref p2) h5 ⟨p2, .ref p, rfl, h6, p, tx, ty, rfl, h7, Tx.tups KT, Ty.tups KT⟩ h8 B
  have ed : decide (((1 + max a.2 o.2 : Nat) : Int) < 7) = decide ((mk2 g a o).2 < 7) := by
    show _ = decide (1 + max a.2 o.2 < 7)
    exact decide_eq_decide.mpr (by omega)
  rw [← ed] at this
  exact this
end
end SH

set_option Elab.async false
set_option linter.all false
set_option maxRecDepth 100000
namespace SH
open PySem L2
abbrev sClosed : Stmt := topS 59
abbrev sSigned : Stmt := topS 60
theorem scClosed : FnScope ["_law_outs", "_law_pile"] ["_law_outs", "_law_pile"] (defScope sClosed) := ⟨rfl, rfl, rfl, by decide +kernel, rfl, by decide +kernel, by decide +kernel⟩
theorem scSigned : FnScope ["_law_outs", "_law_pile", "_law_part", "_law_binds"] ["_law_outs", "_law_pile", "_law_part"] (defScope sSigned) := ⟨rfl, rfl, rfl, by decide +kernel, rfl, by decide +kernel, by decide +kernel⟩
/-- the two lists as they stand -/
structure Two (H : Hp) (lo lp : Addr) (os : List Ot) (p : Pile) : Prop where
  o : ∃ ov, H lo = some (.lst ov) ∧ OtsR H os ov
  p : H lp = some (.lst (pileV p))
def spClosed : Sp := fun vs H Q _ => ∃ (lo lp : Addr) (os : List Ot) (p : Pile), vs = [.ref lo, .ref lp] ∧ lo ≠ lp ∧ Two H lo lp os p ∧ enough p os.length ∧ os.length ≤ 1000000 ∧
  (∀ x H', closeM p os = some x → Two H' lo lp x.1 x.2 → But2 lo lp H H' → Q (.bl true) H') ∧ (∀ H', closeM p os = none → But2 lo lp H H' → Q (.bl false) H')
def spSigned : Sp := fun vs H Q _ => ∃ (lo lp : Addr) (os : List Ot) (p : Pile) (g : Sg), vs = [.ref lo, .ref lp, .str g.txt] ∧ lo ≠ lp ∧ Two H lo lp os p ∧ enough p os.length ∧ os.length ≤ 1000000 ∧ p.length ≤ 1000000 ∧
  (∀ x H', signM g p os = some x → Two H' lo lp x.1 (some g :: x.2) → But2 lo lp H H' → Q (.bl true) H') ∧ (∀ H', signM g p os = none → But2 lo lp H H' → Q (.bl false) H')
theorem sg_lp (g : Sg) : sgV (some g) ≠ V.str "(" := by
  intro z
  have := congrArg cd (V.str.inj (show V.str g.txt = V.str "(" from z))
  rw [cd_sg, cd_lp] at this
  cases g <;> cases this
def bnD : List (Key × V) := [(.inr "*", .int 3), (.inr "+", .int 2), (.inr "-", .int 2), (.inr "<", .int 1), (.inr "==", .int 1)]
theorem bnD_at (g : Sg) : valV (mergeK [] bnD) (Sum.inr g.txt) = some (.int g.lv) := by cases g <;> decide +kernel
section
variable {P : Program} {w : World} {K : PySem.W.Frag} {mg : Str → Option Value} {base : Heap}
theorem But2.refl {a b : Addr} (H : Hp) : But2 a b H H := fun _ _ _ _ e => e
theorem ok_closed {f k1 : Addr} {fd k1d : FuncData} (F : Fun K "_law_closed" "_law_closed" sClosed f fd) (FO : Fk P w K mg base 1 "_law_fold" k1 k1d ["_law_outs", "_law_pile"] spFold) (T : Bi mg) : FnOk P w K mg base CX0 2 f fd ["_law_outs", "_law_pile"] spClosed := by
  refine F.ok scClosed (fun vs H Q E h => ?_) (fun cdv A outer s H vs Q E hr h => ?_)
  · obtain ⟨lo, lp, os, p, rfl, _⟩ := h
    rfl
  obtain ⟨lo, lp, os, p, rfl, hne, h2, he, hz, q1, q2⟩ := h
  refine ⟨_, (pss_cons (ps_while PassesOwn.never (pt_cmpR op_ne (pe_ix ix_list (pv 1) (pe_un un_neg pe_int) (fun _ _ => rfl)) pe_str (nomark _))
      (pss_one (ps_if (pt_not (pt_val (pe_call FO.G (hr.mono (by omega)) (by rfl) FO.m FO.k FO.b .nil pass0 (pa_cons (pv 0) (pa_cons (pv 1) pa_nil)))))
      (pss_one (ps_ret pe_bl))
      pss_nil)))
    (pss_cons (ps_expr (pe_bm0 PySem.F.plainAttrs_list PySem.F.slot_list_pop PySem.F.type_list_pop mt_pop (pv 1)))
    (pss_one (ps_ret pe_bl)))), ?_⟩
  have hs : sizeLine = 16777216 := by decide
  refine ⟨fun m σ H' => ∃ p' os', m = p'.length ∧ σ = [some (.ref lo), some (.ref lp)] ∧ Two H' lo lp os' p' ∧ enough p' os'.length ∧ os'.length ≤ 1000000 ∧ closeM p' os' = closeM p os ∧ But2 lo lp H H', ⟨_, p, os, rfl, rfl, h2, he, hz, rfl, But2.refl H⟩, ?_⟩
  rintro m σ H1 ⟨p', os', rfl, rfl, t2, e2, z2, eq, B⟩
  cases p' with
  | nil => exact e2.elim
  | cons x p' =>
    have hp := t2.p
    rw [pileV_cons] at hp
    refine ⟨_, rfl, _, rfl, lp, _, _, _, rfl, rfl, SqL.of hp, atI_last _ _, (by cases x <;> rfl), _, rfl, ?_⟩
    cases x with
    | none =>
      rw [show (!decide (sgV none = V.str "(")) = false by decide +kernel]
      refine iteF ?_
      have glast : ∀ (l : List V) (v : V), (l ++ [v])[(l ++ [v]).length - 1]? = some v := fun l v => by rw [List.length_append]; exact List.getElem?_concat_length
      refine ⟨_, rfl, .inl ⟨rfl, _, SqL.of hp⟩, lp, _, _, rfl, rfl, hp, glast _ _, ?_⟩
      rw [List.dropLast_concat]
      obtain ⟨ov, ho, hO⟩ := t2.o
      refine q1 (os', p') _ (by rw [← eq]; cases os' <;> rfl) ⟨⟨ov, by rw [upd_ne hne]; exact ho, hO.tups fun c zs e => ?_⟩, upd_same⟩ (B.trans fun c u n1 n2 e => by rw [upd_ne n2]; exact e)
      rw [upd_ne (fun z => by rw [z, hp] at e; cases e)]
      exact e
    | some g =>
      rw [show (!decide (sgV (some g) = V.str "(")) = true by rw [decide_eq_false (sg_lp g)]; rfl]
      obtain ⟨e3, e4⟩ := e2
      obtain ⟨ov, ho, hO⟩ := t2.o
      match os', e3, e4, hO, z2, eq with
      | o :: a :: r, e3, e4, hO, z2, eq =>
        obtain ⟨us1, y, rfl, hy, us, x, rfl, hx, hr'⟩ := hO
        rw [List.length_cons, List.length_cons] at z2
        refine iteT ⟨fun σ' H' => ∃ os2, σ' = [some (.ref lo), some (.ref lp)] ∧ Two H' lo lp os2 p' ∧ enough p' os2.length ∧ os2.length ≤ 1000000 ∧ closeM p' os2 = closeM p os ∧ But2 lo lp H H', ?_, ?_⟩
        · rintro σ' H' ⟨os2, h1, h2, h3, h4, h5, h6⟩
          exact ⟨p'.length, Nat.lt_succ_self _, p', os2, rfl, h1, h2, h3, h4, h5, h6⟩
        · refine ⟨_, rfl, _, rfl, lo, lp, us, x, y, a, o, g, _, rfl, hne, ho, hx, hy, hp, by rw [hr'.len]; omega, fun H2 z k1 k2 k3 B2 => ?_⟩
          have KT := B2.tup ho hp
          have eq' : (if (mk2 g a o).2 < 7 then closeM p' (mk2 g a o :: r) else none) = closeM p os := eq
          refine ⟨_, rfl, ?_⟩
          by_cases c : (mk2 g a o).2 < 7
          · rw [if_pos c] at eq'
            rw [decide_eq_true c]
            refine iteF ?_
            exact ⟨mk2 g a o :: r, rfl, ⟨⟨_, k1, us, z, rfl, k2, hr'.tups KT⟩, k3⟩, e4, by rw [List.length_cons]; omega, eq', B.trans B2⟩
          · rw [if_neg c] at eq'
            rw [decide_eq_false c]
            refine iteT ?_
            exact q2 H2 eq'.symm (B.trans B2)
theorem ok_signed {f k1 : Addr} {fd k1d : FuncData} (F : Fun K "_law_signed" "_law_signed" sSigned f fd) (FO : Fk P w K mg base 1 "_law_fold" k1 k1d ["_law_outs", "_law_pile"] spFold) (T : Bi mg) : FnOk P w K mg base CX0 2 f fd ["_law_outs", "_law_pile", "_law_part"] spSigned := by
  refine F.ok scSigned (fun vs H Q E h => ?_) (fun cdv A outer s H vs Q E hr h => ?_)
  · obtain ⟨lo, lp, os, p, g, rfl, _⟩ := h
    rfl
  obtain ⟨lo, lp, os, p, g, rfl, hne, h2, he, hz, hz2, q1, q2⟩ := h
  refine ⟨_, (pss_cons (ps_set (i := 3) scSigned.nd rfl (Or.inl rfl) (pe_disp (pps_cons pe_str pe_int (pps_cons pe_str pe_int (pps_cons pe_str pe_int (pps_cons pe_str pe_int (pps_cons pe_str pe_int pps_nil))))) (by rfl) (by rfl) (fun z => by cases z) (by decide)))
    (pss_cons (ps_while PassesOwn.never (PW.pt (pw_and (pt_cmpR op_ne (pe_ix ix_list (pv 1) (pe_un un_neg pe_int) (fun _ _ => rfl)) pe_str (nomark _)) (pw_and1 (pt_cmpR op_ge (pe_dget (hu_of hr) (pv 3) (pe_ix ix_list (pv 1) (pe_un un_neg pe_int) (fun _ _ => rfl)) (fun _ _ => rfl)) (pe_dget (hu_of hr) (pv 3) (pv 2) (fun _ _ => rfl)) (nomark _)))))
      (pss_one (ps_if (PW.pt (pw_or (PW.pt (pw_and (pt_cmpR op_eq (pe_dget (hu_of hr) (pv 3) (pv 2) (fun _ _ => rfl)) pe_int (nomark _)) (pw_and1 (pt_cmpR op_eq (pe_dget (hu_of hr) (pv 3) (pe_ix ix_list (pv 1) (pe_un un_neg pe_int) (fun _ _ => rfl)) (fun _ _ => rfl)) pe_int (nomark _))))) (pw_or1 (pt_not (pt_val (pe_call FO.G (hr.mono (by omega)) (by rfl) FO.m FO.k FO.b .nil pass0 (pa_cons (pv 0) (pa_cons (pv 1) pa_nil))))))))
      (pss_one (ps_ret pe_bl))
      pss_nil)))
    (pss_cons (ps_expr (pe_bm PySem.F.plainAttrs_list PySem.F.slot_list_append PySem.F.type_list_append mt_append (pv 1) (pa_cons (pv 2) pa_nil)))
    (pss_one (ps_ret pe_bl))))), ?_⟩
  have hs : sizeLine = 16777216 := by decide
  refine fun d hd => ⟨upd_same, bnD, rfl, by decide, ?_⟩
  rw [upd_upd]
  have s1 := same_new hd (.dK (mergeK [] bnD))
  have hd1 : (upd H d (.dK (mergeK [] bnD))) d = some (.dK (mergeK [] bnD)) := upd_same
  generalize upd H d (.dK (mergeK [] bnD)) = H0 at s1 hd1
  obtain ⟨ov0, ho0, hO0⟩ := h2.o
  have gt : ∀ {H' : Hp} (k : Sg), H' d = some (.dK (mergeK [] bnD)) → DGet H' d (.str k.txt) (some (.int k.lv)) := fun {H'} k e => by
    have := DGet.k (k := Sum.inr k.txt) e
    rwa [bnD_at] at this
  have B0 : But2 lo lp H H0 := fun c u _ _ e => s1 _ _ e
  have h20 : Two H0 lo lp os p := ⟨⟨ov0, s1 _ _ ho0, hO0.tups fun c zs e => s1 _ _ e⟩, s1 _ _ h2.p⟩
  refine ⟨fun m σ H' => ∃ p' os', m = p'.length ∧ σ = [some (.ref lo), some (.ref lp), some (.str g.txt), some (.ref d)] ∧ Two H' lo lp os' p' ∧ enough p' os'.length ∧ os'.length ≤ 1000000 ∧ p'.length ≤ 1000000 ∧ signM g p' os' = signM g p os ∧ But2 lo lp H H' ∧ H' d = some (.dK (mergeK [] bnD)), ⟨_, p, os, rfl, rfl, h20, he, hz, hz2, rfl, B0, hd1⟩, ?_⟩
  rintro m σ H1 ⟨p', os', rfl, rfl, t2, e2, z2, zp, eq, B, hd2⟩
  have fin : signM g p' os' = some (os', p') → (pileV p').length < sizeLine ∧ Q (.bl true) (upd H1 lp (.lst (pileV p' ++ [V.str g.txt]))) := fun e => by
    refine ⟨by rw [pileV_len]; omega, ?_⟩
    obtain ⟨ov, ho, hO⟩ := t2.o
    refine q1 (os', p') _ (by rw [← eq]; exact e) ⟨⟨ov, by rw [upd_ne hne]; exact ho, hO.tups fun c zs e => ?_⟩, ?_⟩ (B.trans fun c u n1 n2 e => by rw [upd_ne n2]; exact e)
    · rw [upd_ne (fun z => by rw [z, t2.p] at e; cases e)]
      exact e
    · rw [upd_same, pileV_cons]
      rfl
  cases p' with
  | nil => exact e2.elim
  | cons x p' =>
    have hp := t2.p
    rw [pileV_cons] at hp
    refine ⟨_, rfl, _, rfl, lp, _, _, _, rfl, rfl, SqL.of hp, atI_last _ _, (by cases x <;> rfl), _, rfl, ?_⟩
    cases x with
    | none =>
      rw [show (!decide (sgV none = V.str "(")) = false by decide +kernel]
      refine iteF ?_
      refine iteF ?_
      obtain ⟨f1, f2⟩ := fin (by cases os' <;> rfl)
      refine ⟨_, rfl, .inl ⟨rfl, _, SqL.of t2.p⟩, _, rfl, lp, _, _, rfl, rfl, t2.p, f1, f2⟩
    | some k =>
      rw [show (!decide (sgV (some k) = V.str "(")) = true by rw [decide_eq_false (sg_lp k)]; rfl]
      refine iteT ?_
      refine ⟨_, rfl, _, rfl, _, rfl, lp, _, _, _, rfl, rfl, SqL.of hp, atI_last _ _, d, _, rfl, gt k hd2, _, rfl, _, rfl, d, _, rfl, gt g hd2, _, _, rfl, rfl, _, rfl, ?_⟩
      by_cases c1 : g.lv ≤ k.lv
      · rw [decide_eq_true c1]
        obtain ⟨e3, e4⟩ := e2
        obtain ⟨ov, ho, hO⟩ := t2.o
        match os', e3, e4, hO, z2, eq with
        | o :: a :: r, e3, e4, hO, z2, eq =>
          obtain ⟨us1, y, rfl, hy, us, xx, rfl, hx, hr'⟩ := hO
          rw [List.length_cons, List.length_cons] at z2
          refine iteT ⟨fun σ' H' => ∃ os2, σ' = [some (.ref lo), some (.ref lp), some (.str g.txt), some (.ref d)] ∧ Two H' lo lp os2 p' ∧ enough p' os2.length ∧ os2.length ≤ 1000000 ∧ signM g p' os2 = signM g p os ∧ But2 lo lp H H' ∧ H' d = some (.dK (mergeK [] bnD)), ?_, ?_⟩
          · rintro σ' H' ⟨os2, h1, h2, h3, h4, h5, h6, h7⟩
            rw [List.length_cons] at zp
            exact ⟨p'.length, Nat.lt_succ_self _, p', os2, rfl, h1, h2, h3, h4, by omega, h5, h6, h7⟩
          · have eq' : (if g.lv ≤ k.lv then (if g.lv = 1 ∧ k.lv = 1 then none else (if (mk2 k a o).2 < 7 then signM g p' (mk2 k a o :: r) else none)) else some (o :: a :: r, some k :: p')) = signM g p os := eq
            rw [if_pos c1] at eq'
            refine ⟨_, rfl, _, rfl, d, _, rfl, gt g hd2, rfl, _, rfl, ?_⟩
            by_cases c2 : g.lv = 1
            · rw [decide_eq_true (by rw [c2])]
              refine iteT ?_
              refine ⟨_, rfl, _, rfl, _, rfl, lp, _, _, _, rfl, rfl, SqL.of hp, atI_last _ _, d, _, rfl, gt k hd2, rfl, _, rfl, ?_⟩
              by_cases c3 : k.lv = 1
              · rw [decide_eq_true (by rw [c3])]
                refine iteT ?_
                refine iteT ?_
                rw [if_pos ⟨c2, c3⟩] at eq'
                exact q2 H1 eq'.symm B
              · rw [decide_eq_false (fun z => c3 (V.int.inj z))]
                refine iteF ?_
                rw [if_neg (fun z => c3 z.2)] at eq'
                refine ⟨_, rfl, _, rfl, lo, lp, us, xx, y, a, o, k, _, rfl, hne, ho, hx, hy, hp, by rw [hr'.len]; omega, fun H2 z k1 k2 k3 B2 => ?_⟩
                have KT := B2.tup ho hp
                have hd3 := B2 _ _ (fun z => by rw [z, ho] at hd2; cases hd2) (fun z => by rw [z, hp] at hd2; cases hd2) hd2
                refine ⟨_, rfl, ?_⟩
                by_cases c : (mk2 k a o).2 < 7
                · rw [if_pos c] at eq'
                  rw [decide_eq_true c]
                  refine iteF ?_
                  exact ⟨mk2 k a o :: r, rfl, ⟨⟨_, k1, us, z, rfl, k2, hr'.tups KT⟩, k3⟩, e4, by rw [List.length_cons]; omega, eq', B.trans B2, hd3⟩
                · rw [if_neg c] at eq'
                  rw [decide_eq_false c]
                  refine iteT ?_
                  exact q2 H2 eq'.symm (B.trans B2)
            · rw [decide_eq_false (fun z => c2 (V.int.inj z))]
              refine iteF ?_
              refine iteF ?_
              rw [if_neg (fun z => c2 z.1)] at eq'
              refine ⟨_, rfl, _, rfl, lo, lp, us, xx, y, a, o, k, _, rfl, hne, ho, hx, hy, hp, by rw [hr'.len]; omega, fun H2 z k1 k2 k3 B2 => ?_⟩
              have KT := B2.tup ho hp
              have hd3 := B2 _ _ (fun z => by rw [z, ho] at hd2; cases hd2) (fun z => by rw [z, hp] at hd2; cases hd2) hd2
              refine ⟨_, rfl, ?_⟩
              by_cases c : (mk2 k a o).2 < 7
              · rw [if_pos c] at eq'
                rw [decide_eq_true c]
                refine iteF ?_
                exact ⟨mk2 k a o :: r, rfl, ⟨⟨_, k1, us, z, rfl, k2, hr'.tups KT⟩, k3⟩, e4, by rw [List.length_cons]; omega, eq', B.trans B2, hd3⟩
              · rw [if_neg c] at eq'
                rw [decide_eq_false c]
                refine iteT ?_
                exact q2 H2 eq'.symm (B.trans B2)
      · rw [decide_eq_false c1]
        refine iteF ?_
        have c1' : ¬ g.lv ≤ k.lv := c1
        obtain ⟨f1, f2⟩ := fin (by show (if g.lv ≤ k.lv then _ else some (os', some k :: p')) = _; rw [if_neg c1'])
        refine ⟨_, rfl, .inl ⟨rfl, _, SqL.of t2.p⟩, _, rfl, lp, _, _, rfl, rfl, t2.p, f1, f2⟩
end
end SH

set_option Elab.async false
set_option linter.all false
set_option maxRecDepth 100000
namespace SH
open PySem L2
abbrev sRead : Stmt := topS 61
theorem scRead : FnScope ["_law_parts_here", "_law_outs", "_law_pile", "_law_wanted", "_law_part", "_law_one"] ["_law_parts_here"] (defScope sRead) := ⟨rfl, rfl, rfl, by decide +kernel, rfl, by decide +kernel, by decide +kernel⟩
def TOk (t : Tn) : Prop := POk (some t) ∧ ∀ s, t = .nam s → s ∉ kept
theorem readM_app : ∀ (a b : List Tn) (S : RS), readM S (a ++ b) = (readM S a).bind fun S' => readM S' b
  | [], b, S => rfl
  | t :: r, b, S => by
    show (match stepM S t with | some S' => readM S' (r ++ b) | none => none) = (match stepM S t with | some S' => readM S' r | none => none).bind _
    cases stepM S t with
    | none => rfl
    | some S' => exact readM_app r b S'
theorem readM_stop {a b : List Tn} {t : Tn} {S0 S : RS} (h : readM S0 a = some S) (e : stepM S t = none) : readM S0 (a ++ t :: b) = none := by
  rw [readM_app, h]
  show (match stepM S t with | some S' => readM S' b | none => none) = none
  rw [e]
theorem readM_go {a : List Tn} {t : Tn} {S0 S S' : RS} (h : readM S0 a = some S) (e : stepM S t = some S') : readM S0 (a ++ [t]) = some S' := by
  rw [readM_app, h]
  show (match stepM S t with | some S' => readM S' [] | none => none) = some S'
  rw [e]
  rfl
def isSg : Tn → Bool
  | .sg _ => true
  | _ => false
def sgL : List V := [.str "*", .str "+", .str "-", .str "<", .str "=="]
theorem sgL_in {t : Tn} (h : POk (some t)) : inV (.str t.txt) sgL = isSg t := by
  have key : ∀ x ∈ ["*", "+", "-", "<", "=="].map Str.ofString, t.txt = x → isSg t = true := by
    intro x hx e
    have k := pc_kinds h
    have kk : ∀ c ∈ cd x, kdC c = t.kd := fun c hc => k c (by show c ∈ cd t.txt; rw [e]; exact hc)
    cases t with
    | sg g => rfl
    | lp =>
      exfalso
      have : ∀ x ∈ ["*", "+", "-", "<", "=="].map Str.ofString, (Tn.lp).txt ≠ x := by decide +kernel
      exact this x hx e
    | rp =>
      exfalso
      have : ∀ x ∈ ["*", "+", "-", "<", "=="].map Str.ofString, (Tn.rp).txt ≠ x := by decide +kernel
      exact this x hx e
    | num n =>
      exfalso
      have : ∀ x ∈ ["*", "+", "-", "<", "=="].map Str.ofString, ∃ c ∈ cd x, kdC c ≠ 1 := by decide +kernel
      obtain ⟨c, hc, hn⟩ := this x hx
      exact hn (kk c hc)
    | nam n =>
      exfalso
      have : ∀ x ∈ ["*", "+", "-", "<", "=="].map Str.ofString, ∃ c ∈ cd x, kdC c ≠ 0 := by decide +kernel
      obtain ⟨c, hc, hn⟩ := this x hx
      exact hn (kk c hc)
  show inV (.str t.txt) ((["*", "+", "-", "<", "=="].map Str.ofString).map V.str) = _
  rw [inV_str]
  by_cases c : t.txt ∈ ["*", "+", "-", "<", "=="].map Str.ofString
  · rw [decide_eq_true c, key _ c rfl]
  · rw [decide_eq_false c]
    cases t with
    | sg g => exfalso; apply c; cases g <;> decide +kernel
    | _ => rfl
theorem tx_lp {t : Tn} (h : POk (some t)) : t.txt = ("(" : Str) ↔ t = .lp := by
  constructor
  · intro e
    by_cases c : t = .lp
    · exact c
    · exact absurd (show 40 ∈ cd t.txt by rw [e, cd_lp]; exact List.mem_cons_self) ((pc_clean h).1 (fun z => c (Option.some.inj z)))
  · intro e; rw [e]; rfl
theorem tx_rp {t : Tn} (h : POk (some t)) : t.txt = (")" : Str) ↔ t = .rp := by
  constructor
  · intro e
    by_cases c : t = .rp
    · exact c
    · exact absurd (show 41 ∈ cd t.txt by rw [e, cd_rp]; exact List.mem_cons_self) ((pc_clean h).2 (fun z => c (Option.some.inj z)))
  · intro e; rw [e]; rfl
theorem tx_head {t : Tn} (h : POk (some t)) : ∃ c r, cd t.txt = c :: r ∧ kdC c = t.kd := by
  cases e : cd t.txt with
  | nil => exact absurd e (pc_ne h)
  | cons c r => exact ⟨c, r, rfl, pc_kinds h c (by show c ∈ cd t.txt; rw [e]; exact List.mem_cons_self)⟩
theorem tx_len {t : Tn} (h : POk (some t)) : t.txt.length ≤ 30 := by
  rw [← cd_len]
  cases t with
  | lp => rw [show cd (Tn.lp).txt = [40] from cd_lp]; decide
  | rp => rw [show cd (Tn.rp).txt = [41] from cd_rp]; decide
  | sg g => rw [show cd (Tn.sg g).txt = _ from cd_sg g]; cases g <;> decide
  | num n => rw [show cd (Tn.num n).txt = _ from cd_num h.1]; exact num_len h.1 h.2
  | nam s => have := h.2.1; show (cd s).length ≤ 30; omega
theorem txv_lp {t : Tn} (h : POk (some t)) : decide (V.str t.txt = V.str "(") = isLp t := by
  cases t with
  | lp => exact decide_eq_true rfl
  | _ => exact decide_eq_false fun z => by have := (tx_lp h).mp (V.str.inj z); cases this
theorem txv_rp {t : Tn} (h : POk (some t)) : decide (V.str t.txt = V.str ")") = isRp t := by
  cases t with
  | rp => exact decide_eq_true rfl
  | _ => exact decide_eq_false fun z => by have := (tx_rp h).mp (V.str.inj z); cases this
theorem Two.same {H H' : Hp} {lo lp : Addr} {os : List Ot} {p : Pile} (h : Two H lo lp os p) (s : Same H H') : Two H' lo lp os p :=
  let ⟨ov, a, b⟩ := h.o; ⟨⟨ov, s _ _ a, b.tups fun c zs e => s _ _ e⟩, s _ _ h.p⟩
theorem cnt_pile (p : Pile) : ((pileV p).filter fun v => decide (v = .str "(")).length = cntN p := by
  unfold pileV cntN
  rw [List.filter_reverse, List.length_reverse, List.filter_map, List.length_map]
  congr 1
  refine List.filter_congr fun x _ => ?_
  cases x with
  | none => show decide (V.str "(" = V.str "(") = true; exact decide_eq_true rfl
  | some g => exact decide_eq_false (sg_lp g)
theorem sign_len (g : Sg) : ∀ (p : Pile) (os : List Ot) (x : List Ot × Pile), signM g p os = some x → x.1.length ≤ os.length ∧ x.2.length ≤ p.length
  | [], os, x, h => by cases h
  | none :: p, os, x, h => by cases h; exact ⟨Nat.le_refl _, Nat.le_refl _⟩
  | some k :: p, os, x, h => by
    have h' : (if g.lv ≤ k.lv then (if g.lv = 1 ∧ k.lv = 1 then none else match os with
      | o :: a :: r => if (mk2 k a o).2 < 7 then signM g p (mk2 k a o :: r) else none
      | _ => none) else some (os, some k :: p)) = some x := h
    split at h'
    · split at h'
      · cases h'
      · split at h'
        · split at h'
          · have := sign_len g p _ x h'
            rw [List.length_cons] at this
            rw [List.length_cons, List.length_cons, List.length_cons]
            omega
          · cases h'
        · cases h'
    · cases h'; exact ⟨Nat.le_refl _, Nat.le_refl _⟩
theorem close_len : ∀ (p : Pile) (os : List Ot) (x : List Ot × Pile), closeM p os = some x → x.1.length ≤ os.length ∧ x.2.length ≤ p.length
  | [], os, x, h => by cases os <;> cases h
  | none :: p, os, x, h => by
    have h' : some (os, p) = some x := by rw [← h]; cases os <;> rfl
    cases h'
    exact ⟨Nat.le_refl _, Nat.le_succ _⟩
  | some k :: p, [], x, h => by cases h
  | some k :: p, [o], x, h => by cases h
  | some k :: p, o :: a :: r, x, h => by
    have h' : (if (mk2 k a o).2 < 7 then closeM p (mk2 k a o :: r) else none) = some x := h
    split at h'
    · have := close_len p _ x h'
      rw [List.length_cons] at this
      rw [List.length_cons, List.length_cons, List.length_cons]
      omega
    · cases h'
def optTr (H : Hp) (o : Option Ex) (v : V) : Prop := match o with
  | some e => TrIn H e v
  | none => v = .non
def spPile : Sp := fun vs H Q _ => ∃ (a : Addr) (ts : List Tn), vs = [.ref a] ∧ H a = some (.lst (ts.map fun t => V.str t.txt)) ∧ (∀ t ∈ ts, PtAny t ∧ t.txt.length ≤ 30) ∧ ts.length ≤ 500000 ∧
  ∀ v H', Same H H' → optTr H' (RB badN RS0 (ts ++ [.rp])) v → Q v H'
def Bd (t : Tn) : Prop := ∃ s, t = .nam s ∧ badN s = true
theorem RB_free : ∀ (ts : List Tn) (S : RS), (∀ t ∈ ts, ¬ Bd t) → RB badN S ts = (readM S ts).bind finB
  | [], S, _ => rfl
  | t :: r, S, h => by
    have e : stepB badN S t = stepM S t := by
      cases t with
      | nam s =>
        show (if badN s = true then none else stepM S (.nam s)) = _
        rw [if_neg (fun z => h _ List.mem_cons_self ⟨s, rfl, z⟩)]
      | _ => rfl
    show (match stepB badN S t with | some S' => RB badN S' r | none => none) = (match stepM S t with | some S' => readM S' r | none => none).bind finB
    rw [e]
    cases stepM S t with
    | none => rfl
    | some S' => exact RB_free r S' fun t ht => h t (List.mem_cons_of_mem _ ht)
theorem res_free {ts : List Tn} (h : ∀ t ∈ ts, ¬ Bd t) : RB badN RS0 (ts ++ [.rp]) = resM ts := by
  rw [RB_free _ _ fun t ht => by
    rcases List.mem_append.mp ht with ht | ht
    · exact h t ht
    · rw [List.mem_singleton.mp ht]; rintro ⟨s, e, _⟩; cases e]
  unfold resM
  cases readM RS0 (ts ++ [.rp]) with
  | none => rfl
  | some S =>
    obtain ⟨o, p, w⟩ := S
    cases o with
    | nil => cases p <;> rfl
    | cons x o => cases p <;> rfl
theorem res_bd {ts : List Tn} {t : Tn} (h : t ∈ ts) (b : Bd t) : RB badN RS0 (ts ++ [.rp]) = none := by
  cases e : RB badN RS0 (ts ++ [.rp]) with
  | none => rfl
  | some x =>
    obtain ⟨s, rfl, hb⟩ := b
    have := RB_bad _ _ _ e s (List.mem_append_left _ h)
    rw [hb] at this
    cases this
theorem res_or {ts : List Tn} (h : resM ts = none) : RB badN RS0 (ts ++ [.rp]) = none := by
  by_cases c : ∃ t ∈ ts, Bd t
  · obtain ⟨t, h1, h2⟩ := c
    exact res_bd h1 h2
  · rw [res_free fun t ht b => c ⟨t, ht, b⟩, h]
theorem tok_free {t : Tn} (h : PtAny t) (hl : t.txt.length ≤ 30) (hb : ¬ Bd t) : TOk t := by
  by_cases cn : ∃ s, t = .nam s
  · obtain ⟨s, rfl⟩ := cn
    have : nameB s = true := badN_f fun z => hb ⟨s, rfl, z⟩
    have h2 := of_decide_eq_true this
    exact ⟨h2.1, fun s' e => by cases e; exact h2.2⟩
  · exact ⟨any_pok h fun s e => cn ⟨s, e⟩, fun s e => absurd ⟨s, e⟩ cn⟩
/-- a name of none: no number, no title, no sign, no bracket -/
theorem bd_facts {s : Str} (h : PtAny (.nam s)) (hl : (Tn.nam s).txt.length ≤ 30) (hb : badN s = true) : ∃ c r, cd (Tn.nam s).txt = c :: r ∧ kdC c ≠ 1 ∧ (decide (kdC c = 0) && !decide ((Tn.nam s).txt ∈ kept)) = false ∧ inV (.str (Tn.nam s).txt) sgL = false ∧ decide (V.str (Tn.nam s).txt = V.str "(") = false ∧ decide (V.str (Tn.nam s).txt = V.str ")") = false := by
  have hc := any_nam h
  have hs : (cd s).length ≤ 30 := by rw [cd_len]; exact hl
  cases e : cd s with
  | nil => exact absurd e hc.1
  | cons c r =>
    have hm : c ∈ cd s := by rw [e]; exact List.mem_cons_self
    have hsg : ∀ x ∈ ["*", "+", "-", "<", "=="].map Str.ofString, s ≠ x := by
      intro x hx es
      subst es
      have key : ∀ x ∈ ["*", "+", "-", "<", "=="].map Str.ofString, ∃ g : Sg, x = g.txt := by
        intro x hx
        have : x = "*" ∨ x = "+" ∨ x = "-" ∨ x = "<" ∨ x = "==" := by simpa using hx
        rcases this with rfl | rfl | rfl | rfl | rfl
        · exact ⟨.mul, rfl⟩
        · exact ⟨.add, rfl⟩
        · exact ⟨.sub, rfl⟩
        · exact ⟨.lt, rfl⟩
        · exact ⟨.eq, rfl⟩
      obtain ⟨g, hg⟩ := key s hx
      have := any_sg h (show (Tn.nam s).txt = g.txt from hg)
      cases this
    refine ⟨c, r, e, ?_, ?_, ?_, any_lp h, ?_⟩
    · rcases hc.2 with a | a | a | a
      · have := a c hm; omega
      · have := (a c hm).1; omega
      · have := a c hm; omega
      · omega
    · by_cases k : s ∈ kept
      · rw [show decide ((Tn.nam s).txt ∈ kept) = true from decide_eq_true k]; cases decide (kdC c = 0) <;> rfl
      · rw [decide_eq_false (show ¬ kdC c = 0 from fun k0 => by
          have hnm : nmL s := by
            rcases h with a | a | a | a
            · exact a
            · rw [a, cd_uno] at hm; rw [List.mem_singleton.mp hm] at k0; exact absurd k0 (by decide)
            · rw [a, cd_uno] at hm; rw [List.mem_singleton.mp hm] at k0; exact absurd k0 (by decide)
            · omega
          have : nameB s = true := decide_eq_true ⟨hnm, k⟩
          unfold badN at hb
          rw [this] at hb
          cases hb)]
        rfl
    · show inV (.str s) ((["*", "+", "-", "<", "=="].map Str.ofString).map V.str) = false
      rw [inV_str]
      exact decide_eq_false fun hx => hsg s hx rfl
    · refine decide_eq_false fun z => ?_
      have hz : 41 ∈ cd s := by rw [show s = ")" from V.str.inj z, cd_rp]; exact List.mem_cons_self
      have k41 : kdC 41 = 3 := by decide
      rcases hc.2 with a | a | a | a
      · have := a 41 hz; omega
      · have := (a 41 hz).2; omega
      · have := a 41 hz; omega
      · have := a.2 41 hz; omega
section
variable {P : Program} {w : World} {K : PySem.W.Frag} {mg : Str → Option Value} {base : Heap}
theorem ok_pile {f k1 k2 k3 k4 : Addr} {fd k1d k2d k3d k4d : FuncData} (F : Fun K "_law_read" "_law_read" sRead f fd) (KI : Fk P w K mg base 1 "_law_kind" k1 k1d ["_law_sign_here"] spKind) (TI : Fk P w K mg base 2 "_law_is_title" k2 k2d ["_law_part"] spTitle)
    (SI' : Fk P w K mg base 2 "_law_signed" k3 k3d ["_law_outs", "_law_pile", "_law_part"] spSigned) (CL : Fk P w K mg base 2 "_law_closed" k4 k4d ["_law_outs", "_law_pile"] spClosed) (T : Bi mg) : FnOk P w K mg base CX0 3 f fd ["_law_parts_here"] spPile := by
  refine F.ok scRead (fun vs H Q E h => ?_) (fun cdv A outer s H vs Q E hr h => ?_)
  · obtain ⟨a, ts, rfl, _⟩ := h
    rfl
  obtain ⟨a, ts, rfl, ha, ho, hz, q⟩ := h
  refine ⟨_, (pss_cons (ps_par (i := 1) (j := 2) rfl scRead.nd rfl rfl (by decide) rfl rfl (pa_cons (pe_lst pa_nil) (pa_cons (pe_lst (pa_cons pe_str pa_nil)) pa_nil)) (by rfl))
    (pss_cons (ps_set (i := 3) scRead.nd rfl (Or.inl rfl) pe_bl)
    (pss_cons (ps_for PassesOwn.never rfl (pi_list (pe_op op_cat (pv 0) (pe_lst (pa_cons pe_str pa_nil)))) (pg_name (i := 4) scRead.nd rfl (.inl rfl))
      (pss_cons (ps_if (pt_cmpR (SH.op_eqNil hr.units) (pv 2) (pe_lst pa_nil) (nomark _))
      (pss_one (ps_ret pe_non))
      pss_nil)
    (pss_one (ps_if (PW.pt (pw_and (pt_val (pv 3)) (pw_and (pt_cmpR op_eq (pv 4) pe_str (nomark _)) (pw_and1 (pt_cmpR op_lt (pe_callB call_len_seq (by rfl) T.len (by decide +kernel) (pa_cons (pe_lc (own := [("_law_one", 5)]) (g := gName 5) (by rfl) scRead.nd (pi_list (pv 2)) (blkOk_by (own := [("_law_one", 5)]) (N := ["_law_parts_here", "_law_outs", "_law_pile", "_law_wanted", "_law_part", "_law_one"]) (sc := defScope sRead) (by decide +kernel)) (fun _ _ _ _ _ => pg_name (i := 5) scRead.nd rfl (Or.inl rfl)) (fun _ _ _ _ _ => (pts_one (pt_cmpR op_eq (pv 5) pe_str (nomark _)))) (fun _ _ _ _ _ => (pv 5))) pa_nil)) pe_int (nomark _))))))
      (pss_one (ps_expr (pe_bm PySem.F.plainAttrs_list PySem.F.slot_list_append PySem.F.type_list_append mt_append (pv 2) (pa_cons pe_str pa_nil))))
      (pss_one (ps_if (PW.pt (pw_and (pt_val (pv 3)) (pw_and1 (pt_cmpR op_eq (pe_call KI.G (hr.mono (by omega)) (by rfl) KI.m KI.k KI.b .nil pass0 (pa_cons (pe_ix ix_str (pv 4) pe_int (fun _ _ => rfl)) pa_nil)) pe_int (nomark _)))))
      (pss_cons (ps_expr (pe_bm PySem.F.plainAttrs_list PySem.F.slot_list_append PySem.F.type_list_append mt_append (pv 1) (pa_cons (pe_tup (pa_cons (pe_tup (pa_cons pe_str (pa_cons (pe_callTy call_int_str (by rfl) T.int (by decide +kernel) (pa_cons (pv 4) pa_nil)) pa_nil))) (pa_cons pe_int pa_nil))) pa_nil)))
    (pss_one (ps_set (i := 3) scRead.nd rfl (Or.inl rfl) pe_bl)))
      (pss_one (ps_if (PW.pt (pw_and (pt_val (pv 3)) (pw_and1 (pt_val (pe_call TI.G (hr.mono (by omega)) (by rfl) TI.m TI.k TI.b .nil pass0 (pa_cons (pv 4) pa_nil))))))
      (pss_cons (ps_expr (pe_bm PySem.F.plainAttrs_list PySem.F.slot_list_append PySem.F.type_list_append mt_append (pv 1) (pa_cons (pe_tup (pa_cons (pe_tup (pa_cons pe_str (pa_cons (pv 4) pa_nil))) (pa_cons pe_int pa_nil))) pa_nil)))
    (pss_one (ps_set (i := 3) scRead.nd rfl (Or.inl rfl) pe_bl)))
      (pss_one (ps_if (PW.pt (pw_and (pt_not (pt_val (pv 3))) (pw_and (pt_cmpR op_in_seq (pv 4) (pe_lst (pa_cons pe_str (pa_cons pe_str (pa_cons pe_str (pa_cons pe_str (pa_cons pe_str pa_nil)))))) rfl) (pw_and1 (pt_val (pe_call SI'.G (hr.mono (by omega)) (by rfl) SI'.m SI'.k SI'.b .nil pass0 (pa_cons (pv 1) (pa_cons (pv 2) (pa_cons (pv 4) pa_nil)))))))))
      (pss_one (ps_set (i := 3) scRead.nd rfl (Or.inl rfl) pe_bl))
      (pss_one (ps_if (PW.pt (pw_or (pt_val (pv 3)) (pw_or (pt_cmpR op_ne (pv 4) pe_str (nomark _)) (pw_or1 (pt_not (pt_val (pe_call CL.G (hr.mono (by omega)) (by rfl) CL.m CL.k CL.b .nil pass0 (pa_cons (pv 1) (pa_cons (pv 2) pa_nil)))))))))
      (pss_one (ps_ret pe_non))
      pss_nil))))))))))))
    (pss_one (ps_ret (pe_ifExp (pt_cmpR (SH.op_eqNil hr.units) (pv 2) (pe_lst pa_nil) (nomark _)) (pe_ix ix_tup (pe_ix ix_list (pv 1) pe_int (fun _ _ => rfl)) pe_int (fun _ _ => rfl)) pe_non)))))), ?_⟩
  have hs : sizeLine = 16777216 := by decide
  refine ⟨Nat.zero_le _, fun lo nlo => ?_⟩
  refine ⟨by decide, fun lp nlp => ?_⟩
  have S1 := same_new nlo (.lst [])
  have S2 := same_new nlp (.lst [.str "("])
  have no1 : lo ≠ lp := fun z => by rw [z, upd_same] at nlp; cases nlp
  have nlp0 : H lp = none := S1.free nlp
  have t0 : Two (upd (upd H lo (.lst [])) lp (.lst [.str "("])) lo lp [] [none] := ⟨⟨[], by rw [upd_ne no1, upd_same], rfl⟩, upd_same⟩
  have S12 := S1.trans S2
  generalize upd (upd H lo (.lst [])) lp (.lst [.str "("]) = H1 at S2 t0 S12
  refine ⟨_, _, rfl, ?_⟩
  refine ⟨_, rfl, by decide, fun l3 n3 => ?_⟩
  have S3 := same_new n3 (.lst [.str ")"])
  have t3 : (upd H1 l3 (.lst [.str ")"])) l3 = some (.lst [.str ")"]) := upd_same
  generalize upd H1 l3 (.lst [.str ")"]) = H2 at S3 t3
  have ha2 := S3 _ _ (S12 _ _ ha)
  refine ⟨_, _, _, _, rfl, rfl, ha2, t3, by rw [List.length_map]; show ts.length + 1 ≤ sizeLine; omega, fun l4 n4 => ?_⟩
  have S4 := same_new n4 (.lst (ts.map (fun t => V.str t.txt) ++ [.str ")"]))
  have t4 : (upd H2 l4 (.lst (ts.map (fun t => V.str t.txt) ++ [.str ")"]))) l4 = some (.lst (ts.map (fun t => V.str t.txt) ++ [.str ")"])) := upd_same
  generalize upd H2 l4 (.lst (ts.map (fun t => V.str t.txt) ++ [.str ")"])) = H3 at S4 t4
  have el : ts.map (fun t => V.str t.txt) ++ [.str ")"] = (ts ++ [Tn.rp]).map fun t => V.str t.txt := by rw [List.map_append]; rfl
  rw [el] at t4
  have n4o : l4 ≠ lo := fun z => by
    obtain ⟨ov, e, _⟩ := t0.o
    rw [z, S3 _ _ e] at n4
    cases n4
  have n4p : l4 ≠ lp := fun z => by rw [z, S3 _ _ t0.p] at n4; cases n4
  have S34 := S3.trans S4
  have t03 : Two H3 lo lp [] [none] := by
    obtain ⟨ov, e, f⟩ := t0.o
    exact ⟨⟨ov, S34 _ _ e, f⟩, S34 _ _ t0.p⟩
  have S03 := S12.trans S34
  have ho' : ∀ t ∈ ts ++ [Tn.rp], PtAny t ∧ t.txt.length ≤ 30 := fun t ht => by
    rcases List.mem_append.mp ht with h | h
    · exact ho t h
    · rw [List.mem_singleton.mp h]; exact ⟨trivial, by decide +kernel⟩
  refine ⟨l4, rfl, ⟨_, SqL.of t4⟩, for_list (K := K) (xs := (ts ++ [Tn.rp]).map fun t => V.str t.txt) (fun i σ H' => ∃ (S : RS) (c : Nat) (x y : Option V), σ = [some (.ref a), some (.ref lo), some (.ref lp), some (.bl S.w), x, y] ∧ readM RS0 ((ts ++ [Tn.rp]).take i) = some S ∧ SI S c ∧ Two H' lo lp S.outs S.pile ∧
    Same H H' ∧ H' l4 = some (.lst ((ts ++ [Tn.rp]).map fun t => V.str t.txt)) ∧ S.outs.length ≤ i ∧ S.pile.length ≤ i + 1 ∧ ∀ t ∈ (ts ++ [Tn.rp]).take i, ¬ Bd t) ?_ (fun i σ H' _ h => by obtain ⟨S, c, x, y, _, _, _, _, _, h, _⟩ := h; exact SqL.of h) ?_ ?_⟩
  · exact ⟨RS0, 1, _, _, rfl, rfl, SI0, t03, S03, t4, Nat.le_refl _, Nat.le_refl _, fun t h => by cases h⟩
  · rintro i x σ H4 hx ⟨S, c, x0, y0, rfl, hR, hI, h2, S4', h4, z1, z2, hnb⟩
    rw [List.getElem?_map] at hx
    cases hxi : (ts ++ [Tn.rp])[i]? with
    | none => rw [hxi] at hx; cases hx
    | some t =>
      rw [hxi] at hx
      cases hx
      have hta := ho' t (List.mem_of_getElem? hxi)
      by_cases hbd : Bd t
      · obtain ⟨z, rfl, hbz⟩ := hbd
        have hin : Tn.nam z ∈ ts := by
          rcases List.mem_append.mp (List.mem_of_getElem? hxi) with h | h
          · exact h
          · cases List.mem_singleton.mp h
        have stopB : ∀ H', Same H H' → Q .non H' := fun H' s => q _ _ s (by rw [res_bd hin ⟨z, rfl, hbz⟩]; exact (rfl : V.non = V.non))
        obtain ⟨c1, r1, ec1, f1, f2, f3, f4, f5⟩ := bd_facts hta.1 hta.2 hbz
        have htl := hta.2
        have at0 : atI (Tn.nam z).txt.cps.toList 0 = some c1 := by show atI (cd (Tn.nam z).txt) 0 = _; rw [ec1]; exact atI_nat (j := 0) rfl
        refine ⟨_, rfl, Nat.zero_le _, fun l5 n5 => ⟨lp, l5, _, rfl, rfl, SqL.of (same_new n5 _ _ _ h2.p), SqL.of upd_same, _, rfl, ?_⟩⟩
        have S5 := same_new n5 (.lst [])
        have h25 := h2.same S5
        have S45 := S4'.trans S5
        generalize upd H4 l5 (.lst []) = H5 at S5 h25 S45
        obtain ⟨outs, pile, wv⟩ := S
        cases pile with
        | nil =>
          refine iteT ?_
          exact stopB _ S45
        | cons px pt =>
          rw [show (pileV (px :: pt)).isEmpty = false by rw [pileV_cons]; cases pileV pt <;> rfl]
          refine iteF ?_
          cases wv with
          | true =>
            refine ⟨_, rfl, _, rfl, ?_⟩
            refine iteT ?_
            refine ⟨_, rfl, rfl, _, rfl, ?_⟩
            rw [f4]
            refine iteF ?_
            refine iteF ?_
            refine ⟨_, rfl, _, rfl, ?_⟩
            refine iteT ?_
            refine ⟨_, rfl, _, 0, c1, rfl, rfl, by omega, at0, c1, rfl, fun H6 S6 => ⟨rfl, _, rfl, ?_⟩⟩
            have h26 := h25.same S6
            have S46 := S45.trans S6
            rw [decide_eq_false (fun z => f1 (V.int.inj z))]
            refine iteF ?_
            refine ⟨_, rfl, _, rfl, ?_⟩
            refine iteT ?_
            refine ⟨_, rfl, _, c1, r1, rfl, ec1, by omega, fun H7 S7 => ⟨_, rfl, ?_⟩⟩
            have S47 := S46.trans S7
            rw [f2]
            refine iteF ?_
            refine ⟨_, rfl, _, rfl, ?_⟩
            refine iteF ?_
            refine iteF ?_
            refine ⟨_, rfl, _, rfl, ?_⟩
            refine iteT ?_
            refine iteT ?_
            exact stopB _ S47
          | false =>
            refine ⟨_, rfl, _, rfl, ?_⟩
            refine iteF ?_
            refine iteF ?_
            refine ⟨_, rfl, _, rfl, ?_⟩
            refine iteF ?_
            refine iteF ?_
            refine ⟨_, rfl, _, rfl, ?_⟩
            refine iteF ?_
            refine iteF ?_
            refine ⟨_, rfl, _, rfl, ?_⟩
            refine iteT ?_
            refine ⟨_, rfl, (by show 5 ≤ sizeLine; decide), fun l6 n6 => ⟨l6, _, rfl, .inl (SqL.of upd_same), rfl, rfl, ?_⟩⟩
            rw [if_neg Bool.false_ne_true, show inV (V.str (Tn.nam z).txt) [.str "*", .str "+", .str "-", .str "<", .str "=="] = false from f3]
            have S6 := same_new n6 (.lst [.str "*", .str "+", .str "-", .str "<", .str "=="])
            have S46 := S45.trans S6
            refine ⟨_, rfl, ?_⟩
            refine iteF ?_
            refine iteF ?_
            refine ⟨_, rfl, _, rfl, ?_⟩
            refine iteF ?_
            refine ⟨_, rfl, rfl, _, rfl, ?_⟩
            rw [f5]
            refine iteT ?_
            refine iteT ?_
            exact stopB _ S46
      have htk := tok_free hta.1 hta.2 hbd
      have hpo := htk.1
      have hil : i < (ts ++ [Tn.rp]).length := (List.getElem?_eq_some_iff.mp hxi).1
      rw [List.length_append] at hil
      have hil' : i < ts.length + 1 := hil
      have hsp : ts ++ [Tn.rp] = (ts ++ [Tn.rp]).take i ++ t :: (ts ++ [Tn.rp]).drop (i + 1) := by
        rw [List.getElem?_eq_some_iff] at hxi
        obtain ⟨h1, h2⟩ := hxi
        rw [← h2, ← List.drop_eq_getElem_cons h1, List.take_append_drop]
      have stop : stepM S t = none → ∀ H', Same H H' → Q .non H' := fun e H' s => by
        refine q _ _ s ?_
        have : resM ts = none := by
          unfold resM
          rw [hsp, readM_stop hR e]
        rw [res_or this]
        exact (rfl : V.non = V.non)
      have goon : ∀ S' H' (x y : Option V) (wv : V), stepM S t = some S' → wv = .bl S'.w → Two H' lo lp S'.outs S'.pile → Same H H' → H' l4 = some (.lst ((ts ++ [Tn.rp]).map fun t => V.str t.txt)) → S'.outs.length ≤ S.outs.length + 1 → S'.pile.length ≤ S.pile.length + 1 →
          ∃ (S : RS) (c : Nat) (x' y' : Option V), [some (.ref a), some (.ref lo), some (.ref lp), some wv, x, y] = [some (.ref a), some (.ref lo), some (.ref lp), some (.bl S.w), x', y'] ∧ readM RS0 ((ts ++ [Tn.rp]).take (i + 1)) = some S ∧ SI S c ∧ Two H' lo lp S.outs S.pile ∧
            Same H H' ∧ H' l4 = some (.lst ((ts ++ [Tn.rp]).map fun t => V.str t.txt)) ∧ S.outs.length ≤ i + 1 ∧ S.pile.length ≤ i + 1 + 1 ∧ ∀ t ∈ (ts ++ [Tn.rp]).take (i + 1), ¬ Bd t := fun S' H' x y wv e ew h1 h2 h3 h5 h6 =>
        ⟨S', _, x, y, by rw [ew], by rw [List.take_add_one, hxi]; exact readM_go hR e, step_ok hI e, h1, h2, h3, by omega, by omega, fun u hu => by
          rw [List.take_add_one, hxi] at hu
          rcases List.mem_append.mp hu with hu | hu
          · exact hnb u hu
          · rw [List.mem_singleton.mp hu]; exact hbd⟩
      obtain ⟨c1, r1, ec1, ek1⟩ := tx_head hpo
      have htl := tx_len hpo
      have at0 : atI t.txt.cps.toList 0 = some c1 := by show atI (cd t.txt) 0 = _; rw [ec1]; exact atI_nat (j := 0) rfl
      refine ⟨_, rfl, Nat.zero_le _, fun l5 n5 => ⟨lp, l5, _, rfl, rfl, SqL.of (same_new n5 _ _ _ h2.p), SqL.of upd_same, _, rfl, ?_⟩⟩
      have S5 := same_new n5 (.lst [])
      have h25 := h2.same S5
      have h45 := S5 _ _ h4
      have S45 := S4'.trans S5
      generalize upd H4 l5 (.lst []) = H5 at S5 h25 h45 S45
      obtain ⟨outs, pile, wv⟩ := S
      cases pile with
      | nil =>
        refine iteT ?_
        exact stop rfl _ S45
      | cons px pt =>
        rw [show (pileV (px :: pt)).isEmpty = false by rw [pileV_cons]; cases pileV pt <;> rfl]
        refine iteF ?_
        cases wv with
        | true =>
          refine ⟨_, rfl, _, rfl, ?_⟩
          refine iteT ?_
          refine ⟨_, rfl, rfl, _, rfl, ?_⟩
          rw [txv_lp hpo]
          cases t with
          | lp =>
            have hk1 : (Tn.lp).kd ≠ 1 := by decide
            have hk0 : (Tn.lp).kd ≠ 0 := by decide
            refine iteT ?_
            refine ⟨_, rfl, lp, rfl, ⟨_, SqL.of h25.p⟩, fun D hD => ?_⟩
            refine lc_list (K := K) (a := lp) (xs := pileV (px :: pt)) (fun j H' => H' D = some (.lst (((pileV (px :: pt)).take j).filter fun v => decide (v = .str "("))) ∧ Same H5 H') ⟨upd_same, same_new hD _⟩ (fun j H' _ h => SqL.of (h.2 _ _ h25.p)) ?_ ?_
            · rintro j x H6 hx ⟨d6, S6⟩
              refine ⟨rfl, ?_⟩
              obtain ⟨y, _, rfl⟩ : ∃ y, y ∈ (px :: pt) ∧ x = sgV y := by
                have := List.mem_of_getElem? hx
                unfold pileV at this
                obtain ⟨y, h1, h2⟩ := List.mem_map.mp (List.mem_reverse.mp this)
                exact ⟨y, h1, h2.symm⟩
              have htk : (pileV (px :: pt)).take (j + 1) = (pileV (px :: pt)).take j ++ [sgV y] := by rw [List.take_add_one, hx]; rfl
              refine ⟨_, rfl, (by cases y <;> rfl), _, rfl, ?_⟩
              by_cases cy : sgV y = .str "("
              · rw [decide_eq_true cy]
                refine iteT ⟨_, rfl, _, d6, ?_, ?_, fun b u e => ?_⟩
                · have h1 := List.length_filter_le (fun v => decide (v = V.str "(")) ((pileV (px :: pt)).take j)
                  rw [List.length_take, pileV_len] at h1
                  have z2' : (px :: pt).length ≤ i + 1 := z2
                  omega
                · rw [upd_same, htk, List.filter_append]
                  congr 3
                  show [sgV y] = List.filter _ [sgV y]
                  rw [List.filter_cons, if_pos (decide_eq_true cy)]
                  rfl
                · rw [upd_ne (ne_of_none e hD)]; exact S6 _ _ e
              · rw [decide_eq_false cy]
                refine iteF ⟨?_, S6⟩
                rw [htk, List.filter_append, show List.filter (fun v => decide (v = V.str "(")) [sgV y] = [] by rw [List.filter_cons, if_neg (by rw [decide_eq_false cy]; exact Bool.false_ne_true)]; rfl, List.append_nil]
                exact d6
            · rintro H6 ⟨d6, S6⟩
              rw [List.take_length] at d6
              refine ⟨D, _, rfl, .inl (SqL.of d6), _, _, rfl, rfl, _, rfl, ?_⟩
              rw [cnt_pile]
              have h25' := h25.same S6
              have h45' := S6 _ _ h45
              have S45' := S45.trans S6
              by_cases c9 : cntN (px :: pt) < 9
              · rw [decide_eq_true (by omega)]
                refine iteT ?_
                refine ⟨_, rfl, .inl ⟨rfl, _, SqL.of h25'.p⟩, lp, _, _, rfl, rfl, h25'.p, by rw [pileV_len]; omega, ?_⟩
                obtain ⟨ov, k1, k2⟩ := h25'.o
                have tk : ∀ c zs, H6 c = some (.tup zs) → (upd H6 lp (.lst (pileV (px :: pt) ++ [.str "("]))) c = some (.tup zs) := fun c zs e => by rw [upd_ne (fun z => by rw [z, h25'.p] at e; cases e)]; exact e
                refine goon ⟨outs, none :: px :: pt, true⟩ _ _ _ _ (step_lp (by intro h; cases h) c9) rfl ⟨⟨ov, by rw [upd_ne no1]; exact k1, k2.tups tk⟩, by rw [upd_same, pileV_cons none]; rfl⟩ (fun b u e => ?_) ?_ (Nat.le_succ _) (Nat.le_refl _)
                · rw [upd_ne (fun z => by rw [z, nlp0] at e; cases e)]; exact S45' _ _ e
                · rw [upd_ne n4p]; exact h45'
              · rw [decide_eq_false (by omega)]
                refine iteF ?_
                have st : stepM ⟨outs, px :: pt, true⟩ .lp = none := by show (if cntN (px :: pt) < 9 then _ else none) = none; rw [if_neg c9]
                clear h25 h45 S45
                rename Two H6 lo lp _ _ => h25
                have h45 := h45'
                have S45 := S45'
                refine ⟨_, rfl, _, rfl, ?_⟩
                refine iteT ?_
                refine ⟨_, rfl, _, 0, c1, rfl, rfl, by omega, at0, c1, rfl, fun H6 S6 => ⟨rfl, _, rfl, ?_⟩⟩
                rw [ek1]
                have h26 := h25.same S6
                have h46 := S6 _ _ h45
                have S46 := S45.trans S6
                rw [decide_eq_false (fun z => hk1 (V.int.inj z))]
                refine iteF ?_
                refine ⟨_, rfl, _, rfl, ?_⟩
                refine iteT ?_
                refine ⟨_, rfl, _, c1, r1, rfl, ec1, by omega, fun H7 S7 => ⟨_, rfl, ?_⟩⟩
                rw [ek1]
                have h27 := h26.same S7
                have h47 := S7 _ _ h46
                have S47 := S46.trans S7
                rw [decide_eq_false hk0, Bool.false_and]
                refine iteF ?_
                refine ⟨_, rfl, _, rfl, ?_⟩
                refine iteF ?_
                refine iteF ?_
                refine ⟨_, rfl, _, rfl, ?_⟩
                refine iteT ?_
                refine iteT ?_
                exact stop st _ S47
          | num n =>
            refine iteF ?_
            refine iteF ?_
            refine ⟨_, rfl, _, rfl, ?_⟩
            refine iteT ?_
            refine ⟨_, rfl, _, 0, c1, rfl, rfl, by omega, at0, c1, rfl, fun H6 S6 => ⟨rfl, _, rfl, ?_⟩⟩
            rw [ek1]
            have h26 := h25.same S6
            have h46 := S6 _ _ h45
            have S46 := S45.trans S6
            rw [decide_eq_true (show V.int (Tn.num n).kd = V.int 1 from rfl)]
            refine iteT ?_
            obtain ⟨ov0, k01, _⟩ := h26.o
            refine ⟨_, rfl, .inl ⟨rfl, _, SqL.of k01⟩, _, rfl, _, n, rfl, ?_, by omega, ?_⟩
            · have h0 : 0 ≤ n := hpo.1
              have e : n = ((n.toNat : Nat) : Int) := by omega
              have := TL.int_num (n := n.toNat) (Nat.le_trans (num_len hpo.1 hpo.2) (by decide))
              rw [← e] at this
              exact this
            refine ⟨(by show 2 ≤ sizeLine; decide), fun p np => ⟨(by show 2 ≤ sizeLine; decide), fun p2 np2 => ?_⟩⟩
            have S8 := same_new np (.tup [.str "number", .int n])
            have S9 := same_new np2 (.tup [.ref p, .int 1])
            have S89 := S8.trans S9
            have T9 := h26.same S89
            have hp9 : (upd (upd H6 p (.tup [.str "number", .int n])) p2 (.tup [.ref p, .int 1])) p = some (.tup [.str "number", .int n]) := S9 _ _ upd_same
            have hp29 : (upd (upd H6 p (.tup [.str "number", .int n])) p2 (.tup [.ref p, .int 1])) p2 = some (.tup [.ref p, .int 1]) := upd_same
            have S19 := S46.trans S89
            have h49 := S89 _ _ h46
            generalize upd (upd H6 p (.tup [.str "number", .int n])) p2 (.tup [.ref p, .int 1]) = H9 at S89 T9 hp9 hp29 S19 h49
            obtain ⟨ov, k1, k2⟩ := T9.o
            refine ⟨lo, _, _, rfl, rfl, k1, by rw [k2.len]; omega, ?_⟩
            have tk : ∀ c zs, H9 c = some (.tup zs) → (upd H9 lo (.lst (ov ++ [.ref p2]))) c = some (.tup zs) := fun c zs e => by rw [upd_ne (fun z => by rw [z, k1] at e; cases e)]; exact e
            refine goon ⟨(.num n, 1) :: outs, px :: pt, false⟩ _ _ _ _ rfl rfl ⟨⟨_, upd_same, ov, .ref p2, rfl, ⟨p2, .ref p, rfl, tk _ _ hp29, p, rfl, tk _ _ hp9⟩, k2.tups tk⟩, ?_⟩ (fun b u e => ?_) ?_ (Nat.le_refl _) (Nat.le_succ _)
            · rw [upd_ne no1.symm]; exact T9.p
            · rw [upd_ne (fun z => by rw [z, nlo] at e; cases e)]; exact S19 _ _ e
            · rw [upd_ne n4o]; exact h49
          | nam s =>
            have hk1 : (Tn.nam s).kd ≠ 1 := by show (0 : Int) ≠ 1; decide
            refine iteF ?_
            refine iteF ?_
            refine ⟨_, rfl, _, rfl, ?_⟩
            refine iteT ?_
            refine ⟨_, rfl, _, 0, c1, rfl, rfl, by omega, at0, c1, rfl, fun H6 S6 => ⟨rfl, _, rfl, ?_⟩⟩
            rw [ek1]
            have h26 := h25.same S6
            have h46 := S6 _ _ h45
            have S46 := S45.trans S6
            rw [decide_eq_false (fun z => hk1 (V.int.inj z))]
            refine iteF ?_
            refine ⟨_, rfl, _, rfl, ?_⟩
            refine iteT ?_
            refine ⟨_, rfl, _, c1, r1, rfl, ec1, by omega, fun H7 S7 => ⟨_, rfl, ?_⟩⟩
            rw [ek1]
            have h27 := h26.same S7
            have h47 := S7 _ _ h46
            have S47 := S46.trans S7
            have hnk : s ∉ kept := htk.2 s rfl
            rw [show (decide ((Tn.nam s).kd = 0) && !decide ((Tn.nam s).txt ∈ kept)) = true by rw [decide_eq_true (show (Tn.nam s).kd = 0 from rfl), show decide ((Tn.nam s).txt ∈ kept) = false from decide_eq_false hnk]; rfl]
            refine iteT ?_
            obtain ⟨ov0, k01, _⟩ := h27.o
            refine ⟨_, rfl, .inl ⟨rfl, _, SqL.of k01⟩, _, rfl, ?_⟩
            refine ⟨(by show 2 ≤ sizeLine; decide), fun p np => ⟨(by show 2 ≤ sizeLine; decide), fun p2 np2 => ?_⟩⟩
            have S8 := same_new np (.tup [.str "name", (fun t : Tn => V.str t.txt) (Tn.nam s)])
            have S9 := same_new np2 (.tup [.ref p, .int 1])
            have S89 := S8.trans S9
            have T9 := h27.same S89
            have hp9 : (upd (upd H7 p (.tup [.str "name", (fun t : Tn => V.str t.txt) (Tn.nam s)])) p2 (.tup [.ref p, .int 1])) p = some (.tup [.str "name", .str s]) := S9 _ _ upd_same
            have hp29 : (upd (upd H7 p (.tup [.str "name", (fun t : Tn => V.str t.txt) (Tn.nam s)])) p2 (.tup [.ref p, .int 1])) p2 = some (.tup [.ref p, .int 1]) := upd_same
            have S19 := S47.trans S89
            have h49 := S89 _ _ h47
            generalize upd (upd H7 p (.tup [.str "name", (fun t : Tn => V.str t.txt) (Tn.nam s)])) p2 (.tup [.ref p, .int 1]) = H9 at S89 T9 hp9 hp29 S19 h49
            obtain ⟨ov, k1, k2⟩ := T9.o
            refine ⟨lo, _, _, rfl, rfl, k1, by rw [k2.len]; omega, ?_⟩
            have tk : ∀ c zs, H9 c = some (.tup zs) → (upd H9 lo (.lst (ov ++ [.ref p2]))) c = some (.tup zs) := fun c zs e => by rw [upd_ne (fun z => by rw [z, k1] at e; cases e)]; exact e
            refine goon ⟨(.nam s, 1) :: outs, px :: pt, false⟩ _ _ _ _ rfl rfl ⟨⟨_, upd_same, ov, .ref p2, rfl, ⟨p2, .ref p, rfl, tk _ _ hp29, p, rfl, tk _ _ hp9⟩, k2.tups tk⟩, ?_⟩ (fun b u e => ?_) ?_ (Nat.le_refl _) (Nat.le_succ _)
            · rw [upd_ne no1.symm]; exact T9.p
            · rw [upd_ne (fun z => by rw [z, nlo] at e; cases e)]; exact S19 _ _ e
            · rw [upd_ne n4o]; exact h49
          | rp =>
            have hk1 : (Tn.rp).kd ≠ 1 := by decide
            have hk0 : (Tn.rp).kd ≠ 0 := by decide
            refine iteF ?_
            refine iteF ?_
            refine ⟨_, rfl, _, rfl, ?_⟩
            refine iteT ?_
            refine ⟨_, rfl, _, 0, c1, rfl, rfl, by omega, at0, c1, rfl, fun H6 S6 => ⟨rfl, _, rfl, ?_⟩⟩
            rw [ek1]
            have h26 := h25.same S6
            have h46 := S6 _ _ h45
            have S46 := S45.trans S6
            rw [decide_eq_false (fun z => hk1 (V.int.inj z))]
            refine iteF ?_
            refine ⟨_, rfl, _, rfl, ?_⟩
            refine iteT ?_
            refine ⟨_, rfl, _, c1, r1, rfl, ec1, by omega, fun H7 S7 => ⟨_, rfl, ?_⟩⟩
            rw [ek1]
            have h27 := h26.same S7
            have h47 := S7 _ _ h46
            have S47 := S46.trans S7
            rw [decide_eq_false hk0, Bool.false_and]
            refine iteF ?_
            refine ⟨_, rfl, _, rfl, ?_⟩
            refine iteF ?_
            refine iteF ?_
            refine ⟨_, rfl, _, rfl, ?_⟩
            refine iteT ?_
            refine iteT ?_
            exact stop rfl _ S47
          | sg g =>
            have hk1 : (Tn.sg g).kd ≠ 1 := by cases g <;> decide
            have hk0 : (Tn.sg g).kd ≠ 0 := by cases g <;> decide
            refine iteF ?_
            refine iteF ?_
            refine ⟨_, rfl, _, rfl, ?_⟩
            refine iteT ?_
            refine ⟨_, rfl, _, 0, c1, rfl, rfl, by omega, at0, c1, rfl, fun H6 S6 => ⟨rfl, _, rfl, ?_⟩⟩
            rw [ek1]
            have h26 := h25.same S6
            have h46 := S6 _ _ h45
            have S46 := S45.trans S6
            rw [decide_eq_false (fun z => hk1 (V.int.inj z))]
            refine iteF ?_
            refine ⟨_, rfl, _, rfl, ?_⟩
            refine iteT ?_
            refine ⟨_, rfl, _, c1, r1, rfl, ec1, by omega, fun H7 S7 => ⟨_, rfl, ?_⟩⟩
            rw [ek1]
            have h27 := h26.same S7
            have h47 := S7 _ _ h46
            have S47 := S46.trans S7
            rw [decide_eq_false hk0, Bool.false_and]
            refine iteF ?_
            refine ⟨_, rfl, _, rfl, ?_⟩
            refine iteF ?_
            refine iteF ?_
            refine ⟨_, rfl, _, rfl, ?_⟩
            refine iteT ?_
            refine iteT ?_
            exact stop rfl _ S47
        | false =>
          refine ⟨_, rfl, _, rfl, ?_⟩
          refine iteF ?_
          refine iteF ?_
          refine ⟨_, rfl, _, rfl, ?_⟩
          refine iteF ?_
          refine iteF ?_
          refine ⟨_, rfl, _, rfl, ?_⟩
          refine iteF ?_
          refine iteF ?_
          refine ⟨_, rfl, _, rfl, ?_⟩
          refine iteT ?_
          refine ⟨_, rfl, (by show 5 ≤ sizeLine; decide), fun l6 n6 => ⟨l6, _, rfl, .inl (SqL.of upd_same), rfl, rfl, ?_⟩⟩
          rw [if_neg Bool.false_ne_true, show inV (V.str t.txt) [.str "*", .str "+", .str "-", .str "<", .str "=="] = isSg t from sgL_in hpo]
          have S6 := same_new n6 (.lst [.str "*", .str "+", .str "-", .str "<", .str "=="])
          have h26 := h25.same S6
          have h46 := S6 _ _ h45
          have S46 := S45.trans S6
          generalize upd H5 l6 (.lst [.str "*", .str "+", .str "-", .str "<", .str "=="]) = H6 at S6 h26 h46 S46
          obtain ⟨o, os, kk, d, eo, hW, _⟩ : Ni outs (px :: pt) c := hI
          have hen : enough (px :: pt) outs.length := by rw [eo]; exact hW.enough (by intro h; cases h)
          have z1' : outs.length ≤ i := z1
          have z2' : (px :: pt).length ≤ i + 1 := z2
          have sm : ∀ {H'}, But2 lo lp H6 H' → Same H H' := fun {H'} B b u e => B _ _ (fun z => by rw [z, nlo] at e; cases e) (fun z => by rw [z, nlp0] at e; cases e) (S46 _ _ e)
          have no5 : ∀ {H'}, But2 lo lp H6 H' → H' l4 = some (.lst ((ts ++ [Tn.rp]).map fun t => V.str t.txt)) := fun {H'} B => B _ _ n4o n4p h46
          refine ⟨_, rfl, ?_⟩
          cases hst : stepM ⟨outs, px :: pt, false⟩ t with
          | none =>
            cases t with
            | sg g =>
              rw [step_sg (by intro h; cases h)] at hst
              refine iteT ?_
              refine ⟨_, rfl, _, rfl, _, rfl, lo, lp, outs, px :: pt, g, rfl, no1, h26, hen, by omega, by omega, fun x H' e => ?_, fun H' e B => ⟨_, rfl, ?_⟩⟩
              · rw [e] at hst; cases hst
              refine iteF ?_
              refine ⟨_, rfl, _, rfl, ?_⟩
              refine iteF ?_
              refine ⟨_, rfl, rfl, _, rfl, ?_⟩
              rw [txv_rp hpo]
              refine iteT ?_
              refine iteT ?_
              exact stop (by rw [step_sg (by intro h; cases h)]; exact hst) _ (sm B)
            | rp =>
              rw [step_rp (by intro h; cases h)] at hst
              refine iteF ?_
              refine iteF ?_
              refine ⟨_, rfl, _, rfl, ?_⟩
              refine iteF ?_
              refine ⟨_, rfl, rfl, _, rfl, ?_⟩
              rw [txv_rp hpo]
              refine iteF ?_
              refine ⟨_, rfl, _, rfl, lo, lp, outs, px :: pt, rfl, no1, h26, hen, by omega, fun x H' e => ?_, fun H' e B => ⟨_, rfl, ?_⟩⟩
              · rw [e] at hst; cases hst
              refine iteT ?_
              exact stop (by rw [step_rp (by intro h; cases h)]; exact hst) _ (sm B)
            | lp =>
              refine iteF ?_
              refine iteF ?_
              refine ⟨_, rfl, _, rfl, ?_⟩
              refine iteF ?_
              refine ⟨_, rfl, rfl, _, rfl, ?_⟩
              rw [txv_rp hpo]
              refine iteT ?_
              refine iteT ?_
              exact stop hst _ S46
            | num n =>
              refine iteF ?_
              refine iteF ?_
              refine ⟨_, rfl, _, rfl, ?_⟩
              refine iteF ?_
              refine ⟨_, rfl, rfl, _, rfl, ?_⟩
              rw [txv_rp hpo]
              refine iteT ?_
              refine iteT ?_
              exact stop hst _ S46
            | nam n =>
              refine iteF ?_
              refine iteF ?_
              refine ⟨_, rfl, _, rfl, ?_⟩
              refine iteF ?_
              refine ⟨_, rfl, rfl, _, rfl, ?_⟩
              rw [txv_rp hpo]
              refine iteT ?_
              refine iteT ?_
              exact stop hst _ S46
          | some S' =>
            cases t with
            | sg g =>
              rw [step_sg (by intro h; cases h)] at hst
              refine iteT ?_
              refine ⟨_, rfl, _, rfl, _, rfl, lo, lp, outs, px :: pt, g, rfl, no1, h26, hen, by omega, by omega, fun x H' e t2 B => ⟨_, rfl, ?_⟩, fun H' e => ?_⟩
              · refine iteT ?_
                rw [e] at hst
                cases hst
                have hl := sign_len g _ _ _ e
                exact goon ⟨x.1, some g :: x.2, true⟩ _ _ _ _ (by rw [step_sg (by intro h; cases h), e]; rfl) rfl t2 (sm B) (no5 B) (by show x.1.length ≤ outs.length + 1; omega) (by show x.2.length + 1 ≤ (px :: pt).length + 1; omega)
              · rw [e] at hst; cases hst
            | rp =>
              rw [step_rp (by intro h; cases h)] at hst
              refine iteF ?_
              refine iteF ?_
              refine ⟨_, rfl, _, rfl, ?_⟩
              refine iteF ?_
              refine ⟨_, rfl, rfl, _, rfl, ?_⟩
              rw [txv_rp hpo]
              refine iteF ?_
              refine ⟨_, rfl, _, rfl, lo, lp, outs, px :: pt, rfl, no1, h26, hen, by omega, fun x H' e t2 B => ⟨_, rfl, ?_⟩, fun H' e => ?_⟩
              · refine iteF ?_
                rw [e] at hst
                cases hst
                have hl := close_len _ _ _ e
                exact goon ⟨x.1, x.2, false⟩ _ _ _ _ (by rw [step_rp (by intro h; cases h), e]; rfl) rfl t2 (sm B) (no5 B) (by show x.1.length ≤ outs.length + 1; omega) (by show x.2.length ≤ (px :: pt).length + 1; omega)
              · rw [e] at hst; cases hst
            | lp => cases hst
            | num n => cases hst
            | nam n => cases hst
  · rintro σ H4 ⟨S, c, x0, y0, rfl, hR, hI, h2, S4', h4, z1, z2, hnb⟩
    rw [List.length_map, List.take_length] at hnb
    rw [List.length_map, List.take_length] at hR
    obtain ⟨outs, pile, wv⟩ := S
    refine ⟨_, rfl, Nat.zero_le _, fun l5 n5 => ⟨lp, l5, _, rfl, rfl, SqL.of (same_new n5 _ _ _ h2.p), SqL.of upd_same, _, rfl, ?_⟩⟩
    have S5 := same_new n5 (.lst [])
    have h25 := h2.same S5
    have S45 := S4'.trans S5
    generalize upd H4 l5 (.lst []) = H5 at S5 h25 S45
    cases pile with
    | nil =>
      refine iteT ?_
      cases wv with
      | true => exact absurd rfl hI.2
      | false =>
        obtain ⟨o, os, k, d, eo, hW, _⟩ : Ni outs [] c := hI
        cases hW
        cases eo
        obtain ⟨ov, f1, us, v, rfl, ⟨p, tv, rfl, f2, f3⟩, f4⟩ := h25.o
        have eus : us = [] := f4
        subst eus
        refine ⟨_, rfl, lo, _, _, _, rfl, rfl, SqL.of f1, atI_nat (j := 0) rfl, p, _, 0, _, rfl, rfl, SqT.of f2, atI_nat (j := 0) rfl, ?_⟩
        refine q _ _ S45 ?_
        have : resM ts = some o.1 := by
          unfold resM
          rw [hR]
        rw [res_free fun t ht => hnb t (List.mem_append_left _ ht), this]
        exact f3
    | cons px pt =>
      rw [show (pileV (px :: pt)).isEmpty = false by rw [pileV_cons]; cases pileV pt <;> rfl]
      refine iteF ?_
      refine q _ _ S45 ?_
      have : resM ts = none := by
        unfold resM
        rw [hR]
        cases outs <;> rfl
      rw [res_or this]
      exact (rfl : V.non = V.non)
end
end SH

set_option Elab.async false
set_option linter.all false
set_option maxRecDepth 100000
namespace SH
open PySem L2
abbrev sRefusal : Stmt := topS 65
theorem scRefusal : FnScope ["_law_e", "_law_some", "_law_names_here", "_law_name", "_law_above", "_law_due"] ["_law_e"] (defScope sRefusal) := ⟨rfl, rfl, rfl, by decide +kernel, rfl, by decide +kernel, by decide +kernel⟩
def spRefus (wd : Str) (CM : Addr) : Addr → Value → Option Addr → Sp := fun a cls d vs H Q _ => ∃ (dd : Addr) (fs : List (Str × V)), cls = .ref CM ∧ d = some dd ∧ vs = [.ref a] ∧ H dd = some (.xd fs) ∧ ∀ H', Same H H' → Q (.str wd) H'
/-- how such an error stands to all that is asked of it -/
structure ErK_text (K : PySem.W.Frag) (CM cBadText cBadTree cBadArgs cBadHall cBadTurn cNoRow cMissing cBare cSpent cBroken cStealError : Addr) : Prop where
  kBadText : PySem.W.kitOne K (.ref CM) (.ref cBadText) = some true
  kBadTree : PySem.W.kitOne K (.ref CM) (.ref cBadTree) = some false
  kBadArgs : PySem.W.kitOne K (.ref CM) (.ref cBadArgs) = some false
  kBadHall : PySem.W.kitOne K (.ref CM) (.ref cBadHall) = some false
  kBadTurn : PySem.W.kitOne K (.ref CM) (.ref cBadTurn) = some false
  kNoRow : PySem.W.kitOne K (.ref CM) (.ref cNoRow) = some false
  kMissing : PySem.W.kitOne K (.ref CM) (.ref cMissing) = some false
  kBare : PySem.W.kitOne K (.ref CM) (.ref cBare) = some false
  kSpent : PySem.W.kitOne K (.ref CM) (.ref cSpent) = some false
  kBroken : PySem.W.kitOne K (.ref CM) (.ref cBroken) = some false
  kStealError : PySem.W.kitOne K (.ref CM) (.ref cStealError) = some true
  kValueError : PySem.W.kitOne K (.ref CM) (.type "ValueError") = some true
  kLookupError : PySem.W.kitOne K (.ref CM) (.type "LookupError") = some false
  kRuntimeError : PySem.W.kitOne K (.ref CM) (.type "RuntimeError") = some false
  kArithmeticError : PySem.W.kitOne K (.ref CM) (.type "ArithmeticError") = some false
  kKeyError : PySem.W.kitOne K (.ref CM) (.type "KeyError") = some false
  kIndexError : PySem.W.kitOne K (.ref CM) (.type "IndexError") = some false
  kZeroDivisionError : PySem.W.kitOne K (.ref CM) (.type "ZeroDivisionError") = some false
section
variable {P : Program} {w : World} {K : PySem.W.Frag} {mg : Str → Option Value} {base : Heap}
theorem ok_refusal_text {f CM cBadText cBadTree cBadArgs cBadHall cBadTurn cNoRow cMissing cBare cSpent cBroken cStealError : Addr} {fd : FuncData} (F : Fun K "_law_refusal" "_law_refusal" sRefusal f fd) (EC : ErC K CM) (EK : ErK_text K CM cBadText cBadTree cBadArgs cBadHall cBadTurn cNoRow cMissing cBare cSpent cBroken cStealError) (T : Bi mg) (gBadText : mg "BadText" = some (.ref cBadText)) (gBadTree : mg "BadTree" = some (.ref cBadTree)) (gBadArgs : mg "BadArgs" = some (.ref cBadArgs)) (gBadHall : mg "BadHall" = some (.ref cBadHall)) (gBadTurn : mg "BadTurn" = some (.ref cBadTurn)) (gNoRow : mg "NoRow" = some (.ref cNoRow)) (gMissing : mg "Missing" = some (.ref cMissing)) (gBare : mg "Bare" = some (.ref cBare)) (gSpent : mg "Spent" = some (.ref cSpent)) (gBroken : mg "Broken" = some (.ref cBroken)) (gStealError : mg "StealError" = some (.ref cStealError)) (q_ValueError : mg "ValueError" = none) (q_LookupError : mg "LookupError" = none) (q_RuntimeError : mg "RuntimeError" = none) (q_ArithmeticError : mg "ArithmeticError" = none) (q_KeyError : mg "KeyError" = none) (q_IndexError : mg "IndexError" = none) (q_ZeroDivisionError : mg "ZeroDivisionError" = none) : FnE P w K mg base 2 f fd ["_law_e"] (spRefus "text" CM) := by
  refine okE F scRefusal (fun a cls d vs H Q E h => ?_) (fun cdv A outer s H vs Q E p cls d hz hf hr h => ?_)
  · obtain ⟨dd, fs, _, _, rfl, _⟩ := h
    rfl
  obtain ⟨dd, fs, rfl, rfl, rfl, hd, q⟩ := h
  obtain ⟨a, oe⟩ := p
  refine ⟨_, (pss_cons (ps_set (i := 1) scRefusal.nd rfl (Or.inl rfl) (pe_lst (pa_cons (pe_callB (call_isP EC hz hf List.mem_cons_self) (by rfl) T.isinstance (by decide +kernel) (pa_cons (pv 0) (pa_cons (pe_glob (v := .ref cBadText) rfl gBadText rfl) pa_nil))) (pa_cons (pe_callB (call_isP EC hz hf List.mem_cons_self) (by rfl) T.isinstance (by decide +kernel) (pa_cons (pv 0) (pa_cons (pe_glob (v := .ref cBadTree) rfl gBadTree rfl) pa_nil))) (pa_cons (pe_callB (call_isP EC hz hf List.mem_cons_self) (by rfl) T.isinstance (by decide +kernel) (pa_cons (pv 0) (pa_cons (pe_glob (v := .ref cBadArgs) rfl gBadArgs rfl) pa_nil))) (pa_cons (pe_callB (call_isP EC hz hf List.mem_cons_self) (by rfl) T.isinstance (by decide +kernel) (pa_cons (pv 0) (pa_cons (pe_glob (v := .ref cBadHall) rfl gBadHall rfl) pa_nil))) pa_nil))))))
    (pss_cons (ps_set (i := 1) scRefusal.nd rfl (Or.inl rfl) (pe_op op_cat (pv 1) (pe_lst (pa_cons (pe_callB (call_isP EC hz hf List.mem_cons_self) (by rfl) T.isinstance (by decide +kernel) (pa_cons (pv 0) (pa_cons (pe_glob (v := .ref cBadTurn) rfl gBadTurn rfl) pa_nil))) (pa_cons (pe_callB (call_isP EC hz hf List.mem_cons_self) (by rfl) T.isinstance (by decide +kernel) (pa_cons (pv 0) (pa_cons (pe_glob (v := .ref cNoRow) rfl gNoRow rfl) pa_nil))) (pa_cons (pe_callB (call_isP EC hz hf List.mem_cons_self) (by rfl) T.isinstance (by decide +kernel) (pa_cons (pv 0) (pa_cons (pe_glob (v := .ref cMissing) rfl gMissing rfl) pa_nil))) (pa_cons (pe_callB (call_isP EC hz hf List.mem_cons_self) (by rfl) T.isinstance (by decide +kernel) (pa_cons (pv 0) (pa_cons (pe_glob (v := .ref cBare) rfl gBare rfl) pa_nil))) pa_nil)))))))
    (pss_cons (ps_set (i := 1) scRefusal.nd rfl (Or.inl rfl) (pe_op op_cat (pv 1) (pe_lst (pa_cons (pe_callB (call_isP EC hz hf List.mem_cons_self) (by rfl) T.isinstance (by decide +kernel) (pa_cons (pv 0) (pa_cons (pe_glob (v := .ref cSpent) rfl gSpent rfl) pa_nil))) (pa_cons (pe_callB (call_isP EC hz hf List.mem_cons_self) (by rfl) T.isinstance (by decide +kernel) (pa_cons (pv 0) (pa_cons (pe_glob (v := .ref cBroken) rfl gBroken rfl) pa_nil))) pa_nil)))))
    (pss_cons (ps_set (i := 2) scRefusal.nd rfl (Or.inl rfl) (pe_lst (pa_cons pe_str (pa_cons pe_str (pa_cons pe_str (pa_cons pe_str (pa_cons pe_str (pa_cons pe_str (pa_cons pe_str (pa_cons pe_str (pa_cons pe_str (pa_cons pe_str pa_nil))))))))))))
    (pss_cons (ps_if (pt_cmpR op_ne (pe_bm PySem.F.plainAttrs_list PySem.F.slot_list_count PySem.F.type_list_count mt_countF (pv 1) (pa_cons pe_bl pa_nil)) pe_int (nomark _))
      (pss_one (ps_ret pe_str))
      pss_nil)
    (pss_cons (ps_set (i := 3) scRefusal.nd rfl (Or.inl rfl) (pe_ix ix_list (pv 2) (pe_bm PySem.F.plainAttrs_list PySem.F.slot_list_index PySem.F.type_list_index mt_index (pv 1) (pa_cons pe_bl pa_nil)) (fun _ _ => rfl)))
    (pss_cons (ps_set (i := 4) scRefusal.nd rfl (Or.inl rfl) (pe_lst (pa_cons (pe_callB (call_isP EC hz hf List.mem_cons_self) (by rfl) T.isinstance (by decide +kernel) (pa_cons (pv 0) (pa_cons (pe_glob (v := .ref cStealError) rfl gStealError rfl) pa_nil))) (pa_cons (pe_callB (call_isP EC hz hf List.mem_cons_self) (by rfl) T.isinstance (by decide +kernel) (pa_cons (pv 0) (pa_cons (pe_bltn (v := .ty "ValueError") (by rfl) q_ValueError (by decide +kernel) rfl) pa_nil))) (pa_cons (pe_callB (call_isP EC hz hf List.mem_cons_self) (by rfl) T.isinstance (by decide +kernel) (pa_cons (pv 0) (pa_cons (pe_bltn (v := .ty "LookupError") (by rfl) q_LookupError (by decide +kernel) rfl) pa_nil))) pa_nil)))))
    (pss_cons (ps_set (i := 4) scRefusal.nd rfl (Or.inl rfl) (pe_op op_cat (pv 4) (pe_lst (pa_cons (pe_callB (call_isP EC hz hf List.mem_cons_self) (by rfl) T.isinstance (by decide +kernel) (pa_cons (pv 0) (pa_cons (pe_bltn (v := .ty "RuntimeError") (by rfl) q_RuntimeError (by decide +kernel) rfl) pa_nil))) (pa_cons (pe_callB (call_isP EC hz hf List.mem_cons_self) (by rfl) T.isinstance (by decide +kernel) (pa_cons (pv 0) (pa_cons (pe_bltn (v := .ty "ArithmeticError") (by rfl) q_ArithmeticError (by decide +kernel) rfl) pa_nil))) pa_nil)))))
    (pss_cons (ps_set (i := 5) scRefusal.nd rfl (Or.inl rfl) (pe_lst (pa_cons pe_bl (pa_cons pe_bl (pa_cons pe_bl (pa_cons pe_bl (pa_cons pe_bl pa_nil)))))))
    (pss_cons (ps_if (pt_cmpR op_in_seq (pv 3) (pe_lst (pa_cons pe_str (pa_cons pe_str (pa_cons pe_str (pa_cons pe_str pa_nil))))) rfl)
      (pss_one (ps_set (i := 5) scRefusal.nd rfl (Or.inl rfl) (pe_lst (pa_cons pe_bl (pa_cons pe_bl (pa_cons (pe_cmpR op_in_seq (pv 3) (pe_lst (pa_cons pe_str (pa_cons pe_str pa_nil))) rfl) (pa_cons (pe_cmpR op_eq (pv 3) pe_str (nomark _)) (pa_cons (pe_cmpR op_eq (pv 3) pe_str (nomark _)) pa_nil))))))))
      pss_nil)
    (pss_cons (ps_if (PW.pt (pw_or (pt_val (pe_callB (call_isP EC hz hf List.mem_cons_self) (by rfl) T.isinstance (by decide +kernel) (pa_cons (pv 0) (pa_cons (pe_bltn (v := .ty "KeyError") (by rfl) q_KeyError (by decide +kernel) rfl) pa_nil)))) (pw_or (pt_val (pe_callB (call_isP EC hz hf List.mem_cons_self) (by rfl) T.isinstance (by decide +kernel) (pa_cons (pv 0) (pa_cons (pe_bltn (v := .ty "IndexError") (by rfl) q_IndexError (by decide +kernel) rfl) pa_nil)))) (pw_or1 (pt_val (pe_callB (call_isP EC hz hf List.mem_cons_self) (by rfl) T.isinstance (by decide +kernel) (pa_cons (pv 0) (pa_cons (pe_bltn (v := .ty "ZeroDivisionError") (by rfl) q_ZeroDivisionError (by decide +kernel) rfl) pa_nil))))))))
      (pss_one (ps_ret pe_str))
      pss_nil)
    (pss_one (ps_ret (pe_ifExp (pt_cmpR (op_eqD (unH hr)) (pv 4) (pv 5) (nomark _)) (pv 3) pe_str)))))))))))))), ?_⟩
  have hs : sizeLine = 16777216 := by decide
  refine ⟨_, rfl, .ref cBadText, .ref cBadText, true, fs, rfl, (fun _ r => r), hd, EK.kBadText, _, rfl, .ref cBadTree, .ref cBadTree, false, fs, rfl, (fun _ r => r), hd, EK.kBadTree, _, rfl, .ref cBadArgs, .ref cBadArgs, false, fs, rfl, (fun _ r => r), hd, EK.kBadArgs, _, rfl, .ref cBadHall, .ref cBadHall, false, fs, rfl, (fun _ r => r), hd, EK.kBadHall, (by show 4 ≤ sizeLine; decide), fun l1 n1 => ?_⟩
  have s1 := same_new n1 (.lst [V.bl true, V.bl false, V.bl false, V.bl false])
  have h1 := upd_same (H := H) (a := l1) (o := .lst [V.bl true, V.bl false, V.bl false, V.bl false])
  generalize upd H l1 (.lst [V.bl true, V.bl false, V.bl false, V.bl false]) = H1 at s1 h1
  refine ⟨_, rfl, _, rfl, .ref cBadTurn, .ref cBadTurn, false, fs, rfl, (fun _ r => r), (s1 _ _ hd), EK.kBadTurn, _, rfl, .ref cNoRow, .ref cNoRow, false, fs, rfl, (fun _ r => r), (s1 _ _ hd), EK.kNoRow, _, rfl, .ref cMissing, .ref cMissing, false, fs, rfl, (fun _ r => r), (s1 _ _ hd), EK.kMissing, _, rfl, .ref cBare, .ref cBare, false, fs, rfl, (fun _ r => r), (s1 _ _ hd), EK.kBare, (by show 4 ≤ sizeLine; decide), fun l2 n2 => ?_⟩
  have s2 := same_new n2 (.lst [V.bl false, V.bl false, V.bl false, V.bl false])
  have h2 := upd_same (H := H1) (a := l2) (o := .lst [V.bl false, V.bl false, V.bl false, V.bl false])
  generalize upd H1 l2 (.lst [V.bl false, V.bl false, V.bl false, V.bl false]) = H2 at s2 h2
  refine ⟨l1, l2, _, _, rfl, rfl, s2 _ _ h1, h2, (by show 8 ≤ sizeLine; decide), fun l3 n3 => ?_⟩
  have s3 := same_new n3 (.lst ([V.bl true, V.bl false, V.bl false, V.bl false] ++ [V.bl false, V.bl false, V.bl false, V.bl false]))
  have h3 := upd_same (H := H2) (a := l3) (o := .lst ([V.bl true, V.bl false, V.bl false, V.bl false] ++ [V.bl false, V.bl false, V.bl false, V.bl false]))
  generalize upd H2 l3 (.lst ([V.bl true, V.bl false, V.bl false, V.bl false] ++ [V.bl false, V.bl false, V.bl false, V.bl false])) = H3 at s3 h3
  have s13 := s1.trans (s2.trans s3)
  refine ⟨_, rfl, _, rfl, .ref cSpent, .ref cSpent, false, fs, rfl, (fun _ r => r), (s13 _ _ hd), EK.kSpent, _, rfl, .ref cBroken, .ref cBroken, false, fs, rfl, (fun _ r => r), (s13 _ _ hd), EK.kBroken, (by show 2 ≤ sizeLine; decide), fun l4 n4 => ?_⟩
  have s4 := same_new n4 (.lst [V.bl false, V.bl false])
  have h4 := upd_same (H := H3) (a := l4) (o := .lst [V.bl false, V.bl false])
  generalize upd H3 l4 (.lst [V.bl false, V.bl false]) = H4 at s4 h4
  refine ⟨l3, l4, _, _, rfl, rfl, s4 _ _ h3, h4, (by show 10 ≤ sizeLine; decide), fun l5 n5 => ?_⟩
  have s5 := same_new n5 (.lst (([V.bl true, V.bl false, V.bl false, V.bl false] ++ [V.bl false, V.bl false, V.bl false, V.bl false]) ++ [V.bl false, V.bl false]))
  have h5 := upd_same (H := H4) (a := l5) (o := .lst (([V.bl true, V.bl false, V.bl false, V.bl false] ++ [V.bl false, V.bl false, V.bl false, V.bl false]) ++ [V.bl false, V.bl false]))
  generalize upd H4 l5 (.lst (([V.bl true, V.bl false, V.bl false, V.bl false] ++ [V.bl false, V.bl false, V.bl false, V.bl false]) ++ [V.bl false, V.bl false])) = H5 at s5 h5
  refine ⟨(by show 10 ≤ sizeLine; decide), fun l6 n6 => ?_⟩
  have s6 := same_new n6 (.lst [V.str "text", .str "tree", .str "args", .str "hall", .str "turn", .str "row", .str "missing", .str "bare", .str "spent", .str "broken"])
  have h6 := upd_same (H := H5) (a := l6) (o := .lst [V.str "text", .str "tree", .str "args", .str "hall", .str "turn", .str "row", .str "missing", .str "bare", .str "spent", .str "broken"])
  generalize upd H5 l6 (.lst [V.str "text", .str "tree", .str "args", .str "hall", .str "turn", .str "row", .str "missing", .str "bare", .str "spent", .str "broken"]) = H6 at s6 h6
  have k5 := s6 _ _ h5
  refine ⟨_, rfl, .inl ⟨rfl, _, SqL.of k5⟩, l5, _, _, rfl, rfl, SqL.of k5, rfl, rfl, rfl, _, rfl, ?_⟩
  refine iteNS (by rfl) ?_
  refine ⟨_, rfl, _, rfl, .inl ⟨rfl, _, SqL.of k5⟩, l5, _, _, 0, _, rfl, rfl, SqL.of k5, rfl, rfl, rfl, rfl, ?_, ?_⟩
  · intro m z hm e
    exact absurd hm (Nat.not_lt_zero _)
  refine ⟨l6, _, 0, _, rfl, rfl, SqL.of h6, atI_nat (j := 0) rfl, ?_⟩
  have s16 := s13.trans (s4.trans (s5.trans s6))
  refine ⟨_, rfl, .ref cStealError, .ref cStealError, true, fs, rfl, (fun _ r => r), (s16 _ _ hd), EK.kStealError, _, rfl, .ty "ValueError", .type "ValueError", true, fs, rfl, (fun _ r => r), (s16 _ _ hd), EK.kValueError, _, rfl, .ty "LookupError", .type "LookupError", false, fs, rfl, (fun _ r => r), (s16 _ _ hd), EK.kLookupError, (by show 3 ≤ sizeLine; decide), fun l7 n7 => ?_⟩
  have s7 := same_new n7 (.lst [V.bl true, V.bl true, V.bl false])
  have h7 := upd_same (H := H6) (a := l7) (o := .lst [V.bl true, V.bl true, V.bl false])
  generalize upd H6 l7 (.lst [V.bl true, V.bl true, V.bl false]) = H7 at s7 h7
  have s17 := s16.trans s7
  refine ⟨_, rfl, _, rfl, .ty "RuntimeError", .type "RuntimeError", false, fs, rfl, (fun _ r => r), (s17 _ _ hd), EK.kRuntimeError, _, rfl, .ty "ArithmeticError", .type "ArithmeticError", false, fs, rfl, (fun _ r => r), (s17 _ _ hd), EK.kArithmeticError, (by show 2 ≤ sizeLine; decide), fun l8 n8 => ?_⟩
  have s8 := same_new n8 (.lst [V.bl false, V.bl false])
  have h8 := upd_same (H := H7) (a := l8) (o := .lst [V.bl false, V.bl false])
  generalize upd H7 l8 (.lst [V.bl false, V.bl false]) = H8 at s8 h8
  refine ⟨l7, l8, _, _, rfl, rfl, s8 _ _ h7, h8, (by show 5 ≤ sizeLine; decide), fun l9 n9 => ?_⟩
  have s9 := same_new n9 (.lst ([V.bl true, V.bl true, V.bl false] ++ [V.bl false, V.bl false]))
  have h9 := upd_same (H := H8) (a := l9) (o := .lst ([V.bl true, V.bl true, V.bl false] ++ [V.bl false, V.bl false]))
  generalize upd H8 l9 (.lst ([V.bl true, V.bl true, V.bl false] ++ [V.bl false, V.bl false])) = H9 at s9 h9
  refine ⟨(by show 5 ≤ sizeLine; decide), fun lA nA => ?_⟩
  have sA := same_new nA (.lst [V.bl true, .bl true, .bl false, .bl false, .bl false])
  have hA := upd_same (H := H9) (a := lA) (o := .lst [V.bl true, .bl true, .bl false, .bl false, .bl false])
  generalize upd H9 lA (.lst [V.bl true, .bl true, .bl false, .bl false, .bl false]) = HA at sA hA
  refine ⟨_, rfl, (by show 4 ≤ sizeLine; decide), fun lB nB => ?_⟩
  have sB := same_new nB (.lst [V.str "missing", .str "bare", .str "spent", .str "broken"])
  have hB := upd_same (H := HA) (a := lB) (o := .lst [V.str "missing", .str "bare", .str "spent", .str "broken"])
  generalize upd HA lB (.lst [V.str "missing", .str "bare", .str "spent", .str "broken"]) = HB at sB hB
  refine ⟨lB, _, rfl, .inl (SqL.of hB), rfl, rfl, false, (by decide +kernel), ?_⟩
  have s1D := s17.trans (s8.trans (s9.trans (sA.trans sB)))
  have k9 := (sA.trans sB) _ _ h9
  have kA := sB _ _ hA
  refine ⟨_, rfl, .ty "KeyError", .type "KeyError", false, fs, rfl, (fun _ r => r), (s1D _ _ hd), EK.kKeyError, false, rfl, ?_⟩
  refine ⟨_, rfl, .ty "IndexError", .type "IndexError", false, fs, rfl, (fun _ r => r), (s1D _ _ hd), EK.kIndexError, false, rfl, ?_⟩
  refine ⟨_, rfl, .ty "ZeroDivisionError", .type "ZeroDivisionError", false, fs, rfl, (fun _ r => r), (s1D _ _ hd), EK.kZeroDivisionError, false, rfl, ?_⟩
  have dA : Dp K HB (.ref l9) (.list [.bool true, .bool true, .bool false, .bool false, .bool false]) := .lst (SqL.of k9) (.cons (.bl _) (.cons (.bl _) (.cons (.bl _) (.cons (.bl _) (.cons (.bl _) .nil)))))
  have dD : Dp K HB (.ref lA) (.list [.bool true, .bool true, .bool false, .bool false, .bool false]) := .lst (SqL.of kA) (.cons (.bl _) (.cons (.bl _) (.cons (.bl _) (.cons (.bl _) (.cons (.bl _) .nil)))))
  refine ⟨_, rfl, _, rfl, _, _, dA, dD, by decide +kernel, by decide +kernel, true, (by decide +kernel), ?_⟩
  exact ⟨_, rfl, q HB s1D⟩
end
end SH

set_option Elab.async false
set_option linter.all false
set_option maxRecDepth 100000
namespace SH
open PySem L2
abbrev sText : Stmt := topS 54
theorem scText : FnScope ["_law_tree_here", "_law_level", "_law_one", "_law_first", "_law_other", "_law_second"] ["_law_tree_here"] (defScope sText) := ⟨rfl, rfl, rfl, by decide +kernel, rfl, by decide +kernel, by decide +kernel⟩
def spText (n : Nat) : Sp := fun vs H Q _ => ∃ (v : V) (e : Ex), vs = [v] ∧ TrIn H e v ∧ Ex.ok n e ∧
  ∀ (p : Addr) (H' : Hp), Same H H' → H p = none → H' p = some (.tup [.str e.txt, .int e.lw]) → Q (.ref p) H'
theorem lenB_le : ∀ {n m : Nat}, n ≤ m → lenB n ≤ lenB m
  | 0, 0, _ => Nat.le_refl _
  | 0, m + 1, _ => by
    have := lenB_le (n := 0) (m := m) (Nat.zero_le _)
    show lenB 0 ≤ 2 * lenB m + 2000
    omega
  | n + 1, m + 1, h => by
    have := lenB_le (n := n) (m := m) (by omega)
    show 2 * lenB n + 2000 ≤ 2 * lenB m + 2000
    omega
section
variable {P : Program} {w : World} {K : PySem.W.Frag} {mg : Str → Option Value} {base : Heap}
theorem lvs (g : Sg) : 1 ≤ g.lv ∧ g.lv ≤ 3 := by cases g <;> decide
theorem left_same (g : Sg) (l : Ex) : (decide (l.lw < g.lv) || decide (l.lw = 1)) = lB g l := by
  have := lvs g
  unfold lB
  cases l with
  | num i => show (decide ((9 : Int) < g.lv) || decide ((9 : Int) = 1)) = (decide ((4 : Int) < g.lv) || decide ((4 : Int) = 1)); rw [decide_eq_false (by omega : ¬ (9 : Int) < g.lv), decide_eq_false (by omega : ¬ (4 : Int) < g.lv)]; rfl
  | nam i => show (decide ((9 : Int) < g.lv) || decide ((9 : Int) = 1)) = (decide ((4 : Int) < g.lv) || decide ((4 : Int) = 1)); rw [decide_eq_false (by omega : ¬ (9 : Int) < g.lv), decide_eq_false (by omega : ¬ (4 : Int) < g.lv)]; rfl
  | op h a b => rfl
theorem right_same (g : Sg) (l : Ex) : (decide (l.lw ≤ g.lv) || decide (l.lw = 1)) = rB g l := by
  have := lvs g
  unfold rB
  cases l with
  | num i => show (decide ((9 : Int) ≤ g.lv) || decide ((9 : Int) = 1)) = decide ((4 : Int) ≤ g.lv); rw [decide_eq_false (by omega : ¬ (9 : Int) ≤ g.lv), decide_eq_false (by omega : ¬ (4 : Int) ≤ g.lv)]; rfl
  | nam i => show (decide ((9 : Int) ≤ g.lv) || decide ((9 : Int) = 1)) = decide ((4 : Int) ≤ g.lv); rw [decide_eq_false (by omega : ¬ (9 : Int) ≤ g.lv), decide_eq_false (by omega : ¬ (4 : Int) ≤ g.lv)]; rfl
  | op h a b =>
    show (decide (h.lv ≤ g.lv) || decide (h.lv = 1)) = decide (h.lv ≤ g.lv)
    by_cases e : h.lv = 1
    · rw [decide_eq_true (by omega : h.lv ≤ g.lv)]; rfl
    · rw [decide_eq_false e, Bool.or_false]
theorem or_ite {c d : Bool} {A B : Prop} (h1 : (c || d) = true → A) (h2 : (c || d) = false → B) : if c = true then A else (if d = true then A else B) := by
  cases c <;> cases d <;> simp_all
def lvD : List (Key × V) := [(.inr "*", .int 3), (.inr "+", .int 2), (.inr "-", .int 2), (.inr "<", .int 1), (.inr "==", .int 1)]
theorem lvD_at (g : Sg) : valV (mergeK [] lvD) (Sum.inr g.txt) = some (.int g.lv) := by cases g <;> decide +kernel
theorem ok_text {n k : Nat} {f : Addr} {fd : FuncData} (F : Fun K "_law_text" "_law_text" sText f fd) (TX : Fk P w K mg base k "_law_text" f fd ["_law_tree_here"] (spText n)) (T : Bi mg) (hn : lenB n ≤ 1000000) : FnOk P w K mg base CX0 (k + 1) f fd ["_law_tree_here"] (spText (n + 1)) := by
  refine F.ok scText (fun vs H Q E h => ?_) (fun cdv A outer s H vs Q E hr h => ?_)
  · obtain ⟨v, e, rfl, _⟩ := h
    rfl
  obtain ⟨v, e, rfl, hT, ho, q⟩ := h
  refine ⟨_, (pss_cons (ps_if (pt_cmpR op_in_seq (pe_ix ix_tup (pv 0) pe_int (fun _ _ => rfl)) (pe_lst (pa_cons pe_str (pa_cons pe_str pa_nil))) rfl)
      (pss_one (ps_ret (pe_tup (pa_cons (pe_callTy (CallR.or call_str_int SkE.call_str_str) (by rfl) T.str (by decide +kernel) (pa_cons (pe_ix ix_tup (pv 0) pe_int (fun _ _ => rfl)) pa_nil)) (pa_cons pe_int pa_nil)))))
      pss_nil)
    (pss_cons (ps_set (i := 1) scText.nd rfl (Or.inl rfl) (pe_dget (hu_of hr) (pe_disp (pps_cons pe_str pe_int (pps_cons pe_str pe_int (pps_cons pe_str pe_int (pps_cons pe_str pe_int (pps_cons pe_str pe_int pps_nil))))) (by rfl) (by rfl) (fun z => by cases z) (by decide)) (pe_ix ix_tup (pv 0) pe_int (fun _ _ => rfl)) (fun _ _ => rfl)))
    (pss_cons (ps_asg (pe_call TX.G hr (by rfl) TX.m TX.k TX.b .nil pass0 (pa_cons (pe_ix ix_tup (pv 0) pe_int (fun _ _ => rfl)) pa_nil)) (pg_tup rfl (pgs_cons (pg_name (i := 2) scText.nd rfl (.inl rfl)) (pgs_cons (pg_name (i := 3) scText.nd rfl (.inl rfl)) pgs_nil))))
    (pss_cons (ps_asg (pe_call TX.G hr (by rfl) TX.m TX.k TX.b .nil pass0 (pa_cons (pe_ix ix_tup (pv 0) pe_int (fun _ _ => rfl)) pa_nil)) (pg_tup rfl (pgs_cons (pg_name (i := 4) scText.nd rfl (.inl rfl)) (pgs_cons (pg_name (i := 5) scText.nd rfl (.inl rfl)) pgs_nil))))
    (C8.pss_cut (ps_if (PW.pt (pw_or (pt_cmpR op_lt (pv 3) (pv 1) (nomark _)) (pw_or1 (pt_cmpR op_eq (pv 3) pe_int (nomark _)))))
      (pss_one (ps_set (i := 2) scText.nd rfl (Or.inl rfl) (pe_op op_add_str (pe_op op_add_str pe_str (pv 2)) pe_str)))
      pss_nil)
    (C8.pss_cut (ps_if (PW.pt (pw_or (pt_cmpR op_le (pv 5) (pv 1) (nomark _)) (pw_or1 (pt_cmpR op_eq (pv 5) pe_int (nomark _)))))
      (pss_one (ps_set (i := 4) scText.nd rfl (Or.inl rfl) (pe_op op_add_str (pe_op op_add_str pe_str (pv 4)) pe_str)))
      pss_nil)
    (pss_one (ps_ret (pe_tup (pa_cons (pe_op op_add_str (pe_op op_add_str (pe_op op_add_str (pe_op op_add_str (pv 2) pe_str) (pe_ix ix_tup (pv 0) pe_int (fun _ _ => rfl))) pe_str) (pv 4)) (pa_cons (pv 1) pa_nil))))))))))), ?_⟩
  have hs : sizeLine = 16777216 := by decide
  cases e with
  | num i =>
    obtain ⟨a, rfl, ha⟩ := hT
    refine ⟨_, rfl, a, _, 0, _, rfl, rfl, SqT.of ha, atI_nat rfl, (by show 2 ≤ sizeLine; decide), fun l hl => ?_⟩
    have sl := same_new hl (.lst [.str "number", .str "name"])
    refine ⟨l, _, rfl, .inl (SqL.of upd_same), rfl, rfl, true, rfl, ?_⟩
    refine ⟨_, rfl, a, _, 1, _, rfl, rfl, SqT.of (sl _ _ ha), atI_nat (j := 1) rfl, .inl ⟨i, rfl, ho, ?_⟩⟩
    refine ⟨(by show 2 ≤ sizeLine; decide), fun p hp => ?_⟩
    exact q p _ (sl.trans (same_new hp _)) (sl.free hp) upd_same
  | nam z =>
    obtain ⟨a, rfl, ha⟩ := hT
    refine ⟨_, rfl, a, _, 0, _, rfl, rfl, SqT.of ha, atI_nat rfl, (by show 2 ≤ sizeLine; decide), fun l hl => ?_⟩
    have sl := same_new hl (.lst [.str "number", .str "name"])
    refine ⟨l, _, rfl, .inl (SqL.of upd_same), rfl, rfl, true, (by decide +kernel), ?_⟩
    refine ⟨_, rfl, a, _, 1, _, rfl, rfl, SqT.of (sl _ _ ha), atI_nat (j := 1) rfl, .inr ⟨z, rfl, ?_⟩⟩
    refine ⟨(by show 2 ≤ sizeLine; decide), fun p hp => ?_⟩
    exact q p _ (sl.trans (same_new hp _)) (sl.free hp) upd_same
  | op g l r =>
    obtain ⟨a, x, y, rfl, ha, hl, hr'⟩ := hT
    obtain ⟨o1, o2⟩ := ho
    have l1 := Ex.len n l o1
    have l2 := Ex.len n r o2
    have q1 := br_len (lB g l) l.txt
    have q2 := br_len (rB g r) r.txt
    have q3 := g.len
    have hb : (" " : Str).length = 1 := by decide +kernel
    have h1 : ("(" : Str).length = 1 := by decide +kernel
    have h2 : (")" : Str).length = 1 := by decide +kernel
    refine ⟨_, rfl, a, _, 0, _, rfl, rfl, SqT.of ha, atI_nat rfl, (by show 2 ≤ sizeLine; decide), fun l0 hl0 => ?_⟩
    have s0 := same_new hl0 (.lst [.str "number", .str "name"])
    have ein : inV (.str g.txt) [.str "number", .str "name"] = false := by cases g <;> decide +kernel
    refine ⟨l0, _, rfl, .inl (SqL.of upd_same), rfl, rfl, _, rfl, ?_⟩
    rw [if_neg Bool.false_ne_true, ein]
    refine iteF ?_
    generalize upd H l0 (.lst [.str "number", .str "name"]) = H0 at s0
    have ha0 := s0 _ _ ha
    -- the dict of levels
    refine fun d hd => ⟨upd_same, lvD, rfl, by decide, ?_⟩
    have e1 : upd (upd H0 d (.dK [])) d (.dK (mergeK [] lvD)) = upd H0 d (.dK (mergeK [] lvD)) := by
      funext b
      by_cases hb : b = d
      · subst hb; rw [upd_same, upd_same]
      · rw [upd_ne hb, upd_ne hb, upd_ne hb]
    rw [e1]
    have s1 := same_new hd (.dK (mergeK [] lvD))
    have hd1 : (upd H0 d (.dK (mergeK [] lvD))) d = some (.dK (mergeK [] lvD)) := upd_same
    generalize upd H0 d (.dK (mergeK [] lvD)) = H1 at s1 hd1
    have ha1 := s1 _ _ ha0
    have gt : DGet H1 d (.str g.txt) (some (.int g.lv)) := by
      have := DGet.k (k := Sum.inr g.txt) hd1
      rwa [lvD_at] at this
    refine ⟨_, rfl, a, _, 0, _, rfl, rfl, SqT.of ha1, atI_nat rfl, d, _, rfl, gt, ?_⟩
    have s01 := s0.trans s1
    refine ⟨_, rfl, a, _, 1, _, rfl, rfl, SqT.of ha1, atI_nat (j := 1) rfl, x, l, rfl, hl.same s01, o1, fun p1 H2 s2 np1 hp1 => ?_⟩
    refine ⟨p1, _, rfl, SqT.of hp1, rfl, _, _, rfl, _, _, rfl, rfl, ?_⟩
    have ha2 := s2 _ _ ha1
    refine ⟨_, rfl, a, _, 2, _, rfl, rfl, SqT.of ha2, atI_nat (j := 2) rfl, y, r, rfl, (hr'.same s01).same s2, o2, fun p2 H3 s3 np2 hp2 => ?_⟩
    refine ⟨p2, _, rfl, SqT.of hp2, rfl, _, _, rfl, _, _, rfl, rfl, ?_⟩
    have ha3 := s3 _ _ ha2
    have s03 := s01.trans (s2.trans s3)
    refine ⟨fun σ' H' => σ' = [some (.ref a), some (.int g.lv), some (.str (br (lB g l) l.txt)), some (.int l.lw), some (.str r.txt), some (.int r.lw)] ∧ H3 = H', ?_, ?_⟩
    · refine ⟨_, rfl, _, rfl, _, _, rfl, rfl, _, rfl, ?_⟩
      have ls := left_same g l
      have alt : ∀ X Y : Prop, True := fun _ _ => trivial
      refine ite2 (fun c => ⟨_, rfl, _, _, rfl, rfl, by omega, _, _, rfl, rfl, by rw [app_len]; omega, ?_, rfl⟩) (fun c => ⟨_, rfl, rfl, _, rfl, ite2 (fun c2 => ⟨_, rfl, _, _, rfl, rfl, by omega, _, _, rfl, rfl, by rw [app_len]; omega, ?_, rfl⟩) (fun c2 => ⟨?_, rfl⟩)⟩)
      · have eb : lB g l = true := by rw [← ls, c]; rfl
        rw [eb]; rfl
      · have c2' : l.lw = 1 := V.int.inj (of_decide_eq_true c2)
        have eb : lB g l = true := by rw [← ls, decide_eq_true c2', Bool.or_true]
        rw [eb]; rfl
      · have c2' : ¬ l.lw = 1 := fun z => (of_decide_eq_false (Bool.eq_false_iff.mpr c2)) (by rw [z])
        have eb : lB g l = false := by rw [← ls, Bool.eq_false_iff.mpr c, decide_eq_false c2']; rfl
        rw [eb]; rfl
    · rintro σ' H' ⟨rfl, rfl⟩
      refine ⟨fun σ' H' => σ' = [some (.ref a), some (.int g.lv), some (.str (br (lB g l) l.txt)), some (.int l.lw), some (.str (br (rB g r) r.txt)), some (.int r.lw)] ∧ H3 = H', ?_, ?_⟩
      · refine ⟨_, rfl, _, rfl, _, _, rfl, rfl, _, rfl, ?_⟩
        have ls := right_same g r
        refine ite2 (fun c => ⟨_, rfl, _, _, rfl, rfl, by omega, _, _, rfl, rfl, by rw [app_len]; omega, ?_, rfl⟩) (fun c => ⟨_, rfl, rfl, _, rfl, ite2 (fun c2 => ⟨_, rfl, _, _, rfl, rfl, by omega, _, _, rfl, rfl, by rw [app_len]; omega, ?_, rfl⟩) (fun c2 => ⟨?_, rfl⟩)⟩)
        · have eb : rB g r = true := by rw [← ls, c]; rfl
          rw [eb]; rfl
        · have c2' : r.lw = 1 := V.int.inj (of_decide_eq_true c2)
          have eb : rB g r = true := by rw [← ls, decide_eq_true c2', Bool.or_true]
          rw [eb]; rfl
        · have c2' : ¬ r.lw = 1 := fun z => (of_decide_eq_false (Bool.eq_false_iff.mpr c2)) (by rw [z])
          have eb : rB g r = false := by rw [← ls, Bool.eq_false_iff.mpr c, decide_eq_false c2']; rfl
          rw [eb]; rfl
      · rintro σ' H' ⟨rfl, rfl⟩
        refine ⟨_, rfl, _, _, rfl, rfl, by omega, _, rfl, a, _, 0, _, rfl, rfl, SqT.of ha3, atI_nat rfl, _, _, rfl, rfl, by rw [app_len]; omega, _, _, rfl, rfl, by rw [app_len, app_len]; omega, _, rfl, _, _, rfl, rfl, by rw [app_len, app_len, app_len]; omega, ?_⟩
        refine ⟨_, rfl, (by show 2 ≤ sizeLine; decide), fun p hp => ?_⟩
        exact q p _ (s03.trans (same_new hp _)) (s03.free hp) upd_same
theorem text_none {f : Addr} {fd : FuncData} : FnOk P w K mg base CX0 0 f fd ["_law_tree_here"] (spText 0) := by
  have no : ∀ vs H Q E, ¬ spText 0 vs H Q E := fun vs H Q E h => by
    obtain ⟨_, _, _, _, h1, _⟩ := h
    exact h1
  exact ⟨fun vs H Q E h => absurd h (no vs H Q E), fun A outer s H args us vs Q E _ _ _ _ h => absurd h (no vs H Q E)⟩
theorem texts {f : Addr} {fd : FuncData} (F : Fun K "_law_text" "_law_text" sText f fd) (m : mg "_law_text" = some (.ref f)) (bd : Binds K fd ["_law_tree_here"] []) (T : Bi mg) : ∀ n : Nat, n ≤ 7 → FnOk P w K mg base CX0 n f fd ["_law_tree_here"] (spText n)
  | 0, _ => text_none
  | n + 1, hn => ok_text F ⟨texts F m bd T n (by omega), m, F.kp, bd⟩ T (Nat.le_trans (lenB_le (m := 7) (by omega)) (by decide))
end
end SH

set_option Elab.async false
set_option linter.all false
set_option maxRecDepth 100000
namespace SH
open PySem L2
abbrev sBrk : Stmt := topS 62
abbrev sWn : Stmt := topS 63
theorem scBrk : FnScope ["_law_bag_here", "_law_tree_here", "_law_nested", "_law_text_here", "_law_level", "_law_more", "_law_found", "_law_own", "_law_first", "_law_second", "_law_inner"] ["_law_bag_here", "_law_tree_here", "_law_nested"] (defScope sBrk) := ⟨rfl, rfl, rfl, by decide +kernel, rfl, by decide +kernel, by decide +kernel⟩
theorem scWn : FnScope ["_law_bag_here", "_law_tree_here", "_law_nested", "_law_wanted"] ["_law_bag_here", "_law_tree_here", "_law_nested", "_law_wanted"] (defScope sWn) := ⟨rfl, rfl, rfl, by decide +kernel, rfl, by decide +kernel, by decide +kernel⟩
theorem Ex.fine_l {g : Sg} {l r : Ex} (h : Ex.fine 6 (.op g l r)) : Ex.fine 6 l := Ex.fine_up (n := 5) (by decide) h.1
theorem Ex.fine_r {g : Sg} {l r : Ex} (h : Ex.fine 6 (.op g l r)) : Ex.fine 6 r := Ex.fine_up (n := 5) (by decide) h.2
def Ex.nds : Ex → Nat
  | .num _ => 1
  | .nam _ => 1
  | .op _ l r => 1 + l.nds + r.nds
def Ex.dp8 : Ex → Nat
  | .num _ => 0
  | .nam _ => 0
  | .op _ l r => 1 + max l.dp8 r.dp8
/-- a new list of texts, read as that tree -/
structure Tk8 (H H' : Hp) (b p : Addr) (k f : Nat) (L : Int) (e : Ex) (c : Nat) (ts : List Tn) : Prop where
  at_ : H' p = some (.lst (ts.map fun t => V.str t.txt))
  ne : p ≠ b
  bag : Bag H' b k
  but : But b H H'
  pr : Pr f L e ts
  tok : ∀ t ∈ ts, TOk t
  len : ts.length + c ≤ 5 * e.nds
def spBrk (d : Nat) : Sp := fun vs H Q _ => ∃ (b : Addr) (v : V) (n k : Nat) (e : Ex), vs = [.ref b, v, .int (n : Nat)] ∧ TrIn H e v ∧ e.dp8 < d ∧ Ex.fine 6 e ∧ Bag H b (k + e.nds) ∧
  ∀ p ts H', Tk8 H H' b p k (e.dp8 + (2 - n)) e.lv e 2 ts → Q (.ref p) H'
/-- the least level that a place wants -/
def wl (w : Bool) (e : Ex) : Int := if w = true then 4 else e.lv
def wf (w : Bool) (e : Ex) (n : Nat) : Nat := if w = true then e.dp8 + (2 - (n + 1)) + 1 else e.dp8 + (2 - n)
def spWn (d : Nat) : Sp := fun vs H Q _ => ∃ (b : Addr) (v : V) (n k : Nat) (w : Bool) (e : Ex), vs = [.ref b, v, .int (n : Nat), .bl w] ∧ TrIn H e v ∧ e.dp8 < d ∧ Ex.fine 6 e ∧ Bag H b (k + e.nds) ∧
  ∀ p ts H', Tk8 H H' b p k (wf w e n) (wl w e) e 0 ts → Q (.ref p) H'
theorem nds_small : ∀ {n : Nat} {e : Ex}, Ex.fine n e → e.nds + 1 ≤ 2 ^ n
  | 0, _, h => h.elim
  | n + 1, .num _, _ => by show 1 + 1 ≤ 2 ^ (n + 1); rw [Nat.pow_succ]; have := Nat.one_le_two_pow (n := n); omega
  | n + 1, .nam _, _ => by show 1 + 1 ≤ 2 ^ (n + 1); rw [Nat.pow_succ]; have := Nat.one_le_two_pow (n := n); omega
  | n + 1, .op _ l r, h => by
    have h1 := nds_small h.1
    have h2 := nds_small h.2
    show 1 + l.nds + r.nds + 1 ≤ 2 ^ (n + 1)
    rw [Nat.pow_succ]
    omega
theorem bag_not {H : Hp} {b p : Addr} {k : Nat} {t : Str} {r : List V} (hb : Bag H b k) (h : H p = some (.lst (.str t :: r))) : p ≠ b := fun z => by
  obtain ⟨x, y, w, hx, _⟩ := hb
  rw [z, hx] at h
  cases h
section
variable {P : Program} {w : World} {K : PySem.W.Frag} {mg : Str → Option Value} {base : Heap}
theorem ok_wn {d : Nat} {f g : Addr} {fd gd : FuncData} (F : Fun K "_law_within" "_law_within" sWn f fd) (BK : Fk P w K mg base (8 + 2 * d) "_law_bracketed" g gd ["_law_bag_here", "_law_tree_here", "_law_nested"] (spBrk d)) : FnOk P w K mg base CX0 (9 + 2 * d) f fd ["_law_bag_here", "_law_tree_here", "_law_nested", "_law_wanted"] (spWn d) := by
  have hlv : 9 + 2 * d = 8 + 2 * d + 1 := by omega
  rw [hlv]
  refine F.ok scWn (fun vs H Q E h => ?_) (fun cdv A outer s H vs Q E hr h => ?_)
  · obtain ⟨b, v, n, k, w, e, rfl, _⟩ := h
    rfl
  obtain ⟨b, v, n, k, w, e, rfl, hT, hd, hf, hB, q⟩ := h
  refine ⟨_, (pss_cons (ps_if (pt_not (pt_val (pv 3)))
      (pss_one (ps_ret (pe_call BK.G (hr.mono (by omega)) (by rfl) BK.m BK.k BK.b .nil pass0 (pa_cons (pv 0) (pa_cons (pv 1) (pa_cons (pv 2) pa_nil))))))
      pss_nil)
    (pss_one (ps_ret (pe_op op_cat (pe_op op_cat (pe_lst (pa_cons pe_str pa_nil)) (pe_call BK.G (hr.mono (by omega)) (by rfl) BK.m BK.k BK.b .nil pass0 (pa_cons (pv 0) (pa_cons (pv 1) (pa_cons (pe_op op_add (pv 2) pe_int) pa_nil))))) (pe_lst (pa_cons pe_str pa_nil)))))), ?_⟩
  have hs : sizeLine = 16777216 := by decide
  have hnd := nds_small hf
  cases w with
  | false =>
    refine ⟨_, rfl, _, rfl, ?_⟩
    refine iteT ?_
    exact ⟨_, rfl, _, rfl, _, rfl, b, v, n, k, e, rfl, hT, hd, hf, hB, fun p ts H' W => q p ts H' ⟨W.at_, W.ne, W.bag, W.but, W.pr, W.tok, by have := W.len; omega⟩⟩
  | true =>
    refine ⟨_, rfl, _, rfl, ?_⟩
    refine iteF ?_
    refine ⟨(by show 1 ≤ sizeLine; decide), fun p1 np1 => ?_⟩
    have S1 := same_new np1 (.lst [.str "("])
    have h1 : (upd H p1 (.lst [.str "("])) p1 = some (.lst [.str "("]) := upd_same
    have hB1 := hB.same S1
    have hT1 := hT.same S1
    generalize upd H p1 (.lst [.str "("]) = H1 at S1 h1 hB1 hT1
    refine ⟨_, rfl, _, rfl, _, rfl, _, _, rfl, rfl, b, v, n + 1, k, e, rfl, hT1, hd, hf, hB1, fun p2 ts H2 W => ?_⟩
    have n1b := bag_not hB1 h1
    have h12 := W.but _ _ n1b h1
    refine ⟨p1, p2, _, _, rfl, rfl, h12, W.at_, ?_, fun p3 np3 => ?_⟩
    · rw [List.length_map]; have := W.len; show 1 + ts.length ≤ sizeLine; omega
    refine ⟨(by show 1 ≤ sizeLine; decide), fun p4 np4 => ?_⟩
    have S3 := same_new np3 (.lst ([V.str "("] ++ ts.map fun t => V.str t.txt))
    have S4 := same_new np4 (.lst [.str ")"])
    have h3 : (upd H2 p3 (.lst ([V.str "("] ++ ts.map fun t => V.str t.txt))) p3 = some (.lst ([V.str "("] ++ ts.map fun t => V.str t.txt)) := upd_same
    refine ⟨p3, p4, _, _, rfl, rfl, S4 _ _ h3, upd_same, ?_, fun p5 np5 => ?_⟩
    · rw [List.length_append, List.length_map]; have := W.len; show 1 + ts.length + 1 ≤ sizeLine; omega
    have S5 := same_new np5 (.lst (([V.str "("] ++ ts.map fun t => V.str t.txt) ++ [V.str ")"]))
    have S35 := S3.trans (S4.trans S5)
    have el : ([V.str "("] ++ ts.map fun t => V.str t.txt) ++ [V.str ")"] = (Tn.lp :: (ts ++ [Tn.rp])).map fun t => V.str t.txt := by
      rw [List.map_cons, List.map_append]; rfl
    refine q p5 (Tn.lp :: (ts ++ [Tn.rp])) _ ⟨by rw [upd_same, el], ?_, W.bag.same S35, (But.of S1).trans (W.but.trans (But.of S35)), ?_, fun t ht => ?_, ?_⟩
    · intro z
      obtain ⟨ys, hy⟩ := W.bag.lst
      rw [z] at np5
      rw [S4 _ _ (S3 _ _ hy)] at np5
      cases np5
    · have hlv := e.lv_pos
      exact .brk (W.pr.to (by decide) (by omega) (by omega))
    · rcases List.mem_cons.mp ht with rfl | ht
      · exact ⟨trivial, fun s z => by cases z⟩
      · rcases List.mem_append.mp ht with ht | ht
        · exact W.tok t ht
        · rw [List.mem_singleton.mp ht]; exact ⟨trivial, fun s z => by cases z⟩
    · rw [List.length_cons, List.length_append]; have := W.len; show ts.length + 1 + 1 + 0 ≤ _; omega
theorem op_pr {g : Sg} {l r : Ex} {n : Nat} {t1 t2 : List Tn} (h1 : Pr (wf (lB g l) l n) (wl (lB g l) l) l t1) (h2 : Pr (wf (rB g r) r n) (wl (rB g r) r) r t2) : Pr ((Ex.op g l r).dp8 + (2 - n)) (Ex.op g l r).lv (.op g l r) (t1 ++ Tn.sg g :: t2) := by
  have gl := g.lv_pos
  have cg : 2 ≤ cap g ∧ cap g ≤ 3 ∧ g.lv ≤ cap g := by unfold cap; split <;> omega
  have hd : (Ex.op g l r).dp8 = 1 + max l.dp8 r.dp8 := rfl
  refine Pr.op (g := g) ?_ ?_
  · cases c : lB g l with
    | true =>
      rw [c] at h1
      have h1' : Pr (l.dp8 + (2 - (n + 1)) + 1) 4 l t1 := h1
      exact (h1'.mono (by omega)).to (by omega) (by omega) (by decide)
    | false =>
      rw [c] at h1
      have h1' : Pr (l.dp8 + (2 - n)) l.lv l t1 := h1
      obtain ⟨a1, a2⟩ := lB_f c
      have := l.lv_pos
      refine (h1'.mono (by omega)).to (by omega) ?_ (by omega)
      unfold cap
      split <;> omega
  · cases c : rB g r with
    | true =>
      rw [c] at h2
      have h2' : Pr (r.dp8 + (2 - (n + 1)) + 1) 4 r t2 := h2
      exact (h2'.mono (by omega)).to (by omega) (by omega) (by decide)
    | false =>
      rw [c] at h2
      have h2' : Pr (r.dp8 + (2 - n)) r.lv r t2 := h2
      have a1 := rB_f c
      have := r.lv_pos
      exact (h2'.mono (by omega)).to (by omega) (by omega) (by omega)
theorem leaf_head {e : Ex} {H : Hp} {v : V} (h : TrIn H e v) : ∃ a xs, v = .ref a ∧ H a = some (.tup xs) ∧ xs[0]? = some (.str e.head) := h.tup
theorem ok_brk {d : Nat} {f g h i : Addr} {fd gd hd idd : FuncData} (F : Fun K "_law_bracketed" "_law_bracketed" sBrk f fd) (WN : Fk P w K mg base (9 + 2 * d) "_law_within" g gd ["_law_bag_here", "_law_tree_here", "_law_nested", "_law_wanted"] (spWn d)) (TX : Fk P w K mg base 6 "_law_text" h hd ["_law_tree_here"] (spText 6)) (TK : Fk P w K mg base 1 "_law_take" i idd ["_law_bag_here", "_law_many"] spTake) (T : Bi mg) :
    FnOk P w K mg base CX0 (8 + 2 * (d + 1)) f fd ["_law_bag_here", "_law_tree_here", "_law_nested"] (spBrk (d + 1)) := by
  have hlv : 8 + 2 * (d + 1) = 9 + 2 * d + 1 := by omega
  rw [hlv]
  refine F.ok scBrk (fun vs H Q E h => ?_) (fun cdv A outer s H vs Q E hr h => ?_)
  · obtain ⟨b, v, n, k, e, rfl, _⟩ := h
    rfl
  obtain ⟨b, v, n, k, e, rfl, hT, hd', hf, hB, q⟩ := h
  refine ⟨_, (pss_cons (ps_asg (pe_call TX.G (hr.mono (by omega)) (by rfl) TX.m TX.k TX.b .nil pass0 (pa_cons (pv 1) pa_nil)) (pg_tup rfl (pgs_cons (pg_name (i := 3) scBrk.nd rfl (.inl rfl)) (pgs_cons (pg_name (i := 4) scBrk.nd rfl (.inl rfl)) pgs_nil))))
    (C8.pss_cut (ps_set (i := 5) scBrk.nd rfl (Or.inl rfl) (pe_and (pe_cmpR op_lt (pv 2) pe_int (nomark _)) (pe_one (pe_cmpR op_eq (pe_call TK.G (hr.mono (by omega)) (by rfl) TK.m TK.k TK.b .nil pass0 (pa_cons (pv 0) (pa_cons pe_int pa_nil))) pe_int (nomark _)))))
    (C8.pss_cut (ps_if (pt_cmpR op_in_seq (pe_ix ix_tup (pv 1) pe_int (fun _ _ => rfl)) (pe_lst (pa_cons pe_str (pa_cons pe_str pa_nil))) rfl)
      (pss_one (ps_set (i := 6) scBrk.nd rfl (Or.inl rfl) (pe_lst (pa_cons (pv 3) pa_nil))))
      (pss_cons (ps_set (i := 7) scBrk.nd rfl (Or.inl rfl) (pe_dget (hu_of hr) (pe_disp (pps_cons pe_str pe_int (pps_cons pe_str pe_int (pps_cons pe_str pe_int (pps_cons pe_str pe_int (pps_cons pe_str pe_int pps_nil))))) (by rfl) (by rfl) (fun z => by cases z) (by decide)) (pe_ix ix_tup (pv 1) pe_int (fun _ _ => rfl)) (fun _ _ => rfl)))
    (pss_cons (ps_par (i := 8) (j := 9) rfl scBrk.nd rfl rfl (by decide) rfl rfl (pa_cons (pe_ix ix_tup (pe_call TX.G (hr.mono (by omega)) (by rfl) TX.m TX.k TX.b .nil pass0 (pa_cons (pe_ix ix_tup (pv 1) pe_int (fun _ _ => rfl)) pa_nil)) pe_int (fun _ _ => rfl)) (pa_cons (pe_ix ix_tup (pe_call TX.G (hr.mono (by omega)) (by rfl) TX.m TX.k TX.b .nil pass0 (pa_cons (pe_ix ix_tup (pv 1) pe_int (fun _ _ => rfl)) pa_nil)) pe_int (fun _ _ => rfl)) pa_nil)) (by rfl))
    (pss_cons (ps_set (i := 10) scBrk.nd rfl (Or.inl rfl) (pe_op op_add (pv 2) (pe_callTy call_int1 (by rfl) T.int (by decide +kernel) (pa_cons (pv 5) pa_nil))))
    (pss_cons (ps_set (i := 6) scBrk.nd rfl (Or.inl rfl) (pe_op op_cat (pe_call WN.G (hr.mono (by omega)) (by rfl) WN.m WN.k WN.b .nil pass0 (pa_cons (pv 0) (pa_cons (pe_ix ix_tup (pv 1) pe_int (fun _ _ => rfl)) (pa_cons (pv 10) (pa_cons (pe_or (pe_cmpR op_lt (pv 8) (pv 7) (nomark _)) (pe_one (pe_cmpR op_eq (pv 8) pe_int (nomark _)))) pa_nil))))) (pe_lst (pa_cons (pe_ix ix_tup (pv 1) pe_int (fun _ _ => rfl)) pa_nil))))
    (pss_one (ps_set (i := 6) scBrk.nd rfl (Or.inl rfl) (pe_op op_cat (pv 6) (pe_call WN.G (hr.mono (by omega)) (by rfl) WN.m WN.k WN.b .nil pass0 (pa_cons (pv 0) (pa_cons (pe_ix ix_tup (pv 1) pe_int (fun _ _ => rfl)) (pa_cons (pv 10) (pa_cons (pe_or (pe_cmpR op_le (pv 9) (pv 7) (nomark _)) (pe_one (pe_cmpR op_eq (pv 9) pe_int (nomark _)))) pa_nil)))))))))))))
    (pss_one (ps_ret (pe_ifExp (pt_val (pv 5)) (pe_op op_cat (pe_op op_cat (pe_lst (pa_cons pe_str pa_nil)) (pv 6)) (pe_lst (pa_cons pe_str pa_nil))) (pv 6))))))), ?_⟩
  have hs : sizeLine = 16777216 := by decide
  have hnd := nds_small hf
  have hnd1 : 1 ≤ e.nds := by cases e <;> simp [Ex.nds] <;> omega
  refine ⟨_, rfl, v, e, rfl, hT, Ex.fine_ok hf, fun p1 H1 S1 np1 hp1 => ?_⟩
  refine ⟨p1, _, rfl, SqT.of hp1, rfl, _, _, rfl, _, _, rfl, rfl, ?_⟩
  have hT1 := hT.same S1
  have hB1 := hB.same S1
  refine ⟨fun σ' H' => ∃ mr : Bool, σ' = [some (.ref b), some v, some (.int (n : Nat)), some (.str e.txt), some (.int e.lw), some (.bl mr), none, none, none, none, none] ∧ (mr = true → n < 2) ∧ Bag H' b (k + (e.nds - 1)) ∧ But b H1 H', ?_, ?_⟩
  · refine ⟨_, rfl, _, _, rfl, rfl, _, rfl, ?_⟩
    by_cases c : n < 2
    · rw [decide_eq_true (by omega : ((n : Nat) : Int) < 2)]
      refine iteT ?_
      refine ⟨_, rfl, b, 5, k + (e.nds - 1), rfl, by decide, by decide, hB1.less (by omega), fun d1 H2 a1 a2 B2 U2 => ?_⟩
      exact ⟨rfl, _, rfl, fun _ => c, B2, U2⟩
    · rw [decide_eq_false (by omega : ¬ ((n : Nat) : Int) < 2)]
      refine iteF ?_
      exact ⟨false, rfl, (fun h => by cases h), hB1.less (by omega), fun _ _ _ h => h⟩
  rintro σ H2 ⟨mr, rfl, hm, B2, U2⟩
  obtain ⟨ys, hys⟩ := hB1.lst
  have hT2 := hT1.but hys U2
  refine ⟨fun σ' H' => ∃ (pf : Addr) (core : List Tn) (y7 y8 y9 y10 : Option V), σ' = [some (.ref b), some v, some (.int (n : Nat)), some (.str e.txt), some (.int e.lw), some (.bl mr), some (.ref pf), y7, y8, y9, y10] ∧
    Tk8 H2 H' b pf k (e.dp8 + (2 - (n + one? mr))) e.lv e 4 core, ?_, ?_⟩
  · cases e with
    | num i =>
      obtain ⟨a, rfl, ha⟩ := hT2
      refine ⟨_, rfl, a, _, 0, _, rfl, rfl, SqT.of ha, atI_nat rfl, (by show 2 ≤ sizeLine; decide), fun l0 hl0 => ?_⟩
      have s0 := same_new hl0 (.lst [.str "number", .str "name"])
      refine ⟨l0, _, rfl, .inl (SqL.of upd_same), rfl, rfl, true, (by decide +kernel), ?_⟩
      refine iteT ?_
      refine ⟨_, rfl, (by show 1 ≤ sizeLine; decide), fun pf npf => ?_⟩
      have s1 := same_new npf (.lst [.str (Tn.num i).txt])
      have s01 := s0.trans s1
      refine ⟨pf, [.num i], _, _, _, _, rfl, upd_same, ?_, B2.same s01, But.of s01, Pr.leaf rfl |>.to (by have := (Ex.num i).lv_pos; omega) (by have := (Ex.num i).lv_pos; omega) (by decide), fun t ht => ?_, Nat.le_refl _⟩
      · intro z
        obtain ⟨zs, hz⟩ := B2.lst
        rw [z, s0 _ _ hz] at npf
        cases npf
      · rw [List.mem_singleton.mp ht]
        exact ⟨hf, fun s z => by cases z⟩
    | nam i =>
      obtain ⟨a, rfl, ha⟩ := hT2
      refine ⟨_, rfl, a, _, 0, _, rfl, rfl, SqT.of ha, atI_nat rfl, (by show 2 ≤ sizeLine; decide), fun l0 hl0 => ?_⟩
      have s0 := same_new hl0 (.lst [.str "number", .str "name"])
      refine ⟨l0, _, rfl, .inl (SqL.of upd_same), rfl, rfl, true, (by decide +kernel), ?_⟩
      refine iteT ?_
      refine ⟨_, rfl, (by show 1 ≤ sizeLine; decide), fun pf npf => ?_⟩
      have s1 := same_new npf (.lst [.str (Tn.nam i).txt])
      have s01 := s0.trans s1
      refine ⟨pf, [.nam i], _, _, _, _, rfl, upd_same, ?_, B2.same s01, But.of s01, Pr.leaf rfl |>.to (by have := (Ex.nam i).lv_pos; omega) (by have := (Ex.nam i).lv_pos; omega) (by decide), fun t ht => ?_, Nat.le_refl _⟩
      · intro z
        obtain ⟨zs, hz⟩ := B2.lst
        rw [z, s0 _ _ hz] at npf
        cases npf
      · rw [List.mem_singleton.mp ht]
        exact ⟨hf.1, fun s z => by cases z; exact hf.2⟩
    | op g l r =>
      obtain ⟨a, x, y, rfl, ha, tx, ty⟩ := hT2
      refine ⟨_, rfl, a, _, 0, _, rfl, rfl, SqT.of ha, atI_nat rfl, (by show 2 ≤ sizeLine; decide), fun l0 hl0 => ?_⟩
      have s0 := same_new hl0 (.lst [.str "number", .str "name"])
      have ein : inV (.str g.txt) [.str "number", .str "name"] = false := by cases g <;> decide +kernel
      refine ⟨l0, _, rfl, .inl (SqL.of upd_same), rfl, rfl, _, rfl, ?_⟩
      rw [if_neg Bool.false_ne_true, ein]
      refine iteF ?_
      have ha0 := s0 _ _ ha
      have tx0 := tx.same s0
      have ty0 := ty.same s0
      have hB0 := B2.same s0
      generalize upd H2 l0 (.lst [.str "number", .str "name"]) = H0 at s0 ha0 tx0 ty0 hB0
      refine fun d0 hd0 => ⟨upd_same, lvD, rfl, by decide, ?_⟩
      have e1 : upd (upd H0 d0 (.dK [])) d0 (.dK (mergeK [] lvD)) = upd H0 d0 (.dK (mergeK [] lvD)) := by
        funext b'
        by_cases hb : b' = d0
        · subst hb; rw [upd_same, upd_same]
        · rw [upd_ne hb, upd_ne hb, upd_ne hb]
      rw [e1]
      have s1 := same_new hd0 (.dK (mergeK [] lvD))
      have hd1 : (upd H0 d0 (.dK (mergeK [] lvD))) d0 = some (.dK (mergeK [] lvD)) := upd_same
      have s01 := s0.trans s1
      have ha1 := s1 _ _ ha0
      have tx1 := tx0.same s1
      have ty1 := ty0.same s1
      have hB1' := hB0.same s1
      generalize upd H0 d0 (.dK (mergeK [] lvD)) = H1' at s01 hd1 ha1 tx1 ty1 hB1'
      have gt : DGet H1' d0 (.str g.txt) (some (.int g.lv)) := by
        have := DGet.k (k := Sum.inr g.txt) hd1
        rwa [lvD_at] at this
      refine ⟨_, rfl, a, _, 0, _, rfl, rfl, SqT.of ha1, atI_nat rfl, d0, _, rfl, gt, ?_⟩
      refine ⟨_, rfl, a, _, 1, _, rfl, rfl, SqT.of ha1, atI_nat (j := 1) rfl, x, l, rfl, tx1, Ex.fine_ok (Ex.fine_l hf), fun q1 G1 sG1 nq1 hq1 => ⟨q1, _, 1, _, rfl, rfl, SqT.of hq1, atI_nat (j := 1) rfl, ?_⟩⟩
      have haG1 := sG1 _ _ ha1
      refine ⟨_, rfl, a, _, 2, _, rfl, rfl, SqT.of haG1, atI_nat (j := 2) rfl, y, r, rfl, ty1.same sG1, Ex.fine_ok (Ex.fine_r hf), fun q2 G2 sG2 nq2 hq2 => ⟨q2, _, 1, _, rfl, rfl, SqT.of hq2, atI_nat (j := 1) rfl, ?_⟩⟩
      refine ⟨_, _, rfl, ?_⟩
      have sG := sG1.trans sG2
      have ha3 := sG _ _ ha1
      have tl3 := tx1.same sG
      have ty3 := ty1.same sG
      have hB3 : Bag G2 b (k + r.nds + l.nds) := (hB1'.same sG).less (by show k + r.nds + l.nds ≤ k + (1 + l.nds + r.nds - 1); omega)
      have U23 : But b H2 G2 := But.of (s01.trans sG)
      obtain ⟨ys3, hys3⟩ := hB3.lst
      have nab : a ≠ b := lst_ne ha3 hys3
      refine ⟨_, rfl, _, rfl, .inr ⟨_, rfl, _, _, rfl, rfl, ?_⟩⟩
      have hin : ((n : Nat) : Int) + (if mr = true then 1 else 0) = ((n + one? mr : Nat) : Int) := by cases mr <;> rfl
      refine ⟨_, rfl, _, rfl, a, _, 1, _, rfl, rfl, SqT.of ha3, atI_nat (j := 1) rfl, _, rfl, _, rfl, _, rfl, _, _, rfl, rfl, _, rfl, ?_⟩
      have ls := left_same g l
      by_cases c1 : l.lw < g.lv
      · rw [decide_eq_true c1]
        refine iteT ?_
        have hb1 : true = lB g l := by rw [← ls, decide_eq_true c1]; rfl
        refine ⟨b, x, n + one? mr, k + r.nds, lB g l, l, (by show [V.ref b, x, V.int (((n : Nat) : Int) + (if mr = true then 1 else 0)), .bl _] = _; rw [hin, hb1]), tl3, by have h2 : 1 + max l.dp8 r.dp8 < d + 1 := hd'; omega, Ex.fine_l hf, hB3, fun p1 ts1 H4 W1 => ?_⟩
        have ha4 := W1.but _ _ nab ha3
        refine ⟨_, rfl, a, _, 0, _, rfl, rfl, SqT.of ha4, atI_nat rfl, (by show 1 ≤ sizeLine; decide), fun l2 nl2 => ?_⟩
        have S5 := same_new nl2 (.lst [V.str g.txt])
        refine ⟨p1, l2, _, _, rfl, rfl, S5 _ _ W1.at_, upd_same, ?_, fun p2 np2 => ?_⟩
        · rw [List.length_map]
          have h1 := W1.len
          have h3 : 1 + l.nds + r.nds + 1 ≤ 2 ^ 6 := hnd
          show ts1.length + 1 ≤ sizeLine
          omega
        have S6 := same_new np2 (.lst (ts1.map (fun t => V.str t.txt) ++ [V.str g.txt]))
        have S56 := S5.trans S6
        have hp2 : (upd (upd H4 l2 (.lst [V.str g.txt])) p2 (.lst (ts1.map (fun t => V.str t.txt) ++ [V.str g.txt]))) p2 = some (.lst (ts1.map (fun t => V.str t.txt) ++ [V.str g.txt])) := upd_same
        have n2b : p2 ≠ b := fun z => by
          obtain ⟨zs, hz⟩ := W1.bag.lst
          rw [z, S5 _ _ hz] at np2
          cases np2
        have hB5 := W1.bag.same S56
        have ha5 := S56 _ _ ha4
        have U25 := U23.trans (W1.but.trans (But.of S56))
        have ty5 : TrIn (upd (upd H4 l2 (.lst [V.str g.txt])) p2 (.lst (ts1.map (fun t => V.str t.txt) ++ [V.str g.txt]))) r y := (ty3.but hys3 W1.but).same S56
        generalize upd (upd H4 l2 (.lst [V.str g.txt])) p2 (.lst (ts1.map (fun t => V.str t.txt) ++ [V.str g.txt])) = H5 at S56 hp2 hB5 ha5 U25 ty5
        refine ⟨_, rfl, _, rfl, _, rfl, a, _, 2, _, rfl, rfl, SqT.of ha5, atI_nat (j := 2) rfl, _, rfl, _, rfl, _, rfl, _, _, rfl, rfl, _, rfl, ?_⟩
        have rs := right_same g r
        by_cases c2 : r.lw ≤ g.lv
        · rw [decide_eq_true c2]
          refine iteT ?_
          have hb2 : true = rB g r := by rw [← rs, decide_eq_true c2]; rfl
          refine ⟨b, y, n + one? mr, k, rB g r, r, (by show [V.ref b, y, V.int (((n : Nat) : Int) + (if mr = true then 1 else 0)), .bl _] = _; rw [hin, hb2]), ty5, by have h2 : 1 + max l.dp8 r.dp8 < d + 1 := hd'; omega, Ex.fine_r hf, hB5, fun p3 ts2 H6 W2 => ?_⟩
          have hp2' := W2.but _ _ n2b hp2
          refine ⟨p2, p3, _, _, rfl, rfl, hp2', W2.at_, ?_, fun p4 np4 => ?_⟩
          · rw [List.length_append, List.length_map, List.length_map]
            have h1 := W1.len
            have h2 := W2.len
            have h3 : 1 + l.nds + r.nds + 1 ≤ 2 ^ 6 := hnd
            show ts1.length + 1 + ts2.length ≤ sizeLine
            omega
          have S7 := same_new np4 (.lst ((ts1.map (fun t => V.str t.txt) ++ [V.str g.txt]) ++ ts2.map fun t => V.str t.txt))
          refine ⟨p4, ts1 ++ Tn.sg g :: ts2, _, _, _, _, rfl, ?_, ?_, W2.bag.same S7, U25.trans (W2.but.trans (But.of S7)), ?_, fun t ht => ?_, ?_⟩
          · rw [upd_same, List.map_append, List.map_cons, List.append_assoc]; rfl
          · intro z
            obtain ⟨zs, hz⟩ := W2.bag.lst
            rw [z, hz] at np4
            cases np4
          · exact op_pr W1.pr W2.pr
          · rcases List.mem_append.mp ht with ht | ht
            · exact W1.tok t ht
            · rcases List.mem_cons.mp ht with rfl | ht
              · exact ⟨trivial, fun s z => by cases z⟩
              · exact W2.tok t ht
          · rw [List.length_append, List.length_cons]
            have h1 := W1.len
            have h2 := W2.len
            show ts1.length + (ts2.length + 1) + 4 ≤ 5 * (1 + l.nds + r.nds)
            omega
        · rw [decide_eq_false c2]
          refine iteF ?_
          refine ⟨_, rfl, rfl, ?_⟩
          have hb2 : decide (V.int r.lw = V.int 1) = rB g r := by
            rw [← rs, decide_eq_false c2, Bool.false_or]
            exact decide_eq_decide.mpr ⟨fun z => V.int.inj z, fun z => by rw [z]⟩
          refine ⟨b, y, n + one? mr, k, rB g r, r, (by show [V.ref b, y, V.int (((n : Nat) : Int) + (if mr = true then 1 else 0)), .bl _] = _; rw [hin, hb2]), ty5, by have h2 : 1 + max l.dp8 r.dp8 < d + 1 := hd'; omega, Ex.fine_r hf, hB5, fun p3 ts2 H6 W2 => ?_⟩
          have hp2' := W2.but _ _ n2b hp2
          refine ⟨p2, p3, _, _, rfl, rfl, hp2', W2.at_, ?_, fun p4 np4 => ?_⟩
          · rw [List.length_append, List.length_map, List.length_map]
            have h1 := W1.len
            have h2 := W2.len
            have h3 : 1 + l.nds + r.nds + 1 ≤ 2 ^ 6 := hnd
            show ts1.length + 1 + ts2.length ≤ sizeLine
            omega
          have S7 := same_new np4 (.lst ((ts1.map (fun t => V.str t.txt) ++ [V.str g.txt]) ++ ts2.map fun t => V.str t.txt))
          refine ⟨p4, ts1 ++ Tn.sg g :: ts2, _, _, _, _, rfl, ?_, ?_, W2.bag.same S7, U25.trans (W2.but.trans (But.of S7)), ?_, fun t ht => ?_, ?_⟩
          · rw [upd_same, List.map_append, List.map_cons, List.append_assoc]; rfl
          · intro z
            obtain ⟨zs, hz⟩ := W2.bag.lst
            rw [z, hz] at np4
            cases np4
          · exact op_pr W1.pr W2.pr
          · rcases List.mem_append.mp ht with ht | ht
            · exact W1.tok t ht
            · rcases List.mem_cons.mp ht with rfl | ht
              · exact ⟨trivial, fun s z => by cases z⟩
              · exact W2.tok t ht
          · rw [List.length_append, List.length_cons]
            have h1 := W1.len
            have h2 := W2.len
            show ts1.length + (ts2.length + 1) + 4 ≤ 5 * (1 + l.nds + r.nds)
            omega
      · rw [decide_eq_false c1]
        refine iteF ?_
        refine ⟨_, rfl, rfl, ?_⟩
        have hb1 : decide (V.int l.lw = V.int 1) = lB g l := by
          rw [← ls, decide_eq_false c1, Bool.false_or]
          exact decide_eq_decide.mpr ⟨fun z => V.int.inj z, fun z => by rw [z]⟩
        refine ⟨b, x, n + one? mr, k + r.nds, lB g l, l, (by show [V.ref b, x, V.int (((n : Nat) : Int) + (if mr = true then 1 else 0)), .bl _] = _; rw [hin, hb1]), tl3, by have h2 : 1 + max l.dp8 r.dp8 < d + 1 := hd'; omega, Ex.fine_l hf, hB3, fun p1 ts1 H4 W1 => ?_⟩
        have ha4 := W1.but _ _ nab ha3
        refine ⟨_, rfl, a, _, 0, _, rfl, rfl, SqT.of ha4, atI_nat rfl, (by show 1 ≤ sizeLine; decide), fun l2 nl2 => ?_⟩
        have S5 := same_new nl2 (.lst [V.str g.txt])
        refine ⟨p1, l2, _, _, rfl, rfl, S5 _ _ W1.at_, upd_same, ?_, fun p2 np2 => ?_⟩
        · rw [List.length_map]
          have h1 := W1.len
          have h3 : 1 + l.nds + r.nds + 1 ≤ 2 ^ 6 := hnd
          show ts1.length + 1 ≤ sizeLine
          omega
        have S6 := same_new np2 (.lst (ts1.map (fun t => V.str t.txt) ++ [V.str g.txt]))
        have S56 := S5.trans S6
        have hp2 : (upd (upd H4 l2 (.lst [V.str g.txt])) p2 (.lst (ts1.map (fun t => V.str t.txt) ++ [V.str g.txt]))) p2 = some (.lst (ts1.map (fun t => V.str t.txt) ++ [V.str g.txt])) := upd_same
        have n2b : p2 ≠ b := fun z => by
          obtain ⟨zs, hz⟩ := W1.bag.lst
          rw [z, S5 _ _ hz] at np2
          cases np2
        have hB5 := W1.bag.same S56
        have ha5 := S56 _ _ ha4
        have U25 := U23.trans (W1.but.trans (But.of S56))
        have ty5 : TrIn (upd (upd H4 l2 (.lst [V.str g.txt])) p2 (.lst (ts1.map (fun t => V.str t.txt) ++ [V.str g.txt]))) r y := (ty3.but hys3 W1.but).same S56
        generalize upd (upd H4 l2 (.lst [V.str g.txt])) p2 (.lst (ts1.map (fun t => V.str t.txt) ++ [V.str g.txt])) = H5 at S56 hp2 hB5 ha5 U25 ty5
        refine ⟨_, rfl, _, rfl, _, rfl, a, _, 2, _, rfl, rfl, SqT.of ha5, atI_nat (j := 2) rfl, _, rfl, _, rfl, _, rfl, _, _, rfl, rfl, _, rfl, ?_⟩
        have rs := right_same g r
        by_cases c2 : r.lw ≤ g.lv
        · rw [decide_eq_true c2]
          refine iteT ?_
          have hb2 : true = rB g r := by rw [← rs, decide_eq_true c2]; rfl
          refine ⟨b, y, n + one? mr, k, rB g r, r, (by show [V.ref b, y, V.int (((n : Nat) : Int) + (if mr = true then 1 else 0)), .bl _] = _; rw [hin, hb2]), ty5, by have h2 : 1 + max l.dp8 r.dp8 < d + 1 := hd'; omega, Ex.fine_r hf, hB5, fun p3 ts2 H6 W2 => ?_⟩
          have hp2' := W2.but _ _ n2b hp2
          refine ⟨p2, p3, _, _, rfl, rfl, hp2', W2.at_, ?_, fun p4 np4 => ?_⟩
          · rw [List.length_append, List.length_map, List.length_map]
            have h1 := W1.len
            have h2 := W2.len
            have h3 : 1 + l.nds + r.nds + 1 ≤ 2 ^ 6 := hnd
            show ts1.length + 1 + ts2.length ≤ sizeLine
            omega
          have S7 := same_new np4 (.lst ((ts1.map (fun t => V.str t.txt) ++ [V.str g.txt]) ++ ts2.map fun t => V.str t.txt))
          refine ⟨p4, ts1 ++ Tn.sg g :: ts2, _, _, _, _, rfl, ?_, ?_, W2.bag.same S7, U25.trans (W2.but.trans (But.of S7)), ?_, fun t ht => ?_, ?_⟩
          · rw [upd_same, List.map_append, List.map_cons, List.append_assoc]; rfl
          · intro z
            obtain ⟨zs, hz⟩ := W2.bag.lst
            rw [z, hz] at np4
            cases np4
          · exact op_pr W1.pr W2.pr
          · rcases List.mem_append.mp ht with ht | ht
            · exact W1.tok t ht
            · rcases List.mem_cons.mp ht with rfl | ht
              · exact ⟨trivial, fun s z => by cases z⟩
              · exact W2.tok t ht
          · rw [List.length_append, List.length_cons]
            have h1 := W1.len
            have h2 := W2.len
            show ts1.length + (ts2.length + 1) + 4 ≤ 5 * (1 + l.nds + r.nds)
            omega
        · rw [decide_eq_false c2]
          refine iteF ?_
          refine ⟨_, rfl, rfl, ?_⟩
          have hb2 : decide (V.int r.lw = V.int 1) = rB g r := by
            rw [← rs, decide_eq_false c2, Bool.false_or]
            exact decide_eq_decide.mpr ⟨fun z => V.int.inj z, fun z => by rw [z]⟩
          refine ⟨b, y, n + one? mr, k, rB g r, r, (by show [V.ref b, y, V.int (((n : Nat) : Int) + (if mr = true then 1 else 0)), .bl _] = _; rw [hin, hb2]), ty5, by have h2 : 1 + max l.dp8 r.dp8 < d + 1 := hd'; omega, Ex.fine_r hf, hB5, fun p3 ts2 H6 W2 => ?_⟩
          have hp2' := W2.but _ _ n2b hp2
          refine ⟨p2, p3, _, _, rfl, rfl, hp2', W2.at_, ?_, fun p4 np4 => ?_⟩
          · rw [List.length_append, List.length_map, List.length_map]
            have h1 := W1.len
            have h2 := W2.len
            have h3 : 1 + l.nds + r.nds + 1 ≤ 2 ^ 6 := hnd
            show ts1.length + 1 + ts2.length ≤ sizeLine
            omega
          have S7 := same_new np4 (.lst ((ts1.map (fun t => V.str t.txt) ++ [V.str g.txt]) ++ ts2.map fun t => V.str t.txt))
          refine ⟨p4, ts1 ++ Tn.sg g :: ts2, _, _, _, _, rfl, ?_, ?_, W2.bag.same S7, U25.trans (W2.but.trans (But.of S7)), ?_, fun t ht => ?_, ?_⟩
          · rw [upd_same, List.map_append, List.map_cons, List.append_assoc]; rfl
          · intro z
            obtain ⟨zs, hz⟩ := W2.bag.lst
            rw [z, hz] at np4
            cases np4
          · exact op_pr W1.pr W2.pr
          · rcases List.mem_append.mp ht with ht | ht
            · exact W1.tok t ht
            · rcases List.mem_cons.mp ht with rfl | ht
              · exact ⟨trivial, fun s z => by cases z⟩
              · exact W2.tok t ht
          · rw [List.length_append, List.length_cons]
            have h1 := W1.len
            have h2 := W2.len
            show ts1.length + (ts2.length + 1) + 4 ≤ 5 * (1 + l.nds + r.nds)
            omega
  · rintro σ H3 ⟨pf, core, y7, y8, y9, y10, rfl, W⟩
    refine ⟨_, rfl, _, rfl, ?_⟩
    have U03 : But b H H3 := (But.of S1).trans (U2.trans W.but)
    cases mr with
    | false =>
      refine iteF ⟨_, rfl, ?_⟩
      exact q pf core H3 ⟨W.at_, W.ne, W.bag, U03, W.pr, W.tok, by have := W.len; omega⟩
    | true =>
      refine iteT ?_
      have hn2 := hm rfl
      refine ⟨(by show 1 ≤ sizeLine; decide), fun p2 np2 => ?_⟩
      have S3 := same_new np2 (.lst [.str "("])
      have h2 : (upd H3 p2 (.lst [.str "("])) p2 = some (.lst [.str "("]) := upd_same
      refine ⟨_, rfl, p2, pf, _, _, rfl, rfl, h2, S3 _ _ W.at_, ?_, fun p3 np3 => ?_⟩
      · rw [List.length_map]; have := W.len; show 1 + core.length ≤ sizeLine; omega
      have S4 := same_new np3 (.lst ([V.str "("] ++ core.map fun t => V.str t.txt))
      refine ⟨(by show 1 ≤ sizeLine; decide), fun p4 np4 => ?_⟩
      have S5 := same_new np4 (.lst [.str ")"])
      have h3 : (upd (upd H3 p2 (.lst [.str "("])) p3 (.lst ([V.str "("] ++ core.map fun t => V.str t.txt))) p3 = some (.lst ([V.str "("] ++ core.map fun t => V.str t.txt)) := upd_same
      refine ⟨p3, p4, _, _, rfl, rfl, S5 _ _ h3, upd_same, ?_, fun p5 np5 => ?_⟩
      · rw [List.length_append, List.length_map]; have := W.len; show 1 + core.length + 1 ≤ sizeLine; omega
      have S6 := same_new np5 (.lst (([V.str "("] ++ core.map fun t => V.str t.txt) ++ [V.str ")"]))
      have S36 := S3.trans (S4.trans (S5.trans S6))
      have el : ([V.str "("] ++ core.map fun t => V.str t.txt) ++ [V.str ")"] = (Tn.lp :: (core ++ [Tn.rp])).map fun t => V.str t.txt := by
        rw [List.map_cons, List.map_append]; rfl
      refine q p5 (Tn.lp :: (core ++ [Tn.rp])) _ ⟨by rw [upd_same, el], ?_, W.bag.same S36, U03.trans (But.of S36), ?_, fun t ht => ?_, ?_⟩
      · intro z
        obtain ⟨zs, hz⟩ := W.bag.lst
        rw [z] at np5
        rw [S5 _ _ (S4 _ _ (S3 _ _ hz))] at np5
        cases np5
      · have hlv := e.lv_pos
        have hp := Pr.brk (W.pr.to (L := 1) (by decide) (by omega) (by omega))
        rw [show e.dp8 + (2 - (n + one? true)) + 1 = e.dp8 + (2 - n) by show e.dp8 + (2 - (n + 1)) + 1 = _; omega] at hp
        exact hp.to (by omega) (by omega) (by decide)
      · rcases List.mem_cons.mp ht with rfl | ht
        · exact ⟨trivial, fun s z => by cases z⟩
        · rcases List.mem_append.mp ht with ht | ht
          · exact W.tok t ht
          · rw [List.mem_singleton.mp ht]; exact ⟨trivial, fun s z => by cases z⟩
      · rw [List.length_cons, List.length_append]; have := W.len; show core.length + 1 + 1 + 2 ≤ _; omega
theorem brk_none {f0 : Addr} {fd : FuncData} : FnOk P w K mg base CX0 (8 + 2 * 0) f0 fd ["_law_bag_here", "_law_tree_here", "_law_nested"] (spBrk 0) := by
  have no : ∀ vs H Q E, ¬ spBrk 0 vs H Q E := fun vs H Q E h => by
    obtain ⟨_, _, _, _, _, _, _, h1, _⟩ := h
    omega
  exact ⟨fun vs H Q E h => absurd h (no vs H Q E), fun A outer s H args us vs Q E _ _ _ _ h => absurd h (no vs H Q E)⟩
end
end SH

set_option Elab.async false
set_option linter.all false
set_option maxRecDepth 100000
namespace SH
open PySem L2
abbrev sBlk : Stmt := topS 64
theorem scBlk : FnScope ["_law_bag_here", "_law_parts_here", "_law_found", "_law_part", "_law_many"] ["_law_bag_here", "_law_parts_here"] (defScope sBlk) := ⟨rfl, rfl, rfl, by decide +kernel, rfl, by decide +kernel, by decide +kernel⟩
def blS : Nat → Str
  | 0 => ""
  | n + 1 => blS n ++ " "
theorem bl_mul : ∀ n : Fin 4, PySem.Txt.mul " " (n.val : Int) = blS n.val := by decide +kernel
theorem bl_ok : ∀ n : Fin 4, MulOk " " (n.val : Int) := by
  unfold MulOk
  decide +kernel
theorem op_mulB {X : Cx} : OpR X (binaryOp .Mult) (fun x y H Q => ∃ n : Nat, x = .str " " ∧ y = .int (n : Int) ∧ n ≤ 3 ∧ Q (.str (blS n)) H) := by
  intro pins s σ H x y v u Q I rx ry h
  obtain ⟨n, rfl, rfl, h3, q⟩ := h
  obtain ⟨t, rfl⟩ := (show ∃ t, v = Value.str " " t from rx)
  obtain ⟨t', rfl⟩ := (show ∃ t, u = Value.int n t from ry)
  refine SB.mul (bl_ok ⟨n, by omega⟩) fun tk k => ?_
  rw [bl_mul ⟨n, by omega⟩]
  exact ⟨.str (blS n), H, I.tok k, ⟨tk, rfl⟩, q⟩
def blP (n : Nat) : List Pc := List.replicate n none
theorem flat_blP : ∀ n : Nat, flat (blP n) = cd (blS n)
  | 0 => by decide +kernel
  | n + 1 => by
    show flat (none :: blP n) = cd (blS n ++ " ")
    rw [flat_cons, cd_app, ← flat_blP n]
    have : ∀ m, flat (blP m) = List.replicate m 32 := by
      intro m
      induction m with
      | zero => rfl
      | succ m ih => show cd (" " : Str) ++ flat (blP m) = _; rw [cd_bl, ih]; rfl
    rw [this, show cd (ptxt none) = [32] from cd_bl, cd_bl, ← List.replicate_succ', List.replicate_succ]
    rfl
theorem toks_blP : ∀ n : Nat, toks (blP n) = []
  | 0 => rfl
  | n + 1 => toks_blP n
theorem blS_len (n : Nat) : (blS n).length = n := by
  induction n with
  | zero => decide +kernel
  | succ n ih =>
    show (blS n ++ " ").length = _
    rw [app_len, ih, show (" " : Str).length = 1 by decide +kernel]
theorem ajs_bl : ∀ (n : Nat) {ps : List Pc}, Ajs ps → Ajs (ps ++ blP n)
  | 0, ps, h => by show Ajs (ps ++ []); rw [List.append_nil]; exact h
  | n + 1, ps, h => by
    have h1 : Ajs (ps ++ [none]) := h.snoc fun q _ hq => by
      have : pkd q = 4 := hq.1
      omega
    have := ajs_bl n h1
    rw [List.append_assoc] at this
    exact this
def spBlk : Sp := fun vs H Q _ => ∃ (b l : Addr) (ts : List Tn) (k : Nat), vs = [.ref b, .ref l] ∧ l ≠ b ∧ H l = some (.lst (ts.map fun t => V.str t.txt)) ∧ (∀ t ∈ ts, TOk t) ∧ ts.length ≤ 10000 ∧ Bag H b (k + ts.length + 1) ∧
  ∀ (s : Str) (ps : List Pc) (H' : Hp), cd s = flat ps → toks ps = ts → (∀ p ∈ ps, POk p) → Ajs ps → s.length ≤ 40 * ts.length + 2 → Bag H' b k → But b H H' → Q (.str s) H'
section
variable {P : Program} {w : World} {K : PySem.W.Frag} {mg : Str → Option Value} {base : Heap}
theorem ok_blk {f g h : Addr} {fd gd hd : FuncData} (F : Fun K "_law_blanked" "_law_blanked" sBlk f fd) (KI : Fk P w K mg base 1 "_law_kind" g gd ["_law_sign_here"] spKind) (TK : Fk P w K mg base 1 "_law_take" h hd ["_law_bag_here", "_law_many"] spTake) (T : Bi mg) : FnOk P w K mg base CX0 2 f fd ["_law_bag_here", "_law_parts_here"] spBlk := by
  refine F.ok scBlk (fun vs H Q E h => ?_) (fun cdv A outer s H vs Q E hr h => ?_)
  · obtain ⟨b, l, ts, k, rfl, _⟩ := h
    rfl
  obtain ⟨b, l, ts, k, rfl, nlb, hl, ho, hz, hB, q⟩ := h
  refine ⟨_, (pss_cons (ps_set (i := 2) scBlk.nd rfl (Or.inl rfl) pe_str)
    (pss_cons (ps_for PassesOwn.never rfl (pi_list (pv 1)) (pg_name (i := 3) scBlk.nd rfl (.inl rfl))
      (C8.pss_cut (ps_set (i := 4) scBlk.nd rfl (Or.inl rfl) (pe_ix ix_list (pe_lst (pa_cons pe_int (pa_cons pe_int (pa_cons pe_int (pa_cons pe_int pa_nil))))) (pe_call TK.G (hr.mono (by omega)) (by rfl) TK.m TK.k TK.b .nil pass0 (pa_cons (pv 0) (pa_cons pe_int pa_nil))) (fun _ _ => rfl)))
    (C8.pss_cut (ps_if (PW.pt (pw_and (pt_cmpR op_ne (pv 2) pe_str (nomark _)) (pw_and (pt_cmpR op_eq (pe_call KI.G (hr.mono (by omega)) (by rfl) KI.m KI.k KI.b .nil pass0 (pa_cons (pe_ix ix_str (pv 2) (pe_un un_neg pe_int) (fun _ _ => rfl)) pa_nil)) (pe_call KI.G (hr.mono (by omega)) (by rfl) KI.m KI.k KI.b .nil pass0 (pa_cons (pe_ix ix_str (pv 3) pe_int (fun _ _ => rfl)) pa_nil)) (nomark _)) (pw_and1 (pt_cmpR op_lt (pe_call KI.G (hr.mono (by omega)) (by rfl) KI.m KI.k KI.b .nil pass0 (pa_cons (pe_ix ix_str (pv 3) pe_int (fun _ _ => rfl)) pa_nil)) pe_int (nomark _))))))
      (pss_one (ps_set (i := 4) scBlk.nd rfl (Or.inl rfl) (pe_callB (call_max2 rfl) (by rfl) T.max (by decide +kernel) (pa_cons pe_int (pa_cons (pv 4) pa_nil)))))
      pss_nil)
    (pss_one (ps_set (i := 2) scBlk.nd rfl (Or.inl rfl) (pe_op op_add_str (pe_op op_add_str (pv 2) (pe_op op_mulB pe_str (pv 4))) (pv 3)))))))
    (pss_one (ps_ret (pe_op op_add_str (pv 2) (pe_op op_mulB pe_str (pe_ix ix_list (pe_lst (pa_cons pe_int (pa_cons pe_int (pa_cons pe_int (pa_cons pe_int pa_nil))))) (pe_call TK.G (hr.mono (by omega)) (by rfl) TK.m TK.k TK.b .nil pass0 (pa_cons (pv 0) (pa_cons pe_int pa_nil))) (fun _ _ => rfl)))))))), ?_⟩
  have hs : sizeLine = 16777216 := by decide
  refine ⟨_, rfl, l, rfl, ⟨_, SqL.of hl⟩, for_list (K := K) (xs := ts.map fun t => V.str t.txt) (fun i σ H' => ∃ (fd' : Str) (ps : List Pc) (x y : Option V), σ = [some (.ref b), some (.ref l), some (.str fd'), x, y] ∧ cd fd' = flat ps ∧ toks ps = ts.take i ∧ (∀ p ∈ ps, POk p) ∧ Ajs ps ∧ fd'.length ≤ 40 * i ∧
    Bag H' b (k + (ts.length - i) + 1) ∧ But b H H') ⟨"", [], none, none, rfl, by decide +kernel, rfl, (fun p h => by cases h), trivial, Nat.le_refl _, hB, fun _ _ _ h => h⟩ (fun i σ H' _ h => by obtain ⟨_, _, _, _, _, _, _, _, _, _, _, U⟩ := h; exact SqL.of (U _ _ nlb hl)) ?_ ?_⟩
  · rintro i x σ H1 hx ⟨fd', ps, x0, y0, rfl, e1, e2, o1, a1, z1, B1, U1⟩
    rw [List.getElem?_map] at hx
    cases hxi : ts[i]? with
    | none => rw [hxi] at hx; cases hx
    | some t =>
      rw [hxi] at hx
      cases hx
      have hil : i < ts.length := (List.getElem?_eq_some_iff.mp hxi).1
      have htk := ho t (List.mem_of_getElem? hxi)
      have htl := tx_len htk.1
      obtain ⟨c0, r0, ec0⟩ : ∃ c r, cd t.txt = c :: r := by
        cases e : cd t.txt with
        | nil => exact absurd e (pc_ne htk.1)
        | cons c r => exact ⟨c, r, rfl⟩
      have k0 : kdC c0 = t.kd := pc_kinds htk.1 c0 (by show c0 ∈ cd t.txt; rw [ec0]; exact List.mem_cons_self)
      refine ⟨fun σ' H' => ∃ m : Nat, σ' = [some (.ref b), some (.ref l), some (.str fd'), some (.str t.txt), some (.int (m : Nat))] ∧ m ≤ 3 ∧ Bag H' b (k + (ts.length - (i + 1)) + 1) ∧ But b H H', ?_, ?_⟩
      · refine ⟨(by show 4 ≤ sizeLine; decide), fun l2 nl2 => ?_⟩
        have S2 := same_new nl2 (.lst [.int 0, .int 0, .int 1, .int 3])
        have h2 : (upd H1 l2 (.lst [.int 0, .int 0, .int 1, .int 3])) l2 = some (.lst [.int 0, .int 0, .int 1, .int 3]) := upd_same
        have n2b : l2 ≠ b := fun z => by obtain ⟨ys, hy⟩ := B1.lst; rw [z, hy] at nl2; cases nl2
        refine ⟨_, rfl, b, 4, k + (ts.length - (i + 1)) + 1, rfl, by decide, by decide, (B1.same S2).less (by omega), fun d1 H2 b1 b2 B2 U2 => ?_⟩
        obtain ⟨v, ev, hv⟩ := menuI (ns := [0, 0, 1, 3]) b1 (by show d1 < 4; exact b2)
        have hv' : v = 0 ∨ v = 1 ∨ v = 3 := by simpa using hv
        refine ⟨l2, _, _, _, rfl, rfl, SqL.of (U2 _ _ n2b h2), ev, v.toNat, ?_, by omega, B2, U1.trans ((But.of S2).trans U2)⟩
        rw [show ((v.toNat : Nat) : Int) = v by omega]
        rfl
      · rintro σ' H2 ⟨m, rfl, hm, B2, U2⟩
        refine ⟨fun σ' H' => ∃ m : Nat, σ' = [some (.ref b), some (.ref l), some (.str fd'), some (.str t.txt), some (.int (m : Nat))] ∧ m ≤ 3 ∧ Bag H' b (k + (ts.length - (i + 1)) + 1) ∧ But b H H' ∧ (m = 0 → ∀ p, ps.getLast? = some p → ¬ (pkd p = t.kd ∧ pkd p < 3)), ?_, ?_⟩
        · refine ⟨_, rfl, rfl, _, rfl, ?_⟩
          by_cases ce : fd' = Str.empty
          · have hps : ps = [] := by
              have h1 := flat_ne o1
              rw [← e1, ce] at h1
              exact List.length_eq_zero_iff.mp (Nat.le_zero.mp h1)
            rw [decide_eq_true (show V.str fd' = V.str ("" : Str) by rw [ce]; rfl)]
            refine iteF ?_
            refine iteF ?_
            exact ⟨m, rfl, hm, B2, U2, fun _ p hp => by rw [hps] at hp; cases hp⟩
          · rw [decide_eq_false (fun z : V.str fd' = V.str ("" : Str) => ce (V.str.inj z))]
            refine iteT ?_
            rcases List.eq_nil_or_concat ps with eps | ⟨ps', p, eps⟩
            · exact absurd (cd_inj (by rw [e1, eps]; rfl)) ce
            rw [List.concat_eq_append] at eps
            have hpo := o1 p (by rw [eps]; exact List.mem_append_right _ List.mem_cons_self)
            rcases List.eq_nil_or_concat (cd (ptxt p)) with ecp | ⟨A1, cl, ecp⟩
            · exact absurd ecp (pc_ne hpo)
            rw [List.concat_eq_append] at ecp
            have hcl : kdC cl = pkd p := pc_kinds hpo cl (by rw [ecp]; exact List.mem_append_right _ List.mem_cons_self)
            have efd : cd fd' = (flat ps' ++ A1) ++ [cl] := by
              rw [e1, eps, flat_app, flat_cons, ecp, show flat [] = [] from rfl, List.append_nil, ← List.append_assoc]
            have hgl : ps.getLast? = some p := by rw [eps, List.getLast?_concat]
            have at0 : atI t.txt.cps.toList 0 = some c0 := by show atI (cd t.txt) 0 = _; rw [ec0]; exact atI_nat (j := 0) rfl
            refine ⟨_, rfl, _, rfl, fd', _, cl, rfl, rfl, by omega, (by show atI (cd fd') _ = some cl; rw [efd]; exact atI_last _ _), cl, rfl, fun H3 S3 => ?_⟩
            refine ⟨_, rfl, t.txt, 0, c0, rfl, rfl, by omega, at0, c0, rfl, fun H4 S4 => ⟨rfl, _, rfl, ?_⟩⟩
            have S34 := S3.trans S4
            have B4 := B2.same S34
            have U4 := U2.trans (But.of S34)
            by_cases cq : kdC cl = kdC c0
            · rw [decide_eq_true (by rw [cq])]
              refine iteT ?_
              refine ⟨_, rfl, t.txt, 0, c0, rfl, rfl, by omega, at0, c0, rfl, fun H5 S5 => ⟨_, _, rfl, rfl, _, rfl, ?_⟩⟩
              have B5 := B4.same S5
              have U5 := U4.trans (But.of S5)
              by_cases c3 : kdC c0 < 3
              · rw [decide_eq_true c3]
                refine iteT ?_
                refine ⟨_, rfl, _, _, rfl, max 1 m, ?_, by omega, B5, U5, fun h0 => by omega⟩
                have em : (if ((m : Nat) : Int) > 1 then ((m : Nat) : Int) else 1) = ((max 1 m : Nat) : Int) := by split <;> omega
                rw [em]
                rfl
              · rw [decide_eq_false c3]
                refine iteF ?_
                refine ⟨m, rfl, hm, B5, U5, fun _ p' hp' h => ?_⟩
                rw [hgl] at hp'
                cases hp'
                omega
            · rw [decide_eq_false (fun z => cq (V.int.inj z))]
              refine iteF ?_
              refine iteF ?_
              refine ⟨m, rfl, hm, B4, U4, fun _ p' hp' h => ?_⟩
              rw [hgl] at hp'
              cases hp'
              omega
        · rintro σ' H3 ⟨m', rfl, hm', B3, U3, hno⟩
          refine ⟨_, rfl, _, rfl, m', rfl, rfl, hm', _, _, rfl, rfl, by rw [blS_len]; omega, _, rfl, _, _, rfl, rfl, by rw [app_len, blS_len]; omega, ?_⟩
          refine ⟨fd' ++ blS m' ++ t.txt, ps ++ blP m' ++ [some t], _, _, rfl, ?_, ?_, fun p hp => ?_, ?_, ?_, B3, U3⟩
          · rw [cd_app, cd_app, flat_app, flat_app, flat_blP, e1]
            show _ = _ ++ (cd (ptxt (some t)) ++ [])
            rw [List.append_nil]
            rfl
          · rw [toks_app, toks_app, toks_blP, List.append_nil, e2, List.take_add_one, hxi]
            rfl
          · rcases List.mem_append.mp hp with h | h
            · rcases List.mem_append.mp h with h | h
              · exact o1 p h
              · rw [List.eq_of_mem_replicate h]; trivial
            · rw [List.mem_singleton.mp h]; exact htk.1
          · refine (ajs_bl m' a1).snoc fun p hp => ?_
            cases m' with
            | zero =>
              have hp' : (ps ++ []).getLast? = some p := hp
              rw [List.append_nil] at hp'
              exact hno rfl p hp'
            | succ m' =>
              have e : ps ++ blP (m' + 1) = (ps ++ blP m') ++ [none] := by
                unfold blP
                rw [List.replicate_succ', List.append_assoc]
              rw [e, List.getLast?_concat] at hp
              cases hp
              exact fun h => absurd h.2 (by decide)
          · rw [app_len, app_len, blS_len]; omega
  · rintro σ H1 ⟨fd', ps, x0, y0, rfl, e1, e2, o1, a1, z1, B1, U1⟩
    rw [List.length_map] at e2 z1 B1
    rw [List.take_length] at e2
    refine ⟨_, rfl, (by show 4 ≤ sizeLine; decide), fun l2 nl2 => ?_⟩
    have S2 := same_new nl2 (.lst [.int 0, .int 0, .int 0, .int 2])
    have h2 : (upd H1 l2 (.lst [.int 0, .int 0, .int 0, .int 2])) l2 = some (.lst [.int 0, .int 0, .int 0, .int 2]) := upd_same
    have n2b : l2 ≠ b := fun z => by obtain ⟨ys, hy⟩ := B1.lst; rw [z, hy] at nl2; cases nl2
    refine ⟨_, rfl, b, 4, k, rfl, by decide, by decide, (B1.same S2).less (by omega), fun d1 H2 b1 b2 B2 U2 => ?_⟩
    obtain ⟨v, ev, hv⟩ := menuI (ns := [0, 0, 0, 2]) b1 (by show d1 < 4; exact b2)
    have hv' : v = 0 ∨ v = 2 := by simpa using hv
    refine ⟨l2, _, _, _, rfl, rfl, SqL.of (U2 _ _ n2b h2), ev, v.toNat, rfl, ?_, by omega, _, _, rfl, rfl, by rw [blS_len]; omega, ?_⟩
    · rw [show ((v.toNat : Nat) : Int) = v by omega]
    refine q (fd' ++ blS v.toNat) (ps ++ blP v.toNat) H2 ?_ ?_ (fun p hp => ?_) (ajs_bl _ a1) ?_ B2 (U1.trans ((But.of S2).trans U2))
    · rw [cd_app, flat_app, flat_blP, e1]
    · rw [toks_app, toks_blP, List.append_nil, e2]
    · rcases List.mem_append.mp hp with h | h
      · exact o1 p h
      · rw [List.eq_of_mem_replicate h]; trivial
    · rw [app_len, blS_len]; omega
end
end SH

set_option Elab.async false
set_option linter.all false
set_option maxRecDepth 100000
namespace SH
open PySem L2
abbrev sSaid9 : Stmt := topS 69
abbrev sRight9 : Stmt := topS 70
theorem scSaid9 : FnScope ["_law_text_here", "_law_e"] ["_law_text_here"] (defScope sSaid9) := ⟨rfl, rfl, rfl, by decide +kernel, rfl, by decide +kernel, by decide +kernel⟩
theorem scRight9 : FnScope ["_law_text_here", "_law_parts_here", "_law_tree_here", "_law_told", "_law_due"] ["_law_text_here"] (defScope sRight9) := ⟨rfl, rfl, rfl, by decide +kernel, rfl, by decide +kernel, by decide +kernel⟩
def spLaw (K : PySem.W.Frag) : Sp := fun vs H Q _ => ∃ (a : Addr) (ns : List Int), vs = [.ref a] ∧ SqL K H a (ns.map V.int) ∧ ns.length ≤ 63 ∧ ∀ H', Q (.bl true) H'
def Ex.dat : Ex → PyData
  | .num i => .tuple [.str "number", .int i]
  | .nam s => .tuple [.str "name", .str s]
  | .op g l r => .tuple [.str g.txt, l.dat, r.dat]
theorem Ex.dp {K : PySem.W.Frag} {H : Hp} : ∀ {e : Ex} {v : V}, TrIn H e v → Dp K H v e.dat
  | .num _, _, ⟨a, e, h⟩ => e ▸ .tup (SqT.of h) (.cons (.str _) (.cons (.int _) .nil))
  | .nam _, _, ⟨a, e, h⟩ => e ▸ .tup (SqT.of h) (.cons (.str _) (.cons (.str _) .nil))
  | .op _ _ _, _, ⟨a, x, y, e, h, l, r⟩ => e ▸ .tup (SqT.of h) (.cons (.str _) (.cons (Ex.dp l) (.cons (Ex.dp r) .nil)))
theorem fit_name {s : Str} (h : NmOk s) : PySem.PyData.canLay0 (.str s) = true := by
  show PySem.PyData.strOk s = true
  unfold PySem.PyData.strOk
  rw [Array.all_eq_true]
  intro i hi
  have q := h.1.2.2 s.cps[i] (by show _ ∈ s.cps.toList; exact Array.mem_toList_iff.mpr (Array.getElem_mem hi))
  exact decide_eq_true (by omega)
theorem nice_nm {n : Nat} {s : Str} (h : NmOk s) : Nice n 82 (.str s) := by
  refine ⟨fit_name h, Nat.zero_le _, rfl, rfl, rfl, ?_⟩
  have l8 := h.1.2.1
  have := StrLaws.reprText_len s (fun c hc => by
    have := h.1.2.2 c hc
    omega)
  rw [codes_len] at l8
  show (reprText s).length ≤ 82
  omega
def exB : Nat → Nat
  | 0 => 130
  | n + 1 => 2 * exB n + 20
theorem exB_ge (n : Nat) : 130 ≤ exB n := by
  induction n with
  | zero => exact Nat.le_refl _
  | succ n ih => show 130 ≤ 2 * exB n + 20; omega
theorem Ex.nice : ∀ {n : Nat} {e : Ex}, Ex.fine n e → Nice n (exB n) e.dat
  | 0, _, h => h.elim
  | n + 1, .num i, h => by
    have hb := exB_ge n
    have e5 : (1000000 : Int) ^ 5 < 2 ^ 100 := by decide
    have hi : i.natAbs < 2 ^ 100 := by have h1 := h.1; have h2 := h.2; omega
    exact (nice_tup (.cons (nice_lit (m := 8) (by decide +kernel) (by decide +kernel)) (.cons (nice_int hi) .nil))).up (Nat.le_refl _) (by show _ ≤ 2 * exB n + 20; omega)
  | n + 1, .nam s, h => by
    have hb := exB_ge n
    exact (nice_tup (.cons (nice_lit (m := 6) (by decide +kernel) (by decide +kernel)) (.cons (nice_nm h) .nil))).up (Nat.le_refl _) (by show _ ≤ 2 * exB n + 20; omega)
  | n + 1, .op g l r, h => by
    exact (nice_tup (.cons (nice_lit (m := 4) (by cases g <;> decide +kernel) (by cases g <;> decide +kernel)) (.cons (Ex.nice h.1) (.cons (Ex.nice h.2) .nil)))).up (Nat.le_refl _) (by show _ ≤ 2 * exB n + 20; omega)
theorem exB6 : exB 6 = 9580 := by decide
theorem Ex.nice6 {e : Ex} (h : Ex.fine 6 e) : Nice 6 9580 e.dat := by
  have := Ex.nice h
  rwa [exB6] at this

theorem TrIn.ref {H : Hp} {e : Ex} {v : V} (h : TrIn H e v) : ∃ a, v = .ref a := by
  obtain ⟨a, xs, e, _⟩ := h.tup
  exact ⟨a, e⟩
/-- what repr asks, and what comes of it -/
theorem rep_tr {K : PySem.W.Frag} {H : Hp} {e : Ex} {v : V} {Q : VK} (h : TrIn H e v) (hf : Ex.fine 6 e) (q : Q (.str e.dat.shown) H) : rRepr K [v] H Q := by
  obtain ⟨a, rfl⟩ := h.ref
  have n := Ex.nice6 hf
  exact ⟨a, e.dat, rfl, Ex.dp h, n.sh, n.nd, Nat.le_trans n.dep (by decide), Nat.le_trans n.sz (by decide), q⟩

def tCallX (sp : Sp) (E : L2.St → XK) (t : TA) : TE := fun σ H Q => t σ H fun vs H1 => sp vs H1 Q (E σ)
theorem pe_callX {X : Cx} {CX : CXT} {k : Nat} {f : Addr} {fd : FuncData} {ps : List Str} {sp : Sp} {E : L2.St → XK} {x : Str} {p pos : Pos} {e : Expr} {es : List Expr} {t : TA} (F : FnOk X.prog X.w X.K X.mg X.base CX k f fd ps sp) (hr : Room k X.A) (hg : Gl X x) (hm : X.mg x = some (.ref f)) (hk : PySem.W.keepIn X.K (.ref f) = true) (hb : Binds X.K fd ps []) (hx : ∀ σ, PassesAt CX X σ (E σ)) (ha : PA X (e :: es) t)
    (hdb : (x == ("__debug__" : Str)) = false := by decide) (he : starEach (e :: es) X.env = (false, eval e X.env) :: starEach es X.env := by rfl) (hpl : (backTo pos (starEach es X.env)).any (·.1) = false := by rfl) :
    PE X (.Call (.Name x p) (e :: es) [] pos) (tCallX sp E t) := by
  constructor
  intro pins s σ H Q I h
  refine wpAny_Call_Name_kw (ld_glob I hg hm ?_ hdb)
  refine PySem.W.callWith_K (h₀ := X.base) I.ok.mod.kin hk (thn (ha.run pos pins s σ H _ I h) ?_) he hpl
  rintro us s1 ⟨vs, H1, I1, r, q⟩
  exact ⟨I1.kIn, run_fnS F hr hb (hx σ) I1 r q⟩

def spSaid9 : Sp := fun vs H Q _ => ∃ (s : Str) (o : Option Ex), vs = [.str s] ∧ s.length ≤ 1000000 ∧ progM kept badN (cd s) o ∧
  (∀ e, o = some e → ∀ v H', Same H H' → TrIn H' e v → Q v H') ∧ (o = none → ∀ p H', Same H H' → H' p = some (.tup [.str "text", .int 1]) → Q (.ref p) H')
def spRight9 : Sp := fun vs H Q _ => ∃ s : Str, vs = [.str s] ∧ s.length ≤ 400000 ∧ ∀ H', Same H H' → Q (.bl true) H'
structure Shw (d : PyData) : Prop where
  shaped : SeqAt.shaped d = true
  refl : PyData.eqv d d = true
  sh : d.showable = true
  nd : d.hasDict = false
  dep : d.depth ≤ 60
  sz : d.shown.length ≤ sizeLine
theorem shw_nice {n m : Nat} {d : PyData} (h : Nice n m d) (hn : n ≤ 60) (hm : m ≤ sizeLine) : Shw d := by
  refine ⟨?_, SeqAt.eqv_refl _ h.lay, h.sh, h.nd, Nat.le_trans h.dep hn, Nat.le_trans h.sz hm⟩
  unfold SeqAt.shaped
  rw [h.lay, decide_eq_true (Nat.le_trans h.dep (Nat.le_trans hn (by decide)))]
  rfl
/-- what is read is fine -/
theorem prog_fine {cs : List Nat} {e : Ex} (h : progM kept badN cs (some e)) : Ex.fine 6 e := by
  rcases h with ⟨_, h⟩ | ⟨_, ts, t1, _, h⟩
  · cases h
  · have h' : (match treeR (singR badN 8) ts with
      | some (e, []) => some e
      | _ => none) = some e := h.symm
    cases hT : treeR (singR badN 8) ts with
    | none => rw [hT] at h'; cases h'
    | some y =>
      obtain ⟨e', rest⟩ := y
      rw [hT] at h'
      cases rest with
      | nil => cases h'; exact (tree_good (sing_good 8) ts e [] (fun t ht => t1 t ht) hT).2
      | cons t r => cases h'
section
variable {P : Program} {w : World} {K : PySem.W.Frag} {mg : Str → Option Value} {base : Heap} {CB : Addr}
theorem ok_said9 {f a1 a3 : Addr} {fd d1 d3 : FuncData} (F : Fun K "_law_said" "_law_said" sSaid9 f fd) (RE : FkX P w K mg base 56 "read_expression" a1 d1 ["text"] (spRead CB)) (gB : mg "BadText" = some (.ref CB)) (te : PySem.W.exmOne K (.ref CB) (.ref CB) = some true) (XF : XfC K CB) (noR : PySem.W.findIn K (.ref CB) "row" = some none)
    (GR : FnE P w K mg base 2 a3 d3 ["_law_e"] (spRefus "text" CB)) (mR : mg "_law_refusal" = some (.ref a3)) (kR : PySem.W.keepIn K (.ref a3) = true) (bR : Binds K d3 ["_law_e"] []) (T : Bi mg) : FnOk P w K mg base CX0 57 f fd ["_law_text_here"] spSaid9 := by
  refine F.ok scSaid9 (fun vs H Q E h => ?_) (fun cdv A outer s H vs Q E hr h => ?_)
  · obtain ⟨s, o, rfl, _⟩ := h
    rfl
  obtain ⟨z, o, rfl, hz, hM, q, qn⟩ := h
  refine ⟨_, (pss_one (ps_try_as (i := 1) rfl rfl scSaid9.nd rfl rfl ⟨rfl, by decide, .inl gB⟩ takes0 (fun W pn xe tk _ => pss_one (ps_ret (pe_callX RE.G (hr.mono (by omega)) (by rfl) RE.m RE.k RE.b (fun σ => passAt tk σ) (pa_cons (pv 0) pa_nil))))
      (fun a oe cls d pn hz hf => pss_one (ps_ret (pe_tup (pa_cons (pe_callE hz hf GR ⟨(hr.mono (by omega : 2 ≤ 56)).dp, (hr.mono (by omega : 2 ≤ 56)).un⟩ rfl mR kR bR (pa_cons (pv 1) pa_nil)) (pa_cons (pe_xf XF noR hz hf (pv 1)) pa_nil))))))), ?_⟩
  refine ⟨_, rfl, z, o, rfl, hz, hM, fun e he v H1 s1 tv => q e he v H1 s1 tv, fun hn d H1 s1 hd => ?_⟩
  refine ⟨true, te, fun _ a0 _ => ?_, fun z => Bool.noConfusion z⟩
  have s2 := same_new hd (.xd [("row", .int 1)])
  have hd1 := upd_same (H := H1) (a := d) (o := .xd [("row", .int 1)])
  generalize upd H1 d (.xd [("row", .int 1)]) = H2 at s2 hd1 ⊢
  refine ⟨_, rfl, d, _, rfl, rfl, rfl, hd1, fun H3 s3 => ?_⟩
  refine ⟨_, rfl, rfl, rfl, d, _, _, rfl, s3 _ _ hd1, rfl, (by show 2 ≤ sizeLine; decide), fun p np => ?_⟩
  exact qn hn p _ (s1.trans (s2.trans (s3.trans (same_new np _)))) upd_same
theorem ok_right9 {f a1 a2 a3 : Addr} {fd d1 d2 d3 : FuncData} (F : Fun K "_law_is_right" "_law_is_right" sRight9 f fd) (PT : Fk P w K mg base 2 "_law_parts" a1 d1 ["_law_text_here"] spParts) (RD : Fk P w K mg base 3 "_law_read" a2 d2 ["_law_parts_here"] spPile) (SD : Fk P w K mg base 57 "_law_said" a3 d3 ["_law_text_here"] spSaid9) (q_repr : mg "repr" = none) : FnG P w K mg base 58 f fd ["_law_text_here"] spRight9 := by
  refine okG F scRight9 (fun vs H Q E h => ?_) (fun cdv A outer s H vs Q E gd hr h => ?_)
  · obtain ⟨s, rfl, _⟩ := h
    rfl
  obtain ⟨z, rfl, hz, q⟩ := h
  refine ⟨_, (pss_cons (ps_set (i := 1) scRight9.nd rfl (Or.inl rfl) (pe_call PT.G (hr.mono (by omega)) (by rfl) PT.m PT.k PT.b .nil pass0 (pa_cons (pv 0) pa_nil)))
    (pss_cons (ps_set (i := 2) scRight9.nd rfl (Or.inl rfl) (pe_ifExp (pt_cmpR op_isN (pv 1) pe_non (nomark _)) pe_non (pe_call RD.G (hr.mono (by omega)) (by rfl) RD.m RD.k RD.b .nil pass0 (pa_cons (pv 1) pa_nil))))
    (pss_cons (ps_set (i := 3) scRight9.nd rfl (Or.inl rfl) (pe_call SD.G (hr.mono (by omega)) (by rfl) SD.m SD.k SD.b .nil pass0 (pa_cons (pv 0) pa_nil)))
    (pss_cons (ps_set (i := 4) scRight9.nd rfl (Or.inl rfl) (pe_ifExp (pt_cmpR op_isN (pv 2) pe_non (nomark _)) (pe_tup (pa_cons pe_str (pa_cons pe_int pa_nil))) (pv 2)))
    (pss_one (ps_ret (pe_and (pe_cmpR (op_eqD hr.units) (pv 3) (pv 4) (nomark _)) (pe_one (pe_cmpR op_eq (pe_callB (call_reprD gd hr.units) (by rfl) q_repr (by decide +kernel) (pa_cons (pv 3) pa_nil)) (pe_callB (call_reprD gd hr.units) (by rfl) q_repr (by decide +kernel) (pa_cons (pv 4) pa_nil)) (nomark _)))))))))), ?_⟩
  obtain ⟨o, hP, hL⟩ := prog_law (bad := badN) kept_nm (fun s h => nameB_nm h) (cd z)
  have tok : ∀ (H1 : Hp) (p1 p2 : Addr), H1 p1 = some (.tup [.str "text", .int 1]) → H1 p2 = some (.tup [.str "text", .int 1]) → True := fun _ _ _ _ _ => trivial
  have dT : ∀ {H1 : Hp} {p1 : Addr}, H1 p1 = some (.tup [.str "text", .int 1]) → Dp K H1 (.ref p1) (.tuple [.str "text", .int 1]) := fun h => .tup (SqT.of h) (.cons (.str _) (.cons (.int _) .nil))
  have nT : Nice 2 9580 (.tuple [.str "text", .int 1]) := (nice_tup (n := 1) (ds := [.str "text", .int 1]) (.cons (nice_lit (m := 6) (by decide +kernel) (by decide +kernel)) (.cons (nice_int (by decide)) .nil))).up (by decide) (by decide)
  refine ⟨_, rfl, z, rfl, by omega, fun hbad H1 S1 => ?_, fun hok p H1 S1 np hp => ?_⟩
  · have ho : o = none := by
      rcases hL with ⟨_, h⟩ | ⟨h, _⟩
      · exact h
      · obtain ⟨x, x1, x2⟩ := hbad
        rw [h x x1] at x2
        cases x2
    subst ho
    refine ⟨_, rfl, ?_⟩
    refine ⟨rfl, _, rfl, ?_⟩
    rw [decide_eq_true rfl]
    refine iteT ?_
    refine ⟨_, rfl, z, none, rfl, by omega, hP, (fun e h => by cases h), fun _ pt H2 S2 hpt => ?_⟩
    refine ⟨_, rfl, ?_⟩
    refine ⟨rfl, _, rfl, ?_⟩
    rw [decide_eq_true rfl]
    refine iteT ?_
    refine ⟨(by show 2 ≤ sizeLine; decide), fun pd np2 => ?_⟩
    have S3 := same_new np2 (.tup [.str "text", .int 1])
    have hpd : (upd H2 pd (.tup [.str "text", .int 1])) pd = some (.tup [.str "text", .int 1]) := upd_same
    have hpt3 := S3 _ _ hpt
    generalize upd H2 pd (.tup [.str "text", .int 1]) = H3 at S3 hpd hpt3 ⊢
    have S := shw_nice nT (by decide) (by decide)
    have dp := dT hpt3
    have da := dT hpd
    refine ⟨_, rfl, _, rfl, _, _, dp, da, S.shaped, S.shaped, ?_⟩
    rw [S.refl]
    refine ⟨_, rfl, iteT ⟨_, rfl, pt, _, rfl, dp, S.sh, S.nd, S.dep, S.sz, _, rfl, pd, _, rfl, da, S.sh, S.nd, S.dep, S.sz, rfl, ?_⟩⟩
    rw [decide_eq_true rfl]
    exact q H3 (S1.trans (S2.trans S3))
  · obtain ⟨hg, ts, t1, t2, ho⟩ : (∀ x ∈ lexL (cd z), badL x = false) ∧ ∃ ts : List Tn, (∀ t ∈ ts, PtAny t) ∧ ts.map (fun t => t.txt) = ((lexL (cd z)).filter fun x => decide (x.1 ≠ 4)).map (fun x => strL x.2) ∧ o = RB badN RS0 (ts ++ [.rp]) := by
      rcases hL with ⟨⟨x, x1, x2⟩, _⟩ | h
      · rw [hok x x1] at x2; cases x2
      · exact h
    have hLx := lexL_all (cd z).length (cd z) (Nat.le_refl _)
    obtain ⟨l1, l2⟩ := lex_lens (cd z).length (cd z) (Nat.le_refl _)
    rw [cd_len] at l1
    have t30 : ∀ t ∈ ts, t.txt.length ≤ 30 := fun t ht => by
      have : t.txt ∈ ts.map (fun t => t.txt) := List.mem_map.mpr ⟨t, ht, rfl⟩
      rw [t2] at this
      obtain ⟨y, hy, e⟩ := List.mem_map.mp this
      have hy' := (List.mem_filter.mp hy).1
      rw [← e, ← cd_len, cd_strL]
      have hb := hok y hy'
      unfold badL at hb
      rw [Bool.or_eq_false_iff, Bool.or_eq_false_iff] at hb
      obtain ⟨⟨b9, b0⟩, b1⟩ := hb
      have P := hLx y hy'
      obtain ⟨c, r, ec, kc⟩ := head_kd P
      have kk := kd_in c
      by_cases k0 : y.1 = 0
      · rw [decide_eq_true k0, Bool.true_and] at b0
        have := of_decide_eq_false b0
        omega
      by_cases k1 : y.1 = 1
      · rw [decide_eq_true k1, Bool.true_and, Bool.or_eq_false_iff] at b1
        have := of_decide_eq_false b1.1
        omega
      · rcases P.one (by omega) with ⟨d, ed⟩ | ed
        · rw [ed]; show 1 ≤ 30; decide
        · rw [ed]; decide
    have eL : ptsL (lexL (cd z)) = ts.map fun t => V.str t.txt := by
      have := congrArg (List.map V.str) t2
      rw [List.map_map, List.map_map] at this
      exact this.symm
    have hfew : ts.length ≤ 500000 := by
      have := congrArg List.length t2
      rw [List.length_map, List.length_map] at this
      have h3 := List.length_filter_le (fun x : Int × List Nat => decide (x.1 ≠ 4)) (lexL (cd z))
      omega
    rw [eL] at hp
    refine ⟨_, rfl, ?_⟩
    refine ⟨rfl, _, rfl, ?_⟩
    rw [decide_eq_false (fun z => by cases z)]
    refine iteF ?_
    refine ⟨_, rfl, p, ts, rfl, hp, fun t ht => ⟨t1 t ht, t30 t ht⟩, hfew, fun v H2 S2 hv => ?_⟩
    rw [← ho] at hv
    refine ⟨_, rfl, z, o, rfl, by omega, hP, fun e he v' H3 S3 tv => ?_, fun hn pt H3 S3 hpt => ?_⟩
    · subst he
      have hf := prog_fine hP
      have hv' : TrIn H2 e v := hv
      obtain ⟨pd, rfl⟩ := hv'.ref
      obtain ⟨pt, rfl⟩ := tv.ref
      refine ⟨_, rfl, ?_⟩
      refine ⟨rfl, _, rfl, ?_⟩
      rw [decide_eq_false (fun z => by cases z)]
      refine iteF ?_
      have S := shw_nice (Ex.nice6 hf) (by decide) (by decide)
      have dp : Dp K H3 (.ref pt) e.dat := Ex.dp tv
      have da : Dp K H3 (.ref pd) e.dat := Ex.dp (hv'.same S3)
      refine ⟨_, rfl, ?_⟩
      refine ⟨_, rfl, _, rfl, _, _, dp, da, S.shaped, S.shaped, ?_⟩
      rw [S.refl]
      refine ⟨_, rfl, iteT ⟨_, rfl, pt, _, rfl, dp, S.sh, S.nd, S.dep, S.sz, _, rfl, pd, _, rfl, da, S.sh, S.nd, S.dep, S.sz, rfl, ?_⟩⟩
      rw [decide_eq_true rfl]
      exact q H3 (S1.trans (S2.trans S3))
    · subst hn
      have hv' : v = .non := hv
      subst hv'
      refine ⟨_, rfl, ?_⟩
      refine ⟨rfl, _, rfl, ?_⟩
      rw [decide_eq_true rfl]
      refine iteT ?_
      refine ⟨(by show 2 ≤ sizeLine; decide), fun pd np2 => ?_⟩
      have S4 := same_new np2 (.tup [.str "text", .int 1])
      have hpd : (upd H3 pd (.tup [.str "text", .int 1])) pd = some (.tup [.str "text", .int 1]) := upd_same
      have hpt3 := S4 _ _ hpt
      generalize upd H3 pd (.tup [.str "text", .int 1]) = H4 at S4 hpd hpt3 ⊢
      have S := shw_nice nT (by decide) (by decide)
      have dp := dT hpt3
      have da := dT hpd
      refine ⟨_, rfl, _, rfl, _, _, dp, da, S.shaped, S.shaped, ?_⟩
      rw [S.refl]
      refine ⟨_, rfl, iteT ⟨_, rfl, pt, _, rfl, dp, S.sh, S.nd, S.dep, S.sz, _, rfl, pd, _, rfl, da, S.sh, S.nd, S.dep, S.sz, rfl, ?_⟩⟩
      rw [decide_eq_true rfl]
      exact q H4 (S1.trans (S2.trans (S3.trans S4)))
end
end SH

set_option Elab.async false
set_option linter.all false
set_option maxRecDepth 100000
namespace SH
open PySem L2
abbrev sSign9 : Stmt := topS 66
abbrev sBent9 : Stmt := topS 67
abbrev sOdd9 : Stmt := topS 68
theorem scSign9 : FnScope ["_law_bag_here", "_law_some"] ["_law_bag_here"] (defScope sSign9) := ⟨rfl, rfl, rfl, by decide +kernel, rfl, by decide +kernel, by decide +kernel⟩
theorem scBent9 : FnScope ["_law_bag_here", "_law_text_here", "_law_turn", "_law_at", "_law_way"] ["_law_bag_here", "_law_text_here"] (defScope sBent9) := ⟨rfl, rfl, rfl, by decide +kernel, rfl, by decide +kernel, by decide +kernel⟩
theorem scOdd9 : FnScope ["_law_some", "_law_many"] [] (defScope sOdd9) := ⟨rfl, rfl, rfl, by decide +kernel, rfl, by decide +kernel, by decide +kernel⟩
def spSign9 : Sp := fun vs H Q _ => ∃ (b : Addr) (k : Nat), vs = [.ref b] ∧ Bag H b (k + 2) ∧ ∀ s H', Str.length s = 1 → Bag H' b k → But b H H' → Q (.str s) H'
def spBent9 : Sp := fun vs H Q _ => ∃ (b : Addr) (z : Str) (k : Nat), vs = [.ref b, .str z] ∧ z.length ≤ 100000 ∧ Bag H b (k + 12) ∧ ∀ s H', Str.length s ≤ z.length + 2 → Bag H' b k → But b H H' → Q (.str s) H'
theorem cutS_to (z : Str) (j : Nat) : cd (cutS z none (some (j : Int))) = (cd z).take (min j z.length) := by
  unfold cutS
  rw [HT.sIx_nat, HT.sIx_none]
  show ((List.take _ (List.drop 0 (cd z))).toArray).toList = _
  rw [List.toList_toArray, List.drop_zero, Nat.sub_zero]
theorem cutS_from (z : Str) (i : Nat) : cd (cutS z (some (i : Int)) none) = (cd z).drop (min i z.length) := by
  unfold cutS
  rw [HT.sIx_nat, HT.sIx_none]
  show ((List.take _ (List.drop _ (cd z))).toArray).toList = _
  rw [List.toList_toArray, ← cd_len]
  exact List.take_of_length_le (by rw [List.length_drop]; exact Nat.le_refl _)
section
variable {P : Program} {w : World} {K : PySem.W.Frag} {mg : Str → Option Value} {base : Heap}
theorem ok_sign9 {f a1 : Addr} {fd d1 : FuncData} (F : Fun K "_law_sign" "_law_sign" sSign9 f fd) (TK : Fk P w K mg base 1 "_law_take" a1 d1 ["_law_bag_here", "_law_many"] spTake) (T : Bi mg) : FnOk P w K mg base CX0 2 f fd ["_law_bag_here"] spSign9 := by
  refine F.ok scSign9 (fun vs H Q E h => ?_) (fun cdv A outer s H vs Q E hr h => ?_)
  · obtain ⟨b, k, rfl, _⟩ := h
    rfl
  obtain ⟨b, k, rfl, hB, q⟩ := h
  refine ⟨_, (pss_cons (ps_set (i := 1) scSign9.nd rfl (Or.inl rfl) pe_str)
    (pss_cons (ps_if (pt_cmpR op_gt (pe_call TK.G (hr.mono (by omega)) (by rfl) TK.m TK.k TK.b .nil pass0 (pa_cons (pv 0) (pa_cons pe_int pa_nil))) pe_int (nomark _))
      (pss_one (ps_set (i := 1) scSign9.nd rfl (Or.inl rfl) pe_str))
      pss_nil)
    (pss_one (ps_ret (pe_ix ix_str (pv 1) (pe_call TK.G (hr.mono (by omega)) (by rfl) TK.m TK.k TK.b .nil pass0 (pa_cons (pv 0) (pa_cons (pe_callB call_len (by rfl) T.len (by decide +kernel) (pa_cons (pv 1) pa_nil)) pa_nil))) (fun _ _ => rfl)))))), ?_⟩
  have hs : sizeLine = 16777216 := by decide
  have pick : ∀ (s : Str) (H1 : Hp), s.length ≤ 100 → 1 ≤ s.length → Bag H1 b (k + 1) → But b H H1 → ∀ (d : Int) (H2 : Hp), 0 ≤ d → d < (s.length : Nat) → Bag H2 b k → But b H1 H2 → ∃ c, atI s.cps.toList d = some c ∧ Q (.str (uno c)) H2 := fun s H1 h1 h2 B1 U1 d H2 d0 d1 B2 U2 => by
    obtain ⟨j, rfl⟩ : ∃ j : Nat, d = (j : Nat) := ⟨d.toNat, by omega⟩
    have hj : j < (cd s).length := by rw [cd_len]; omega
    exact ⟨(cd s)[j], atI_nat (List.getElem?_eq_getElem hj), q _ H2 rfl B2 (U1.trans U2)⟩
  refine ⟨_, rfl, b, 3, k + 1, rfl, by decide, by decide, hB, fun d H1 a1 a2 B1 U1 => ⟨_, _, rfl, rfl, _, rfl, ?_⟩⟩
  refine ite2 (fun c => ?_) (fun c => ?_)
  · refine ⟨_, rfl, _, rfl, _, rfl, _, _, rfl, ⟨by decide +kernel, rfl⟩, b, _, k, rfl, by decide +kernel, by decide +kernel, B1, fun d2 H2 c1 c2 B2 U2 => ?_⟩
    obtain ⟨c, e1, e2⟩ := pick " 01a(),+-*<=" H1 (by decide +kernel) (by decide +kernel) B1 U1 d2 H2 c1 c2 B2 U2
    exact ⟨_, d2, c, rfl, rfl, by decide +kernel, e1, e2⟩
  · refine ⟨_, rfl, _, rfl, _, rfl, _, _, rfl, ⟨by decide +kernel, rfl⟩, b, _, k, rfl, by decide +kernel, by decide +kernel, B1, fun d2 H2 c1 c2 B2 U2 => ?_⟩
    obtain ⟨c, e1, e2⟩ := pick " !\"#$&'()*+,-./0123456789:;<=>?@ABCDEFGHIJKLMNOPQRSTUVWXYZ[\\]^_`abcdefghijklmnopqrstuvwxyz{|}~\n" H1 (by decide +kernel) (by decide +kernel) B1 U1 d2 H2 c1 c2 B2 U2
    exact ⟨_, d2, c, rfl, rfl, by decide +kernel, e1, e2⟩
theorem ok_bent9 {f a1 a2 : Addr} {fd d1 d2 : FuncData} (F : Fun K "_law_bent" "_law_bent" sBent9 f fd) (TK : Fk P w K mg base 1 "_law_take" a1 d1 ["_law_bag_here", "_law_many"] spTake) (SG : Fk P w K mg base 2 "_law_sign" a2 d2 ["_law_bag_here"] spSign9) (T : Bi mg) : FnOk P w K mg base CX0 3 f fd ["_law_bag_here", "_law_text_here"] spBent9 := by
  refine F.ok scBent9 (fun vs H Q E h => ?_) (fun cdv A outer s H vs Q E hr h => ?_)
  · obtain ⟨b, z, k, rfl, _⟩ := h
    rfl
  obtain ⟨b, z, k, rfl, hz, hB, q⟩ := h
  refine ⟨_, (pss_cons (ps_for PassesOwn.never rfl (pi_range1 (by rfl) T.range (pa_cons (pe_op op_add pe_int (pe_call TK.G (hr.mono (by omega)) (by rfl) TK.m TK.k TK.b .nil pass0 (pa_cons (pv 0) (pa_cons pe_int pa_nil)))) pa_nil)) (pg_name (i := 2) scBent9.nd rfl (.inl rfl))
      (pss_cons (ps_set (i := 3) scBent9.nd rfl (Or.inl rfl) (pe_call TK.G (hr.mono (by omega)) (by rfl) TK.m TK.k TK.b .nil pass0 (pa_cons (pv 0) (pa_cons (pe_op op_add (pe_callB call_len (by rfl) T.len (by decide +kernel) (pa_cons (pv 1) pa_nil)) pe_int) pa_nil))))
    (pss_cons (ps_set (i := 4) scBent9.nd rfl (Or.inl rfl) (pe_call TK.G (hr.mono (by omega)) (by rfl) TK.m TK.k TK.b .nil pass0 (pa_cons (pv 0) (pa_cons pe_int pa_nil))))
    (pss_one (ps_set (i := 1) scBent9.nd rfl (Or.inl rfl) (pe_op op_add_str (pe_op op_add_str (pe_slice sl_str (pv 1) po_none (po_some (pv 3))) (pe_ix ix_list (pe_lst (pa_cons (pe_call SG.G (hr.mono (by omega)) (by rfl) SG.m SG.k SG.b .nil pass0 (pa_cons (pv 0) pa_nil)) (pa_cons pe_str pa_nil))) (pe_callTy call_int1 (by rfl) T.int (by decide +kernel) (pa_cons (pe_cmpR op_eq (pv 4) pe_int (nomark _)) pa_nil)) (fun _ _ => rfl))) (pe_slice sl_str (pv 1) (po_some (pe_op op_add (pv 3) (pe_callTy call_int1 (by rfl) T.int (by decide +kernel) (pa_cons (pe_cmpR op_gt (pv 4) pe_int (nomark _)) pa_nil)))) po_none)))))))
    (pss_one (ps_ret (pv 1)))), ?_⟩
  have hs : sizeLine = 16777216 := by decide
  refine ⟨_, rfl, b, 2, k + 11, rfl, by decide, by decide, hB, fun d H1 a1 a2 B1 U1 => ⟨_, _, rfl, rfl, 1 + d, rfl, by omega, by omega, ?_⟩⟩
  refine for_range (lo := 0) (n := (1 + d).toNat) (fun i σ H' => ∃ (s : Str) (y2 y3 y4 : Option V), σ = [some (.ref b), some (.str s), y2, y3, y4] ∧ s.length ≤ z.length + i ∧ Bag H' b (k + 11 - 5 * i) ∧ But b H H') ?_ ?_ ?_
  · exact ⟨z, none, none, none, rfl, Nat.le_refl _, B1, U1⟩
  · rintro i σ H2 hi ⟨s, y2, y3, y4, rfl, hl, B2, U2⟩
    have hi2 : i < 2 := by omega
    refine ⟨_, rfl, _, rfl, _, _, rfl, ⟨by omega, rfl⟩, _, _, rfl, rfl, b, _, k + 11 - 5 * (i + 1) + 3, rfl, by omega, by omega, B2.less (by omega), fun d3 H3 e1 e2 B3 U3 => ?_⟩
    refine ⟨_, rfl, b, 3, k + 11 - 5 * (i + 1) + 2, rfl, by decide, by decide, B3, fun d4 H4 f1 f2 B4 U4 => ?_⟩
    refine ⟨_, rfl, _, rfl, _, rfl, s, rfl, by omega, _, rfl, b, k + 11 - 5 * (i + 1), rfl, B4, fun s1 H5 l1 B5 U5 => ⟨(by show 2 ≤ sizeLine; decide), fun l nl => ?_⟩⟩
    have S6 := same_new nl (.lst [V.str s1, .str ""])
    have h6 : (upd H5 l (.lst [V.str s1, .str ""])) l = some (.lst [V.str s1, .str ""]) := upd_same
    have B6 := B5.same S6
    have U6 : But b H (upd H5 l (.lst [V.str s1, .str ""])) := (U2.trans (U3.trans (U4.trans U5))).trans (But.of S6)
    generalize upd H5 l (.lst [V.str s1, .str ""]) = H6 at S6 h6 B6 U6 ⊢
    refine ⟨_, rfl, rfl, .inr ⟨_, rfl, ?_⟩⟩
    obtain ⟨j, rfl⟩ : ∃ j : Nat, d3 = (j : Nat) := ⟨d3.toNat, by omega⟩
    by_cases c : d4 = 1
    · rw [decide_eq_true (by rw [c])]
      refine ⟨l, _, 1, .str "", rfl, rfl, SqL.of h6, atI_nat (j := 1) rfl, ?_⟩
      have hm : Str.length "" ≤ 1 := by decide
      refine ⟨_, _, rfl, rfl, by rw [← cd_len, cutS_to, List.length_take, cd_len]; omega, ?_⟩
      refine ⟨_, rfl, _, rfl, _, rfl, _, _, rfl, rfl, .inr ⟨_, rfl, _, _, rfl, rfl, _, rfl, s, rfl, by omega, ?_⟩⟩
      have ew : ∀ kb : Bool, ((j : Int) + (if kb = true then (1 : Int) else 0)) = ((j + (if kb = true then 1 else 0) : Nat) : Int) := fun kb => by cases kb <;> (simp)
      rw [ew]
      refine ⟨_, _, rfl, rfl, ?_, ?_⟩
      · rw [app_len, ← cd_len (cutS _ _ _), cutS_to, List.length_take, ← cd_len (cutS _ _ _), cutS_from, List.length_drop, cd_len]
        omega
      · refine ⟨_, _, _, _, rfl, ?_, B6.less (by omega), U6⟩
        rw [app_len, app_len, ← cd_len (cutS s none _), cutS_to, List.length_take, ← cd_len (cutS s _ none), cutS_from, List.length_drop, cd_len]
        by_cases c4 : 0 < d4
        · rw [decide_eq_true c4, if_pos rfl]; omega
        · rw [decide_eq_false c4, if_neg Bool.false_ne_true]; omega
    · rw [decide_eq_false (fun z => c (V.int.inj z))]
      refine ⟨l, _, 0, .str s1, rfl, rfl, SqL.of h6, atI_nat (j := 0) rfl, ?_⟩
      have hm : Str.length s1 ≤ 1 := by omega
      refine ⟨_, _, rfl, rfl, by rw [← cd_len, cutS_to, List.length_take, cd_len]; omega, ?_⟩
      refine ⟨_, rfl, _, rfl, _, rfl, _, _, rfl, rfl, .inr ⟨_, rfl, _, _, rfl, rfl, _, rfl, s, rfl, by omega, ?_⟩⟩
      have ew : ∀ kb : Bool, ((j : Int) + (if kb = true then (1 : Int) else 0)) = ((j + (if kb = true then 1 else 0) : Nat) : Int) := fun kb => by cases kb <;> (simp)
      rw [ew]
      refine ⟨_, _, rfl, rfl, ?_, ?_⟩
      · rw [app_len, ← cd_len (cutS _ _ _), cutS_to, List.length_take, ← cd_len (cutS _ _ _), cutS_from, List.length_drop, cd_len]
        omega
      · refine ⟨_, _, _, _, rfl, ?_, B6.less (by omega), U6⟩
        rw [app_len, app_len, ← cd_len (cutS s none _), cutS_to, List.length_take, ← cd_len (cutS s _ none), cutS_from, List.length_drop, cd_len]
        by_cases c4 : 0 < d4
        · rw [decide_eq_true c4, if_pos rfl]; omega
        · rw [decide_eq_false c4, if_neg Bool.false_ne_true]; omega
  · rintro σ H2 ⟨s, y2, y3, y4, rfl, hl, B2, U2⟩
    exact ⟨_, rfl, q s H2 (by omega) (B2.less (by omega)) U2⟩
end
end SH

set_option Elab.async false
set_option linter.all false
set_option maxRecDepth 100000
namespace SH
open PySem L2
/-- a text some times over; what comes is looked at there -/
theorem op_mulG {X : Cx} : OpR X (binaryOp .Mult) (fun x y H Q => ∃ (s : Str) (n : Nat), x = .str s ∧ y = .int (n : Int) ∧ MulOk s (n : Int) ∧ Q (.str (PySem.Txt.mul s (n : Int))) H) := by
  intro pins s σ H x y v u Q I rx ry h
  obtain ⟨z, n, rfl, rfl, h3, q⟩ := h
  obtain ⟨t, rfl⟩ := (show ∃ t, v = Value.str z t from rx)
  obtain ⟨t', rfl⟩ := (show ∃ t, u = Value.int n t from ry)
  refine SB.mul h3 fun tk k => ?_
  exact ⟨.str (PySem.Txt.mul z (n : Int)), H, I.tok k, ⟨tk, rfl⟩, q⟩
theorem mul_ok : MulOk "1" ((30 : Nat) : Int) ∧ MulOk "1" ((31 : Nat) : Int) ∧ MulOk "1" ((29 : Nat) : Int) := by unfold MulOk; decide +kernel
def spOdd9 : Sp := fun vs H Q _ => vs = [] ∧ ∀ (l : Addr) (ss : List Str) (H' : Hp), Same H H' → H' l = some (.lst (ss.map V.str)) → ss.length ≤ 200 → (∀ s ∈ ss, s.length ≤ 1000) → Q (.ref l) H'
/-- a list of short texts -/
def OddL (H : Hp) (l : Addr) (n : Nat) : Prop := ∃ ss : List Str, H l = some (.lst (ss.map V.str)) ∧ ss.length ≤ n ∧ ∀ s ∈ ss, s.length ≤ 1000
/-- a list, and further texts behind it -/
theorem OddL.more {H : Hp} {a l1 : Addr} {n m : Nat} {ts : List Str} {ws : List V} (hm : n + ts.length ≤ m) (hw : ws = ts.map V.str) (h : OddL H a n) (n1 : H l1 = none) (ht : ∀ s ∈ ts, s.length ≤ 1000) :
    ∃ xs : List V, (upd H l1 (.lst ws)) a = some (.lst xs) ∧ xs.length ≤ n ∧ ∀ l2, (upd H l1 (.lst ws)) l2 = none → OddL (upd (upd H l1 (.lst ws)) l2 (.lst (xs ++ ws))) l2 m ∧ Same H (upd (upd H l1 (.lst ws)) l2 (.lst (xs ++ ws))) := by
  subst hw
  obtain ⟨ss, e, h1, h2⟩ := h
  have S1 := same_new n1 (.lst (ts.map V.str))
  refine ⟨ss.map V.str, S1 _ _ e, by rw [List.length_map]; exact h1, fun l2 n2 => ⟨⟨ss ++ ts, by rw [upd_same, List.map_append], by rw [List.length_append]; omega, fun s hs => ?_⟩, S1.trans (same_new n2 _)⟩⟩
  rcases List.mem_append.mp hs with hs | hs
  · exact h2 s hs
  · exact ht s hs
section
variable {P : Program} {w : World} {K : PySem.W.Frag} {mg : Str → Option Value} {base : Heap}
theorem ok_odd9 {f : Addr} {fd : FuncData} (F : Fun K "_law_odd" "_law_odd" sOdd9 f fd) (T : Bi mg) : FnOk P w K mg base CX0 1 f fd [] spOdd9 := by
  refine F.ok scOdd9 (fun vs H Q E h => ?_) (fun cdv A outer s H vs Q E hr h => ?_)
  · obtain ⟨rfl, _⟩ := h
    rfl
  obtain ⟨rfl, q⟩ := h
  refine ⟨_, (pss_cons (ps_set (i := 0) scOdd9.nd rfl (Or.inl rfl) (pe_lst (pa_cons pe_str (pa_cons pe_str (pa_cons pe_str (pa_cons pe_str (pa_cons pe_str (pa_cons pe_str (pa_cons pe_str (pa_cons pe_str (pa_cons pe_str (pa_cons pe_str (pa_cons pe_str pa_nil)))))))))))))
    (pss_cons (ps_set (i := 0) scOdd9.nd rfl (Or.inl rfl) (pe_op op_cat (pv 0) (pe_lst (pa_cons pe_str (pa_cons pe_str (pa_cons pe_str (pa_cons pe_str (pa_cons pe_str (pa_cons pe_str (pa_cons pe_str (pa_cons pe_str (pa_cons pe_str (pa_cons pe_str (pa_cons pe_str (pa_cons pe_str pa_nil)))))))))))))))
    (pss_cons (ps_set (i := 0) scOdd9.nd rfl (Or.inl rfl) (pe_op op_cat (pv 0) (pe_lst (pa_cons pe_str (pa_cons pe_str (pa_cons pe_str (pa_cons pe_str (pa_cons pe_str (pa_cons pe_str (pa_cons pe_str (pa_cons pe_str (pa_cons pe_str (pa_cons pe_str (pa_cons pe_str (pa_cons pe_str (pa_cons pe_str (pa_cons pe_str pa_nil)))))))))))))))))
    (pss_cons (ps_set (i := 0) scOdd9.nd rfl (Or.inl rfl) (pe_op op_cat (pv 0) (pe_lst (pa_cons pe_str (pa_cons pe_str pa_nil)))))
    (pss_cons (ps_set (i := 0) scOdd9.nd rfl (Or.inl rfl) (pe_op op_cat (pv 0) (pe_lst (pa_cons (pe_op op_mulG pe_str pe_int) (pa_cons (pe_op op_mulG pe_str pe_int) (pa_cons (pe_op op_add_str pe_str (pe_op op_mulG pe_str pe_int)) (pa_cons pe_str (pa_cons pe_str (pa_cons pe_str (pa_cons pe_str pa_nil))))))))))
    (pss_cons (ps_for PassesOwn.never rfl (pi_list (pe_lst (pa_cons pe_int (pa_cons pe_int pa_nil)))) (pg_name (i := 1) scOdd9.nd rfl (.inl rfl))
      (pss_one (ps_set (i := 0) scOdd9.nd rfl (Or.inl rfl) (pe_op op_cat (pv 0) (pe_lst (pa_cons (pe_op op_add_str pe_str (pe_op op_mulG pe_str (pv 1))) (pa_cons (pe_op op_add_str (pe_op op_add_str (pe_op op_mulG pe_str (pv 1)) pe_str) (pe_op op_mulG pe_str (pv 1))) (pa_cons (pe_op op_add_str (pe_op op_add_str pe_str (pe_op op_mulG pe_str (pv 1))) pe_str) pa_nil))))))))
    (pss_one (ps_ret (pe_op op_cat (pv 0) (pe_lc (own := [("_law_many", 1)]) (g := gName 1) (tt := tYes) (by rfl) scOdd9.nd (pi_list (pe_lst (pa_cons pe_int (pa_cons pe_int (pa_cons pe_int (pa_cons pe_int pa_nil)))))) (blkOk_by (own := [("_law_many", 1)]) (N := ["_law_some", "_law_many"]) (sc := defScope sOdd9) (by decide +kernel)) (fun _ _ _ _ _ => pg_name (i := 1) scOdd9.nd rfl (Or.inl rfl)) (fun _ _ _ _ _ => pts_nil) (fun _ _ _ _ _ => (pe_op op_add_str (pe_op op_add_str (pe_op op_mulG pe_str (pv 1)) pe_str) (pe_op op_mulG pe_str (pv 1)))))))))))))), ?_⟩
  have hs : sizeLine = 16777216 := by decide
  refine ⟨(by decide), fun l0 n0 => ?_⟩
  have S0 := same_new n0 (.lst [V.str "", .str " ", .str "1 < 2 < 3", .str "1 == 2 < 3", .str "(1 < 2) < 3", .str "1 < (2 == 3)", .str "1 < 2 + 3", .str "01", .str "00", .str "0", .str "1 1"])
  have O0 : OddL (upd H l0 (.lst [V.str "", .str " ", .str "1 < 2 < 3", .str "1 == 2 < 3", .str "(1 < 2) < 3", .str "1 < (2 == 3)", .str "1 < 2 + 3", .str "01", .str "00", .str "0", .str "1 1"])) l0 11 := ⟨[("" : Str), " ", "1 < 2 < 3", "1 == 2 < 3", "(1 < 2) < 3", "1 < (2 == 3)", "1 < 2 + 3", "01", "00", "0", "1 1"], upd_same, by decide, by decide +kernel⟩
  have q0 : ∀ (l : Addr) (ss : List Str) (H' : Hp), Same H H' → H' l = some (.lst (ss.map V.str)) → ss.length ≤ 200 → (∀ s ∈ ss, s.length ≤ 1000) → Q (.ref l) H' := q
  generalize upd H l0 (.lst [V.str "", .str " ", .str "1 < 2 < 3", .str "1 == 2 < 3", .str "(1 < 2) < 3", .str "1 < (2 == 3)", .str "1 < 2 + 3", .str "01", .str "00", .str "0", .str "1 1"]) = H0 at S0 O0 ⊢
  refine ⟨_, rfl, (by decide), fun a1 na1 => ?_⟩
  obtain ⟨x1, e1, z1, g1⟩ := OddL.more (l1 := a1) (ws := [V.str "end", .str "ends", .str "room", .str "abcdefgh", .str "abcdefghi", .str "a1", .str "1a", .str "room0", .str "=", .str "a = b", .str "a === b", .str "a==b"]) (ts := [("end" : Str), "ends", "room", "abcdefgh", "abcdefghi", "a1", "1a", "room0", "=", "a = b", "a === b", "a==b"]) (n := 11) (m := 23) (by decide) rfl O0 na1 (by decide +kernel)
  refine ⟨l0, a1, _, _, rfl, rfl, e1, upd_same, ?_, fun l1 n1 => ?_⟩
  · show x1.length + 12 ≤ sizeLine
    omega
  obtain ⟨O1, S1⟩ := g1 l1 n1
  have T1 := S0.trans S1
  clear S1
  have S1 := T1
  generalize upd (upd H0 a1 (.lst [V.str "end", .str "ends", .str "room", .str "abcdefgh", .str "abcdefghi", .str "a1", .str "1a", .str "room0", .str "=", .str "a = b", .str "a === b", .str "a==b"])) l1 (.lst (x1 ++ [V.str "end", .str "ends", .str "room", .str "abcdefgh", .str "abcdefghi", .str "a1", .str "1a", .str "room0", .str "=", .str "a = b", .str "a === b", .str "a==b"])) = H1 at O1 S1 ⊢
  refine ⟨_, rfl, (by decide), fun a2 na2 => ?_⟩
  obtain ⟨x2, e2, z2, g2⟩ := OddL.more (l1 := a2) (ws := [V.str "-1", .str "+", .str "1 +", .str "* 2", .str "(1", .str "1)", .str "()", .str ")(", .str "(1)(2)", .str "f(1)", .str "1, 2", .str "A", .str "a_b", .str "1.5"]) (ts := [("-1" : Str), "+", "1 +", "* 2", "(1", "1)", "()", ")(", "(1)(2)", "f(1)", "1, 2", "A", "a_b", "1.5"]) (n := 23) (m := 37) (by decide) rfl O1 na2 (by decide +kernel)
  refine ⟨l1, a2, _, _, rfl, rfl, e2, upd_same, ?_, fun l2 n2 => ?_⟩
  · show x2.length + 14 ≤ sizeLine
    omega
  obtain ⟨O2, S2⟩ := g2 l2 n2
  have T2 := S1.trans S2
  clear S2
  have S2 := T2
  generalize upd (upd H1 a2 (.lst [V.str "-1", .str "+", .str "1 +", .str "* 2", .str "(1", .str "1)", .str "()", .str ")(", .str "(1)(2)", .str "f(1)", .str "1, 2", .str "A", .str "a_b", .str "1.5"])) l2 (.lst (x2 ++ [V.str "-1", .str "+", .str "1 +", .str "* 2", .str "(1", .str "1)", .str "()", .str ")(", .str "(1)(2)", .str "f(1)", .str "1, 2", .str "A", .str "a_b", .str "1.5"])) = H2 at O2 S2 ⊢
  refine ⟨_, rfl, (by decide), fun a3 na3 => ?_⟩
  obtain ⟨x3, e3, z3, g3⟩ := OddL.more (l1 := a3) (ws := [V.str "\n1", .str "1\n"]) (ts := [("\n1" : Str), "1\n"]) (n := 37) (m := 39) (by decide) rfl O2 na3 (by decide +kernel)
  refine ⟨l2, a3, _, _, rfl, rfl, e3, upd_same, ?_, fun l3 n3 => ?_⟩
  · show x3.length + 2 ≤ sizeLine
    omega
  obtain ⟨O3, S3⟩ := g3 l3 n3
  have T3 := S2.trans S3
  clear S3
  have S3 := T3
  generalize upd (upd H2 a3 (.lst [V.str "\n1", .str "1\n"])) l3 (.lst (x3 ++ [V.str "\n1", .str "1\n"])) = H3 at O3 S3 ⊢
  have m1 : MulOk "1" ((30 : Nat) : Int) := mul_ok.1
  have m2 : MulOk "1" ((31 : Nat) : Int) := mul_ok.2.1
  have m3 : MulOk "1" ((29 : Nat) : Int) := mul_ok.2.2
  refine ⟨_, rfl, "1", 30, rfl, rfl, m1, "1", 31, rfl, rfl, m2, "1", 29, rfl, rfl, m3, _, _, rfl, rfl, by decide +kernel, by decide, fun a4 na4 => ?_⟩
  obtain ⟨x4, e4, z4, g4⟩ := OddL.more (l1 := a4) (ws := [V.str (PySem.Txt.mul "1" ((30 : Nat) : Int)), .str (PySem.Txt.mul "1" ((31 : Nat) : Int)), .str (("0" : Str) ++ PySem.Txt.mul "1" ((29 : Nat) : Int)), .str "a + b - c * d", .str "a - (b - c)", .str "a < b == c", .str "a < - b"]) (ts := [PySem.Txt.mul "1" ((30 : Nat) : Int), PySem.Txt.mul "1" ((31 : Nat) : Int), ("0" : Str) ++ PySem.Txt.mul "1" ((29 : Nat) : Int), "a + b - c * d", "a - (b - c)", "a < b == c", "a < - b"]) (n := 39) (m := 46) (by decide) rfl O3 na4 (by decide +kernel)
  refine ⟨l3, a4, _, _, rfl, rfl, e4, upd_same, ?_, fun l4 n4 => ?_⟩
  · show x4.length + 7 ≤ sizeLine
    omega
  obtain ⟨O4, S4'⟩ := g4 l4 n4
  have S4 := S3.trans S4'
  clear S4'
  generalize upd (upd H3 a4 (.lst [V.str (PySem.Txt.mul "1" ((30 : Nat) : Int)), .str (PySem.Txt.mul "1" ((31 : Nat) : Int)), .str (("0" : Str) ++ PySem.Txt.mul "1" ((29 : Nat) : Int)), .str "a + b - c * d", .str "a - (b - c)", .str "a < b == c", .str "a < - b"])) l4 (.lst (x4 ++ [V.str (PySem.Txt.mul "1" ((30 : Nat) : Int)), .str (PySem.Txt.mul "1" ((31 : Nat) : Int)), .str (("0" : Str) ++ PySem.Txt.mul "1" ((29 : Nat) : Int)), .str "a + b - c * d", .str "a - (b - c)", .str "a < b == c", .str "a < - b"])) = H4 at O4 S4 ⊢
  refine ⟨by decide, fun lf nf => ?_⟩
  have hlf : (upd H4 lf (.lst [.int 5, .int 6])) lf = some (.lst [.int 5, .int 6]) := upd_same
  have Sf := same_new nf (.lst [.int 5, .int 6])
  have Of : OddL (upd H4 lf (.lst [.int 5, .int 6])) l4 46 := let ⟨ss, a, b, c⟩ := O4; ⟨ss, Sf _ _ a, b, c⟩
  have SF := S4.trans Sf
  generalize upd H4 lf (.lst [.int 5, .int 6]) = H5 at hlf Of SF ⊢
  refine ⟨lf, rfl, ⟨_, SqL.of hlf⟩, for_list (K := K) (xs := [.int 5, .int 6]) (fun i σ H' => ∃ (l : Addr) (y : Option V), σ = [some (.ref l), y] ∧ Same H H' ∧ OddL H' l (46 + 3 * i) ∧ H' lf = some (.lst [.int 5, .int 6])) ⟨l4, none, rfl, SF, Of, hlf⟩ (fun i σ H' _ h => by obtain ⟨_, _, _, _, _, h⟩ := h; exact SqL.of h) ?_ ?_⟩
  · rintro i x σ H6 hx ⟨l, y, rfl, S6, O6, h6⟩
    match i, hx with
    | 0, hx =>
      cases hx
      have k1 : MulOk " + 1" ((5 : Nat) : Int) := by unfold MulOk; decide +kernel
      have k2 : MulOk "1 - (" ((5 : Nat) : Int) := by unfold MulOk; decide +kernel
      have k3 : MulOk ")" ((5 : Nat) : Int) := by unfold MulOk; decide +kernel
      have k4 : MulOk " * 1" ((5 : Nat) : Int) := by unfold MulOk; decide +kernel
      refine ⟨_, rfl, _, rfl, " + 1", 5, rfl, rfl, k1, _, _, rfl, rfl, by decide +kernel, _, rfl, "1 - (", 5, rfl, rfl, k2, _, _, rfl, rfl, by decide +kernel, _, rfl, ")", 5, rfl, rfl, k3, _, _, rfl, rfl, by decide +kernel, _, rfl, " * 1", 5, rfl, rfl, k4, _, _, rfl, rfl, by decide +kernel, _, _, rfl, rfl, by decide +kernel, by decide, fun a na => ?_⟩
      obtain ⟨xx, e1, z1, g1⟩ := OddL.more (l1 := a) (ws := [V.str (("1" : Str) ++ PySem.Txt.mul " + 1" ((5 : Nat) : Int)), .str (PySem.Txt.mul "1 - (" ((5 : Nat) : Int) ++ "1" ++ PySem.Txt.mul ")" ((5 : Nat) : Int)), .str (("1" : Str) ++ PySem.Txt.mul " * 1" ((5 : Nat) : Int) ++ " < 2")]) (ts := [(("1" : Str) ++ PySem.Txt.mul " + 1" ((5 : Nat) : Int)), (PySem.Txt.mul "1 - (" ((5 : Nat) : Int) ++ "1" ++ PySem.Txt.mul ")" ((5 : Nat) : Int)), (("1" : Str) ++ PySem.Txt.mul " * 1" ((5 : Nat) : Int) ++ " < 2")]) (n := 46 + 3 * 0) (m := 46 + 3 * (0 + 1)) (by decide) rfl O6 na (by decide +kernel)
      refine ⟨l, a, _, _, rfl, rfl, e1, upd_same, ?_, fun l2 n2 => ?_⟩
      · show xx.length + 3 ≤ sizeLine
        omega
      obtain ⟨O7, S7⟩ := g1 l2 n2
      exact ⟨l2, _, rfl, S6.trans S7, O7, S7 _ _ h6⟩
    | 1, hx =>
      cases hx
      have k1 : MulOk " + 1" ((6 : Nat) : Int) := by unfold MulOk; decide +kernel
      have k2 : MulOk "1 - (" ((6 : Nat) : Int) := by unfold MulOk; decide +kernel
      have k3 : MulOk ")" ((6 : Nat) : Int) := by unfold MulOk; decide +kernel
      have k4 : MulOk " * 1" ((6 : Nat) : Int) := by unfold MulOk; decide +kernel
      refine ⟨_, rfl, _, rfl, " + 1", 6, rfl, rfl, k1, _, _, rfl, rfl, by decide +kernel, _, rfl, "1 - (", 6, rfl, rfl, k2, _, _, rfl, rfl, by decide +kernel, _, rfl, ")", 6, rfl, rfl, k3, _, _, rfl, rfl, by decide +kernel, _, rfl, " * 1", 6, rfl, rfl, k4, _, _, rfl, rfl, by decide +kernel, _, _, rfl, rfl, by decide +kernel, by decide, fun a na => ?_⟩
      obtain ⟨xx, e1, z1, g1⟩ := OddL.more (l1 := a) (ws := [V.str (("1" : Str) ++ PySem.Txt.mul " + 1" ((6 : Nat) : Int)), .str (PySem.Txt.mul "1 - (" ((6 : Nat) : Int) ++ "1" ++ PySem.Txt.mul ")" ((6 : Nat) : Int)), .str (("1" : Str) ++ PySem.Txt.mul " * 1" ((6 : Nat) : Int) ++ " < 2")]) (ts := [(("1" : Str) ++ PySem.Txt.mul " + 1" ((6 : Nat) : Int)), (PySem.Txt.mul "1 - (" ((6 : Nat) : Int) ++ "1" ++ PySem.Txt.mul ")" ((6 : Nat) : Int)), (("1" : Str) ++ PySem.Txt.mul " * 1" ((6 : Nat) : Int) ++ " < 2")]) (n := 46 + 3 * 1) (m := 46 + 3 * (1 + 1)) (by decide) rfl O6 na (by decide +kernel)
      refine ⟨l, a, _, _, rfl, rfl, e1, upd_same, ?_, fun l2 n2 => ?_⟩
      · show xx.length + 3 ≤ sizeLine
        omega
      obtain ⟨O7, S7⟩ := g1 l2 n2
      exact ⟨l2, _, rfl, S6.trans S7, O7, S7 _ _ h6⟩
    | i + 2, hx => cases hx
  · rintro σ H6 ⟨l, y, rfl, S6, O6, h6⟩
    refine ⟨_, rfl, (by decide), fun lc nc => ?_⟩
    have hlc : (upd H6 lc (.lst [.int 7, .int 8, .int 9, .int 30])) lc = some (.lst [.int 7, .int 8, .int 9, .int 30]) := upd_same
    have Sc := same_new nc (.lst [.int 7, .int 8, .int 9, .int 30])
    generalize upd H6 lc (.lst [.int 7, .int 8, .int 9, .int 30]) = H7 at hlc Sc ⊢
    refine ⟨lc, rfl, ⟨_, SqL.of hlc⟩, fun D hD => ?_⟩
    refine lc_list (K := K) (a := lc) (xs := [.int 7, .int 8, .int 9, .int 30]) (fun j H' => H' D = some (.lst ((([PySem.Txt.mul "(" ((7 : Nat) : Int) ++ "x" ++ PySem.Txt.mul ")" ((7 : Nat) : Int), PySem.Txt.mul "(" ((8 : Nat) : Int) ++ "x" ++ PySem.Txt.mul ")" ((8 : Nat) : Int), PySem.Txt.mul "(" ((9 : Nat) : Int) ++ "x" ++ PySem.Txt.mul ")" ((9 : Nat) : Int), PySem.Txt.mul "(" ((30 : Nat) : Int) ++ "x" ++ PySem.Txt.mul ")" ((30 : Nat) : Int)] : List Str).take j).map V.str)) ∧ Same H7 H') ⟨upd_same, same_new hD _⟩ (fun j H' _ h => SqL.of (h.2 _ _ hlc)) ?_ ?_
    · rintro j x H8 hx ⟨d2, S2⟩
      match j, hx with
      | 0, hx =>
      cases hx
      have k1 : MulOk "(" ((7 : Nat) : Int) := by unfold MulOk; decide +kernel
      have k2 : MulOk ")" ((7 : Nat) : Int) := by unfold MulOk; decide +kernel
      refine ⟨rfl, ?_⟩
      refine ⟨_, rfl, "(", 7, rfl, rfl, k1, _, _, rfl, rfl, by decide +kernel, _, rfl, ")", 7, rfl, rfl, k2, _, _, rfl, rfl, by decide +kernel, _, d2, by decide, upd_same, fun b u e => ?_⟩
      rw [upd_ne (ne_of_none e hD)]
      exact S2 _ _ e
      | 1, hx =>
      cases hx
      have k1 : MulOk "(" ((8 : Nat) : Int) := by unfold MulOk; decide +kernel
      have k2 : MulOk ")" ((8 : Nat) : Int) := by unfold MulOk; decide +kernel
      refine ⟨rfl, ?_⟩
      refine ⟨_, rfl, "(", 8, rfl, rfl, k1, _, _, rfl, rfl, by decide +kernel, _, rfl, ")", 8, rfl, rfl, k2, _, _, rfl, rfl, by decide +kernel, _, d2, by decide, upd_same, fun b u e => ?_⟩
      rw [upd_ne (ne_of_none e hD)]
      exact S2 _ _ e
      | 2, hx =>
      cases hx
      have k1 : MulOk "(" ((9 : Nat) : Int) := by unfold MulOk; decide +kernel
      have k2 : MulOk ")" ((9 : Nat) : Int) := by unfold MulOk; decide +kernel
      refine ⟨rfl, ?_⟩
      refine ⟨_, rfl, "(", 9, rfl, rfl, k1, _, _, rfl, rfl, by decide +kernel, _, rfl, ")", 9, rfl, rfl, k2, _, _, rfl, rfl, by decide +kernel, _, d2, by decide, upd_same, fun b u e => ?_⟩
      rw [upd_ne (ne_of_none e hD)]
      exact S2 _ _ e
      | 3, hx =>
      cases hx
      have k1 : MulOk "(" ((30 : Nat) : Int) := by unfold MulOk; decide +kernel
      have k2 : MulOk ")" ((30 : Nat) : Int) := by unfold MulOk; decide +kernel
      refine ⟨rfl, ?_⟩
      refine ⟨_, rfl, "(", 30, rfl, rfl, k1, _, _, rfl, rfl, by decide +kernel, _, rfl, ")", 30, rfl, rfl, k2, _, _, rfl, rfl, by decide +kernel, _, d2, by decide, upd_same, fun b u e => ?_⟩
      rw [upd_ne (ne_of_none e hD)]
      exact S2 _ _ e
      | j + 4, hx => cases hx
    · rintro H8 ⟨d2, S2⟩
      obtain ⟨ss, o1, o2, o3⟩ := O6
      refine ⟨l, D, _, _, rfl, rfl, S2 _ _ (Sc _ _ o1), d2, ?_, fun lr nr => ?_⟩
      · rw [List.length_map]
        show ss.length + 4 ≤ sizeLine
        have : ss.length ≤ 46 + 3 * 2 := o2
        omega
      · refine q lr (ss ++ [PySem.Txt.mul "(" ((7 : Nat) : Int) ++ "x" ++ PySem.Txt.mul ")" ((7 : Nat) : Int), PySem.Txt.mul "(" ((8 : Nat) : Int) ++ "x" ++ PySem.Txt.mul ")" ((8 : Nat) : Int), PySem.Txt.mul "(" ((9 : Nat) : Int) ++ "x" ++ PySem.Txt.mul ")" ((9 : Nat) : Int), PySem.Txt.mul "(" ((30 : Nat) : Int) ++ "x" ++ PySem.Txt.mul ")" ((30 : Nat) : Int)]) _ (S6.trans (Sc.trans (S2.trans (same_new nr _)))) (by rw [upd_same, List.map_append]; rfl) ?_ (fun s hs' => ?_)
        · rw [List.length_append]
          have : ss.length ≤ 46 + 3 * 2 := o2
          show ss.length + 4 ≤ 200
          omega
        · rcases List.mem_append.mp hs' with h | h
          · exact o3 s h
          · have key : ∀ s ∈ ([PySem.Txt.mul "(" ((7 : Nat) : Int) ++ "x" ++ PySem.Txt.mul ")" ((7 : Nat) : Int), PySem.Txt.mul "(" ((8 : Nat) : Int) ++ "x" ++ PySem.Txt.mul ")" ((8 : Nat) : Int), PySem.Txt.mul "(" ((9 : Nat) : Int) ++ "x" ++ PySem.Txt.mul ")" ((9 : Nat) : Int), PySem.Txt.mul "(" ((30 : Nat) : Int) ++ "x" ++ PySem.Txt.mul ")" ((30 : Nat) : Int)] : List Str), s.length ≤ 1000 := by decide +kernel
            exact key s h
end
end SH

set_option Elab.async false
set_option linter.all false
set_option maxRecDepth 100000
namespace SH
open PySem L2
abbrev sLaw : Stmt := topS 71
theorem scLaw : FnScope ["_law_script", "_law_k", "_law_bag_here", "_law_names_here", "_law_deep", "_law_text_here", "_law_turn"] ["_law_script"] (defScope sLaw) := ⟨rfl, rfl, rfl, by decide +kernel, rfl, by decide +kernel, by decide +kernel⟩
structure FkG (P : Program) (w : World) (K : PySem.W.Frag) (mg : Str → Option Value) (base : Heap) (lv : Nat) (x : Str) (f : Addr) (fd : FuncData) (ps : List Str) (sp : Sp) : Prop where
  G : FnG P w K mg base lv f fd ps sp
  m : mg x = some (.ref f)
  k : PySem.W.keepIn K (.ref f) = true
  b : Binds K fd ps []
theorem fresh_but {b : Addr} {H0 H1 H2 : Hp} (s : Same H0 H1) (hb : H0 b = none) (u : But b H1 H2) : Same H0 H2 := fun a o e => u a o (ne_of_none e hb) (s a o e)
theorem dp8_lt : ∀ {n : Nat} {e : Ex}, Ex.fine n e → e.dp8 + 1 ≤ n
  | 0, _, h => h.elim
  | n + 1, .num _, _ => by show 0 + 1 ≤ n + 1; omega
  | n + 1, .nam _, _ => by show 0 + 1 ≤ n + 1; omega
  | n + 1, .op _ l r, h => by
    have h1 := dp8_lt h.1
    have h2 := dp8_lt h.2
    show 1 + max l.dp8 r.dp8 + 1 ≤ n + 1
    omega
section
variable {P : Program} {w : World} {K : PySem.W.Frag} {mg : Str → Option Value} {base : Heap}
theorem ok_law {f fB fN fR fK fL fE fO fI : Addr} {fd dB dN dR dK dL dE dO dI : FuncData} (F : Fun K "law" "law" sLaw f fd) (BG : Fk P w K mg base 1 "_law_bag" fB dB ["_law_script", "_law_k"] (spBag K)) (NM : Fk P w K mg base 2 "_law_names" fN dN ["_law_bag_here", "_law_many"] spNames)
    (TR : Fk P w K mg base 8 "_law_tree" fR dR ["_law_bag_here", "_law_names_here", "_law_deep"] (spTrees 6))
    (BK : Fk P w K mg base 20 "_law_bracketed" fK dK ["_law_bag_here", "_law_tree_here", "_law_nested"] (spBrk 6)) (BL : Fk P w K mg base 2 "_law_blanked" fL dL ["_law_bag_here", "_law_parts_here"] spBlk) (BE : Fk P w K mg base 3 "_law_bent" fE dE ["_law_bag_here", "_law_text_here"] spBent9) (OD : Fk P w K mg base 1 "_law_odd" fO dO [] spOdd9) (IR : FkG P w K mg base 58 "_law_is_right" fI dI ["_law_text_here"] spRight9) (T : Bi mg) : FnG P w K mg base 59 f fd ["_law_script"] (spLaw K) := by
  refine okG F scLaw (fun vs H Q E h => ?_) (fun cdv A outer s H vs Q E gd hr h => ?_)
  · obtain ⟨a, ns, rfl, _⟩ := h
    rfl
  obtain ⟨a, ns, rfl, hS, h63, q⟩ := h
  refine ⟨_, (pss_cons (ps_for PassesOwn.never rfl (pi_range1 (by rfl) T.range (pa_cons (pe_callB (call_max2 rfl) (by rfl) T.max (by decide +kernel) (pa_cons pe_int (pa_cons (pe_callB (call_min2 rfl) (by rfl) T.min (by decide +kernel) (pa_cons pe_int (pa_cons (pe_callB call_len_seq (by rfl) T.len (by decide +kernel) (pa_cons (pv 0) pa_nil)) pa_nil))) pa_nil))) pa_nil)) (pg_name (i := 1) scLaw.nd rfl (.inl rfl))
      (pss_cons (ps_set (i := 2) scLaw.nd rfl (Or.inl rfl) (pe_call BG.G (hr.mono (by omega)) (by rfl) BG.m BG.k BG.b .nil pass0 (pa_cons (pv 0) (pa_cons (pv 1) pa_nil))))
    (pss_cons (ps_set (i := 3) scLaw.nd rfl (Or.inl rfl) (pe_call NM.G (hr.mono (by omega)) (by rfl) NM.m NM.k NM.b .nil pass0 (pa_cons (pv 2) (pa_cons pe_int pa_nil))))
    (pss_one (ps_for PassesOwn.never rfl (pi_list (pe_lst (pa_cons pe_int (pa_cons pe_int (pa_cons pe_int pa_nil))))) (pg_name (i := 4) scLaw.nd rfl (.inl rfl))
      (pss_cons (ps_set (i := 5) scLaw.nd rfl (Or.inl rfl) (pe_call BL.G (hr.mono (by omega)) (by rfl) BL.m BL.k BL.b .nil pass0 (pa_cons (pv 2) (pa_cons (pe_call BK.G (hr.mono (by omega)) (by rfl) BK.m BK.k BK.b .nil pass0 (pa_cons (pv 2) (pa_cons (pe_call TR.G (hr.mono (by omega)) (by rfl) TR.m TR.k TR.b .nil pass0 (pa_cons (pv 2) (pa_cons (pv 3) (pa_cons (pv 4) pa_nil)))) (pa_cons pe_int pa_nil)))) pa_nil))))
    (pss_one (ps_for PassesOwn.never rfl (pi_range1 (by rfl) T.range (pa_cons pe_int pa_nil)) (pg_name (i := 6) scLaw.nd rfl (.inl rfl))
      (pss_one (ps_if (pt_not (pt_val (pe_callG IR.G gd (hr.mono (by omega)) (by rfl) IR.m IR.k IR.b (pa_cons (pe_call BE.G (hr.mono (by omega)) (by rfl) BE.m BE.k BE.b .nil pass0 (pa_cons (pv 2) (pa_cons (pv 5) pa_nil))) pa_nil))))
      (pss_one (ps_ret pe_bl))
      pss_nil))))))))))
    (pss_one (ps_ret (pe_callB (cr_all rfl) (by rfl) T.all (by decide +kernel) (pa_cons (pe_lc (own := [("_law_text_here", 5)]) (g := gName 5) (tt := tYes) (by rfl) scLaw.nd (pi_list (pe_call0 OD.G (hr.mono (by omega)) (by rfl) OD.m OD.k OD.b .nil pass0)) (blkOk_by (own := [("_law_text_here", 5)]) (N := ["_law_script", "_law_k", "_law_bag_here", "_law_names_here", "_law_deep", "_law_text_here", "_law_turn"]) (sc := defScope sLaw) (by decide +kernel)) (fun _ _ _ _ _ => pg_name (i := 5) scLaw.nd rfl (Or.inl rfl)) (fun _ _ _ _ _ => pts_nil) (fun _ _ _ _ _ => (pe_callG IR.G gd (hr.mono (by omega)) (by rfl) IR.m IR.k IR.b (pa_cons (pv 5) pa_nil)))) pa_nil))))), ?_⟩
  have hs : sizeLine = 16777216 := by decide
  have hnum : ∃ N : Int, N = (if (if ((ns.map V.int).length : Int) < 5 then ((ns.map V.int).length : Int) else 5) > 2 then (if ((ns.map V.int).length : Int) < 5 then ((ns.map V.int).length : Int) else 5) else 2) ∧ 0 ≤ N ∧ N ≤ 5 := by
    refine ⟨_, rfl, ?_, ?_⟩ <;> (split <;> (try split) <;> omega)
  obtain ⟨N, eN, N0, N5⟩ := hnum
  refine ⟨_, rfl, a, _, rfl, .inl hS, _, _, rfl, _, _, rfl, N, (by rw [eN]), by omega, by omega, ?_⟩
  refine for_range (lo := 0) (n := N.toNat) (fun i σ H' => ∃ (y1 y2 y3 y4 y5 y6 : Option V), σ = [some (.ref a), y1, y2, y3, y4, y5, y6] ∧ Same H H') ?_ ?_ ?_
  · exact ⟨none, none, none, none, none, none, rfl, Same.refl H⟩
  · rintro i σ H1 hi ⟨y1, y2, y3, y4, y5, y6, rfl, sH⟩
    refine ⟨_, rfl, _, rfl, a, ns, 0 + (i : Int), rfl, sH.seq hS, by omega, by omega, fun b H2 s2 nb B2 => ?_⟩
    refine ⟨_, rfl, b, 3, 900000, rfl, by decide, B2.less (by decide), fun pn nm H3 npn hpn lnm okn B3 U3 => ?_⟩
    have s3 : Same H1 H3 := fresh_but s2 nb U3
    have npb : pn ≠ b := fun z => by obtain ⟨ys, hy⟩ := B2.lst; rw [z, hy] at npn; cases npn
    have hnm : ∀ s ∈ nm, nmOk s := fun s hs' => (okn.each s hs').1
    have hNm : ∀ s ∈ nm, NmOk s := fun s hs' => okn.each s hs'
    refine ⟨(by decide), fun so hso => ?_⟩
    have u7 := same_new hso (.lst [.int 2, .int 3, .int 6])
    have hso7 : (upd H3 so (.lst [.int 2, .int 3, .int 6])) so = some (.lst [.int 2, .int 3, .int 6]) := upd_same
    have nsb : so ≠ b := fun z => by obtain ⟨ys, hy⟩ := B3.lst; rw [z, hy] at hso; cases hso
    have s7 := s3.trans u7
    have hpn7 := u7 _ _ hpn
    have B7 := B3.same u7
    generalize upd H3 so (.lst [.int 2, .int 3, .int 6]) = H7 at hso7 s7 hpn7 B7 ⊢
    refine ⟨so, rfl, ⟨_, SqL.of hso7⟩, for_list (K := K) (a := so) (xs := [.int 2, .int 3, .int 6]) (fun j σ H' => ∃ (z4 z5 z6 : Option V), σ = [some (.ref a), some (.int (0 + (i : Int))), some (.ref b), some (.ref pn), z4, z5, z6] ∧ H' so = some (.lst [.int 2, .int 3, .int 6]) ∧ H' pn = some (.lst (nm.map V.str)) ∧ Bag H' b (800000 - 5000 * j) ∧ Same H1 H') ⟨_, _, _, rfl, hso7, hpn7, B7.less (by decide), s7⟩ (fun j σ' H' _ h => by obtain ⟨z4, z5, z6, rfl, h1, _⟩ := h; exact SqL.of h1) ?_ ?_⟩
    · rintro j x σ' H8 hx ⟨z4, z5, z6, rfl, h1, h6, h7, h8⟩
      have hj : j < 3 := (List.getElem?_eq_some_iff.mp hx).1
      obtain ⟨dp, rfl, d0, d6, tcs⟩ : ∃ dp : Nat, x = .int (dp : Nat) ∧ 1 ≤ dp ∧ dp ≤ 6 ∧ tc dp ≤ 756 := by
        match j, hx with
        | 0, hx => cases hx; exact ⟨2, rfl, by decide, by decide, by decide⟩
        | 1, hx => cases hx; exact ⟨3, rfl, by decide, by decide, by decide⟩
        | 2, hx => cases hx; exact ⟨6, rfl, by decide, by decide, by decide⟩
        | j + 3, hx => cases hx
      refine ⟨_, rfl, _, rfl, _, rfl, _, rfl, _, rfl, dp, d6, b, pn, nm, 800000 - 5000 * j - 1000, rfl, h6, npb, by omega, hnm, by omega, h7.less (by omega), fun v e H9 te o9 B9 U9 => ?_⟩
      have fe : Ex.fine 6 e := Ex.fine_up d6 (Ex.of_fine hNm o9)
      have hnd := nds_small fe
      have hnd' : e.nds + 1 ≤ 64 := hnd
      have hd8 := dp8_lt fe
      refine ⟨b, v, 0, 800000 - 5000 * j - 1200, e, rfl, te, by omega, fe, B9.less (by omega), fun p ts H10 W => ?_⟩
      have hWl := W.len
      refine ⟨b, p, ts, 800000 - 5000 * j - 2000, rfl, W.ne, W.at_, W.tok, by omega, W.bag.less (by omega), fun s' ps H11 g1 g2 g3 g4 g5 B11 U11 => ?_⟩
      have U811 : But b H8 H11 := U9.trans (W.but.trans U11)
      have s11 : Same H1 H11 := fun c u e => U811 _ _ (ne_of_none e nb) (h8 _ _ e)
      have npb' := npb
      refine ⟨3, rfl, by decide, by decide, ?_⟩
      refine for_range (lo := 0) (n := 3) (fun t σ H' => ∃ z6 : Option V, σ = [some (.ref a), some (.int (0 + (i : Int))), some (.ref b), some (.ref pn), some (.int (dp : Nat)), some (.str s'), z6] ∧ H' so = some (.lst [.int 2, .int 3, .int 6]) ∧ H' pn = some (.lst (nm.map V.str)) ∧ Bag H' b (800000 - 5000 * j - 2000 - 20 * t) ∧ Same H1 H') ?_ ?_ ?_
      · exact ⟨_, rfl, U811 _ _ nsb h1, U811 _ _ npb h6, B11.less (by omega), s11⟩
      · rintro t σ3 H12 ht ⟨z6', rfl, k1, k2, k3, k4⟩
        refine ⟨_, rfl, _, rfl, b, s', 800000 - 5000 * j - 2000 - 20 * (t + 1), rfl, by omega, k3.less (by omega), fun z H13 lz B13 U13 => ⟨z, rfl, by omega, fun H14 S14 => ⟨_, rfl, ?_⟩⟩⟩
        refine iteF ?_
        exact ⟨_, rfl, S14 _ _ (U13 _ _ nsb k1), S14 _ _ (U13 _ _ npb k2), B13.same S14, fun c u e => S14 _ _ (U13 _ _ (ne_of_none e nb) (k4 _ _ e))⟩
      · rintro σ3 H12 ⟨z6', rfl, k1, k2, k3, k4⟩
        exact ⟨_, _, _, rfl, k1, k2, k3.less (by omega), k4⟩
    · rintro σ' H8 ⟨z4, z5, z6, rfl, h1, h6, h7, h8⟩
      exact ⟨_, _, _, _, _, _, rfl, sH.trans h8⟩
  · rintro σ H1 ⟨y1, y2, y3, y4, y5, y6, rfl, sH⟩
    refine ⟨rfl, fun l ss H2 S2 hl h200 h1000 => ⟨l, rfl, ⟨_, SqL.of hl⟩, ?_⟩⟩
    intro D hD
    refine lc_list (K := K) (a := l) (xs := ss.map V.str) (fun j H' => H' D = some (.lst ((List.replicate j true).map V.bl)) ∧ Same H2 H') ⟨upd_same, same_new hD _⟩ (fun j H' _ h => SqL.of (h.2 _ _ hl)) ?_ ?_
    · rintro j v H3 hv ⟨hD2, s2⟩
      have hj : j < (ss.map V.str).length := (List.getElem?_eq_some_iff.mp hv).1
      rw [List.length_map] at hj
      rw [List.getElem?_map, List.getElem?_eq_getElem hj] at hv
      cases hv
      have hln := h1000 _ (List.getElem_mem hj)
      refine ⟨rfl, _, rfl, ss[j], rfl, by omega, fun H4 S4 => ?_⟩
      refine ⟨_, S4 _ _ hD2, ?_, ?_, ?_⟩
      · rw [List.length_map, List.length_replicate]; omega
      · rw [upd_same, List.replicate_succ', List.map_append]; rfl
      · intro x o z
        rw [upd_ne (ne_of_none z hD)]
        exact S4 _ _ (s2 _ _ z)
    · rintro H3 ⟨hD2, s2⟩
      refine ⟨D, _, rfl, SqL.of hD2, ?_⟩
      have : (List.replicate (ss.map V.str).length true).all id = true := by
        rw [List.all_eq_true]
        intro x hx
        exact (List.mem_replicate.mp hx).2
      rw [this]
      exact q H3
end
end SH

set_option Elab.async false
set_option linter.all false
set_option maxRecDepth 100000
namespace SH
open PySem L2
section
variable {K : PySem.W.Frag} {f : Addr} {fd : FuncData}
theorem isEx_dflt (F : FunD K "is_expression" "is_expression" (defArgs sIsEx) (defBody sIsEx) (defScope sIsEx) [.int 6] [] f fd) : (∃ ds, Vals [V.int 6] ds ∧ Binds K fd ["thing", "deepest"] ds) ∧ Binds K fd ["thing", "deepest"] [] := by
  have one := F.binds1 (ps := ["thing", "deepest"]) 1 0 (by simp) rfl fun T kV doc pm an cdv ct us its h1 h2 => match us, its, h1, h2 with | [_], [_], _, _ => ⟨_, rfl, rfl⟩
  obtain ⟨ds, v, b⟩ := F.binds1 (ps := ["thing", "deepest"]) 2 1 (by simp) rfl fun T kV doc pm an cdv ct us its h1 h2 => match us, its, h1, h2 with | [_, _], [_], _, _ => ⟨_, rfl, rfl⟩
  have e : ds = [] := by
    cases v
    rfl
  exact ⟨one, e ▸ b⟩
theorem tree_dflt (F : FunD K "read_tree" "read_tree" (defArgs sTreeR) (defBody sTreeR) (defScope sTreeR) [.int 0] [] f fd) : (∃ ds, Vals [V.int 0] ds ∧ Binds K fd ["line", "brackets"] ds) ∧ Binds K fd ["line", "brackets"] [] := by
  have one := F.binds1 (ps := ["line", "brackets"]) 1 0 (by simp) rfl fun T kV doc pm an cdv ct us its h1 h2 => match us, its, h1, h2 with | [_], [_], _, _ => ⟨_, rfl, rfl⟩
  obtain ⟨ds, v, b⟩ := F.binds1 (ps := ["line", "brackets"]) 2 1 (by simp) rfl fun T kV doc pm an cdv ct us its h1 h2 => match us, its, h1, h2 with | [_, _], [_], _, _ => ⟨_, rfl, rfl⟩
  have e : ds = [] := by
    cases v
    rfl
  exact ⟨one, e ▸ b⟩
end
/-- one who has one has two: the single value of a list of one -/
theorem vals_one {v : V} {ds : List Value} (h : Vals [v] ds) : ∃ d, ds = [d] := by
  cases h with
  | cons r t => cases t; exact ⟨_, rfl⟩
section
variable {P : Program} {w : World} {K : PySem.W.Frag} {mg : Str → Option Value} {base : Heap} {CB fB' : Addr} {B newId i0 : String} {bmB : List Value}
theorem isExBs {f t l : Addr} {fd td ld : FuncData} (F : FunD K "is_expression" "is_expression" (defArgs sIsEx) (defBody sIsEx) (defScope sIsEx) [.int 6] [] f fd) (m : mg "is_expression" = some (.ref f)) (bd : Binds K fd ["thing", "deepest"] []) (TO : Fk P w K mg base 1 "is_tuple_of" t td ["thing", "many"] spTupOf) (LF : Fk P w K mg base 3 "is_leaf" l ld ["pair"] spLeaf) (G : Gf K mg) :
    ∀ n : Nat, FnOk P w K mg base CX0 (n + 3) f fd ["thing", "deepest"] (spIsExC n)
  | 0 => isExB_none
  | n + 1 => ok_isExB F TO LF ⟨isExBs F m bd TO LF G n, m, F.kp, bd⟩ G
theorem descents9 {fT fB fS fP fM a1 a2 a3 a4 a5 a6 a7 C : Addr} {dT dB dS dP dM d1 d2 d3 d4 d5 d6 d7 : FuncData} {dvs : List V} (FT : FunD K "read_tree" "read_tree" (defArgs sTreeR) (defBody sTreeR) (defScope sTreeR) dvs [] fT dT) (mT : mg "read_tree" = some (.ref fT)) (bT : Binds K dT ["line", "brackets"] [])
    (FB : Fun K "read_bracketed" "read_bracketed" sBrack fB dB) (mB : mg "read_bracketed" = some (.ref fB)) (bB : Binds K dB ["line", "brackets"] []) (FS : Fun K "read_single" "read_single" sSingle fS dS) (mS : mg "read_single" = some (.ref fS)) (bS : Binds K dS ["line", "brackets"] [])
    (FP : Fun K "read_product" "read_product" sProd fP dP) (mP : mg "read_product" = some (.ref fP)) (bP : Binds K dP ["line", "brackets"] []) (FM : Fun K "read_sum" "read_sum" sSum fM dM) (mM : mg "read_sum" = some (.ref fM)) (bM : Binds K dM ["line", "brackets"] [])
    (LT : LineT K C) (PK : FkMm P w K mg base 1 C "peek" a1 d1 ["self"] (spPeek C)) (TA : FkMm P w K mg base 2 C "take" a2 d2 ["self"] (spTakeL C)) (SK : FkMX P w K mg base 3 C "skip" a3 d3 ["self", "wanted"] (spSkip CB C)) (IF : Fk P w K mg base 1 "is_figures" a4 d4 ["part"] spFigs)
    (RN : FkX P w K mg base 3 "read_number" a5 d5 ["line", "most"] (spRdNum CB C)) (RA : FkX P w K mg base 3 "read_name" a6 d6 ["line"] (spRdName CB C)) (OP : FkX P w K mg base 10 "operation" a7 d7 ["line", "sign", "left", "right"] (spOper CB C)) (G : Gf K mg) (J : Gp K mg) (TB : SupC P K mg "BadText" "row" CB fB' B newId i0 bmB) :
    ∀ n : Nat, FnOk P w K mg base (L2.CX P w) (11 + 5 * n) fB dB ["line", "brackets"] (spBr CB C n) ∧ FnOk P w K mg base (L2.CX P w) (15 + 5 * n) fT dT ["line", "brackets"] (spRd CB C n (treeR (singR badN n))) := by
  have tree : ∀ n : Nat, FnOk P w K mg base (L2.CX P w) (11 + 5 * n) fB dB ["line", "brackets"] (spBr CB C n) → FnOk P w K mg base (L2.CX P w) (15 + 5 * n) fT dT ["line", "brackets"] (spRd CB C n (treeR (singR badN n))) := fun n h =>
    ok_treeR FT LT PK TA ⟨ok_sum FM LT PK TA ⟨ok_prod FP LT PK TA ⟨ok_single FS LT PK ⟨h, mB, FB.kp, bB⟩ IF RN RA G, mS, FS.kp, bS⟩ OP TB, mP, FP.kp, bP⟩ OP TB, mM, FM.kp, bM⟩ OP
  have none0 : FnOk P w K mg base (L2.CX P w) 10 fT dT ["line", "brackets"] (fun _ _ _ _ => False) := ⟨fun vs H Q E h => h.elim, fun A outer s H args us vs Q E _ _ _ _ h => h.elim⟩
  intro n
  induction n with
  | zero =>
    have h := brack_no FB LT SK ⟨none0, mT, FT.kp, bT⟩ J TB
    exact ⟨h, tree 0 h⟩
  | succ n ih =>
    have h := ok_brack FB LT SK ⟨ih.2, mT, FT.kp, bT⟩ J TB
    exact ⟨h, tree (n + 1) h⟩
theorem bracks {fK fW a1 a2 : Addr} {dK dW d1 d2 : FuncData} (FK : Fun K "_law_bracketed" "_law_bracketed" sBrk fK dK) (mK : mg "_law_bracketed" = some (.ref fK)) (bK : Binds K dK ["_law_bag_here", "_law_tree_here", "_law_nested"] []) (FW : Fun K "_law_within" "_law_within" sWn fW dW) (mW : mg "_law_within" = some (.ref fW)) (bW : Binds K dW ["_law_bag_here", "_law_tree_here", "_law_nested", "_law_wanted"] [])
    (TX : Fk P w K mg base 6 "_law_text" a1 d1 ["_law_tree_here"] (spText 6)) (TK : Fk P w K mg base 1 "_law_take" a2 d2 ["_law_bag_here", "_law_many"] spTake) (T : Bi mg) : ∀ n : Nat, FnOk P w K mg base CX0 (8 + 2 * n) fK dK ["_law_bag_here", "_law_tree_here", "_law_nested"] (spBrk n)
  | 0 => brk_none
  | n + 1 => ok_brk FK ⟨ok_wn FW ⟨bracks FK mK bK FW mW bW TX TK T n, mK, FK.kp, bK⟩, mW, FW.kp, bW⟩ TX TK T
end
end SH

set_option Elab.async false
set_option linter.all false
set_option maxRecDepth 100000
namespace SH
open PySem L2
set_option maxHeartbeats 8000000
theorem kit_self {K : PySem.W.Frag} {t : Addr} : PySem.W.kitOne K (.ref t) (.ref t) = some true := by
  unfold PySem.W.kitOne
  rw [if_pos (by simp)]
theorem kit_own {K : PySem.W.Frag} {t c : Addr} (isC : PySem.W.isClsIn K c = true) (tyC : PySem.W.typeIn K (.ref c) = some (.type "type")) (no : PySem.W.subIn K (.ref t) (.ref c) = some false) (self : PySem.W.subIn K (.ref t) (.ref t) = some true) : PySem.W.kitOne K (.ref t) (.ref c) = some false := by
  have ne : (Value.ref t == Value.ref c) = false := by
    cases e : (Value.ref t == Value.ref c) with
    | false => rfl
    | true =>
      have z : Value.ref t = Value.ref c := by simpa using e
      rw [← z, self] at no
      cases no
  have h2 : ((PySem.W.clsIn K c).isSome && PySem.W.typeIn K (.ref c) == some (.type "type")) = true := by
    have h3 : (PySem.W.clsIn K c).isSome = true := isC
    rw [tyC, h3]
    simp
  unfold PySem.W.kitOne PySem.W.kitCls
  rw [ne]
  simp only [h2, no, if_true, Bool.false_eq_true, if_false]
theorem kit_blt {K : PySem.W.Frag} {t : Addr} {T : String} {b : Bool} (m : PySem.W.kitMeta T = true) (s : PySem.W.subIn K (.ref t) (.type T) = some b) : PySem.W.kitOne K (.ref t) (.type T) = some b := by
  have ne : (Value.ref t == Value.type T) = false := rfl
  unfold PySem.W.kitOne PySem.W.kitCls
  rw [ne]
  simp only [m, s, if_true, Bool.false_eq_true, if_false]
theorem kit_ownT {K : PySem.W.Frag} {t c : Addr} (isC : PySem.W.isClsIn K c = true) (tyC : PySem.W.typeIn K (.ref c) = some (.type "type")) (yes : PySem.W.subIn K (.ref t) (.ref c) = some true) : PySem.W.kitOne K (.ref t) (.ref c) = some true := by
  have h2 : ((PySem.W.clsIn K c).isSome && PySem.W.typeIn K (.ref c) == some (.type "type")) = true := by
    have h3 : (PySem.W.clsIn K c).isSome = true := isC
    rw [tyC, h3]
    simp
  unfold PySem.W.kitOne PySem.W.kitCls
  cases (Value.ref t == Value.ref c) with
  | true => rfl
  | false => simp only [h2, yes, if_true, Bool.false_eq_true, if_false]
theorem exm_self {K : PySem.W.Frag} {C : Addr} (h1 : PySem.W.subIn K (.ref C) (.type "BaseException") = some true) (isC : PySem.W.isClsIn K C = true) (ht : PySem.W.typeIn K (.ref C) = some (.type "type")) (h4 : PySem.W.subIn K (.ref C) (.ref C) = some true) : PySem.W.exmOne K (.ref C) (.ref C) = some true := by
  have e1 : (PySem.W.subIn K (.ref C) (.type "BaseException") == some true) = true := by rw [h1] <;> rfl
  have e3 : (PySem.W.clsIn K C).isSome = true := isC
  have e2 : ((PySem.W.clsIn K C).isSome && PySem.W.typeIn K (.ref C) == some (.type "type")) = true := by rw [e3, ht] <;> rfl
  show (if (PySem.W.subIn K (.ref C) (.type "BaseException") == some true) = true then (if ((PySem.W.clsIn K C).isSome && PySem.W.typeIn K (.ref C) == some (.type "type")) = true then PySem.W.subIn K (.ref C) (.ref C) else none) else none) = some true
  rw [if_pos e1, if_pos e2]
  exact h4
theorem all_mk {l : PySem.W.OpenLaw} {w : World} {K : PySem.W.Frag} {h : Heap} {mg : Str → Option Value} {fa f_is_tuple_of f_is_whole f_is_whole_within f_is_name f_is_expression f_is_leaf f_parts_of f_part_at f_run_at f_is_part f_is_figures f_Line___init__ f_Line_peek f_Line_take f_Line_skip f_read_expression f_read_tree f_read_sum f_read_product f_operation f_read_single f_read_bracketed f_read_number f_read_name f_Lbag f_Ltake f_Lkept f_Lnames f_Lnumber f_Ltree f_Ltext f_Lkind f_Lparts f_Lis_title f_Lfold f_Lclosed f_Lsigned f_Lread f_Lbracketed f_Lwithin f_Lblanked f_Lrefusal f_Lsign f_Lbent f_Lodd f_Lsaid f_Lis_right f_law : Addr} (X : K.In h) (G : h.Ns mainGlobals mg) (hfa : mg "law" = some (.ref fa))
    {od_is_tuple_of od_is_whole od_is_whole_within od_is_name od_is_expression od_is_leaf od_parts_of od_part_at od_run_at od_is_part od_is_figures od_Line___init__ od_Line_peek od_Line_take od_Line_skip od_read_expression od_read_tree od_read_sum od_read_product od_operation od_read_single od_read_bracketed od_read_number od_read_name od_Lbag od_Ltake od_Lkept od_Lnames od_Lnumber od_Ltree od_Ltext od_Lkind od_Lparts od_Lis_title od_Lfold od_Lclosed od_Lsigned od_Lread od_Lbracketed od_Lwithin od_Lblanked od_Lrefusal od_Lsign od_Lbent od_Lodd od_Lsaid od_Lis_right od_law an_is_tuple_of an_is_whole an_is_whole_within an_is_name an_is_expression an_is_leaf an_parts_of an_part_at an_run_at an_is_part an_is_figures an_Line___init__ an_Line_peek an_Line_take an_Line_skip an_read_expression an_read_tree an_read_sum an_read_product an_operation an_read_single an_read_bracketed an_read_number an_read_name an_Lbag an_Ltake an_Lkept an_Lnames an_Lnumber an_Ltree an_Ltext an_Lkind an_Lparts an_Lis_title an_Lfold an_Lclosed an_Lsigned an_Lread an_Lbracketed an_Lwithin an_Lblanked an_Lrefusal an_Lsign an_Lbent an_Lodd an_Lsaid an_Lis_right an_law : Option Addr} {sl_is_tuple_of sl_is_whole sl_is_whole_within sl_is_name sl_is_expression sl_is_leaf sl_parts_of sl_part_at sl_run_at sl_is_part sl_is_figures sl_Line___init__ sl_Line_peek sl_Line_take sl_Line_skip sl_read_expression sl_read_tree sl_read_sum sl_read_product sl_operation sl_read_single sl_read_bracketed sl_read_number sl_read_name sl_Lbag sl_Ltake sl_Lkept sl_Lnames sl_Lnumber sl_Ltree sl_Ltext sl_Lkind sl_Lparts sl_Lis_title sl_Lfold sl_Lclosed sl_Lsigned sl_Lread sl_Lbracketed sl_Lwithin sl_Lblanked sl_Lrefusal sl_Lsign sl_Lbent sl_Lodd sl_Lsaid sl_Lis_right sl_law : Array (Option Value)} {oc_is_tuple_of oc_is_whole oc_is_whole_within oc_is_name oc_is_expression oc_is_leaf oc_parts_of oc_part_at oc_run_at oc_is_part oc_is_figures oc_Line___init__ oc_Line_peek oc_Line_take oc_Line_skip oc_read_expression oc_read_tree oc_read_sum oc_read_product oc_operation oc_read_single oc_read_bracketed oc_read_number oc_read_name oc_Lbag oc_Ltake oc_Lkept oc_Lnames oc_Lnumber oc_Ltree oc_Ltext oc_Lkind oc_Lparts oc_Lis_title oc_Lfold oc_Lclosed oc_Lsigned oc_Lread oc_Lbracketed oc_Lwithin oc_Lblanked oc_Lrefusal oc_Lsign oc_Lbent oc_Lodd oc_Lsaid oc_Lis_right oc_law kV_is_tuple_of kV_is_whole kV_is_whole_within kV_is_name kV_is_expression kV_is_leaf kV_parts_of kV_part_at kV_run_at kV_is_part kV_is_figures kV_Line___init__ kV_Line_peek kV_Line_take kV_Line_skip kV_read_expression kV_read_tree kV_read_sum kV_read_product kV_operation kV_read_single kV_read_bracketed kV_read_number kV_read_name kV_Lbag kV_Ltake kV_Lkept kV_Lnames kV_Lnumber kV_Ltree kV_Ltext kV_Lkind kV_Lparts kV_Lis_title kV_Lfold kV_Lclosed kV_Lsigned kV_Lread kV_Lbracketed kV_Lwithin kV_Lblanked kV_Lrefusal kV_Lsign kV_Lbent kV_Lodd kV_Lsaid kV_Lis_right kV_law dc_is_tuple_of dc_is_whole dc_is_whole_within dc_is_name dc_is_expression dc_is_leaf dc_parts_of dc_part_at dc_run_at dc_is_part dc_is_figures dc_Line___init__ dc_Line_peek dc_Line_take dc_Line_skip dc_read_expression dc_read_tree dc_read_sum dc_read_product dc_operation dc_read_single dc_read_bracketed dc_read_number dc_read_name dc_Lbag dc_Ltake dc_Lkept dc_Lnames dc_Lnumber dc_Ltree dc_Ltext dc_Lkind dc_Lparts dc_Lis_title dc_Lfold dc_Lclosed dc_Lsigned dc_Lread dc_Lbracketed dc_Lwithin dc_Lblanked dc_Lrefusal dc_Lsign dc_Lbent dc_Lodd dc_Lsaid dc_Lis_right dc_law pm_is_tuple_of pm_is_whole pm_is_whole_within pm_is_name pm_is_expression pm_is_leaf pm_parts_of pm_part_at pm_run_at pm_is_part pm_is_figures pm_Line___init__ pm_Line_peek pm_Line_take pm_Line_skip pm_read_expression pm_read_tree pm_read_sum pm_read_product pm_operation pm_read_single pm_read_bracketed pm_read_number pm_read_name pm_Lbag pm_Ltake pm_Lkept pm_Lnames pm_Lnumber pm_Ltree pm_Ltext pm_Lkind pm_Lparts pm_Lis_title pm_Lfold pm_Lclosed pm_Lsigned pm_Lread pm_Lbracketed pm_Lwithin pm_Lblanked pm_Lrefusal pm_Lsign pm_Lbent pm_Lodd pm_Lsaid pm_Lis_right pm_law cd_is_tuple_of cd_is_whole cd_is_whole_within cd_is_name cd_is_expression cd_is_leaf cd_parts_of cd_part_at cd_run_at cd_is_part cd_is_figures cd_Line___init__ cd_Line_peek cd_Line_take cd_Line_skip cd_read_expression cd_read_tree cd_read_sum cd_read_product cd_operation cd_read_single cd_read_bracketed cd_read_number cd_read_name cd_Lbag cd_Ltake cd_Lkept cd_Lnames cd_Lnumber cd_Ltree cd_Ltext cd_Lkind cd_Lparts cd_Lis_title cd_Lfold cd_Lclosed cd_Lsigned cd_Lread cd_Lbracketed cd_Lwithin cd_Lblanked cd_Lrefusal cd_Lsign cd_Lbent cd_Lodd cd_Lsaid cd_Lis_right cd_law ct_is_tuple_of ct_is_whole ct_is_whole_within ct_is_name ct_is_expression ct_is_leaf ct_parts_of ct_part_at ct_run_at ct_is_part ct_is_figures ct_Line___init__ ct_Line_peek ct_Line_take ct_Line_skip ct_read_expression ct_read_tree ct_read_sum ct_read_product ct_operation ct_read_single ct_read_bracketed ct_read_number ct_read_name ct_Lbag ct_Ltake ct_Lkept ct_Lnames ct_Lnumber ct_Ltree ct_Ltext ct_Lkind ct_Lparts ct_Lis_title ct_Lfold ct_Lclosed ct_Lsigned ct_Lread ct_Lbracketed ct_Lwithin ct_Lblanked ct_Lrefusal ct_Lsign ct_Lbent ct_Lodd ct_Lsaid ct_Lis_right ct_law : Value}
    {TD : Addr} {oTD : Obj} {iTD : List Value} {nTD : Nat}
    {TD2 : Addr} {oTD2 : Obj} {iTD2 : List Value} {nTD2 : Nat}
    {C_Line : Addr} (aC_Line : PySem.W.nsIn K mainGlobals "Line" = some (some (.ref C_Line)))
    (a_is_tuple_of : PySem.W.nsIn K mainGlobals "is_tuple_of" = some (some (.ref f_is_tuple_of))) (l_is_tuple_of : K.lookup f_is_tuple_of = some ⟨oc_is_tuple_of, od_is_tuple_of, .func (PySem.W.fnOf "is_tuple_of" "is_tuple_of" (defArgs sTupOf) (defBody sTupOf) (defScope sTupOf) .none kV_is_tuple_of dc_is_tuple_of pm_is_tuple_of an_is_tuple_of cd_is_tuple_of ct_is_tuple_of), sl_is_tuple_of⟩) (c_is_tuple_of : PySem.W.codeIn K cd_is_tuple_of "is_tuple_of" = true) (k_is_tuple_of : PySem.W.keepIn K (.ref f_is_tuple_of) = true)
    (a_is_whole : PySem.W.nsIn K mainGlobals "is_whole" = some (some (.ref f_is_whole))) (l_is_whole : K.lookup f_is_whole = some ⟨oc_is_whole, od_is_whole, .func (PySem.W.fnOf "is_whole" "is_whole" (defArgs sWhole) (defBody sWhole) (defScope sWhole) .none kV_is_whole dc_is_whole pm_is_whole an_is_whole cd_is_whole ct_is_whole), sl_is_whole⟩) (c_is_whole : PySem.W.codeIn K cd_is_whole "is_whole" = true) (k_is_whole : PySem.W.keepIn K (.ref f_is_whole) = true)
    (a_is_whole_within : PySem.W.nsIn K mainGlobals "is_whole_within" = some (some (.ref f_is_whole_within))) (l_is_whole_within : K.lookup f_is_whole_within = some ⟨oc_is_whole_within, od_is_whole_within, .func (PySem.W.fnOf "is_whole_within" "is_whole_within" (defArgs sWithin) (defBody sWithin) (defScope sWithin) .none kV_is_whole_within dc_is_whole_within pm_is_whole_within an_is_whole_within cd_is_whole_within ct_is_whole_within), sl_is_whole_within⟩) (c_is_whole_within : PySem.W.codeIn K cd_is_whole_within "is_whole_within" = true) (k_is_whole_within : PySem.W.keepIn K (.ref f_is_whole_within) = true)
    (a_is_name : PySem.W.nsIn K mainGlobals "is_name" = some (some (.ref f_is_name))) (l_is_name : K.lookup f_is_name = some ⟨oc_is_name, od_is_name, .func (PySem.W.fnOf "is_name" "is_name" (defArgs sIsName) (defBody sIsName) (defScope sIsName) .none kV_is_name dc_is_name pm_is_name an_is_name cd_is_name ct_is_name), sl_is_name⟩) (c_is_name : PySem.W.codeIn K cd_is_name "is_name" = true) (k_is_name : PySem.W.keepIn K (.ref f_is_name) = true)
    (a_is_expression : PySem.W.nsIn K mainGlobals "is_expression" = some (some (.ref f_is_expression))) (l_is_expression : K.lookup f_is_expression = some ⟨oc_is_expression, od_is_expression, .func (PySem.W.fnOf "is_expression" "is_expression" (defArgs sIsEx) (defBody sIsEx) (defScope sIsEx) (.ref TD) kV_is_expression dc_is_expression pm_is_expression an_is_expression cd_is_expression ct_is_expression), sl_is_expression⟩) (c_is_expression : PySem.W.codeIn K cd_is_expression "is_expression" = true) (k_is_expression : PySem.W.keepIn K (.ref f_is_expression) = true)
    (a_is_leaf : PySem.W.nsIn K mainGlobals "is_leaf" = some (some (.ref f_is_leaf))) (l_is_leaf : K.lookup f_is_leaf = some ⟨oc_is_leaf, od_is_leaf, .func (PySem.W.fnOf "is_leaf" "is_leaf" (defArgs sLeaf) (defBody sLeaf) (defScope sLeaf) .none kV_is_leaf dc_is_leaf pm_is_leaf an_is_leaf cd_is_leaf ct_is_leaf), sl_is_leaf⟩) (c_is_leaf : PySem.W.codeIn K cd_is_leaf "is_leaf" = true) (k_is_leaf : PySem.W.keepIn K (.ref f_is_leaf) = true)
    (a_parts_of : PySem.W.nsIn K mainGlobals "parts_of" = some (some (.ref f_parts_of))) (l_parts_of : K.lookup f_parts_of = some ⟨oc_parts_of, od_parts_of, .func (PySem.W.fnOf "parts_of" "parts_of" (defArgs sPartsOf) (defBody sPartsOf) (defScope sPartsOf) .none kV_parts_of dc_parts_of pm_parts_of an_parts_of cd_parts_of ct_parts_of), sl_parts_of⟩) (c_parts_of : PySem.W.codeIn K cd_parts_of "parts_of" = true) (k_parts_of : PySem.W.keepIn K (.ref f_parts_of) = true)
    (a_part_at : PySem.W.nsIn K mainGlobals "part_at" = some (some (.ref f_part_at))) (l_part_at : K.lookup f_part_at = some ⟨oc_part_at, od_part_at, .func (PySem.W.fnOf "part_at" "part_at" (defArgs sPartAt) (defBody sPartAt) (defScope sPartAt) .none kV_part_at dc_part_at pm_part_at an_part_at cd_part_at ct_part_at), sl_part_at⟩) (c_part_at : PySem.W.codeIn K cd_part_at "part_at" = true) (k_part_at : PySem.W.keepIn K (.ref f_part_at) = true)
    (a_run_at : PySem.W.nsIn K mainGlobals "run_at" = some (some (.ref f_run_at))) (l_run_at : K.lookup f_run_at = some ⟨oc_run_at, od_run_at, .func (PySem.W.fnOf "run_at" "run_at" (defArgs sRunAt) (defBody sRunAt) (defScope sRunAt) .none kV_run_at dc_run_at pm_run_at an_run_at cd_run_at ct_run_at), sl_run_at⟩) (c_run_at : PySem.W.codeIn K cd_run_at "run_at" = true) (k_run_at : PySem.W.keepIn K (.ref f_run_at) = true)
    (a_is_part : PySem.W.nsIn K mainGlobals "is_part" = some (some (.ref f_is_part))) (l_is_part : K.lookup f_is_part = some ⟨oc_is_part, od_is_part, .func (PySem.W.fnOf "is_part" "is_part" (defArgs sIsPart) (defBody sIsPart) (defScope sIsPart) .none kV_is_part dc_is_part pm_is_part an_is_part cd_is_part ct_is_part), sl_is_part⟩) (c_is_part : PySem.W.codeIn K cd_is_part "is_part" = true) (k_is_part : PySem.W.keepIn K (.ref f_is_part) = true)
    (a_is_figures : PySem.W.nsIn K mainGlobals "is_figures" = some (some (.ref f_is_figures))) (l_is_figures : K.lookup f_is_figures = some ⟨oc_is_figures, od_is_figures, .func (PySem.W.fnOf "is_figures" "is_figures" (defArgs sFigs) (defBody sFigs) (defScope sFigs) .none kV_is_figures dc_is_figures pm_is_figures an_is_figures cd_is_figures ct_is_figures), sl_is_figures⟩) (c_is_figures : PySem.W.codeIn K cd_is_figures "is_figures" = true) (k_is_figures : PySem.W.keepIn K (.ref f_is_figures) = true)
    (a_Line___init__ : PySem.W.findIn K (.ref C_Line) "__init__" = some (some (.ref f_Line___init__))) (l_Line___init__ : K.lookup f_Line___init__ = some ⟨oc_Line___init__, od_Line___init__, .func (PySem.W.fnOf "__init__" "Line.__init__" (defArgs sLineInit) (defBody sLineInit) (defScope sLineInit) .none kV_Line___init__ dc_Line___init__ pm_Line___init__ an_Line___init__ cd_Line___init__ ct_Line___init__), sl_Line___init__⟩) (c_Line___init__ : PySem.W.codeIn K cd_Line___init__ "Line.__init__" = true) (k_Line___init__ : PySem.W.keepIn K (.ref f_Line___init__) = true)
    (i_Line___init__ : PySem.W.isFn K (.ref f_Line___init__) = true)
    (a_Line_peek : PySem.W.findIn K (.ref C_Line) "peek" = some (some (.ref f_Line_peek))) (l_Line_peek : K.lookup f_Line_peek = some ⟨oc_Line_peek, od_Line_peek, .func (PySem.W.fnOf "peek" "Line.peek" (defArgs sPeek) (defBody sPeek) (defScope sPeek) .none kV_Line_peek dc_Line_peek pm_Line_peek an_Line_peek cd_Line_peek ct_Line_peek), sl_Line_peek⟩) (c_Line_peek : PySem.W.codeIn K cd_Line_peek "Line.peek" = true) (k_Line_peek : PySem.W.keepIn K (.ref f_Line_peek) = true)
    (i_Line_peek : PySem.W.isFn K (.ref f_Line_peek) = true)
    (a_Line_take : PySem.W.findIn K (.ref C_Line) "take" = some (some (.ref f_Line_take))) (l_Line_take : K.lookup f_Line_take = some ⟨oc_Line_take, od_Line_take, .func (PySem.W.fnOf "take" "Line.take" (defArgs sTakeL) (defBody sTakeL) (defScope sTakeL) .none kV_Line_take dc_Line_take pm_Line_take an_Line_take cd_Line_take ct_Line_take), sl_Line_take⟩) (c_Line_take : PySem.W.codeIn K cd_Line_take "Line.take" = true) (k_Line_take : PySem.W.keepIn K (.ref f_Line_take) = true)
    (i_Line_take : PySem.W.isFn K (.ref f_Line_take) = true)
    (a_Line_skip : PySem.W.findIn K (.ref C_Line) "skip" = some (some (.ref f_Line_skip))) (l_Line_skip : K.lookup f_Line_skip = some ⟨oc_Line_skip, od_Line_skip, .func (PySem.W.fnOf "skip" "Line.skip" (defArgs sSkip) (defBody sSkip) (defScope sSkip) .none kV_Line_skip dc_Line_skip pm_Line_skip an_Line_skip cd_Line_skip ct_Line_skip), sl_Line_skip⟩) (c_Line_skip : PySem.W.codeIn K cd_Line_skip "Line.skip" = true) (k_Line_skip : PySem.W.keepIn K (.ref f_Line_skip) = true)
    (i_Line_skip : PySem.W.isFn K (.ref f_Line_skip) = true)
    (a_read_expression : PySem.W.nsIn K mainGlobals "read_expression" = some (some (.ref f_read_expression))) (l_read_expression : K.lookup f_read_expression = some ⟨oc_read_expression, od_read_expression, .func (PySem.W.fnOf "read_expression" "read_expression" (defArgs sExprR) (defBody sExprR) (defScope sExprR) .none kV_read_expression dc_read_expression pm_read_expression an_read_expression cd_read_expression ct_read_expression), sl_read_expression⟩) (c_read_expression : PySem.W.codeIn K cd_read_expression "read_expression" = true) (k_read_expression : PySem.W.keepIn K (.ref f_read_expression) = true)
    (a_read_tree : PySem.W.nsIn K mainGlobals "read_tree" = some (some (.ref f_read_tree))) (l_read_tree : K.lookup f_read_tree = some ⟨oc_read_tree, od_read_tree, .func (PySem.W.fnOf "read_tree" "read_tree" (defArgs sTreeR) (defBody sTreeR) (defScope sTreeR) (.ref TD2) kV_read_tree dc_read_tree pm_read_tree an_read_tree cd_read_tree ct_read_tree), sl_read_tree⟩) (c_read_tree : PySem.W.codeIn K cd_read_tree "read_tree" = true) (k_read_tree : PySem.W.keepIn K (.ref f_read_tree) = true)
    (a_read_sum : PySem.W.nsIn K mainGlobals "read_sum" = some (some (.ref f_read_sum))) (l_read_sum : K.lookup f_read_sum = some ⟨oc_read_sum, od_read_sum, .func (PySem.W.fnOf "read_sum" "read_sum" (defArgs sSum) (defBody sSum) (defScope sSum) .none kV_read_sum dc_read_sum pm_read_sum an_read_sum cd_read_sum ct_read_sum), sl_read_sum⟩) (c_read_sum : PySem.W.codeIn K cd_read_sum "read_sum" = true) (k_read_sum : PySem.W.keepIn K (.ref f_read_sum) = true)
    (a_read_product : PySem.W.nsIn K mainGlobals "read_product" = some (some (.ref f_read_product))) (l_read_product : K.lookup f_read_product = some ⟨oc_read_product, od_read_product, .func (PySem.W.fnOf "read_product" "read_product" (defArgs sProd) (defBody sProd) (defScope sProd) .none kV_read_product dc_read_product pm_read_product an_read_product cd_read_product ct_read_product), sl_read_product⟩) (c_read_product : PySem.W.codeIn K cd_read_product "read_product" = true) (k_read_product : PySem.W.keepIn K (.ref f_read_product) = true)
    (a_operation : PySem.W.nsIn K mainGlobals "operation" = some (some (.ref f_operation))) (l_operation : K.lookup f_operation = some ⟨oc_operation, od_operation, .func (PySem.W.fnOf "operation" "operation" (defArgs sOper) (defBody sOper) (defScope sOper) .none kV_operation dc_operation pm_operation an_operation cd_operation ct_operation), sl_operation⟩) (c_operation : PySem.W.codeIn K cd_operation "operation" = true) (k_operation : PySem.W.keepIn K (.ref f_operation) = true)
    (a_read_single : PySem.W.nsIn K mainGlobals "read_single" = some (some (.ref f_read_single))) (l_read_single : K.lookup f_read_single = some ⟨oc_read_single, od_read_single, .func (PySem.W.fnOf "read_single" "read_single" (defArgs sSingle) (defBody sSingle) (defScope sSingle) .none kV_read_single dc_read_single pm_read_single an_read_single cd_read_single ct_read_single), sl_read_single⟩) (c_read_single : PySem.W.codeIn K cd_read_single "read_single" = true) (k_read_single : PySem.W.keepIn K (.ref f_read_single) = true)
    (a_read_bracketed : PySem.W.nsIn K mainGlobals "read_bracketed" = some (some (.ref f_read_bracketed))) (l_read_bracketed : K.lookup f_read_bracketed = some ⟨oc_read_bracketed, od_read_bracketed, .func (PySem.W.fnOf "read_bracketed" "read_bracketed" (defArgs sBrack) (defBody sBrack) (defScope sBrack) .none kV_read_bracketed dc_read_bracketed pm_read_bracketed an_read_bracketed cd_read_bracketed ct_read_bracketed), sl_read_bracketed⟩) (c_read_bracketed : PySem.W.codeIn K cd_read_bracketed "read_bracketed" = true) (k_read_bracketed : PySem.W.keepIn K (.ref f_read_bracketed) = true)
    (a_read_number : PySem.W.nsIn K mainGlobals "read_number" = some (some (.ref f_read_number))) (l_read_number : K.lookup f_read_number = some ⟨oc_read_number, od_read_number, .func (PySem.W.fnOf "read_number" "read_number" (defArgs sRdNum) (defBody sRdNum) (defScope sRdNum) .none kV_read_number dc_read_number pm_read_number an_read_number cd_read_number ct_read_number), sl_read_number⟩) (c_read_number : PySem.W.codeIn K cd_read_number "read_number" = true) (k_read_number : PySem.W.keepIn K (.ref f_read_number) = true)
    (a_read_name : PySem.W.nsIn K mainGlobals "read_name" = some (some (.ref f_read_name))) (l_read_name : K.lookup f_read_name = some ⟨oc_read_name, od_read_name, .func (PySem.W.fnOf "read_name" "read_name" (defArgs sRdName) (defBody sRdName) (defScope sRdName) .none kV_read_name dc_read_name pm_read_name an_read_name cd_read_name ct_read_name), sl_read_name⟩) (c_read_name : PySem.W.codeIn K cd_read_name "read_name" = true) (k_read_name : PySem.W.keepIn K (.ref f_read_name) = true)
    (a_Lbag : PySem.W.nsIn K mainGlobals "_law_bag" = some (some (.ref f_Lbag))) (l_Lbag : K.lookup f_Lbag = some ⟨oc_Lbag, od_Lbag, .func (PySem.W.fnOf "_law_bag" "_law_bag" (defArgs sBag) (defBody sBag) (defScope sBag) .none kV_Lbag dc_Lbag pm_Lbag an_Lbag cd_Lbag ct_Lbag), sl_Lbag⟩) (c_Lbag : PySem.W.codeIn K cd_Lbag "_law_bag" = true) (k_Lbag : PySem.W.keepIn K (.ref f_Lbag) = true)
    (a_Ltake : PySem.W.nsIn K mainGlobals "_law_take" = some (some (.ref f_Ltake))) (l_Ltake : K.lookup f_Ltake = some ⟨oc_Ltake, od_Ltake, .func (PySem.W.fnOf "_law_take" "_law_take" (defArgs sTake) (defBody sTake) (defScope sTake) .none kV_Ltake dc_Ltake pm_Ltake an_Ltake cd_Ltake ct_Ltake), sl_Ltake⟩) (c_Ltake : PySem.W.codeIn K cd_Ltake "_law_take" = true) (k_Ltake : PySem.W.keepIn K (.ref f_Ltake) = true)
    (a_Lkept : PySem.W.nsIn K mainGlobals "_law_kept" = some (some (.ref f_Lkept))) (l_Lkept : K.lookup f_Lkept = some ⟨oc_Lkept, od_Lkept, .func (PySem.W.fnOf "_law_kept" "_law_kept" (defArgs sKept) (defBody sKept) (defScope sKept) .none kV_Lkept dc_Lkept pm_Lkept an_Lkept cd_Lkept ct_Lkept), sl_Lkept⟩) (c_Lkept : PySem.W.codeIn K cd_Lkept "_law_kept" = true) (k_Lkept : PySem.W.keepIn K (.ref f_Lkept) = true)
    (a_Lnames : PySem.W.nsIn K mainGlobals "_law_names" = some (some (.ref f_Lnames))) (l_Lnames : K.lookup f_Lnames = some ⟨oc_Lnames, od_Lnames, .func (PySem.W.fnOf "_law_names" "_law_names" (defArgs sNames) (defBody sNames) (defScope sNames) .none kV_Lnames dc_Lnames pm_Lnames an_Lnames cd_Lnames ct_Lnames), sl_Lnames⟩) (c_Lnames : PySem.W.codeIn K cd_Lnames "_law_names" = true) (k_Lnames : PySem.W.keepIn K (.ref f_Lnames) = true)
    (a_Lnumber : PySem.W.nsIn K mainGlobals "_law_number" = some (some (.ref f_Lnumber))) (l_Lnumber : K.lookup f_Lnumber = some ⟨oc_Lnumber, od_Lnumber, .func (PySem.W.fnOf "_law_number" "_law_number" (defArgs sNumber) (defBody sNumber) (defScope sNumber) .none kV_Lnumber dc_Lnumber pm_Lnumber an_Lnumber cd_Lnumber ct_Lnumber), sl_Lnumber⟩) (c_Lnumber : PySem.W.codeIn K cd_Lnumber "_law_number" = true) (k_Lnumber : PySem.W.keepIn K (.ref f_Lnumber) = true)
    (a_Ltree : PySem.W.nsIn K mainGlobals "_law_tree" = some (some (.ref f_Ltree))) (l_Ltree : K.lookup f_Ltree = some ⟨oc_Ltree, od_Ltree, .func (PySem.W.fnOf "_law_tree" "_law_tree" (defArgs sTree) (defBody sTree) (defScope sTree) .none kV_Ltree dc_Ltree pm_Ltree an_Ltree cd_Ltree ct_Ltree), sl_Ltree⟩) (c_Ltree : PySem.W.codeIn K cd_Ltree "_law_tree" = true) (k_Ltree : PySem.W.keepIn K (.ref f_Ltree) = true)
    (a_Ltext : PySem.W.nsIn K mainGlobals "_law_text" = some (some (.ref f_Ltext))) (l_Ltext : K.lookup f_Ltext = some ⟨oc_Ltext, od_Ltext, .func (PySem.W.fnOf "_law_text" "_law_text" (defArgs sText) (defBody sText) (defScope sText) .none kV_Ltext dc_Ltext pm_Ltext an_Ltext cd_Ltext ct_Ltext), sl_Ltext⟩) (c_Ltext : PySem.W.codeIn K cd_Ltext "_law_text" = true) (k_Ltext : PySem.W.keepIn K (.ref f_Ltext) = true)
    (a_Lkind : PySem.W.nsIn K mainGlobals "_law_kind" = some (some (.ref f_Lkind))) (l_Lkind : K.lookup f_Lkind = some ⟨oc_Lkind, od_Lkind, .func (PySem.W.fnOf "_law_kind" "_law_kind" (defArgs sKind) (defBody sKind) (defScope sKind) .none kV_Lkind dc_Lkind pm_Lkind an_Lkind cd_Lkind ct_Lkind), sl_Lkind⟩) (c_Lkind : PySem.W.codeIn K cd_Lkind "_law_kind" = true) (k_Lkind : PySem.W.keepIn K (.ref f_Lkind) = true)
    (a_Lparts : PySem.W.nsIn K mainGlobals "_law_parts" = some (some (.ref f_Lparts))) (l_Lparts : K.lookup f_Lparts = some ⟨oc_Lparts, od_Lparts, .func (PySem.W.fnOf "_law_parts" "_law_parts" (defArgs sParts) (defBody sParts) (defScope sParts) .none kV_Lparts dc_Lparts pm_Lparts an_Lparts cd_Lparts ct_Lparts), sl_Lparts⟩) (c_Lparts : PySem.W.codeIn K cd_Lparts "_law_parts" = true) (k_Lparts : PySem.W.keepIn K (.ref f_Lparts) = true)
    (a_Lis_title : PySem.W.nsIn K mainGlobals "_law_is_title" = some (some (.ref f_Lis_title))) (l_Lis_title : K.lookup f_Lis_title = some ⟨oc_Lis_title, od_Lis_title, .func (PySem.W.fnOf "_law_is_title" "_law_is_title" (defArgs sTitle) (defBody sTitle) (defScope sTitle) .none kV_Lis_title dc_Lis_title pm_Lis_title an_Lis_title cd_Lis_title ct_Lis_title), sl_Lis_title⟩) (c_Lis_title : PySem.W.codeIn K cd_Lis_title "_law_is_title" = true) (k_Lis_title : PySem.W.keepIn K (.ref f_Lis_title) = true)
    (a_Lfold : PySem.W.nsIn K mainGlobals "_law_fold" = some (some (.ref f_Lfold))) (l_Lfold : K.lookup f_Lfold = some ⟨oc_Lfold, od_Lfold, .func (PySem.W.fnOf "_law_fold" "_law_fold" (defArgs sFold) (defBody sFold) (defScope sFold) .none kV_Lfold dc_Lfold pm_Lfold an_Lfold cd_Lfold ct_Lfold), sl_Lfold⟩) (c_Lfold : PySem.W.codeIn K cd_Lfold "_law_fold" = true) (k_Lfold : PySem.W.keepIn K (.ref f_Lfold) = true)
    (a_Lclosed : PySem.W.nsIn K mainGlobals "_law_closed" = some (some (.ref f_Lclosed))) (l_Lclosed : K.lookup f_Lclosed = some ⟨oc_Lclosed, od_Lclosed, .func (PySem.W.fnOf "_law_closed" "_law_closed" (defArgs sClosed) (defBody sClosed) (defScope sClosed) .none kV_Lclosed dc_Lclosed pm_Lclosed an_Lclosed cd_Lclosed ct_Lclosed), sl_Lclosed⟩) (c_Lclosed : PySem.W.codeIn K cd_Lclosed "_law_closed" = true) (k_Lclosed : PySem.W.keepIn K (.ref f_Lclosed) = true)
    (a_Lsigned : PySem.W.nsIn K mainGlobals "_law_signed" = some (some (.ref f_Lsigned))) (l_Lsigned : K.lookup f_Lsigned = some ⟨oc_Lsigned, od_Lsigned, .func (PySem.W.fnOf "_law_signed" "_law_signed" (defArgs sSigned) (defBody sSigned) (defScope sSigned) .none kV_Lsigned dc_Lsigned pm_Lsigned an_Lsigned cd_Lsigned ct_Lsigned), sl_Lsigned⟩) (c_Lsigned : PySem.W.codeIn K cd_Lsigned "_law_signed" = true) (k_Lsigned : PySem.W.keepIn K (.ref f_Lsigned) = true)
    (a_Lread : PySem.W.nsIn K mainGlobals "_law_read" = some (some (.ref f_Lread))) (l_Lread : K.lookup f_Lread = some ⟨oc_Lread, od_Lread, .func (PySem.W.fnOf "_law_read" "_law_read" (defArgs sRead) (defBody sRead) (defScope sRead) .none kV_Lread dc_Lread pm_Lread an_Lread cd_Lread ct_Lread), sl_Lread⟩) (c_Lread : PySem.W.codeIn K cd_Lread "_law_read" = true) (k_Lread : PySem.W.keepIn K (.ref f_Lread) = true)
    (a_Lbracketed : PySem.W.nsIn K mainGlobals "_law_bracketed" = some (some (.ref f_Lbracketed))) (l_Lbracketed : K.lookup f_Lbracketed = some ⟨oc_Lbracketed, od_Lbracketed, .func (PySem.W.fnOf "_law_bracketed" "_law_bracketed" (defArgs sBrk) (defBody sBrk) (defScope sBrk) .none kV_Lbracketed dc_Lbracketed pm_Lbracketed an_Lbracketed cd_Lbracketed ct_Lbracketed), sl_Lbracketed⟩) (c_Lbracketed : PySem.W.codeIn K cd_Lbracketed "_law_bracketed" = true) (k_Lbracketed : PySem.W.keepIn K (.ref f_Lbracketed) = true)
    (a_Lwithin : PySem.W.nsIn K mainGlobals "_law_within" = some (some (.ref f_Lwithin))) (l_Lwithin : K.lookup f_Lwithin = some ⟨oc_Lwithin, od_Lwithin, .func (PySem.W.fnOf "_law_within" "_law_within" (defArgs sWn) (defBody sWn) (defScope sWn) .none kV_Lwithin dc_Lwithin pm_Lwithin an_Lwithin cd_Lwithin ct_Lwithin), sl_Lwithin⟩) (c_Lwithin : PySem.W.codeIn K cd_Lwithin "_law_within" = true) (k_Lwithin : PySem.W.keepIn K (.ref f_Lwithin) = true)
    (a_Lblanked : PySem.W.nsIn K mainGlobals "_law_blanked" = some (some (.ref f_Lblanked))) (l_Lblanked : K.lookup f_Lblanked = some ⟨oc_Lblanked, od_Lblanked, .func (PySem.W.fnOf "_law_blanked" "_law_blanked" (defArgs sBlk) (defBody sBlk) (defScope sBlk) .none kV_Lblanked dc_Lblanked pm_Lblanked an_Lblanked cd_Lblanked ct_Lblanked), sl_Lblanked⟩) (c_Lblanked : PySem.W.codeIn K cd_Lblanked "_law_blanked" = true) (k_Lblanked : PySem.W.keepIn K (.ref f_Lblanked) = true)
    (a_Lrefusal : PySem.W.nsIn K mainGlobals "_law_refusal" = some (some (.ref f_Lrefusal))) (l_Lrefusal : K.lookup f_Lrefusal = some ⟨oc_Lrefusal, od_Lrefusal, .func (PySem.W.fnOf "_law_refusal" "_law_refusal" (defArgs sRefusal) (defBody sRefusal) (defScope sRefusal) .none kV_Lrefusal dc_Lrefusal pm_Lrefusal an_Lrefusal cd_Lrefusal ct_Lrefusal), sl_Lrefusal⟩) (c_Lrefusal : PySem.W.codeIn K cd_Lrefusal "_law_refusal" = true) (k_Lrefusal : PySem.W.keepIn K (.ref f_Lrefusal) = true)
    (a_Lsign : PySem.W.nsIn K mainGlobals "_law_sign" = some (some (.ref f_Lsign))) (l_Lsign : K.lookup f_Lsign = some ⟨oc_Lsign, od_Lsign, .func (PySem.W.fnOf "_law_sign" "_law_sign" (defArgs sSign9) (defBody sSign9) (defScope sSign9) .none kV_Lsign dc_Lsign pm_Lsign an_Lsign cd_Lsign ct_Lsign), sl_Lsign⟩) (c_Lsign : PySem.W.codeIn K cd_Lsign "_law_sign" = true) (k_Lsign : PySem.W.keepIn K (.ref f_Lsign) = true)
    (a_Lbent : PySem.W.nsIn K mainGlobals "_law_bent" = some (some (.ref f_Lbent))) (l_Lbent : K.lookup f_Lbent = some ⟨oc_Lbent, od_Lbent, .func (PySem.W.fnOf "_law_bent" "_law_bent" (defArgs sBent9) (defBody sBent9) (defScope sBent9) .none kV_Lbent dc_Lbent pm_Lbent an_Lbent cd_Lbent ct_Lbent), sl_Lbent⟩) (c_Lbent : PySem.W.codeIn K cd_Lbent "_law_bent" = true) (k_Lbent : PySem.W.keepIn K (.ref f_Lbent) = true)
    (a_Lodd : PySem.W.nsIn K mainGlobals "_law_odd" = some (some (.ref f_Lodd))) (l_Lodd : K.lookup f_Lodd = some ⟨oc_Lodd, od_Lodd, .func (PySem.W.fnOf "_law_odd" "_law_odd" (defArgs sOdd9) (defBody sOdd9) (defScope sOdd9) .none kV_Lodd dc_Lodd pm_Lodd an_Lodd cd_Lodd ct_Lodd), sl_Lodd⟩) (c_Lodd : PySem.W.codeIn K cd_Lodd "_law_odd" = true) (k_Lodd : PySem.W.keepIn K (.ref f_Lodd) = true)
    (a_Lsaid : PySem.W.nsIn K mainGlobals "_law_said" = some (some (.ref f_Lsaid))) (l_Lsaid : K.lookup f_Lsaid = some ⟨oc_Lsaid, od_Lsaid, .func (PySem.W.fnOf "_law_said" "_law_said" (defArgs sSaid9) (defBody sSaid9) (defScope sSaid9) .none kV_Lsaid dc_Lsaid pm_Lsaid an_Lsaid cd_Lsaid ct_Lsaid), sl_Lsaid⟩) (c_Lsaid : PySem.W.codeIn K cd_Lsaid "_law_said" = true) (k_Lsaid : PySem.W.keepIn K (.ref f_Lsaid) = true)
    (a_Lis_right : PySem.W.nsIn K mainGlobals "_law_is_right" = some (some (.ref f_Lis_right))) (l_Lis_right : K.lookup f_Lis_right = some ⟨oc_Lis_right, od_Lis_right, .func (PySem.W.fnOf "_law_is_right" "_law_is_right" (defArgs sRight9) (defBody sRight9) (defScope sRight9) .none kV_Lis_right dc_Lis_right pm_Lis_right an_Lis_right cd_Lis_right ct_Lis_right), sl_Lis_right⟩) (c_Lis_right : PySem.W.codeIn K cd_Lis_right "_law_is_right" = true) (k_Lis_right : PySem.W.keepIn K (.ref f_Lis_right) = true)
    (a_law : PySem.W.nsIn K mainGlobals "law" = some (some (.ref f_law))) (l_law : K.lookup f_law = some ⟨oc_law, od_law, .func (PySem.W.fnOf "law" "law" (defArgs sLaw) (defBody sLaw) (defScope sLaw) .none kV_law dc_law pm_law an_law cd_law ct_law), sl_law⟩) (c_law : PySem.W.codeIn K cd_law "law" = true) (k_law : PySem.W.keepIn K (.ref f_law) = true)
    (z_len : PySem.W.nsIn K mainGlobals "len" = some none)
    (z_abs : PySem.W.nsIn K mainGlobals "abs" = some none)
    (z_int : PySem.W.nsIn K mainGlobals "int" = some none)
    (z_str : PySem.W.nsIn K mainGlobals "str" = some none)
    (z_range : PySem.W.nsIn K mainGlobals "range" = some none)
    (z_max : PySem.W.nsIn K mainGlobals "max" = some none)
    (z_min : PySem.W.nsIn K mainGlobals "min" = some none)
    (z_isinstance : PySem.W.nsIn K mainGlobals "isinstance" = some none)
    (z_all : PySem.W.nsIn K mainGlobals "all" = some none)
    (z_tuple : PySem.W.nsIn K mainGlobals "tuple" = some none)
    (z_bool : PySem.W.nsIn K mainGlobals "bool" = some none)
    (z_repr : PySem.W.nsIn K mainGlobals "repr" = some none)
    (z_super : PySem.W.nsIn K mainGlobals "super" = some none)
    (z_ValueError : PySem.W.nsIn K mainGlobals "ValueError" = some none)
    (z_LookupError : PySem.W.nsIn K mainGlobals "LookupError" = some none)
    (z_RuntimeError : PySem.W.nsIn K mainGlobals "RuntimeError" = some none)
    (z_ArithmeticError : PySem.W.nsIn K mainGlobals "ArithmeticError" = some none)
    (z_KeyError : PySem.W.nsIn K mainGlobals "KeyError" = some none)
    (z_IndexError : PySem.W.nsIn K mainGlobals "IndexError" = some none)
    (z_ZeroDivisionError : PySem.W.nsIn K mainGlobals "ZeroDivisionError" = some none)
    (pg_Line : PySem.W.plainGet K C_Line Str.empty = true) (hd_Line : PySem.W.hasDictIn K C_Line = true) (po_Line : PySem.W.plainOver K C_Line = true) (sa_Line : PySem.W.findIn K (.ref C_Line) "__setattr__" = some (some (.builtin "object.__setattr__"))) (mk_Line : PySem.W.makesIn K C_Line = true) (kc_Line : PySem.W.keepIn K (.ref C_Line) = true) (na_parts_Line : PySem.W.findIn K (.ref C_Line) "parts" = some none) (na_row_Line : PySem.W.findIn K (.ref C_Line) "row" = some none) (na_place_Line : PySem.W.findIn K (.ref C_Line) "place" = some none)
    {tLt tFg tNp : Tok} (gLt : PySem.W.nsIn K mainGlobals "LETTERS" = some (some (.str "abcdefghijklmnopqrstuvwxyz" tLt))) (gFg : PySem.W.nsIn K mainGlobals "FIGURES" = some (some (.str "0123456789" tFg))) (gNp : PySem.W.nsIn K mainGlobals "NO_PART" = some (some (.str "" tNp)))
    {t_MOST_LETTERS t_MOST_NUMBER t_MOST_FIGURES t_MOST_BRACKETS : Tok} (g_MOST_LETTERS : PySem.W.nsIn K mainGlobals "MOST_LETTERS" = some (some (.int 8 t_MOST_LETTERS))) (g_MOST_NUMBER : PySem.W.nsIn K mainGlobals "MOST_NUMBER" = some (some (.int 999999999999999999999999999999 t_MOST_NUMBER))) (g_MOST_FIGURES : PySem.W.nsIn K mainGlobals "MOST_FIGURES" = some (some (.int 30 t_MOST_FIGURES))) (g_MOST_BRACKETS : PySem.W.nsIn K mainGlobals "MOST_BRACKETS" = some (some (.int 8 t_MOST_BRACKETS)))
    {aW aS aM : Addr} {dW dS dM : Option Addr} {iW iS iM : List Value} {nW nS nM : Nat} {sW sS sM : Array (Option Value)} (gW : PySem.W.nsIn K mainGlobals "WORDS" = some (some (.ref aW))) (lW : K.lookup aW = some ⟨.type "tuple", dW, .seq iW.toArray nW, sW⟩) (vW : Vals (kept.map V.str) iW)
    (gS : PySem.W.nsIn K mainGlobals "SIGNS" = some (some (.ref aS))) (lS : K.lookup aS = some ⟨.type "tuple", dS, .seq iS.toArray nS, sS⟩) (vS : Vals (signsL.map V.str) iS)
    (gM : PySem.W.nsIn K mainGlobals "MARKS" = some (some (.ref aM))) (lM : K.lookup aM = some ⟨.type "tuple", dM, .seq iM.toArray nM, sM⟩) (vM : Vals (marksL.map V.str) iM)
    (lTD : K.lookup TD = some oTD) (oTD0 : oTD.data = .seq iTD.toArray nTD) (vTD : Vals [V.int 6] iTD) (lTD2 : K.lookup TD2 = some oTD2) (oTD20 : oTD2.data = .seq iTD2.toArray nTD2) (vTD2 : Vals [V.int 0] iTD2)
    {cBadText : Addr} (aBadText : PySem.W.nsIn K mainGlobals "BadText" = some (some (.ref cBadText)))
    {cBadTree : Addr} (aBadTree : PySem.W.nsIn K mainGlobals "BadTree" = some (some (.ref cBadTree)))
    {cBadArgs : Addr} (aBadArgs : PySem.W.nsIn K mainGlobals "BadArgs" = some (some (.ref cBadArgs)))
    {cBadHall : Addr} (aBadHall : PySem.W.nsIn K mainGlobals "BadHall" = some (some (.ref cBadHall)))
    {cBadTurn : Addr} (aBadTurn : PySem.W.nsIn K mainGlobals "BadTurn" = some (some (.ref cBadTurn)))
    {cNoRow : Addr} (aNoRow : PySem.W.nsIn K mainGlobals "NoRow" = some (some (.ref cNoRow)))
    {cMissing : Addr} (aMissing : PySem.W.nsIn K mainGlobals "Missing" = some (some (.ref cMissing)))
    {cBare : Addr} (aBare : PySem.W.nsIn K mainGlobals "Bare" = some (some (.ref cBare)))
    {cSpent : Addr} (aSpent : PySem.W.nsIn K mainGlobals "Spent" = some (some (.ref cSpent)))
    {cBroken : Addr} (aBroken : PySem.W.nsIn K mainGlobals "Broken" = some (some (.ref cBroken)))
    {cStealError : Addr} (aStealError : PySem.W.nsIn K mainGlobals "StealError" = some (some (.ref cStealError)))
    (isBadText : PySem.W.isClsIn K cBadText = true)(tyBadText : PySem.W.typeIn K (.ref cBadText) = some (.type "type"))(suBadText : PySem.W.subIn K (.ref cBadText) (.ref cBadText) = some true)(sBBadText : PySem.W.subIn K (.ref cBadText) (.type "ValueError") = some true)
    {Xtnm Xtq : Str} {XtN : Addr} {Xtbs Xtbm : List Value} {Xtsn : List Str} {Xtsub : List Value} {Xtab : Bool} {Xtcol : Option Bool} {Xtdd : Option Addr} {Xtk0 Xtk1 Xtk2 Xtk3 Xtk5 : Option Value} (Xtcls : K.lookup cBadText = some (excClassObj Xtnm Xtq cBadText XtN Xtbs Xtbm true Xtsn Xtsub Xtab Xtcol Xtdd Xtk0 Xtk1 Xtk2 Xtk3 Xtk5 "ValueError.__new__"))(Xtbm0 : Xtbm = [.ref cStealError, .type "ValueError", .type "Exception", .type "BaseException", .type "object"])
    (Xtal : PySem.W.alongIn K "__init__" [.ref cStealError, .type "ValueError", .type "Exception", .type "BaseException", .type "object"] = some (some (.builtin "ValueError.__init__")))
    {fXt : Addr} (Xtsa : PySem.W.findIn K (.ref cBadText) "__setattr__" = some (some (.builtin "object.__setattr__")))(XtnoF : PySem.W.findIn K (.ref cBadText) "row" = some none)(XtiC : PySem.W.findIn K (.ref cBadText) "__init__" = some (some (.ref fXt)))(XttC : PySem.W.typeIn K (.ref fXt) = some (.type "function"))(XtkC : PySem.W.keepIn K (.ref cBadText) = true)(XtexC : PySem.W.subIn K (.ref cBadText) (.type "BaseException") = some true)(Xtop : PySem.W.nsIn K cStatics "thirdparty.any" = some none)(Xthd : PySem.W.hasDictIn K cBadText = true)(Xtga : PySem.W.findIn K (.ref cBadText) "__getattribute__" = some (some (.builtin "BaseException.__getattribute__")))(Xtgg : PySem.W.findIn K (.ref cBadText) "__getattr__" = some none)
    {Xtoc XtkV Xtdoc Xtpm Xtct : Value} {Xtod_ Xtan : Option Addr} {Xtcda Xtcc : Addr} {Xtosl : Array (Option Value)} {Xtp1 Xtp2 Xtr0 Xtr1 Xtr2 Xtr3 Xtr4 Xtr5 Xtq1 Xtq2 Xtq3 Xtq4 Xtpa Xtpf Xtpv Xtpb : Pos} {Xta Xtb : Str} {Xtj1 Xtj2 : Nat} (Xtfn : K.lookup fXt = some ⟨Xtoc, Xtod_, .func (PySem.W.ksFn "__init__" "BadText.__init__" (supA "row" Xtp1 Xtp2) (supB "row" [.Constant (.str Xta) Xtj1 Xtpa, .FormattedValue (.Name "row" Xtpf) (-1) none Xtpv, .Constant (.str Xtb) Xtj2 Xtpb] Xtr0 Xtr1 Xtr2 Xtr3 Xtr4 Xtr5 Xtq1 Xtq2 Xtq3 Xtq4) (supS "row") .none XtkV Xtdoc Xtpm Xtan (.ref Xtcda) Xtct Xtcc), Xtosl⟩)(Xtcd : PySem.W.codeIn K (.ref Xtcda) "BadText.__init__" = true)(Xtli : (Xtr2.endLine == Xtr4.line) = true)(XtlA : Xta.length ≤ 1000)(XtlB : Xtb.length ≤ 1000)
    {Xtccl : Value} {Xtcdd : Option Addr} {Xtvs : Array Value} {Xtccs : Array (Option Value)} {Xtfile : Str} {Xttf : Tok} (Xtlc : K.lookup Xtcda = some ⟨Xtccl, Xtcdd, .fields Xtvs, Xtccs⟩)(Xtv2 : Xtvs[2]? = some (.str Xtfile Xttf))(Xtfi : ((l.prog.main.file : Str) == Xtfile) = true)
    {Xtcl : Value} {Xtcld : Option Addr} {Xtcsl : Array (Option Value)} (Xtce : K.lookup Xtcc = some ⟨Xtcl, Xtcld, .cell (some (.ref cBadText)), Xtcsl⟩)(Xttop : (l.prog.main.scope.names.lookup ("super" : Str)).isSome = false)
    (isBadTree : PySem.W.isClsIn K cBadTree = true)(tyBadTree : PySem.W.typeIn K (.ref cBadTree) = some (.type "type"))(suBadTree : PySem.W.subIn K (.ref cBadText) (.ref cBadTree) = some false)
    (isBadArgs : PySem.W.isClsIn K cBadArgs = true)(tyBadArgs : PySem.W.typeIn K (.ref cBadArgs) = some (.type "type"))(suBadArgs : PySem.W.subIn K (.ref cBadText) (.ref cBadArgs) = some false)
    (isBadHall : PySem.W.isClsIn K cBadHall = true)(tyBadHall : PySem.W.typeIn K (.ref cBadHall) = some (.type "type"))(suBadHall : PySem.W.subIn K (.ref cBadText) (.ref cBadHall) = some false)
    (isBadTurn : PySem.W.isClsIn K cBadTurn = true)(tyBadTurn : PySem.W.typeIn K (.ref cBadTurn) = some (.type "type"))(suBadTurn : PySem.W.subIn K (.ref cBadText) (.ref cBadTurn) = some false)
    (isNoRow : PySem.W.isClsIn K cNoRow = true)(tyNoRow : PySem.W.typeIn K (.ref cNoRow) = some (.type "type"))(suNoRow : PySem.W.subIn K (.ref cBadText) (.ref cNoRow) = some false)
    (isMissing : PySem.W.isClsIn K cMissing = true)(tyMissing : PySem.W.typeIn K (.ref cMissing) = some (.type "type"))(suMissing : PySem.W.subIn K (.ref cBadText) (.ref cMissing) = some false)
    (isBare : PySem.W.isClsIn K cBare = true)(tyBare : PySem.W.typeIn K (.ref cBare) = some (.type "type"))(suBare : PySem.W.subIn K (.ref cBadText) (.ref cBare) = some false)
    (isSpent : PySem.W.isClsIn K cSpent = true)(tySpent : PySem.W.typeIn K (.ref cSpent) = some (.type "type"))(suSpent : PySem.W.subIn K (.ref cBadText) (.ref cSpent) = some false)
    (isBroken : PySem.W.isClsIn K cBroken = true)(tyBroken : PySem.W.typeIn K (.ref cBroken) = some (.type "type"))(suBroken : PySem.W.subIn K (.ref cBadText) (.ref cBroken) = some false)
    (isStealError : PySem.W.isClsIn K cStealError = true)(tyStealError : PySem.W.typeIn K (.ref cStealError) = some (.type "type"))(suStealError : PySem.W.subIn K (.ref cBadText) (.ref cStealError) = some true)
    (suLookupError : PySem.W.subIn K (.ref cBadText) (.type "LookupError") = some false)
    (suRuntimeError : PySem.W.subIn K (.ref cBadText) (.type "RuntimeError") = some false)
    (suArithmeticError : PySem.W.subIn K (.ref cBadText) (.type "ArithmeticError") = some false)
    (suKeyError : PySem.W.subIn K (.ref cBadText) (.type "KeyError") = some false)
    (suIndexError : PySem.W.subIn K (.ref cBadText) (.type "IndexError") = some false)
    (suZeroDivisionError : PySem.W.subIn K (.ref cBadText) (.type "ZeroDivisionError") = some false)
    (Xtca : PySem.W.findIn K (.ref cBadText) "__class__" = some (some (.builtin "object.__class__")))(cgO : PySem.W.specialIn K (.builtin "object.__class__") "__get__" = some (some (.builtin "getset_descriptor.__get__")))(ctO : PySem.W.takesIn K (.builtin "object.__class__") = some true)(Xtob : PySem.W.mroIn K cBadText (.type "object") = some true)
    : ∃ fd : FuncData, (∀ (s : Shared) (v : Value), BindsTo s fd ⟨[v], []⟩ [("_law_script", v)]) ∧ ∀ base : Heap, K.In base → base.Ns mainGlobals mg → FnG l.prog w K mg base 59 fa fd ["_law_script"] (spLaw K) := by
  have e := hfa.symm.trans (PySem.W.mg_of X G a_law)
  cases e
  have F_is_tuple_of := fun_mk (st := sTupOf) l_is_tuple_of c_is_tuple_of k_is_tuple_of
  have b_is_tuple_of := F_is_tuple_of.binds (ps := ["thing", "many"]) fun _ _ _ _ _ _ us hl => match us, hl with | [_, _], _ => rfl
  have m_is_tuple_of := PySem.W.mg_of X G a_is_tuple_of
  have F_is_whole := fun_mk (st := sWhole) l_is_whole c_is_whole k_is_whole
  have b_is_whole := F_is_whole.binds (ps := ["thing"]) fun _ _ _ _ _ _ us hl => match us, hl with | [_], _ => rfl
  have m_is_whole := PySem.W.mg_of X G a_is_whole
  have F_is_whole_within := fun_mk (st := sWithin) l_is_whole_within c_is_whole_within k_is_whole_within
  have b_is_whole_within := F_is_whole_within.binds (ps := ["thing", "most"]) fun _ _ _ _ _ _ us hl => match us, hl with | [_, _], _ => rfl
  have m_is_whole_within := PySem.W.mg_of X G a_is_whole_within
  have F_is_name := fun_mk (st := sIsName) l_is_name c_is_name k_is_name
  have b_is_name := F_is_name.binds (ps := ["thing"]) fun _ _ _ _ _ _ us hl => match us, hl with | [_], _ => rfl
  have m_is_name := PySem.W.mg_of X G a_is_name
  have m_is_expression := PySem.W.mg_of X G a_is_expression
  have F_is_leaf := fun_mk (st := sLeaf) l_is_leaf c_is_leaf k_is_leaf
  have b_is_leaf := F_is_leaf.binds (ps := ["pair"]) fun _ _ _ _ _ _ us hl => match us, hl with | [_], _ => rfl
  have m_is_leaf := PySem.W.mg_of X G a_is_leaf
  have F_parts_of := fun_mk (st := sPartsOf) l_parts_of c_parts_of k_parts_of
  have b_parts_of := F_parts_of.binds (ps := ["text", "row"]) fun _ _ _ _ _ _ us hl => match us, hl with | [_, _], _ => rfl
  have m_parts_of := PySem.W.mg_of X G a_parts_of
  have F_part_at := fun_mk (st := sPartAt) l_part_at c_part_at k_part_at
  have b_part_at := F_part_at.binds (ps := ["text", "at"]) fun _ _ _ _ _ _ us hl => match us, hl with | [_, _], _ => rfl
  have m_part_at := PySem.W.mg_of X G a_part_at
  have F_run_at := fun_mk (st := sRunAt) l_run_at c_run_at k_run_at
  have b_run_at := F_run_at.binds (ps := ["text", "at", "signs"]) fun _ _ _ _ _ _ us hl => match us, hl with | [_, _, _], _ => rfl
  have m_run_at := PySem.W.mg_of X G a_run_at
  have F_is_part := fun_mk (st := sIsPart) l_is_part c_is_part k_is_part
  have b_is_part := F_is_part.binds (ps := ["text"]) fun _ _ _ _ _ _ us hl => match us, hl with | [_], _ => rfl
  have m_is_part := PySem.W.mg_of X G a_is_part
  have F_is_figures := fun_mk (st := sFigs) l_is_figures c_is_figures k_is_figures
  have b_is_figures := F_is_figures.binds (ps := ["part"]) fun _ _ _ _ _ _ us hl => match us, hl with | [_], _ => rfl
  have m_is_figures := PySem.W.mg_of X G a_is_figures
  have F_Line___init__ := fun_mk (st := sLineInit) l_Line___init__ c_Line___init__ k_Line___init__
  have b_Line___init__ := F_Line___init__.binds (ps := ["self", "text", "row"]) fun _ _ _ _ _ _ us hl => match us, hl with | [_, _, _], _ => rfl
  have M_Line___init__ : Meth K C_Line "__init__" f_Line___init__ := ⟨a_Line___init__, i_Line___init__, k_Line___init__⟩
  have F_Line_peek := fun_mk (st := sPeek) l_Line_peek c_Line_peek k_Line_peek
  have b_Line_peek := F_Line_peek.binds (ps := ["self"]) fun _ _ _ _ _ _ us hl => match us, hl with | [_], _ => rfl
  have M_Line_peek : Meth K C_Line "peek" f_Line_peek := ⟨a_Line_peek, i_Line_peek, k_Line_peek⟩
  have F_Line_take := fun_mk (st := sTakeL) l_Line_take c_Line_take k_Line_take
  have b_Line_take := F_Line_take.binds (ps := ["self"]) fun _ _ _ _ _ _ us hl => match us, hl with | [_], _ => rfl
  have M_Line_take : Meth K C_Line "take" f_Line_take := ⟨a_Line_take, i_Line_take, k_Line_take⟩
  have F_Line_skip := fun_mk (st := sSkip) l_Line_skip c_Line_skip k_Line_skip
  have b_Line_skip := F_Line_skip.binds (ps := ["self", "wanted"]) fun _ _ _ _ _ _ us hl => match us, hl with | [_, _], _ => rfl
  have M_Line_skip : Meth K C_Line "skip" f_Line_skip := ⟨a_Line_skip, i_Line_skip, k_Line_skip⟩
  have F_read_expression := fun_mk (st := sExprR) l_read_expression c_read_expression k_read_expression
  have b_read_expression := F_read_expression.binds (ps := ["text"]) fun _ _ _ _ _ _ us hl => match us, hl with | [_], _ => rfl
  have m_read_expression := PySem.W.mg_of X G a_read_expression
  have m_read_tree := PySem.W.mg_of X G a_read_tree
  have F_read_sum := fun_mk (st := sSum) l_read_sum c_read_sum k_read_sum
  have b_read_sum := F_read_sum.binds (ps := ["line", "brackets"]) fun _ _ _ _ _ _ us hl => match us, hl with | [_, _], _ => rfl
  have m_read_sum := PySem.W.mg_of X G a_read_sum
  have F_read_product := fun_mk (st := sProd) l_read_product c_read_product k_read_product
  have b_read_product := F_read_product.binds (ps := ["line", "brackets"]) fun _ _ _ _ _ _ us hl => match us, hl with | [_, _], _ => rfl
  have m_read_product := PySem.W.mg_of X G a_read_product
  have F_operation := fun_mk (st := sOper) l_operation c_operation k_operation
  have b_operation := F_operation.binds (ps := ["line", "sign", "left", "right"]) fun _ _ _ _ _ _ us hl => match us, hl with | [_, _, _, _], _ => rfl
  have m_operation := PySem.W.mg_of X G a_operation
  have F_read_single := fun_mk (st := sSingle) l_read_single c_read_single k_read_single
  have b_read_single := F_read_single.binds (ps := ["line", "brackets"]) fun _ _ _ _ _ _ us hl => match us, hl with | [_, _], _ => rfl
  have m_read_single := PySem.W.mg_of X G a_read_single
  have F_read_bracketed := fun_mk (st := sBrack) l_read_bracketed c_read_bracketed k_read_bracketed
  have b_read_bracketed := F_read_bracketed.binds (ps := ["line", "brackets"]) fun _ _ _ _ _ _ us hl => match us, hl with | [_, _], _ => rfl
  have m_read_bracketed := PySem.W.mg_of X G a_read_bracketed
  have F_read_number := fun_mk (st := sRdNum) l_read_number c_read_number k_read_number
  have b_read_number := F_read_number.binds (ps := ["line", "most"]) fun _ _ _ _ _ _ us hl => match us, hl with | [_, _], _ => rfl
  have m_read_number := PySem.W.mg_of X G a_read_number
  have F_read_name := fun_mk (st := sRdName) l_read_name c_read_name k_read_name
  have b_read_name := F_read_name.binds (ps := ["line"]) fun _ _ _ _ _ _ us hl => match us, hl with | [_], _ => rfl
  have m_read_name := PySem.W.mg_of X G a_read_name
  have F_Lbag := fun_mk (st := sBag) l_Lbag c_Lbag k_Lbag
  have b_Lbag := F_Lbag.binds (ps := ["_law_script", "_law_k"]) fun _ _ _ _ _ _ us hl => match us, hl with | [_, _], _ => rfl
  have m_Lbag := PySem.W.mg_of X G a_Lbag
  have F_Ltake := fun_mk (st := sTake) l_Ltake c_Ltake k_Ltake
  have b_Ltake := F_Ltake.binds (ps := ["_law_bag_here", "_law_many"]) fun _ _ _ _ _ _ us hl => match us, hl with | [_, _], _ => rfl
  have m_Ltake := PySem.W.mg_of X G a_Ltake
  have F_Lkept := fun_mk (st := sKept) l_Lkept c_Lkept k_Lkept
  have b_Lkept := F_Lkept.binds (ps := []) fun _ _ _ _ _ _ us hl => match us, hl with | [], _ => rfl
  have m_Lkept := PySem.W.mg_of X G a_Lkept
  have F_Lnames := fun_mk (st := sNames) l_Lnames c_Lnames k_Lnames
  have b_Lnames := F_Lnames.binds (ps := ["_law_bag_here", "_law_many"]) fun _ _ _ _ _ _ us hl => match us, hl with | [_, _], _ => rfl
  have m_Lnames := PySem.W.mg_of X G a_Lnames
  have F_Lnumber := fun_mk (st := sNumber) l_Lnumber c_Lnumber k_Lnumber
  have b_Lnumber := F_Lnumber.binds (ps := ["_law_bag_here"]) fun _ _ _ _ _ _ us hl => match us, hl with | [_], _ => rfl
  have m_Lnumber := PySem.W.mg_of X G a_Lnumber
  have F_Ltree := fun_mk (st := sTree) l_Ltree c_Ltree k_Ltree
  have b_Ltree := F_Ltree.binds (ps := ["_law_bag_here", "_law_names_here", "_law_deep"]) fun _ _ _ _ _ _ us hl => match us, hl with | [_, _, _], _ => rfl
  have m_Ltree := PySem.W.mg_of X G a_Ltree
  have F_Ltext := fun_mk (st := sText) l_Ltext c_Ltext k_Ltext
  have b_Ltext := F_Ltext.binds (ps := ["_law_tree_here"]) fun _ _ _ _ _ _ us hl => match us, hl with | [_], _ => rfl
  have m_Ltext := PySem.W.mg_of X G a_Ltext
  have F_Lkind := fun_mk (st := sKind) l_Lkind c_Lkind k_Lkind
  have b_Lkind := F_Lkind.binds (ps := ["_law_sign_here"]) fun _ _ _ _ _ _ us hl => match us, hl with | [_], _ => rfl
  have m_Lkind := PySem.W.mg_of X G a_Lkind
  have F_Lparts := fun_mk (st := sParts) l_Lparts c_Lparts k_Lparts
  have b_Lparts := F_Lparts.binds (ps := ["_law_text_here"]) fun _ _ _ _ _ _ us hl => match us, hl with | [_], _ => rfl
  have m_Lparts := PySem.W.mg_of X G a_Lparts
  have F_Lis_title := fun_mk (st := sTitle) l_Lis_title c_Lis_title k_Lis_title
  have b_Lis_title := F_Lis_title.binds (ps := ["_law_part"]) fun _ _ _ _ _ _ us hl => match us, hl with | [_], _ => rfl
  have m_Lis_title := PySem.W.mg_of X G a_Lis_title
  have F_Lfold := fun_mk (st := sFold) l_Lfold c_Lfold k_Lfold
  have b_Lfold := F_Lfold.binds (ps := ["_law_outs", "_law_pile"]) fun _ _ _ _ _ _ us hl => match us, hl with | [_, _], _ => rfl
  have m_Lfold := PySem.W.mg_of X G a_Lfold
  have F_Lclosed := fun_mk (st := sClosed) l_Lclosed c_Lclosed k_Lclosed
  have b_Lclosed := F_Lclosed.binds (ps := ["_law_outs", "_law_pile"]) fun _ _ _ _ _ _ us hl => match us, hl with | [_, _], _ => rfl
  have m_Lclosed := PySem.W.mg_of X G a_Lclosed
  have F_Lsigned := fun_mk (st := sSigned) l_Lsigned c_Lsigned k_Lsigned
  have b_Lsigned := F_Lsigned.binds (ps := ["_law_outs", "_law_pile", "_law_part"]) fun _ _ _ _ _ _ us hl => match us, hl with | [_, _, _], _ => rfl
  have m_Lsigned := PySem.W.mg_of X G a_Lsigned
  have F_Lread := fun_mk (st := sRead) l_Lread c_Lread k_Lread
  have b_Lread := F_Lread.binds (ps := ["_law_parts_here"]) fun _ _ _ _ _ _ us hl => match us, hl with | [_], _ => rfl
  have m_Lread := PySem.W.mg_of X G a_Lread
  have F_Lbracketed := fun_mk (st := sBrk) l_Lbracketed c_Lbracketed k_Lbracketed
  have b_Lbracketed := F_Lbracketed.binds (ps := ["_law_bag_here", "_law_tree_here", "_law_nested"]) fun _ _ _ _ _ _ us hl => match us, hl with | [_, _, _], _ => rfl
  have m_Lbracketed := PySem.W.mg_of X G a_Lbracketed
  have F_Lwithin := fun_mk (st := sWn) l_Lwithin c_Lwithin k_Lwithin
  have b_Lwithin := F_Lwithin.binds (ps := ["_law_bag_here", "_law_tree_here", "_law_nested", "_law_wanted"]) fun _ _ _ _ _ _ us hl => match us, hl with | [_, _, _, _], _ => rfl
  have m_Lwithin := PySem.W.mg_of X G a_Lwithin
  have F_Lblanked := fun_mk (st := sBlk) l_Lblanked c_Lblanked k_Lblanked
  have b_Lblanked := F_Lblanked.binds (ps := ["_law_bag_here", "_law_parts_here"]) fun _ _ _ _ _ _ us hl => match us, hl with | [_, _], _ => rfl
  have m_Lblanked := PySem.W.mg_of X G a_Lblanked
  have F_Lrefusal := fun_mk (st := sRefusal) l_Lrefusal c_Lrefusal k_Lrefusal
  have b_Lrefusal := F_Lrefusal.binds (ps := ["_law_e"]) fun _ _ _ _ _ _ us hl => match us, hl with | [_], _ => rfl
  have m_Lrefusal := PySem.W.mg_of X G a_Lrefusal
  have F_Lsign := fun_mk (st := sSign9) l_Lsign c_Lsign k_Lsign
  have b_Lsign := F_Lsign.binds (ps := ["_law_bag_here"]) fun _ _ _ _ _ _ us hl => match us, hl with | [_], _ => rfl
  have m_Lsign := PySem.W.mg_of X G a_Lsign
  have F_Lbent := fun_mk (st := sBent9) l_Lbent c_Lbent k_Lbent
  have b_Lbent := F_Lbent.binds (ps := ["_law_bag_here", "_law_text_here"]) fun _ _ _ _ _ _ us hl => match us, hl with | [_, _], _ => rfl
  have m_Lbent := PySem.W.mg_of X G a_Lbent
  have F_Lodd := fun_mk (st := sOdd9) l_Lodd c_Lodd k_Lodd
  have b_Lodd := F_Lodd.binds (ps := []) fun _ _ _ _ _ _ us hl => match us, hl with | [], _ => rfl
  have m_Lodd := PySem.W.mg_of X G a_Lodd
  have F_Lsaid := fun_mk (st := sSaid9) l_Lsaid c_Lsaid k_Lsaid
  have b_Lsaid := F_Lsaid.binds (ps := ["_law_text_here"]) fun _ _ _ _ _ _ us hl => match us, hl with | [_], _ => rfl
  have m_Lsaid := PySem.W.mg_of X G a_Lsaid
  have F_Lis_right := fun_mk (st := sRight9) l_Lis_right c_Lis_right k_Lis_right
  have b_Lis_right := F_Lis_right.binds (ps := ["_law_text_here"]) fun _ _ _ _ _ _ us hl => match us, hl with | [_], _ => rfl
  have m_Lis_right := PySem.W.mg_of X G a_Lis_right
  have F_law := fun_mk (st := sLaw) l_law c_law k_law
  have m_law := PySem.W.mg_of X G a_law
  have mC_Line := PySem.W.mg_of X G aC_Line
  have T : Bi mg := ⟨PySem.W.mg_none_of X G z_len, PySem.W.mg_none_of X G z_abs, PySem.W.mg_none_of X G z_int, PySem.W.mg_none_of X G z_str, PySem.W.mg_none_of X G z_range, PySem.W.mg_none_of X G z_max, PySem.W.mg_none_of X G z_min, PySem.W.mg_none_of X G z_isinstance, PySem.W.mg_none_of X G z_all⟩
  have q_tuple := PySem.W.mg_none_of X G z_tuple
  have q_bool := PySem.W.mg_none_of X G z_bool
  have q_repr := PySem.W.mg_none_of X G z_repr
  have q_super := PySem.W.mg_none_of X G z_super
  have q_ValueError := PySem.W.mg_none_of X G z_ValueError
  have q_LookupError := PySem.W.mg_none_of X G z_LookupError
  have q_RuntimeError := PySem.W.mg_none_of X G z_RuntimeError
  have q_ArithmeticError := PySem.W.mg_none_of X G z_ArithmeticError
  have q_KeyError := PySem.W.mg_none_of X G z_KeyError
  have q_IndexError := PySem.W.mg_none_of X G z_IndexError
  have q_ZeroDivisionError := PySem.W.mg_none_of X G z_ZeroDivisionError
  have cl_Line : Cls K C_Line := ⟨pg_Line, hd_Line, po_Line, sa_Line⟩
  refine ⟨PySem.W.fnOf "law" "law" (defArgs sLaw) (defBody sLaw) (defScope sLaw) .none kV_law dc_law pm_law an_law cd_law ct_law, fun s v => .of_eq rfl, fun base _ _ => ?_⟩
  have hW10 : iW.toArray.size ≤ sizeLine := by
    have := vW.length
    rw [List.size_toArray, ← this]
    decide
  have hS5 : iS.toArray.size ≤ sizeLine := by
    have := vS.length
    rw [List.size_toArray, ← this]
    decide
  have hM9 : iM.toArray.size ≤ sizeLine := by
    have := vM.length
    rw [List.size_toArray, ← this]
    decide
  have e30 : (1000000 : Int) ^ 5 - 1 = 999999999999999999999999999999 := by decide
  have eNp : ("" : Str) = Str.empty := by decide +kernel
  have GF : Gf K mg := ⟨⟨aW, PySem.W.mg_of X G gW, fun H => .inr ⟨_, iW.toArray, nW, lW, rfl, rfl, hW10, by rw [List.toList_toArray]; exact vW⟩⟩, ⟨aS, PySem.W.mg_of X G gS, fun H => .inr ⟨_, iS.toArray, nS, lS, rfl, rfl, hS5, by rw [List.toList_toArray]; exact vS⟩⟩, ⟨tLt, PySem.W.mg_of X G gLt⟩,
    ⟨_, PySem.W.mg_of X G g_MOST_LETTERS⟩, ⟨_, by rw [e30]; exact PySem.W.mg_of X G g_MOST_NUMBER⟩⟩
  have J : Gp K mg := ⟨⟨tFg, PySem.W.mg_of X G gFg⟩, ⟨tNp, by rw [← eNp]; exact PySem.W.mg_of X G gNp⟩, ⟨aM, PySem.W.mg_of X G gM, fun H => .inr ⟨_, iM.toArray, nM, lM, rfl, rfl, hM9, by rw [List.toList_toArray]; exact vM⟩⟩, ⟨_, PySem.W.mg_of X G g_MOST_FIGURES⟩, ⟨_, PySem.W.mg_of X G g_MOST_BRACKETS⟩⟩
  have FE : FunD K "is_expression" "is_expression" (defArgs sIsEx) (defBody sIsEx) (defScope sIsEx) [.int 6] [] f_is_expression _ := ⟨⟨_, _, _, _, _, _, _, _, _, _, rfl, l_is_expression, c_is_expression, .inr ⟨by simp, TD, oTD, iTD, nTD, rfl, lTD, oTD0, vTD⟩, .inl rfl⟩, k_is_expression⟩
  obtain ⟨⟨dsE, vE, bE⟩, bE0⟩ := isEx_dflt FE
  have FT : FunD K "read_tree" "read_tree" (defArgs sTreeR) (defBody sTreeR) (defScope sTreeR) [.int 0] [] f_read_tree _ := ⟨⟨_, _, _, _, _, _, _, _, _, _, rfl, l_read_tree, c_read_tree, .inr ⟨by simp, TD2, oTD2, iTD2, nTD2, rfl, lTD2, oTD20, vTD2⟩, .inl rfl⟩, k_read_tree⟩
  obtain ⟨⟨dsT, vT, bT⟩, bT0⟩ := tree_dflt FT
  obtain ⟨vE1, rfl⟩ := vals_one vE
  obtain ⟨vT1, rfl⟩ := vals_one vT
  have LT : LineT K C_Line := ⟨cl_Line, na_parts_Line, na_row_Line, na_place_Line⟩
  have SXt : SupC l.prog K mg "BadText" "row" cBadText fXt "ValueError" "ValueError.__new__" "ValueError.__init__" [.type "ValueError", .type "Exception", .type "BaseException", .type "object"] := by
    subst Xtbm0
    exact ⟨PySem.W.mg_of X G aBadText, PySem.F.excBase_ValueError, PySem.W.kxs_ValueError, by decide +kernel, ⟨_, _, _, _, _, _, _, _, _, _, _, _, _, _, _, Xtcls, fun _ => rfl, fun self => (refuseLoop_ref self _ _ _).trans (PySem.F.store_ValueError.passes self), Xtal, rfl⟩, Xtsa, XtnoF, XtiC, XttC, XtkC, XtexC, tyBadText, sBBadText, Xtop, q_super, Xttop, by decide +kernel, by decide +kernel, by decide +kernel, by decide +kernel,
      ⟨_, _, _, _, _, _, _, _, _, _, _, _, _, _, _, _, _, _, _, _, _, _, _, _, _, Xtfn, Xtcd, Xtli, fun _ _ => rfl, ⟨_, _, _, _, _, _, Xtlc, Xtv2, Xtfi⟩, ⟨_, _, _, Xtce⟩, Xta, Xtb, Xtj1, Xtj2, Xtpf, Xtpv, Xtpa, Xtpb, XtlA, XtlB, .inr rfl⟩⟩
  have TO : Fk l.prog w K mg base 1 "is_tuple_of" f_is_tuple_of _ ["thing", "many"] spTupOf := ⟨ok_tupOf F_is_tuple_of T q_tuple, m_is_tuple_of, k_is_tuple_of, b_is_tuple_of⟩
  have WH : Fk l.prog w K mg base 1 "is_whole" f_is_whole _ ["thing"] spWhole := ⟨ok_whole F_is_whole T q_bool, m_is_whole, k_is_whole, b_is_whole⟩
  have WI : Fk l.prog w K mg base 2 "is_whole_within" f_is_whole_within _ ["thing", "most"] spWithin := ⟨ok_within F_is_whole_within WH, m_is_whole_within, k_is_whole_within, b_is_whole_within⟩
  have IN : Fk l.prog w K mg base 1 "is_name" f_is_name _ ["thing"] spIsName := ⟨ok_isName F_is_name T GF, m_is_name, k_is_name, b_is_name⟩
  have NB : Fk l.prog w K mg base 1 "is_name" f_is_name _ ["thing"] spNameB := ⟨ok_nameB F_is_name T GF, m_is_name, k_is_name, b_is_name⟩
  have LF : Fk l.prog w K mg base 3 "is_leaf" f_is_leaf _ ["pair"] spLeaf := ⟨ok_leaf F_is_leaf WI IN GF, m_is_leaf, k_is_leaf, b_is_leaf⟩
  have mE := PySem.W.mg_of X G a_is_expression
  have IE : Fk l.prog w K mg base 9 "is_expression" f_is_expression _ ["thing", "deepest"] (spIsExB 6) := ⟨isExBs FE mE bE0 TO LF GF 6, mE, k_is_expression, bE0⟩
  have IF : Fk l.prog w K mg base 1 "is_figures" f_is_figures _ ["part"] spFigs := ⟨ok_figs F_is_figures J, m_is_figures, k_is_figures, b_is_figures⟩
  have RU : Fk l.prog w K mg base 1 "run_at" f_run_at _ ["text", "at", "signs"] spRun := ⟨ok_run F_run_at T, m_run_at, k_run_at, b_run_at⟩
  have PA : Fk l.prog w K mg base 2 "part_at" f_part_at _ ["text", "at"] spPartAt := ⟨ok_partAt F_part_at RU GF J, m_part_at, k_part_at, b_part_at⟩
  have IP : Fk l.prog w K mg base 2 "is_part" f_is_part _ ["text"] spIsPart := ⟨ok_isPart F_is_part IF NB GF J, m_is_part, k_is_part, b_is_part⟩
  have PO : FkX l.prog w K mg base 3 "parts_of" f_parts_of _ ["text", "row"] (spPartsOf cBadText) := ⟨ok_partsOf F_parts_of PA IP SXt T, m_parts_of, k_parts_of, b_parts_of⟩
  have PK : FkMm l.prog w K mg base 1 C_Line "peek" f_Line_peek _ ["self"] (spPeek C_Line) := ⟨M_Line_peek, ok_peek F_Line_peek LT J T, b_Line_peek⟩
  have TA : FkMm l.prog w K mg base 2 C_Line "take" f_Line_take _ ["self"] (spTakeL C_Line) := ⟨M_Line_take, ok_takeL F_Line_take LT PK, b_Line_take⟩
  have SK : FkMX l.prog w K mg base 3 C_Line "skip" f_Line_skip _ ["self", "wanted"] (spSkip cBadText C_Line) := ⟨M_Line_skip, ok_skip F_Line_skip LT TA SXt, b_Line_skip⟩
  have OP : FkX l.prog w K mg base 10 "operation" f_operation _ ["line", "sign", "left", "right"] (spOper cBadText C_Line) := ⟨ok_oper F_operation LT IE bE vE SXt, m_operation, k_operation, b_operation⟩
  have RN : FkX l.prog w K mg base 3 "read_number" f_read_number _ ["line", "most"] (spRdNum cBadText C_Line) := ⟨ok_rdNum F_read_number LT TA IF J T SXt, m_read_number, k_read_number, b_read_number⟩
  have RA : FkX l.prog w K mg base 3 "read_name" f_read_name _ ["line"] (spRdName cBadText C_Line) := ⟨ok_rdName F_read_name LT TA NB SXt, m_read_name, k_read_name, b_read_name⟩
  have mT := PySem.W.mg_of X G a_read_tree
  have DS := descents9 (P := l.prog) (w := w) (base := base) FT mT bT0 F_read_bracketed m_read_bracketed b_read_bracketed F_read_single m_read_single b_read_single F_read_product m_read_product b_read_product F_read_sum m_read_sum b_read_sum LT PK TA SK IF RN RA OP GF J SXt 8
  have RT : FkX l.prog w K mg base 55 "read_tree" f_read_tree _ ["line", "brackets"] (spRd cBadText C_Line 8 (treeR (singR badN 8))) := ⟨DS.2, mT, k_read_tree, bT0⟩
  have MKL : L2.Mk K C_Line f_Line___init__ := ⟨mk_Line, a_Line___init__, i_Line___init__, kc_Line⟩
  have RE : FkX l.prog w K mg base 56 "read_expression" f_read_expression _ ["text"] (spRead cBadText) := ⟨ok_exprR F_read_expression LT mC_Line MKL (ok_lineInit F_Line___init__ LT PO) b_Line___init__ SK RT bT vT J, m_read_expression, k_read_expression, b_read_expression⟩
  have TK : Fk l.prog w K mg base 1 "_law_take" f_Ltake _ ["_law_bag_here", "_law_many"] spTake := ⟨ok_take F_Ltake, m_Ltake, k_Ltake, b_Ltake⟩
  have KP : Fk l.prog w K mg base 1 "_law_kept" f_Lkept _ [] spKept := ⟨ok_kept F_Lkept, m_Lkept, k_Lkept, b_Lkept⟩
  have NU : Fk l.prog w K mg base 2 "_law_number" f_Lnumber _ ["_law_bag_here"] spNumber := ⟨ok_number F_Lnumber TK T, m_Lnumber, k_Lnumber, b_Lnumber⟩
  have TX : Fk l.prog w K mg base 6 "_law_text" f_Ltext _ ["_law_tree_here"] (spText 6) := ⟨texts F_Ltext m_Ltext b_Ltext T 6 (by decide), m_Ltext, k_Ltext, b_Ltext⟩
  have KI : Fk l.prog w K mg base 1 "_law_kind" f_Lkind _ ["_law_sign_here"] spKind := ⟨ok_kind F_Lkind T, m_Lkind, k_Lkind, b_Lkind⟩
  have PT : Fk l.prog w K mg base 2 "_law_parts" f_Lparts _ ["_law_text_here"] spParts := ⟨ok_parts F_Lparts KI T, m_Lparts, k_Lparts, b_Lparts⟩
  have TI : Fk l.prog w K mg base 2 "_law_is_title" f_Lis_title _ ["_law_part"] spTitle := ⟨ok_title F_Lis_title KI KP, m_Lis_title, k_Lis_title, b_Lis_title⟩
  have FO : Fk l.prog w K mg base 1 "_law_fold" f_Lfold _ ["_law_outs", "_law_pile"] spFold := ⟨ok_fold F_Lfold T, m_Lfold, k_Lfold, b_Lfold⟩
  have CL : Fk l.prog w K mg base 2 "_law_closed" f_Lclosed _ ["_law_outs", "_law_pile"] spClosed := ⟨ok_closed F_Lclosed FO T, m_Lclosed, k_Lclosed, b_Lclosed⟩
  have SI : Fk l.prog w K mg base 2 "_law_signed" f_Lsigned _ ["_law_outs", "_law_pile", "_law_part"] spSigned := ⟨ok_signed F_Lsigned FO T, m_Lsigned, k_Lsigned, b_Lsigned⟩
  have RD : Fk l.prog w K mg base 3 "_law_read" f_Lread _ ["_law_parts_here"] spPile := ⟨ok_pile F_Lread KI TI SI CL T, m_Lread, k_Lread, b_Lread⟩
  have BK : Fk l.prog w K mg base 20 "_law_bracketed" f_Lbracketed _ ["_law_bag_here", "_law_tree_here", "_law_nested"] (spBrk 6) := ⟨bracks F_Lbracketed m_Lbracketed b_Lbracketed F_Lwithin m_Lwithin b_Lwithin TX TK T 6, m_Lbracketed, k_Lbracketed, b_Lbracketed⟩
  have BL : Fk l.prog w K mg base 2 "_law_blanked" f_Lblanked _ ["_law_bag_here", "_law_parts_here"] spBlk := ⟨ok_blk F_Lblanked KI TK T, m_Lblanked, k_Lblanked, b_Lblanked⟩
  have EC : ErC K cBadText := ⟨isBadText, Xtga, Xtgg, XtexC, Xtca, cgO, ctO, Xtob⟩
  have EK : ErK_text K cBadText cBadText cBadTree cBadArgs cBadHall cBadTurn cNoRow cMissing cBare cSpent cBroken cStealError := ⟨kit_self, kit_own isBadTree tyBadTree suBadTree suBadText, kit_own isBadArgs tyBadArgs suBadArgs suBadText, kit_own isBadHall tyBadHall suBadHall suBadText, kit_own isBadTurn tyBadTurn suBadTurn suBadText, kit_own isNoRow tyNoRow suNoRow suBadText, kit_own isMissing tyMissing suMissing suBadText, kit_own isBare tyBare suBare suBadText, kit_own isSpent tySpent suSpent suBadText, kit_own isBroken tyBroken suBroken suBadText, kit_ownT isStealError tyStealError suStealError, kit_blt (by decide +kernel) sBBadText, kit_blt (by decide +kernel) suLookupError, kit_blt (by decide +kernel) suRuntimeError, kit_blt (by decide +kernel) suArithmeticError, kit_blt (by decide +kernel) suKeyError, kit_blt (by decide +kernel) suIndexError, kit_blt (by decide +kernel) suZeroDivisionError⟩
  have GRF : FnE l.prog w K mg base 2 f_Lrefusal _ ["_law_e"] (spRefus "text" cBadText) := ok_refusal_text F_Lrefusal EC EK T (PySem.W.mg_of X G aBadText) (PySem.W.mg_of X G aBadTree) (PySem.W.mg_of X G aBadArgs) (PySem.W.mg_of X G aBadHall) (PySem.W.mg_of X G aBadTurn) (PySem.W.mg_of X G aNoRow) (PySem.W.mg_of X G aMissing) (PySem.W.mg_of X G aBare) (PySem.W.mg_of X G aSpent) (PySem.W.mg_of X G aBroken) (PySem.W.mg_of X G aStealError) q_ValueError q_LookupError q_RuntimeError q_ArithmeticError q_KeyError q_IndexError q_ZeroDivisionError
  have SAI : Fk l.prog w K mg base 57 "_law_said" f_Lsaid _ ["_law_text_here"] spSaid9 := ⟨ok_said9 F_Lsaid RE SXt.gC (exm_self XtexC isBadText tyBadText suBadText) ⟨Xtga, Xtgg, XtexC, Xthd⟩ XtnoF GRF m_Lrefusal k_Lrefusal b_Lrefusal T, m_Lsaid, k_Lsaid, b_Lsaid⟩
  have IRI : FkG l.prog w K mg base 58 "_law_is_right" f_Lis_right _ ["_law_text_here"] spRight9 := ⟨ok_right9 F_Lis_right PT RD SAI q_repr, m_Lis_right, k_Lis_right, b_Lis_right⟩
  have SG : Fk l.prog w K mg base 2 "_law_sign" f_Lsign _ ["_law_bag_here"] spSign9 := ⟨ok_sign9 F_Lsign TK T, m_Lsign, k_Lsign, b_Lsign⟩
  have BE : Fk l.prog w K mg base 3 "_law_bent" f_Lbent _ ["_law_bag_here", "_law_text_here"] spBent9 := ⟨ok_bent9 F_Lbent TK SG T, m_Lbent, k_Lbent, b_Lbent⟩
  have OD : Fk l.prog w K mg base 1 "_law_odd" f_Lodd _ [] spOdd9 := ⟨ok_odd9 F_Lodd T, m_Lodd, k_Lodd, b_Lodd⟩
  exact ok_law F_law ⟨ok_bag F_Lbag T, m_Lbag, k_Lbag, b_Lbag⟩ ⟨ok_names F_Lnames TK KP T, m_Lnames, k_Lnames, b_Lnames⟩ ⟨trees_all F_Ltree m_Ltree b_Ltree TK NU T 6, m_Ltree, k_Ltree, b_Ltree⟩ BK BL BE OD IRI T
theorem walk {l : PySem.W.OpenLaw} {q : Program} {loose : List Str} {XP : (Str → Option Value) → Heap → Prop} {YP : World → Heap → Prop} {d : DefRec} {K : Params → PySem.W.Frag} (hn : l.most = some 63) (hdf : d.params.defaults = [])
    (hY : ∀ (w : World) (h : Heap), YP w h → (K w.params).In h)
    (F : ∀ (w : World) (mg : Str → Option Value) (fa : Addr) (h : Heap), (K w.params).In h → h.Ns mainGlobals mg → mg d.name = some (.ref fa) →
      ∃ fd : FuncData, (∀ (s : Shared) (u : Value), BindsTo s fd ⟨[u], []⟩ [("_law_script", u)]) ∧ ∀ base : Heap, (K w.params).In base → base.Ns mainGlobals mg → FnG l.prog w (K w.params) mg base 59 fa fd ["_law_script"] (spLaw (K w.params))) :
    PySem.W.WalkO q loose XP YP l.row.toRowW d [] (fun f vs => PySem.call f vs) :=
  walk_G (k := 59) (sp := spLaw) hn hdf ⟨rfl, by decide, by decide⟩ hY F fun K H a ns hl hS => ⟨a, ns, rfl, hS, hl, fun _ => rfl⟩
end SH
open PySem PySem.W PyProof.Rows
set_option maxRecDepth 100000 in
set_option maxHeartbeats 0 in
theorem PySem.Challenge.cw_stealhall_k09_expressions_of_none_holds : PySem.Challenge.rw_stealhall_k09_expressions_of_none.Holds := by
  w_on; o_law; k_head; (case hw => w_witness2)
  k_fill
  refine SH.walk (l := PySem.Challenge.rw_stealhall_k09_expressions_of_none) rfl rfl (fun w h Y => PySem.W.kIn_of Y) ?F
  case F =>
    intro w mg fa h KX G hmg
    refine' SH.all_mk KX G hmg ?aC_Line ?a_is_tuple_of ?l_is_tuple_of ?c_is_tuple_of ?k_is_tuple_of ?a_is_whole ?l_is_whole ?c_is_whole ?k_is_whole ?a_is_whole_within ?l_is_whole_within ?c_is_whole_within ?k_is_whole_within ?a_is_name ?l_is_name ?c_is_name ?k_is_name ?a_is_expression ?l_is_expression ?c_is_expression ?k_is_expression ?a_is_leaf ?l_is_leaf ?c_is_leaf ?k_is_leaf ?a_parts_of ?l_parts_of ?c_parts_of ?k_parts_of ?a_part_at ?l_part_at ?c_part_at ?k_part_at ?a_run_at ?l_run_at ?c_run_at ?k_run_at ?a_is_part ?l_is_part ?c_is_part ?k_is_part ?a_is_figures ?l_is_figures ?c_is_figures ?k_is_figures ?a_Line___init__ ?l_Line___init__ ?c_Line___init__ ?k_Line___init__ ?i_Line___init__ ?a_Line_peek ?l_Line_peek ?c_Line_peek ?k_Line_peek ?i_Line_peek ?a_Line_take ?l_Line_take ?c_Line_take ?k_Line_take ?i_Line_take ?a_Line_skip ?l_Line_skip ?c_Line_skip ?k_Line_skip ?i_Line_skip ?a_read_expression ?l_read_expression ?c_read_expression ?k_read_expression ?a_read_tree ?l_read_tree ?c_read_tree ?k_read_tree ?a_read_sum ?l_read_sum ?c_read_sum ?k_read_sum ?a_read_product ?l_read_product ?c_read_product ?k_read_product ?a_operation ?l_operation ?c_operation ?k_operation ?a_read_single ?l_read_single ?c_read_single ?k_read_single ?a_read_bracketed ?l_read_bracketed ?c_read_bracketed ?k_read_bracketed ?a_read_number ?l_read_number ?c_read_number ?k_read_number ?a_read_name ?l_read_name ?c_read_name ?k_read_name ?a_Lbag ?l_Lbag ?c_Lbag ?k_Lbag ?a_Ltake ?l_Ltake ?c_Ltake ?k_Ltake ?a_Lkept ?l_Lkept ?c_Lkept ?k_Lkept ?a_Lnames ?l_Lnames ?c_Lnames ?k_Lnames ?a_Lnumber ?l_Lnumber ?c_Lnumber ?k_Lnumber ?a_Ltree ?l_Ltree ?c_Ltree ?k_Ltree ?a_Ltext ?l_Ltext ?c_Ltext ?k_Ltext ?a_Lkind ?l_Lkind ?c_Lkind ?k_Lkind ?a_Lparts ?l_Lparts ?c_Lparts ?k_Lparts ?a_Lis_title ?l_Lis_title ?c_Lis_title ?k_Lis_title ?a_Lfold ?l_Lfold ?c_Lfold ?k_Lfold ?a_Lclosed ?l_Lclosed ?c_Lclosed ?k_Lclosed ?a_Lsigned ?l_Lsigned ?c_Lsigned ?k_Lsigned ?a_Lread ?l_Lread ?c_Lread ?k_Lread ?a_Lbracketed ?l_Lbracketed ?c_Lbracketed ?k_Lbracketed ?a_Lwithin ?l_Lwithin ?c_Lwithin ?k_Lwithin ?a_Lblanked ?l_Lblanked ?c_Lblanked ?k_Lblanked ?a_Lrefusal ?l_Lrefusal ?c_Lrefusal ?k_Lrefusal ?a_Lsign ?l_Lsign ?c_Lsign ?k_Lsign ?a_Lbent ?l_Lbent ?c_Lbent ?k_Lbent ?a_Lodd ?l_Lodd ?c_Lodd ?k_Lodd ?a_Lsaid ?l_Lsaid ?c_Lsaid ?k_Lsaid ?a_Lis_right ?l_Lis_right ?c_Lis_right ?k_Lis_right ?a_law ?l_law ?c_law ?k_law ?z_len ?z_abs ?z_int ?z_str ?z_range ?z_max ?z_min ?z_isinstance ?z_all ?z_tuple ?z_bool ?z_repr ?z_super ?z_ValueError ?z_LookupError ?z_RuntimeError ?z_ArithmeticError ?z_KeyError ?z_IndexError ?z_ZeroDivisionError ?pg_Line ?hd_Line ?po_Line ?sa_Line ?mk_Line ?kc_Line ?na_parts_Line ?na_row_Line ?na_place_Line ?gLt ?gFg ?gNp ?g_MOST_LETTERS ?g_MOST_NUMBER ?g_MOST_FIGURES ?g_MOST_BRACKETS ?gW ?lW ?vW ?gS ?lS ?vS ?gM ?lM ?vM ?lTD ?oTD0 ?vTD ?lTD2 ?oTD20 ?vTD2 ?aBadText ?aBadTree ?aBadArgs ?aBadHall ?aBadTurn ?aNoRow ?aMissing ?aBare ?aSpent ?aBroken ?aStealError ?isBadText ?tyBadText ?suBadText ?sBBadText ?Xtcls ?Xtbm0 ?Xtal ?Xtsa ?XtnoF ?XtiC ?XttC ?XtkC ?XtexC ?Xtop ?Xthd ?Xtga ?Xtgg ?Xtfn ?Xtcd ?Xtli ?XtlA ?XtlB ?Xtlc ?Xtv2 ?Xtfi ?Xtce ?Xttop ?isBadTree ?tyBadTree ?suBadTree ?isBadArgs ?tyBadArgs ?suBadArgs ?isBadHall ?tyBadHall ?suBadHall ?isBadTurn ?tyBadTurn ?suBadTurn ?isNoRow ?tyNoRow ?suNoRow ?isMissing ?tyMissing ?suMissing ?isBare ?tyBare ?suBare ?isSpent ?tySpent ?suSpent ?isBroken ?tyBroken ?suBroken ?isStealError ?tyStealError ?suStealError ?suLookupError ?suRuntimeError ?suArithmeticError ?suKeyError ?suIndexError ?suZeroDivisionError ?Xtca ?cgO ?ctO ?Xtob
    (case aC_Line => k_is)
    (case a_is_tuple_of => k_is)
    (case l_is_tuple_of => k_is)
    (case c_is_tuple_of => k_is)
    (case k_is_tuple_of => k_is)
    (case a_is_whole => k_is)
    (case l_is_whole => k_is)
    (case c_is_whole => k_is)
    (case k_is_whole => k_is)
    (case a_is_whole_within => k_is)
    (case l_is_whole_within => k_is)
    (case c_is_whole_within => k_is)
    (case k_is_whole_within => k_is)
    (case a_is_name => k_is)
    (case l_is_name => k_is)
    (case c_is_name => k_is)
    (case k_is_name => k_is)
    (case a_is_expression => k_is)
    (case l_is_expression => k_is)
    (case c_is_expression => k_is)
    (case k_is_expression => k_is)
    (case a_is_leaf => k_is)
    (case l_is_leaf => k_is)
    (case c_is_leaf => k_is)
    (case k_is_leaf => k_is)
    (case a_parts_of => k_is)
    (case l_parts_of => k_is)
    (case c_parts_of => k_is)
    (case k_parts_of => k_is)
    (case a_part_at => k_is)
    (case l_part_at => k_is)
    (case c_part_at => k_is)
    (case k_part_at => k_is)
    (case a_run_at => k_is)
    (case l_run_at => k_is)
    (case c_run_at => k_is)
    (case k_run_at => k_is)
    (case a_is_part => k_is)
    (case l_is_part => k_is)
    (case c_is_part => k_is)
    (case k_is_part => k_is)
    (case a_is_figures => k_is)
    (case l_is_figures => k_is)
    (case c_is_figures => k_is)
    (case k_is_figures => k_is)
    (case a_Line___init__ => k_is)
    (case l_Line___init__ => k_is)
    (case c_Line___init__ => k_is)
    (case k_Line___init__ => k_is)
    (case i_Line___init__ => k_is)
    (case a_Line_peek => k_is)
    (case l_Line_peek => k_is)
    (case c_Line_peek => k_is)
    (case k_Line_peek => k_is)
    (case i_Line_peek => k_is)
    (case a_Line_take => k_is)
    (case l_Line_take => k_is)
    (case c_Line_take => k_is)
    (case k_Line_take => k_is)
    (case i_Line_take => k_is)
    (case a_Line_skip => k_is)
    (case l_Line_skip => k_is)
    (case c_Line_skip => k_is)
    (case k_Line_skip => k_is)
    (case i_Line_skip => k_is)
    (case a_read_expression => k_is)
    (case l_read_expression => k_is)
    (case c_read_expression => k_is)
    (case k_read_expression => k_is)
    (case a_read_tree => k_is)
    (case l_read_tree => k_is)
    (case c_read_tree => k_is)
    (case k_read_tree => k_is)
    (case a_read_sum => k_is)
    (case l_read_sum => k_is)
    (case c_read_sum => k_is)
    (case k_read_sum => k_is)
    (case a_read_product => k_is)
    (case l_read_product => k_is)
    (case c_read_product => k_is)
    (case k_read_product => k_is)
    (case a_operation => k_is)
    (case l_operation => k_is)
    (case c_operation => k_is)
    (case k_operation => k_is)
    (case a_read_single => k_is)
    (case l_read_single => k_is)
    (case c_read_single => k_is)
    (case k_read_single => k_is)
    (case a_read_bracketed => k_is)
    (case l_read_bracketed => k_is)
    (case c_read_bracketed => k_is)
    (case k_read_bracketed => k_is)
    (case a_read_number => k_is)
    (case l_read_number => k_is)
    (case c_read_number => k_is)
    (case k_read_number => k_is)
    (case a_read_name => k_is)
    (case l_read_name => k_is)
    (case c_read_name => k_is)
    (case k_read_name => k_is)
    (case a_Lbag => k_is)
    (case l_Lbag => k_is)
    (case c_Lbag => k_is)
    (case k_Lbag => k_is)
    (case a_Ltake => k_is)
    (case l_Ltake => k_is)
    (case c_Ltake => k_is)
    (case k_Ltake => k_is)
    (case a_Lkept => k_is)
    (case l_Lkept => k_is)
    (case c_Lkept => k_is)
    (case k_Lkept => k_is)
    (case a_Lnames => k_is)
    (case l_Lnames => k_is)
    (case c_Lnames => k_is)
    (case k_Lnames => k_is)
    (case a_Lnumber => k_is)
    (case l_Lnumber => k_is)
    (case c_Lnumber => k_is)
    (case k_Lnumber => k_is)
    (case a_Ltree => k_is)
    (case l_Ltree => k_is)
    (case c_Ltree => k_is)
    (case k_Ltree => k_is)
    (case a_Ltext => k_is)
    (case l_Ltext => k_is)
    (case c_Ltext => k_is)
    (case k_Ltext => k_is)
    (case a_Lkind => k_is)
    (case l_Lkind => k_is)
    (case c_Lkind => k_is)
    (case k_Lkind => k_is)
    (case a_Lparts => k_is)
    (case l_Lparts => k_is)
    (case c_Lparts => k_is)
    (case k_Lparts => k_is)
    (case a_Lis_title => k_is)
    (case l_Lis_title => k_is)
    (case c_Lis_title => k_is)
    (case k_Lis_title => k_is)
    (case a_Lfold => k_is)
    (case l_Lfold => k_is)
    (case c_Lfold => k_is)
    (case k_Lfold => k_is)
    (case a_Lclosed => k_is)
    (case l_Lclosed => k_is)
    (case c_Lclosed => k_is)
    (case k_Lclosed => k_is)
    (case a_Lsigned => k_is)
    (case l_Lsigned => k_is)
    (case c_Lsigned => k_is)
    (case k_Lsigned => k_is)
    (case a_Lread => k_is)
    (case l_Lread => k_is)
    (case c_Lread => k_is)
    (case k_Lread => k_is)
    (case a_Lbracketed => k_is)
    (case l_Lbracketed => k_is)
    (case c_Lbracketed => k_is)
    (case k_Lbracketed => k_is)
    (case a_Lwithin => k_is)
    (case l_Lwithin => k_is)
    (case c_Lwithin => k_is)
    (case k_Lwithin => k_is)
    (case a_Lblanked => k_is)
    (case l_Lblanked => k_is)
    (case c_Lblanked => k_is)
    (case k_Lblanked => k_is)
    (case a_Lrefusal => k_is)
    (case l_Lrefusal => k_is)
    (case c_Lrefusal => k_is)
    (case k_Lrefusal => k_is)
    (case a_Lsign => k_is)
    (case l_Lsign => k_is)
    (case c_Lsign => k_is)
    (case k_Lsign => k_is)
    (case a_Lbent => k_is)
    (case l_Lbent => k_is)
    (case c_Lbent => k_is)
    (case k_Lbent => k_is)
    (case a_Lodd => k_is)
    (case l_Lodd => k_is)
    (case c_Lodd => k_is)
    (case k_Lodd => k_is)
    (case a_Lsaid => k_is)
    (case l_Lsaid => k_is)
    (case c_Lsaid => k_is)
    (case k_Lsaid => k_is)
    (case a_Lis_right => k_is)
    (case l_Lis_right => k_is)
    (case c_Lis_right => k_is)
    (case k_Lis_right => k_is)
    (case a_law => k_is)
    (case l_law => k_is)
    (case c_law => k_is)
    (case k_law => k_is)
    (case z_len => k_is)
    (case z_abs => k_is)
    (case z_int => k_is)
    (case z_str => k_is)
    (case z_range => k_is)
    (case z_max => k_is)
    (case z_min => k_is)
    (case z_isinstance => k_is)
    (case z_all => k_is)
    (case z_tuple => k_is)
    (case z_bool => k_is)
    (case z_repr => k_is)
    (case z_super => k_is)
    (case z_ValueError => k_is)
    (case z_LookupError => k_is)
    (case z_RuntimeError => k_is)
    (case z_ArithmeticError => k_is)
    (case z_KeyError => k_is)
    (case z_IndexError => k_is)
    (case z_ZeroDivisionError => k_is)
    (case pg_Line => k_is)
    (case hd_Line => k_is)
    (case po_Line => k_is)
    (case sa_Line => k_is)
    (case mk_Line => k_is)
    (case kc_Line => k_is)
    (case na_parts_Line => k_is)
    (case na_row_Line => k_is)
    (case na_place_Line => k_is)
    (case gLt => k_is)
    (case gFg => k_is)
    (case gNp => k_is)
    (case g_MOST_LETTERS => k_is)
    (case g_MOST_NUMBER => k_is)
    (case g_MOST_FIGURES => k_is)
    (case g_MOST_BRACKETS => k_is)
    (case gW => k_is)
    (case lW => k_is)
    (case vW => (repeat (first | exact Paired.nil | refine Paired.cons ⟨_, rfl⟩ ?_)))
    (case gS => k_is)
    (case lS => k_is)
    (case vS => (repeat (first | exact Paired.nil | refine Paired.cons ⟨_, rfl⟩ ?_)))
    (case gM => k_is)
    (case lM => k_is)
    (case vM => (repeat (first | exact Paired.nil | refine Paired.cons ⟨_, rfl⟩ ?_)))
    (case lTD => k_is)
    (case oTD0 => (first | rfl | k_is))
    (case vTD => (repeat (first | exact Paired.nil | refine Paired.cons ⟨_, rfl⟩ ?_)))
    (case lTD2 => k_is)
    (case oTD20 => (first | rfl | k_is))
    (case vTD2 => (repeat (first | exact Paired.nil | refine Paired.cons ⟨_, rfl⟩ ?_)))
    (case aBadText => k_is)
    (case aBadTree => k_is)
    (case aBadArgs => k_is)
    (case aBadHall => k_is)
    (case aBadTurn => k_is)
    (case aNoRow => k_is)
    (case aMissing => k_is)
    (case aBare => k_is)
    (case aSpent => k_is)
    (case aBroken => k_is)
    (case aStealError => k_is)
    (case isBadText => k_is)
    (case tyBadText => k_is)
    (case suBadText => k_is)
    (case sBBadText => k_is)
    (case Xtcls => k_is)
    (case Xtbm0 => rfl)
    (case Xtal => (first | k_is | kernel_rfl | rfl | decide +kernel))
    (case Xtsa => k_is)
    (case XtnoF => k_is)
    (case XtiC => k_is)
    (case XttC => k_is)
    (case XtkC => k_is)
    (case XtexC => k_is)
    (case Xtop => k_is)
    (case Xthd => k_is)
    (case Xtga => k_is)
    (case Xtgg => k_is)
    (case Xtfn => k_is)
    (case Xtcd => k_is)
    (case Xtli => (first | rfl | decide))
    (case XtlA => decide +kernel)
    (case XtlB => decide +kernel)
    (case Xtlc => k_is)
    (case Xtv2 => rfl)
    (case Xtfi => (first | decide +kernel | rfl))
    (case Xtce => k_is)
    (case Xttop => (first | decide +kernel | rfl))
    (case isBadTree => k_is)
    (case tyBadTree => k_is)
    (case suBadTree => k_is)
    (case isBadArgs => k_is)
    (case tyBadArgs => k_is)
    (case suBadArgs => k_is)
    (case isBadHall => k_is)
    (case tyBadHall => k_is)
    (case suBadHall => k_is)
    (case isBadTurn => k_is)
    (case tyBadTurn => k_is)
    (case suBadTurn => k_is)
    (case isNoRow => k_is)
    (case tyNoRow => k_is)
    (case suNoRow => k_is)
    (case isMissing => k_is)
    (case tyMissing => k_is)
    (case suMissing => k_is)
    (case isBare => k_is)
    (case tyBare => k_is)
    (case suBare => k_is)
    (case isSpent => k_is)
    (case tySpent => k_is)
    (case suSpent => k_is)
    (case isBroken => k_is)
    (case tyBroken => k_is)
    (case suBroken => k_is)
    (case isStealError => k_is)
    (case tyStealError => k_is)
    (case suStealError => k_is)
    (case suLookupError => k_is)
    (case suRuntimeError => k_is)
    (case suArithmeticError => k_is)
    (case suKeyError => k_is)
    (case suIndexError => k_is)
    (case suZeroDivisionError => k_is)
    (case Xtca => k_is)
    (case cgO => k_is)
    (case ctO => k_is)
    (case Xtob => k_is)
