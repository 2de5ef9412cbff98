import PyProof.Rows.All
import Wide.All
import OpenK.AllK
import Wide.FinOn
import HandS.ForMost
import HandS.More
import HandS.FStr
import HandS.IsInst
import HandS.Codes
import HandS.Walk
import HandS.RaiseMore
import HandS.Defaults
import HandS.Text
import HandS.ReplaceList
import HandS.Strs
import HandS.SetBool
import HandS.SetKeys
import HandS.DictComp
import KE.KCallOwn
import HandS.OwnEq
import PyProof.ReprRoads
import PyProof.StrLawsRepr
import PyProof.FitsInt
import PySem.Challenge.RW_stealhall_k08_expressions_read
set_option Elab.async false
set_option linter.all false
set_option maxRecDepth 100000
/-! Expressions: what they are, their text, how they lie in the heap. -/
namespace SH
open PySem L2
inductive Sg where
  | add | sub | mul | lt | eq
def Sg.txt : Sg → Str
  | .add => "+"
  | .sub => "-"
  | .mul => "*"
  | .lt => "<"
  | .eq => "=="
def Sg.lv : Sg → Int
  | .add => 2
  | .sub => 2
  | .mul => 3
  | .lt => 1
  | .eq => 1
inductive Ex where
  | num (n : Int)
  | nam (s : Str)
  | op (g : Sg) (l r : Ex)
def Ex.lv : Ex → Int
  | .num _ => 4
  | .nam _ => 4
  | .op g _ _ => g.lv
def Ex.lw : Ex → Int
  | .num _ => 9
  | .nam _ => 9
  | .op g _ _ => g.lv
def br (b : Bool) (t : Str) : Str := if b = true then ("(" : Str) ++ t ++ (")" : Str) else t
def lB (g : Sg) (l : Ex) : Bool := decide (l.lv < g.lv) || decide (l.lv = 1)
def rB (g : Sg) (r : Ex) : Bool := decide (r.lv ≤ g.lv)
def Ex.txt : Ex → Str
  | .num n => (toString n : String)
  | .nam s => s
  | .op g l r => br (lB g l) l.txt ++ (" " : Str) ++ g.txt ++ (" " : Str) ++ br (rB g r) r.txt
/-- at most n deep, its parts within bounds -/
def Ex.ok : Nat → Ex → Prop
  | 0, _ => False
  | _ + 1, .num n => n.natAbs.log2 < 1920
  | _ + 1, .nam s => s.length ≤ 2000
  | n + 1, .op _ l r => Ex.ok n l ∧ Ex.ok n r
def lenB : Nat → Nat
  | 0 => 2000
  | n + 1 => 2 * lenB n + 2000
theorem app_len (a b : Str) : (a ++ b).length = a.length + b.length := by
  show (a.cps ++ b.cps).size = _
  rw [Array.size_append]
  all_goals rfl
theorem emp_app (a : Str) : Str.empty ++ a = a := by
  show (⟨#[] ++ a.cps⟩ : Str) = a
  rw [Array.empty_append]
theorem Sg.len (g : Sg) : g.txt.length ≤ 2 := by cases g <;> decide +kernel
theorem br_len (b : Bool) (t : Str) : (br b t).length ≤ t.length + 2 := by
  unfold br
  split
  · rw [app_len, app_len]
    have h1 : ("(" : Str).length = 1 := by decide +kernel
    have h2 : (")" : Str).length = 1 := by decide +kernel
    omega
  · omega
theorem Ex.len : ∀ (n : Nat) (e : Ex), Ex.ok n e → e.txt.length ≤ lenB n
  | 0, _, h => h.elim
  | n + 1, .num i, h => by
    have q := PyProof.Rows.int_text_len_1921 (i := i) h
    show (PySem.Str.ofString (toString i)).length ≤ 2 * lenB n + 2000
    omega
  | n + 1, .nam s, h => by
    show s.length ≤ 2 * lenB n + 2000
    have : s.length ≤ 2000 := h
    omega
  | n + 1, .op g l r, h => by
    have h1 := Ex.len n l h.1
    have h2 := Ex.len n r h.2
    have q1 := br_len (lB g l) l.txt
    have q2 := br_len (rB g r) r.txt
    have q3 := g.len
    have hb : (" " : Str).length = 1 := by decide +kernel
    show (br (lB g l) l.txt ++ (" " : Str) ++ g.txt ++ (" " : Str) ++ br (rB g r) r.txt).length ≤ 2 * lenB n + 2000
    rw [app_len, app_len, app_len, app_len]
    omega
theorem Ex.ok_up : ∀ {n m : Nat} {e : Ex}, n ≤ m → Ex.ok n e → Ex.ok m e
  | 0, _, _, _, h => h.elim
  | n + 1, m + 1, .num _, _, h => h
  | n + 1, m + 1, .nam _, _, h => h
  | n + 1, m + 1, .op _ _ _, hm, h => ⟨Ex.ok_up (by omega) h.1, Ex.ok_up (by omega) h.2⟩
/-- what lies at v is the expression -/
def TrIn (H : Hp) : Ex → V → Prop
  | .num n, v => ∃ a, v = .ref a ∧ H a = some (.tup [.str "number", .int n])
  | .nam s, v => ∃ a, v = .ref a ∧ H a = some (.tup [.str "name", .str s])
  | .op g l r, v => ∃ a x y, v = .ref a ∧ H a = some (.tup [.str g.txt, x, y]) ∧ TrIn H l x ∧ TrIn H r y
/-- all but what stands at b stays -/
def But (b : Addr) (H H' : Hp) : Prop := ∀ a o, a ≠ b → H a = some o → H' a = some o
theorem But.of {b : Addr} {H H' : Hp} (h : Same H H') : But b H H' := fun a o _ e => h a o e
theorem But.trans {b : Addr} {H H1 H2 : Hp} (h : But b H H1) (k : But b H1 H2) : But b H H2 := fun a o n e => k a o n (h a o n e)
theorem TrIn.same {H H' : Hp} (h : Same H H') : ∀ {e : Ex} {v : V}, TrIn H e v → TrIn H' e v
  | .num n, v, ⟨a, e, k⟩ => ⟨a, e, h _ _ k⟩
  | .nam n, v, ⟨a, e, k⟩ => ⟨a, e, h _ _ k⟩
  | .op g l r, v, ⟨a, x, y, e, k, p, q⟩ => ⟨a, x, y, e, h _ _ k, TrIn.same h p, TrIn.same h q⟩
theorem lst_ne {H : Hp} {a b : Addr} {xs ys : List V} (h : H a = some (.tup xs)) (k : H b = some (.lst ys)) : a ≠ b := fun e => by
  rw [e, k] at h
  cases h
theorem TrIn.but {H H' : Hp} {b : Addr} {ys : List V} (hb : H b = some (.lst ys)) (h : But b H H') : ∀ {e : Ex} {v : V}, TrIn H e v → TrIn H' e v
  | .num n, v, ⟨a, e, k⟩ => ⟨a, e, h _ _ (lst_ne k hb) k⟩
  | .nam n, v, ⟨a, e, k⟩ => ⟨a, e, h _ _ (lst_ne k hb) k⟩
  | .op g l r, v, ⟨a, x, y, e, k, p, q⟩ => ⟨a, x, y, e, h _ _ (lst_ne k hb) k, TrIn.but hb h p, TrIn.but hb h q⟩
theorem same_new {H : Hp} {p : Addr} (h : H p = none) (o : HO) : Same H (upd H p o) := fun b u q => by
  rw [upd_ne (ne_of_none q h)]
  exact q
def Ex.head : Ex → Str
  | .num _ => "number"
  | .nam _ => "name"
  | .op g _ _ => g.txt
theorem TrIn.tup {H : Hp} : ∀ {e : Ex} {v : V}, TrIn H e v → ∃ a xs, v = .ref a ∧ H a = some (.tup xs) ∧ xs[0]? = some (.str e.head)
  | .num n, v, ⟨a, e, k⟩ => ⟨a, _, e, k, rfl⟩
  | .nam n, v, ⟨a, e, k⟩ => ⟨a, _, e, k, rfl⟩
  | .op g l r, v, ⟨a, x, y, e, k, p, q⟩ => ⟨a, _, e, k, rfl⟩
theorem Sg.ne_number (g : Sg) : g.txt ≠ ("number" : Str) := by cases g <;> decide +kernel
theorem Sg.ne_name (g : Sg) : g.txt ≠ ("name" : Str) := by cases g <;> decide +kernel
/-! ### d.get(k, x) of a dict of the module, keys texts -/
section
variable {X : Cx} {o e f : Expr} {apos cpos : Pos} {td ty tx : TE}
def KGet (K : PySem.W.Frag) (w : World) (a : Addr) (x : Str) (r : Option V) : Prop :=
  ∃ es n ou, K.lookup a = some ⟨.type "dict", none, .dict es n, #[]⟩ ∧ PySem.W.KeysLit w.params es.toList ∧ (a == sysModules) = false ∧ PySem.W.nsIn K a x = some ou ∧
    ((∃ v u, r = some v ∧ ou = some u ∧ RelV v u) ∨ (r = none ∧ ou = none))
def tKGet2 (K : PySem.W.Frag) (w : World) (td ty tx : TE) : TE := fun σ H Q => td σ H fun x H1 => ∃ a es n, x = .ref a ∧ K.lookup a = some ⟨.type "dict", none, .dict es n, #[]⟩ ∧ PySem.W.KeysLit w.params es.toList ∧
  ty σ H1 fun y H2 => tx σ H2 fun z H3 => ∃ k r, y = .str k ∧ KGet K w a k r ∧ Q (r.getD z) H3
theorem pe_kget2 (ho : PE X o td) (he : PE X e ty) (hf : PE X f tx) (m : M2 X o "get" apos e f cpos) : PE X (.Call (.Attribute o "get" apos) [e, f] [] cpos) (tKGet2 X.K X.w td ty tx) := by
  refine ⟨fun pins s σ H Q I h => ?_⟩
  refine wpAny_Call_method m.base m.few m.line PySem.F.plainAttrs_dict PySem.F.slot_dict_get PySem.F.type_dict_get (thn (ho.run pins s σ H _ I h) fun u s1 ⟨x, H1, I1, rx, a, es, n, ex, hl, hk, q1⟩ => ?_)
  subst ex
  obtain rfl : u = Value.ref a := rx
  have hm := PySem.W.mapOf_K (prog := X.prog) (w := X.w) I1.kIn hl hk
  refine ⟨hm.typeIs, fun b q => ?_, ?_⟩
  · cases q
    exact ⟨_, I1.kIn _ _ hl, rfl⟩
  rw [m.trees]
  refine Calls.callWith_builtin rfl (Calls.evalArgs_plain (Calls.spliced_cons (thn (he.run pins s1 σ H1 _ I1 q1) fun iv s2 ⟨y, H2, I2, ry, q2⟩ =>
    Calls.spliced_cons (thn (hf.run pins s2 σ H2 _ I2 q2) fun fv s3 ⟨z, H3, I3, rz, k, r, ey, g, q3⟩ => Calls.spliced_nil ?_))))
  subst ey
  obtain ⟨t, rfl⟩ := (show ∃ t, iv = Value.str k t from ry)
  obtain ⟨es', n', ou, hl', hk', low, hn, hr⟩ := g
  have hm3 := PySem.W.mapOf_K (prog := X.prog) (w := X.w) I3.kIn hl' hk'
  refine call_meetsIn PySem.F.slot_dict_get hm3.typeIs PySem.F.entry_dict_get (PySem.F.args_dict_get_3 _ _ _) (meets_dict_get_default (strKind X.prog X.w) a (strKind_is X.prog X.w k t) low fv) ⟨_, hm3, ?_⟩
  rw [PySem.W.find_K hl' hn]
  rcases hr with ⟨v, u, rfl, rfl, rv⟩ | ⟨rfl, rfl⟩
  · exact ⟨v, H3, I3.tok _, rv, q3⟩
  · exact ⟨z, H3, I3.tok _, rz, q3⟩
end
/-! ### rules within a comprehension: the written part by its name -/
section
variable {X : Cx}
theorem ix_tupK (K : PySem.W.Frag) (h : X.K = K := by rfl) : IxR X (rIxT K) := h ▸ ix_tup
theorem ix_listK (K : PySem.W.Frag) (h : X.K = K := by rfl) : IxR X (rIxL K) := h ▸ ix_list
theorem call_len_seqK (K : PySem.W.Frag) (h : X.K = K := by rfl) : CallR X (.builtin "len") (fun xs H Q => ∃ p ys, xs = [V.ref p] ∧ (SqL K H p ys ∨ SqT K H p ys) ∧ Q (.int (ys.length : Nat)) H) := h ▸ call_len_seq
theorem op_in_seqK (K : PySem.W.Frag) (h : X.K = K := by rfl) : OpR X (compareOp .In) (rIn K false) := h ▸ op_in_seq
theorem op_notIn_seqK (K : PySem.W.Frag) (h : X.K = K := by rfl) : OpR X (compareOp .NotIn) (rIn K true) := h ▸ op_notIn_seq
end
end SH

set_option Elab.async false
set_option linter.all false
set_option maxRecDepth 100000
namespace SH
open PySem L2
def topS (i : Nat) : Stmt := PySem.Challenge.pw_stealhall_k08_expressions_read.main.body.getD i (.Pass ⟨0, 0, 0, 0⟩)
end SH


set_option Elab.async false
set_option linter.all false
set_option maxRecDepth 100000
namespace SH
open PySem L2
abbrev sBag : Stmt := topS 39
abbrev sTake : Stmt := topS 40
theorem scBag : FnScope ["_law_script", "_law_k", "_law_cell"] ["_law_script", "_law_k"] (defScope sBag) := ⟨rfl, rfl, rfl, by decide +kernel, rfl, by decide +kernel, by decide +kernel⟩
theorem scTake : FnScope ["_law_bag_here", "_law_many", "_law_digit", "_law_primes", "_law_step", "_law_base", "_law_found", "_law_prime"] ["_law_bag_here", "_law_many"] (defScope sTake) := ⟨rfl, rfl, rfl, by decide +kernel, rfl, by decide +kernel, by decide +kernel⟩
/-- the names of the built-ins are free -/
structure Bi (mg : Str → Option Value) : Prop where
  len : mg "len" = none
  abs : mg "abs" = none
  int : mg "int" = none
  str : mg "str" = none
  range : mg "range" = none
  max : mg "max" = none
  min : mg "min" = none
  isinstance : mg "isinstance" = none
  all : mg "all" = none
/-- a def that can be called -/
structure Fk (P : Program) (w : World) (K : PySem.W.Frag) (mg : Str → Option Value) (base : Heap) (lv : Nat) (x : Str) (f : Addr) (fd : FuncData) (ps : List Str) (sp : Sp) : Prop where
  G : FnOk P w K mg base CX0 lv f fd ps sp
  m : mg x = some (.ref f)
  k : PySem.W.keepIn K (.ref f) = true
  b : Binds K fd ps []
/-- a bag from which n can be taken -/
def Bag (H : Hp) (b : Addr) (n : Nat) : Prop := ∃ x y z : Int, H b = some (.lst [.int x, .int y, .int z]) ∧ 0 ≤ x ∧ 0 ≤ y ∧ y ≤ 4294967296 ∧ 0 ≤ z ∧ z + n ≤ 16777216
theorem Bag.less {H : Hp} {b : Addr} {n m : Nat} (h : Bag H b n) (hm : m ≤ n) : Bag H b m := by
  obtain ⟨x, y, z, e, h1, h2, h3, h4, h5⟩ := h
  exact ⟨x, y, z, e, h1, h2, h3, h4, by omega⟩
theorem Bag.same {H H' : Hp} {b : Addr} {n : Nat} (h : Bag H b n) (s : Same H H') : Bag H' b n := by
  obtain ⟨x, y, z, e, r⟩ := h
  exact ⟨x, y, z, s _ _ e, r⟩
theorem Bag.lst {H : Hp} {b : Addr} {n : Nat} (h : Bag H b n) : ∃ ys, H b = some (.lst ys) := by
  obtain ⟨x, y, z, e, _⟩ := h
  exact ⟨_, e⟩
def spBag (K : PySem.W.Frag) : Sp := fun vs H Q _ => ∃ (a : Addr) (ns : List Int) (k : Int), vs = [.ref a, .int k] ∧ SqL K H a (ns.map V.int) ∧ 0 ≤ k ∧ k ≤ 63 ∧
  ∀ b H', Same H H' → H b = none → Bag H' b 16000000 → Q (.ref b) H'
def spTake : Sp := fun vs H Q _ => ∃ (b : Addr) (m : Int) (n : Nat), vs = [.ref b, .int m] ∧ 0 < m ∧ m < 1073741824 ∧ Bag H b (n + 1) ∧
  ∀ (d : Int) (H' : Hp), 0 ≤ d → d < m → Bag H' b n → But b H H' → Q (.int d) H'
theorem bit01 (b : Bool) : -(2 ^ 64) < (if b = true then (1 : Int) else 0) ∧ (if b = true then (1 : Int) else 0) < 2 ^ 64 := by cases b <;> decide
theorem bit0 (b : Bool) : 0 ≤ (if b = true then (1 : Int) else 0) := by cases b <;> decide
section
variable {P : Program} {w : World} {K : PySem.W.Frag} {mg : Str → Option Value} {base : Heap}
theorem ok_bag {f : Addr} {fd : FuncData} (F : Fun K "_law_bag" "_law_bag" sBag f fd) (T : Bi mg) : FnOk P w K mg base CX0 1 f fd ["_law_script", "_law_k"] (spBag K) := by
  refine F.ok scBag (fun vs H Q E h => ?_) (fun cdv A outer s H vs Q E hr h => ?_)
  · obtain ⟨a, ns, k, rfl, _⟩ := h
    rfl
  obtain ⟨a, ns, k, rfl, hS, h0, h1, q⟩ := h
  refine ⟨_, (pss_cons (ps_set (i := 2) scBag.nd rfl (Or.inl rfl) (pe_op op_add (pe_op op_mul pe_int (pv 1)) pe_int))
    (C8.pss_cut (ps_if (pt_cmpR op_lt (pv 1) (pe_callB call_len_seq (by rfl) T.len (by decide +kernel) (pa_cons (pv 0) pa_nil)) (nomark _))
      (pss_one (ps_set (i := 2) scBag.nd rfl (Or.inl rfl) (pe_ix ix_list (pv 0) (pv 1) (fun _ _ => rfl))))
      pss_nil)
    (pss_one (ps_ret (pe_lst (pa_cons (pe_op op_mul (pe_callB call_abs (by rfl) T.abs (by decide +kernel) (pa_cons (pv 2) pa_nil)) (pe_callTy call_int1 (by rfl) T.int (by decide +kernel) (pa_cons (pe_cmpR op_ge (pe_callB call_abs (by rfl) T.abs (by decide +kernel) (pa_cons (pv 2) pa_nil)) (pe_op op_pow pe_int pe_int) (nomark _)) pa_nil))) (pa_cons (pe_op op_add (pe_op op_mod (pv 2) pe_int) (pe_op op_mul pe_int (pv 1))) (pa_cons pe_int pa_nil)))))))), ?_⟩
  have hl : (ns.map V.int).length = ns.length := List.length_map _
  refine ⟨_, rfl, _, _, rfl, rfl, .inl ⟨by decide, by decide⟩, _, _, rfl, rfl, ?_⟩
  refine ⟨fun σ' H' => ∃ c : Int, σ' = [some (.ref a), some (.int k), some (.int c)] ∧ H' = H, ?_, ?_⟩
  · refine ⟨_, rfl, _, rfl, a, _, rfl, .inl hS, _, _, rfl, rfl, _, rfl, ?_⟩
    refine ite2 (fun c => ?_) (fun c => ?_)
    · have c' := of_decide_eq_true c
      rw [hl] at c'
      have hk : k.toNat < ns.length := by omega
      refine ⟨_, rfl, _, rfl, a, _, k, .int ns[k.toNat], rfl, rfl, hS, ?_, ?_⟩
      · have q : atI (ns.map V.int) ((k.toNat : Nat) : Int) = some (.int ns[k.toNat]) := atI_nat (by rw [List.getElem?_map, List.getElem?_eq_getElem hk] <;> rfl)
        rwa [show ((k.toNat : Nat) : Int) = k by omega] at q
      · exact ⟨_, rfl, rfl⟩
    · exact ⟨_, rfl, rfl⟩
  · rintro σ' H' ⟨c, rfl, rfl⟩
    refine ⟨_, rfl, _, rfl, _, rfl, _, rfl, _, _, rfl, rfl, ⟨by decide, by decide, by decide⟩, _, _, rfl, rfl, .inr ⟨_, rfl, ?_⟩⟩
    refine ⟨_, _, rfl, rfl, .inr ?_, ?_⟩
    · exact bit01 _
    refine ⟨_, rfl, _, _, rfl, rfl, (by show (0 : Int) < 2147483647; decide), _, rfl, _, _, rfl, rfl, .inl ⟨by decide, by decide⟩, _, _, rfl, rfl, ?_⟩
    refine ⟨by show 3 ≤ sizeLine; decide, fun b hb => ?_⟩
    refine q b _ (same_new hb _) hb ⟨_, _, _, upd_same, ?_, ?_, ?_, Int.le_refl 0, by decide⟩
    · show 0 ≤ (if c < 0 then -c else c) * (if decide ((10 : Int) ^ 18 ≤ (if c < 0 then -c else c)) = true then (1 : Int) else 0)
      refine Int.mul_nonneg ?_ ?_
      · split <;> omega
      · exact bit0 _
    · have := Int.emod_nonneg c (show (2147483647 : Int) ≠ 0 by decide)
      show 0 ≤ c % 2147483647 + 37 * k
      omega
    · have := Int.emod_lt_of_pos c (show (0 : Int) < 2147483647 by decide)
      show c % 2147483647 + 37 * k ≤ 4294967296
      omega
theorem pow3 {a : Int} (h0 : 0 ≤ a) (h : a < 4611686018427387904) : CPow a 3 := ⟨by decide, by decide, by omega⟩
def primes : List Int := [2147483647, 2147483629, 2147483587, 2147483579, 2147483563, 2147483549, 2147483543, 2147483497, 2147483489, 2147483477, 2147483423, 2147483399]
theorem primes_at {z : Int} : ∃ p : Int, atI (primes.map V.int) (z % 12) = some (.int p) ∧ 0 < p ∧ p < 2147483648 := by
  have h0 := Int.emod_nonneg z (show (12 : Int) ≠ 0 by decide)
  have h1 := Int.emod_lt_of_pos z (show (0 : Int) < 12 by decide)
  have hk : (z % 12).toNat < primes.length := by show (z % 12).toNat < 12; omega
  have q : atI (primes.map V.int) (((z % 12).toNat : Nat) : Int) = some (.int primes[(z % 12).toNat]) := atI_nat (by rw [List.getElem?_map, List.getElem?_eq_getElem hk] <;> rfl)
  rw [show (((z % 12).toNat : Nat) : Int) = z % 12 by omega] at q
  have all : ∀ p ∈ primes, 0 < p ∧ p < 2147483648 := by decide
  exact ⟨_, q, all _ (List.getElem_mem hk)⟩
theorem base_le {y z : Int} (h2 : 0 ≤ y) (h3 : y ≤ 4294967296) (h4 : 0 ≤ z) (h5 : z ≤ 16777217) : 0 ≤ y * (2 * z + 1) + 7919 * z * z + 29 ∧ y * (2 * z + 1) + 7919 * z * z + 29 < 4611686018427387904 := by
  have a1 : y * (2 * z + 1) ≤ 4294967296 * 67108864 := Int.mul_le_mul h3 (by omega) (by omega) (by omega)
  have a2 : 0 ≤ y * (2 * z + 1) := Int.mul_nonneg h2 (by omega)
  have b1 : 7919 * z * z ≤ 132858781423 * 16777217 := Int.mul_le_mul (by omega) h5 h4 (by omega)
  have b2 : 0 ≤ 7919 * z * z := Int.mul_nonneg (by omega) h4
  omega
theorem ok_take {f : Addr} {fd : FuncData} (F : Fun K "_law_take" "_law_take" sTake f fd) : FnOk P w K mg base CX0 1 f fd ["_law_bag_here", "_law_many"] spTake := by
  refine F.ok scTake (fun vs H Q E h => ?_) (fun cdv A outer s H vs Q E hr h => ?_)
  · obtain ⟨b, m, n, rfl, _⟩ := h
    rfl
  obtain ⟨b, m, n, rfl, hm0, hm1, ⟨x, y, z, hb, hx, hy, hy1, hz, hz1⟩, q⟩ := h
  refine ⟨_, (pss_cons (ps_if (pt_cmpR op_gt (pe_ix ix_list (pv 0) pe_int (fun _ _ => rfl)) pe_int (nomark _))
      (pss_cons (ps_set (i := 2) scTake.nd rfl (Or.inl rfl) (pe_op op_mod (pe_ix ix_list (pv 0) pe_int (fun _ _ => rfl)) (pv 1)))
    (pss_cons (ps_asg (pe_op op_fdiv (pe_ix ix_list (pv 0) pe_int (fun _ _ => rfl)) (pv 1)) (pg_sub (pv 0) pe_int set_list))
    (pss_one (ps_ret (pv 2)))))
      pss_nil)
    (pss_cons (ps_set (i := 3) scTake.nd rfl (Or.inl rfl) (pe_tup (pa_cons pe_int (pa_cons pe_int (pa_cons pe_int (pa_cons pe_int (pa_cons pe_int (pa_cons pe_int (pa_cons pe_int (pa_cons pe_int (pa_cons pe_int (pa_cons pe_int (pa_cons pe_int (pa_cons pe_int pa_nil))))))))))))))
    (pss_cons (ps_asg (pe_op op_add (pe_ix ix_list (pv 0) pe_int (fun _ _ => rfl)) pe_int) (pg_sub (pv 0) pe_int set_list))
    (pss_cons (ps_set (i := 4) scTake.nd rfl (Or.inl rfl) (pe_ix ix_list (pv 0) pe_int (fun _ _ => rfl)))
    (pss_cons (ps_set (i := 5) scTake.nd rfl (Or.inl rfl) (pe_op op_add (pe_op op_add (pe_op op_mul (pe_ix ix_list (pv 0) pe_int (fun _ _ => rfl)) (pe_op op_add (pe_op op_mul pe_int (pv 4)) pe_int)) (pe_op op_mul (pe_op op_mul pe_int (pv 4)) (pv 4))) pe_int))
    (pss_cons (ps_set (i := 6) scTake.nd rfl (Or.inl rfl) (pe_op op_mod (pe_op op_pow (pv 5) pe_int) (pe_ix ix_tup (pv 3) (pe_op op_mod (pv 4) pe_int) (fun _ _ => rfl))))
    (pss_cons (ps_set (i := 7) scTake.nd rfl (Or.inl rfl) (pe_ix ix_tup (pv 3) (pe_op op_mod (pe_op op_add (pv 4) pe_int) pe_int) (fun _ _ => rfl)))
    (pss_one (ps_ret (pe_op op_mod (pe_op op_fdiv (pe_op op_mod (pe_op op_mul (pv 6) (pe_op op_add (pe_op op_fdiv (pv 6) pe_int) pe_int)) (pv 7)) pe_int) (pv 1))))))))))), ?_⟩
  have i0 : ∀ {u v t : V}, atI [u, v, t] 0 = some u := fun {u v t} => atI_nat (j := 0) rfl
  have i1 : ∀ {u v t : V}, atI [u, v, t] 1 = some v := fun {u v t} => atI_nat (j := 1) rfl
  have i2 : ∀ {u v t : V}, atI [u, v, t] 2 = some t := fun {u v t} => atI_nat (j := 2) rfl
  refine ⟨_, rfl, b, _, 0, _, rfl, rfl, SqL.of hb, i0, _, _, rfl, rfl, _, rfl, ?_⟩
  refine ite2 (fun c => ?_) (fun c => ?_)
  · refine ⟨_, rfl, b, _, 0, _, rfl, rfl, SqL.of hb, i0, _, rfl, _, _, rfl, rfl, hm0, ?_⟩
    refine ⟨_, rfl, b, _, 0, _, rfl, rfl, SqL.of hb, i0, _, rfl, _, _, rfl, rfl, ⟨hm0, hm1⟩, ?_⟩
    refine ⟨_, rfl, b, _, 0, 0, rfl, rfl, hb, rfl, ?_⟩
    refine ⟨_, rfl, ?_⟩
    refine q _ _ (Int.emod_nonneg x (by omega)) (Int.emod_lt_of_pos x hm0) ⟨_, y, z, upd_same, Int.ediv_nonneg hx (by omega), hy, hy1, hz, by omega⟩ fun a o na e => ?_
    rw [upd_ne na]
    exact e
  · refine ⟨by show 12 ≤ sizeLine; decide, fun t ht => ?_⟩
    have nt : b ≠ t := ne_of_none hb ht
    have hb1 : (upd H t (.tup (primes.map V.int))) b = some (.lst [.int x, .int y, .int z]) := by rw [upd_ne nt]; exact hb
    refine ⟨_, rfl, b, _, 2, _, rfl, rfl, SqL.of hb1, i2, _, _, rfl, rfl, ?_⟩
    refine ⟨_, rfl, b, _, 2, 2, rfl, rfl, hb1, rfl, ?_⟩
    have hb2 : (upd (upd H t (.tup (primes.map V.int))) b (.lst [.int x, .int y, .int (z + 1)])) b = some (.lst [.int x, .int y, .int (z + 1)]) := upd_same
    have ht2 : (upd (upd H t (.tup (primes.map V.int))) b (.lst [.int x, .int y, .int (z + 1)])) t = some (.tup (primes.map V.int)) := by rw [upd_ne (Ne.symm nt), upd_same]
    refine ⟨_, rfl, b, _, 2, _, rfl, rfl, SqL.of hb2, i2, ?_⟩
    obtain ⟨c0, c1⟩ := base_le (y := y) (z := z + 1) hy hy1 (by omega) (by omega)
    refine ⟨_, rfl, b, _, 1, _, rfl, rfl, SqL.of hb2, i1, _, rfl, _, _, rfl, rfl, .inl ⟨by decide, by decide⟩, _, _, rfl, rfl, _, _, rfl, rfl, .inl ⟨by omega, by omega⟩, ?_⟩
    refine ⟨_, rfl, _, _, rfl, rfl, .inl ⟨by decide, by decide⟩, _, rfl, _, _, rfl, rfl, .inl ⟨by omega, by omega⟩, _, _, rfl, rfl, _, _, rfl, rfl, ?_⟩
    obtain ⟨p1, e1, p1a, p1b⟩ := primes_at (z := z + 1)
    obtain ⟨p2, e2, p2a, p2b⟩ := primes_at (z := z + 1 + 5)
    refine ⟨_, rfl, _, _, rfl, rfl, pow3 c0 c1, _, rfl, _, rfl, _, _, rfl, rfl, (by show (0 : Int) < 12; decide), t, _, _, _, rfl, rfl, SqT.of ht2, e1, _, _, rfl, rfl, p1a, ?_⟩
    refine ⟨_, rfl, _, rfl, _, _, rfl, rfl, _, _, rfl, rfl, (by show (0 : Int) < 12; decide), t, _, _, _, rfl, rfl, SqT.of ht2, e2, ?_⟩
    have f0 := Int.emod_nonneg ((y * (2 * (z + 1) + 1) + 7919 * (z + 1) * (z + 1) + 29) ^ 3) (show p1 ≠ 0 by omega)
    have f1 := Int.emod_lt_of_pos ((y * (2 * (z + 1) + 1) + 7919 * (z + 1) * (z + 1) + 29) ^ 3) p1a
    refine ⟨_, rfl, _, rfl, _, _, rfl, rfl, ⟨by decide, by decide⟩, _, _, rfl, rfl, _, _, rfl, rfl, .inl ⟨Int.lt_of_lt_of_le (by decide) f0, Int.lt_trans f1 (by omega)⟩, _, rfl, _, _, rfl, rfl, p2a, _, _, rfl, rfl, ⟨by decide, by decide⟩, _, rfl, _, _, rfl, rfl, hm0, ?_⟩
    refine q _ _ (Int.emod_nonneg _ (by omega)) (Int.emod_lt_of_pos _ hm0) ⟨x, y, z + 1, hb2, hx, hy, hy1, by omega, by omega⟩ fun a o na e => ?_
    rw [upd_ne na, upd_ne (ne_of_none e ht)]
    exact e
end
end SH

set_option Elab.async false
set_option linter.all false
set_option maxRecDepth 100000
namespace SH
open PySem L2
abbrev sKept : Stmt := topS 41
abbrev sNames : Stmt := topS 42
abbrev sNumber : Stmt := topS 43
theorem scKept : FnScope [] [] (defScope sKept) := ⟨rfl, rfl, rfl, by decide +kernel, rfl, by decide +kernel, by decide +kernel⟩
theorem scNames : FnScope ["_law_bag_here", "_law_many", "_law_letters", "_law_found", "_law_k", "_law_name", "_law_way", "_law_some", "_law_j", "_law_letter", "_law_one"] ["_law_bag_here", "_law_many"] (defScope sNames) := ⟨rfl, rfl, rfl, by decide +kernel, rfl, by decide +kernel, by decide +kernel⟩
theorem scNumber : FnScope ["_law_bag_here", "_law_way", "_law_found", "_law_k"] ["_law_bag_here"] (defScope sNumber) := ⟨rfl, rfl, rfl, by decide +kernel, rfl, by decide +kernel, by decide +kernel⟩
/-! ### mathematics -/
def kept : List Str := ["work", "room", "go", "call", "wait", "if", "else", "end", "give", "fail"]
def letters : Str := "abcdefghijklmnopqrstuvwxyz"
theorem menu {xs : List V} {i : Int} (h0 : 0 ≤ i) (h1 : i < xs.length) : ∃ v, atI xs i = some v ∧ v ∈ xs := by
  have hk : i.toNat < xs.length := by omega
  refine ⟨xs[i.toNat], ?_, List.getElem_mem hk⟩
  have q : atI xs ((i.toNat : Nat) : Int) = some xs[i.toNat] := atI_nat (List.getElem?_eq_getElem hk)
  rwa [show ((i.toNat : Nat) : Int) = i by omega] at q
theorem menuI {ns : List Int} {i : Int} (h0 : 0 ≤ i) (h1 : i < ns.length) : ∃ k, atI (ns.map V.int) i = some (.int k) ∧ k ∈ ns := by
  obtain ⟨v, e, m⟩ := menu (xs := ns.map V.int) h0 (by rw [List.length_map]; exact h1)
  obtain ⟨k, hk, rfl⟩ := List.mem_map.mp m
  exact ⟨k, e, hk⟩
theorem menuS {ns : List Str} {i : Int} (h0 : 0 ≤ i) (h1 : i < ns.length) : ∃ k, atI (ns.map V.str) i = some (.str k) ∧ k ∈ ns := by
  obtain ⟨v, e, m⟩ := menu (xs := ns.map V.str) h0 (by rw [List.length_map]; exact h1)
  obtain ⟨k, hk, rfl⟩ := List.mem_map.mp m
  exact ⟨k, e, hk⟩
theorem log_ok {i : Int} (h0 : 0 ≤ i) (h1 : i < 1000000 ^ 5) : i.natAbs.log2 < 1920 := by
  by_cases z : i.natAbs = 0
  · rw [z]; decide
  · rw [Nat.log2_lt z]
    have : i.natAbs < 2 ^ 100 := by
      have e : (1000000 : Int) ^ 5 = 1000000000000000000000000000000 := by decide
      have e2 : (2 : Nat) ^ 100 = 1267650600228229401496703205376 := by decide
      rw [e] at h1
      rw [e2]
      omega
    exact Nat.lt_trans this (Nat.pow_lt_pow_right (by decide) (by decide))
def codes (s : Str) : List Nat := s.cps.toList
theorem codes_len (s : Str) : (codes s).length = s.length := Array.length_toList
theorem codes_app (a b : Str) : codes (a ++ b) = codes a ++ codes b := by
  show (a.cps ++ b.cps).toList = _
  rw [Array.toList_append]
  all_goals rfl
theorem codes_inj {a b : Str} (h : codes a = codes b) : a = b := by
  cases a with | mk x =>
  cases b with | mk y =>
  have : x = y := Array.toList_inj.mp h
  rw [this]
/-- a text of one to eight letters -/
def nmOk (s : Str) : Prop := 1 ≤ (codes s).length ∧ (codes s).length ≤ 8 ∧ ∀ c ∈ codes s, 97 ≤ c ∧ c ≤ 122
structure NmsOk (l : List Str) : Prop where
  each : ∀ s ∈ l, nmOk s ∧ s ∉ kept
  nd : l.Nodup
theorem NmsOk.snoc {l : List Str} {s : Str} (h : NmsOk l) (a : nmOk s) (b : s ∉ l ++ kept) : NmsOk (l ++ [s]) := by
  refine ⟨fun x hx => ?_, ?_⟩
  · rcases List.mem_append.mp hx with hx | hx
    · exact h.each x hx
    · rw [List.mem_singleton.mp hx]
      exact ⟨a, fun q => b (List.mem_append_right _ q)⟩
  · exact nd_snoc h.nd fun q => b (List.mem_append_left _ q)
theorem join_codes : ∀ l : List Str, codes (PySem.Txt.join (PySem.Str.ofString "") l) = (l.map codes).flatten := by
  have step : ∀ l : List Str, codes (PySem.Str.join (PySem.Str.ofString "") l) = (l.map codes).flatten := by
    intro l
    induction l with
    | nil => rfl
    | cons a r ih =>
      cases r with
      | nil => show codes a = codes a ++ []; rw [List.append_nil]
      | cons b t =>
        show codes (a ++ PySem.Str.ofString "" ++ PySem.Str.join (PySem.Str.ofString "") (b :: t)) = codes a ++ ((b :: t).map codes).flatten
        rw [codes_app, codes_app, ih]
        have z : codes (PySem.Str.ofString "") = [] := by decide +kernel
        rw [z, List.append_nil]
  intro l
  show codes (Builtin.Str.glued (PySem.Str.ofString "") l) = _
  rw [StrLaws.glued_eq_join]
  exact step l
theorem pig : ∀ (xs L : List Str), xs.Nodup → L.length < xs.length → ∃ x ∈ xs, x ∉ L
  | [], L, _, h => absurd h (Nat.not_lt_zero _)
  | x :: r, L, hn, h => by
    obtain ⟨h1, h2⟩ := List.nodup_cons.mp hn
    by_cases hx : x ∈ L
    · have hl := List.length_erase_of_mem hx
      rw [List.length_cons] at h
      obtain ⟨y, hy, hyL⟩ := pig r (L.erase x) h2 (by have := List.length_pos_of_mem hx; omega)
      refine ⟨y, List.mem_cons_of_mem _ hy, fun q => hyL ?_⟩
      refine (List.mem_erase_of_ne ?_).mpr q
      intro e
      rw [e] at hy
      exact h1 hy
    · exact ⟨x, List.mem_cons_self, hx⟩
def one (c : Nat) : Str := ⟨#[c]⟩
theorem codes_one (c : Nat) : codes (one c) = [c] := rfl
/-- the twenty-six of a name: another first letter -/
def some26 (s : Str) : List Str := (codes letters).map fun c => one c ++ cutS s (some 1) none
theorem cut1 (s : Str) : codes (cutS s (some 1) none) = (codes s).drop 1 := by
  unfold cutS
  show (((s.cps.toList.drop (HT.sIx s.length 0 (some 1))).take (HT.sIx s.length s.length none - HT.sIx s.length 0 (some 1))).toArray).toList = _
  rw [List.toList_toArray, show HT.sIx s.length 0 (some 1) = min 1 s.length from HT.sIx_nat s.length 0 1, HT.sIx_none]
  show (List.drop (min 1 s.length) (codes s)).take (s.length - min 1 s.length) = (codes s).drop 1
  rw [← codes_len]
  cases hc : codes s with
  | nil => rfl
  | cons x r =>
    rw [show min 1 (x :: r).length = 1 by rw [List.length_cons]; omega]
    show r.take ((x :: r).length - 1) = r
    rw [List.length_cons, Nat.add_sub_cancel, List.take_length]
theorem cutN {s : Str} {n : Nat} : codes (cutS s none (some (n : Int))) = (codes s).take n := by
  unfold cutS
  show (((s.cps.toList.drop (HT.sIx s.length 0 none)).take (HT.sIx s.length s.length (some (n : Int)) - HT.sIx s.length 0 none)).toArray).toList = _
  rw [List.toList_toArray, HT.sIx_nat, HT.sIx_none]
  show (List.drop 0 (codes s)).take (min n s.length - 0) = (codes s).take n
  rw [List.drop_zero, Nat.sub_zero, ← codes_len]
  by_cases h : n ≤ (codes s).length
  · rw [Nat.min_eq_left h]
  · rw [Nat.min_eq_right (by omega), List.take_length, List.take_of_length_le (by omega)]
theorem some26_nd (s : Str) : (some26 s).Nodup := by
  have base : (codes letters).Nodup := by decide +kernel
  unfold some26
  refine List.Pairwise.map _ ?_ base
  intro a b hab e
  have q := congrArg codes e
  rw [codes_app, codes_app, codes_one, codes_one] at q
  exact hab (List.cons.inj q).1
theorem some26_len (s : Str) : (some26 s).length = 26 := by
  unfold some26
  rw [List.length_map]
  decide +kernel
theorem letters_ok : ∀ c ∈ codes letters, 97 ≤ c ∧ c ≤ 122 := by decide +kernel
theorem kept_ok : ∀ s ∈ kept, ∀ c ∈ codes s, 97 ≤ c ∧ c ≤ 122 := by decide +kernel
theorem kept_pos : ∀ s ∈ kept, 1 ≤ (codes s).length ∧ (codes s).length ≤ 4 := by decide +kernel
theorem some26_ok {s t : Str} (h : nmOk s) (ht : t ∈ some26 s) : nmOk t := by
  unfold some26 at ht
  obtain ⟨c, hc, rfl⟩ := List.mem_map.mp ht
  obtain ⟨h1, h2, h3⟩ := h
  have e : codes (one c ++ cutS s (some 1) none) = c :: (codes s).drop 1 := by rw [codes_app, codes_one, cut1]; rfl
  refine ⟨?_, ?_, ?_⟩
  · rw [e, List.length_cons]; omega
  · rw [e, List.length_cons, List.length_drop]; omega
  · rw [e]
    intro x hx
    rcases List.mem_cons.mp hx with rfl | hx
    · exact letters_ok _ hc
    · exact h3 _ (List.mem_of_mem_drop hx)
theorem inV_str {x : Str} : ∀ {l : List Str}, inV (.str x) (l.map V.str) = decide (x ∈ l)
  | [] => rfl
  | y :: r => by
    show (eqV (.str y) (.str x) || inV (.str x) (r.map V.str)) = _
    rw [inV_str (l := r)]
    show ((y == x) || decide (x ∈ r)) = _
    by_cases e : x = y
    · subst e; simp
    · have e' : (y == x) = false := by simpa using fun h => e h.symm
      rw [e', Bool.false_or]
      simp [e]
theorem flat_strs (l : List Str) : (l.map V.str).all flatV = true := by
  rw [List.all_eq_true]
  intro x hx
  obtain ⟨s, _, rfl⟩ := List.mem_map.mp hx
  rfl
def spKept : Sp := fun vs H Q _ => vs = [] ∧ ∀ p, H p = none → Q (.ref p) (upd H p (.lst (kept.map V.str)))
def spNumber : Sp := fun vs H Q _ => ∃ (b : Addr) (n : Nat), vs = [.ref b] ∧ Bag H b (n + 8) ∧
  ∀ (i : Int) (H' : Hp), 0 ≤ i → i < 1000000 ^ 5 → Bag H' b n → But b H H' → Q (.int i) H'
def spNames : Sp := fun vs H Q _ => ∃ (b : Addr) (m n : Nat), vs = [.ref b, .int m] ∧ m ≤ 12 ∧ Bag H b (n + 16 * m) ∧
  ∀ (p : Addr) (nm : List Str) (H' : Hp), H p = none → H' p = some (.lst (nm.map V.str)) → nm.length = m → NmsOk nm → Bag H' b n → But b H H' → Q (.ref p) H'
section
variable {P : Program} {w : World} {K : PySem.W.Frag} {mg : Str → Option Value} {base : Heap}
theorem ok_kept {f : Addr} {fd : FuncData} (F : Fun K "_law_kept" "_law_kept" sKept f fd) : FnOk P w K mg base CX0 1 f fd [] spKept := by
  refine F.ok scKept (fun vs H Q E h => ?_) (fun cdv A outer s H vs Q E hr h => ?_)
  · obtain ⟨rfl, _⟩ := h
    rfl
  obtain ⟨rfl, q⟩ := h
  refine ⟨_, (pss_one (ps_ret (pe_lst (pa_cons pe_str (pa_cons pe_str (pa_cons pe_str (pa_cons pe_str (pa_cons pe_str (pa_cons pe_str (pa_cons pe_str (pa_cons pe_str (pa_cons pe_str (pa_cons pe_str pa_nil))))))))))))), ?_⟩
  exact ⟨by show 10 ≤ sizeLine; decide, fun p hp => q p hp⟩
theorem But.new {b : Addr} {H : Hp} {p : Addr} (h : H p = none) (o : HO) : But b H (upd H p o) := .of (same_new h o)
theorem ok_number {f t : Addr} {fd td : FuncData} (F : Fun K "_law_number" "_law_number" sNumber f fd) (TK : Fk P w K mg base 1 "_law_take" t td ["_law_bag_here", "_law_many"] spTake) (T : Bi mg) :
    FnOk P w K mg base CX0 2 f fd ["_law_bag_here"] spNumber := by
  refine F.ok scNumber (fun vs H Q E h => ?_) (fun cdv A outer s H vs Q E hr h => ?_)
  · obtain ⟨b, n, rfl, _⟩ := h
    rfl
  obtain ⟨b, n, rfl, hB, q⟩ := h
  refine ⟨_, (pss_cons (ps_set (i := 1) scNumber.nd rfl (Or.inl rfl) (pe_call TK.G (hr.mono (by omega)) (by rfl) TK.m TK.k TK.b .nil pass0 (pa_cons (pv 0) (pa_cons pe_int pa_nil))))
    (pss_cons (ps_if (pt_cmpR op_lt (pv 1) pe_int (nomark _))
      (pss_one (ps_ret (pe_call TK.G (hr.mono (by omega)) (by rfl) TK.m TK.k TK.b .nil pass0 (pa_cons (pv 0) (pa_cons (pe_ix ix_list (pe_lst (pa_cons pe_int (pa_cons pe_int pa_nil))) (pv 1) (fun _ _ => rfl)) pa_nil)))))
      pss_nil)
    (pss_cons (ps_set (i := 2) scNumber.nd rfl (Or.inl rfl) pe_int)
    (pss_cons (ps_for PassesOwn.never rfl (pi_range1 (by rfl) T.range (pa_cons (pe_ix ix_list (pe_lst (pa_cons pe_int (pa_cons pe_int pa_nil))) (pe_op op_sub (pv 1) pe_int) (fun _ _ => rfl)) pa_nil)) (pg_name (i := 3) scNumber.nd rfl (.inl rfl))
      (pss_one (ps_set (i := 2) scNumber.nd rfl (Or.inl rfl) (pe_op op_add (pe_op op_mul (pv 2) (pe_op op_pow pe_int pe_int)) (pe_call TK.G (hr.mono (by omega)) (by rfl) TK.m TK.k TK.b .nil pass0 (pa_cons (pv 0) (pa_cons (pe_op op_pow pe_int pe_int) pa_nil)))))))
    (pss_one (ps_ret (pv 2))))))), ?_⟩
  refine ⟨_, rfl, b, 4, n + 7, rfl, by decide, by decide, hB, fun d1 H1 a1 a2 B1 U1 => ?_⟩
  refine ⟨_, rfl, _, _, rfl, rfl, _, rfl, ?_⟩
  refine ite2 (fun c => ?_) (fun c => ?_)
  · have c' : d1 < 2 := of_decide_eq_true c
    obtain ⟨v, e, hv⟩ := menuI (ns := [4, 30]) a1 (by show d1 < 2; exact c')
    have hv' : v = 4 ∨ v = 30 := by simpa using hv
    refine ⟨_, rfl, (by show 2 ≤ sizeLine; decide), fun l hl => ?_⟩
    refine ⟨_, rfl, l, _, _, _, rfl, rfl, SqL.of upd_same, e, b, v, n + 6, rfl, by omega, by omega, B1.same (same_new hl _), fun d2 H2 b1 b2 B2 U2 => ?_⟩
    refine q _ _ b1 ?_ (B2.less (by omega)) (U1.trans ((But.new hl _).trans U2))
    have e : (1000000 : Int) ^ 5 = 1000000000000000000000000000000 := by decide
    rw [e]
    omega
  · have c' : ¬ d1 < 2 := of_decide_eq_false (Bool.eq_false_iff.mpr c)
    obtain ⟨v, e, hv⟩ := menuI (ns := [2, 5]) (i := d1 - 2) (by omega) (by show d1 - 2 < 2; omega)
    have hv' : v = 2 ∨ v = 5 := by simpa using hv
    refine ⟨(by show 2 ≤ sizeLine; decide), fun l hl => ?_⟩
    refine ⟨_, rfl, _, _, rfl, rfl, l, _, _, _, rfl, rfl, SqL.of upd_same, e, v, rfl, by omega, by omega, ?_⟩
    refine for_range (lo := 0) (n := v.toNat) (fun i σ H' => ∃ (c : Int) (y : Option V), σ = [some (.ref b), some (.int d1), some (.int c), y] ∧ 0 ≤ c ∧ c < 1000000 ^ i ∧ Bag H' b (n + 5 - i) ∧ But b H H') ?_ ?_ ?_
    · exact ⟨0, none, rfl, Int.le_refl _, by decide, (B1.same (same_new hl _)).less (by omega), U1.trans (But.new hl _)⟩
    · rintro i σ H2 hi ⟨c, y, rfl, c0, c1, B2, U2⟩
      refine ⟨_, rfl, _, _, rfl, rfl, ⟨by decide, by decide, by decide⟩, _, _, rfl, rfl, .inr ⟨by decide, by decide⟩, ?_⟩
      refine ⟨_, rfl, _, _, rfl, rfl, ⟨by decide, by decide, by decide⟩, b, _, n + 4 - i, rfl, by decide, by decide, B2.less (by omega), fun d2 H3 b1 b2 B3 U3 => ?_⟩
      refine ⟨_, _, rfl, rfl, _, _, rfl, ?_, ?_, B3.less (by omega), U2.trans U3⟩
      · show 0 ≤ c * 1000000 + d2
        omega
      · have b2' : d2 < 1000000 := b2
        show c * 1000000 + d2 < 1000000 ^ (i + 1)
        rw [Int.pow_succ]
        generalize (1000000 : Int) ^ i = X at c1 ⊢
        omega
    · rintro σ H2 ⟨c, y, rfl, c0, c1, B2, U2⟩
      refine ⟨_, rfl, q c H2 c0 ?_ (B2.less (by omega)) U2⟩
      rcases hv' with rfl | rfl
      · exact Int.lt_trans c1 (by decide)
      · exact c1
end
end SH

set_option Elab.async false
set_option linter.all false
set_option maxRecDepth 100000
namespace SH
open PySem L2
theorem signs_ok {l : List Str} (h1 : 1 ≤ l.length) (h8 : l.length ≤ 8) (h : ∀ s ∈ l, ∃ c, s = one c ∧ 97 ≤ c ∧ c ≤ 122) : nmOk (PySem.Txt.join (PySem.Str.ofString "") l) := by
  have e : ∀ l : List Str, (∀ s ∈ l, ∃ c, s = one c ∧ 97 ≤ c ∧ c ≤ 122) → ((l.map codes).flatten).length = l.length ∧ ∀ c ∈ (l.map codes).flatten, 97 ≤ c ∧ c ≤ 122 := by
    intro l
    induction l with
    | nil => intro _; exact ⟨rfl, fun c hc => by cases hc⟩
    | cons a r ih =>
      intro h
      obtain ⟨i1, i2⟩ := ih fun s hs => h s (List.mem_cons_of_mem _ hs)
      obtain ⟨c, rfl, c1, c2⟩ := h a List.mem_cons_self
      refine ⟨?_, ?_⟩
      · show (c :: (r.map codes).flatten).length = r.length + 1
        rw [List.length_cons, i1]
      · intro x hx
        rcases List.mem_cons.mp (show x ∈ c :: (r.map codes).flatten from hx) with rfl | hx
        · exact ⟨c1, c2⟩
        · exact i2 x hx
  obtain ⟨e1, e2⟩ := e l h
  refine ⟨?_, ?_, ?_⟩
  · rw [join_codes, e1]; exact h1
  · rw [join_codes, e1]; exact h8
  · rw [join_codes]; exact e2
theorem pre_ok {k s : Str} {n : Nat} (hk : k ∈ kept) (hs : nmOk s) (h1 : 1 ≤ n) (h8 : n ≤ 8) : nmOk (cutS (k ++ s) none (some (n : Int))) := by
  obtain ⟨k1, k2⟩ := kept_pos k hk
  obtain ⟨s1, s2, s3⟩ := hs
  refine ⟨?_, ?_, ?_⟩
  · rw [cutN, codes_app, List.length_take, List.length_append]; omega
  · rw [cutN, List.length_take]; omega
  · rw [cutN, codes_app]
    intro c hc
    rcases List.mem_append.mp (List.mem_of_mem_take hc) with h | h
    · exact kept_ok k hk c h
    · exact s3 c h
theorem ones_len : ∀ l : List Str, (∀ s ∈ l, ∃ c, s = one c ∧ 97 ≤ c ∧ c ≤ 122) → (l.map (·.length)).sum = l.length
  | [], _ => rfl
  | a :: r, h => by
    have ih := ones_len r fun s hs => h s (List.mem_cons_of_mem _ hs)
    obtain ⟨c, rfl, _⟩ := h a List.mem_cons_self
    show (one c).length + (r.map (·.length)).sum = r.length + 1
    rw [ih]
    show 1 + r.length = r.length + 1
    omega
theorem letter_at {i : Int} (h0 : 0 ≤ i) (h1 : i < 26) : ∃ c, atI letters.cps.toList i = some c ∧ 97 ≤ c ∧ c ≤ 122 := by
  have hl : (codes letters).length = 26 := by decide +kernel
  have hk : i.toNat < (codes letters).length := by omega
  refine ⟨(codes letters)[i.toNat], ?_, letters_ok _ (List.getElem_mem hk)⟩
  have q : atI (codes letters) ((i.toNat : Nat) : Int) = some (codes letters)[i.toNat] := atI_nat (List.getElem?_eq_getElem hk)
  rwa [show ((i.toNat : Nat) : Int) = i by omega] at q
theorem filt_snoc {l : List Str} {L : List Str} {i : Nat} {x : Str} (h : l[i]? = some x) : (l.take (i + 1)).filter (fun y => !decide (y ∈ L)) = (l.take i).filter (fun y => !decide (y ∈ L)) ++ (if (!decide (x ∈ L)) = true then [x] else []) := by
  rw [List.take_add_one, h, List.filter_append]
  congr 1
  show List.filter _ [x] = _
  rw [List.filter_cons, List.filter_nil]
theorem names_len {l : List Str} (h : NmsOk l) : True := trivial
section
variable {P : Program} {w : World} {K : PySem.W.Frag} {mg : Str → Option Value} {base : Heap}
theorem ok_names {f t k : Addr} {fd td kd : FuncData} (F : Fun K "_law_names" "_law_names" sNames f fd) (TK : Fk P w K mg base 1 "_law_take" t td ["_law_bag_here", "_law_many"] spTake) (KP : Fk P w K mg base 1 "_law_kept" k kd [] spKept) (T : Bi mg) :
    FnOk P w K mg base CX0 2 f fd ["_law_bag_here", "_law_many"] spNames := by
  refine F.ok scNames (fun vs H Q E h => ?_) (fun cdv A outer s H vs Q E hr h => ?_)
  · obtain ⟨b, m, n, rfl, _⟩ := h
    rfl
  obtain ⟨b, m, n, rfl, hm, hB, q⟩ := h
  refine ⟨_, (pss_cons (ps_set (i := 2) scNames.nd rfl (Or.inr rfl) pe_str)
    (pss_cons (ps_set (i := 3) scNames.nd rfl (Or.inr rfl) (pe_lst pa_nil))
    (pss_cons (ps_for PassesOwn.never rfl (pi_range1 (by rfl) T.range (pa_cons (pv 1) pa_nil)) (pg_name (i := 4) scNames.nd rfl (.inl rfl))
      (pss_cons (ps_set (i := 5) scNames.nd rfl (Or.inr rfl) (pe_join pe_str (pe_lc (own := [("_law_j", 8)]) (g := gName 8) (tt := tYes) (by rfl) scNames.nd (pi_range1 (by rfl) T.range (pa_cons (pe_ix ix_list (pe_lst (pa_cons pe_int (pa_cons pe_int (pa_cons pe_int (pa_cons pe_int pa_nil))))) (pe_call TK.G (hr.mono (by omega)) (by rfl) TK.m TK.k TK.b .nil pass0 (pa_cons (pv 0) (pa_cons pe_int pa_nil))) (fun _ _ => rfl)) pa_nil)) (blkOk_by (own := [("_law_j", 8)]) (N := ["_law_bag_here", "_law_many", "_law_letters", "_law_found", "_law_k", "_law_name", "_law_way", "_law_some", "_law_j", "_law_letter", "_law_one"]) (sc := defScope sNames) (by decide +kernel)) (fun _ _ _ _ _ => pg_name (i := 8) scNames.nd rfl (Or.inl rfl)) (fun _ _ _ _ _ => pts_nil) (fun _ _ _ _ _ => (pe_ix ix_str (pv 2) (pe_call TK.G (hr.mono (by omega)) (by rfl) TK.m TK.k TK.b .nil pass0 (pa_cons (pv 0) (pa_cons pe_int pa_nil))) (fun _ _ => rfl))))))
    (pss_cons (ps_set (i := 6) scNames.nd rfl (Or.inl rfl) (pe_call TK.G (hr.mono (by omega)) (by rfl) TK.m TK.k TK.b .nil pass0 (pa_cons (pv 0) (pa_cons pe_int pa_nil))))
    (C8.pss_cut (ps_if (pt_cmpR op_lt (pv 6) pe_int (nomark _))
      (pss_one (ps_set (i := 5) scNames.nd rfl (Or.inr rfl) (pe_slice sl_str (pe_op op_add_str (pe_ix ix_list (pe_call0 KP.G (hr.mono (by omega)) (by rfl) KP.m KP.k KP.b .nil pass0) (pe_call TK.G (hr.mono (by omega)) (by rfl) TK.m TK.k TK.b .nil pass0 (pa_cons (pv 0) (pa_cons pe_int pa_nil))) (fun _ _ => rfl)) (pv 5)) po_none (po_some (pe_ix ix_list (pe_lst (pa_cons pe_int (pa_cons pe_int pa_nil))) (pv 6) (fun _ _ => rfl))))))
      pss_nil)
    (pss_cons (ps_setLc (i := 7) (own := [("_law_letter", 9)]) (g := gName 9) (tt := tYes) (by rfl) scNames.nd rfl rfl (sw_true rfl rfl rfl (by decide +kernel)) (pi_str (pv 2)) (blkOk_by (own := [("_law_letter", 9)]) (N := ["_law_bag_here", "_law_many", "_law_letters", "_law_found", "_law_k", "_law_name", "_law_way", "_law_some", "_law_j", "_law_letter", "_law_one"]) (sc := defScope sNames) (by decide +kernel)) (fun _ _ _ _ _ => pg_name (i := 9) scNames.nd rfl (Or.inl rfl)) (fun _ _ _ _ _ => pts_nil) (fun _ _ _ _ _ => (pe_op op_add_str (pv 9) (pe_slice sl_str (pv 5) (po_some pe_int) po_none))))
    (C8.pss_cut (ps_if (pt_cmpR op_in_seq (pv 5) (pe_op op_cat (pv 3) (pe_call0 KP.G (hr.mono (by omega)) (by rfl) KP.m KP.k KP.b .nil pass0)) rfl)
      (pss_one (ps_set (i := 5) scNames.nd rfl (Or.inr rfl) (pe_ix ix_list (pe_lc (own := [("_law_one", 10)]) (g := gName 10) (tt := tTest (tOp (rIn K true) (tVar 10) (tOp rCat (tVar 3) (tCall spKept [] E0 tNil)))) (by rfl) scNames.nd (pi_list (pv 7)) (blkOk_by (own := [("_law_one", 10)]) (N := ["_law_bag_here", "_law_many", "_law_letters", "_law_found", "_law_k", "_law_name", "_law_way", "_law_some", "_law_j", "_law_letter", "_law_one"]) (sc := defScope sNames) (by decide +kernel)) (fun _ _ _ _ _ => pg_name (i := 10) scNames.nd rfl (Or.inl rfl)) (fun _ _ _ _ _ => (pts_one (pt_cmpR (op_notIn_seqK K) (pv 10) (pe_op op_cat (pv 3) (pe_call0 KP.G (hr.mono (by omega)) (by rfl) KP.m KP.k KP.b .nil pass0)) rfl))) (fun _ _ _ _ _ => (pv 10))) pe_int (fun _ _ => rfl))))
      pss_nil)
    (pss_one (ps_expr (pe_bm PySem.F.plainAttrs_list PySem.F.slot_list_append PySem.F.type_list_append mt_append (pv 3) (pa_cons (pv 5) pa_nil))))))))))
    (pss_one (ps_ret (pv 3)))))), ?_⟩
  have hs : sizeLine = 16777216 := by decide
  refine ⟨Nat.zero_le _, fun p hp => ?_⟩
  obtain ⟨ys0, hb0⟩ := hB.lst
  have npb : p ≠ b := fun e => by rw [e, hb0] at hp; cases hp
  refine ⟨_, rfl, m, rfl, by omega, by omega, ?_⟩
  refine for_range (lo := 0) (n := (m : Int).toNat) (fun i σ H' => ∃ (nm : List Str) (y4 y5 y6 y7 : Option V), σ = [some (.ref b), some (.int m), some (.str letters), some (.ref p), y4, y5, y6, y7, none, none, none] ∧
    H' p = some (.lst (nm.map V.str)) ∧ nm.length = i ∧ NmsOk nm ∧ Bag H' b (n + 16 * (m - i)) ∧ But b H H') ?_ ?_ ?_
  · exact ⟨[], none, none, none, none, rfl, upd_same, rfl, ⟨fun s h => (by cases h), List.nodup_nil⟩, hB.same (same_new hp _), But.new hp _⟩
  · rintro i σ H1 hi ⟨nm, y4, y5, y6, y7, rfl, hp1, hl, hN, B1, U1⟩
    have hi' : i < m := by omega
    -- the name by its letters
    refine ⟨⟨_, rfl⟩, (by show 4 ≤ sizeLine; decide), fun l1 hl1 => ?_⟩
    refine ⟨_, rfl, b, 4, n + 16 * (m - i) - 1, rfl, by decide, by decide, (B1.same (same_new hl1 _)).less (by omega), fun d1 H2 a1 a2 B2 U2 => ?_⟩
    have nb1 : l1 ≠ b := fun e => by obtain ⟨ys, hy⟩ := B1.lst; rw [e, hy] at hl1; cases hl1
    have hl2 : H2 l1 = some (.lst (([1, 2, 3, 8] : List Int).map V.int)) := U2 _ _ nb1 upd_same
    obtain ⟨v, ev, hv⟩ := menuI (ns := [1, 2, 3, 8]) a1 (by show d1 < 4; exact a2)
    have hv' : 1 ≤ v ∧ v ≤ 8 := by
      have : v = 1 ∨ v = 2 ∨ v = 3 ∨ v = 8 := by simpa using hv
      omega
    refine ⟨l1, _, _, _, rfl, rfl, SqL.of hl2, ev, v, rfl, by omega, by omega, ?_⟩
    intro D hD
    have hp2 : H2 p = some (.lst (nm.map V.str)) := U2 _ _ npb ((same_new hl1 _) _ _ hp1)
    have nDb : D ≠ b := fun e => by obtain ⟨ys, hy⟩ := B2.lst; rw [e, hy] at hD; cases hD
    have nDp : D ≠ p := fun e => by rw [e, hp2] at hD; cases hD
    have U12 : But b H1 H2 := (But.new hl1 _).trans U2
    refine lc_range (lo := 0) (n := v.toNat) (fun j H' => ∃ ss : List Str, H' D = some (.lst (ss.map V.str)) ∧ ss.length = j ∧ (∀ s ∈ ss, ∃ c, s = one c ∧ 97 ≤ c ∧ c ≤ 122) ∧ Bag H' b (n + 16 * (m - i) - 1 - j) ∧ (∀ a o, a ≠ b → a ≠ D → H2 a = some o → H' a = some o)) ?_ ?_ ?_
    · refine ⟨[], upd_same, rfl, fun s h => (by cases h), (B2.same (same_new hD _)).less (by omega), fun a o _ _ e => (same_new hD _) _ _ e⟩
    · rintro j H3 hj ⟨ss, hD3, hss, hone, B3, U3⟩
      refine ⟨rfl, ?_⟩
      refine ⟨_, rfl, _, rfl, b, 26, n + 16 * (m - i) - 2 - j, rfl, by decide, by decide, B3.less (by omega), fun d2 H4 b1 b2 B4 U4 => ?_⟩
      obtain ⟨c, ec, c1, c2⟩ := letter_at b1 b2
      refine ⟨letters, _, c, rfl, rfl, (by show letters.length ≤ sizeLine; decide +kernel), ec, ?_⟩
      refine ⟨_, U4 _ _ nDb hD3, by rw [List.length_map, hss]; omega, ss ++ [one c], ?_, by rw [List.length_append, hss]; rfl, ?_, ?_, ?_⟩
      · rw [upd_same, List.map_append]
        rfl
      · intro s hs'
        rcases List.mem_append.mp hs' with h | h
        · exact hone s h
        · exact ⟨c, List.mem_singleton.mp h, c1, c2⟩
      · have B5 : Bag (upd H4 D (.lst (ss.map V.str ++ [V.str (one c)]))) b (n + 16 * (m - i) - 2 - j) := by
          obtain ⟨x, y, z, e, r⟩ := B4
          exact ⟨x, y, z, by rw [upd_ne (Ne.symm nDb)]; exact e, r⟩
        exact B5.less (by omega)
      · intro a o na nd e
        rw [upd_ne nd]
        exact U4 _ _ na (U3 a o na nd e)
    · rintro H3 ⟨ss, hD3, hss, hone, B3, U3⟩
      have hp3 : H3 p = some (.lst (nm.map V.str)) := U3 _ _ npb (Ne.symm nDp) hp2
      have U13 : But b H1 H3 := fun a o na e => U3 a o na (ne_of_none (U12 a o na e) hD) (U12 a o na e)
      refine ⟨_, D, ss, rfl, rfl, .inl (SqL.of hD3), ?_, ?_⟩
      · rw [ones_len ss hone, hss]
        have z : (PySem.Str.ofString "").length = 0 := by decide
        rw [z]
        omega
      have nok : nmOk (PySem.Txt.join (PySem.Str.ofString "") ss) := signs_ok (by rw [hss]; omega) (by rw [hss]; omega) hone
      generalize PySem.Txt.join (PySem.Str.ofString "") ss = nme at nok
      -- its way
      refine ⟨_, rfl, b, 8, n + 16 * (m - i) - 10, rfl, by decide, by decide, B3.less (by omega), fun d3 H4 c1 c2 B4 U4 => ?_⟩
      have hp4 : H4 p = some (.lst (nm.map V.str)) := U4 _ _ npb hp3
      refine ⟨fun σ' H' => ∃ nme', nmOk nme' ∧ σ' = [some (.ref b), some (.int m), some (.str letters), some (.ref p), some (.int (0 + i)), some (.str nme'), some (.int d3), y7, none, none, none] ∧ H' p = some (.lst (nm.map V.str)) ∧ Bag H' b (n + 16 * (m - i) - 11) ∧ But b H1 H', ?_, ?_⟩
      · refine ⟨_, rfl, _, _, rfl, rfl, _, rfl, ?_⟩
        refine ite2 (fun c => ?_) (fun c => ?_)
        · have c' : d3 < 2 := of_decide_eq_true c
          refine ⟨rfl, fun kp hkp => ?_⟩
          have nkb : kp ≠ b := fun e => by obtain ⟨ys, hy⟩ := B4.lst; rw [e, hy] at hkp; cases hkp
          refine ⟨_, rfl, b, 10, n + 16 * (m - i) - 11, rfl, by decide, by decide, (B4.same (same_new hkp _)).less (by omega), fun d4 H5 e1 e2 B5 U5 => ?_⟩
          obtain ⟨kw, ek, hk⟩ := menuS (ns := kept) e1 (by show d4 < 10; exact e2)
          have hk5 : H5 kp = some (.lst (kept.map V.str)) := U5 _ _ nkb upd_same
          refine ⟨kp, _, _, _, rfl, rfl, SqL.of hk5, ek, _, rfl, kw, nme, rfl, rfl, ?_, ?_⟩
          · have k2 := (kept_pos kw hk).2
            have n2 := nok.2.1
            rw [codes_len] at k2 n2
            omega
          obtain ⟨lim, el, hlim⟩ := menuI (ns := [8, 5]) c1 (by show d3 < 2; exact c')
          have hlim' : lim = 8 ∨ lim = 5 := by simpa using hlim
          refine ⟨(by show 2 ≤ sizeLine; decide), fun l2 hl2' => ?_⟩
          refine ⟨_, rfl, l2, _, _, _, rfl, rfl, SqL.of upd_same, el, _, rfl, kw ++ nme, rfl, ?_, ?_⟩
          · have k2 := (kept_pos kw hk).2
            have n2 := nok.2.1
            rw [codes_len] at k2 n2
            rw [app_len]
            omega
          refine ⟨cutS (kw ++ nme) none (some lim), ?_, rfl, ?_, ?_, ?_⟩
          · rcases hlim' with rfl | rfl
            · exact pre_ok (n := 8) hk nok (by decide) (by decide)
            · exact pre_ok (n := 5) hk nok (by decide) (by decide)
          · exact (same_new hl2' _) _ _ (U5 _ _ npb ((same_new hkp _) _ _ hp4))
          · exact B5.same (same_new hl2' _)
          · exact U13.trans (U4.trans ((But.new hkp _).trans (U5.trans (But.new hl2' _))))
        · exact ⟨nme, nok, rfl, hp4, B4.less (by omega), U13.trans U4⟩
      · rintro σ' H5 ⟨nme', nok', rfl, hp5, B5, U5⟩
        -- the twenty-six others
        refine ⟨_, rfl, letters, rfl, ?_⟩
        intro D2 hD2
        have nD2b : D2 ≠ b := fun e => by obtain ⟨ys, hy⟩ := B5.lst; rw [e, hy] at hD2; cases hD2
        have sz : letters.cps.size = 26 := by decide +kernel
        refine lc_it walk_str (fun j H' => H' = upd H5 D2 (.lst (((some26 nme').take j).map V.str))) rfl (fun _ _ _ _ => trivial) ?_ ?_
        · rintro j x H6 H7 hj rfl ⟨rfl, c, hc, rfl⟩
          refine ⟨rfl, ?_⟩
          refine ⟨_, rfl, _, rfl, 1, rfl, nme', rfl, ?_, one c, _, rfl, rfl, ?_, ?_⟩
          · have := nok'.2.1
            rw [codes_len] at this
            omega
          · have := nok'.2.1
            have e1 := cut1 nme'
            have e2 := congrArg List.length e1
            rw [codes_len, List.length_drop] at e2
            have e3 : (one c).length = 1 := rfl
            omega
          · refine ⟨_, upd_same, ?_, ?_⟩
            · rw [List.length_map, List.length_take]
              omega
            · have hx : (some26 nme')[j]? = some (one c ++ cutS nme' (some 1) none) := by
                unfold some26
                rw [List.getElem?_map, show (codes letters)[j]? = some c from by unfold codes; rw [Array.getElem?_toList]; exact hc]
                rfl
              rw [List.take_add_one, hx, List.map_append]
              funext a
              by_cases ha : a = D2
              · subst ha
                rw [upd_same, upd_same]
                rfl
              · rw [upd_ne ha, upd_ne ha, upd_ne ha]
        · rintro H6 rfl
          have e26 : (some26 nme').take letters.cps.size = some26 nme' := List.take_of_length_le (by rw [some26_len, sz]; omega)
          rw [e26]
          have s6 : Same H5 (upd H5 D2 (.lst ((some26 nme').map V.str))) := same_new hD2 _
          have hD6 : (upd H5 D2 (.lst ((some26 nme').map V.str))) D2 = some (.lst ((some26 nme').map V.str)) := upd_same
          generalize upd H5 D2 (.lst ((some26 nme').map V.str)) = H6 at s6 hD6
          have hp6 := s6 _ _ hp5
          have B6 := B5.same s6
          have len12 : (nm ++ kept).length ≤ 22 := by
            rw [List.length_append]
            have : kept.length = 10 := rfl
            omega
          refine ⟨fun σ' H' => ∃ fin, nmOk fin ∧ fin ∉ nm ++ kept ∧ σ' = [some (.ref b), some (.int m), some (.str letters), some (.ref p), some (.int (0 + i)), some (.str fin), some (.int d3), some (.ref D2), none, none, none] ∧ Same H6 H', ?_, ?_⟩
          · refine ⟨_, rfl, _, rfl, rfl, fun kp hkp => ?_⟩
            have sk : Same H6 (upd H6 kp (.lst (kept.map V.str))) := same_new hkp _
            refine ⟨p, kp, _, _, rfl, rfl, sk _ _ hp6, upd_same, ?_, fun u hu => ?_⟩
            · rw [List.length_map, List.length_map]
              have : kept.length = 10 := rfl
              omega
            have su : Same _ _ := same_new hu (.lst (nm.map V.str ++ kept.map V.str))
            refine ⟨u, _, rfl, .inl (SqL.of upd_same), rfl, ?_, _, rfl, ?_⟩
            · rw [← List.map_append]; exact flat_strs _
            rw [← List.map_append] at su ⊢
            rw [if_neg Bool.false_ne_true, inV_str]
            refine ite2 (fun c => ?_) (fun c => ?_)
            · have su' := sk.trans su
              generalize upd (upd H6 kp (.lst (kept.map V.str))) u (.lst ((nm ++ kept).map V.str)) = H8 at su'
              -- [one for one in some if ..][0]
              refine ⟨_, rfl, D2, rfl, ⟨_, SqL.of (su' _ _ hD6)⟩, ?_⟩
              intro D3 hD3
              refine lc_list (K := K) (a := D2) (xs := (some26 nme').map V.str) (fun j H' => H' D3 = some (.lst ((((some26 nme').take j).filter (fun y => !decide (y ∈ nm ++ kept))).map V.str)) ∧ Same H8 H') ⟨upd_same, same_new hD3 _⟩ (fun j H' _ h => SqL.of (h.2 _ _ (su' _ _ hD6))) ?_ ?_
              · rintro j x H9 hx ⟨h9, s9⟩
                obtain ⟨x', hx', rfl⟩ : ∃ x', (some26 nme')[j]? = some x' ∧ V.str x' = x := by
                  rw [List.getElem?_map] at hx
                  obtain ⟨x', h1, h2⟩ := Option.map_eq_some_iff.mp hx
                  exact ⟨x', h1, h2⟩
                have hj26 : j < 26 := by
                  obtain ⟨h1, _⟩ := List.getElem?_eq_some_iff.mp hx'
                  rwa [some26_len] at h1
                refine ⟨rfl, ?_⟩
                refine ⟨_, rfl, _, rfl, rfl, fun kp2 hkp2 => ?_⟩
                have sk2 : Same H9 (upd H9 kp2 (.lst (kept.map V.str))) := same_new hkp2 _
                refine ⟨p, kp2, _, _, rfl, rfl, sk2 _ _ (s9 _ _ (su' _ _ hp6)), upd_same, ?_, fun u2 hu2 => ?_⟩
                · rw [List.length_map, List.length_map]
                  have : kept.length = 10 := rfl
                  omega
                have su2 : Same _ _ := same_new hu2 (.lst (nm.map V.str ++ kept.map V.str))
                refine ⟨u2, _, rfl, .inl (SqL.of upd_same), rfl, ?_, _, rfl, ?_⟩
                · rw [← List.map_append]; exact flat_strs _
                rw [← List.map_append] at su2 ⊢
                rw [if_pos rfl, inV_str]
                have s10 := sk2.trans su2
                generalize upd (upd H9 kp2 (.lst (kept.map V.str))) u2 (.lst ((nm ++ kept).map V.str)) = H10 at s10
                have fs := filt_snoc (L := nm ++ kept) hx'
                refine ite2 (fun c2 => ?_) (fun c2 => ?_)
                · refine ⟨_, rfl, _, s10 _ _ h9, ?_, ?_, ?_⟩
                  · rw [List.length_map]
                    have := List.length_filter_le (fun y => !decide (y ∈ nm ++ kept)) ((some26 nme').take j)
                    rw [List.length_take, some26_len] at this
                    omega
                  · rw [upd_same, fs, if_pos c2, List.map_append]
                    rfl
                  · intro a o e
                    rw [upd_ne (ne_of_none e hD3)]
                    exact s10 _ _ (s9 _ _ e)
                · refine ⟨?_, s9.trans s10⟩
                  rw [fs, if_neg c2, List.append_nil]
                  exact s10 _ _ h9
              · rintro H9 ⟨h9, s9⟩
                rw [List.length_map, List.take_length] at h9
                obtain ⟨x, hx, hxL⟩ := pig (some26 nme') (nm ++ kept) (some26_nd _) (by rw [some26_len]; omega)
                have hin : x ∈ (some26 nme').filter (fun y => !decide (y ∈ nm ++ kept)) := List.mem_filter.mpr ⟨hx, by rw [decide_eq_false hxL]; rfl⟩
                cases hf : (some26 nme').filter (fun y => !decide (y ∈ nm ++ kept)) with
                | nil => rw [hf] at hin; cases hin
                | cons z r =>
                  have hz : z ∈ (some26 nme').filter (fun y => !decide (y ∈ nm ++ kept)) := by rw [hf]; exact List.mem_cons_self
                  obtain ⟨z1, z2⟩ := List.mem_filter.mp hz
                  rw [hf] at h9
                  refine ⟨D3, _, 0, .str z, rfl, rfl, SqL.of h9, atI_nat (j := 0) rfl, z, some26_ok nok' z1, ?_, rfl, su'.trans s9⟩
                  intro q
                  rw [decide_eq_true q] at z2
                  cases z2
            · refine ⟨nme', nok', ?_, rfl, sk.trans su⟩
              exact of_decide_eq_false (Bool.eq_false_iff.mpr c)
          · rintro σ' H7 ⟨fin, fok, fno, rfl, s7⟩
            have hp7 := s7 _ _ hp6
            refine ⟨_, rfl, .inl ⟨rfl, _, SqL.of hp7⟩, _, rfl, p, _, _, rfl, rfl, hp7, ?_, ?_⟩
            · rw [List.length_map]
              omega
            · refine ⟨nm ++ [fin], _, _, _, _, rfl, ?_, ?_, hN.snoc fok fno, ?_, ?_⟩
              · rw [upd_same, List.map_append]
                rfl
              · rw [List.length_append, hl]
                rfl
              · obtain ⟨x, y, z, e, r1, r2, r3, r4, r5⟩ := B6.same s7
                exact ⟨x, y, z, by rw [upd_ne (Ne.symm npb)]; exact e, r1, r2, r3, r4, by omega⟩
              · intro a o na e
                have hap : a ≠ p := ne_of_none e hp
                rw [upd_ne hap]
                exact s7 _ _ (s6 _ _ (U5 _ _ na (U1 _ _ na e)))
  · rintro σ H1 ⟨nm, y4, y5, y6, y7, rfl, hp1, hl, hN, B1, U1⟩
    exact ⟨_, rfl, q p nm H1 hp hp1 (by omega) hN (B1.less (by omega)) U1⟩
end
end SH

set_option Elab.async false
set_option linter.all false
set_option maxRecDepth 100000
namespace SH
open PySem L2
abbrev sTree : Stmt := topS 44
theorem scTree : FnScope ["_law_bag_here", "_law_names_here", "_law_deep", "_law_way", "_law_sign"] ["_law_bag_here", "_law_names_here", "_law_deep"] (defScope sTree) := ⟨rfl, rfl, rfl, by decide +kernel, rfl, by decide +kernel, by decide +kernel⟩
/-- an expression at most n deep, of these names -/
def Ex.of (nm : List Str) : Nat → Ex → Prop
  | 0, _ => False
  | _ + 1, .num i => 0 ≤ i ∧ i < 1000000 ^ 5
  | _ + 1, .nam s => s ∈ nm
  | n + 1, .op _ l r => Ex.of nm n l ∧ Ex.of nm n r
theorem Ex.of_up {nm : List Str} : ∀ {n m : Nat} {e : Ex}, n ≤ m → Ex.of nm n e → Ex.of nm m e
  | 0, _, _, _, h => h.elim
  | n + 1, m + 1, .num _, _, h => h
  | n + 1, m + 1, .nam _, _, h => h
  | n + 1, m + 1, .op _ _ _, hm, h => ⟨Ex.of_up (by omega) h.1, Ex.of_up (by omega) h.2⟩
theorem Ex.of_ok {nm : List Str} (hn : ∀ s ∈ nm, nmOk s) : ∀ {n : Nat} {e : Ex}, Ex.of nm n e → Ex.ok n e
  | 0, _, h => h
  | n + 1, .num i, h => log_ok h.1 h.2
  | n + 1, .nam s, h => by
    have q := (hn s h).2.1
    rw [codes_len] at q
    show s.length ≤ 2000
    omega
  | n + 1, .op _ _ _, h => ⟨Ex.of_ok hn h.1, Ex.of_ok hn h.2⟩
def sgs : List Sg := [.add, .sub, .mul, .lt, .eq]
def tc : Nat → Nat
  | 0 => 0
  | n + 1 => 2 * tc n + 12
def spTree (n : Nat) : Sp := fun vs H Q _ => ∃ (b a : Addr) (nm : List Str) (k : Nat), vs = [.ref b, .ref a, .int n] ∧ H a = some (.lst (nm.map V.str)) ∧ a ≠ b ∧ nm.length ≤ 1000 ∧ (∀ s ∈ nm, nmOk s) ∧ 1 ≤ n ∧ Bag H b (k + tc n) ∧
  ∀ (v : V) (e : Ex) (H' : Hp), TrIn H' e v → Ex.of nm n e → Bag H' b k → But b H H' → Q v H'
theorem sgs_at {i : Int} (h0 : 0 ≤ i) (h1 : i < 5) : ∃ g : Sg, atI (sgs.map fun g => V.str g.txt) i = some (.str g.txt) := by
  obtain ⟨v, e, m⟩ := menu (xs := sgs.map fun g => V.str g.txt) h0 (by show i < 5; exact h1)
  obtain ⟨g, _, rfl⟩ := List.mem_map.mp m
  exact ⟨g, e⟩
theorem strOk_nm {s : Str} (h : nmOk s) : PyData.strOk s = true := by
  unfold PyData.strOk
  rw [Array.all_eq_true']
  intro x hx
  have := (h.2.2 x (Array.mem_toList_iff.mpr hx)).2
  exact decide_eq_true (by omega)
theorem dp_strs {K : PySem.W.Frag} {H : Hp} : ∀ l : List Str, DpAll K H (l.map V.str) (l.map PyData.str)
  | [] => .nil
  | _ :: r => .cons (.str _) (dp_strs r)
theorem lay_strs : ∀ {l : List Str}, (∀ s ∈ l, nmOk s) → PyData.canLayAll0 (l.map PyData.str) = true ∧ PyData.depthAll (l.map PyData.str) = 0
  | [], _ => ⟨rfl, rfl⟩
  | a :: r, h => by
    obtain ⟨h1, h2⟩ := lay_strs (l := r) fun s hs => h s (List.mem_cons_of_mem _ hs)
    refine ⟨?_, ?_⟩
    · show (PyData.strOk a && PyData.canLayAll0 (r.map PyData.str)) = true
      rw [strOk_nm (h a List.mem_cons_self), h1] <;> rfl
    · show max 0 (PyData.depthAll (r.map PyData.str)) = 0
      rw [h2] <;> rfl
theorem shaped_strs {l : List Str} (h : ∀ s ∈ l, nmOk s) : SeqAt.shaped (.list (l.map PyData.str)) = true := by
  obtain ⟨h1, h2⟩ := lay_strs h
  show (PyData.canLayAll0 (l.map PyData.str) && decide (PyData.depthAll (l.map PyData.str) + 1 ≤ 64)) = true
  rw [h1, h2] <;> rfl
theorem trNum {H : Hp} {p : Addr} {i : Int} (h : H p = some (.tup [.str "number", .int i])) : TrIn H (.num i) (.ref p) := ⟨p, rfl, h⟩
theorem trNam {H : Hp} {p : Addr} {i : Str} (h : H p = some (.tup [.str "name", .str i])) : TrIn H (.nam i) (.ref p) := ⟨p, rfl, h⟩
def spTrees (N : Nat) : Sp := fun vs H Q E => ∃ n, n ≤ N ∧ spTree n vs H Q E
section
variable {P : Program} {w : World} {K : PySem.W.Frag} {mg : Str → Option Value} {base : Heap}
theorem ok_tree {n : Nat} {f t u : Addr} {fd td ud : FuncData} (F : Fun K "_law_tree" "_law_tree" sTree f fd) (TK : Fk P w K mg base 1 "_law_take" t td ["_law_bag_here", "_law_many"] spTake) (NB : Fk P w K mg base 2 "_law_number" u ud ["_law_bag_here"] spNumber)
    (TR : Fk P w K mg base (n + 2) "_law_tree" f fd ["_law_bag_here", "_law_names_here", "_law_deep"] (spTree n)) (T : Bi mg) : FnOk P w K mg base CX0 (n + 3) f fd ["_law_bag_here", "_law_names_here", "_law_deep"] (spTree (n + 1)) := by
  refine F.ok scTree (fun vs H Q E h => ?_) (fun cdv A outer s H vs Q E hr h => ?_)
  · obtain ⟨b, a, nm, k, rfl, _⟩ := h
    rfl
  obtain ⟨b, a, nm, k, rfl, ha, nab, hnl, hnm, _, hB, q⟩ := h
  refine ⟨_, (pss_cons (ps_set (i := 3) scTree.nd rfl (Or.inl rfl) (pe_call TK.G (hr.mono (by omega)) (by rfl) TK.m TK.k TK.b .nil pass0 (pa_cons (pv 0) (pa_cons pe_int pa_nil))))
    (pss_cons (ps_if (PW.pt (pw_or (pt_cmpR op_eq (pv 2) pe_int (nomark _)) (pw_or1 (pt_cmpR op_eq (pv 3) pe_int (nomark _)))))
      (C8.pss_cut (ps_if (PW.pt (pw_and (pt_cmpR (op_neD hr.units) (pv 1) (pe_lst pa_nil) (nomark _)) (pw_and1 (pt_cmpR op_gt (pe_call TK.G (hr.mono (by omega)) (by rfl) TK.m TK.k TK.b .nil pass0 (pa_cons (pv 0) (pa_cons pe_int pa_nil))) pe_int (nomark _)))))
      (pss_one (ps_ret (pe_tup (pa_cons pe_str (pa_cons (pe_ix ix_list (pv 1) (pe_call TK.G (hr.mono (by omega)) (by rfl) TK.m TK.k TK.b .nil pass0 (pa_cons (pv 0) (pa_cons (pe_callB call_len_seq (by rfl) T.len (by decide +kernel) (pa_cons (pv 1) pa_nil)) pa_nil))) (fun _ _ => rfl)) pa_nil)))))
      pss_nil)
    (pss_one (ps_ret (pe_tup (pa_cons pe_str (pa_cons (pe_call NB.G (hr.mono (by omega)) (by rfl) NB.m NB.k NB.b .nil pass0 (pa_cons (pv 0) pa_nil)) pa_nil))))))
      pss_nil)
    (pss_cons (ps_set (i := 4) scTree.nd rfl (Or.inl rfl) (pe_ix ix_list (pe_lst (pa_cons pe_str (pa_cons pe_str (pa_cons pe_str (pa_cons pe_str (pa_cons pe_str pa_nil)))))) (pe_call TK.G (hr.mono (by omega)) (by rfl) TK.m TK.k TK.b .nil pass0 (pa_cons (pv 0) (pa_cons pe_int pa_nil))) (fun _ _ => rfl)))
    (pss_one (ps_ret (pe_tup (pa_cons (pv 4) (pa_cons (pe_call TR.G hr (by rfl) TR.m TR.k TR.b .nil pass0 (pa_cons (pv 0) (pa_cons (pv 1) (pa_cons (pe_op op_sub (pv 2) pe_int) pa_nil)))) (pa_cons (pe_call TR.G hr (by rfl) TR.m TR.k TR.b .nil pass0 (pa_cons (pv 0) (pa_cons (pv 1) (pa_cons (pe_op op_sub (pv 2) pe_int) pa_nil)))) pa_nil))))))))), ?_⟩
  have hs : sizeLine = 16777216 := by decide
  have htc : tc (n + 1) = 2 * tc n + 12 := rfl
  refine ⟨_, rfl, b, 5, k + 2 * tc n + 11, rfl, by decide, by decide, hB, fun d1 H1 a1 a2 B1 U1 => ?_⟩
  have ha1 := U1 _ _ nab ha
  refine ⟨_, rfl, rfl, _, rfl, ?_⟩
  refine ite2 (fun c => ?leafA) (fun c => ⟨_, rfl, rfl, _, rfl, ite2 (fun c2 => ?leafB) (fun c2 => ?rec)⟩)
  case rec =>
    have hn1 : 1 ≤ n := by
      have c' : ¬ (V.int ((n + 1 : Nat) : Int) = V.int 1) := of_decide_eq_false (Bool.eq_false_iff.mpr c)
      rcases Nat.eq_zero_or_pos n with z | z
      · exact absurd (by rw [z]; rfl) c'
      · exact z
    refine ⟨(by show 5 ≤ sizeLine; decide), fun l hl => ?_⟩
    refine ⟨_, rfl, b, 5, k + 2 * tc n + 10, rfl, by decide, by decide, B1.same (same_new hl _), fun d2 H2 b1 b2 B2 U2 => ?_⟩
    obtain ⟨g, eg⟩ := sgs_at b1 b2
    have nlb : l ≠ b := fun e => by obtain ⟨ys, hy⟩ := B1.lst; rw [e, hy] at hl; cases hl
    have hl2 : H2 l = some (.lst (sgs.map fun g => V.str g.txt)) := U2 _ _ nlb upd_same
    refine ⟨l, _, _, _, rfl, rfl, SqL.of hl2, eg, ?_⟩
    have U12 : But b H H2 := U1.trans ((But.new hl _).trans U2)
    have ha2 := U12 _ _ nab ha
    have en : ((n + 1 : Nat) : Int) - 1 = (n : Int) := by omega
    refine ⟨_, rfl, _, rfl, _, rfl, _, rfl, _, _, rfl, rfl, b, a, nm, k + tc n, (by show [V.ref b, V.ref a, V.int (((n + 1 : Nat) : Int) - 1)] = _; rw [en]), ha2, nab, hnl, hnm, hn1, B2.less (by omega), fun v1 e1 H3 t1 o1 B3 U3 => ?_⟩
    have ha3 := U3 _ _ nab ha2
    refine ⟨_, rfl, _, rfl, _, rfl, _, _, rfl, rfl, b, a, nm, k, (by show [V.ref b, V.ref a, V.int (((n + 1 : Nat) : Int) - 1)] = _; rw [en]), ha3, nab, hnl, hnm, hn1, B3, fun v2 e2 H4 t2 o2 B4 U4 => ?_⟩
    refine ⟨(by show 3 ≤ sizeLine; decide), fun p hp => ?_⟩
    obtain ⟨ys, hys⟩ := B3.lst
    have t1' : TrIn H4 e1 v1 := t1.but hys U4
    refine q (.ref p) (.op g e1 e2) _ ⟨p, v1, v2, rfl, upd_same, t1'.same (same_new hp _), t2.same (same_new hp _)⟩ ⟨o1, o2⟩ (B4.same (same_new hp _)) (U12.trans (U3.trans (U4.trans (But.new hp _))))
  all_goals
    refine ⟨fun σ' H' => σ' = [some (.ref b), some (.ref a), some (.int ((n + 1 : Nat) : Int)), some (.int d1), none] ∧ Bag H' b (k + 8) ∧ But b H H', ?_, ?_⟩
    · refine ⟨_, rfl, Nat.zero_le _, fun l hl => ?_⟩
      have sl := same_new hl (.lst [])
      refine ⟨.list (nm.map PyData.str), .list [], .lst (SqL.of (sl _ _ ha1)) (dp_strs nm), .lst (SqL.of upd_same) .nil, shaped_strs hnm, rfl, _, rfl, ?_⟩
      cases hnm' : nm with
      | nil => exact ⟨rfl, (B1.same sl).less (by omega), U1.trans (But.of sl)⟩
      | cons z r =>
        have el : (nm.length : Int) = (z :: r).length := by rw [hnm']
        refine ⟨_, rfl, b, 3, k + 2 * tc n + 10, rfl, by decide, by decide, B1.same sl, fun d2 H2 b1 b2 B2 U2 => ?_⟩
        have U12 : But b H H2 := U1.trans ((But.of sl).trans U2)
        have ha2 : H2 a = some (.lst (nm.map V.str)) := U12 _ _ nab ha
        refine ⟨_, _, rfl, rfl, _, rfl, ?_⟩
        refine ite2 (fun c3 => ?_) (fun c3 => ?_)
        · refine ⟨_, rfl, _, rfl, _, rfl, a, _, rfl, .inl (SqL.of ha2), b, _, k + 2 * tc n + 9, rfl, ?_, ?_, B2, fun d3 H3 e1 e2 B3 U3 => ?_⟩
          · rw [List.length_map, el, List.length_cons]; omega
          · rw [List.length_map]; omega
          · rw [List.length_map] at e2
            obtain ⟨x, ex, hx⟩ := menuS (ns := nm) e1 e2
            refine ⟨a, _, _, _, rfl, rfl, SqL.of (U3 _ _ nab ha2), ex, (by show 2 ≤ sizeLine; decide), fun p hp => ?_⟩
            exact q (.ref p) (.nam x) _ (trNam upd_same) hx ((B3.same (same_new hp _)).less (by omega)) (U12.trans (U3.trans (But.new hp _)))
        · exact ⟨rfl, B2.less (by omega), U12⟩
    · rintro σ' H2 ⟨rfl, B2, U2⟩
      refine ⟨_, rfl, b, k, rfl, B2, fun i H3 i0 i1 B3 U3 => ?_⟩
      refine ⟨(by show 2 ≤ sizeLine; decide), fun p hp => ?_⟩
      exact q (.ref p) (.num i) _ (trNum upd_same) ⟨i0, i1⟩ (B3.same (same_new hp _)) (U2.trans (U3.trans (But.new hp _)))
theorem tree_none {f : Addr} {fd : FuncData} : FnOk P w K mg base CX0 2 f fd ["_law_bag_here", "_law_names_here", "_law_deep"] (spTree 0) := by
  have no : ∀ vs H Q E, ¬ spTree 0 vs H Q E := fun vs H Q E h => by
    obtain ⟨_, _, _, _, _, _, _, _, _, h1, _⟩ := h
    omega
  exact ⟨fun vs H Q E h => absurd h (no vs H Q E), fun A outer s H args us vs Q E _ _ _ _ h => absurd h (no vs H Q E)⟩
theorem trees {f t u : Addr} {fd td ud : FuncData} (F : Fun K "_law_tree" "_law_tree" sTree f fd) (m : mg "_law_tree" = some (.ref f)) (bd : Binds K fd ["_law_bag_here", "_law_names_here", "_law_deep"] []) (TK : Fk P w K mg base 1 "_law_take" t td ["_law_bag_here", "_law_many"] spTake)
    (NB : Fk P w K mg base 2 "_law_number" u ud ["_law_bag_here"] spNumber) (T : Bi mg) : ∀ n : Nat, FnOk P w K mg base CX0 (n + 2) f fd ["_law_bag_here", "_law_names_here", "_law_deep"] (spTree n)
  | 0 => tree_none
  | n + 1 => ok_tree F TK NB ⟨trees F m bd TK NB T n, m, F.kp, bd⟩ T
theorem trees_all {f t u : Addr} {fd td ud : FuncData} (F : Fun K "_law_tree" "_law_tree" sTree f fd) (m : mg "_law_tree" = some (.ref f)) (bd : Binds K fd ["_law_bag_here", "_law_names_here", "_law_deep"] []) (TK : Fk P w K mg base 1 "_law_take" t td ["_law_bag_here", "_law_many"] spTake)
    (NB : Fk P w K mg base 2 "_law_number" u ud ["_law_bag_here"] spNumber) (T : Bi mg) (N : Nat) : FnOk P w K mg base CX0 (N + 2) f fd ["_law_bag_here", "_law_names_here", "_law_deep"] (spTrees N) := by
  refine ⟨fun vs H Q E h => ?_, fun A outer s H args us vs Q E hr he hb hv h => ?_⟩
  · obtain ⟨n, hn, h⟩ := h
    exact (trees (P := P) (w := w) (base := base) F m bd TK NB T n).len vs H Q E h
  · obtain ⟨n, hn, h⟩ := h
    exact (trees (P := P) (w := w) (base := base) F m bd TK NB T n).run A outer s H args us vs Q E (hr.mono (by omega)) he hb hv h
end
end SH

set_option Elab.async false
set_option linter.all false
set_option maxRecDepth 100000
namespace SH
open PySem L2
/-! ### rows and works -/
def NmOk (s : Str) : Prop := nmOk s ∧ s ∉ kept
def Ex.fine : Nat → Ex → Prop
  | 0, _ => False
  | _ + 1, .num i => 0 ≤ i ∧ i < 1000000 ^ 5
  | _ + 1, .nam s => NmOk s
  | n + 1, .op _ l r => Ex.fine n l ∧ Ex.fine n r
theorem Ex.fine_up : ∀ {n m : Nat} {e : Ex}, n ≤ m → Ex.fine n e → Ex.fine m e
  | 0, _, _, _, h => h.elim
  | n + 1, m + 1, .num _, _, h => h
  | n + 1, m + 1, .nam _, _, h => h
  | n + 1, m + 1, .op _ _ _, hm, h => ⟨Ex.fine_up (by omega) h.1, Ex.fine_up (by omega) h.2⟩
theorem Ex.of_fine {nm : List Str} (hn : ∀ s ∈ nm, NmOk s) : ∀ {n : Nat} {e : Ex}, Ex.of nm n e → Ex.fine n e
  | 0, _, h => h
  | n + 1, .num i, h => h
  | n + 1, .nam s, h => hn s h
  | n + 1, .op _ _ _, h => ⟨Ex.of_fine hn h.1, Ex.of_fine hn h.2⟩
theorem Ex.fine_ok : ∀ {n : Nat} {e : Ex}, Ex.fine n e → Ex.ok n e
  | 0, _, h => h
  | n + 1, .num i, h => log_ok h.1 h.2
  | n + 1, .nam s, h => by
    have q := h.1.2.1
    rw [codes_len] at q
    show s.length ≤ 2000
    omega
  | n + 1, .op _ _ _, h => ⟨Ex.fine_ok h.1, Ex.fine_ok h.2⟩
inductive Rs where
  | nil
  | put (x : Str) (e : Ex) (t : Rs)
  | go (w : Bool) (x f : Str) (es : List Ex) (t : Rs)
  | wait (x y : Str) (e : Option Ex) (t : Rs)
  | iff (e : Ex) (a b t : Rs)
  | give (w : Bool) (e : Ex) (t : Rs)
def goW : Bool → Str
  | false => "go"
  | true => "call"
def giveW : Bool → Str
  | false => "give"
  | true => "fail"
def TrsIn (H : Hp) : List Ex → List V → Prop
  | [], vs => vs = []
  | e :: es, vs => ∃ v r, vs = v :: r ∧ TrIn H e v ∧ TrsIn H es r
def OptIn (H : Hp) : Option Ex → V → Prop
  | none, v => v = .non
  | some e, v => TrIn H e v
def RsIn (H : Hp) : Rs → List V → Prop
  | .nil, vs => vs = []
  | .put x e t, vs => ∃ a v r, vs = .ref a :: r ∧ H a = some (.tup [.str "put", .str x, v]) ∧ TrIn H e v ∧ RsIn H t r
  | .go w x f es t, vs => ∃ a p ws r, vs = .ref a :: r ∧ H a = some (.tup [.str (goW w), .str x, .str f, .ref p]) ∧ H p = some (.tup ws) ∧ TrsIn H es ws ∧ RsIn H t r
  | .wait x y oe t, vs => ∃ a v r, vs = .ref a :: r ∧ H a = some (.tup [.str "wait", .str x, .str y, v]) ∧ OptIn H oe v ∧ RsIn H t r
  | .iff e A B t, vs => ∃ a v p xs p' ys r, vs = .ref a :: r ∧ H a = some (.tup [.str "if", v, .ref p, .ref p']) ∧ TrIn H e v ∧ H p = some (.tup xs) ∧ RsIn H A xs ∧ H p' = some (.tup ys) ∧ RsIn H B ys ∧ RsIn H t r
  | .give w e t, vs => ∃ a v r, vs = .ref a :: r ∧ H a = some (.tup [.str (giveW w), v]) ∧ TrIn H e v ∧ RsIn H t r
def Rs.count : Rs → Nat
  | .nil => 0
  | .put _ _ t => 1 + t.count
  | .go _ _ _ _ t => 1 + t.count
  | .wait _ _ _ t => 1 + t.count
  | .iff _ a b t => 1 + a.count + b.count + t.count
  | .give _ _ t => 1 + t.count
def Rs.rc : Rs → Nat
  | .nil => 0
  | .iff _ a b _ => 1 + a.count + b.count
  | _ => 1
def Rs.tl : Rs → Rs
  | .nil => .nil
  | .put _ _ t => t
  | .go _ _ _ _ t => t
  | .wait _ _ _ t => t
  | .iff _ _ _ t => t
  | .give _ _ t => t
theorem Rs.count_eq (r : Rs) : r.count = r.rc + r.tl.count := by cases r <;> rfl
/-- the goes and calls, from the first on -/
def Rs.starts : Rs → List (Str × Nat)
  | .nil => []
  | .put _ _ t => t.starts
  | .go _ _ f es t => (f, es.length) :: t.starts
  | .wait _ _ _ t => t.starts
  | .iff _ a b t => a.starts ++ b.starts ++ t.starts
  | .give _ _ t => t.starts
def Rs.ok : Nat → Rs → Prop
  | _, .nil => True
  | n, .put x e t => NmOk x ∧ Ex.fine 6 e ∧ Rs.ok n t
  | n, .go _ x f es t => NmOk x ∧ NmOk f ∧ es.length ≤ 4 ∧ (∀ e ∈ es, Ex.fine 6 e) ∧ Rs.ok n t
  | n, .wait x y oe t => NmOk x ∧ NmOk y ∧ (∀ e, oe = some e → Ex.fine 6 e) ∧ Rs.ok n t
  | n, .iff e a b t => 1 ≤ n ∧ Ex.fine 6 e ∧ Rs.ok (n - 1) a ∧ Rs.ok (n - 1) b ∧ Rs.ok n t
  | n, .give _ e t => Ex.fine 6 e ∧ Rs.ok n t
theorem Rs.ok_tl {n : Nat} : ∀ {r : Rs}, Rs.ok n r → Rs.ok n r.tl
  | .nil, _ => trivial
  | .put _ _ _, h => h.2.2
  | .go _ _ _ _ _, h => h.2.2.2.2
  | .wait _ _ _ _, h => h.2.2.2
  | .iff _ _ _ _, h => h.2.2.2.2
  | .give _ _ _, h => h.2
theorem RsIn.tl {H : Hp} : ∀ {r : Rs} {v : V} {vs : List V}, RsIn H r (v :: vs) → RsIn H r.tl vs
  | .nil, _, _, h => by cases h
  | .put _ _ _, _, _, ⟨a, v, r, e, _, _, h⟩ => by cases e; exact h
  | .go _ _ _ _ _, _, _, ⟨a, p, ws, r, e, _, _, _, h⟩ => by cases e; exact h
  | .wait _ _ _ _, _, _, ⟨a, v, r, e, _, _, h⟩ => by cases e; exact h
  | .iff _ _ _ _, _, _, ⟨a, v, p, xs, p', ys, r, e, _, _, _, _, _, _, h⟩ => by cases e; exact h
  | .give _ _ _, _, _, ⟨a, v, r, e, _, _, h⟩ => by cases e; exact h
theorem Rs.rc_pos {H : Hp} : ∀ {r : Rs} {v : V} {vs : List V}, RsIn H r (v :: vs) → 1 ≤ r.rc
  | .nil, _, _, h => by cases h
  | .put _ _ _, _, _, _ => Nat.le_refl _
  | .go _ _ _ _ _, _, _, _ => Nat.le_refl _
  | .wait _ _ _ _, _, _, _ => Nat.le_refl _
  | .iff _ a b _, _, _, _ => by show 1 ≤ 1 + a.count + b.count; omega
  | .give _ _ _, _, _, _ => Nat.le_refl _
/-! ### a name of the module that holds a number -/
def Gi (mg : Str → Option Value) (x : Str) (i : Int) : Prop := ∃ t, mg x = some (.int i t)
theorem pe_gi {X : Cx} {x : Str} {i : Int} {pos : Pos} (h : Gi X.mg x i) (hg : Gl X x := by rfl) (hd : (x == ("__debug__" : Str)) = false := by decide) : PE X (.Name x pos) (tC (.int i)) := by
  obtain ⟨t, h⟩ := h
  exact pe_glob hg h ⟨t, rfl⟩ hd
def signsL : List Str := ["+", "-", "*", "<", "=="]
structure Gf (K : PySem.W.Frag) (mg : Str → Option Value) : Prop where
  words : ∃ a, mg "WORDS" = some (.ref a) ∧ ∀ H, SqT K H a (kept.map V.str)
  signs : ∃ a, mg "SIGNS" = some (.ref a) ∧ ∀ H, SqT K H a (signsL.map V.str)
  letters : ∃ t, mg "LETTERS" = some (.str letters t)
  lets : Gi mg "MOST_LETTERS" 8
  num : Gi mg "MOST_NUMBER" (1000000 ^ 5 - 1)
abbrev sTupOf : Stmt := topS 11
abbrev sWhole : Stmt := topS 12
abbrev sWithin : Stmt := topS 13
abbrev sIsName : Stmt := topS 14
abbrev sLeaf : Stmt := topS 16
abbrev sIsEx : Stmt := topS 15
theorem scTupOf : FnScope ["thing", "many"] ["thing", "many"] (defScope sTupOf) := ⟨rfl, rfl, rfl, by decide +kernel, rfl, by decide +kernel, by decide +kernel⟩
theorem scWhole : FnScope ["thing"] ["thing"] (defScope sWhole) := ⟨rfl, rfl, rfl, by decide +kernel, rfl, by decide +kernel, by decide +kernel⟩
theorem scWithin : FnScope ["thing", "most"] ["thing", "most"] (defScope sWithin) := ⟨rfl, rfl, rfl, by decide +kernel, rfl, by decide +kernel, by decide +kernel⟩
theorem scIsName : FnScope ["thing", "letter"] ["thing"] (defScope sIsName) := ⟨rfl, rfl, rfl, by decide +kernel, rfl, by decide +kernel, by decide +kernel⟩
theorem scLeaf : FnScope ["pair"] ["pair"] (defScope sLeaf) := ⟨rfl, rfl, rfl, by decide +kernel, rfl, by decide +kernel, by decide +kernel⟩
theorem scIsEx : FnScope ["thing", "deepest"] ["thing", "deepest"] (defScope sIsEx) := ⟨rfl, rfl, rfl, by decide +kernel, rfl, by decide +kernel, by decide +kernel⟩
def spTupOf : Sp := fun vs H Q _ => ∃ (a : Addr) (xs : List V) (n : Int), vs = [.ref a, .int n] ∧ H a = some (.tup xs) ∧ Q (.bl (decide (V.int (xs.length : Nat) = V.int n))) H
def spWhole : Sp := fun vs H Q _ => ∃ i : Int, vs = [.int i] ∧ Q (.bl true) H
def spWithin : Sp := fun vs H Q _ => ∃ i m : Int, vs = [.int i, .int m] ∧ 0 ≤ i ∧ i ≤ m ∧ Q (.bl true) H
def spIsName : Sp := fun vs H Q _ => ∃ s : Str, vs = [.str s] ∧ NmOk s ∧ ∀ H', Same H H' → Q (.bl true) H'
def Ex.isLeaf : Ex → Bool
  | .op _ _ _ => false
  | _ => true
def spLeaf : Sp := fun vs H Q _ => ∃ (v : V) (e : Ex), vs = [v] ∧ TrIn H e v ∧ e.isLeaf = true ∧ Ex.fine 1 e ∧ ∀ H', Same H H' → Q (.bl true) H'
def spIsEx (n : Nat) : Sp := fun vs H Q _ => ∃ (v : V) (e : Ex), vs = [v, .int n] ∧ TrIn H e v ∧ Ex.fine n e ∧ ∀ H', Same H H' → Q (.bl true) H'
section
variable {P : Program} {w : World} {K : PySem.W.Frag} {mg : Str → Option Value} {base : Heap}
/-- a def with defaults, no error leaves it -/
theorem ok0 {x qual : Str} {st : Stmt} {dvs : List V} {kws : List (Str × V)} {f : Addr} {fd : FuncData} {N ps : List Str} {k : Nat} {sp : Sp} (F : FunD K x qual (defArgs st) (defBody st) (defScope st) dvs kws f fd) (S : FnScope N ps (defScope st)) (len : ∀ vs H Q E, sp vs H Q E → vs.length = ps.length)
    (hb : ∀ (cdv : Value) (A : Around) (outer : List Env) (s : Shared) (H : Hp) (vs : List V) (Q : VK) (E : XK), Room k (A.deeper (PyProof.Rows.envOfC qual (defScope st) s.heap.objs.size f cdv)) → sp vs H Q E →
      ∃ t, PSs (cxOf CX0 P w K mg base N qual (defScope st) f cdv A outer s H E).nox (defBody st) t ∧ t { nx := fun _ H' => Q .non H', rt := Q } (L2.start N vs) H) : FnOk P w K mg base CX0 (k + 1) f fd ps sp :=
  F.ok S len fun cdv A outer s H vs Q E hr h => by
    obtain ⟨t, h1, h2⟩ := hb cdv A outer s H vs Q E hr h
    exact ⟨t, h1.nox, h2⟩
theorem ok_tupOf {f : Addr} {fd : FuncData} (F : Fun K "is_tuple_of" "is_tuple_of" sTupOf f fd) (T : Bi mg) (mt : mg "tuple" = none) : FnOk P w K mg base CX0 1 f fd ["thing", "many"] spTupOf := by
  refine F.ok scTupOf (fun vs H Q E h => ?_) (fun cdv A outer s H vs Q E hr h => ?_)
  · obtain ⟨a, xs, n, rfl, _⟩ := h
    rfl
  obtain ⟨a, xs, n, rfl, ha, q⟩ := h
  refine ⟨_, (pss_one (ps_ret (pe_and (pe_callB call_isi (by rfl) T.isinstance (by decide +kernel) (pa_cons (pv 0) (pa_cons (pe_bltn (v := .ty "tuple") (by rfl) mt (by decide +kernel) rfl) pa_nil))) (pe_one (pe_cmpR op_eq (pe_callB call_len_seq (by rfl) T.len (by decide +kernel) (pa_cons (pv 0) pa_nil)) (pv 1) (nomark _)))))), ?_⟩
  refine ⟨_, rfl, _, _, _, _, true, rfl, .ty "tuple", .base (.tup ha), kit_ty (by decide +kernel), _, rfl, ?_⟩
  exact ⟨_, rfl, a, _, rfl, .inr (SqT.of ha), _, rfl, rfl, q⟩
theorem ok_whole {f : Addr} {fd : FuncData} (F : Fun K "is_whole" "is_whole" sWhole f fd) (T : Bi mg) (mt : mg "bool" = none) : FnOk P w K mg base CX0 1 f fd ["thing"] spWhole := by
  refine F.ok scWhole (fun vs H Q E h => ?_) (fun cdv A outer s H vs Q E hr h => ?_)
  · obtain ⟨i, rfl, _⟩ := h
    rfl
  obtain ⟨i, rfl, q⟩ := h
  refine ⟨_, (pss_one (ps_ret (pe_and (pe_callB call_isi (by rfl) T.isinstance (by decide +kernel) (pa_cons (pv 0) (pa_cons (pe_bltn (v := .ty "int") (by rfl) T.int (by decide +kernel) rfl) pa_nil))) (pe_one (pe_not (pe_callB call_isi (by rfl) T.isinstance (by decide +kernel) (pa_cons (pv 0) (pa_cons (pe_bltn (v := .ty "bool") (by rfl) mt (by decide +kernel) rfl) pa_nil)))))))), ?_⟩
  refine ⟨_, rfl, _, _, _, _, true, rfl, .ty "int", .base (.int i), kit_ty (by decide +kernel), _, rfl, ?_⟩
  exact ⟨_, rfl, _, _, _, _, false, rfl, .ty "bool", .base (.int i), kit_ty (by decide +kernel), _, rfl, q⟩
theorem ok_within {f g : Addr} {fd gd : FuncData} (F : Fun K "is_whole_within" "is_whole_within" sWithin f fd) (WH : Fk P w K mg base 1 "is_whole" g gd ["thing"] spWhole) : FnOk P w K mg base CX0 2 f fd ["thing", "most"] spWithin := by
  refine F.ok scWithin (fun vs H Q E h => ?_) (fun cdv A outer s H vs Q E hr h => ?_)
  · obtain ⟨i, m, rfl, _⟩ := h
    rfl
  obtain ⟨i, m, rfl, h0, h1, q⟩ := h
  refine ⟨_, (pss_one (ps_ret (pe_and (pe_call WH.G (hr.mono (by omega)) (by rfl) WH.m WH.k WH.b .nil pass0 (pa_cons (pv 0) pa_nil)) (pe_one (pe_chain op_le op_le pe_int (pv 0) (pv 1)))))), ?_⟩
  refine ⟨_, rfl, i, rfl, _, rfl, ?_⟩
  refine ⟨_, rfl, _, _, rfl, rfl, _, rfl, ?_⟩
  rw [decide_eq_true h0]
  refine ⟨_, rfl, _, _, rfl, rfl, ?_⟩
  show Q (.bl (decide (i ≤ m))) H
  rw [decide_eq_true h1]
  exact q
theorem ok_isName {f : Addr} {fd : FuncData} (F : Fun K "is_name" "is_name" sIsName f fd) (T : Bi mg) (G : Gf K mg) : FnOk P w K mg base CX0 1 f fd ["thing"] spIsName := by
  refine F.ok scIsName (fun vs H Q E h => ?_) (fun cdv A outer s H vs Q E hr h => ?_)
  · obtain ⟨i, rfl, _⟩ := h
    rfl
  obtain ⟨z, rfl, ⟨⟨n1, n2, n3⟩, nk⟩, q⟩ := h
  obtain ⟨aW, gW, sW⟩ := G.words
  obtain ⟨tL, gLt⟩ := G.letters
  refine ⟨_, (pss_cons (ps_if (PW.pt (pw_or (pt_not (pt_val (pe_callB call_isi (by rfl) T.isinstance (by decide +kernel) (pa_cons (pv 0) (pa_cons (pe_bltn (v := .ty "str") (by rfl) T.str (by decide +kernel) rfl) pa_nil))))) (pw_or1 (pt_not (pt_chain op_le op_le pe_int (pe_callB call_len (by rfl) T.len (by decide +kernel) (pa_cons (pv 0) pa_nil)) (pe_gi G.lets))))))
      (pss_one (ps_ret pe_bl))
      pss_nil)
    (pss_one (ps_ret (pe_and (pe_cmpR op_notIn_seq (pv 0) (pe_glob (v := .ref aW) rfl gW rfl) rfl) (pe_one (pe_callB (cr_all rfl) (by rfl) T.all (by decide +kernel) (pa_cons (pe_lc (own := [("letter", 1)]) (g := gName 1) (tt := tYes) (by rfl) scIsName.nd (pi_str (pv 0)) (blkOk_by (own := [("letter", 1)]) (N := ["thing", "letter"]) (sc := defScope sIsName) (by decide +kernel)) (fun _ _ _ _ _ => pg_name (i := 1) scIsName.nd rfl (Or.inl rfl)) (fun _ _ _ _ _ => pts_nil) (fun _ _ _ _ _ => (pe_cmpR op_in_sign (pv 1) (pe_glob (v := .str letters) rfl gLt ⟨_, rfl⟩) rfl))) pa_nil))))))), ?_⟩
  rw [codes_len] at n1 n2
  have hs : sizeLine = 16777216 := by decide
  refine ⟨_, rfl, _, _, _, _, true, rfl, .ty "str", .base (.str z), kit_ty (by decide +kernel), _, rfl, ?_⟩
  refine ⟨_, rfl, _, z.length, rfl, ⟨by omega, rfl⟩, _, _, rfl, rfl, _, rfl, ?_⟩
  rw [decide_eq_true (by omega : (1 : Int) ≤ (z.length : Nat))]
  refine ⟨_, _, rfl, rfl, _, rfl, ?_⟩
  rw [decide_eq_true (by omega : ((z.length : Nat) : Int) ≤ 8)]
  refine ⟨_, rfl, aW, _, rfl, .inr (sW _), rfl, flat_strs kept, _, rfl, ?_⟩
  rw [if_pos rfl, inV_str, decide_eq_false nk]
  refine ⟨_, rfl, z, rfl, ?_⟩
  intro D hD
  refine lc_it walk_str (fun j H' => H' D = some (.lst ((List.replicate j true).map V.bl)) ∧ Same H H') ⟨upd_same, same_new hD _⟩ (fun _ _ _ _ => trivial) ?_ ?_
  · rintro j x H1 H2 hj ⟨hD1, s1⟩ ⟨rfl, c, hc, rfl⟩
    refine ⟨rfl, ?_⟩
    refine ⟨_, rfl, c, letters, rfl, rfl, ?_⟩
    have hc' : c ∈ letters.cps.toList := by
      have hm : c ∈ codes z := by
        unfold codes
        exact List.mem_of_getElem? (by rw [Array.getElem?_toList]; exact hc)
      have hr' := n3 c hm
      have all : ∀ c : Fin 123, 97 ≤ c.val → c.val ∈ letters.cps.toList := by decide +kernel
      exact all ⟨c, by omega⟩ hr'.1
    refine ⟨_, hD1, ?_, ?_, ?_⟩
    · rw [List.length_map, List.length_replicate]
      have : j < z.length := hj
      omega
    · rw [upd_same, decide_eq_true hc', List.replicate_succ', List.map_append]
      rfl
    · intro x o zz
      rw [upd_ne (ne_of_none zz hD)]
      exact s1 _ _ zz
  · rintro H1 ⟨hD1, s1⟩
    refine ⟨D, _, rfl, SqL.of hD1, ?_⟩
    have : (List.replicate z.cps.size true).all id = true := by
      rw [List.all_eq_true]
      intro x hx
      exact (List.mem_replicate.mp hx).2
    rw [this]
    exact q H1 s1
theorem ok_leaf {f g h : Addr} {fd gd hd : FuncData} (F : Fun K "is_leaf" "is_leaf" sLeaf f fd) (WI : Fk P w K mg base 2 "is_whole_within" g gd ["thing", "most"] spWithin) (IN : Fk P w K mg base 1 "is_name" h hd ["thing"] spIsName) (G : Gf K mg) : FnOk P w K mg base CX0 3 f fd ["pair"] spLeaf := by
  refine F.ok scLeaf (fun vs H Q E h => ?_) (fun cdv A outer s H vs Q E hr h => ?_)
  · obtain ⟨v, e, rfl, _⟩ := h
    rfl
  obtain ⟨v, e, rfl, hT, hlf, hf, q⟩ := h
  refine ⟨_, (pss_cons (ps_if (pt_cmpR op_eq (pe_ix ix_tup (pv 0) pe_int (fun _ _ => rfl)) pe_str (nomark _))
      (pss_one (ps_ret (pe_call WI.G (hr.mono (by omega)) (by rfl) WI.m WI.k WI.b .nil pass0 (pa_cons (pe_ix ix_tup (pv 0) pe_int (fun _ _ => rfl)) (pa_cons (pe_gi G.num) pa_nil)))))
      pss_nil)
    (pss_one (ps_ret (pe_and (pe_cmpR op_eq (pe_ix ix_tup (pv 0) pe_int (fun _ _ => rfl)) pe_str (nomark _)) (pe_one (pe_call IN.G (hr.mono (by omega)) (by rfl) IN.m IN.k IN.b .nil pass0 (pa_cons (pe_ix ix_tup (pv 0) pe_int (fun _ _ => rfl)) pa_nil))))))), ?_⟩
  cases e with
  | num i =>
    obtain ⟨a, rfl, ha⟩ := hT
    refine ⟨_, rfl, a, _, 0, _, rfl, rfl, SqT.of ha, atI_nat rfl, rfl, _, rfl, ?_⟩
    rw [decide_eq_true rfl]
    refine iteT ⟨_, rfl, a, _, 1, _, rfl, rfl, SqT.of ha, atI_nat (j := 1) rfl, i, _, rfl, hf.1, ?_, q H (Same.refl H)⟩
    have := hf.2
    omega
  | nam z =>
    obtain ⟨a, rfl, ha⟩ := hT
    refine ⟨_, rfl, a, _, 0, _, rfl, rfl, SqT.of ha, atI_nat rfl, rfl, _, rfl, ?_⟩
    rw [decide_eq_false (by intro z; have := V.str.inj z; revert this; decide +kernel)]
    refine iteF ?_
    refine ⟨_, rfl, a, _, 0, _, rfl, rfl, SqT.of ha, atI_nat rfl, rfl, _, rfl, ?_⟩
    rw [decide_eq_true rfl]
    refine iteT ⟨_, rfl, a, _, 1, _, rfl, rfl, SqT.of ha, atI_nat (j := 1) rfl, z, rfl, hf, q⟩
  | op g l r => cases hlf
theorem ok_isEx {n : Nat} {f t l : Addr} {fd td ld : FuncData} (F : FunD K "is_expression" "is_expression" (defArgs sIsEx) (defBody sIsEx) (defScope sIsEx) [.int 6] [] f fd) (TO : Fk P w K mg base 1 "is_tuple_of" t td ["thing", "many"] spTupOf) (LF : Fk P w K mg base 3 "is_leaf" l ld ["pair"] spLeaf)
    (IE : Fk P w K mg base (n + 3) "is_expression" f fd ["thing", "deepest"] (spIsEx n)) (G : Gf K mg) : FnOk P w K mg base CX0 (n + 4) f fd ["thing", "deepest"] (spIsEx (n + 1)) := by
  refine ok0 F scIsEx (fun vs H Q E h => ?_) (fun cdv A outer s H vs Q E hr h => ?_)
  · obtain ⟨v, e, rfl, _⟩ := h
    rfl
  obtain ⟨v, e, rfl, hT, hf, q⟩ := h
  obtain ⟨aS, gS, sS⟩ := G.signs
  refine ⟨_, (pss_cons (ps_if (pt_val (pe_call TO.G (hr.mono (by omega)) (by rfl) TO.m TO.k TO.b .nil pass0 (pa_cons (pv 0) (pa_cons pe_int pa_nil))))
      (pss_one (ps_ret (pe_call LF.G (hr.mono (by omega)) (by rfl) LF.m LF.k LF.b .nil pass0 (pa_cons (pv 0) pa_nil))))
      pss_nil)
    (pss_cons (ps_if (PW.pt (pw_or (pt_not (pt_val (pe_call TO.G (hr.mono (by omega)) (by rfl) TO.m TO.k TO.b .nil pass0 (pa_cons (pv 0) (pa_cons pe_int pa_nil))))) (pw_or1 (pt_cmpR op_notIn_seq (pe_ix ix_tup (pv 0) pe_int (fun _ _ => rfl)) (pe_glob (v := .ref aS) rfl gS rfl) rfl))))
      (pss_one (ps_ret pe_bl))
      pss_nil)
    (pss_one (ps_ret (pe_and (pe_cmpR op_gt (pv 1) pe_int (nomark _)) (pe_and (pe_call IE.G hr (by rfl) IE.m IE.k IE.b .nil pass0 (pa_cons (pe_ix ix_tup (pv 0) pe_int (fun _ _ => rfl)) (pa_cons (pe_op op_sub (pv 1) pe_int) pa_nil))) (pe_one (pe_call IE.G hr (by rfl) IE.m IE.k IE.b .nil pass0 (pa_cons (pe_ix ix_tup (pv 0) pe_int (fun _ _ => rfl)) (pa_cons (pe_op op_sub (pv 1) pe_int) pa_nil)))))))))), ?_⟩
  cases e with
  | num i =>
    have hT' := hT
    obtain ⟨a, rfl, ha⟩ := hT
    refine ⟨_, rfl, a, _, 2, rfl, ha, _, rfl, ?_⟩
    refine ⟨_, rfl, _, .num i, rfl, hT', rfl, hf, q⟩
  | nam z =>
    have hT' := hT
    obtain ⟨a, rfl, ha⟩ := hT
    refine ⟨_, rfl, a, _, 2, rfl, ha, _, rfl, ?_⟩
    refine ⟨_, rfl, _, .nam z, rfl, hT', rfl, hf, q⟩
  | op g x y =>
    obtain ⟨a, vx, vy, rfl, ha, tx, ty⟩ := hT
    refine ⟨_, rfl, a, _, 2, rfl, ha, _, rfl, ?_⟩
    refine ⟨_, rfl, a, _, 3, rfl, ha, _, rfl, ?_⟩
    refine ⟨_, rfl, a, _, 0, _, rfl, rfl, SqT.of ha, atI_nat rfl, aS, _, rfl, .inr (sS _), rfl, flat_strs signsL, _, rfl, ?_⟩
    have e1 : inV (.str g.txt) (signsL.map V.str) = true := by
      rw [inV_str]
      cases g <;> decide +kernel
    rw [if_pos rfl, e1]
    have hn : 1 ≤ n := by
      cases n with
      | zero => exact hf.1.elim
      | succ m => exact Nat.succ_le_succ (Nat.zero_le _)
    have en : ((n + 1 : Nat) : Int) - 1 = (n : Int) := by omega
    refine ⟨_, rfl, _, _, rfl, rfl, _, rfl, ?_⟩
    rw [decide_eq_true (by omega : (1 : Int) < ((n + 1 : Nat) : Int))]
    refine ⟨_, rfl, a, _, 1, _, rfl, rfl, SqT.of ha, atI_nat (j := 1) rfl, _, rfl, _, _, rfl, rfl, vx, x, (by show [vx, V.int (((n + 1 : Nat) : Int) - 1)] = _; rw [en]), tx, hf.1, fun H1 s1 => ?_⟩
    refine ⟨_, rfl, ?_⟩
    refine ⟨_, rfl, a, _, 2, _, rfl, rfl, SqT.of (s1 _ _ ha), atI_nat (j := 2) rfl, _, rfl, _, _, rfl, rfl, vy, y, (by show [vy, V.int (((n + 1 : Nat) : Int) - 1)] = _; rw [en]), ty.same s1, hf.2, fun H2 s2 => q H2 (s1.trans s2)⟩
theorem isEx_none {f : Addr} {fd : FuncData} : FnOk P w K mg base CX0 3 f fd ["thing", "deepest"] (spIsEx 0) := by
  have no : ∀ vs H Q E, ¬ spIsEx 0 vs H Q E := fun vs H Q E h => by
    obtain ⟨_, _, _, _, h1, _⟩ := h
    exact h1
  exact ⟨fun vs H Q E h => absurd h (no vs H Q E), fun A outer s H args us vs Q E _ _ _ _ h => absurd h (no vs H Q E)⟩
theorem isExs {f t l : Addr} {fd td ld : FuncData} (F : FunD K "is_expression" "is_expression" (defArgs sIsEx) (defBody sIsEx) (defScope sIsEx) [.int 6] [] f fd) (m : mg "is_expression" = some (.ref f)) (bd : Binds K fd ["thing", "deepest"] []) (TO : Fk P w K mg base 1 "is_tuple_of" t td ["thing", "many"] spTupOf) (LF : Fk P w K mg base 3 "is_leaf" l ld ["pair"] spLeaf) (G : Gf K mg) :
    ∀ n : Nat, FnOk P w K mg base CX0 (n + 3) f fd ["thing", "deepest"] (spIsEx n)
  | 0 => isEx_none
  | n + 1 => ok_isEx F TO LF ⟨isExs F m bd TO LF G n, m, F.kp, bd⟩ G
end
end SH

set_option Elab.async false
set_option linter.all false
set_option maxRecDepth 100000
/-! Expressions read by a pile: mathematics. -/
namespace SH
open PySem L2
inductive Tn where
  | lp | rp
  | sg (g : Sg)
  | num (n : Int)
  | nam (s : Str)
def brT (b : Bool) (t : List Tn) : List Tn := if b = true then Tn.lp :: (t ++ [Tn.rp]) else t
def Ex.tks : Ex → List Tn
  | .num n => [.num n]
  | .nam s => [.nam s]
  | .op g l r => brT (lB g l) l.tks ++ Tn.sg g :: brT (rB g r) r.tks
def Ex.dep : Ex → Nat
  | .num _ => 1
  | .nam _ => 1
  | .op _ l r => 1 + max l.dep r.dep
def one? (b : Bool) : Nat := if b = true then 1 else 0
/-- how many pairs of brackets are wanted -/
def Ex.nb : Ex → Nat
  | .num _ => 0
  | .nam _ => 0
  | .op g l r => (l.nb + one? (lB g l)) + (r.nb + one? (rB g r))
def isLp : Tn → Bool
  | .lp => true
  | _ => false
def isRp : Tn → Bool
  | .rp => true
  | _ => false
def lps (ts : List Tn) : Nat := (ts.filter isLp).length
theorem lps_app (a b : List Tn) : lps (a ++ b) = lps a + lps b := by unfold lps; rw [List.filter_append, List.length_append]
theorem lps_br (b : Bool) (t : List Tn) : lps (brT b t) = lps t + one? b := by
  cases b with
  | false => rfl
  | true =>
    show lps ([Tn.lp] ++ (t ++ [Tn.rp])) = _
    rw [lps_app, lps_app]
    show 1 + (lps t + 0) = lps t + 1
    omega
theorem Ex.lps : ∀ e : Ex, lps e.tks = e.nb
  | .num _ => rfl
  | .nam _ => rfl
  | .op g l r => by
    show SH.lps (brT (lB g l) l.tks ++ ([Tn.sg g] ++ brT (rB g r) r.tks)) = _
    rw [lps_app, lps_app, lps_br, lps_br, Ex.lps l, Ex.lps r]
    show _ + (0 + _) = (l.nb + _) + (r.nb + _)
    omega
abbrev Ot := Ex × Nat
abbrev Pile := List (Option Sg)
def mk2 (g : Sg) (a o : Ot) : Ot := (.op g a.1 o.1, 1 + max a.2 o.2)
/-- all signs behind the last bracket folded -/
def closeM : Pile → List Ot → Option (List Ot × Pile)
  | none :: p, outs => some (outs, p)
  | some g :: p, o :: a :: r => if (mk2 g a o).2 < 7 then closeM p (mk2 g a o :: r) else none
  | _, _ => none
/-- what binds as much or more, folded -/
def signM (g : Sg) : Pile → List Ot → Option (List Ot × Pile)
  | none :: p, outs => some (outs, none :: p)
  | some h :: p, outs => if g.lv ≤ h.lv then (if g.lv = 1 ∧ h.lv = 1 then none else match outs with
      | o :: a :: r => if (mk2 h a o).2 < 7 then signM g p (mk2 h a o :: r) else none
      | _ => none) else some (outs, some h :: p)
  | [], _ => none
structure RS where
  outs : List Ot
  pile : Pile
  w : Bool
def cntN (p : Pile) : Nat := (p.filter Option.isNone).length
def stepM (S : RS) : Tn → Option RS
  | t => match S.pile, S.w, t with
    | [], _, _ => none
    | p, true, .lp => if cntN p < 9 then some ⟨S.outs, none :: p, true⟩ else none
    | p, true, .num n => some ⟨(.num n, 1) :: S.outs, p, false⟩
    | p, true, .nam n => some ⟨(.nam n, 1) :: S.outs, p, false⟩
    | p, false, .sg g => (signM g p S.outs).map fun x => ⟨x.1, some g :: x.2, true⟩
    | p, false, .rp => (closeM p S.outs).map fun x => ⟨x.1, x.2, false⟩
    | _, _, _ => none
def readM : RS → List Tn → Option RS
  | S, [] => some S
  | S, t :: r => match stepM S t with
    | some S' => readM S' r
    | none => none
def RS0 : RS := ⟨[], [none], true⟩
def resM (ts : List Tn) : Option Ex := match readM RS0 (ts ++ [.rp]) with
  | some ⟨o :: _, [], _⟩ => some o.1
  | _ => none
/-! what binds: levels -/
theorem Sg.lv_pos (g : Sg) : 1 ≤ g.lv ∧ g.lv ≤ 3 := by cases g <;> decide
theorem Ex.lv_pos (e : Ex) : 1 ≤ e.lv ∧ e.lv ≤ 4 := by
  cases e with
  | num _ => show (1 : Int) ≤ 4 ∧ (4 : Int) ≤ 4; decide
  | nam _ => show (1 : Int) ≤ 4 ∧ (4 : Int) ≤ 4; decide
  | op g l r => have := g.lv_pos; show 1 ≤ g.lv ∧ g.lv ≤ 4; omega
theorem Ex.dep_pos (e : Ex) : 1 ≤ e.dep := by
  cases e with
  | num _ => exact Nat.le_refl 1
  | nam _ => exact Nat.le_refl 1
  | op g l r => show 1 ≤ 1 + max l.dep r.dep; omega
def tb : Pile → Int
  | some g :: _ => g.lv
  | _ => 0
theorem lB_f {g : Sg} {l : Ex} (h : lB g l = false) : g.lv ≤ l.lv ∧ l.lv ≠ 1 := by
  unfold lB at h
  rw [Bool.or_eq_false_iff] at h
  have h1 := of_decide_eq_false h.1
  have h2 := of_decide_eq_false h.2
  exact ⟨by omega, h2⟩
theorem rB_f {g : Sg} {l : Ex} (h : rB g l = false) : g.lv < l.lv := by
  unfold rB at h
  have h1 := of_decide_eq_false h
  omega
theorem lB_t {g : Sg} {l : Ex} (h : lB g l = true) : l.lv < g.lv ∨ l.lv = 1 := by
  unfold lB at h
  rw [Bool.or_eq_true] at h
  exact h.elim (fun h => .inl (of_decide_eq_true h)) (fun h => .inr (of_decide_eq_true h))
theorem rB_t {g : Sg} {l : Ex} (h : rB g l = true) : l.lv ≤ g.lv := of_decide_eq_true h
/-! ### the shown parts are read -/
def okNx (lv : Int) (t : Tn) : Prop := t = .rp ∨ ∃ g, t = .sg g ∧ g.lv ≤ lv ∧ lv ≠ 1
theorem readM_cons {S S' : RS} {t : Tn} {r : List Tn} (h : stepM S t = some S') : readM S (t :: r) = readM S' r := by
  show (match stepM S t with | some S' => readM S' r | none => none) = _
  rw [h]
theorem readM_eq {S S' : RS} {t : Tn} {r : List Tn} (h : stepM S t = stepM S' t) : readM S (t :: r) = readM S' (t :: r) := by
  show (match stepM S t with | some S' => readM S' r | none => none) = (match stepM S' t with | some S' => readM S' r | none => none)
  rw [h]
theorem sign_low {g : Sg} {p : Pile} (hp : p ≠ []) (h : tb p < g.lv) (outs : List Ot) : signM g p outs = some (outs, p) := by
  cases p with
  | nil => exact absurd rfl hp
  | cons x p =>
    cases x with
    | none => rfl
    | some k =>
      have h' : k.lv < g.lv := h
      show (if g.lv ≤ k.lv then _ else _) = _
      rw [if_neg (by omega)]
theorem step_lp {outs : List Ot} {p : Pile} (hp : p ≠ []) (h : cntN p < 9) : stepM ⟨outs, p, true⟩ .lp = some ⟨outs, none :: p, true⟩ := by
  cases p with
  | nil => exact absurd rfl hp
  | cons x p => show (if cntN (x :: p) < 9 then _ else _) = _; rw [if_pos h]
theorem step_sg {outs : List Ot} {p : Pile} {g : Sg} (hp : p ≠ []) : stepM ⟨outs, p, false⟩ (.sg g) = (signM g p outs).map fun x => ⟨x.1, some g :: x.2, true⟩ := by
  cases p with
  | nil => exact absurd rfl hp
  | cons x p => rfl
theorem step_rp {outs : List Ot} {p : Pile} (hp : p ≠ []) : stepM ⟨outs, p, false⟩ .rp = (closeM p outs).map fun x => ⟨x.1, x.2, false⟩ := by
  cases p with
  | nil => exact absurd rfl hp
  | cons x p => rfl
theorem read_ex : ∀ (e : Ex) (outs : List Ot) (p : Pile) (t : Tn) (r : List Tn), p ≠ [] → tb p < e.lv → cntN p + e.dep ≤ 9 → e.dep ≤ 6 → okNx e.lv t →
    readM ⟨outs, p, true⟩ (e.tks ++ t :: r) = readM ⟨(e, e.dep) :: outs, p, false⟩ (t :: r)
  | .num n, outs, p, t, r, hp, _, _, _, _ => by
    refine readM_cons ?_
    cases p with
    | nil => exact absurd rfl hp
    | cons x p => rfl
  | .nam n, outs, p, t, r, hp, _, _, _, _ => by
    refine readM_cons ?_
    cases p with
    | nil => exact absurd rfl hp
    | cons x p => rfl
  | .op g a b, outs, p, t, r, hp, hb, hc, hd, hn => by
    have hd' : 1 + max a.dep b.dep ≤ 6 := hd
    have hc' : cntN p + (1 + max a.dep b.dep) ≤ 9 := hc
    have hb' : tb p < g.lv := hb
    have gl := g.lv_pos
    have wrap : ∀ (e : Ex) (outs : List Ot) (q : Pile) (t : Tn) (r : List Tn), q ≠ [] → cntN q + (1 + e.dep) ≤ 9 →
        (∀ (outs : List Ot) (p : Pile) (t : Tn) (r : List Tn), p ≠ [] → tb p < e.lv → cntN p + e.dep ≤ 9 → okNx e.lv t → readM ⟨outs, p, true⟩ (e.tks ++ t :: r) = readM ⟨(e, e.dep) :: outs, p, false⟩ (t :: r)) →
        readM ⟨outs, q, true⟩ (Tn.lp :: (e.tks ++ [Tn.rp]) ++ t :: r) = readM ⟨(e, e.dep) :: outs, q, false⟩ (t :: r) := by
      intro e outs q t r hq hcq ih
      rw [List.cons_append, List.append_assoc]
      rw [readM_cons (step_lp hq (by have := e.dep_pos; omega))]
      show readM _ (e.tks ++ Tn.rp :: (t :: r)) = _
      rw [ih outs (none :: q) .rp (t :: r) (by intro h; cases h) (by have := e.lv_pos; show (0 : Int) < _; omega) (by show cntN (none :: q) + _ ≤ 9; have : cntN (none :: q) = cntN q + 1 := rfl; omega) (.inl rfl)]
      exact readM_cons (by rw [step_rp (by intro h; cases h)]; rfl)
    show readM _ ((brT (lB g a) a.tks ++ Tn.sg g :: brT (rB g b) b.tks) ++ t :: r) = _
    rw [List.append_assoc, List.cons_append]
    have s1 : readM ⟨outs, p, true⟩ (brT (lB g a) a.tks ++ Tn.sg g :: (brT (rB g b) b.tks ++ t :: r)) = readM ⟨(a, a.dep) :: outs, p, false⟩ (Tn.sg g :: (brT (rB g b) b.tks ++ t :: r)) := by
      cases hl : lB g a with
      | true => exact wrap a outs p _ _ hp (by omega) fun outs p t r h1 h2 h3 h4 => read_ex a outs p t r h1 h2 h3 (by omega) h4
      | false =>
        obtain ⟨l1, l2⟩ := lB_f hl
        exact read_ex a outs p _ _ hp (by omega) (by omega) (by omega) (.inr ⟨g, rfl, l1, l2⟩)
    rw [s1, readM_cons (S' := ⟨(a, a.dep) :: outs, some g :: p, true⟩) (by rw [step_sg hp, sign_low hp hb']; rfl)]
    have s2 : readM ⟨(a, a.dep) :: outs, some g :: p, true⟩ (brT (rB g b) b.tks ++ t :: r) = readM ⟨(b, b.dep) :: (a, a.dep) :: outs, some g :: p, false⟩ (t :: r) := by
      have hcg : cntN (some g :: p) = cntN p := rfl
      cases hr : rB g b with
      | true => exact wrap b _ _ _ _ (by intro h; cases h) (by omega) fun outs p t r h1 h2 h3 h4 => read_ex b outs p t r h1 h2 h3 (by omega) h4
      | false =>
        have l1 := rB_f hr
        refine read_ex b _ _ _ _ (by intro h; cases h) l1 (by omega) (by omega) ?_
        rcases hn with h | ⟨k, h, k1, k2⟩
        · exact .inl h
        · have k1' : k.lv ≤ g.lv := k1
          exact .inr ⟨k, h, by omega, by omega⟩
    rw [s2]
    refine readM_eq ?_
    have hdd : (mk2 g (a, a.dep) (b, b.dep)).2 < 7 := by show 1 + max a.dep b.dep < 7; omega
    rcases hn with rfl | ⟨k, rfl, k1, k2⟩
    · rw [step_rp (by intro h; cases h), step_rp hp]
      show Option.map _ (if (mk2 g (a, a.dep) (b, b.dep)).2 < 7 then _ else _) = _
      rw [if_pos hdd]
      rfl
    · have k1' : k.lv ≤ g.lv := k1
      have k2' : g.lv ≠ 1 := k2
      rw [step_sg (by intro h; cases h), step_sg hp]
      show Option.map _ (if k.lv ≤ g.lv then (if k.lv = 1 ∧ g.lv = 1 then none else (if (mk2 g (a, a.dep) (b, b.dep)).2 < 7 then _ else _)) else _) = _
      rw [if_pos k1', if_neg (by omega), if_pos hdd]
      rfl
theorem res_ex {e : Ex} (h : e.dep ≤ 6) : resM e.tks = some e := by
  have q := read_ex e [] [none] .rp [] (by intro h; cases h) (by have := e.lv_pos; show (0 : Int) < _; omega) (by show 1 + e.dep ≤ 9; omega) h (.inl rfl)
  unfold resM RS0
  rw [q]
  rfl
/-! ### no reading saves a bracket -/
def Stg (s : Int) (o : Ex) (k : Nat) : Prop := o.nb + (if o.lv < s then 1 else 0) ≤ k
def sL (g : Sg) : Int := if g.lv < 2 then 2 else g.lv
inductive Wi : List Ot → Pile → Nat → Prop
  | nil : Wi [] [] 0
  | lp {outs p c} : Wi outs p c → Wi outs (none :: p) (c + 1)
  | sg {outs p c k} {o : Ot} {g : Sg} : Wi outs p c → p ≠ [] → tb p < g.lv → Stg (sL g) o.1 k → Wi (o :: outs) (some g :: p) (c + k)
def Ni (outs : List Ot) (p : Pile) (c : Nat) : Prop := ∃ o os k d, outs = o :: os ∧ Wi os p d ∧ Stg 4 o.1 k ∧ c = d + k
def SI (S : RS) (c : Nat) : Prop := if S.w = true then Wi S.outs S.pile c ∧ S.pile ≠ [] else Ni S.outs S.pile c
theorem Stg.low {s t : Int} {o : Ex} {k : Nat} (h : Stg s o k) (hs : t ≤ s) : Stg t o k := by
  unfold Stg at *
  by_cases h1 : o.lv < t
  · rw [if_pos h1]; rw [if_pos (by omega)] at h; exact h
  · rw [if_neg h1]
    split at h <;> omega
theorem Stg.four {s : Int} {o : Ex} {k : Nat} (h : Stg 4 o k) (hs : s ≤ 4) : Stg s o k := h.low hs
theorem fold_nb {g : Sg} {a o : Ex} {ka k : Nat} (ha : Stg (sL g) a ka) (ho : Stg (g.lv + 1) o k) : (Ex.op g a o).nb ≤ ka + k := by
  show (a.nb + one? (lB g a)) + (o.nb + one? (rB g o)) ≤ _
  have h1 : a.nb + one? (lB g a) ≤ ka := by
    unfold Stg at ha
    cases hl : lB g a with
    | false => show a.nb + 0 ≤ ka; split at ha <;> omega
    | true =>
      have q := lB_t hl
      have := g.lv_pos
      rw [if_pos (by unfold sL; split <;> omega)] at ha
      exact ha
  have h2 : o.nb + one? (rB g o) ≤ k := by
    unfold Stg at ho
    cases hl : rB g o with
    | false => show o.nb + 0 ≤ k; split at ho <;> omega
    | true =>
      have q := rB_t hl
      rw [if_pos (by omega)] at ho
      exact ho
  omega
theorem tb_le (p : Pile) : 0 ≤ tb p ∧ tb p ≤ 3 := by
  cases p with
  | nil => show (0 : Int) ≤ 0 ∧ (0 : Int) ≤ 3; decide
  | cons x p =>
    cases x with
    | none => show (0 : Int) ≤ 0 ∧ (0 : Int) ≤ 3; decide
    | some g => have := g.lv_pos; show 0 ≤ g.lv ∧ g.lv ≤ 3; omega
theorem close_ok : ∀ (p : Pile) (o : Ot) (os : List Ot) (k d : Nat), Wi os p d → Stg (tb p + 1) o.1 k → ∀ x, closeM p (o :: os) = some x → Ni x.1 x.2 (d + k)
  | [], o, os, k, d, _, _, x, h => by cases h
  | none :: p, o, os, k, d, hW, hS, x, h => by
    cases h
    cases hW with
    | lp hW =>
      refine ⟨o, os, k + 1, _, rfl, hW, ?_, by omega⟩
      unfold Stg at hS ⊢
      split at hS <;> split <;> omega
  | some g :: p, o, os, k, d, hW, hS, x, h => by
    cases hW with
    | @sg outs _ c ka a _ hW hp hb ha =>
      have h' : (if (mk2 g a o).2 < 7 then closeM p (mk2 g a o :: outs) else none) = some x := h
      split at h'
      · have q := fold_nb ha hS
        have := close_ok p (mk2 g a o) outs (ka + k) c hW (by
          unfold Stg
          show (Ex.op g a.1 o.1).nb + (if g.lv < _ then 1 else 0) ≤ _
          rw [if_neg (by omega)]
          exact q) x h'
        rw [show c + ka + k = c + (ka + k) by omega]
        exact this
      · cases h'
theorem sign_ok (g : Sg) : ∀ (p : Pile) (o : Ot) (os : List Ot) (k d : Nat), Wi os p d → Stg (tb p + 1) o.1 k → Stg (sL g) o.1 k → ∀ x, signM g p (o :: os) = some x → Wi x.1 (some g :: x.2) (d + k)
  | [], o, os, k, d, _, _, _, x, h => by cases h
  | none :: p, o, os, k, d, hW, hS, hL, x, h => by
    cases h
    exact .sg hW (by intro h; cases h) (by have := g.lv_pos; show (0 : Int) < _; omega) hL
  | some e :: p, o, os, k, d, hW, hS, hL, x, h => by
    by_cases h1 : g.lv ≤ e.lv
    · cases hW with
      | @sg outs _ c ka a _ hW hp hb ha =>
        have h' : (if g.lv ≤ e.lv then (if g.lv = 1 ∧ e.lv = 1 then none else (if (mk2 e a o).2 < 7 then signM g p (mk2 e a o :: outs) else none)) else some (o :: a :: outs, some e :: p)) = some x := h
        rw [if_pos h1] at h'
        split at h'
        · cases h'
        · rename_i h2
          split at h'
          · have q := fold_nb ha hS
            have e1 := e.lv_pos
            have g1 := g.lv_pos
            have := sign_ok g p (mk2 e a o) outs (ka + k) c hW (by
              unfold Stg
              show (Ex.op e a.1 o.1).nb + (if e.lv < _ then 1 else 0) ≤ _
              rw [if_neg (by omega)]
              exact q) (by
              unfold Stg
              show (Ex.op e a.1 o.1).nb + (if e.lv < _ then 1 else 0) ≤ _
              rw [if_neg (by unfold sL; split <;> omega)]
              exact q) x h'
            rw [show c + ka + k = c + (ka + k) by omega]
            exact this
          · cases h'
    · have h' : (if g.lv ≤ e.lv then _ else some (o :: os, some e :: p)) = some x := h
      rw [if_neg h1] at h'
      cases h'
      exact .sg hW (by intro h; cases h) (by show e.lv < _; omega) hL
theorem sL_le (g : Sg) : sL g ≤ 4 := by have := g.lv_pos; unfold sL; split <;> omega
theorem step_ok {S S' : RS} {c : Nat} {t : Tn} (h : SI S c) (e : stepM S t = some S') : SI S' (c + one? (isLp t)) := by
  obtain ⟨outs, p, w⟩ := S
  cases p with
  | nil => cases e
  | cons x p =>
    cases w with
    | true =>
      obtain ⟨hW, hp⟩ : Wi outs (x :: p) c ∧ x :: p ≠ [] := h
      cases t with
      | lp =>
        have e' : (if cntN (x :: p) < 9 then some (RS.mk outs (none :: x :: p) true) else none) = some S' := e
        split at e'
        · cases e'
          exact ⟨.lp hW, by intro h; cases h⟩
        · cases e'
      | rp => cases e
      | sg g => cases e
      | num n =>
        cases e
        exact ⟨_, _, 0, c, rfl, hW, by unfold Stg; exact Nat.le_refl 0, rfl⟩
      | nam n =>
        cases e
        exact ⟨_, _, 0, c, rfl, hW, by unfold Stg; exact Nat.le_refl 0, rfl⟩
    | false =>
      obtain ⟨o, os, k, d, eo, hW, hS, ec⟩ : Ni outs (x :: p) c := h
      have eo' : outs = o :: os := eo
      subst eo'
      have hb := tb_le (x :: p)
      cases t with
      | lp => cases x <;> cases e
      | num n => cases x <;> cases e
      | nam n => cases x <;> cases e
      | sg g =>
        rw [step_sg (by intro h; cases h)] at e
        cases hs : signM g (x :: p) (o :: os) with
        | none => rw [hs] at e; cases e
        | some y =>
          rw [hs] at e
          cases e
          have := sign_ok g _ o os k d hW (hS.four (by omega)) (hS.four (sL_le g)) y hs
          rw [ec]
          exact ⟨this, by intro h; cases h⟩
      | rp =>
        rw [step_rp (by intro h; cases h)] at e
        cases hs : closeM (x :: p) (o :: os) with
        | none => rw [hs] at e; cases e
        | some y =>
          rw [hs] at e
          cases e
          have := close_ok _ o os k d hW (hS.four (by omega)) y hs
          rw [ec]
          exact this
theorem read_ok : ∀ (ts : List Tn) (S S' : RS) (c : Nat), SI S c → readM S ts = some S' → SI S' (c + lps ts)
  | [], S, S', c, h, e => by cases e; exact h
  | t :: r, S, S', c, h, e => by
    have e' : (match stepM S t with | some S' => readM S' r | none => none) = some S' := e
    cases hs : stepM S t with
    | none => rw [hs] at e'; cases e'
    | some S1 =>
      rw [hs] at e'
      have := read_ok r S1 S' _ (step_ok h hs) e'
      rw [show lps (t :: r) = one? (isLp t) + lps r by
        rw [show t :: r = [t] ++ r from rfl, lps_app]
        cases t <;> rfl]
      rw [← Nat.add_assoc]
      exact this
theorem SI0 : SI RS0 1 := ⟨.lp .nil, by intro h; cases h⟩
theorem res_nb {ts : List Tn} {e : Ex} (h : resM ts = some e) : e.nb ≤ lps ts := by
  unfold resM at h
  split at h
  · rename_i o os w hr
    cases h
    have q := read_ok _ _ _ _ SI0 hr
    rw [lps_app] at q
    cases w with
    | true => exact absurd rfl q.2
    | false =>
      obtain ⟨o', os', k, d, e1, hW, hS, e2⟩ : Ni _ _ _ := q
      cases e1
      cases hW
      have e3 : lps [Tn.rp] = 0 := rfl
      unfold Stg at hS
      split at hS
      · omega
      · rename_i h4
        obtain ⟨oe, od⟩ := o
        cases oe with
        | num n => exact Nat.zero_le _
        | nam n => exact Nat.zero_le _
        | op g l r => have := g.lv_pos; have h5 : ¬ g.lv < 4 := h4; omega
  · cases h
end SH

set_option Elab.async false
set_option linter.all false
set_option maxRecDepth 100000
/-! Parts of an expression's text: mathematics. -/
namespace SH
open PySem L2 TL
def cd (s : Str) : List Nat := s.cps.toList
theorem cd_len (s : Str) : (cd s).length = s.length := Array.length_toList
theorem cd_app (a b : Str) : cd (a ++ b) = cd a ++ cd b := by
  show (a.cps ++ b.cps).toList = _
  rw [Array.toList_append]
  all_goals rfl
theorem cd_inj {a b : Str} (h : cd a = cd b) : a = b := by
  cases a with | mk x =>
  cases b with | mk y =>
  have : x = y := Array.toList_inj.mp h
  rw [this]
def uno (c : Nat) : Str := ⟨#[c]⟩
theorem cd_uno (c : Nat) : cd (uno c) = [c] := rfl
abbrev Pc := Option Tn
def Tn.txt : Tn → Str
  | .lp => "("
  | .rp => ")"
  | .sg g => g.txt
  | .num n => (toString n : String)
  | .nam s => s
def ptxt : Pc → Str
  | none => " "
  | some t => t.txt
def Tn.kd : Tn → Int
  | .sg .eq => 2
  | .num _ => 1
  | .nam _ => 0
  | _ => 3
def pkd : Pc → Int
  | none => 4
  | some t => t.kd
def nmL (s : Str) : Prop := 1 ≤ (cd s).length ∧ (cd s).length ≤ 8 ∧ ∀ c ∈ cd s, 97 ≤ c ∧ c ≤ 122
def POk : Pc → Prop
  | some (.num n) => 0 ≤ n ∧ n < 1000000 ^ 5
  | some (.nam s) => nmL s
  | _ => True
def brP (b : Bool) (t : List Pc) : List Pc := if b = true then some .lp :: (t ++ [some .rp]) else t
def Ex.pcs : Ex → List Pc
  | .num n => [some (.num n)]
  | .nam s => [some (.nam s)]
  | .op g l r => brP (lB g l) l.pcs ++ none :: some (.sg g) :: none :: brP (rB g r) r.pcs
def flat (ps : List Pc) : List Nat := (ps.map fun p => cd (ptxt p)).flatten
theorem flat_app (a b : List Pc) : flat (a ++ b) = flat a ++ flat b := by unfold flat; rw [List.map_append, List.flatten_append]
theorem flat_cons (p : Pc) (b : List Pc) : flat (p :: b) = cd (ptxt p) ++ flat b := rfl
theorem cd_lp : cd ("(" : Str) = [40] := by decide +kernel
theorem cd_rp : cd (")" : Str) = [41] := by decide +kernel
theorem cd_bl : cd (" " : Str) = [32] := by decide +kernel
theorem cd_sg (g : Sg) : cd g.txt = match g with | .add => [43] | .sub => [45] | .mul => [42] | .lt => [60] | .eq => [61, 61] := by cases g <;> decide +kernel
theorem flat_br (b : Bool) (ps : List Pc) (t : Str) (h : flat ps = cd t) : flat (brP b ps) = cd (br b t) := by
  cases b with
  | false => exact h
  | true =>
    show flat (some Tn.lp :: (ps ++ [some Tn.rp])) = cd (("(" : Str) ++ t ++ (")" : Str))
    rw [flat_cons, flat_app, h, cd_app, cd_app]
    show cd ("(" : Str) ++ (cd t ++ (cd (")" : Str) ++ [])) = _
    rw [List.append_nil, List.append_assoc]
theorem Ex.flat : ∀ e : Ex, SH.flat e.pcs = cd e.txt
  | .num n => by show cd _ ++ [] = _; rw [List.append_nil]; rfl
  | .nam n => by show cd _ ++ [] = _; rw [List.append_nil]; rfl
  | .op g l r => by
    show SH.flat (brP (lB g l) l.pcs ++ none :: some (.sg g) :: none :: brP (rB g r) r.pcs) = cd (br (lB g l) l.txt ++ (" " : Str) ++ g.txt ++ (" " : Str) ++ br (rB g r) r.txt)
    rw [flat_app, flat_cons, flat_cons, flat_cons, flat_br _ _ _ (Ex.flat l), flat_br _ _ _ (Ex.flat r)]
    rw [cd_app, cd_app, cd_app, cd_app]
    show _ ++ (cd (" " : Str) ++ (cd g.txt ++ (cd (" " : Str) ++ _))) = _
    simp only [List.append_assoc]
def toks (ps : List Pc) : List Tn := ps.filterMap id
theorem toks_app (a b : List Pc) : toks (a ++ b) = toks a ++ toks b := List.filterMap_append
theorem toks_br (b : Bool) {ps : List Pc} {t : List Tn} (h : toks ps = t) : toks (brP b ps) = brT b t := by
  cases b with
  | false => exact h
  | true =>
    show Tn.lp :: toks (ps ++ [some Tn.rp]) = Tn.lp :: (t ++ [Tn.rp])
    rw [toks_app, h]
    rfl
theorem Ex.toks : ∀ e : Ex, SH.toks e.pcs = e.tks
  | .num n => rfl
  | .nam n => rfl
  | .op g l r => by
    show SH.toks (brP (lB g l) l.pcs ++ none :: some (.sg g) :: none :: brP (rB g r) r.pcs) = brT (lB g l) l.tks ++ Tn.sg g :: brT (rB g r) r.tks
    rw [toks_app, toks_br _ (Ex.toks l), ← toks_br _ (Ex.toks r)]
    rfl
/-! ### numbers -/
theorem numL_head : ∀ (n : Nat), 0 < n → ∀ r, numL n ≠ 48 :: r := by
  intro n
  induction n using Nat.strongRecOn with
  | _ n ih =>
    intro hn r h
    by_cases h1 : n < 10
    · rw [numL_lt h1] at h
      have := (List.cons.inj h).1
      omega
    · rw [numL_step (by omega)] at h
      cases hd : numL (n / 10) with
      | nil => exact absurd hd (numL_ne _)
      | cons a t =>
        rw [hd] at h
        have : a = 48 := (List.cons.inj h).1
        subst this
        exact ih (n / 10) (by omega) (by omega) t hd
theorem cd_num {n : Int} (h : 0 ≤ n) : cd ((toString n : String) : Str) = numL n.toNat := by
  have e : n = ((n.toNat : Nat) : Int) := by omega
  have q := tl_num n.toNat
  rw [← e] at q
  exact q
theorem num_len {n : Int} (h : 0 ≤ n) (h1 : n < 1000000 ^ 5) : (numL n.toNat).length ≤ 30 := by
  refine numL_len (by decide) ?_
  have e : (1000000 : Int) ^ 5 = 1000000000000000000000000000000 := by decide
  have e2 : (10 : Nat) ^ 30 = 1000000000000000000000000000000 := by decide
  rw [e] at h1
  rw [e2]
  omega
theorem num_dig (n : Nat) : ∀ c ∈ numL n, 48 ≤ c ∧ c ≤ 57 := fun c hc => numL_digits n c hc
/-! ### kinds -/
def kdC (c : Nat) : Int := if 97 ≤ c ∧ c ≤ 122 then 0 else if 48 ≤ c ∧ c ≤ 57 then 1 else if c = 61 then 2 else if c = 32 then 4 else if c ∈ [40, 41, 44, 43, 45, 42, 60] then 3 else 9
theorem kd_let {c : Nat} (h : 97 ≤ c ∧ c ≤ 122) : kdC c = 0 := by unfold kdC; rw [if_pos h]
theorem kd_dig {c : Nat} (h : 48 ≤ c ∧ c ≤ 57) : kdC c = 1 := by unfold kdC; rw [if_neg (by omega), if_pos h]
theorem pc_kinds {p : Pc} (h : POk p) : ∀ c ∈ cd (ptxt p), kdC c = pkd p := by
  intro c hc
  rcases p with _ | t
  · rw [show cd (ptxt none) = [32] from cd_bl] at hc
    rw [List.mem_singleton.mp hc]; decide
  · cases t with
    | lp => rw [show cd (ptxt (some .lp)) = [40] from cd_lp] at hc; rw [List.mem_singleton.mp hc]; decide
    | rp => rw [show cd (ptxt (some .rp)) = [41] from cd_rp] at hc; rw [List.mem_singleton.mp hc]; decide
    | sg g =>
      rw [show cd (ptxt (some (.sg g))) = _ from cd_sg g] at hc
      cases g with
      | eq => have : c = 61 := by simpa using hc
              rw [this]; decide
      | add => rw [List.mem_singleton.mp hc]; decide
      | sub => rw [List.mem_singleton.mp hc]; decide
      | mul => rw [List.mem_singleton.mp hc]; decide
      | lt => rw [List.mem_singleton.mp hc]; decide
    | num n =>
      rw [show cd (ptxt (some (.num n))) = _ from cd_num h.1] at hc
      exact kd_dig (num_dig _ c hc)
    | nam s => exact kd_let (h.2.2 c hc)
theorem pc_ne {p : Pc} (h : POk p) : cd (ptxt p) ≠ [] := by
  rcases p with _ | t
  · rw [show cd (ptxt none) = [32] from cd_bl]; intro h; cases h
  · cases t with
    | lp => rw [show cd (ptxt (some .lp)) = [40] from cd_lp]; intro h; cases h
    | rp => rw [show cd (ptxt (some .rp)) = [41] from cd_rp]; intro h; cases h
    | sg g => rw [show cd (ptxt (some (.sg g))) = _ from cd_sg g]; cases g <;> (intro h; cases h)
    | num n => rw [show cd (ptxt (some (.num n))) = _ from cd_num h.1]; exact numL_ne _
    | nam s => intro e; have := h.1; rw [show cd s = [] from e] at this; exact absurd this (by decide)
theorem kd_range (t : Tn) : 0 ≤ t.kd ∧ t.kd ≤ 3 := by
  cases t with
  | sg g => cases g <;> decide
  | lp => decide
  | rp => decide
  | num n => show (0 : Int) ≤ 1 ∧ (1 : Int) ≤ 3; decide
  | nam n => show (0 : Int) ≤ 0 ∧ (0 : Int) ≤ 3; decide
theorem pc_clean {p : Pc} (h : POk p) : (p ≠ some .lp → 40 ∉ cd (ptxt p)) ∧ (p ≠ some .rp → 41 ∉ cd (ptxt p)) := by
  rcases p with _ | t
  · rw [show cd (ptxt none) = [32] from cd_bl]; exact ⟨fun _ => by decide, fun _ => by decide⟩
  · cases t with
    | lp => rw [show cd (ptxt (some .lp)) = [40] from cd_lp]; exact ⟨fun h => absurd rfl h, fun _ => by decide⟩
    | rp => rw [show cd (ptxt (some .rp)) = [41] from cd_rp]; exact ⟨fun _ => by decide, fun h => absurd rfl h⟩
    | sg g => rw [show cd (ptxt (some (.sg g))) = _ from cd_sg g]; cases g <;> exact ⟨fun _ => by decide, fun _ => by decide⟩
    | num n =>
      rw [show cd (ptxt (some (.num n))) = _ from cd_num h.1]
      exact ⟨fun _ hc => by have := num_dig _ _ hc; omega, fun _ hc => by have := num_dig _ _ hc; omega⟩
    | nam s => exact ⟨fun _ hc => by have := h.2.2 _ hc; omega, fun _ hc => by have := h.2.2 _ hc; omega⟩
theorem pc_blank {t : Tn} (h : POk (some t)) : 32 ∉ cd t.txt := fun hc => by
  have := pc_kinds h 32 hc
  have h2 := kd_range t
  have e : kdC 32 = 4 := by decide
  rw [e] at this
  have e3 : pkd (some t) = t.kd := rfl
  omega
/-! ### sign by sign -/
def mrg (k : Int) (t : Str) (j : Int) : Prop := k = j ∧ (j < 2 ∨ j = 2 ∧ t.length = 1)
instance (k : Int) (t : Str) (j : Int) : Decidable (mrg k t j) := by unfold mrg; infer_instance
def addC (F : List (Int × Str)) (c : Nat) : List (Int × Str) := match F.getLast? with
  | some x => if mrg x.1 x.2 (kdC c) then F.dropLast ++ [(kdC c, x.2 ++ uno c)] else F ++ [(kdC c, uno c)]
  | none => F ++ [(kdC c, uno c)]
theorem add_on {F : List (Int × Str)} {k : Int} {t : Str} {c : Nat} (h : mrg k t (kdC c)) : addC (F ++ [(k, t)]) c = F ++ [(kdC c, t ++ uno c)] := by
  unfold addC
  rw [List.getLast?_concat]
  show (if mrg k t (kdC c) then _ else _) = _
  rw [if_pos h, List.dropLast_concat]
theorem add_new {F : List (Int × Str)} {c : Nat} (h : ∀ x, F.getLast? = some x → ¬ mrg x.1 x.2 (kdC c)) : addC F c = F ++ [(kdC c, uno c)] := by
  unfold addC
  cases e : F.getLast? with
  | none => rfl
  | some x => show (if mrg x.1 x.2 (kdC c) then _ else _) = _; rw [if_neg (h x e)]
theorem add_run {k : Int} (hk : k < 2) : ∀ (cs : List Nat) (F : List (Int × Str)) (t : Str), (∀ c ∈ cs, kdC c = k) → cs.foldl addC (F ++ [(k, t)]) = F ++ [(k, t ++ ⟨cs.toArray⟩)]
  | [], F, t, _ => by
    show F ++ [(k, t)] = _
    congr 3
  | c :: r, F, t, h => by
    have e := h c List.mem_cons_self
    show r.foldl addC (addC (F ++ [(k, t)]) c) = _
    rw [add_on (by rw [e]; exact ⟨rfl, .inl hk⟩), e, add_run hk r F _ fun x hx => h x (List.mem_cons_of_mem _ hx)]
    congr 3
    exact cd_inj (by
      rw [cd_app, cd_app, cd_app, cd_uno]
      show cd t ++ [c] ++ r = cd t ++ (c :: r)
      rw [List.append_assoc]; rfl)
theorem str_mk (s : Str) : (⟨(cd s).toArray⟩ : Str) = s := cd_inj (by show ((cd s).toArray).toList = _; rw [List.toList_toArray])
theorem add_piece {F : List (Int × Str)} {p : Pc} (hp : POk p) (hs : ∀ x, F.getLast? = some x → x.1 = pkd p → 3 ≤ pkd p) : (cd (ptxt p)).foldl addC F = F ++ [(pkd p, ptxt p)] := by
  have hk := pc_kinds hp
  have hn := pc_ne hp
  have fresh : ∀ c r, cd (ptxt p) = c :: r → addC F c = F ++ [(pkd p, uno c)] := by
    intro c r e
    have ec : kdC c = pkd p := hk c (by rw [e]; exact List.mem_cons_self)
    rw [add_new, ec]
    intro x hx hm
    rw [ec] at hm
    have h3 := hs x hx hm.1
    have := hm.2
    omega
  by_cases h2 : pkd p < 2
  · cases e : cd (ptxt p) with
    | nil => exact absurd e hn
    | cons c r =>
      show r.foldl addC (addC F c) = _
      rw [fresh c r e, add_run h2 r F _ fun x hx => hk x (by rw [e]; exact List.mem_cons_of_mem _ hx)]
      congr 3
      exact cd_inj (by rw [cd_app, cd_uno]; show [c] ++ r = _; rw [e]; rfl)
  · have single : ∀ c, cd (ptxt p) = [c] → (cd (ptxt p)).foldl addC F = F ++ [(pkd p, ptxt p)] := by
      intro c e
      rw [e]
      show addC F c = _
      rw [fresh c [] e, show uno c = ptxt p from cd_inj (by rw [cd_uno, e])]
    rcases p with _ | t
    · exact single 32 cd_bl
    · cases t with
      | lp => exact single 40 cd_lp
      | rp => exact single 41 cd_rp
      | num n => exact absurd (show (1 : Int) < 2 by decide) h2
      | nam n => exact absurd (show (0 : Int) < 2 by decide) h2
      | sg g =>
        cases g with
        | add => exact single 43 (cd_sg .add)
        | sub => exact single 45 (cd_sg .sub)
        | mul => exact single 42 (cd_sg .mul)
        | lt => exact single 60 (cd_sg .lt)
        | eq =>
          have e : cd (ptxt (some (.sg .eq))) = [61, 61] := cd_sg .eq
          rw [e]
          show addC (addC F 61) 61 = _
          rw [fresh 61 [61] e, add_on ⟨by decide, .inr ⟨by decide, rfl⟩⟩]
          show F ++ [(kdC 61, uno 61 ++ uno 61)] = F ++ [(2, _)]
          rw [show kdC 61 = 2 by decide, show uno 61 ++ uno 61 = ptxt (some (.sg .eq)) from cd_inj (by rw [e, cd_app]; rfl)]
def Lse : Bool → List Pc → Prop
  | _, [] => True
  | b, p :: r => if pkd p = 4 then Lse false r else if pkd p = 3 then Lse b r else b = false ∧ Lse true r
theorem fold_pcs : ∀ (ps : List Pc) (F : List (Int × Str)) (b : Bool), Lse b ps → (∀ p ∈ ps, POk p) → (b = false → ∀ x, F.getLast? = some x → 3 ≤ x.1) → (flat ps).foldl addC F = F ++ ps.map fun p => (pkd p, ptxt p)
  | [], F, b, _, _, _ => by show F = F ++ []; rw [List.append_nil]
  | p :: r, F, b, h, ho, hb => by
    rw [flat_cons, List.foldl_append]
    have h' : (if pkd p = 4 then Lse false r else if pkd p = 3 then Lse b r else b = false ∧ Lse true r) := h
    have op := ho p List.mem_cons_self
    have or' : ∀ p ∈ r, POk p := fun q hq => ho q (List.mem_cons_of_mem _ hq)
    have fin : ∀ b', Lse b' r → (3 ≤ pkd p ∨ b' = true) → (∀ x, F.getLast? = some x → x.1 = pkd p → 3 ≤ pkd p) → (flat r).foldl addC ((cd (ptxt p)).foldl addC F) = F ++ (p :: r).map fun p => (pkd p, ptxt p) := by
      intro b' hl hb' hs
      rw [add_piece op hs, fold_pcs r _ b' hl or' ?_, List.append_assoc]
      · rfl
      · intro e x hx
        rw [List.getLast?_concat] at hx
        cases hx
        rcases hb' with q | q
        · exact q
        · rw [q] at e; cases e
    by_cases k4 : pkd p = 4
    · rw [if_pos k4] at h'
      exact fin false h' (.inl (by omega)) fun _ _ _ => by omega
    · rw [if_neg k4] at h'
      by_cases k3 : pkd p = 3
      · rw [if_pos k3] at h'
        exact fin b h' (.inl (by omega)) fun _ _ _ => by omega
      · rw [if_neg k3] at h'
        obtain ⟨hb0, h1⟩ := h'
        refine fin true h1 (.inr rfl) fun x hx e => ?_
        have := hb hb0 x hx
        omega
theorem Lse_br (b : Bool) {ps rest : List Pc} (h : ∀ rest, Lse true rest → Lse false (ps ++ rest)) (hr : Lse true rest) : Lse false (brP b ps ++ rest) := by
  cases b with
  | false => exact h rest hr
  | true =>
    show Lse false (some Tn.lp :: ((ps ++ [some Tn.rp]) ++ rest))
    rw [List.append_assoc]
    exact h (some Tn.rp :: rest) hr
theorem Ex.lse : ∀ (e : Ex) (rest : List Pc), Lse true rest → Lse false (e.pcs ++ rest)
  | .num n, rest, h => ⟨rfl, h⟩
  | .nam n, rest, h => ⟨rfl, h⟩
  | .op g l r, rest, h => by
    show Lse false ((brP (lB g l) l.pcs ++ none :: some (.sg g) :: none :: brP (rB g r) r.pcs) ++ rest)
    rw [List.append_assoc]
    refine Lse_br _ (fun rest => Ex.lse l rest) ?_
    have q : Lse false (brP (rB g r) r.pcs ++ rest) := Lse_br _ (fun rest => Ex.lse r rest) h
    cases g with
    | eq => exact ⟨rfl, q⟩
    | _ => exact q
theorem Lse_cut {x : Pc} (hx : pkd x = 3) : ∀ (P : List Pc) (b : Bool) (Q : List Pc), Lse b (P ++ x :: Q) → Lse b (P ++ Q)
  | [], b, Q, h => by
    have h' : (if pkd x = 4 then Lse false Q else if pkd x = 3 then Lse b Q else _) := h
    rw [if_neg (by omega), if_pos hx] at h'
    exact h'
  | p :: P, b, Q, h => by
    have h' : (if pkd p = 4 then Lse false (P ++ x :: Q) else if pkd p = 3 then Lse b (P ++ x :: Q) else b = false ∧ Lse true (P ++ x :: Q)) := h
    show (if pkd p = 4 then Lse false (P ++ Q) else if pkd p = 3 then Lse b (P ++ Q) else b = false ∧ Lse true (P ++ Q))
    by_cases k4 : pkd p = 4
    · rw [if_pos k4] at h' ⊢; exact Lse_cut hx P _ Q h'
    · rw [if_neg k4] at h' ⊢
      by_cases k3 : pkd p = 3
      · rw [if_pos k3] at h' ⊢; exact Lse_cut hx P _ Q h'
      · rw [if_neg k3] at h' ⊢; exact ⟨h'.1, Lse_cut hx P _ Q h'.2⟩
/-! ### where a bracket stands -/
theorem past {c : Nat} : ∀ {X Y A B : List Nat}, c ∉ X → X ++ Y = A ++ c :: B → ∃ A', A = X ++ A' ∧ Y = A' ++ c :: B
  | [], Y, A, B, _, h => ⟨A, rfl, h⟩
  | x :: X, Y, [], B, hx, h => absurd (by rw [(List.cons.inj h).1]; exact List.mem_cons_self) hx
  | x :: X, Y, a :: A, B, hx, h => by
    obtain ⟨h1, h2⟩ := List.cons.inj h
    obtain ⟨A', e1, e2⟩ := past (fun q => hx (List.mem_cons_of_mem _ q)) h2
    exact ⟨A', by rw [e1, h1]; rfl, e2⟩
theorem find_pc {c : Nat} {t : Pc} (ht : cd (ptxt t) = [c]) (hc : ∀ p, POk p → p ≠ t → c ∉ cd (ptxt p)) : ∀ (ps : List Pc) (A B : List Nat), (∀ p ∈ ps, POk p) → flat ps = A ++ c :: B → ∃ P Q, ps = P ++ t :: Q ∧ flat P = A ∧ flat Q = B
  | [], A, B, _, h => by
    have h' : [] = A ++ c :: B := h
    cases A <;> cases h'
  | p :: r, A, B, ho, h => by
    rw [flat_cons] at h
    have or' : ∀ p ∈ r, POk p := fun q hq => ho q (List.mem_cons_of_mem _ hq)
    by_cases e : p = t
    · subst e
      rw [ht] at h
      cases A with
      | nil => exact ⟨[], r, rfl, rfl, (List.cons.inj h).2⟩
      | cons a A' =>
        obtain ⟨h1, h2⟩ := List.cons.inj h
        obtain ⟨P, Q, e1, e2, e3⟩ := find_pc ht hc r A' B or' h2
        exact ⟨p :: P, Q, by rw [e1]; rfl, by rw [flat_cons, ht, e2, h1]; rfl, e3⟩
    · obtain ⟨A', e1, e2⟩ := past (hc p (ho p List.mem_cons_self) e) h
      obtain ⟨P, Q, e3, e4, e5⟩ := find_pc ht hc r A' B or' e2
      exact ⟨p :: P, Q, by rw [e3]; rfl, by rw [flat_cons, e4, e1], e5⟩
theorem less_pcs {ps : List Pc} {A M B : List Nat} (ho : ∀ p ∈ ps, POk p) (hl : Lse false ps) (h : flat ps = A ++ 40 :: (M ++ 41 :: B)) :
    ∃ qs, flat qs = A ++ (M ++ B) ∧ (∀ p ∈ qs, POk p) ∧ Lse false qs ∧ lps (toks qs) + 1 = lps (toks ps) ∧ ∀ p ∈ qs, p ∈ ps := by
  obtain ⟨P, Q, e1, e2, e3⟩ := find_pc (t := some .lp) cd_lp (fun p hp => (pc_clean hp).1) ps A _ ho h
  subst e1
  have oQ : ∀ p ∈ Q, POk p := fun q hq => ho q (List.mem_append_right _ (List.mem_cons_of_mem _ hq))
  obtain ⟨R, S, f1, f2, f3⟩ := find_pc (t := some .rp) cd_rp (fun p hp => (pc_clean hp).2) Q M B oQ e3
  subst f1
  refine ⟨P ++ (R ++ S), by rw [flat_app, flat_app, e2, f2, f3], fun p hp => ?_, ?_, ?_, fun p hp => ?_⟩
  · rcases List.mem_append.mp hp with q | q
    · exact ho p (List.mem_append_left _ q)
    · rcases List.mem_append.mp q with q | q
      · exact oQ p (List.mem_append_left _ q)
      · exact oQ p (List.mem_append_right _ (List.mem_cons_of_mem _ q))
  · have h1 := Lse_cut (x := some .lp) rfl P false (R ++ some .rp :: S) hl
    rw [← List.append_assoc] at h1
    have h2 := Lse_cut (x := some .rp) rfl (P ++ R) false S h1
    rw [List.append_assoc] at h2
    exact h2
  · have c1 : ∀ X : List Pc, lps (toks (some Tn.lp :: X)) = 1 + lps (toks X) := fun X => by
      show lps ([Tn.lp] ++ toks X) = _
      rw [lps_app]; rfl
    have c2 : ∀ X : List Pc, lps (toks (some Tn.rp :: X)) = lps (toks X) := fun X => rfl
    rw [toks_app, toks_app, lps_app, lps_app, toks_app, lps_app, c1, toks_app, lps_app, c2]
    omega
  · rcases List.mem_append.mp hp with q | q
    · exact List.mem_append_left _ q
    · refine List.mem_append_right _ (List.mem_cons_of_mem _ ?_)
      rcases List.mem_append.mp q with q | q
      · exact List.mem_append_left _ q
      · exact List.mem_append_right _ (List.mem_cons_of_mem _ q)
/-! ### brackets stand in pairs -/
def bal (cs : List Nat) : Prop := (∀ n, (cs.take n).count 41 ≤ (cs.take n).count 40) ∧ cs.count 41 = cs.count 40
theorem bal_app {a b : List Nat} (ha : bal a) (hb : bal b) : bal (a ++ b) := by
  refine ⟨fun n => ?_, ?_⟩
  · rw [List.take_append, List.count_append, List.count_append]
    have := ha.1 n
    have := hb.1 (n - a.length)
    omega
  · rw [List.count_append, List.count_append, ha.2, hb.2]
theorem bal_clean {a : List Nat} (h1 : 40 ∉ a) (h2 : 41 ∉ a) : bal a := by
  refine ⟨fun n => ?_, ?_⟩
  · rw [List.count_eq_zero.mpr fun h => h2 (List.mem_of_mem_take h)]; exact Nat.zero_le _
  · rw [List.count_eq_zero.mpr h1, List.count_eq_zero.mpr h2]
theorem bal_wrap {a : List Nat} (h : bal a) : bal (40 :: (a ++ [41])) := by
  refine ⟨fun n => ?_, ?_⟩
  · cases n with
    | zero => exact Nat.le_refl _
    | succ n =>
      rw [List.take_succ_cons, List.count_cons, List.count_cons, List.take_append, List.count_append, List.count_append]
      have h1 := h.1 n
      have h2 : (List.take (n - a.length) [41]).count 41 ≤ 1 := Nat.le_trans List.count_le_length (by rw [List.length_take]; exact Nat.min_le_right _ _)
      simp only [beq_self_eq_true, if_true, show ((40 : Nat) == 41) = false from rfl, Bool.false_eq_true, if_false]
      omega
  · rw [List.count_cons, List.count_cons, List.count_append, List.count_append, h.2]
    simp
theorem br_bal (b : Bool) {t : Str} (h : bal (cd t)) : bal (cd (br b t)) := by
  cases b with
  | false => exact h
  | true =>
    show bal (cd (("(" : Str) ++ t ++ (")" : Str)))
    rw [cd_app, cd_app, cd_lp, cd_rp]
    show bal (40 :: (cd t ++ [41]))
    exact bal_wrap h
/-- its names and numbers are in order -/
def Ex.pfit : Ex → Prop
  | .num n => POk (some (.num n))
  | .nam s => POk (some (.nam s))
  | .op _ l r => l.pfit ∧ r.pfit
theorem Ex.bal : ∀ e : Ex, e.pfit → SH.bal (cd e.txt)
  | .num n, h => bal_clean ((pc_clean (p := some (.num n)) h).1 (by intro h; cases h)) ((pc_clean (p := some (.num n)) h).2 (by intro h; cases h))
  | .nam n, h => bal_clean ((pc_clean (p := some (.nam n)) h).1 (by intro h; cases h)) ((pc_clean (p := some (.nam n)) h).2 (by intro h; cases h))
  | .op g l r, h => by
    show SH.bal (cd (br (lB g l) l.txt ++ (" " : Str) ++ g.txt ++ (" " : Str) ++ br (rB g r) r.txt))
    rw [cd_app, cd_app, cd_app, cd_app]
    have b1 : SH.bal (cd (" " : Str)) := by rw [cd_bl]; exact bal_clean (by decide) (by decide)
    have b2 : SH.bal (cd g.txt) := bal_clean ((pc_clean (p := some (.sg g)) trivial).1 (by intro h; cases h)) ((pc_clean (p := some (.sg g)) trivial).2 (by intro h; cases h))
    exact bal_app (bal_app (bal_app (bal_app (br_bal _ (Ex.bal l h.1)) b1) b2) b1) (br_bal _ (Ex.bal r h.2))
theorem br_ok (b : Bool) {ps : List Pc} (h : ∀ p ∈ ps, POk p) : ∀ p ∈ brP b ps, POk p := by
  cases b with
  | false => exact h
  | true =>
    intro p hp
    rcases List.mem_cons.mp (show p ∈ some Tn.lp :: (ps ++ [some Tn.rp]) from hp) with rfl | q
    · trivial
    · rcases List.mem_append.mp q with q | q
      · exact h p q
      · rw [List.mem_singleton.mp q]; trivial
theorem Ex.pok : ∀ e : Ex, e.pfit → ∀ p ∈ e.pcs, POk p
  | .num n, h, p, hp => by rw [List.mem_singleton.mp hp]; exact h
  | .nam n, h, p, hp => by rw [List.mem_singleton.mp hp]; exact h
  | .op g l r, h, p, hp => by
    rcases List.mem_append.mp (show p ∈ brP (lB g l) l.pcs ++ none :: some (.sg g) :: none :: brP (rB g r) r.pcs from hp) with q | q
    · exact br_ok _ (Ex.pok l h.1) p q
    · rcases List.mem_cons.mp q with rfl | q
      · trivial
      · rcases List.mem_cons.mp q with rfl | q
        · trivial
        · rcases List.mem_cons.mp q with rfl | q
          · trivial
          · exact br_ok _ (Ex.pok r h.2) p q
theorem pc_chk {p : Pc} (h : POk p) : (pkd p = 0 → (ptxt p).length ≤ 8) ∧ (pkd p = 1 → (ptxt p).length ≤ 30 ∧ ∃ d r, cd (ptxt p) = d :: r ∧ (d = 48 → r = [])) := by
  rcases p with _ | t
  · exact ⟨fun h => absurd h (by decide), fun h => absurd h (by decide)⟩
  · cases t with
    | lp => exact ⟨fun h => absurd h (by decide), fun h => absurd h (by decide)⟩
    | rp => exact ⟨fun h => absurd h (by decide), fun h => absurd h (by decide)⟩
    | sg g => cases g <;> exact ⟨fun h => absurd h (by decide), fun h => absurd h (by decide)⟩
    | num n =>
      have e : cd (ptxt (some (.num n))) = _ := cd_num h.1
      refine ⟨fun h => absurd (show (1 : Int) = 0 from h) (by decide), fun _ => ⟨?_, ?_⟩⟩
      · rw [← cd_len, e]; exact num_len h.1 h.2
      · rw [e]
        cases hd : numL n.toNat with
        | nil => exact absurd hd (numL_ne _)
        | cons d r =>
          refine ⟨d, r, rfl, fun e48 => ?_⟩
          subst e48
          by_cases hp : 0 < n.toNat
          · exact absurd hd (numL_head _ hp r)
          · rw [show n.toNat = 0 by omega, numL_lt (by decide)] at hd
            exact (List.cons.inj hd).2.symm
    | nam s =>
      refine ⟨fun _ => ?_, fun h => absurd (show (0 : Int) = 1 from h) (by decide)⟩
      rw [← cd_len]; exact h.2.1
end SH

set_option Elab.async false
set_option linter.all false
set_option maxRecDepth 100000
namespace SH
open PySem L2
abbrev sKind : Stmt := topS 46
theorem scKind : FnScope ["_law_sign"] ["_law_sign"] (defScope sKind) := ⟨rfl, rfl, rfl, by decide +kernel, rfl, by decide +kernel, by decide +kernel⟩
/-- the kind of a sign -/
def spKind : Sp := fun vs H Q _ => ∃ c, vs = [.str (uno c)] ∧ ∀ H', Same H H' → Q (.int (kdC c)) H'
theorem lets_are (c : Nat) : c ∈ ("abcdefghijklmnopqrstuvwxyz" : Str).cps.toList ↔ 97 ≤ c ∧ c ≤ 122 := by
  have e : ("abcdefghijklmnopqrstuvwxyz" : Str).cps.toList = (List.range 26).map (97 + ·) := by decide +kernel
  rw [e, List.mem_map]
  constructor
  · rintro ⟨a, ha, rfl⟩
    have := List.mem_range.mp ha
    omega
  · intro h
    exact ⟨c - 97, List.mem_range.mpr (by omega), by omega⟩
theorem digs_are (c : Nat) : c ∈ ("0123456789" : Str).cps.toList ↔ 48 ≤ c ∧ c ≤ 57 := by
  have e : ("0123456789" : Str).cps.toList = (List.range 10).map (48 + ·) := by decide +kernel
  rw [e, List.mem_map]
  constructor
  · rintro ⟨a, ha, rfl⟩
    have := List.mem_range.mp ha
    omega
  · intro h
    exact ⟨c - 48, List.mem_range.mpr (by omega), by omega⟩
theorem marks_are : ("(),+-*<" : Str).cps.toList = [40, 41, 44, 43, 45, 42, 60] := by decide +kernel
def kdD : List (Key × V) := [(.inr "=", .int 2), (.inr " ", .int 4)]
section
variable {P : Program} {w : World} {K : PySem.W.Frag} {mg : Str → Option Value} {base : Heap}
theorem ok_kind {f : Addr} {fd : FuncData} (F : Fun K "_law_kind" "_law_kind" sKind f fd) (T : Bi mg) : FnOk P w K mg base CX0 1 f fd ["_law_sign"] spKind := by
  refine F.ok scKind (fun vs H Q E h => ?_) (fun cdv A outer s H vs Q E hr h => ?_)
  · obtain ⟨c, rfl, _⟩ := h
    rfl
  obtain ⟨c, rfl, q⟩ := h
  refine ⟨_, (pss_cons (ps_if (pt_cmpR op_in_sign (pv 0) pe_str rfl)
      (pss_one (ps_ret pe_int))
      pss_nil)
    (pss_cons (ps_if (pt_cmpR op_in_sign (pv 0) pe_str rfl)
      (pss_one (ps_ret pe_int))
      pss_nil)
    (pss_one (ps_ret (pe_dget2 (hu_of hr) (pe_disp (pps_cons pe_str pe_int (pps_cons pe_str pe_int pps_nil)) (by rfl) (by rfl) (fun z => by cases z) (by decide)) (pv 0) (pe_ix ix_list (pe_lst (pa_cons pe_int (pa_cons pe_int pa_nil))) (pe_callTy call_int1 (by rfl) T.int (by decide +kernel) (pa_cons (pe_cmpR op_in_sign (pv 0) pe_str rfl) pa_nil)) (fun _ _ => rfl)) ⟨rfl, rfl, rfl, rfl⟩))))), ?_⟩
  refine ⟨_, rfl, c, _, rfl, rfl, _, rfl, ?_⟩
  refine ite2 (fun h => ?_) (fun h => ?_)
  · have h0 : c ∈ ("abcdefghijklmnopqrstuvwxyz" : Str).cps.toList := of_decide_eq_true h
    have h1 := (lets_are c).mp h0
    have := q H (Same.refl _)
    rw [show kdC c = 0 from kd_let h1] at this
    exact this
  have n1 : ¬ (97 ≤ c ∧ c ≤ 122) := fun h1 => h (decide_eq_true (show c ∈ ("abcdefghijklmnopqrstuvwxyz" : Str).cps.toList from (lets_are c).mpr h1))
  refine ⟨_, rfl, c, _, rfl, rfl, _, rfl, ?_⟩
  refine ite2 (fun h => ?_) (fun h => ?_)
  · have h0 : c ∈ ("0123456789" : Str).cps.toList := of_decide_eq_true h
    have h1 := (digs_are c).mp h0
    have := q H (Same.refl _)
    rw [show kdC c = 1 from kd_dig h1] at this
    exact this
  have n2 : ¬ (48 ≤ c ∧ c ≤ 57) := fun h1 => h (decide_eq_true (show c ∈ ("0123456789" : Str).cps.toList from (digs_are c).mpr h1))
  refine fun d hd => ⟨upd_same, kdD, rfl, by decide, ?_⟩
  have e1 : upd (upd H d (.dK [])) d (.dK (mergeK [] kdD)) = upd H d (.dK (mergeK [] kdD)) := upd_upd
  rw [e1]
  have s1 := same_new hd (.dK (mergeK [] kdD))
  have hd1 : (upd H d (.dK (mergeK [] kdD))) d = some (.dK (mergeK [] kdD)) := upd_same
  generalize upd H d (.dK (mergeK [] kdD)) = H1 at s1 hd1
  refine ⟨d, rfl, .inl ⟨_, .inl hd1⟩, _, rfl, (by show 2 ≤ sizeLine; decide), fun l hl => ?_⟩
  have s2 := same_new hl (.lst [.int 9, .int 3])
  refine ⟨_, rfl, c, _, rfl, rfl, .inr ⟨_, rfl, ?_⟩⟩
  rw [marks_are]
  have hd2 := s2 _ _ hd1
  have fin : ∀ (i : Int) (v : Int), atI [V.int 9, .int 3] i = some (.int v) → v = (if c ∈ [40, 41, 44, 43, 45, 42, 60] then 3 else 9) → rIxL K (.ref l) (.int i) (upd H1 l (.lst [.int 9, .int 3])) fun z H3 => ∃ o, DGet H3 d (.str (uno c)) o ∧ Q (o.getD z) H3 := by
    intro i v ei ev
    refine ⟨l, _, _, _, rfl, rfl, SqL.of upd_same, ei, _, DGet.k (k := Sum.inr (uno c)) hd2, ?_⟩
    have := q _ (s1.trans s2)
    unfold kdC at this
    rw [if_neg n1, if_neg n2] at this
    by_cases c1 : c = 61
    · subst c1
      exact this
    · rw [if_neg c1] at this
      by_cases c2 : c = 32
      · subst c2
        exact this
      · rw [if_neg c2, ← ev] at this
        have e : valV (mergeK [] kdD) (Sum.inr (uno c)) = none := by
          have h1 : (uno 61) ≠ uno c := fun h => c1 (by have := congrArg cd h; exact ((List.cons.inj this).1).symm)
          have h2 : (uno 32) ≠ uno c := fun h => c2 (by have := congrArg cd h; exact ((List.cons.inj this).1).symm)
          rw [show mergeK [] kdD = kdD by decide +kernel]
          show (kdD.find? fun kv => decide (kv.1 = Sum.inr (uno c))).map _ = none
          have f1 : decide ((Sum.inr ("=" : Str) : Key) = Sum.inr (uno c)) = false := decide_eq_false fun h => h1 (Sum.inr.inj h)
          have f2 : decide ((Sum.inr (" " : Str) : Key) = Sum.inr (uno c)) = false := decide_eq_false fun h => h2 (Sum.inr.inj h)
          unfold kdD
          have f3 : decide (("=" : Str) = uno c) = false := decide_eq_false h1
          have f4 : decide ((" " : Str) = uno c) = false := decide_eq_false h2
          simp [List.find?, f3, f4]
        rw [e]
        exact this
  by_cases hm : c ∈ [40, 41, 44, 43, 45, 42, 60]
  · rw [decide_eq_true hm]
    exact fin 1 3 rfl (by rw [if_pos hm])
  · rw [decide_eq_false hm]
    exact fin 0 9 rfl (by rw [if_neg hm])
end
end SH

set_option Elab.async false
set_option linter.all false
set_option maxRecDepth 100000
/-! Expressions read by descent: mathematics. -/
namespace SH
open PySem L2
def leafT : Ex → Option Tn
  | .num n => some (.num n)
  | .nam s => some (.nam s)
  | .op _ _ _ => none
def cap (g : Sg) : Int := if g.lv < 2 then 2 else g.lv
/-- these parts are read as that tree, at that level, with so many brackets within one another at most -/
inductive Pr : Nat → Int → Ex → List Tn → Prop
  | leaf {k : Nat} {e : Ex} {t : Tn} : leafT e = some t → Pr k 4 e [t]
  | brk {k : Nat} {e : Ex} {ts : List Tn} : Pr k 1 e ts → Pr (k + 1) 4 e (Tn.lp :: (ts ++ [Tn.rp]))
  | up {k : Nat} {L : Int} {e : Ex} {ts : List Tn} : 1 ≤ L → L ≤ 3 → Pr k (L + 1) e ts → Pr k L e ts
  | op {k : Nat} {g : Sg} {l r : Ex} {tl tr : List Tn} : Pr k (cap g) l tl → Pr k (g.lv + 1) r tr → Pr k g.lv (.op g l r) (tl ++ Tn.sg g :: tr)
theorem Pr.mono {k : Nat} {L : Int} {e : Ex} {ts : List Tn} (h : Pr k L e ts) : ∀ {m : Nat}, k ≤ m → Pr m L e ts := by
  induction h with
  | leaf h => intro m _; exact .leaf h
  | brk _ ih => intro m hm; cases m with
    | zero => omega
    | succ m => exact .brk (ih (by omega))
  | up h1 h2 _ ih => intro m hm; exact .up h1 h2 (ih hm)
  | op _ _ i1 i2 => intro m hm; exact .op (i1 hm) (i2 hm)
theorem Pr.low {k : Nat} {e : Ex} {ts : List Tn} : ∀ (n : Nat) {L : Int}, Pr k (L + n) e ts → 1 ≤ L → L + n ≤ 4 → Pr k L e ts
  | 0, L, h, _, _ => by rwa [show L + ((0 : Nat) : Int) = L by omega] at h
  | n + 1, L, h, h1, h2 => by
    refine .up h1 (by omega) (Pr.low n ?_ (by omega) (by omega))
    rwa [show L + 1 + ((n : Nat) : Int) = L + ((n + 1 : Nat) : Int) by omega]
theorem Pr.to {k : Nat} {e : Ex} {ts : List Tn} {L M : Int} (h : Pr k M e ts) (h1 : 1 ≤ L) (h2 : L ≤ M) (h3 : M ≤ 4) : Pr k L e ts :=
  Pr.low (M - L).toNat (by rwa [show L + (((M - L).toNat : Nat) : Int) = M by omega]) h1 (by omega)
/-- signs of one level, from the left -/
def fl (e0 : Ex) (l : List (Sg × Ex × List Tn)) : Ex := l.foldl (fun a x => .op x.1 a x.2.1) e0
def sgm (l : List (Sg × Ex × List Tn)) : List Tn := (l.map fun x => Tn.sg x.1 :: x.2.2).flatten
theorem fl_snoc (e0 : Ex) (l : List (Sg × Ex × List Tn)) (x : Sg × Ex × List Tn) : fl e0 (l ++ [x]) = .op x.1 (fl e0 l) x.2.1 := by unfold fl; rw [List.foldl_append]; rfl
theorem sgm_snoc (l : List (Sg × Ex × List Tn)) (x : Sg × Ex × List Tn) : sgm (l ++ [x]) = sgm l ++ Tn.sg x.1 :: x.2.2 := by
  unfold sgm
  rw [List.map_append, List.flatten_append]
  show _ ++ (Tn.sg x.1 :: x.2.2 ++ []) = _
  rw [List.append_nil]
structure Chn (k : Nat) (L : Int) (e : Ex) (ts : List Tn) (e0 : Ex) (t0 : List Tn) (l : List (Sg × Ex × List Tn)) : Prop where
  first : Pr k (L + 1) e0 t0
  each : ∀ x ∈ l, x.1.lv = L ∧ Pr k (L + 1) x.2.1 x.2.2
  tree : e = fl e0 l
  text : ts = t0 ++ sgm l
theorem Pr.chain {k : Nat} {L : Int} {e : Ex} {ts : List Tn} (h : Pr k L e ts) (hL : L = 2 ∨ L = 3) : ∃ e0 t0 l, Chn k L e ts e0 t0 l := by
  induction h with
  | leaf _ => omega
  | brk _ _ => omega
  | @up k L e ts h1 h2 h _ => exact ⟨e, ts, [], h, (fun x hx => by cases hx), rfl, by show ts = ts ++ []; rw [List.append_nil]⟩
  | @op k g l r tl tr h1 h2 i1 _ =>
    have hc : cap g = g.lv := by unfold cap; rw [if_neg (by omega)]
    rw [hc] at h1
    obtain ⟨e0, t0, lx, c⟩ := i1 (by rw [hc]; exact hL)
    rw [hc] at c
    refine ⟨e0, t0, lx ++ [(g, r, tr)], c.first, fun x hx => ?_, ?_, ?_⟩
    · rcases List.mem_append.mp hx with hx | hx
      · exact c.each x hx
      · rw [List.mem_singleton.mp hx]; exact ⟨rfl, h2⟩
    · rw [fl_snoc, ← c.tree]
    · rw [sgm_snoc, c.text, List.append_assoc]
theorem Pr.one {k : Nat} {L : Int} {e : Ex} {ts : List Tn} (h : Pr k L e ts) (hL : L = 1) : Pr k 2 e ts ∨ ∃ g l r tl tr, g.lv = 1 ∧ e = .op g l r ∧ ts = tl ++ Tn.sg g :: tr ∧ Pr k 2 l tl ∧ Pr k 2 r tr := by
  cases h with
  | leaf _ => omega
  | brk _ => omega
  | up h1 h2 h => subst hL; exact .inl h
  | @op _ g l r tl tr h1 h2 =>
    rw [hL] at h2
    have hc : cap g = 2 := by unfold cap; rw [if_pos (by omega)]
    rw [hc] at h1
    exact .inr ⟨g, l, r, tl, tr, hL, rfl, rfl, h1, h2⟩
theorem Pr.four {k : Nat} {L : Int} {e : Ex} {ts : List Tn} (h : Pr k L e ts) (hL : L = 4) : (∃ t, leafT e = some t ∧ ts = [t]) ∨ ∃ j us, k = j + 1 ∧ ts = Tn.lp :: (us ++ [Tn.rp]) ∧ Pr j 1 e us := by
  cases h with
  | leaf h => exact .inl ⟨_, h, rfl⟩
  | brk h => exact .inr ⟨_, _, rfl, rfl, h⟩
  | up h1 h2 _ => omega
  | @op _ g _ _ _ _ _ _ => have := g.lv_pos; omega
theorem Pr.ne {k : Nat} {L : Int} {e : Ex} {ts : List Tn} (h : Pr k L e ts) : 1 ≤ ts.length := by
  induction h with
  | leaf _ => exact Nat.le_refl 1
  | brk _ _ => rw [List.length_cons]; omega
  | up _ _ _ ih => exact ih
  | op _ _ _ _ => rw [List.length_append, List.length_cons]; omega
/-- what follows is no sign that binds so much -/
def nx (L : Int) (rest : List Tn) : Prop := ∀ g r, rest = Tn.sg g :: r → g.lv < L
theorem nx.up {L M : Int} {rest : List Tn} (h : nx L rest) (hm : L ≤ M) : nx M rest := fun g r e => by have := h g r e; omega
theorem nx_sg {L : Int} {g : Sg} {r : List Tn} (h : g.lv < L) : nx L (Tn.sg g :: r) := fun k r' e => by
  have := Tn.sg.inj (List.cons.inj e).1
  rw [← this]; exact h
theorem nx_rp {L : Int} {r : List Tn} : nx L (Tn.rp :: r) := fun k r' e => by cases e
theorem nx_nil {L : Int} : nx L [] := fun k r' e => by cases e
/-- no two parts of one kind run together -/
def Ajs : List Pc → Prop
  | [] => True
  | [_] => True
  | p :: q :: r => ¬ (pkd p = pkd q ∧ pkd p < 3) ∧ Ajs (q :: r)
theorem Ajs.tl : ∀ {ps : List Pc} {p : Pc}, Ajs (p :: ps) → Ajs ps
  | [], _, _ => trivial
  | _ :: _, _, h => h.2
theorem Ajs.snoc : ∀ {ps : List Pc} {p : Pc}, Ajs ps → (∀ q, ps.getLast? = some q → ¬ (pkd q = pkd p ∧ pkd q < 3)) → Ajs (ps ++ [p])
  | [], _, _, _ => trivial
  | [a], p, _, h => ⟨h a rfl, trivial⟩
  | a :: b :: r, p, h, k => ⟨h.1, Ajs.snoc (ps := b :: r) h.2 fun q hq => k q (by rw [List.getLast?_cons_cons]; exact hq)⟩
theorem Ajs.drop : ∀ (n : Nat) {ps : List Pc}, Ajs ps → Ajs (ps.drop n)
  | 0, _, h => h
  | n + 1, [], _ => trivial
  | n + 1, _ :: _, h => Ajs.drop n h.tl
theorem flat_ne : ∀ {ps : List Pc}, (∀ p ∈ ps, POk p) → ps.length ≤ (flat ps).length
  | [], _ => Nat.le_refl _
  | p :: r, h => by
    have h1 := flat_ne (ps := r) fun p hp => h p (List.mem_cons_of_mem _ hp)
    have h2 := List.length_pos_iff.mpr (pc_ne (h p List.mem_cons_self))
    rw [flat_cons, List.length_append, List.length_cons]
    omega
end SH
namespace SH
open PySem L2
theorem sgm_cons (x : Sg × Ex × List Tn) (l : List (Sg × Ex × List Tn)) : sgm (x :: l) = Tn.sg x.1 :: (x.2.2 ++ sgm l) := rfl
theorem sgm_app (a b : List (Sg × Ex × List Tn)) : sgm (a ++ b) = sgm a ++ sgm b := by unfold sgm; rw [List.map_append, List.flatten_append]
/-- the next part's text -/
def pk (rest : List Tn) : Str := match rest with
  | [] => Str.empty
  | t :: _ => t.txt
theorem sg_of_txt {t : Tn} {g : Sg} (h : POk (some t)) (e : t.txt = g.txt) : t = .sg g := by
  have k := pc_kinds h
  cases t with
  | sg k' =>
    have := congrArg cd e
    rw [show cd (Tn.sg k').txt = _ from cd_sg k', cd_sg] at this
    cases k' <;> cases g <;> first | rfl | cases this
  | lp =>
    have := congrArg cd e
    rw [show cd (Tn.lp).txt = [40] from cd_lp, cd_sg] at this
    cases g <;> cases this
  | rp =>
    have := congrArg cd e
    rw [show cd (Tn.rp).txt = [41] from cd_rp, cd_sg] at this
    cases g <;> cases this
  | num n =>
    exfalso
    have h2 : ∃ c ∈ cd g.txt, kdC c ≠ 1 := by rw [cd_sg]; cases g <;> decide
    obtain ⟨c, hc, hn⟩ := h2
    exact hn (k c (by show c ∈ cd (Tn.num n).txt; rw [e]; exact hc))
  | nam n =>
    exfalso
    have h2 : ∃ c ∈ cd g.txt, kdC c ≠ 0 := by rw [cd_sg]; cases g <;> decide
    obtain ⟨c, hc, hn⟩ := h2
    exact hn (k c (by show c ∈ cd (Tn.nam n).txt; rw [e]; exact hc))
/-- none of these signs comes -/
theorem pk_nx {L : Int} {rest : List Tn} (ho : ∀ t ∈ rest, POk (some t)) (h : nx L rest) (g : Sg) (hg : L ≤ g.lv) : pk rest ≠ g.txt := by
  cases rest with
  | nil =>
    intro e
    have := congrArg cd e
    rw [cd_sg] at this
    cases g <;> cases this
  | cons t r =>
    intro e
    have := sg_of_txt (ho t List.mem_cons_self) (show t.txt = g.txt from e)
    have := h g r (by rw [this])
    omega
end SH

set_option Elab.async false
set_option linter.all false
/-! slices of texts -/
namespace SH
open PySem L2
theorem cut_ij (z : Str) (i j : Nat) : cd (cutS z (some (i : Int)) (some (j : Int))) = ((cd z).drop (min i z.length)).take (min j z.length - min i z.length) := by
  unfold cutS
  rw [HT.sIx_nat, HT.sIx_nat]
  show ((List.take _ (List.drop _ (cd z))).toArray).toList = _
  rw [List.toList_toArray]
theorem cut_mid {z : Str} {A X B : List Nat} (h : cd z = A ++ (X ++ B)) : cutS z (some (A.length : Int)) (some ((A.length + X.length : Nat) : Int)) = ⟨X.toArray⟩ := by
  refine cd_inj ?_
  rw [cut_ij]
  have hl := cd_len z
  have hl2 := congrArg List.length h
  rw [List.length_append, List.length_append] at hl2
  rw [show min A.length z.length = A.length by omega, show min (A.length + X.length) z.length = A.length + X.length by omega, h, List.drop_left, Nat.add_sub_cancel_left, List.take_left]
  show X = (X.toArray).toList
  rw [List.toList_toArray]
theorem mk_cd (s : Str) : (⟨(cd s).toArray⟩ : Str) = s := cd_inj (by show ((cd s).toArray).toList = _; rw [List.toList_toArray])
end SH

set_option Elab.async false
set_option linter.all false
set_option maxRecDepth 100000
namespace SH
open PySem L2
abbrev sFigs : Stmt := topS 25
abbrev sRunAt : Stmt := topS 23
abbrev sPartAt : Stmt := topS 22
abbrev sIsPart : Stmt := topS 24
abbrev sPartsOf : Stmt := topS 21
theorem scFigs : FnScope ["part"] ["part"] (defScope sFigs) := ⟨rfl, rfl, rfl, by decide +kernel, rfl, by decide +kernel, by decide +kernel⟩
theorem scRun : FnScope ["text", "at", "signs", "behind"] ["text", "at", "signs"] (defScope sRunAt) := ⟨rfl, rfl, rfl, by decide +kernel, rfl, by decide +kernel, by decide +kernel⟩
theorem scPartAt : FnScope ["text", "at", "signs"] ["text", "at"] (defScope sPartAt) := ⟨rfl, rfl, rfl, by decide +kernel, rfl, by decide +kernel, by decide +kernel⟩
theorem scIsPart : FnScope ["text"] ["text"] (defScope sIsPart) := ⟨rfl, rfl, rfl, by decide +kernel, rfl, by decide +kernel, by decide +kernel⟩
theorem scPartsOf : FnScope ["text", "row", "parts", "at", "part"] ["text", "row"] (defScope sPartsOf) := ⟨rfl, rfl, rfl, by decide +kernel, rfl, by decide +kernel, by decide +kernel⟩
def figs : Str := "0123456789"
def marksL : List Str := ["(", ")", ",", "=", "==", "+", "-", "*", "<"]
/-- the names of the module of parts -/
structure Gp (K : PySem.W.Frag) (mg : Str → Option Value) : Prop where
  fg : ∃ t, mg "FIGURES" = some (.str figs t)
  np : ∃ t, mg "NO_PART" = some (.str Str.empty t)
  mks : ∃ a, mg "MARKS" = some (.ref a) ∧ ∀ H, SqT K H a (marksL.map V.str)
  figs : Gi mg "MOST_FIGURES" 30
  brks : Gi mg "MOST_BRACKETS" 8
def TOk (t : Tn) : Prop := POk (some t) ∧ ∀ s, t = .nam s → s ∉ kept
def figB (l : List Nat) : Bool := match l with
  | [] => false
  | c :: _ => decide (48 ≤ c ∧ c ≤ 57)
def spFigs : Sp := fun vs H Q _ => ∃ s, vs = [.str s] ∧ s.length ≤ 1000000 ∧ Q (.bl (figB (cd s))) H
/-- a run of signs from a place on -/
def spRun : Sp := fun vs H Q _ => ∃ (s z : Str) (A X B : List Nat), vs = [.str s, .int (A.length : Nat), .str z] ∧ cd s = A ++ (X ++ B) ∧ (∀ c ∈ X, c ∈ cd z) ∧ (∀ c r, B = c :: r → c ∉ cd z) ∧ s.length ≤ 1000000 ∧ Q (.str ⟨X.toArray⟩) H
/-- the part that begins at a place -/
def spPartAt : Sp := fun vs H Q _ => ∃ (s : Str) (A B : List Nat) (t : Tn), vs = [.str s, .int (A.length : Nat)] ∧ cd s = A ++ (cd t.txt ++ B) ∧ POk (some t) ∧ (∀ c r, B = c :: r → ¬ (kdC c = t.kd ∧ t.kd < 3)) ∧ s.length ≤ 1000000 ∧ ∀ H', Same H H' → Q (.str t.txt) H'
def spIsPart : Sp := fun vs H Q _ => ∃ t : Tn, vs = [.str t.txt] ∧ TOk t ∧ ∀ H', Same H H' → Q (.bl true) H'
def spPartsOf : Sp := fun vs H Q _ => ∃ (s : Str) (r : Int) (ps : List Pc), vs = [.str s, .int r] ∧ cd s = flat ps ∧ (∀ p ∈ ps, POk p) ∧ (∀ t, some t ∈ ps → TOk t) ∧ Ajs ps ∧ s.length ≤ 1000000 ∧
  ∀ (l : Addr) (H' : Hp), Same H H' → H l = none → H' l = some (.lst ((toks ps).map fun t => V.str t.txt)) → Q (.ref l) H'
theorem figs_are (c : Nat) : c ∈ figs.cps.toList ↔ 48 ≤ c ∧ c ≤ 57 := digs_are c
theorem lets_are' (c : Nat) : c ∈ letters.cps.toList ↔ 97 ≤ c ∧ c ≤ 122 := lets_are c
theorem tx_len8 {t : Tn} (h : POk (some t)) : t.txt.length ≤ 30 := by
  rw [← cd_len]
  cases t with
  | lp => rw [show cd (Tn.lp).txt = [40] from cd_lp]; decide
  | rp => rw [show cd (Tn.rp).txt = [41] from cd_rp]; decide
  | sg g => rw [show cd (Tn.sg g).txt = _ from cd_sg g]; cases g <;> decide
  | num n => rw [show cd (Tn.num n).txt = _ from cd_num h.1]; exact num_len h.1 h.2
  | nam s => have := h.2.1; show (cd s).length ≤ 30; omega
theorem kd_one (c : Nat) : kdC c = 1 ↔ 48 ≤ c ∧ c ≤ 57 := by
  constructor
  · intro h
    unfold kdC at h
    by_cases a : 97 ≤ c ∧ c ≤ 122
    · rw [if_pos a] at h; omega
    · rw [if_neg a] at h
      by_cases b : 48 ≤ c ∧ c ≤ 57
      · exact b
      · rw [if_neg b] at h
        split at h <;> (try split at h) <;> (try split at h) <;> omega
  · exact kd_dig
section
variable {P : Program} {w : World} {K : PySem.W.Frag} {mg : Str → Option Value} {base : Heap}
theorem ok_figs {f : Addr} {fd : FuncData} (F : Fun K "is_figures" "is_figures" sFigs f fd) (J : Gp K mg) : FnOk P w K mg base CX0 1 f fd ["part"] spFigs := by
  refine F.ok scFigs (fun vs H Q E h => ?_) (fun cdv A outer s H vs Q E hr h => ?_)
  · obtain ⟨s, rfl, _⟩ := h
    rfl
  obtain ⟨z, rfl, hz, q⟩ := h
  obtain ⟨tF, gFg⟩ := J.fg
  obtain ⟨tN, gNp⟩ := J.np
  refine ⟨_, (pss_one (ps_ret (pe_and (pe_cmpR op_ne (pv 0) (pe_glob (v := .str Str.empty) rfl gNp ⟨_, rfl⟩) (nomark _)) (pe_one (pe_cmpR op_in_sign (pe_ix ix_str (pv 0) pe_int (fun _ _ => rfl)) (pe_glob (v := .str figs) rfl gFg ⟨_, rfl⟩) rfl))))), ?_⟩
  have hs : sizeLine = 16777216 := by decide
  refine ⟨_, rfl, rfl, ?_⟩
  cases e : cd z with
  | nil =>
    rw [e] at q
    have : z = Str.empty := cd_inj (by rw [e]; rfl)
    rw [decide_eq_true (by rw [this])]
    exact ⟨_, rfl, iteF q⟩
  | cons c r =>
    rw [e] at q
    rw [decide_eq_false (fun h => by
      have := congrArg cd (V.str.inj h)
      rw [e] at this
      cases this)]
    refine ⟨_, rfl, iteT ?_⟩
    refine ⟨_, rfl, z, 0, c, rfl, rfl, by omega, (by show atI (cd z) 0 = some c; rw [e]; exact atI_nat (j := 0) rfl), c, figs, rfl, rfl, ?_⟩
    rw [show decide (c ∈ figs.cps.toList) = decide (48 ≤ c ∧ c ≤ 57) from decide_eq_decide.mpr (figs_are c)]
    exact q
theorem ok_run {f : Addr} {fd : FuncData} (F : Fun K "run_at" "run_at" sRunAt f fd) (T : Bi mg) : FnOk P w K mg base CX0 1 f fd ["text", "at", "signs"] spRun := by
  refine F.ok scRun (fun vs H Q E h => ?_) (fun cdv A outer s H vs Q E hr h => ?_)
  · obtain ⟨s, z, A, X, B, rfl, _⟩ := h
    rfl
  obtain ⟨t, z, A0, X, B, rfl, et, hX, hB, hz, q⟩ := h
  refine ⟨_, (pss_cons (ps_set (i := 3) scRun.nd rfl (Or.inl rfl) (pv 1))
    (pss_cons (ps_while PassesOwn.never (PW.pt (pw_and (pt_cmpR op_lt (pv 3) (pe_callB call_len (by rfl) T.len (by decide +kernel) (pa_cons (pv 0) pa_nil)) (nomark _)) (pw_and1 (pt_cmpR op_in_sign (pe_ix ix_str (pv 0) (pv 3) (fun _ _ => rfl)) (pv 2) rfl))))
      (pss_one (ps_aug (i := 3) scRun.nd rfl (Or.inl rfl) pe_int ip_add)))
    (pss_one (ps_ret (pe_slice sl_str (pv 0) (po_some (pv 1)) (po_some (pv 3))))))), ?_⟩
  have hs : sizeLine = 16777216 := by decide
  have hl := cd_len t
  have hl2 := congrArg List.length et
  rw [List.length_append, List.length_append] at hl2
  refine ⟨_, rfl, ?_⟩
  refine ⟨fun m σ H' => ∃ j, m = X.length - j ∧ j ≤ X.length ∧ σ = [some (.str t), some (.int (A0.length : Nat)), some (.str z), some (.int ((A0.length + j : Nat) : Int))] ∧ H = H', ⟨_, 0, rfl, Nat.zero_le _, rfl, rfl⟩, ?_⟩
  rintro m σ _ ⟨j, rfl, hj, rfl, rfl⟩
  have hlen : (A0.length + j : Nat) < t.length ↔ j < X.length ∨ B ≠ [] := by
    constructor
    · intro h
      by_cases hb : B = []
      · rw [hb] at hl2; simp only [List.length_nil] at hl2; exact .inl (by omega)
      · exact .inr hb
    · rintro (h | h)
      · omega
      · have := List.length_pos_iff.mpr h; omega
  have fin : j = X.length → Q (.str (cutS t (some (A0.length : Int)) (some ((A0.length + j : Nat) : Int)))) H := fun e => by
    rw [e, cut_mid et]; exact q
  refine ⟨_, rfl, _, rfl, _, _, rfl, ⟨by omega, rfl⟩, _, _, rfl, rfl, _, rfl, ?_⟩
  by_cases c1 : A0.length + j < t.length
  · rw [decide_eq_true (by omega : ((A0.length + j : Nat) : Int) < (t.length : Nat))]
    refine iteT ?_
    have hat : ∃ c, (cd t)[A0.length + j]? = some c := ⟨_, List.getElem?_eq_getElem (by omega)⟩
    obtain ⟨c, hc⟩ := hat
    refine ⟨_, rfl, _, rfl, t, _, c, rfl, rfl, by omega, atI_nat hc, _, rfl, c, z, rfl, rfl, _, rfl, ?_⟩
    rw [et, List.getElem?_append_right (by omega), show A0.length + j - A0.length = j by omega] at hc
    by_cases c2 : j < X.length
    · rw [List.getElem?_append_left c2] at hc
      rw [decide_eq_true (show c ∈ z.cps.toList from hX c (List.mem_of_getElem? hc))]
      refine iteT ⟨fun σ' H' => σ' = [some (.str t), some (.int (A0.length : Nat)), some (.str z), some (.int ((A0.length + (j + 1) : Nat) : Int))] ∧ H = H', ?_, ?_⟩
      · rintro σ' H' ⟨rfl, rfl⟩
        exact ⟨X.length - (j + 1), by omega, j + 1, rfl, c2, rfl, rfl⟩
      · refine ⟨_, rfl, _, _, rfl, rfl, ?_, rfl⟩
        show [some (V.str t), some (V.int (A0.length : Nat)), some (V.str z), some (V.int (((A0.length + j : Nat) : Int) + 1))] = _
        rw [show ((A0.length + j : Nat) : Int) + 1 = ((A0.length + (j + 1) : Nat) : Int) by omega]
    · have ej : j = X.length := by omega
      rw [List.getElem?_append_right (by omega), ej, Nat.sub_self] at hc
      rw [decide_eq_false (show ¬ c ∈ z.cps.toList from by
        cases B with
        | nil => cases hc
        | cons b r => cases hc; exact hB _ r rfl)]
      refine iteF ?_
      exact ⟨_, rfl, _, rfl, _, rfl, _, rfl, _, rfl, _, rfl, by omega, fin ej⟩
  · rw [decide_eq_false (by omega : ¬ ((A0.length + j : Nat) : Int) < (t.length : Nat))]
    refine iteF ?_
    refine iteF ?_
    have ej : j = X.length := by
      by_cases e : j < X.length
      · exact absurd (hlen.mpr (.inl e)) c1
      · omega
    exact ⟨_, rfl, _, rfl, _, rfl, _, rfl, _, rfl, _, rfl, by omega, fin ej⟩
theorem ok_partAt {f g : Addr} {fd gd : FuncData} (F : Fun K "part_at" "part_at" sPartAt f fd) (RU : Fk P w K mg base 1 "run_at" g gd ["text", "at", "signs"] spRun) (G : Gf K mg) (J : Gp K mg) : FnOk P w K mg base CX0 2 f fd ["text", "at"] spPartAt := by
  refine F.ok scPartAt (fun vs H Q E h => ?_) (fun cdv A outer s H vs Q E hr h => ?_)
  · obtain ⟨s, A, B, t, rfl, _⟩ := h
    rfl
  obtain ⟨z, A0, B, t, rfl, et, hp, hB, hz, q⟩ := h
  obtain ⟨tF, gFg⟩ := J.fg
  obtain ⟨tL, gLt⟩ := G.letters
  refine ⟨_, (pss_cons (ps_for PassesOwn.never rfl (pi_tup (pe_tup (pa_cons (pe_glob (v := .str letters) rfl gLt ⟨_, rfl⟩) (pa_cons (pe_glob (v := .str figs) rfl gFg ⟨_, rfl⟩) pa_nil)))) (pg_name (i := 2) scPartAt.nd rfl (.inl rfl))
      (pss_one (ps_if (pt_cmpR op_in_sign (pe_ix ix_str (pv 0) (pv 1) (fun _ _ => rfl)) (pv 2) rfl)
      (pss_one (ps_ret (pe_call RU.G (hr.mono (by omega)) (by rfl) RU.m RU.k RU.b .nil pass0 (pa_cons (pv 0) (pa_cons (pv 1) (pa_cons (pv 2) pa_nil))))))
      pss_nil)))
    (pss_one (ps_ret (pe_ifExp (pt_cmpR op_eq (pe_slice sl_str (pv 0) (po_some (pv 1)) (po_some (pe_op op_add (pv 1) pe_int))) pe_str (nomark _)) pe_str (pe_ix ix_str (pv 0) (pv 1) (fun _ _ => rfl)))))), ?_⟩
  have hs : sizeLine = 16777216 := by decide
  have hl := cd_len z
  have hl2 := congrArg List.length et
  rw [List.length_append, List.length_append] at hl2
  refine ⟨(by show 2 ≤ sizeLine; decide), fun p np => ?_⟩
  have S1 := same_new np (.tup [.str letters, .str figs])
  have h1 : (upd H p (.tup [.str letters, .str figs])) p = some (.tup [.str letters, .str figs]) := upd_same
  generalize upd H p (.tup [.str letters, .str figs]) = H1 at S1 h1
  obtain ⟨c0, r0, e0⟩ : ∃ c r, cd t.txt = c :: r := by
    cases e : cd t.txt with
    | nil => exact absurd e (pc_ne hp)
    | cons c r => exact ⟨c, r, rfl⟩
  have k0 : kdC c0 = t.kd := pc_kinds hp c0 (by show c0 ∈ cd t.txt; rw [e0]; exact List.mem_cons_self)
  have hat : (cd z)[A0.length]? = some c0 := by
    rw [et, List.getElem?_append_right (Nat.le_refl _), Nat.sub_self, e0]
    rfl
  refine ⟨p, rfl, ⟨_, SqT.of h1⟩, for_tup (K := K) (a := p) (xs := [.str letters, .str figs]) (fun i σ H' => ∃ y : Option V, σ = [some (.str z), some (.int (A0.length : Nat)), y] ∧ H1 = H' ∧ (1 ≤ i → t.kd ≠ 0) ∧ (2 ≤ i → t.kd ≠ 1)) ⟨_, rfl, rfl, fun h => by omega, fun h => by omega⟩ (fun i σ H' _ ⟨_, _, e, _⟩ => by rw [← e]; exact SqT.of h1) ?_ ?_⟩
  · rintro i x σ _ hx ⟨y, rfl, rfl, h0, h1'⟩
    have run : ∀ (sg : Str), (∀ c, c ∈ sg.cps.toList ↔ kdC c = t.kd) → t.kd < 3 → spRun [.str z, .int (A0.length : Nat), .str sg] H1 Q E := fun sg hsg hk =>
      ⟨z, sg, A0, cd t.txt, B, rfl, et, fun c hc => (hsg c).mpr (pc_kinds hp c hc), fun c r e h => hB c r e ⟨(hsg c).mp h, hk⟩, hz, by rw [mk_cd]; exact q H1 S1⟩
    have kl : ∀ c, c ∈ letters.cps.toList ↔ kdC c = 0 := fun c => by
      rw [lets_are']
      unfold kdC
      constructor
      · intro h; rw [if_pos h]
      · intro h
        by_cases a : 97 ≤ c ∧ c ≤ 122
        · exact a
        · rw [if_neg a] at h
          split at h <;> (try split at h) <;> (try split at h) <;> (try split at h) <;> omega
    have kf : ∀ c, c ∈ figs.cps.toList ↔ kdC c = 1 := fun c => by
      rw [figs_are]
      constructor
      · intro h; exact kd_dig h
      · intro h
        unfold kdC at h
        by_cases a : 97 ≤ c ∧ c ≤ 122
        · rw [if_pos a] at h; omega
        · rw [if_neg a] at h
          by_cases b : 48 ≤ c ∧ c ≤ 57
          · exact b
          · rw [if_neg b] at h
            split at h <;> (try split at h) <;> (try split at h) <;> omega
    match i, hx with
    | 0, hx =>
      cases hx
      refine ⟨_, rfl, _, rfl, z, _, c0, rfl, rfl, by omega, atI_nat hat, _, rfl, c0, letters, rfl, rfl, _, rfl, ?_⟩
      by_cases c : t.kd = 0
      · rw [decide_eq_true ((kl c0).mpr (by omega))]
        refine iteT ?_
        exact ⟨_, rfl, _, rfl, _, rfl, run letters (fun c' => by rw [kl c', c]) (by omega)⟩
      · rw [decide_eq_false (fun h => c (by have := (kl c0).mp h; omega))]
        exact iteF ⟨_, rfl, rfl, fun _ => c, fun h => by omega⟩
    | 1, hx =>
      cases hx
      refine ⟨_, rfl, _, rfl, z, _, c0, rfl, rfl, by omega, atI_nat hat, _, rfl, c0, figs, rfl, rfl, _, rfl, ?_⟩
      by_cases c : t.kd = 1
      · rw [decide_eq_true ((kf c0).mpr (by omega))]
        refine iteT ?_
        exact ⟨_, rfl, _, rfl, _, rfl, run figs (fun c' => by rw [kf c', c]) (by omega)⟩
      · rw [decide_eq_false (fun h => c (by have := (kf c0).mp h; omega))]
        exact iteF ⟨_, rfl, rfl, fun _ => h0 (Nat.le_refl 1), fun _ => c⟩
    | i + 2, hx => cases hx
  · rintro σ _ ⟨y, rfl, rfl, h0, h1'⟩
    have k0' := h0 (by decide)
    have k1' := h1' (by decide)
    refine ⟨_, rfl, _, rfl, _, rfl, _, rfl, _, _, rfl, rfl, _, rfl, z, rfl, by omega, rfl, _, rfl, ?_⟩
    have hcut : cd (cutS z (some (A0.length : Int)) (some ((A0.length : Int) + 2))) = (cd t.txt ++ B).take 2 := by
      have := cut_ij z A0.length (A0.length + 2)
      rw [show ((A0.length + 2 : Nat) : Int) = (A0.length : Int) + 2 by omega] at this
      rw [this, show min A0.length z.length = A0.length by omega, et, List.drop_left]
      by_cases c2 : A0.length + 2 ≤ z.length
      · rw [show min (A0.length + 2) z.length - A0.length = 2 by omega]
      · have h3 : (cd t.txt ++ B).length ≤ 2 := by rw [List.length_append]; omega
        rw [List.take_of_length_le (i := 2) h3, List.take_of_length_le (by rw [List.length_append]; omega)]
    have ceq : cd ("==" : Str) = [61, 61] := by decide +kernel
    by_cases ce : t = .sg .eq
    · subst ce
      have : cutS z (some (A0.length : Int)) (some ((A0.length : Int) + 2)) = ("==" : Str) := cd_inj (by
        rw [hcut, show cd (Tn.sg .eq).txt = [61, 61] from cd_sg .eq, ceq]; rfl)
      rw [show decide (V.str (cutS z (some (A0.length : Int)) (some ((A0.length : Int) + 2))) = V.str "==") = true from decide_eq_true (by rw [this])]
      refine iteT ?_
      exact q H1 S1
    · have one : ∃ c, cd t.txt = [c] ∧ c ≠ 61 := by
        cases t with
        | lp => exact ⟨40, cd_lp, by decide⟩
        | rp => exact ⟨41, cd_rp, by decide⟩
        | num n => exact absurd rfl k1'
        | nam n => exact absurd rfl k0'
        | sg g =>
          have := cd_sg g
          cases g with
          | eq => exact absurd rfl ce
          | add => exact ⟨43, this, by decide⟩
          | sub => exact ⟨45, this, by decide⟩
          | mul => exact ⟨42, this, by decide⟩
          | lt => exact ⟨60, this, by decide⟩
      obtain ⟨c, ec, hc⟩ := one
      rw [ec] at e0
      have ecc : c0 = c := (List.cons.inj e0).1.symm
      rw [show decide (V.str (cutS z (some (A0.length : Int)) (some ((A0.length : Int) + 2))) = V.str "==") = false from decide_eq_false (fun h => by
        have := congrArg cd (V.str.inj h)
        rw [hcut, ec, ceq] at this
        exact hc (List.cons.inj this).1)]
      refine iteF ?_
      refine ⟨_, rfl, _, rfl, z, _, c0, rfl, rfl, by omega, atI_nat hat, ?_⟩
      have : (⟨#[c0]⟩ : Str) = t.txt := cd_inj (by rw [ec, ecc]; rfl)
      rw [this]
      exact q H1 S1
theorem ok_isPart {f g h : Addr} {fd gd hd : FuncData} (F : Fun K "is_part" "is_part" sIsPart f fd) (IF : Fk P w K mg base 1 "is_figures" g gd ["part"] spFigs) (IN : Fk P w K mg base 1 "is_name" h hd ["thing"] spIsName) (G : Gf K mg) (J : Gp K mg) : FnOk P w K mg base CX0 2 f fd ["text"] spIsPart := by
  refine F.ok scIsPart (fun vs H Q E h => ?_) (fun cdv A outer s H vs Q E hr h => ?_)
  · obtain ⟨t, rfl, _⟩ := h
    rfl
  obtain ⟨t, rfl, ht, q⟩ := h
  obtain ⟨aW, gW, sW⟩ := G.words
  obtain ⟨aMk, gMk, sMk⟩ := J.mks
  have hp := ht.1
  have htl : t.txt.length ≤ 30 := tx_len8 hp
  refine ⟨_, (pss_cons (ps_if (pt_val (pe_call IF.G (hr.mono (by omega)) (by rfl) IF.m IF.k IF.b .nil pass0 (pa_cons (pv 0) pa_nil)))
      (pss_one (ps_ret (pe_or (pe_cmpR op_eq (pv 0) pe_str (nomark _)) (pe_one (pe_cmpR op_ne (pe_ix ix_str (pv 0) pe_int (fun _ _ => rfl)) pe_str (nomark _))))))
      pss_nil)
    (pss_one (ps_ret (pe_or (pe_cmpR op_in_seq (pv 0) (pe_glob (v := .ref aMk) rfl gMk rfl) rfl) (pe_or (pe_cmpR op_in_seq (pv 0) (pe_glob (v := .ref aW) rfl gW rfl) rfl) (pe_one (pe_call IN.G (hr.mono (by omega)) (by rfl) IN.m IN.k IN.b .nil pass0 (pa_cons (pv 0) pa_nil)))))))), ?_⟩
  have hs : sizeLine = 16777216 := by decide
  obtain ⟨c0, r0, e0⟩ : ∃ c r, cd t.txt = c :: r := by
    cases e : cd t.txt with
    | nil => exact absurd e (pc_ne hp)
    | cons c r => exact ⟨c, r, rfl⟩
  have k0 : kdC c0 = t.kd := pc_kinds hp c0 (by show c0 ∈ cd t.txt; rw [e0]; exact List.mem_cons_self)
  have hf : figB (cd t.txt) = decide (t.kd = 1) := by
    rw [e0]
    refine decide_eq_decide.mpr ?_
    rw [← k0]
    exact (kd_one c0).symm
  refine ⟨_, rfl, _, rfl, by omega, _, rfl, ?_⟩
  rw [hf]
  by_cases c1 : t.kd = 1
  · rw [decide_eq_true c1]
    refine iteT ?_
    obtain ⟨_, d, r, ed, hd⟩ := (pc_chk hp).2 c1
    have ed' : cd t.txt = d :: r := ed
    refine ⟨_, rfl, rfl, _, rfl, ?_⟩
    by_cases c2 : t.txt = ("0" : Str)
    · rw [decide_eq_true (by rw [c2])]
      exact iteT (q H (Same.refl H))
    · rw [decide_eq_false (fun z => c2 (V.str.inj z))]
      refine iteF ?_
      refine ⟨_, rfl, t.txt, 0, d, rfl, rfl, by omega, (by show atI (cd t.txt) 0 = some d; rw [ed']; exact atI_nat (j := 0) rfl), rfl, ?_⟩
      rw [decide_eq_false (fun z => c2 (by
        have h1 := congrArg cd (V.str.inj z)
        rw [show cd ("0" : Str) = [48] by decide +kernel] at h1
        have h2 : d = 48 := (List.cons.inj h1).1
        refine cd_inj ?_
        rw [ed', hd h2, h2]
        decide +kernel))]
      exact q H (Same.refl H)
  · rw [decide_eq_false c1]
    refine iteF ?_
    refine ⟨_, rfl, aMk, _, rfl, .inr (sMk _), rfl, flat_strs marksL, _, rfl, ?_⟩
    rw [if_neg Bool.false_ne_true, inV_str]
    by_cases cn : ∃ s, t = .nam s
    · obtain ⟨s', rfl⟩ := cn
      have hno : (Tn.nam s').txt ∉ marksL := fun hm => by
        have all : ∀ x ∈ marksL, ∃ c ∈ cd x, kdC c ≠ 0 := by decide +kernel
        obtain ⟨c, hc, hn⟩ := all _ hm
        exact hn (pc_kinds hp c hc)
      rw [decide_eq_false hno]
      refine iteF ?_
      refine ⟨_, rfl, aW, _, rfl, .inr (sW _), rfl, flat_strs kept, _, rfl, ?_⟩
      rw [if_neg Bool.false_ne_true, inV_str, decide_eq_false (show (Tn.nam s').txt ∉ kept from ht.2 s' rfl)]
      refine iteF ?_
      exact ⟨_, rfl, s', rfl, ⟨hp, ht.2 s' rfl⟩, q⟩
    · have hin : t.txt ∈ marksL := by
        cases t with
        | lp => decide +kernel
        | rp => decide +kernel
        | sg g => cases g <;> decide +kernel
        | num n => exact absurd rfl c1
        | nam s' => exact absurd ⟨s', rfl⟩ cn
      rw [decide_eq_true hin]
      exact iteT (q H (Same.refl H))
theorem ok_partsOf {f g h : Addr} {fd gd hd : FuncData} (F : Fun K "parts_of" "parts_of" sPartsOf f fd) (PA : Fk P w K mg base 2 "part_at" g gd ["text", "at"] spPartAt) (IP : Fk P w K mg base 2 "is_part" h hd ["text"] spIsPart) (T : Bi mg) : FnOk P w K mg base CX0 3 f fd ["text", "row"] spPartsOf := by
  refine F.ok scPartsOf (fun vs H Q E h => ?_) (fun cdv A outer s H vs Q E hr h => ?_)
  · obtain ⟨s, r, ps, rfl, _⟩ := h
    rfl
  obtain ⟨z, r, ps, rfl, ez, ho, ht, hA, hz, q⟩ := h
  refine ⟨_, (pss_cons (ps_set (i := 2) scPartsOf.nd rfl (Or.inl rfl) (pe_lst pa_nil))
    (pss_cons (ps_set (i := 3) scPartsOf.nd rfl (Or.inl rfl) pe_int)
    (pss_cons (ps_while PassesOwn.never (pt_cmpR op_lt (pv 3) (pe_callB call_len (by rfl) T.len (by decide +kernel) (pa_cons (pv 0) pa_nil)) (nomark _))
      (pss_one (ps_if (pt_cmpR op_eq (pe_ix ix_str (pv 0) (pv 3) (fun _ _ => rfl)) pe_str (nomark _))
      (pss_one (ps_aug (i := 3) scPartsOf.nd rfl (Or.inl rfl) pe_int ip_add))
      (pss_cons (ps_set (i := 4) scPartsOf.nd rfl (Or.inl rfl) (pe_call PA.G (hr.mono (by omega)) (by rfl) PA.m PA.k PA.b .nil pass0 (pa_cons (pv 0) (pa_cons (pv 3) pa_nil))))
    (pss_cons (ps_if (pt_not (pt_val (pe_call IP.G (hr.mono (by omega)) (by rfl) IP.m IP.k IP.b .nil pass0 (pa_cons (pv 4) pa_nil))))
      (pss_one ps_never)
      pss_nil)
    (pss_cons (ps_expr (pe_bm PySem.F.plainAttrs_list PySem.F.slot_list_append PySem.F.type_list_append mt_append (pv 2) (pa_cons (pv 4) pa_nil)))
    (pss_one (ps_aug (i := 3) scPartsOf.nd rfl (Or.inl rfl) (pe_callB call_len (by rfl) T.len (by decide +kernel) (pa_cons (pv 4) pa_nil)) ip_add))))))))
    (pss_one (ps_ret (pv 2)))))), ?_⟩
  have hs : sizeLine = 16777216 := by decide
  refine ⟨Nat.zero_le _, fun l nl => ?_⟩
  have hl := cd_len z
  have hps := flat_ne ho
  rw [← ez, hl] at hps
  refine ⟨fun m σ H' => ∃ (j : Nat) (y : Option V), m = ps.length - j ∧ j ≤ ps.length ∧ σ = [some (.str z), some (.int r), some (.ref l), some (.int ((flat (ps.take j)).length : Nat)), y] ∧ Same H H' ∧ H' l = some (.lst ((toks (ps.take j)).map fun t => V.str t.txt)), ⟨_, 0, _, rfl, Nat.zero_le _, rfl, same_new nl _, upd_same⟩, ?_⟩
  rintro m σ H1 ⟨j, y, rfl, hj, rfl, S1, h1⟩
  refine ⟨_, rfl, _, rfl, _, _, rfl, ⟨by omega, rfl⟩, _, _, rfl, rfl, _, rfl, ?_⟩
  by_cases cj : j < ps.length
  · have hpi : ps[j]? = some ps[j] := List.getElem?_eq_getElem cj
    have hdr : ps.drop j = ps[j] :: ps.drop (j + 1) := List.drop_eq_getElem_cons cj
    generalize ps[j] = p at hpi hdr
    have hpo := ho p (List.mem_of_getElem? hpi)
    have esp : ps = ps.take j ++ p :: ps.drop (j + 1) := by rw [← hdr, List.take_append_drop]
    have et1 : ps.take (j + 1) = ps.take j ++ [p] := by rw [List.take_add_one, hpi]; rfl
    have ez2 : cd z = flat (ps.take j) ++ (cd (ptxt p) ++ flat (ps.drop (j + 1))) := by
      rw [ez]
      conv => lhs; rw [esp]
      rw [flat_app, flat_cons]
    have hn := List.length_pos_iff.mpr (pc_ne hpo)
    have hl2 := congrArg List.length ez2
    rw [List.length_append, List.length_append] at hl2
    have hat : ∃ c r', cd (ptxt p) = c :: r' ∧ (cd z)[(flat (ps.take j)).length]? = some c := by
      cases e : cd (ptxt p) with
      | nil => exact absurd e (pc_ne hpo)
      | cons c r' =>
        refine ⟨c, r', rfl, ?_⟩
        rw [ez2, List.getElem?_append_right (Nat.le_refl _), Nat.sub_self, e]
        rfl
    obtain ⟨c, r', ec, hat⟩ := hat
    rw [decide_eq_true (by omega : (((flat (ps.take j)).length : Nat) : Int) < (z.length : Nat))]
    refine iteT ⟨fun σ' H' => ∃ y : Option V, σ' = [some (.str z), some (.int r), some (.ref l), some (.int ((flat (ps.take (j + 1))).length : Nat)), y] ∧ Same H H' ∧ H' l = some (.lst ((toks (ps.take (j + 1))).map fun t => V.str t.txt)), ?_, ?_⟩
    · rintro σ' H' ⟨y', rfl, a1, a2⟩
      exact ⟨ps.length - (j + 1), by omega, j + 1, y', rfl, cj, rfl, a1, a2⟩
    · have efl : (flat (ps.take (j + 1))).length = (flat (ps.take j)).length + (cd (ptxt p)).length := by rw [et1, flat_app, List.length_append, flat_cons, List.length_append]; show _ + (_ + 0) = _; omega
      refine ⟨_, rfl, _, rfl, z, _, c, rfl, rfl, by omega, atI_nat hat, rfl, _, rfl, ?_⟩
      rcases p with _ | t
      · have e32 : c = 32 := by
          rw [show cd (ptxt none) = [32] from cd_bl] at ec
          exact (List.cons.inj ec).1.symm
        subst e32
        rw [decide_eq_true (by decide +kernel)]
        refine iteT ?_
        refine ⟨_, rfl, _, _, rfl, rfl, y, ?_, S1, ?_⟩
        · show [some (V.str z), some (V.int r), some (V.ref l), some (V.int ((((flat (ps.take j)).length : Nat) : Int) + 1)), y] = _
          rw [efl, show (cd (ptxt none)).length = 1 from congrArg List.length cd_bl]
          rfl
        · rw [et1, toks_app]
          show _ = some (HO.lst ((toks (ps.take j) ++ []).map _))
          rw [List.append_nil]
          exact h1
      · have hno : c ≠ 32 := fun e => pc_blank hpo (by show 32 ∈ cd t.txt; rw [← e]; show c ∈ cd (ptxt (some t)); rw [ec]; exact List.mem_cons_self)
        rw [decide_eq_false (fun h => hno (by
          have := congrArg cd (V.str.inj h)
          rw [cd_bl] at this
          exact (List.cons.inj this).1))]
        refine iteF ?_
        have htk := ht t (List.mem_of_getElem? hpi)
        refine ⟨_, rfl, _, rfl, z, flat (ps.take j), flat (ps.drop (j + 1)), t, rfl, ez2, hpo, fun c' r'' e => ?_, hz, fun H2 S2 => ?_⟩
        · have hA' := Ajs.drop j hA
          rw [hdr] at hA'
          cases hq : ps.drop (j + 1) with
          | nil => rw [hq] at e; cases e
          | cons u us =>
            rw [hq] at hA' e
            have hu := ho u (by rw [esp, hq]; exact List.mem_append_right _ (List.mem_cons_of_mem _ List.mem_cons_self))
            have ek : kdC c' = pkd u := by
              refine pc_kinds hu c' ?_
              rw [flat_cons] at e
              cases hcu : cd (ptxt u) with
              | nil => exact absurd hcu (pc_ne hu)
              | cons a b => rw [hcu] at e; rw [(List.cons.inj e).1]; exact List.mem_cons_self
            rintro ⟨a1, a2⟩
            exact hA'.1 ⟨by show t.kd = pkd u; omega, a2⟩
        refine ⟨_, rfl, t, rfl, htk, fun H3 S3 => ⟨_, rfl, ?_⟩⟩
        refine iteF ?_
        have S13 := S2.trans S3
        have h3 := S13 _ _ h1
        refine ⟨_, rfl, .inl ⟨rfl, _, SqL.of h3⟩, _, rfl, l, _, _, rfl, rfl, h3, ?_, ?_⟩
        · rw [List.length_map]
          have : (toks (ps.take j)).length ≤ (ps.take j).length := List.length_filterMap_le _ _
          rw [List.length_take] at this
          omega
        have htl := tx_len8 hpo
        refine ⟨_, rfl, _, rfl, _, _, rfl, ⟨by show t.txt.length ≤ sizeLine; omega, rfl⟩, _, _, rfl, rfl, some (.str t.txt), ?_, fun b u e => ?_, ?_⟩
        · show [some (V.str z), some (V.int r), some (V.ref l), some (V.int ((((flat (ps.take j)).length : Nat) : Int) + ((t.txt.length : Nat) : Int))), some (V.str t.txt)] = _
          rw [efl, show (cd (ptxt (some t))).length = t.txt.length from cd_len _]
          rfl
        · rw [upd_ne (ne_of_none e nl)]
          exact S13 _ _ (S1 _ _ e)
        · rw [upd_same, et1, toks_app, List.map_append]
          rfl
  · have ej : j = ps.length := by omega
    subst ej
    rw [List.take_length] at h1 ⊢
    rw [decide_eq_false (by rw [← ez, hl]; omega : ¬ (((flat ps).length : Nat) : Int) < (z.length : Nat))]
    refine iteF ?_
    exact ⟨_, rfl, q l H1 S1 nl h1⟩
end
end SH

set_option Elab.async false
set_option linter.all false
set_option maxRecDepth 100000
namespace SH
open PySem L2
abbrev sLineInit : Stmt := inClass (topS 26) 0
abbrev sPeek : Stmt := inClass (topS 26) 1
abbrev sTakeL : Stmt := inClass (topS 26) 2
abbrev sSkip : Stmt := inClass (topS 26) 3
theorem scLineInit : FnScope ["self", "text", "row"] ["self", "text", "row"] (defScope sLineInit) := ⟨rfl, rfl, rfl, by decide +kernel, rfl, by decide +kernel, by decide +kernel⟩
theorem scPeek : FnScope ["self"] ["self"] (defScope sPeek) := ⟨rfl, rfl, rfl, by decide +kernel, rfl, by decide +kernel, by decide +kernel⟩
theorem scTakeL : FnScope ["self", "part"] ["self"] (defScope sTakeL) := ⟨rfl, rfl, rfl, by decide +kernel, rfl, by decide +kernel, by decide +kernel⟩
theorem scSkip : FnScope ["self", "wanted"] ["self", "wanted"] (defScope sSkip) := ⟨rfl, rfl, rfl, by decide +kernel, rfl, by decide +kernel, by decide +kernel⟩
/-- a method that can be called -/
structure FkMm (P : Program) (w : World) (K : PySem.W.Frag) (mg : Str → Option Value) (base : Heap) (lv : Nat) (C : Addr) (m : Str) (f : Addr) (fd : FuncData) (ps : List Str) (sp : Sp) : Prop where
  M : Meth K C m f
  G : FnOk P w K mg base CX0 lv f fd ps sp
  b : Binds K fd ps []
structure LineT (K : PySem.W.Frag) (C : Addr) : Prop where
  cl : Cls K C
  parts : NoAttr K C "parts"
  row : NoAttr K C "row"
  place : NoAttr K C "place"
def lnF (l : Addr) (r k : Int) : List (Str × V) := [("parts", .ref l), ("row", .int r), ("place", .int k)]
/-- a line's parts, and how far it is read -/
structure LnS (H : Hp) (C x dx l : Addr) (r : Int) (ts : List Tn) (k : Nat) : Prop where
  ins : H x = some (.ins C dx (lnF l r (k : Nat)))
  lst : H l = some (.lst (ts.map fun t => V.str t.txt))
def tokAt (ts : List Tn) (k : Nat) : Str := match ts[k]? with
  | some t => t.txt
  | none => Str.empty
def ButX (x : Addr) (H H' : Hp) : Prop := ∀ a u, a ≠ x → H a = some u → H' a = some u
theorem ButX.refl {x : Addr} (H : Hp) : ButX x H H := fun _ _ _ e => e
theorem ButX.trans {x : Addr} {H H1 H2 : Hp} (h : ButX x H H1) (k : ButX x H1 H2) : ButX x H H2 := fun a u n e => k a u n (h a u n e)
theorem ButX.same {x : Addr} {H H1 : Hp} (h : Same H H1) : ButX x H H1 := fun a u _ e => h a u e
theorem TrIn.butx {H H' : Hp} {x C dx : Addr} {fs : List (Str × V)} (hx : H x = some (.ins C dx fs)) (h : ButX x H H') : ∀ {e : Ex} {v : V}, TrIn H e v → TrIn H' e v
  | .num n, v, ⟨a, e, k⟩ => ⟨a, e, h _ _ (fun z => by rw [z, hx] at k; cases k) k⟩
  | .nam n, v, ⟨a, e, k⟩ => ⟨a, e, h _ _ (fun z => by rw [z, hx] at k; cases k) k⟩
  | .op g l r, v, ⟨a, p, q, e, k, m, n⟩ => ⟨a, p, q, e, h _ _ (fun z => by rw [z, hx] at k; cases k) k, TrIn.butx hx h m, TrIn.butx hx h n⟩
def spLineInit (C : Addr) : Sp := fun vs H Q _ => ∃ (x dx : Addr) (s : Str) (r : Int) (ps : List Pc), vs = [.ref x, .str s, .int r] ∧ H x = some (.ins C dx []) ∧ cd s = flat ps ∧ (∀ p ∈ ps, POk p) ∧ (∀ t, some t ∈ ps → TOk t) ∧ Ajs ps ∧ s.length ≤ 1000000 ∧
  ∀ (l : Addr) (H' : Hp), H l = none → LnS H' C x dx l r (toks ps) 0 → ButX x H H' → Q .non H'
def spPeek (C : Addr) : Sp := fun vs H Q _ => ∃ (x dx l : Addr) (r : Int) (ts : List Tn) (k : Nat), vs = [.ref x] ∧ LnS H C x dx l r ts k ∧ k ≤ ts.length + 1000 ∧ ts.length ≤ 1000000 ∧ Q (.str (tokAt ts k)) H
def spTakeL (C : Addr) : Sp := fun vs H Q _ => ∃ (x dx l : Addr) (r : Int) (ts : List Tn) (k : Nat), vs = [.ref x] ∧ LnS H C x dx l r ts k ∧ k ≤ ts.length + 1000 ∧ ts.length ≤ 1000000 ∧ ∀ H', LnS H' C x dx l r ts (k + 1) → ButX x H H' → Q (.str (tokAt ts k)) H'
def spSkip (C : Addr) : Sp := fun vs H Q _ => ∃ (x dx l : Addr) (r : Int) (ts : List Tn) (k : Nat) (z : Str), vs = [.ref x, .str z] ∧ LnS H C x dx l r ts k ∧ k ≤ ts.length + 1000 ∧ ts.length ≤ 1000000 ∧ tokAt ts k = z ∧ ∀ H', LnS H' C x dx l r ts (k + 1) → ButX x H H' → Q .non H'
section
variable {P : Program} {w : World} {K : PySem.W.Frag} {mg : Str → Option Value} {base : Heap}
theorem upd_upd {H : Hp} {a : Addr} {o o' : HO} : upd (upd H a o) a o' = upd H a o' := by
  funext b
  by_cases e : b = a
  · rw [e, upd_same, upd_same]
  · rw [upd_ne e, upd_ne e, upd_ne e]
theorem ok_lineInit {f g C : Addr} {fd gd : FuncData} (F : Fun K "__init__" "Line.__init__" sLineInit f fd) (LT : LineT K C) (PO : Fk P w K mg base 3 "parts_of" g gd ["text", "row"] spPartsOf) : FnOk P w K mg base CX0 4 f fd ["self", "text", "row"] (spLineInit C) := by
  refine F.ok scLineInit (fun vs H Q E h => ?_) (fun cdv A outer s H vs Q E hr h => ?_)
  · obtain ⟨x, dx, s, r, ps, rfl, _⟩ := h
    rfl
  obtain ⟨x, dx, s, r, ps, rfl, hx, ez, ho, ht, hA, hz, q⟩ := h
  refine ⟨_, (pss_cons (ps_fld (pv 0) (pe_call PO.G (hr.mono (by omega)) (by rfl) PO.m PO.k PO.b .nil pass0 (pa_cons (pv 1) (pa_cons (pv 2) pa_nil))) rfl)
    (pss_cons (ps_fld (pv 0) (pv 2) rfl)
    (pss_one (ps_fld (pv 0) pe_int rfl)))), ?_⟩
  refine ⟨_, rfl, _, rfl, s, r, ps, rfl, ez, ho, ht, hA, hz, fun l H1 S1 nl hl => ?_⟩
  have hx1 := S1 _ _ hx
  have nlx : l ≠ x := fun z => by rw [z, hx] at nl; cases nl
  refine ⟨_, rfl, x, C, dx, _, rfl, hx1, LT.cl, LT.parts, (by decide), ?_⟩
  refine ⟨_, rfl, _, rfl, x, C, dx, _, rfl, upd_same, LT.cl, LT.row, (by show 1 < 1000; decide), ?_⟩
  rw [upd_upd]
  refine ⟨_, rfl, x, C, dx, _, rfl, upd_same, LT.cl, LT.place, (by show 2 < 1000; decide), ?_⟩
  rw [upd_upd]
  exact q l _ nl ⟨upd_same, by rw [upd_ne nlx]; exact hl⟩ fun a u n e => by rw [upd_ne n]; exact S1 _ _ e
theorem ok_peek {f C : Addr} {fd : FuncData} (F : Fun K "peek" "Line.peek" sPeek f fd) (LT : LineT K C) (J : Gp K mg) (T : Bi mg) : FnOk P w K mg base CX0 1 f fd ["self"] (spPeek C) := by
  refine F.ok scPeek (fun vs H Q E h => ?_) (fun cdv A outer s H vs Q E hr h => ?_)
  · obtain ⟨x, dx, l, r, ts, k, rfl, _⟩ := h
    rfl
  obtain ⟨x, dx, l, r, ts, k, rfl, L, hk, hz, q⟩ := h
  obtain ⟨tN, gNp⟩ := J.np
  refine ⟨_, (pss_one (ps_ret (pe_ifExp (pt_cmpR op_lt (pe_fld (pv 0) rfl) (pe_callB call_len_seq (by rfl) T.len (by decide +kernel) (pa_cons (pe_fld (pv 0) rfl) pa_nil)) (nomark _)) (pe_ix ix_list (pe_fld (pv 0) rfl) (pe_fld (pv 0) rfl) (fun _ _ => rfl)) (pe_glob (v := .str Str.empty) rfl gNp ⟨_, rfl⟩)))), ?_⟩
  have hs : sizeLine = 16777216 := by decide
  refine ⟨_, rfl, x, C, dx, _, _, rfl, L.ins, LT.cl, LT.place, rfl, _, rfl, x, C, dx, _, _, rfl, L.ins, LT.cl, LT.parts, rfl, l, _, rfl, .inl (SqL.of L.lst), _, _, rfl, rfl, _, rfl, ?_⟩
  rw [List.length_map]
  unfold tokAt at q
  by_cases c : k < ts.length
  · rw [decide_eq_true (by omega : ((k : Nat) : Int) < (ts.length : Nat))]
    refine iteT ?_
    rw [List.getElem?_eq_getElem c] at q
    refine ⟨_, rfl, x, C, dx, _, _, rfl, L.ins, LT.cl, LT.parts, rfl, _, rfl, x, C, dx, _, _, rfl, L.ins, LT.cl, LT.place, rfl, l, _, _, _, rfl, rfl, SqL.of L.lst, atI_nat (by rw [List.getElem?_map, List.getElem?_eq_getElem c]; rfl), q⟩
  · rw [decide_eq_false (by omega : ¬ ((k : Nat) : Int) < (ts.length : Nat))]
    refine iteF ?_
    rw [List.getElem?_eq_none (by omega)] at q
    exact q
theorem ok_takeL {f g C : Addr} {fd gd : FuncData} (F : Fun K "take" "Line.take" sTakeL f fd) (LT : LineT K C) (PK : FkMm P w K mg base 1 C "peek" g gd ["self"] (spPeek C)) : FnOk P w K mg base CX0 2 f fd ["self"] (spTakeL C) := by
  refine F.ok scTakeL (fun vs H Q E h => ?_) (fun cdv A outer s H vs Q E hr h => ?_)
  · obtain ⟨x, dx, l, r, ts, k, rfl, _⟩ := h
    rfl
  obtain ⟨x, dx, l, r, ts, k, rfl, L, hk, hz, q⟩ := h
  refine ⟨_, (pss_cons (ps_set (i := 1) scTakeL.nd rfl (Or.inl rfl) (pe_meth0 (pv 0) LT.cl PK.M PK.G (hr.mono (by omega)) PK.b .nil pass0))
    (pss_cons (ps_fldaug (pv 0) pe_int in_add)
    (pss_one (ps_ret (pv 1))))), ?_⟩
  refine ⟨_, rfl, x, dx, _, rfl, L.ins, rfl, x, dx, l, r, ts, k, rfl, L, hk, hz, ?_⟩
  refine ⟨_, rfl, x, C, dx, _, _, rfl, L.ins, LT.cl, LT.place, rfl, _, _, rfl, rfl, dx, _, L.ins, (by show 3 < 1000; decide), _, rfl, ?_⟩
  have nlx : l ≠ x := fun z => by have := L.lst; rw [z, L.ins] at this; cases this
  exact q _ ⟨upd_same, by rw [upd_ne nlx]; exact L.lst⟩ fun a u n e => by rw [upd_ne n]; exact e
theorem ok_skip {f g C : Addr} {fd gd : FuncData} (F : Fun K "skip" "Line.skip" sSkip f fd) (LT : LineT K C) (TA : FkMm P w K mg base 2 C "take" g gd ["self"] (spTakeL C)) : FnOk P w K mg base CX0 3 f fd ["self", "wanted"] (spSkip C) := by
  refine F.ok scSkip (fun vs H Q E h => ?_) (fun cdv A outer s H vs Q E hr h => ?_)
  · obtain ⟨x, dx, l, r, ts, k, z, rfl, _⟩ := h
    rfl
  obtain ⟨x, dx, l, r, ts, k, z, rfl, L, hk, hz, et, q⟩ := h
  refine ⟨_, (pss_one (ps_if (pt_cmpR op_ne (pe_meth0 (pv 0) LT.cl TA.M TA.G (hr.mono (by omega)) TA.b .nil pass0) (pv 1) (nomark _))
      (pss_one ps_never)
      pss_nil)), ?_⟩
  refine ⟨_, rfl, x, dx, _, rfl, L.ins, rfl, x, dx, l, r, ts, k, rfl, L, hk, hz, fun H1 L1 B1 => ?_⟩
  refine ⟨_, rfl, rfl, _, rfl, ?_⟩
  rw [et, decide_eq_true rfl]
  exact iteF (q H1 L1 B1)
end
end SH

set_option Elab.async false
set_option linter.all false
set_option maxRecDepth 100000
namespace SH
open PySem L2
abbrev sOper : Stmt := topS 33
abbrev sRdNum : Stmt := topS 36
abbrev sRdName : Stmt := topS 37
abbrev sSingle : Stmt := topS 34
abbrev sBrack : Stmt := topS 35
theorem scOper : FnScope ["line", "sign", "left", "right", "tree"] ["line", "sign", "left", "right"] (defScope sOper) := ⟨rfl, rfl, rfl, by decide +kernel, rfl, by decide +kernel, by decide +kernel⟩
theorem scRdNum : FnScope ["line", "most", "part"] ["line", "most"] (defScope sRdNum) := ⟨rfl, rfl, rfl, by decide +kernel, rfl, by decide +kernel, by decide +kernel⟩
theorem scRdName : FnScope ["line", "part"] ["line"] (defScope sRdName) := ⟨rfl, rfl, rfl, by decide +kernel, rfl, by decide +kernel, by decide +kernel⟩
theorem scSingle : FnScope ["line", "brackets"] ["line", "brackets"] (defScope sSingle) := ⟨rfl, rfl, rfl, by decide +kernel, rfl, by decide +kernel, by decide +kernel⟩
theorem scBrack : FnScope ["line", "brackets", "tree"] ["line", "brackets"] (defScope sBrack) := ⟨rfl, rfl, rfl, by decide +kernel, rfl, by decide +kernel, by decide +kernel⟩
def spOper : Sp := fun vs H Q _ => ∃ (x : Addr) (g : Sg) (l r : Ex) (vl vr : V), vs = [.ref x, .str g.txt, vl, vr] ∧ TrIn H l vl ∧ TrIn H r vr ∧ Ex.fine 6 (.op g l r) ∧ ∀ v H', Same H H' → TrIn H' (.op g l r) v → Q v H'
def mostNum : Int := 1000000 ^ 5 - 1
def spRdNum (C : Addr) : Sp := fun vs H Q _ => ∃ (x dx l : Addr) (r : Int) (ts : List Tn) (j : Nat) (n : Int), vs = [.ref x, .int mostNum] ∧ LnS H C x dx l r ts j ∧ ts[j]? = some (.num n) ∧ POk (some (.num n)) ∧ ts.length ≤ 1000000 ∧ ∀ H', LnS H' C x dx l r ts (j + 1) → ButX x H H' → Q (.int n) H'
def spRdName (C : Addr) : Sp := fun vs H Q _ => ∃ (x dx l : Addr) (r : Int) (ts : List Tn) (j : Nat) (s : Str), vs = [.ref x] ∧ LnS H C x dx l r ts j ∧ ts[j]? = some (.nam s) ∧ NmOk s ∧ ts.length ≤ 1000000 ∧ ∀ H', LnS H' C x dx l r ts (j + 1) → ButX x H H' → Q (.str s) H'
/-- parts of a level, read -/
def spRd (C : Addr) (L : Int) (f : Nat) : Sp := fun vs H Q _ => ∃ (x dx l : Addr) (r : Int) (ts : List Tn) (j b : Nat) (e : Ex) (tl rest : List Tn), vs = [.ref x, .int (b : Nat)] ∧ b + f = 8 ∧ LnS H C x dx l r ts j ∧ ts.drop j = tl ++ rest ∧ Pr f L e tl ∧ nx L rest ∧ Ex.fine 6 e ∧
  (∀ t ∈ ts, TOk t) ∧ ts.length ≤ 1000000 ∧ ∀ v H', TrIn H' e v → LnS H' C x dx l r ts (j + tl.length) → ButX x H H' → Q v H'
def spBr (C : Addr) (f : Nat) : Sp := fun vs H Q _ => ∃ (x dx l : Addr) (r : Int) (ts : List Tn) (j b i : Nat) (e : Ex) (us rest : List Tn), vs = [.ref x, .int (b : Nat)] ∧ b + f = 9 ∧ f = i + 1 ∧ LnS H C x dx l r ts j ∧ ts.drop j = Tn.lp :: (us ++ Tn.rp :: rest) ∧ Pr i 1 e us ∧ Ex.fine 6 e ∧
  (∀ t ∈ ts, TOk t) ∧ ts.length ≤ 1000000 ∧ ∀ v H', TrIn H' e v → LnS H' C x dx l r ts (j + (us.length + 2)) → ButX x H H' → Q v H'
theorem tokAt_pk {ts rest : List Tn} {j : Nat} (h : ts.drop j = rest) : tokAt ts j = pk rest := by
  have e : ts[j]? = (ts.drop j)[0]? := by rw [List.getElem?_drop, Nat.add_zero]
  unfold tokAt pk
  rw [e, h]
  cases rest <;> rfl
section
variable {P : Program} {w : World} {K : PySem.W.Frag} {mg : Str → Option Value} {base : Heap}
theorem ok_oper {f g : Addr} {fd gd : FuncData} {vd : Value} (F : Fun K "operation" "operation" sOper f fd) (IE : Fk P w K mg base 9 "is_expression" g gd ["thing", "deepest"] (spIsEx 6)) (bE : Binds K gd ["thing", "deepest"] [vd]) (vE : Vals [V.int 6] [vd]) : FnOk P w K mg base CX0 10 f fd ["line", "sign", "left", "right"] spOper := by
  refine F.ok scOper (fun vs H Q E h => ?_) (fun cdv A outer s H vs Q E hr h => ?_)
  · obtain ⟨x, g, l, r, vl, vr, rfl, _⟩ := h
    rfl
  obtain ⟨x, g, l, r, vl, vr, rfl, hl, hr', hf, q⟩ := h
  refine ⟨_, (pss_cons (ps_set (i := 4) scOper.nd rfl (Or.inl rfl) (pe_tup (pa_cons (pv 1) (pa_cons (pv 2) (pa_cons (pv 3) pa_nil)))))
    (pss_cons (ps_if (pt_not (pt_val (pe_call IE.G (hr.mono (by omega)) (by rfl) IE.m IE.k bE vE pass0 (pa_cons (pv 4) pa_nil))))
      (pss_one ps_never)
      pss_nil)
    (pss_one (ps_ret (pv 4))))), ?_⟩
  refine ⟨_, rfl, _, rfl, _, rfl, (by show 3 ≤ sizeLine; decide), fun p np => ?_⟩
  have S1 := same_new np (.tup [.str g.txt, vl, vr])
  have hT : TrIn (upd H p (.tup [.str g.txt, vl, vr])) (.op g l r) (.ref p) := ⟨p, vl, vr, rfl, upd_same, hl.same S1, hr'.same S1⟩
  refine ⟨_, rfl, .ref p, .op g l r, rfl, hT, hf, fun H2 S2 => ⟨_, rfl, ?_⟩⟩
  refine iteF ?_
  exact ⟨_, rfl, q (.ref p) H2 (S1.trans S2) (hT.same S2)⟩
theorem ok_rdNum {f g h C : Addr} {fd gd hd : FuncData} (F : Fun K "read_number" "read_number" sRdNum f fd) (LT : LineT K C) (TA : FkMm P w K mg base 2 C "take" g gd ["self"] (spTakeL C)) (IF : Fk P w K mg base 1 "is_figures" h hd ["part"] spFigs) (J : Gp K mg) (T : Bi mg) : FnOk P w K mg base CX0 3 f fd ["line", "most"] (spRdNum C) := by
  refine F.ok scRdNum (fun vs H Q E h => ?_) (fun cdv A outer s H vs Q E hr h => ?_)
  · obtain ⟨x, dx, l, r, ts, j, n, rfl, _⟩ := h
    rfl
  obtain ⟨x, dx, l, r, ts, j, n, rfl, L, ht, hp, hz, q⟩ := h
  refine ⟨_, (pss_cons (ps_set (i := 2) scRdNum.nd rfl (Or.inl rfl) (pe_meth0 (pv 0) LT.cl TA.M TA.G (hr.mono (by omega)) TA.b .nil pass0))
    (pss_cons (ps_if (PW.pt (pw_or (pt_not (pt_val (pe_call IF.G (hr.mono (by omega)) (by rfl) IF.m IF.k IF.b .nil pass0 (pa_cons (pv 2) pa_nil)))) (pw_or (pt_cmpR op_gt (pe_callB call_len (by rfl) T.len (by decide +kernel) (pa_cons (pv 2) pa_nil)) (pe_gi J.figs) (nomark _)) (pw_or1 (pt_cmpR op_gt (pe_callTy call_int_str (by rfl) T.int (by decide +kernel) (pa_cons (pv 2) pa_nil)) (pv 1) (nomark _))))))
      (pss_one ps_never)
      pss_nil)
    (pss_one (ps_ret (pe_callTy call_int_str (by rfl) T.int (by decide +kernel) (pa_cons (pv 2) pa_nil)))))), ?_⟩
  have hs : sizeLine = 16777216 := by decide
  have hjl : j < ts.length := (List.getElem?_eq_some_iff.mp ht).1
  refine ⟨_, rfl, x, dx, _, rfl, L.ins, rfl, x, dx, l, r, ts, j, rfl, L, by omega, hz, fun H1 L1 B1 => ?_⟩
  have et : tokAt ts j = (Tn.num n).txt := by unfold tokAt; rw [ht]
  rw [et]
  have htl := tx_len8 hp
  have hin : PySem.intText? (Tn.num n).txt = some n := by
    have h0 : 0 ≤ n := hp.1
    have e : n = ((n.toNat : Nat) : Int) := by omega
    have := TL.int_num (n := n.toNat) (Nat.le_trans (num_len hp.1 hp.2) (by decide))
    rw [← e] at this
    exact this
  have hf : figB (cd (Tn.num n).txt) = true := by
    rw [show cd (Tn.num n).txt = _ from cd_num hp.1]
    cases hd : TL.numL n.toNat with
    | nil => exact absurd hd (TL.numL_ne _)
    | cons c r => exact decide_eq_true (num_dig n.toNat c (by rw [hd]; exact List.mem_cons_self))
  refine ⟨_, rfl, _, rfl, by omega, _, rfl, ?_⟩
  rw [hf]
  refine iteF ?_
  refine ⟨_, rfl, _, _, rfl, ⟨by show (Tn.num n).txt.length ≤ sizeLine; omega, rfl⟩, _, _, rfl, rfl, _, rfl, ?_⟩
  rw [decide_eq_false (by show ¬ (30 : Int) < (((Tn.num n).txt.length : Nat) : Int); omega)]
  refine iteF ?_
  refine ⟨_, rfl, _, n, rfl, hin, by omega, _, rfl, _, _, rfl, rfl, _, rfl, ?_⟩
  rw [decide_eq_false (by have := hp.2; show ¬ (1000000 ^ 5 - 1 : Int) < n; omega)]
  refine iteF ?_
  exact ⟨_, rfl, _, n, rfl, hin, by omega, q H1 L1 B1⟩
theorem ok_rdName {f g h C : Addr} {fd gd hd : FuncData} (F : Fun K "read_name" "read_name" sRdName f fd) (LT : LineT K C) (TA : FkMm P w K mg base 2 C "take" g gd ["self"] (spTakeL C)) (IN : Fk P w K mg base 1 "is_name" h hd ["thing"] spIsName) : FnOk P w K mg base CX0 3 f fd ["line"] (spRdName C) := by
  refine F.ok scRdName (fun vs H Q E h => ?_) (fun cdv A outer s H vs Q E hr h => ?_)
  · obtain ⟨x, dx, l, r, ts, j, n, rfl, _⟩ := h
    rfl
  obtain ⟨x, dx, l, r, ts, j, z, rfl, L, ht, hp, hz, q⟩ := h
  refine ⟨_, (pss_cons (ps_set (i := 1) scRdName.nd rfl (Or.inl rfl) (pe_meth0 (pv 0) LT.cl TA.M TA.G (hr.mono (by omega)) TA.b .nil pass0))
    (pss_cons (ps_if (pt_not (pt_val (pe_call IN.G (hr.mono (by omega)) (by rfl) IN.m IN.k IN.b .nil pass0 (pa_cons (pv 1) pa_nil))))
      (pss_one ps_never)
      pss_nil)
    (pss_one (ps_ret (pv 1))))), ?_⟩
  have hjl : j < ts.length := (List.getElem?_eq_some_iff.mp ht).1
  refine ⟨_, rfl, x, dx, _, rfl, L.ins, rfl, x, dx, l, r, ts, j, rfl, L, by omega, hz, fun H1 L1 B1 => ?_⟩
  have et : tokAt ts j = z := by unfold tokAt; rw [ht]; rfl
  rw [et]
  refine ⟨_, rfl, z, rfl, hp, fun H2 S2 => ⟨_, rfl, ?_⟩⟩
  refine iteF ?_
  exact ⟨_, rfl, q H2 ⟨S2 _ _ L1.ins, S2 _ _ L1.lst⟩ (B1.trans (.same S2))⟩
theorem txv_lp8 {t : Tn} (h : POk (some t)) : decide (V.str t.txt = V.str "(") = isLp t := by
  by_cases c : t = .lp
  · subst c; exact decide_eq_true rfl
  · have hl : isLp t = false := by cases t <;> first | rfl | exact absurd rfl c
    rw [hl]
    refine decide_eq_false fun z => ?_
    refine (pc_clean h).1 (fun z => c (Option.some.inj z)) ?_
    show 40 ∈ cd t.txt
    rw [V.str.inj z, cd_lp]
    exact List.mem_cons_self
theorem figB_tok {t : Tn} (hp : POk (some t)) : figB (cd t.txt) = decide (t.kd = 1) := by
  cases e : cd t.txt with
  | nil => exact absurd e (pc_ne hp)
  | cons c r =>
    have k0 : kdC c = t.kd := pc_kinds hp c (by show c ∈ cd t.txt; rw [e]; exact List.mem_cons_self)
    refine decide_eq_decide.mpr ?_
    rw [← k0]
    exact (kd_one c).symm
theorem at_drop {ts tl : List Tn} {t : Tn} {j : Nat} (h : ts.drop j = t :: tl) : ts[j]? = some t := by
  have e : ts[j]? = (ts.drop j)[0]? := by rw [List.getElem?_drop, Nat.add_zero]
  rw [e, h]
  rfl
theorem drop_more {ts a b : List Tn} {j : Nat} (h : ts.drop j = a ++ b) : ts.drop (j + a.length) = b := by
  rw [← List.drop_drop, h, List.drop_left]
theorem len_drop {ts a b : List Tn} {j : Nat} (h : ts.drop j = a ++ b) (ha : 1 ≤ a.length) : j + a.length ≤ ts.length := by
  have := congrArg List.length h
  rw [List.length_drop, List.length_append] at this
  omega
theorem ok_single {f : Nat} {f0 g h i m n C : Addr} {fd gd hd idd md nd : FuncData} (F : Fun K "read_single" "read_single" sSingle f0 fd) (LT : LineT K C) (PK : FkMm P w K mg base 1 C "peek" g gd ["self"] (spPeek C)) (RB : Fk P w K mg base (11 + 5 * f) "read_bracketed" h hd ["line", "brackets"] (spBr C f))
    (IF : Fk P w K mg base 1 "is_figures" i idd ["part"] spFigs) (RN : Fk P w K mg base 3 "read_number" m md ["line", "most"] (spRdNum C)) (RA : Fk P w K mg base 3 "read_name" n nd ["line"] (spRdName C)) (G : Gf K mg) : FnOk P w K mg base CX0 (12 + 5 * f) f0 fd ["line", "brackets"] (spRd C 4 f) := by
  have hlv : 12 + 5 * f = 11 + 5 * f + 1 := by omega
  rw [hlv]
  refine F.ok scSingle (fun vs H Q E h => ?_) (fun cdv A outer s H vs Q E hr h => ?_)
  · obtain ⟨x, dx, l, r, ts, j, b, e, tl, rest, rfl, _⟩ := h
    rfl
  obtain ⟨x, dx, l, r, ts, j, b, e, tl, rest, rfl, hb, L, hd', hP, hn, hf, hok, hz, q⟩ := h
  refine ⟨_, (pss_cons (ps_if (pt_cmpR op_eq (pe_meth0 (pv 0) LT.cl PK.M PK.G (hr.mono (by omega)) PK.b .nil pass0) pe_str (nomark _))
      (pss_one (ps_ret (pe_call RB.G (hr.mono (by omega)) (by rfl) RB.m RB.k RB.b .nil pass0 (pa_cons (pv 0) (pa_cons (pe_op op_add (pv 1) pe_int) pa_nil)))))
      pss_nil)
    (pss_cons (ps_if (pt_val (pe_call IF.G (hr.mono (by omega)) (by rfl) IF.m IF.k IF.b .nil pass0 (pa_cons (pe_meth0 (pv 0) LT.cl PK.M PK.G (hr.mono (by omega)) PK.b .nil pass0) pa_nil)))
      (pss_one (ps_ret (pe_tup (pa_cons pe_str (pa_cons (pe_call RN.G (hr.mono (by omega)) (by rfl) RN.m RN.k RN.b .nil pass0 (pa_cons (pv 0) (pa_cons (pe_gi G.num) pa_nil))) pa_nil)))))
      pss_nil)
    (pss_one (ps_ret (pe_tup (pa_cons pe_str (pa_cons (pe_call RA.G (hr.mono (by omega)) (by rfl) RA.m RA.k RA.b .nil pass0 (pa_cons (pv 0) pa_nil)) pa_nil))))))), ?_⟩
  have hs : sizeLine = 16777216 := by decide
  have hjl : j ≤ ts.length := by
    have := congrArg List.length hd'
    have h1 := hP.ne
    rw [List.length_drop, List.length_append] at this
    omega
  have et := tokAt_pk hd'
  refine ⟨_, rfl, x, dx, _, rfl, L.ins, rfl, x, dx, l, r, ts, j, rfl, L, by omega, hz, rfl, _, rfl, ?_⟩
  rcases hP.four rfl with ⟨t, ht, rfl⟩ | ⟨i', us, ef, rfl, hP'⟩
  · have et' : tokAt ts j = t.txt := et
    have htj : ts[j]? = some t := at_drop hd'
    have htk := hok t (List.mem_of_getElem? htj)
    rw [et', txv_lp8 htk.1]
    have htl := tx_len8 htk.1
    cases e with
    | op g l r => cases ht
    | num v =>
      cases ht
      refine iteF ?_
      refine ⟨_, rfl, x, dx, _, rfl, L.ins, rfl, x, dx, l, r, ts, j, rfl, L, by omega, hz, ?_⟩
      rw [et']
      refine ⟨_, rfl, by omega, _, rfl, ?_⟩
      rw [figB_tok htk.1, decide_eq_true (show (Tn.num v).kd = 1 from rfl)]
      refine iteT ?_
      refine ⟨_, rfl, x, dx, l, r, ts, j, v, rfl, L, htj, htk.1, hz, fun H1 L1 B1 => ⟨(by show 2 ≤ sizeLine; decide), fun p np => ?_⟩⟩
      have S2 := same_new np (.tup [.str "number", .int v])
      exact q (.ref p) _ ⟨p, rfl, upd_same⟩ ⟨S2 _ _ L1.ins, S2 _ _ L1.lst⟩ (B1.trans (.same S2))
    | nam v =>
      cases ht
      refine iteF ?_
      refine ⟨_, rfl, x, dx, _, rfl, L.ins, rfl, x, dx, l, r, ts, j, rfl, L, by omega, hz, ?_⟩
      rw [et']
      refine ⟨_, rfl, by omega, _, rfl, ?_⟩
      rw [figB_tok htk.1, decide_eq_false (show ¬ (Tn.nam v).kd = 1 by show ¬ (0 : Int) = 1; decide)]
      refine iteF ?_
      refine ⟨_, rfl, x, dx, l, r, ts, j, v, rfl, L, htj, ⟨htk.1, htk.2 v rfl⟩, hz, fun H1 L1 B1 => ⟨(by show 2 ≤ sizeLine; decide), fun p np => ?_⟩⟩
      have S2 := same_new np (.tup [.str "name", .str v])
      exact q (.ref p) _ ⟨p, rfl, upd_same⟩ ⟨S2 _ _ L1.ins, S2 _ _ L1.lst⟩ (B1.trans (.same S2))
  · have et' : tokAt ts j = (Tn.lp).txt := et
    rw [et', show decide (V.str (Tn.lp).txt = V.str "(") = true from decide_eq_true rfl]
    refine iteT ?_
    have hd2 : ts.drop j = Tn.lp :: (us ++ Tn.rp :: rest) := by rw [hd']; simp
    refine ⟨_, rfl, _, rfl, _, _, rfl, rfl, x, dx, l, r, ts, j, b + 1, i', e, us, rest, ?_, by omega, ef, L, hd2, hP', hf, hok, hz, fun v H1 tv L1 B1 => ?_⟩
    · show [V.ref x, V.int (((b : Nat) : Int) + 1)] = _
      rfl
    · exact q v H1 tv (by rw [List.length_cons, List.length_append]; exact L1) B1
theorem ok_brack {f : Nat} {f0 g h C : Addr} {fd gd hd : FuncData} {vd : Value} (F : Fun K "read_bracketed" "read_bracketed" sBrack f0 fd) (LT : LineT K C) (SK : FkMm P w K mg base 3 C "skip" g gd ["self", "wanted"] (spSkip C)) (RT : Fk P w K mg base (15 + 5 * f) "read_tree" h hd ["line", "brackets"] (spRd C 1 f)) (J : Gp K mg) :
    FnOk P w K mg base CX0 (11 + 5 * (f + 1)) f0 fd ["line", "brackets"] (spBr C (f + 1)) := by
  have hlv : 11 + 5 * (f + 1) = 15 + 5 * f + 1 := by omega
  rw [hlv]
  refine F.ok scBrack (fun vs H Q E h => ?_) (fun cdv A outer s H vs Q E hr h => ?_)
  · obtain ⟨x, dx, l, r, ts, j, b, i, e, us, rest, rfl, _⟩ := h
    rfl
  obtain ⟨x, dx, l, r, ts, j, b, i, e, us, rest, rfl, hb, ei, L, hd', hP, hf, hok, hz, q⟩ := h
  have ei' : i = f := by omega
  subst ei'
  refine ⟨_, (pss_cons (ps_if (pt_cmpR op_gt (pv 1) (pe_gi J.brks) (nomark _))
      (pss_one ps_never)
      pss_nil)
    (pss_cons (ps_expr (pe_meth (pv 0) LT.cl SK.M SK.G (hr.mono (by omega)) SK.b .nil pass0 (pa_cons pe_str pa_nil)))
    (pss_cons (ps_set (i := 2) scBrack.nd rfl (Or.inl rfl) (pe_call RT.G (hr.mono (by omega)) (by rfl) RT.m RT.k RT.b .nil pass0 (pa_cons (pv 0) (pa_cons (pv 1) pa_nil))))
    (pss_cons (ps_expr (pe_meth (pv 0) LT.cl SK.M SK.G (hr.mono (by omega)) SK.b .nil pass0 (pa_cons pe_str pa_nil)))
    (pss_one (ps_ret (pv 2))))))), ?_⟩
  have hl := len_drop (a := Tn.lp :: (us ++ [Tn.rp])) (b := rest) (by rw [hd']; simp) (by rw [List.length_cons]; omega)
  rw [List.length_cons, List.length_append] at hl
  have hl' : j + (us.length + 1 + 1) ≤ ts.length := hl
  refine ⟨_, rfl, _, _, rfl, rfl, _, rfl, ?_⟩
  rw [decide_eq_false (by omega : ¬ (8 : Int) < ((b : Nat) : Int))]
  refine iteF ?_
  refine ⟨_, rfl, x, dx, _, rfl, L.ins, rfl, x, dx, l, r, ts, j, "(", rfl, L, by omega, hz, tokAt_pk hd', fun H1 L1 B1 => ?_⟩
  have hd1 : ts.drop (j + 1) = us ++ Tn.rp :: rest := drop_more (a := [Tn.lp]) hd'
  refine ⟨_, rfl, _, rfl, x, dx, l, r, ts, j + 1, b, e, us, Tn.rp :: rest, rfl, by omega, L1, hd1, hP, nx_rp, hf, hok, hz, fun v H2 tv L2 B2 => ?_⟩
  have hd2 : ts.drop (j + 1 + us.length) = Tn.rp :: rest := drop_more hd1
  refine ⟨_, rfl, x, dx, _, rfl, L2.ins, rfl, x, dx, l, r, ts, j + 1 + us.length, ")", rfl, L2, by omega, hz, tokAt_pk hd2, fun H3 L3 B3 => ?_⟩
  refine ⟨_, rfl, ?_⟩
  exact q v H3 (tv.butx L2.ins B3) (by rw [show j + (us.length + 2) = j + 1 + us.length + 1 by omega]; exact L3) (B1.trans (B2.trans B3))
theorem brack_none {f0 C : Addr} {fd : FuncData} : FnOk P w K mg base CX0 11 f0 fd ["line", "brackets"] (spBr C 0) := by
  have no : ∀ vs H Q E, ¬ spBr C 0 vs H Q E := fun vs H Q E h => by
    obtain ⟨_, _, _, _, _, _, _, _, _, _, _, _, _, h1, _⟩ := h
    omega
  exact ⟨fun vs H Q E h => absurd h (no vs H Q E), fun A outer s H args us vs Q E _ _ _ _ h => absurd h (no vs H Q E)⟩
end
end SH

set_option Elab.async false
set_option linter.all false
set_option maxRecDepth 100000
namespace SH
open PySem L2
abbrev sProd : Stmt := topS 32
abbrev sSum : Stmt := topS 31
abbrev sTreeR : Stmt := topS 30
abbrev sExprR : Stmt := topS 29
theorem scProd : FnScope ["line", "brackets", "tree", "sign"] ["line", "brackets"] (defScope sProd) := ⟨rfl, rfl, rfl, by decide +kernel, rfl, by decide +kernel, by decide +kernel⟩
theorem scSum : FnScope ["line", "brackets", "tree", "sign"] ["line", "brackets"] (defScope sSum) := ⟨rfl, rfl, rfl, by decide +kernel, rfl, by decide +kernel, by decide +kernel⟩
theorem scTreeR : FnScope ["line", "brackets", "left", "sign"] ["line", "brackets"] (defScope sTreeR) := ⟨rfl, rfl, rfl, by decide +kernel, rfl, by decide +kernel, by decide +kernel⟩
theorem scExprR : FnScope ["text", "line", "tree"] ["text"] (defScope sExprR) := ⟨rfl, rfl, rfl, by decide +kernel, rfl, by decide +kernel, by decide +kernel⟩
theorem Ex.fine_l {g : Sg} {l r : Ex} (h : Ex.fine 6 (.op g l r)) : Ex.fine 6 l := Ex.fine_up (n := 5) (by decide) h.1
theorem Ex.fine_r {g : Sg} {l r : Ex} (h : Ex.fine 6 (.op g l r)) : Ex.fine 6 r := Ex.fine_up (n := 5) (by decide) h.2
theorem fl_fine {e0 : Ex} : ∀ (n : Nat) (l : List (Sg × Ex × List Tn)), l.length = n → Ex.fine 6 (fl e0 l) → ∀ i, Ex.fine 6 (fl e0 (l.take i))
  | 0, l, hn, h, i => by
    have : l = [] := List.length_eq_zero_iff.mp hn
    subst this
    rw [List.take_nil]
    exact h
  | n + 1, l, hn, h, i => by
    rcases List.eq_nil_or_concat l with e | ⟨l', x, e⟩
    · rw [e] at hn; cases hn
    · rw [List.concat_eq_append] at e
      subst e
      rw [List.length_append] at hn
      have hn' : l'.length + 1 = n + 1 := hn
      by_cases c : i ≤ l'.length
      · rw [List.take_append_of_le_length c]
        rw [fl_snoc] at h
        exact fl_fine n l' (by omega) (Ex.fine_l h) i
      · rw [List.take_of_length_le (by rw [List.length_append]; show l'.length + 1 ≤ i; omega)]
        exact h
def spRead (C : Addr) : Sp := fun vs H Q _ => ∃ (s : Str) (ps : List Pc) (e : Ex), vs = [.str s] ∧ cd s = flat ps ∧ (∀ p ∈ ps, POk p) ∧ (∀ t, some t ∈ ps → TOk t) ∧ Ajs ps ∧ s.length ≤ 1000000 ∧ Pr 8 1 e (toks ps) ∧ Ex.fine 6 e ∧
  ∀ v H', Same H H' → TrIn H' e v → Q v H'
theorem opt_dec {z : Str} {l : List Str} : inV (.str z) (l.map V.str) = decide (z ∈ l) := inV_str
section
variable {P : Program} {w : World} {K : PySem.W.Frag} {mg : Str → Option Value} {base : Heap}
theorem ok_prod {f : Nat} {f0 g h i o C : Addr} {fd gd hd idd od : FuncData} (F : Fun K "read_product" "read_product" sProd f0 fd) (LT : LineT K C) (PK : FkMm P w K mg base 1 C "peek" g gd ["self"] (spPeek C)) (TA : FkMm P w K mg base 2 C "take" h hd ["self"] (spTakeL C))
    (RS : Fk P w K mg base (12 + 5 * f) "read_single" i idd ["line", "brackets"] (spRd C 4 f)) (OP : Fk P w K mg base 10 "operation" o od ["line", "sign", "left", "right"] spOper) : FnOk P w K mg base CX0 (13 + 5 * f) f0 fd ["line", "brackets"] (spRd C 3 f) := by
  have hlv : 13 + 5 * f = 12 + 5 * f + 1 := by omega
  rw [hlv]
  refine F.ok scProd (fun vs H Q E h => ?_) (fun cdv A outer s H vs Q E hr h => ?_)
  · obtain ⟨x, dx, l, r, ts, j, b, e, tl, rest, rfl, _⟩ := h
    rfl
  obtain ⟨x, dx, l, r, ts, j, b, e, tl, rest, rfl, hb, L, hd', hP, hn, hf, hok, hz, q⟩ := h
  refine ⟨_, (pss_cons (ps_set (i := 2) scProd.nd rfl (Or.inl rfl) (pe_call RS.G (hr.mono (by omega)) (by rfl) RS.m RS.k RS.b .nil pass0 (pa_cons (pv 0) (pa_cons (pv 1) pa_nil))))
    (pss_cons (ps_while PassesOwn.never (pt_cmpR op_eq (pe_meth0 (pv 0) LT.cl PK.M PK.G (hr.mono (by omega)) PK.b .nil pass0) pe_str (nomark _))
      (pss_cons (ps_set (i := 3) scProd.nd rfl (Or.inl rfl) (pe_meth0 (pv 0) LT.cl TA.M TA.G (hr.mono (by omega)) TA.b .nil pass0))
    (pss_one (ps_set (i := 2) scProd.nd rfl (Or.inl rfl) (pe_call OP.G (hr.mono (by omega)) (by rfl) OP.m OP.k OP.b .nil pass0 (pa_cons (pv 0) (pa_cons (pv 3) (pa_cons (pv 2) (pa_cons (pe_call RS.G (hr.mono (by omega)) (by rfl) RS.m RS.k RS.b .nil pass0 (pa_cons (pv 0) (pa_cons (pv 1) pa_nil))) pa_nil)))))))))
    (pss_one (ps_ret (pv 2))))), ?_⟩
  obtain ⟨e0, t0, lx, c⟩ := hP.chain (.inr rfl)
  have hpo : ∀ n, ∀ t ∈ ts.drop n, POk (some t) := fun n t ht => (hok t (List.mem_of_mem_drop ht)).1
  have hff := fl_fine (e0 := e0) lx.length lx rfl (by rw [← c.tree]; exact hf)
  have hdd := hd'
  rw [c.text, List.append_assoc] at hdd
  have htot := len_drop hd' hP.ne
  rw [c.text, List.length_append] at htot
  have nxs : ∀ i, nx (3 + 1) (sgm (lx.drop i) ++ rest) := fun i => by
    cases hx : lx.drop i with
    | nil => exact hn.up (by decide)
    | cons y ys =>
      have := (c.each y (List.mem_of_mem_drop (by rw [hx]; exact List.mem_cons_self))).1
      rw [sgm_cons]
      exact nx_sg (by omega)
  refine ⟨_, rfl, _, rfl, x, dx, l, r, ts, j, b, e0, t0, sgm lx ++ rest, rfl, hb, L, hdd, c.first, (by have := nxs 0; rwa [List.drop_zero] at this), (by have := hff 0; rwa [List.take_zero] at this), hok, hz, fun v0 H1 tv0 L1 B1 => ?_⟩
  refine ⟨fun m σ H' => ∃ (i : Nat) (v : V) (y : Option V), m = lx.length - i ∧ i ≤ lx.length ∧ σ = [some (.ref x), some (.int (b : Nat)), some v, y] ∧ TrIn H' (fl e0 (lx.take i)) v ∧ LnS H' C x dx l r ts (j + (t0.length + (sgm (lx.take i)).length)) ∧ ButX x H H', ⟨_, 0, v0, _, rfl, Nat.zero_le _, rfl, tv0, L1, B1⟩, ?_⟩
  rintro m σ H2 ⟨i, v, y, rfl, hi, rfl, tv, L2, B2⟩
  have hrest : ts.drop (j + (t0.length + (sgm (lx.take i)).length)) = sgm (lx.drop i) ++ rest := by
    have h1 : ts.drop j = (t0 ++ sgm (lx.take i)) ++ (sgm (lx.drop i) ++ rest) := by
      rw [hdd, List.append_assoc, ← List.append_assoc (sgm _), ← sgm_app, List.take_append_drop]
    have := drop_more h1
    rwa [List.length_append] at this
  have hle : (sgm (lx.take i)).length ≤ (sgm lx).length := by
    have := congrArg List.length (congrArg sgm (List.take_append_drop i lx))
    rw [sgm_app, List.length_append] at this
    omega
  refine ⟨_, rfl, x, dx, _, rfl, L2.ins, rfl, x, dx, l, r, ts, _, rfl, L2, by omega, hz, ?_⟩
  rw [tokAt_pk hrest]
  refine ⟨rfl, _, rfl, ?_⟩
  cases hx : lx.drop i with
  | nil =>
    have ei : i = lx.length := by
      have := congrArg List.length hx
      rw [List.length_drop] at this
      simp only [List.length_nil] at this
      omega
    have hpk : pk (sgm (lx.drop i) ++ rest) ≠ ("*" : Str) := by
      rw [hx]
      exact pk_nx (fun t ht => hpo (j + (t0.length + (sgm (lx.take i)).length)) t (by rw [hrest, hx]; exact ht)) hn .mul (by decide)
    rw [hx] at hpk
    rw [decide_eq_false (fun z => hpk (V.str.inj z))]
    refine iteF ?_
    rw [ei, List.take_length] at tv L2
    refine ⟨_, rfl, q v H2 ?_ ?_ B2⟩
    · rw [c.tree]; exact tv
    · rw [c.text, List.length_append]; exact L2
  | cons y0 ys =>
    obtain ⟨g0, r0, tr0⟩ := y0
    obtain ⟨hg0, hP0⟩ := c.each (g0, r0, tr0) (List.mem_of_mem_drop (by rw [hx]; exact List.mem_cons_self))
    have hg : g0.lv = 3 := hg0
    have hi' : i < lx.length := by
      have := congrArg List.length hx
      rw [List.length_drop, List.length_cons] at this
      omega
    have hxi : lx[i]? = some (g0, r0, tr0) := by
      have e : lx[i]? = (lx.drop i)[0]? := by rw [List.getElem?_drop, Nat.add_zero]
      rw [e, hx]
      rfl
    have htk : lx.take (i + 1) = lx.take i ++ [(g0, r0, tr0)] := by rw [List.take_add_one, hxi]; rfl
    have hdn : lx.drop (i + 1) = ys := by rw [← List.drop_drop, hx]; rfl
    have hfi := hff (i + 1)
    rw [htk, fl_snoc] at hfi
    rw [hx, sgm_cons] at hrest
    have hrest' : ts.drop (j + (t0.length + (sgm (lx.take i)).length)) = Tn.sg g0 :: (tr0 ++ (sgm ys ++ rest)) := by rw [hrest]; simp
    have hr2 := drop_more (a := [Tn.sg g0]) hrest'
    have hr3 : ts.drop (j + (t0.length + (sgm (lx.take i)).length) + 1) = tr0 ++ (sgm ys ++ rest) := hr2
    have hl3 := len_drop hr3 hP0.ne
    have hin : g0.txt = ("*" : Str) := by cases g0 <;> first | rfl | exact absurd hg (by decide)
    show (if decide (V.str g0.txt = V.str "*") = true then _ else _)
    rw [decide_eq_true (by rw [hin])]
    refine iteT ⟨fun σ' H' => ∃ (v' : V) (y' : Option V), σ' = [some (.ref x), some (.int (b : Nat)), some v', y'] ∧ TrIn H' (fl e0 (lx.take (i + 1))) v' ∧ LnS H' C x dx l r ts (j + (t0.length + (sgm (lx.take (i + 1))).length)) ∧ ButX x H H', ?_, ?_⟩
    · rintro σ' H' ⟨v', y', rfl, a1, a2, a3⟩
      exact ⟨lx.length - (i + 1), by omega, i + 1, v', y', rfl, by omega, rfl, a1, a2, a3⟩
    · refine ⟨_, rfl, x, dx, _, rfl, L2.ins, rfl, x, dx, l, r, ts, _, rfl, L2, by omega, hz, fun H3 L3 B3 => ?_⟩
      rw [tokAt_pk hrest']
      have nx' := nxs (i + 1)
      rw [hdn] at nx'
      refine ⟨_, rfl, _, rfl, _, rfl, _, rfl, _, rfl, x, dx, l, r, ts, _, b, r0, tr0, sgm ys ++ rest, rfl, hb, L3, hr3, hP0, nx', Ex.fine_r hfi, hok, hz, fun v4 H4 tv4 L4 B4 => ?_⟩
      have tv' := (tv.butx L2.ins B3).butx L3.ins B4
      refine ⟨x, g0, _, r0, v, v4, rfl, tv', tv4, hfi, fun v5 H5 S5 tv5 => ?_⟩
      refine ⟨v5, _, rfl, ?_, ?_, B2.trans (B3.trans (B4.trans (.same S5)))⟩
      · rw [htk, fl_snoc]; exact tv5
      · rw [htk, sgm_snoc, List.length_append, List.length_cons]
        have e : j + (t0.length + ((sgm (lx.take i)).length + (tr0.length + 1))) = j + (t0.length + (sgm (lx.take i)).length) + 1 + tr0.length := by omega
        rw [e]
        exact ⟨S5 _ _ L4.ins, S5 _ _ L4.lst⟩
theorem ok_sum {f : Nat} {f0 g h i o C : Addr} {fd gd hd idd od : FuncData} (F : Fun K "read_sum" "read_sum" sSum f0 fd) (LT : LineT K C) (PK : FkMm P w K mg base 1 C "peek" g gd ["self"] (spPeek C)) (TA : FkMm P w K mg base 2 C "take" h hd ["self"] (spTakeL C))
    (RP : Fk P w K mg base (13 + 5 * f) "read_product" i idd ["line", "brackets"] (spRd C 3 f)) (OP : Fk P w K mg base 10 "operation" o od ["line", "sign", "left", "right"] spOper) : FnOk P w K mg base CX0 (14 + 5 * f) f0 fd ["line", "brackets"] (spRd C 2 f) := by
  have hlv : 14 + 5 * f = 13 + 5 * f + 1 := by omega
  rw [hlv]
  refine F.ok scSum (fun vs H Q E h => ?_) (fun cdv A outer s H vs Q E hr h => ?_)
  · obtain ⟨x, dx, l, r, ts, j, b, e, tl, rest, rfl, _⟩ := h
    rfl
  obtain ⟨x, dx, l, r, ts, j, b, e, tl, rest, rfl, hb, L, hd', hP, hn, hf, hok, hz, q⟩ := h
  refine ⟨_, (pss_cons (ps_set (i := 2) scSum.nd rfl (Or.inl rfl) (pe_call RP.G (hr.mono (by omega)) (by rfl) RP.m RP.k RP.b .nil pass0 (pa_cons (pv 0) (pa_cons (pv 1) pa_nil))))
    (pss_cons (ps_while PassesOwn.never (pt_cmpR op_in_seq (pe_meth0 (pv 0) LT.cl PK.M PK.G (hr.mono (by omega)) PK.b .nil pass0) (pe_tup (pa_cons pe_str (pa_cons pe_str pa_nil))) rfl)
      (pss_cons (ps_set (i := 3) scSum.nd rfl (Or.inl rfl) (pe_meth0 (pv 0) LT.cl TA.M TA.G (hr.mono (by omega)) TA.b .nil pass0))
    (pss_one (ps_set (i := 2) scSum.nd rfl (Or.inl rfl) (pe_call OP.G (hr.mono (by omega)) (by rfl) OP.m OP.k OP.b .nil pass0 (pa_cons (pv 0) (pa_cons (pv 3) (pa_cons (pv 2) (pa_cons (pe_call RP.G (hr.mono (by omega)) (by rfl) RP.m RP.k RP.b .nil pass0 (pa_cons (pv 0) (pa_cons (pv 1) pa_nil))) pa_nil)))))))))
    (pss_one (ps_ret (pv 2))))), ?_⟩
  obtain ⟨e0, t0, lx, c⟩ := hP.chain (.inl rfl)
  have hpo : ∀ n, ∀ t ∈ ts.drop n, POk (some t) := fun n t ht => (hok t (List.mem_of_mem_drop ht)).1
  have hff := fl_fine (e0 := e0) lx.length lx rfl (by rw [← c.tree]; exact hf)
  have hdd := hd'
  rw [c.text, List.append_assoc] at hdd
  have htot := len_drop hd' hP.ne
  rw [c.text, List.length_append] at htot
  have nxs : ∀ i, nx (2 + 1) (sgm (lx.drop i) ++ rest) := fun i => by
    cases hx : lx.drop i with
    | nil => exact hn.up (by decide)
    | cons y ys =>
      have := (c.each y (List.mem_of_mem_drop (by rw [hx]; exact List.mem_cons_self))).1
      rw [sgm_cons]
      exact nx_sg (by omega)
  refine ⟨_, rfl, _, rfl, x, dx, l, r, ts, j, b, e0, t0, sgm lx ++ rest, rfl, hb, L, hdd, c.first, (by have := nxs 0; rwa [List.drop_zero] at this), (by have := hff 0; rwa [List.take_zero] at this), hok, hz, fun v0 H1 tv0 L1 B1 => ?_⟩
  refine ⟨fun m σ H' => ∃ (i : Nat) (v : V) (y : Option V), m = lx.length - i ∧ i ≤ lx.length ∧ σ = [some (.ref x), some (.int (b : Nat)), some v, y] ∧ TrIn H' (fl e0 (lx.take i)) v ∧ LnS H' C x dx l r ts (j + (t0.length + (sgm (lx.take i)).length)) ∧ ButX x H H', ⟨_, 0, v0, _, rfl, Nat.zero_le _, rfl, tv0, L1, B1⟩, ?_⟩
  rintro m σ H2 ⟨i, v, y, rfl, hi, rfl, tv, L2, B2⟩
  have hrest : ts.drop (j + (t0.length + (sgm (lx.take i)).length)) = sgm (lx.drop i) ++ rest := by
    have h1 : ts.drop j = (t0 ++ sgm (lx.take i)) ++ (sgm (lx.drop i) ++ rest) := by
      rw [hdd, List.append_assoc, ← List.append_assoc (sgm _), ← sgm_app, List.take_append_drop]
    have := drop_more h1
    rwa [List.length_append] at this
  have hle : (sgm (lx.take i)).length ≤ (sgm lx).length := by
    have := congrArg List.length (congrArg sgm (List.take_append_drop i lx))
    rw [sgm_app, List.length_append] at this
    omega
  refine ⟨_, rfl, x, dx, _, rfl, L2.ins, rfl, x, dx, l, r, ts, _, rfl, L2, by omega, hz, ?_⟩
  rw [tokAt_pk hrest]
  refine ⟨(by show 2 ≤ sizeLine; decide), fun p np => ⟨p, _, rfl, .inr (SqT.of upd_same), rfl, rfl, _, rfl, ?_⟩⟩
  rw [if_neg Bool.false_ne_true, show inV (.str (pk (sgm (lx.drop i) ++ rest))) [V.str "+", V.str "-"] = decide (pk (sgm (lx.drop i) ++ rest) ∈ [("+" : Str), "-"]) from inV_str (l := ["+", "-"])]
  have S2 := same_new np (.tup [.str "+", .str "-"])
  have L2' : LnS (upd H2 p (.tup [.str "+", .str "-"])) C x dx l r ts (j + (t0.length + (sgm (lx.take i)).length)) := ⟨S2 _ _ L2.ins, S2 _ _ L2.lst⟩
  have tv2 := tv.same S2
  have B2' := B2.trans (.same S2)
  generalize upd H2 p (.tup [.str "+", .str "-"]) = H2' at S2 L2' tv2 B2'
  cases hx : lx.drop i with
  | nil =>
    have ei : i = lx.length := by
      have := congrArg List.length hx
      rw [List.length_drop] at this
      simp only [List.length_nil] at this
      omega
    have hpk : pk (sgm (lx.drop i) ++ rest) ∉ [("+" : Str), "-"] := by
      rw [hx]
      intro hm
      have hq := fun (g : Sg) (hg : 2 ≤ g.lv) => pk_nx (fun t ht => hpo (j + (t0.length + (sgm (lx.take i)).length)) t (by rw [hrest, hx]; exact ht)) hn g hg
      rcases List.mem_cons.mp hm with h | h
      · exact hq .add (by decide) h
      · exact hq .sub (by decide) (List.mem_singleton.mp h)
    rw [hx] at hpk
    rw [decide_eq_false hpk]
    refine iteF ?_
    rw [ei, List.take_length] at tv2 L2'
    refine ⟨_, rfl, q v H2' ?_ ?_ B2'⟩
    · rw [c.tree]; exact tv2
    · rw [c.text, List.length_append]; exact L2'
  | cons y0 ys =>
    obtain ⟨g0, r0, tr0⟩ := y0
    obtain ⟨hg0, hP0⟩ := c.each (g0, r0, tr0) (List.mem_of_mem_drop (by rw [hx]; exact List.mem_cons_self))
    have hg : g0.lv = 2 := hg0
    have hi' : i < lx.length := by
      have := congrArg List.length hx
      rw [List.length_drop, List.length_cons] at this
      omega
    have hxi : lx[i]? = some (g0, r0, tr0) := by
      have e : lx[i]? = (lx.drop i)[0]? := by rw [List.getElem?_drop, Nat.add_zero]
      rw [e, hx]
      rfl
    have htk : lx.take (i + 1) = lx.take i ++ [(g0, r0, tr0)] := by rw [List.take_add_one, hxi]; rfl
    have hdn : lx.drop (i + 1) = ys := by rw [← List.drop_drop, hx]; rfl
    have hfi := hff (i + 1)
    rw [htk, fl_snoc] at hfi
    rw [hx, sgm_cons] at hrest
    have hrest' : ts.drop (j + (t0.length + (sgm (lx.take i)).length)) = Tn.sg g0 :: (tr0 ++ (sgm ys ++ rest)) := by rw [hrest]; simp
    have hr2 := drop_more (a := [Tn.sg g0]) hrest'
    have hr3 : ts.drop (j + (t0.length + (sgm (lx.take i)).length) + 1) = tr0 ++ (sgm ys ++ rest) := hr2
    have hl3 := len_drop hr3 hP0.ne
    have hin : g0.txt ∈ [("+" : Str), "-"] := by cases g0 <;> first | decide +kernel | exact absurd hg (by decide)
    show (if decide (g0.txt ∈ [("+" : Str), "-"]) = true then _ else _)
    rw [decide_eq_true hin]
    refine iteT ⟨fun σ' H' => ∃ (v' : V) (y' : Option V), σ' = [some (.ref x), some (.int (b : Nat)), some v', y'] ∧ TrIn H' (fl e0 (lx.take (i + 1))) v' ∧ LnS H' C x dx l r ts (j + (t0.length + (sgm (lx.take (i + 1))).length)) ∧ ButX x H H', ?_, ?_⟩
    · rintro σ' H' ⟨v', y', rfl, a1, a2, a3⟩
      exact ⟨lx.length - (i + 1), by omega, i + 1, v', y', rfl, by omega, rfl, a1, a2, a3⟩
    · refine ⟨_, rfl, x, dx, _, rfl, L2'.ins, rfl, x, dx, l, r, ts, _, rfl, L2', by omega, hz, fun H3 L3 B3 => ?_⟩
      rw [tokAt_pk hrest']
      have nx' := nxs (i + 1)
      rw [hdn] at nx'
      refine ⟨_, rfl, _, rfl, _, rfl, _, rfl, _, rfl, x, dx, l, r, ts, _, b, r0, tr0, sgm ys ++ rest, rfl, hb, L3, hr3, hP0, nx', Ex.fine_r hfi, hok, hz, fun v4 H4 tv4 L4 B4 => ?_⟩
      have tv' := (tv2.butx L2'.ins B3).butx L3.ins B4
      refine ⟨x, g0, _, r0, v, v4, rfl, tv', tv4, hfi, fun v5 H5 S5 tv5 => ?_⟩
      refine ⟨v5, _, rfl, ?_, ?_, B2'.trans (B3.trans (B4.trans (.same S5)))⟩
      · rw [htk, fl_snoc]; exact tv5
      · rw [htk, sgm_snoc, List.length_append, List.length_cons]
        have e : j + (t0.length + ((sgm (lx.take i)).length + (tr0.length + 1))) = j + (t0.length + (sgm (lx.take i)).length) + 1 + tr0.length := by omega
        rw [e]
        exact ⟨S5 _ _ L4.ins, S5 _ _ L4.lst⟩
theorem ok_treeR {f : Nat} {f0 g h i o C : Addr} {fd gd hd idd od : FuncData} {xqual : Str} {dvs : List V} (F : FunD K "read_tree" "read_tree" (defArgs sTreeR) (defBody sTreeR) (defScope sTreeR) dvs [] f0 fd) (LT : LineT K C) (PK : FkMm P w K mg base 1 C "peek" g gd ["self"] (spPeek C)) (TA : FkMm P w K mg base 2 C "take" h hd ["self"] (spTakeL C))
    (RM : Fk P w K mg base (14 + 5 * f) "read_sum" i idd ["line", "brackets"] (spRd C 2 f)) (OP : Fk P w K mg base 10 "operation" o od ["line", "sign", "left", "right"] spOper) : FnOk P w K mg base CX0 (15 + 5 * f) f0 fd ["line", "brackets"] (spRd C 1 f) := by
  have hlv : 15 + 5 * f = 14 + 5 * f + 1 := by omega
  rw [hlv]
  refine ok0 F scTreeR (fun vs H Q E h => ?_) (fun cdv A outer s H vs Q E hr h => ?_)
  · obtain ⟨x, dx, l, r, ts, j, b, e, tl, rest, rfl, _⟩ := h
    rfl
  obtain ⟨x, dx, l, r, ts, j, b, e, tl, rest, rfl, hb, L, hd', hP, hn, hf, hok, hz, q⟩ := h
  refine ⟨_, (pss_cons (ps_set (i := 2) scTreeR.nd rfl (Or.inl rfl) (pe_call RM.G (hr.mono (by omega)) (by rfl) RM.m RM.k RM.b .nil pass0 (pa_cons (pv 0) (pa_cons (pv 1) pa_nil))))
    (pss_cons (ps_if (pt_cmpR op_notIn_seq (pe_meth0 (pv 0) LT.cl PK.M PK.G (hr.mono (by omega)) PK.b .nil pass0) (pe_tup (pa_cons pe_str (pa_cons pe_str pa_nil))) rfl)
      (pss_one (ps_ret (pv 2)))
      pss_nil)
    (pss_cons (ps_set (i := 3) scTreeR.nd rfl (Or.inl rfl) (pe_meth0 (pv 0) LT.cl TA.M TA.G (hr.mono (by omega)) TA.b .nil pass0))
    (pss_one (ps_ret (pe_call OP.G (hr.mono (by omega)) (by rfl) OP.m OP.k OP.b .nil pass0 (pa_cons (pv 0) (pa_cons (pv 3) (pa_cons (pv 2) (pa_cons (pe_call RM.G (hr.mono (by omega)) (by rfl) RM.m RM.k RM.b .nil pass0 (pa_cons (pv 0) (pa_cons (pv 1) pa_nil))) pa_nil)))))))))), ?_⟩
  have hpo : ∀ n, ∀ t ∈ ts.drop n, POk (some t) := fun n t ht => (hok t (List.mem_of_mem_drop ht)).1
  have htot := len_drop hd' hP.ne
  have step : ∀ (e1 : Ex) (t1 rest1 : List Tn), ts.drop j = t1 ++ rest1 → Pr f 2 e1 t1 → nx 2 rest1 → Ex.fine 6 e1 → (∀ v H1, TrIn H1 e1 v → LnS H1 C x dx l r ts (j + t1.length) → ButX x H H1 → True) → True := fun _ _ _ _ _ _ _ _ => trivial
  rcases hP.one rfl with hP2 | ⟨g0, l0, r0, tl0, tr0, hg, rfl, rfl, hPl, hPr⟩
  · refine ⟨_, rfl, _, rfl, x, dx, l, r, ts, j, b, e, tl, rest, rfl, hb, L, hd', hP2, hn.up (by decide), hf, hok, hz, fun v H1 tv L1 B1 => ?_⟩
    have hr1 := drop_more hd'
    refine ⟨_, rfl, x, dx, _, rfl, L1.ins, rfl, x, dx, l, r, ts, _, rfl, L1, by omega, hz, ?_⟩
    rw [tokAt_pk hr1]
    refine ⟨(by show 2 ≤ sizeLine; decide), fun p np => ⟨p, _, rfl, .inr (SqT.of upd_same), rfl, rfl, _, rfl, ?_⟩⟩
    rw [if_pos rfl, show inV (.str (pk rest)) [V.str "<", V.str "=="] = decide (pk rest ∈ [("<" : Str), "=="]) from inV_str (l := ["<", "=="])]
    have hpk : pk rest ∉ [("<" : Str), "=="] := by
      intro hm
      have hq := fun (g : Sg) (hg : 1 ≤ g.lv) => pk_nx (fun t ht => hpo (j + tl.length) t (by rw [hr1]; exact ht)) hn g hg
      rcases List.mem_cons.mp hm with h | h
      · exact hq .lt (by decide) h
      · exact hq .eq (by decide) (List.mem_singleton.mp h)
    rw [decide_eq_false hpk]
    refine iteT ?_
    have S2 := same_new np (.tup [.str "<", .str "=="])
    exact ⟨_, rfl, q v _ (tv.same S2) ⟨S2 _ _ L1.ins, S2 _ _ L1.lst⟩ (B1.trans (.same S2))⟩
  · have hd2 : ts.drop j = tl0 ++ (Tn.sg g0 :: (tr0 ++ rest)) := by rw [hd']; simp
    have hnx : nx 2 (Tn.sg g0 :: (tr0 ++ rest)) := nx_sg (by omega)
    rw [List.length_append, List.length_cons] at htot
    refine ⟨_, rfl, _, rfl, x, dx, l, r, ts, j, b, l0, tl0, _, rfl, hb, L, hd2, hPl, hnx, Ex.fine_l hf, hok, hz, fun v H1 tv L1 B1 => ?_⟩
    have hr1 := drop_more hd2
    refine ⟨_, rfl, x, dx, _, rfl, L1.ins, rfl, x, dx, l, r, ts, _, rfl, L1, by omega, hz, ?_⟩
    rw [tokAt_pk hr1]
    refine ⟨(by show 2 ≤ sizeLine; decide), fun p np => ⟨p, _, rfl, .inr (SqT.of upd_same), rfl, rfl, _, rfl, ?_⟩⟩
    rw [if_pos rfl, show inV (.str (pk (Tn.sg g0 :: (tr0 ++ rest)))) [V.str "<", V.str "=="] = decide (pk (Tn.sg g0 :: (tr0 ++ rest)) ∈ [("<" : Str), "=="]) from inV_str (l := ["<", "=="])]
    have hin : pk (Tn.sg g0 :: (tr0 ++ rest)) ∈ [("<" : Str), "=="] := by
      show g0.txt ∈ _
      cases g0 <;> first | decide +kernel | exact absurd hg (by decide)
    rw [decide_eq_true hin]
    refine iteF ?_
    have S2 := same_new np (.tup [.str "<", .str "=="])
    have L2 : LnS (upd H1 p (.tup [.str "<", .str "=="])) C x dx l r ts (j + tl0.length) := ⟨S2 _ _ L1.ins, S2 _ _ L1.lst⟩
    have tv2 := tv.same S2
    have B2 := B1.trans (.same S2)
    generalize upd H1 p (.tup [.str "<", .str "=="]) = H2 at S2 L2 tv2 B2
    refine ⟨_, rfl, x, dx, _, rfl, L2.ins, rfl, x, dx, l, r, ts, _, rfl, L2, by omega, hz, fun H3 L3 B3 => ?_⟩
    rw [tokAt_pk hr1]
    have hr3 : ts.drop (j + tl0.length + 1) = tr0 ++ rest := drop_more (a := [Tn.sg g0]) hr1
    refine ⟨_, rfl, _, rfl, _, rfl, _, rfl, _, rfl, x, dx, l, r, ts, _, b, r0, tr0, rest, rfl, hb, L3, hr3, hPr.to (by decide) (by omega) (by have := g0.lv_pos; omega), hn.up (by decide), Ex.fine_r hf, hok, hz, fun v4 H4 tv4 L4 B4 => ?_⟩
    have tv' := (tv2.butx L2.ins B3).butx L3.ins B4
    refine ⟨x, g0, l0, r0, v, v4, rfl, tv', tv4, hf, fun v5 H5 S5 tv5 => ?_⟩
    refine q v5 H5 tv5 ?_ (B2.trans (B3.trans (B4.trans (.same S5))))
    have e : j + (tl0 ++ Tn.sg g0 :: tr0).length = j + tl0.length + 1 + tr0.length := by rw [List.length_append, List.length_cons]; omega
    rw [e]
    exact ⟨S5 _ _ L4.ins, S5 _ _ L4.lst⟩
theorem ok_exprR {f0 g h i C : Addr} {fd gd hd idd : FuncData} {vd : Value} (F : Fun K "read_expression" "read_expression" sExprR f0 fd) (LT : LineT K C) (mC : mg "Line" = some (.ref C)) (MK : L2.Mk K C i) (GI : FnOk P w K mg base CX0 4 i idd ["self", "text", "row"] (spLineInit C)) (bLi : Binds K idd ["self", "text", "row"] [])
    (SK : FkMm P w K mg base 3 C "skip" g gd ["self", "wanted"] (spSkip C)) (RT : Fk P w K mg base 55 "read_tree" h hd ["line", "brackets"] (spRd C 1 8)) (bT : Binds K hd ["line", "brackets"] [vd]) (vT : Vals [V.int 0] [vd]) (J : Gp K mg) : FnOk P w K mg base CX0 56 f0 fd ["text"] (spRead C) := by
  refine F.ok scExprR (fun vs H Q E h => ?_) (fun cdv A outer s H vs Q E hr h => ?_)
  · obtain ⟨s, ps, e, rfl, _⟩ := h
    rfl
  obtain ⟨z, ps, e, rfl, ez, ho, ht, hA, hz, hP, hf, q⟩ := h
  obtain ⟨tN, gNp⟩ := J.np
  refine ⟨_, (pss_cons (ps_set (i := 1) scExprR.nd rfl (Or.inl rfl) (pe_make MK GI (hr.mono (by omega)) (by rfl) mC bLi .nil pass0 (pa_cons (pv 0) (pa_cons pe_int pa_nil))))
    (pss_cons (ps_set (i := 2) scExprR.nd rfl (Or.inl rfl) (pe_call RT.G (hr.mono (by omega)) (by rfl) RT.m RT.k bT vT pass0 (pa_cons (pv 1) pa_nil)))
    (pss_cons (ps_expr (pe_meth (pv 1) LT.cl SK.M SK.G (hr.mono (by omega)) SK.b .nil pass0 (pa_cons (pe_glob (v := .str Str.empty) rfl gNp ⟨_, rfl⟩) pa_nil)))
    (pss_one (ps_ret (pv 2)))))), ?_⟩
  have htl : (toks ps).length ≤ 1000000 := by
    have h1 := flat_ne ho
    rw [← ez, cd_len] at h1
    have h2 : (toks ps).length ≤ ps.length := List.length_filterMap_le _ _
    omega
  refine ⟨_, rfl, fun x dx nx ndx nex => ?_⟩
  refine ⟨x, dx, z, 1, ps, rfl, upd_same, ez, ho, ht, hA, hz, fun l H1 nl L1 B1 => ⟨rfl, ?_⟩⟩
  have htok : ∀ t ∈ toks ps, TOk t := fun t h => by
    obtain ⟨y, hy1, hy2⟩ := List.mem_filterMap.mp h
    have : y = some t := hy2
    exact ht t (by rw [← this]; exact hy1)
  refine ⟨_, rfl, x, dx, l, 1, toks ps, 0, 0, e, toks ps, [], rfl, rfl, L1, by rw [List.drop_zero, List.append_nil], hP, nx_nil, hf, htok, htl, fun v H2 tv L2 B2 => ?_⟩
  rw [Nat.zero_add] at L2
  have hr1 : (toks ps).drop (toks ps).length = [] := List.drop_length
  refine ⟨_, rfl, x, dx, _, rfl, L2.ins, rfl, x, dx, l, 1, toks ps, _, Str.empty, rfl, L2, by omega, htl, tokAt_pk hr1, fun H3 L3 B3 => ?_⟩
  refine ⟨_, rfl, q v H3 (fun a u e => ?_) (tv.butx L2.ins B3)⟩
  have na : a ≠ x := fun z => by rw [z, nx] at e; cases e
  have nd : a ≠ dx := fun z => by rw [z, ndx] at e; cases e
  exact B3 _ _ na (B2 _ _ na (B1 _ _ na (by rw [upd_ne na, upd_ne nd]; exact e)))
end
end SH

set_option Elab.async false
set_option linter.all false
set_option maxRecDepth 100000
namespace SH
open PySem L2
abbrev sText : Stmt := topS 45
theorem scText : FnScope ["_law_tree_here", "_law_level", "_law_one", "_law_first", "_law_other", "_law_second"] ["_law_tree_here"] (defScope sText) := ⟨rfl, rfl, rfl, by decide +kernel, rfl, by decide +kernel, by decide +kernel⟩
def spText (n : Nat) : Sp := fun vs H Q _ => ∃ (v : V) (e : Ex), vs = [v] ∧ TrIn H e v ∧ Ex.ok n e ∧
  ∀ (p : Addr) (H' : Hp), Same H H' → H p = none → H' p = some (.tup [.str e.txt, .int e.lw]) → Q (.ref p) H'
theorem lenB_le : ∀ {n m : Nat}, n ≤ m → lenB n ≤ lenB m
  | 0, 0, _ => Nat.le_refl _
  | 0, m + 1, _ => by
    have := lenB_le (n := 0) (m := m) (Nat.zero_le _)
    show lenB 0 ≤ 2 * lenB m + 2000
    omega
  | n + 1, m + 1, h => by
    have := lenB_le (n := n) (m := m) (by omega)
    show 2 * lenB n + 2000 ≤ 2 * lenB m + 2000
    omega
section
variable {P : Program} {w : World} {K : PySem.W.Frag} {mg : Str → Option Value} {base : Heap}
theorem lvs (g : Sg) : 1 ≤ g.lv ∧ g.lv ≤ 3 := by cases g <;> decide
theorem left_same (g : Sg) (l : Ex) : (decide (l.lw < g.lv) || decide (l.lw = 1)) = lB g l := by
  have := lvs g
  unfold lB
  cases l with
  | num i => show (decide ((9 : Int) < g.lv) || decide ((9 : Int) = 1)) = (decide ((4 : Int) < g.lv) || decide ((4 : Int) = 1)); rw [decide_eq_false (by omega : ¬ (9 : Int) < g.lv), decide_eq_false (by omega : ¬ (4 : Int) < g.lv)]; rfl
  | nam i => show (decide ((9 : Int) < g.lv) || decide ((9 : Int) = 1)) = (decide ((4 : Int) < g.lv) || decide ((4 : Int) = 1)); rw [decide_eq_false (by omega : ¬ (9 : Int) < g.lv), decide_eq_false (by omega : ¬ (4 : Int) < g.lv)]; rfl
  | op h a b => rfl
theorem right_same (g : Sg) (l : Ex) : (decide (l.lw ≤ g.lv) || decide (l.lw = 1)) = rB g l := by
  have := lvs g
  unfold rB
  cases l with
  | num i => show (decide ((9 : Int) ≤ g.lv) || decide ((9 : Int) = 1)) = decide ((4 : Int) ≤ g.lv); rw [decide_eq_false (by omega : ¬ (9 : Int) ≤ g.lv), decide_eq_false (by omega : ¬ (4 : Int) ≤ g.lv)]; rfl
  | nam i => show (decide ((9 : Int) ≤ g.lv) || decide ((9 : Int) = 1)) = decide ((4 : Int) ≤ g.lv); rw [decide_eq_false (by omega : ¬ (9 : Int) ≤ g.lv), decide_eq_false (by omega : ¬ (4 : Int) ≤ g.lv)]; rfl
  | op h a b =>
    show (decide (h.lv ≤ g.lv) || decide (h.lv = 1)) = decide (h.lv ≤ g.lv)
    by_cases e : h.lv = 1
    · rw [decide_eq_true (by omega : h.lv ≤ g.lv)]; rfl
    · rw [decide_eq_false e, Bool.or_false]
theorem or_ite {c d : Bool} {A B : Prop} (h1 : (c || d) = true → A) (h2 : (c || d) = false → B) : if c = true then A else (if d = true then A else B) := by
  cases c <;> cases d <;> simp_all
def lvD : List (Key × V) := [(.inr "*", .int 3), (.inr "+", .int 2), (.inr "-", .int 2), (.inr "<", .int 1), (.inr "==", .int 1)]
theorem lvD_at (g : Sg) : valV (mergeK [] lvD) (Sum.inr g.txt) = some (.int g.lv) := by cases g <;> decide +kernel
theorem ok_text {n k : Nat} {f : Addr} {fd : FuncData} (F : Fun K "_law_text" "_law_text" sText f fd) (TX : Fk P w K mg base k "_law_text" f fd ["_law_tree_here"] (spText n)) (T : Bi mg) (hn : lenB n ≤ 1000000) : FnOk P w K mg base CX0 (k + 1) f fd ["_law_tree_here"] (spText (n + 1)) := by
  refine F.ok scText (fun vs H Q E h => ?_) (fun cdv A outer s H vs Q E hr h => ?_)
  · obtain ⟨v, e, rfl, _⟩ := h
    rfl
  obtain ⟨v, e, rfl, hT, ho, q⟩ := h
  refine ⟨_, (pss_cons (ps_if (pt_cmpR op_in_seq (pe_ix ix_tup (pv 0) pe_int (fun _ _ => rfl)) (pe_lst (pa_cons pe_str (pa_cons pe_str pa_nil))) rfl)
      (pss_one (ps_ret (pe_tup (pa_cons (pe_callTy (CallR.or call_str_int SkE.call_str_str) (by rfl) T.str (by decide +kernel) (pa_cons (pe_ix ix_tup (pv 0) pe_int (fun _ _ => rfl)) pa_nil)) (pa_cons pe_int pa_nil)))))
      pss_nil)
    (pss_cons (ps_set (i := 1) scText.nd rfl (Or.inl rfl) (pe_dget (hu_of hr) (pe_disp (pps_cons pe_str pe_int (pps_cons pe_str pe_int (pps_cons pe_str pe_int (pps_cons pe_str pe_int (pps_cons pe_str pe_int pps_nil))))) (by rfl) (by rfl) (fun z => by cases z) (by decide)) (pe_ix ix_tup (pv 0) pe_int (fun _ _ => rfl)) (fun _ _ => rfl)))
    (pss_cons (ps_asg (pe_call TX.G hr (by rfl) TX.m TX.k TX.b .nil pass0 (pa_cons (pe_ix ix_tup (pv 0) pe_int (fun _ _ => rfl)) pa_nil)) (pg_tup rfl (pgs_cons (pg_name (i := 2) scText.nd rfl (.inl rfl)) (pgs_cons (pg_name (i := 3) scText.nd rfl (.inl rfl)) pgs_nil))))
    (pss_cons (ps_asg (pe_call TX.G hr (by rfl) TX.m TX.k TX.b .nil pass0 (pa_cons (pe_ix ix_tup (pv 0) pe_int (fun _ _ => rfl)) pa_nil)) (pg_tup rfl (pgs_cons (pg_name (i := 4) scText.nd rfl (.inl rfl)) (pgs_cons (pg_name (i := 5) scText.nd rfl (.inl rfl)) pgs_nil))))
    (C8.pss_cut (ps_if (PW.pt (pw_or (pt_cmpR op_lt (pv 3) (pv 1) (nomark _)) (pw_or1 (pt_cmpR op_eq (pv 3) pe_int (nomark _)))))
      (pss_one (ps_set (i := 2) scText.nd rfl (Or.inl rfl) (pe_op op_add_str (pe_op op_add_str pe_str (pv 2)) pe_str)))
      pss_nil)
    (C8.pss_cut (ps_if (PW.pt (pw_or (pt_cmpR op_le (pv 5) (pv 1) (nomark _)) (pw_or1 (pt_cmpR op_eq (pv 5) pe_int (nomark _)))))
      (pss_one (ps_set (i := 4) scText.nd rfl (Or.inl rfl) (pe_op op_add_str (pe_op op_add_str pe_str (pv 4)) pe_str)))
      pss_nil)
    (pss_one (ps_ret (pe_tup (pa_cons (pe_op op_add_str (pe_op op_add_str (pe_op op_add_str (pe_op op_add_str (pv 2) pe_str) (pe_ix ix_tup (pv 0) pe_int (fun _ _ => rfl))) pe_str) (pv 4)) (pa_cons (pv 1) pa_nil))))))))))), ?_⟩
  have hs : sizeLine = 16777216 := by decide
  cases e with
  | num i =>
    obtain ⟨a, rfl, ha⟩ := hT
    refine ⟨_, rfl, a, _, 0, _, rfl, rfl, SqT.of ha, atI_nat rfl, (by show 2 ≤ sizeLine; decide), fun l hl => ?_⟩
    have sl := same_new hl (.lst [.str "number", .str "name"])
    refine ⟨l, _, rfl, .inl (SqL.of upd_same), rfl, rfl, true, rfl, ?_⟩
    refine ⟨_, rfl, a, _, 1, _, rfl, rfl, SqT.of (sl _ _ ha), atI_nat (j := 1) rfl, .inl ⟨i, rfl, ho, ?_⟩⟩
    refine ⟨(by show 2 ≤ sizeLine; decide), fun p hp => ?_⟩
    exact q p _ (sl.trans (same_new hp _)) (sl.free hp) upd_same
  | nam z =>
    obtain ⟨a, rfl, ha⟩ := hT
    refine ⟨_, rfl, a, _, 0, _, rfl, rfl, SqT.of ha, atI_nat rfl, (by show 2 ≤ sizeLine; decide), fun l hl => ?_⟩
    have sl := same_new hl (.lst [.str "number", .str "name"])
    refine ⟨l, _, rfl, .inl (SqL.of upd_same), rfl, rfl, true, (by decide +kernel), ?_⟩
    refine ⟨_, rfl, a, _, 1, _, rfl, rfl, SqT.of (sl _ _ ha), atI_nat (j := 1) rfl, .inr ⟨z, rfl, ?_⟩⟩
    refine ⟨(by show 2 ≤ sizeLine; decide), fun p hp => ?_⟩
    exact q p _ (sl.trans (same_new hp _)) (sl.free hp) upd_same
  | op g l r =>
    obtain ⟨a, x, y, rfl, ha, hl, hr'⟩ := hT
    obtain ⟨o1, o2⟩ := ho
    have l1 := Ex.len n l o1
    have l2 := Ex.len n r o2
    have q1 := br_len (lB g l) l.txt
    have q2 := br_len (rB g r) r.txt
    have q3 := g.len
    have hb : (" " : Str).length = 1 := by decide +kernel
    have h1 : ("(" : Str).length = 1 := by decide +kernel
    have h2 : (")" : Str).length = 1 := by decide +kernel
    refine ⟨_, rfl, a, _, 0, _, rfl, rfl, SqT.of ha, atI_nat rfl, (by show 2 ≤ sizeLine; decide), fun l0 hl0 => ?_⟩
    have s0 := same_new hl0 (.lst [.str "number", .str "name"])
    have ein : inV (.str g.txt) [.str "number", .str "name"] = false := by cases g <;> decide +kernel
    refine ⟨l0, _, rfl, .inl (SqL.of upd_same), rfl, rfl, _, rfl, ?_⟩
    rw [if_neg Bool.false_ne_true, ein]
    refine iteF ?_
    generalize upd H l0 (.lst [.str "number", .str "name"]) = H0 at s0
    have ha0 := s0 _ _ ha
    -- the dict of levels
    refine fun d hd => ⟨upd_same, lvD, rfl, by decide, ?_⟩
    have e1 : upd (upd H0 d (.dK [])) d (.dK (mergeK [] lvD)) = upd H0 d (.dK (mergeK [] lvD)) := by
      funext b
      by_cases hb : b = d
      · subst hb; rw [upd_same, upd_same]
      · rw [upd_ne hb, upd_ne hb, upd_ne hb]
    rw [e1]
    have s1 := same_new hd (.dK (mergeK [] lvD))
    have hd1 : (upd H0 d (.dK (mergeK [] lvD))) d = some (.dK (mergeK [] lvD)) := upd_same
    generalize upd H0 d (.dK (mergeK [] lvD)) = H1 at s1 hd1
    have ha1 := s1 _ _ ha0
    have gt : DGet H1 d (.str g.txt) (some (.int g.lv)) := by
      have := DGet.k (k := Sum.inr g.txt) hd1
      rwa [lvD_at] at this
    refine ⟨_, rfl, a, _, 0, _, rfl, rfl, SqT.of ha1, atI_nat rfl, d, _, rfl, gt, ?_⟩
    have s01 := s0.trans s1
    refine ⟨_, rfl, a, _, 1, _, rfl, rfl, SqT.of ha1, atI_nat (j := 1) rfl, x, l, rfl, hl.same s01, o1, fun p1 H2 s2 np1 hp1 => ?_⟩
    refine ⟨p1, _, rfl, SqT.of hp1, rfl, _, _, rfl, _, _, rfl, rfl, ?_⟩
    have ha2 := s2 _ _ ha1
    refine ⟨_, rfl, a, _, 2, _, rfl, rfl, SqT.of ha2, atI_nat (j := 2) rfl, y, r, rfl, (hr'.same s01).same s2, o2, fun p2 H3 s3 np2 hp2 => ?_⟩
    refine ⟨p2, _, rfl, SqT.of hp2, rfl, _, _, rfl, _, _, rfl, rfl, ?_⟩
    have ha3 := s3 _ _ ha2
    have s03 := s01.trans (s2.trans s3)
    refine ⟨fun σ' H' => σ' = [some (.ref a), some (.int g.lv), some (.str (br (lB g l) l.txt)), some (.int l.lw), some (.str r.txt), some (.int r.lw)] ∧ H3 = H', ?_, ?_⟩
    · refine ⟨_, rfl, _, rfl, _, _, rfl, rfl, _, rfl, ?_⟩
      have ls := left_same g l
      have alt : ∀ X Y : Prop, True := fun _ _ => trivial
      refine ite2 (fun c => ⟨_, rfl, _, _, rfl, rfl, by omega, _, _, rfl, rfl, by rw [app_len]; omega, ?_, rfl⟩) (fun c => ⟨_, rfl, rfl, _, rfl, ite2 (fun c2 => ⟨_, rfl, _, _, rfl, rfl, by omega, _, _, rfl, rfl, by rw [app_len]; omega, ?_, rfl⟩) (fun c2 => ⟨?_, rfl⟩)⟩)
      · have eb : lB g l = true := by rw [← ls, c]; rfl
        rw [eb]; rfl
      · have c2' : l.lw = 1 := V.int.inj (of_decide_eq_true c2)
        have eb : lB g l = true := by rw [← ls, decide_eq_true c2', Bool.or_true]
        rw [eb]; rfl
      · have c2' : ¬ l.lw = 1 := fun z => (of_decide_eq_false (Bool.eq_false_iff.mpr c2)) (by rw [z])
        have eb : lB g l = false := by rw [← ls, Bool.eq_false_iff.mpr c, decide_eq_false c2']; rfl
        rw [eb]; rfl
    · rintro σ' H' ⟨rfl, rfl⟩
      refine ⟨fun σ' H' => σ' = [some (.ref a), some (.int g.lv), some (.str (br (lB g l) l.txt)), some (.int l.lw), some (.str (br (rB g r) r.txt)), some (.int r.lw)] ∧ H3 = H', ?_, ?_⟩
      · refine ⟨_, rfl, _, rfl, _, _, rfl, rfl, _, rfl, ?_⟩
        have ls := right_same g r
        refine ite2 (fun c => ⟨_, rfl, _, _, rfl, rfl, by omega, _, _, rfl, rfl, by rw [app_len]; omega, ?_, rfl⟩) (fun c => ⟨_, rfl, rfl, _, rfl, ite2 (fun c2 => ⟨_, rfl, _, _, rfl, rfl, by omega, _, _, rfl, rfl, by rw [app_len]; omega, ?_, rfl⟩) (fun c2 => ⟨?_, rfl⟩)⟩)
        · have eb : rB g r = true := by rw [← ls, c]; rfl
          rw [eb]; rfl
        · have c2' : r.lw = 1 := V.int.inj (of_decide_eq_true c2)
          have eb : rB g r = true := by rw [← ls, decide_eq_true c2', Bool.or_true]
          rw [eb]; rfl
        · have c2' : ¬ r.lw = 1 := fun z => (of_decide_eq_false (Bool.eq_false_iff.mpr c2)) (by rw [z])
          have eb : rB g r = false := by rw [← ls, Bool.eq_false_iff.mpr c, decide_eq_false c2']; rfl
          rw [eb]; rfl
      · rintro σ' H' ⟨rfl, rfl⟩
        refine ⟨_, rfl, _, _, rfl, rfl, by omega, _, rfl, a, _, 0, _, rfl, rfl, SqT.of ha3, atI_nat rfl, _, _, rfl, rfl, by rw [app_len]; omega, _, _, rfl, rfl, by rw [app_len, app_len]; omega, _, rfl, _, _, rfl, rfl, by rw [app_len, app_len, app_len]; omega, ?_⟩
        refine ⟨_, rfl, (by show 2 ≤ sizeLine; decide), fun p hp => ?_⟩
        exact q p _ (s03.trans (same_new hp _)) (s03.free hp) upd_same
theorem text_none {f : Addr} {fd : FuncData} : FnOk P w K mg base CX0 0 f fd ["_law_tree_here"] (spText 0) := by
  have no : ∀ vs H Q E, ¬ spText 0 vs H Q E := fun vs H Q E h => by
    obtain ⟨_, _, _, _, h1, _⟩ := h
    exact h1
  exact ⟨fun vs H Q E h => absurd h (no vs H Q E), fun A outer s H args us vs Q E _ _ _ _ h => absurd h (no vs H Q E)⟩
theorem texts {f : Addr} {fd : FuncData} (F : Fun K "_law_text" "_law_text" sText f fd) (m : mg "_law_text" = some (.ref f)) (bd : Binds K fd ["_law_tree_here"] []) (T : Bi mg) : ∀ n : Nat, n ≤ 7 → FnOk P w K mg base CX0 n f fd ["_law_tree_here"] (spText n)
  | 0, _ => text_none
  | n + 1, hn => ok_text F ⟨texts F m bd T n (by omega), m, F.kp, bd⟩ T (Nat.le_trans (lenB_le (m := 7) (by omega)) (by decide))
end
end SH

set_option Elab.async false
set_option linter.all false
set_option maxRecDepth 100000
namespace SH
open PySem L2
abbrev sBrk : Stmt := topS 49
abbrev sWn : Stmt := topS 50
theorem scBrk : FnScope ["_law_bag_here", "_law_tree_here", "_law_nested", "_law_text_here", "_law_level", "_law_more", "_law_found", "_law_own", "_law_first", "_law_second", "_law_inner"] ["_law_bag_here", "_law_tree_here", "_law_nested"] (defScope sBrk) := ⟨rfl, rfl, rfl, by decide +kernel, rfl, by decide +kernel, by decide +kernel⟩
theorem scWn : FnScope ["_law_bag_here", "_law_tree_here", "_law_nested", "_law_wanted"] ["_law_bag_here", "_law_tree_here", "_law_nested", "_law_wanted"] (defScope sWn) := ⟨rfl, rfl, rfl, by decide +kernel, rfl, by decide +kernel, by decide +kernel⟩
def Ex.nds : Ex → Nat
  | .num _ => 1
  | .nam _ => 1
  | .op _ l r => 1 + l.nds + r.nds
def Ex.dp8 : Ex → Nat
  | .num _ => 0
  | .nam _ => 0
  | .op _ l r => 1 + max l.dp8 r.dp8
/-- a new list of texts, read as that tree -/
structure Tk8 (H H' : Hp) (b p : Addr) (k f : Nat) (L : Int) (e : Ex) (c : Nat) (ts : List Tn) : Prop where
  at_ : H' p = some (.lst (ts.map fun t => V.str t.txt))
  ne : p ≠ b
  bag : Bag H' b k
  but : But b H H'
  pr : Pr f L e ts
  tok : ∀ t ∈ ts, TOk t
  len : ts.length + c ≤ 5 * e.nds
def spBrk (d : Nat) : Sp := fun vs H Q _ => ∃ (b : Addr) (v : V) (n k : Nat) (e : Ex), vs = [.ref b, v, .int (n : Nat)] ∧ TrIn H e v ∧ e.dp8 < d ∧ Ex.fine 6 e ∧ Bag H b (k + e.nds) ∧
  ∀ p ts H', Tk8 H H' b p k (e.dp8 + (2 - n)) e.lv e 2 ts → Q (.ref p) H'
/-- the least level that a place wants -/
def wl (w : Bool) (e : Ex) : Int := if w = true then 4 else e.lv
def wf (w : Bool) (e : Ex) (n : Nat) : Nat := if w = true then e.dp8 + (2 - (n + 1)) + 1 else e.dp8 + (2 - n)
def spWn (d : Nat) : Sp := fun vs H Q _ => ∃ (b : Addr) (v : V) (n k : Nat) (w : Bool) (e : Ex), vs = [.ref b, v, .int (n : Nat), .bl w] ∧ TrIn H e v ∧ e.dp8 < d ∧ Ex.fine 6 e ∧ Bag H b (k + e.nds) ∧
  ∀ p ts H', Tk8 H H' b p k (wf w e n) (wl w e) e 0 ts → Q (.ref p) H'
theorem nds_small : ∀ {n : Nat} {e : Ex}, Ex.fine n e → e.nds + 1 ≤ 2 ^ n
  | 0, _, h => h.elim
  | n + 1, .num _, _ => by show 1 + 1 ≤ 2 ^ (n + 1); rw [Nat.pow_succ]; have := Nat.one_le_two_pow (n := n); omega
  | n + 1, .nam _, _ => by show 1 + 1 ≤ 2 ^ (n + 1); rw [Nat.pow_succ]; have := Nat.one_le_two_pow (n := n); omega
  | n + 1, .op _ l r, h => by
    have h1 := nds_small h.1
    have h2 := nds_small h.2
    show 1 + l.nds + r.nds + 1 ≤ 2 ^ (n + 1)
    rw [Nat.pow_succ]
    omega
theorem bag_not {H : Hp} {b p : Addr} {k : Nat} {t : Str} {r : List V} (hb : Bag H b k) (h : H p = some (.lst (.str t :: r))) : p ≠ b := fun z => by
  obtain ⟨x, y, w, hx, _⟩ := hb
  rw [z, hx] at h
  cases h
section
variable {P : Program} {w : World} {K : PySem.W.Frag} {mg : Str → Option Value} {base : Heap}
theorem ok_wn {d : Nat} {f g : Addr} {fd gd : FuncData} (F : Fun K "_law_within" "_law_within" sWn f fd) (BK : Fk P w K mg base (8 + 2 * d) "_law_bracketed" g gd ["_law_bag_here", "_law_tree_here", "_law_nested"] (spBrk d)) : FnOk P w K mg base CX0 (9 + 2 * d) f fd ["_law_bag_here", "_law_tree_here", "_law_nested", "_law_wanted"] (spWn d) := by
  have hlv : 9 + 2 * d = 8 + 2 * d + 1 := by omega
  rw [hlv]
  refine F.ok scWn (fun vs H Q E h => ?_) (fun cdv A outer s H vs Q E hr h => ?_)
  · obtain ⟨b, v, n, k, w, e, rfl, _⟩ := h
    rfl
  obtain ⟨b, v, n, k, w, e, rfl, hT, hd, hf, hB, q⟩ := h
  refine ⟨_, (pss_cons (ps_if (pt_not (pt_val (pv 3)))
      (pss_one (ps_ret (pe_call BK.G (hr.mono (by omega)) (by rfl) BK.m BK.k BK.b .nil pass0 (pa_cons (pv 0) (pa_cons (pv 1) (pa_cons (pv 2) pa_nil))))))
      pss_nil)
    (pss_one (ps_ret (pe_op op_cat (pe_op op_cat (pe_lst (pa_cons pe_str pa_nil)) (pe_call BK.G (hr.mono (by omega)) (by rfl) BK.m BK.k BK.b .nil pass0 (pa_cons (pv 0) (pa_cons (pv 1) (pa_cons (pe_op op_add (pv 2) pe_int) pa_nil))))) (pe_lst (pa_cons pe_str pa_nil)))))), ?_⟩
  have hs : sizeLine = 16777216 := by decide
  have hnd := nds_small hf
  cases w with
  | false =>
    refine ⟨_, rfl, _, rfl, ?_⟩
    refine iteT ?_
    exact ⟨_, rfl, _, rfl, _, rfl, b, v, n, k, e, rfl, hT, hd, hf, hB, fun p ts H' W => q p ts H' ⟨W.at_, W.ne, W.bag, W.but, W.pr, W.tok, by have := W.len; omega⟩⟩
  | true =>
    refine ⟨_, rfl, _, rfl, ?_⟩
    refine iteF ?_
    refine ⟨(by show 1 ≤ sizeLine; decide), fun p1 np1 => ?_⟩
    have S1 := same_new np1 (.lst [.str "("])
    have h1 : (upd H p1 (.lst [.str "("])) p1 = some (.lst [.str "("]) := upd_same
    have hB1 := hB.same S1
    have hT1 := hT.same S1
    generalize upd H p1 (.lst [.str "("]) = H1 at S1 h1 hB1 hT1
    refine ⟨_, rfl, _, rfl, _, rfl, _, _, rfl, rfl, b, v, n + 1, k, e, rfl, hT1, hd, hf, hB1, fun p2 ts H2 W => ?_⟩
    have n1b := bag_not hB1 h1
    have h12 := W.but _ _ n1b h1
    refine ⟨p1, p2, _, _, rfl, rfl, h12, W.at_, ?_, fun p3 np3 => ?_⟩
    · rw [List.length_map]; have := W.len; show 1 + ts.length ≤ sizeLine; omega
    refine ⟨(by show 1 ≤ sizeLine; decide), fun p4 np4 => ?_⟩
    have S3 := same_new np3 (.lst ([V.str "("] ++ ts.map fun t => V.str t.txt))
    have S4 := same_new np4 (.lst [.str ")"])
    have h3 : (upd H2 p3 (.lst ([V.str "("] ++ ts.map fun t => V.str t.txt))) p3 = some (.lst ([V.str "("] ++ ts.map fun t => V.str t.txt)) := upd_same
    refine ⟨p3, p4, _, _, rfl, rfl, S4 _ _ h3, upd_same, ?_, fun p5 np5 => ?_⟩
    · rw [List.length_append, List.length_map]; have := W.len; show 1 + ts.length + 1 ≤ sizeLine; omega
    have S5 := same_new np5 (.lst (([V.str "("] ++ ts.map fun t => V.str t.txt) ++ [V.str ")"]))
    have S35 := S3.trans (S4.trans S5)
    have el : ([V.str "("] ++ ts.map fun t => V.str t.txt) ++ [V.str ")"] = (Tn.lp :: (ts ++ [Tn.rp])).map fun t => V.str t.txt := by
      rw [List.map_cons, List.map_append]; rfl
    refine q p5 (Tn.lp :: (ts ++ [Tn.rp])) _ ⟨by rw [upd_same, el], ?_, W.bag.same S35, (But.of S1).trans (W.but.trans (But.of S35)), ?_, fun t ht => ?_, ?_⟩
    · intro z
      obtain ⟨ys, hy⟩ := W.bag.lst
      rw [z] at np5
      rw [S4 _ _ (S3 _ _ hy)] at np5
      cases np5
    · have hlv := e.lv_pos
      exact .brk (W.pr.to (by decide) (by omega) (by omega))
    · rcases List.mem_cons.mp ht with rfl | ht
      · exact ⟨trivial, fun s z => by cases z⟩
      · rcases List.mem_append.mp ht with ht | ht
        · exact W.tok t ht
        · rw [List.mem_singleton.mp ht]; exact ⟨trivial, fun s z => by cases z⟩
    · rw [List.length_cons, List.length_append]; have := W.len; show ts.length + 1 + 1 + 0 ≤ _; omega
theorem op_pr {g : Sg} {l r : Ex} {n : Nat} {t1 t2 : List Tn} (h1 : Pr (wf (lB g l) l n) (wl (lB g l) l) l t1) (h2 : Pr (wf (rB g r) r n) (wl (rB g r) r) r t2) : Pr ((Ex.op g l r).dp8 + (2 - n)) (Ex.op g l r).lv (.op g l r) (t1 ++ Tn.sg g :: t2) := by
  have gl := g.lv_pos
  have cg : 2 ≤ cap g ∧ cap g ≤ 3 ∧ g.lv ≤ cap g := by unfold cap; split <;> omega
  have hd : (Ex.op g l r).dp8 = 1 + max l.dp8 r.dp8 := rfl
  refine Pr.op (g := g) ?_ ?_
  · cases c : lB g l with
    | true =>
      rw [c] at h1
      have h1' : Pr (l.dp8 + (2 - (n + 1)) + 1) 4 l t1 := h1
      exact (h1'.mono (by omega)).to (by omega) (by omega) (by decide)
    | false =>
      rw [c] at h1
      have h1' : Pr (l.dp8 + (2 - n)) l.lv l t1 := h1
      obtain ⟨a1, a2⟩ := lB_f c
      have := l.lv_pos
      refine (h1'.mono (by omega)).to (by omega) ?_ (by omega)
      unfold cap
      split <;> omega
  · cases c : rB g r with
    | true =>
      rw [c] at h2
      have h2' : Pr (r.dp8 + (2 - (n + 1)) + 1) 4 r t2 := h2
      exact (h2'.mono (by omega)).to (by omega) (by omega) (by decide)
    | false =>
      rw [c] at h2
      have h2' : Pr (r.dp8 + (2 - n)) r.lv r t2 := h2
      have a1 := rB_f c
      have := r.lv_pos
      exact (h2'.mono (by omega)).to (by omega) (by omega) (by omega)
theorem leaf_head {e : Ex} {H : Hp} {v : V} (h : TrIn H e v) : ∃ a xs, v = .ref a ∧ H a = some (.tup xs) ∧ xs[0]? = some (.str e.head) := h.tup
theorem ok_brk {d : Nat} {f g h i : Addr} {fd gd hd idd : FuncData} (F : Fun K "_law_bracketed" "_law_bracketed" sBrk f fd) (WN : Fk P w K mg base (9 + 2 * d) "_law_within" g gd ["_law_bag_here", "_law_tree_here", "_law_nested", "_law_wanted"] (spWn d)) (TX : Fk P w K mg base 6 "_law_text" h hd ["_law_tree_here"] (spText 6)) (TK : Fk P w K mg base 1 "_law_take" i idd ["_law_bag_here", "_law_many"] spTake) (T : Bi mg) :
    FnOk P w K mg base CX0 (8 + 2 * (d + 1)) f fd ["_law_bag_here", "_law_tree_here", "_law_nested"] (spBrk (d + 1)) := by
  have hlv : 8 + 2 * (d + 1) = 9 + 2 * d + 1 := by omega
  rw [hlv]
  refine F.ok scBrk (fun vs H Q E h => ?_) (fun cdv A outer s H vs Q E hr h => ?_)
  · obtain ⟨b, v, n, k, e, rfl, _⟩ := h
    rfl
  obtain ⟨b, v, n, k, e, rfl, hT, hd', hf, hB, q⟩ := h
  refine ⟨_, (pss_cons (ps_asg (pe_call TX.G (hr.mono (by omega)) (by rfl) TX.m TX.k TX.b .nil pass0 (pa_cons (pv 1) pa_nil)) (pg_tup rfl (pgs_cons (pg_name (i := 3) scBrk.nd rfl (.inl rfl)) (pgs_cons (pg_name (i := 4) scBrk.nd rfl (.inl rfl)) pgs_nil))))
    (C8.pss_cut (ps_set (i := 5) scBrk.nd rfl (Or.inl rfl) (pe_and (pe_cmpR op_lt (pv 2) pe_int (nomark _)) (pe_one (pe_cmpR op_eq (pe_call TK.G (hr.mono (by omega)) (by rfl) TK.m TK.k TK.b .nil pass0 (pa_cons (pv 0) (pa_cons pe_int pa_nil))) pe_int (nomark _)))))
    (C8.pss_cut (ps_if (pt_cmpR op_in_seq (pe_ix ix_tup (pv 1) pe_int (fun _ _ => rfl)) (pe_lst (pa_cons pe_str (pa_cons pe_str pa_nil))) rfl)
      (pss_one (ps_set (i := 6) scBrk.nd rfl (Or.inl rfl) (pe_lst (pa_cons (pv 3) pa_nil))))
      (pss_cons (ps_set (i := 7) scBrk.nd rfl (Or.inl rfl) (pe_dget (hu_of hr) (pe_disp (pps_cons pe_str pe_int (pps_cons pe_str pe_int (pps_cons pe_str pe_int (pps_cons pe_str pe_int (pps_cons pe_str pe_int pps_nil))))) (by rfl) (by rfl) (fun z => by cases z) (by decide)) (pe_ix ix_tup (pv 1) pe_int (fun _ _ => rfl)) (fun _ _ => rfl)))
    (pss_cons (ps_par (i := 8) (j := 9) rfl scBrk.nd rfl rfl (by decide) rfl rfl (pa_cons (pe_ix ix_tup (pe_call TX.G (hr.mono (by omega)) (by rfl) TX.m TX.k TX.b .nil pass0 (pa_cons (pe_ix ix_tup (pv 1) pe_int (fun _ _ => rfl)) pa_nil)) pe_int (fun _ _ => rfl)) (pa_cons (pe_ix ix_tup (pe_call TX.G (hr.mono (by omega)) (by rfl) TX.m TX.k TX.b .nil pass0 (pa_cons (pe_ix ix_tup (pv 1) pe_int (fun _ _ => rfl)) pa_nil)) pe_int (fun _ _ => rfl)) pa_nil)) (by rfl))
    (pss_cons (ps_set (i := 10) scBrk.nd rfl (Or.inl rfl) (pe_op op_add (pv 2) (pe_callTy call_int1 (by rfl) T.int (by decide +kernel) (pa_cons (pv 5) pa_nil))))
    (pss_cons (ps_set (i := 6) scBrk.nd rfl (Or.inl rfl) (pe_op op_cat (pe_call WN.G (hr.mono (by omega)) (by rfl) WN.m WN.k WN.b .nil pass0 (pa_cons (pv 0) (pa_cons (pe_ix ix_tup (pv 1) pe_int (fun _ _ => rfl)) (pa_cons (pv 10) (pa_cons (pe_or (pe_cmpR op_lt (pv 8) (pv 7) (nomark _)) (pe_one (pe_cmpR op_eq (pv 8) pe_int (nomark _)))) pa_nil))))) (pe_lst (pa_cons (pe_ix ix_tup (pv 1) pe_int (fun _ _ => rfl)) pa_nil))))
    (pss_one (ps_set (i := 6) scBrk.nd rfl (Or.inl rfl) (pe_op op_cat (pv 6) (pe_call WN.G (hr.mono (by omega)) (by rfl) WN.m WN.k WN.b .nil pass0 (pa_cons (pv 0) (pa_cons (pe_ix ix_tup (pv 1) pe_int (fun _ _ => rfl)) (pa_cons (pv 10) (pa_cons (pe_or (pe_cmpR op_le (pv 9) (pv 7) (nomark _)) (pe_one (pe_cmpR op_eq (pv 9) pe_int (nomark _)))) pa_nil)))))))))))))
    (pss_one (ps_ret (pe_ifExp (pt_val (pv 5)) (pe_op op_cat (pe_op op_cat (pe_lst (pa_cons pe_str pa_nil)) (pv 6)) (pe_lst (pa_cons pe_str pa_nil))) (pv 6))))))), ?_⟩
  have hs : sizeLine = 16777216 := by decide
  have hnd := nds_small hf
  have hnd1 : 1 ≤ e.nds := by cases e <;> simp [Ex.nds] <;> omega
  refine ⟨_, rfl, v, e, rfl, hT, Ex.fine_ok hf, fun p1 H1 S1 np1 hp1 => ?_⟩
  refine ⟨p1, _, rfl, SqT.of hp1, rfl, _, _, rfl, _, _, rfl, rfl, ?_⟩
  have hT1 := hT.same S1
  have hB1 := hB.same S1
  refine ⟨fun σ' H' => ∃ mr : Bool, σ' = [some (.ref b), some v, some (.int (n : Nat)), some (.str e.txt), some (.int e.lw), some (.bl mr), none, none, none, none, none] ∧ (mr = true → n < 2) ∧ Bag H' b (k + (e.nds - 1)) ∧ But b H1 H', ?_, ?_⟩
  · refine ⟨_, rfl, _, _, rfl, rfl, _, rfl, ?_⟩
    by_cases c : n < 2
    · rw [decide_eq_true (by omega : ((n : Nat) : Int) < 2)]
      refine iteT ?_
      refine ⟨_, rfl, b, 5, k + (e.nds - 1), rfl, by decide, by decide, hB1.less (by omega), fun d1 H2 a1 a2 B2 U2 => ?_⟩
      exact ⟨rfl, _, rfl, fun _ => c, B2, U2⟩
    · rw [decide_eq_false (by omega : ¬ ((n : Nat) : Int) < 2)]
      refine iteF ?_
      exact ⟨false, rfl, (fun h => by cases h), hB1.less (by omega), fun _ _ _ h => h⟩
  rintro σ H2 ⟨mr, rfl, hm, B2, U2⟩
  obtain ⟨ys, hys⟩ := hB1.lst
  have hT2 := hT1.but hys U2
  refine ⟨fun σ' H' => ∃ (pf : Addr) (core : List Tn) (y7 y8 y9 y10 : Option V), σ' = [some (.ref b), some v, some (.int (n : Nat)), some (.str e.txt), some (.int e.lw), some (.bl mr), some (.ref pf), y7, y8, y9, y10] ∧
    Tk8 H2 H' b pf k (e.dp8 + (2 - (n + one? mr))) e.lv e 4 core, ?_, ?_⟩
  · cases e with
    | num i =>
      obtain ⟨a, rfl, ha⟩ := hT2
      refine ⟨_, rfl, a, _, 0, _, rfl, rfl, SqT.of ha, atI_nat rfl, (by show 2 ≤ sizeLine; decide), fun l0 hl0 => ?_⟩
      have s0 := same_new hl0 (.lst [.str "number", .str "name"])
      refine ⟨l0, _, rfl, .inl (SqL.of upd_same), rfl, rfl, true, (by decide +kernel), ?_⟩
      refine iteT ?_
      refine ⟨_, rfl, (by show 1 ≤ sizeLine; decide), fun pf npf => ?_⟩
      have s1 := same_new npf (.lst [.str (Tn.num i).txt])
      have s01 := s0.trans s1
      refine ⟨pf, [.num i], _, _, _, _, rfl, upd_same, ?_, B2.same s01, But.of s01, Pr.leaf rfl |>.to (by have := (Ex.num i).lv_pos; omega) (by have := (Ex.num i).lv_pos; omega) (by decide), fun t ht => ?_, Nat.le_refl _⟩
      · intro z
        obtain ⟨zs, hz⟩ := B2.lst
        rw [z, s0 _ _ hz] at npf
        cases npf
      · rw [List.mem_singleton.mp ht]
        exact ⟨hf, fun s z => by cases z⟩
    | nam i =>
      obtain ⟨a, rfl, ha⟩ := hT2
      refine ⟨_, rfl, a, _, 0, _, rfl, rfl, SqT.of ha, atI_nat rfl, (by show 2 ≤ sizeLine; decide), fun l0 hl0 => ?_⟩
      have s0 := same_new hl0 (.lst [.str "number", .str "name"])
      refine ⟨l0, _, rfl, .inl (SqL.of upd_same), rfl, rfl, true, (by decide +kernel), ?_⟩
      refine iteT ?_
      refine ⟨_, rfl, (by show 1 ≤ sizeLine; decide), fun pf npf => ?_⟩
      have s1 := same_new npf (.lst [.str (Tn.nam i).txt])
      have s01 := s0.trans s1
      refine ⟨pf, [.nam i], _, _, _, _, rfl, upd_same, ?_, B2.same s01, But.of s01, Pr.leaf rfl |>.to (by have := (Ex.nam i).lv_pos; omega) (by have := (Ex.nam i).lv_pos; omega) (by decide), fun t ht => ?_, Nat.le_refl _⟩
      · intro z
        obtain ⟨zs, hz⟩ := B2.lst
        rw [z, s0 _ _ hz] at npf
        cases npf
      · rw [List.mem_singleton.mp ht]
        exact ⟨hf.1, fun s z => by cases z; exact hf.2⟩
    | op g l r =>
      obtain ⟨a, x, y, rfl, ha, tx, ty⟩ := hT2
      refine ⟨_, rfl, a, _, 0, _, rfl, rfl, SqT.of ha, atI_nat rfl, (by show 2 ≤ sizeLine; decide), fun l0 hl0 => ?_⟩
      have s0 := same_new hl0 (.lst [.str "number", .str "name"])
      have ein : inV (.str g.txt) [.str "number", .str "name"] = false := by cases g <;> decide +kernel
      refine ⟨l0, _, rfl, .inl (SqL.of upd_same), rfl, rfl, _, rfl, ?_⟩
      rw [if_neg Bool.false_ne_true, ein]
      refine iteF ?_
      have ha0 := s0 _ _ ha
      have tx0 := tx.same s0
      have ty0 := ty.same s0
      have hB0 := B2.same s0
      generalize upd H2 l0 (.lst [.str "number", .str "name"]) = H0 at s0 ha0 tx0 ty0 hB0
      refine fun d0 hd0 => ⟨upd_same, lvD, rfl, by decide, ?_⟩
      have e1 : upd (upd H0 d0 (.dK [])) d0 (.dK (mergeK [] lvD)) = upd H0 d0 (.dK (mergeK [] lvD)) := by
        funext b'
        by_cases hb : b' = d0
        · subst hb; rw [upd_same, upd_same]
        · rw [upd_ne hb, upd_ne hb, upd_ne hb]
      rw [e1]
      have s1 := same_new hd0 (.dK (mergeK [] lvD))
      have hd1 : (upd H0 d0 (.dK (mergeK [] lvD))) d0 = some (.dK (mergeK [] lvD)) := upd_same
      have s01 := s0.trans s1
      have ha1 := s1 _ _ ha0
      have tx1 := tx0.same s1
      have ty1 := ty0.same s1
      have hB1' := hB0.same s1
      generalize upd H0 d0 (.dK (mergeK [] lvD)) = H1' at s01 hd1 ha1 tx1 ty1 hB1'
      have gt : DGet H1' d0 (.str g.txt) (some (.int g.lv)) := by
        have := DGet.k (k := Sum.inr g.txt) hd1
        rwa [lvD_at] at this
      refine ⟨_, rfl, a, _, 0, _, rfl, rfl, SqT.of ha1, atI_nat rfl, d0, _, rfl, gt, ?_⟩
      refine ⟨_, rfl, a, _, 1, _, rfl, rfl, SqT.of ha1, atI_nat (j := 1) rfl, x, l, rfl, tx1, Ex.fine_ok (Ex.fine_l hf), fun q1 G1 sG1 nq1 hq1 => ⟨q1, _, 1, _, rfl, rfl, SqT.of hq1, atI_nat (j := 1) rfl, ?_⟩⟩
      have haG1 := sG1 _ _ ha1
      refine ⟨_, rfl, a, _, 2, _, rfl, rfl, SqT.of haG1, atI_nat (j := 2) rfl, y, r, rfl, ty1.same sG1, Ex.fine_ok (Ex.fine_r hf), fun q2 G2 sG2 nq2 hq2 => ⟨q2, _, 1, _, rfl, rfl, SqT.of hq2, atI_nat (j := 1) rfl, ?_⟩⟩
      refine ⟨_, _, rfl, ?_⟩
      have sG := sG1.trans sG2
      have ha3 := sG _ _ ha1
      have tl3 := tx1.same sG
      have ty3 := ty1.same sG
      have hB3 : Bag G2 b (k + r.nds + l.nds) := (hB1'.same sG).less (by show k + r.nds + l.nds ≤ k + (1 + l.nds + r.nds - 1); omega)
      have U23 : But b H2 G2 := But.of (s01.trans sG)
      obtain ⟨ys3, hys3⟩ := hB3.lst
      have nab : a ≠ b := lst_ne ha3 hys3
      refine ⟨_, rfl, _, rfl, .inr ⟨_, rfl, _, _, rfl, rfl, ?_⟩⟩
      have hin : ((n : Nat) : Int) + (if mr = true then 1 else 0) = ((n + one? mr : Nat) : Int) := by cases mr <;> rfl
      refine ⟨_, rfl, _, rfl, a, _, 1, _, rfl, rfl, SqT.of ha3, atI_nat (j := 1) rfl, _, rfl, _, rfl, _, rfl, _, _, rfl, rfl, _, rfl, ?_⟩
      have ls := left_same g l
      by_cases c1 : l.lw < g.lv
      · rw [decide_eq_true c1]
        refine iteT ?_
        have hb1 : true = lB g l := by rw [← ls, decide_eq_true c1]; rfl
        refine ⟨b, x, n + one? mr, k + r.nds, lB g l, l, (by show [V.ref b, x, V.int (((n : Nat) : Int) + (if mr = true then 1 else 0)), .bl _] = _; rw [hin, hb1]), tl3, by have h2 : 1 + max l.dp8 r.dp8 < d + 1 := hd'; omega, Ex.fine_l hf, hB3, fun p1 ts1 H4 W1 => ?_⟩
        have ha4 := W1.but _ _ nab ha3
        refine ⟨_, rfl, a, _, 0, _, rfl, rfl, SqT.of ha4, atI_nat rfl, (by show 1 ≤ sizeLine; decide), fun l2 nl2 => ?_⟩
        have S5 := same_new nl2 (.lst [V.str g.txt])
        refine ⟨p1, l2, _, _, rfl, rfl, S5 _ _ W1.at_, upd_same, ?_, fun p2 np2 => ?_⟩
        · rw [List.length_map]
          have h1 := W1.len
          have h3 : 1 + l.nds + r.nds + 1 ≤ 2 ^ 6 := hnd
          show ts1.length + 1 ≤ sizeLine
          omega
        have S6 := same_new np2 (.lst (ts1.map (fun t => V.str t.txt) ++ [V.str g.txt]))
        have S56 := S5.trans S6
        have hp2 : (upd (upd H4 l2 (.lst [V.str g.txt])) p2 (.lst (ts1.map (fun t => V.str t.txt) ++ [V.str g.txt]))) p2 = some (.lst (ts1.map (fun t => V.str t.txt) ++ [V.str g.txt])) := upd_same
        have n2b : p2 ≠ b := fun z => by
          obtain ⟨zs, hz⟩ := W1.bag.lst
          rw [z, S5 _ _ hz] at np2
          cases np2
        have hB5 := W1.bag.same S56
        have ha5 := S56 _ _ ha4
        have U25 := U23.trans (W1.but.trans (But.of S56))
        have ty5 : TrIn (upd (upd H4 l2 (.lst [V.str g.txt])) p2 (.lst (ts1.map (fun t => V.str t.txt) ++ [V.str g.txt]))) r y := (ty3.but hys3 W1.but).same S56
        generalize upd (upd H4 l2 (.lst [V.str g.txt])) p2 (.lst (ts1.map (fun t => V.str t.txt) ++ [V.str g.txt])) = H5 at S56 hp2 hB5 ha5 U25 ty5
        refine ⟨_, rfl, _, rfl, _, rfl, a, _, 2, _, rfl, rfl, SqT.of ha5, atI_nat (j := 2) rfl, _, rfl, _, rfl, _, rfl, _, _, rfl, rfl, _, rfl, ?_⟩
        have rs := right_same g r
        by_cases c2 : r.lw ≤ g.lv
        · rw [decide_eq_true c2]
          refine iteT ?_
          have hb2 : true = rB g r := by rw [← rs, decide_eq_true c2]; rfl
          refine ⟨b, y, n + one? mr, k, rB g r, r, (by show [V.ref b, y, V.int (((n : Nat) : Int) + (if mr = true then 1 else 0)), .bl _] = _; rw [hin, hb2]), ty5, by have h2 : 1 + max l.dp8 r.dp8 < d + 1 := hd'; omega, Ex.fine_r hf, hB5, fun p3 ts2 H6 W2 => ?_⟩
          have hp2' := W2.but _ _ n2b hp2
          refine ⟨p2, p3, _, _, rfl, rfl, hp2', W2.at_, ?_, fun p4 np4 => ?_⟩
          · rw [List.length_append, List.length_map, List.length_map]
            have h1 := W1.len
            have h2 := W2.len
            have h3 : 1 + l.nds + r.nds + 1 ≤ 2 ^ 6 := hnd
            show ts1.length + 1 + ts2.length ≤ sizeLine
            omega
          have S7 := same_new np4 (.lst ((ts1.map (fun t => V.str t.txt) ++ [V.str g.txt]) ++ ts2.map fun t => V.str t.txt))
          refine ⟨p4, ts1 ++ Tn.sg g :: ts2, _, _, _, _, rfl, ?_, ?_, W2.bag.same S7, U25.trans (W2.but.trans (But.of S7)), ?_, fun t ht => ?_, ?_⟩
          · rw [upd_same, List.map_append, List.map_cons, List.append_assoc]; rfl
          · intro z
            obtain ⟨zs, hz⟩ := W2.bag.lst
            rw [z, hz] at np4
            cases np4
          · exact op_pr W1.pr W2.pr
          · rcases List.mem_append.mp ht with ht | ht
            · exact W1.tok t ht
            · rcases List.mem_cons.mp ht with rfl | ht
              · exact ⟨trivial, fun s z => by cases z⟩
              · exact W2.tok t ht
          · rw [List.length_append, List.length_cons]
            have h1 := W1.len
            have h2 := W2.len
            show ts1.length + (ts2.length + 1) + 4 ≤ 5 * (1 + l.nds + r.nds)
            omega
        · rw [decide_eq_false c2]
          refine iteF ?_
          refine ⟨_, rfl, rfl, ?_⟩
          have hb2 : decide (V.int r.lw = V.int 1) = rB g r := by
            rw [← rs, decide_eq_false c2, Bool.false_or]
            exact decide_eq_decide.mpr ⟨fun z => V.int.inj z, fun z => by rw [z]⟩
          refine ⟨b, y, n + one? mr, k, rB g r, r, (by show [V.ref b, y, V.int (((n : Nat) : Int) + (if mr = true then 1 else 0)), .bl _] = _; rw [hin, hb2]), ty5, by have h2 : 1 + max l.dp8 r.dp8 < d + 1 := hd'; omega, Ex.fine_r hf, hB5, fun p3 ts2 H6 W2 => ?_⟩
          have hp2' := W2.but _ _ n2b hp2
          refine ⟨p2, p3, _, _, rfl, rfl, hp2', W2.at_, ?_, fun p4 np4 => ?_⟩
          · rw [List.length_append, List.length_map, List.length_map]
            have h1 := W1.len
            have h2 := W2.len
            have h3 : 1 + l.nds + r.nds + 1 ≤ 2 ^ 6 := hnd
            show ts1.length + 1 + ts2.length ≤ sizeLine
            omega
          have S7 := same_new np4 (.lst ((ts1.map (fun t => V.str t.txt) ++ [V.str g.txt]) ++ ts2.map fun t => V.str t.txt))
          refine ⟨p4, ts1 ++ Tn.sg g :: ts2, _, _, _, _, rfl, ?_, ?_, W2.bag.same S7, U25.trans (W2.but.trans (But.of S7)), ?_, fun t ht => ?_, ?_⟩
          · rw [upd_same, List.map_append, List.map_cons, List.append_assoc]; rfl
          · intro z
            obtain ⟨zs, hz⟩ := W2.bag.lst
            rw [z, hz] at np4
            cases np4
          · exact op_pr W1.pr W2.pr
          · rcases List.mem_append.mp ht with ht | ht
            · exact W1.tok t ht
            · rcases List.mem_cons.mp ht with rfl | ht
              · exact ⟨trivial, fun s z => by cases z⟩
              · exact W2.tok t ht
          · rw [List.length_append, List.length_cons]
            have h1 := W1.len
            have h2 := W2.len
            show ts1.length + (ts2.length + 1) + 4 ≤ 5 * (1 + l.nds + r.nds)
            omega
      · rw [decide_eq_false c1]
        refine iteF ?_
        refine ⟨_, rfl, rfl, ?_⟩
        have hb1 : decide (V.int l.lw = V.int 1) = lB g l := by
          rw [← ls, decide_eq_false c1, Bool.false_or]
          exact decide_eq_decide.mpr ⟨fun z => V.int.inj z, fun z => by rw [z]⟩
        refine ⟨b, x, n + one? mr, k + r.nds, lB g l, l, (by show [V.ref b, x, V.int (((n : Nat) : Int) + (if mr = true then 1 else 0)), .bl _] = _; rw [hin, hb1]), tl3, by have h2 : 1 + max l.dp8 r.dp8 < d + 1 := hd'; omega, Ex.fine_l hf, hB3, fun p1 ts1 H4 W1 => ?_⟩
        have ha4 := W1.but _ _ nab ha3
        refine ⟨_, rfl, a, _, 0, _, rfl, rfl, SqT.of ha4, atI_nat rfl, (by show 1 ≤ sizeLine; decide), fun l2 nl2 => ?_⟩
        have S5 := same_new nl2 (.lst [V.str g.txt])
        refine ⟨p1, l2, _, _, rfl, rfl, S5 _ _ W1.at_, upd_same, ?_, fun p2 np2 => ?_⟩
        · rw [List.length_map]
          have h1 := W1.len
          have h3 : 1 + l.nds + r.nds + 1 ≤ 2 ^ 6 := hnd
          show ts1.length + 1 ≤ sizeLine
          omega
        have S6 := same_new np2 (.lst (ts1.map (fun t => V.str t.txt) ++ [V.str g.txt]))
        have S56 := S5.trans S6
        have hp2 : (upd (upd H4 l2 (.lst [V.str g.txt])) p2 (.lst (ts1.map (fun t => V.str t.txt) ++ [V.str g.txt]))) p2 = some (.lst (ts1.map (fun t => V.str t.txt) ++ [V.str g.txt])) := upd_same
        have n2b : p2 ≠ b := fun z => by
          obtain ⟨zs, hz⟩ := W1.bag.lst
          rw [z, S5 _ _ hz] at np2
          cases np2
        have hB5 := W1.bag.same S56
        have ha5 := S56 _ _ ha4
        have U25 := U23.trans (W1.but.trans (But.of S56))
        have ty5 : TrIn (upd (upd H4 l2 (.lst [V.str g.txt])) p2 (.lst (ts1.map (fun t => V.str t.txt) ++ [V.str g.txt]))) r y := (ty3.but hys3 W1.but).same S56
        generalize upd (upd H4 l2 (.lst [V.str g.txt])) p2 (.lst (ts1.map (fun t => V.str t.txt) ++ [V.str g.txt])) = H5 at S56 hp2 hB5 ha5 U25 ty5
        refine ⟨_, rfl, _, rfl, _, rfl, a, _, 2, _, rfl, rfl, SqT.of ha5, atI_nat (j := 2) rfl, _, rfl, _, rfl, _, rfl, _, _, rfl, rfl, _, rfl, ?_⟩
        have rs := right_same g r
        by_cases c2 : r.lw ≤ g.lv
        · rw [decide_eq_true c2]
          refine iteT ?_
          have hb2 : true = rB g r := by rw [← rs, decide_eq_true c2]; rfl
          refine ⟨b, y, n + one? mr, k, rB g r, r, (by show [V.ref b, y, V.int (((n : Nat) : Int) + (if mr = true then 1 else 0)), .bl _] = _; rw [hin, hb2]), ty5, by have h2 : 1 + max l.dp8 r.dp8 < d + 1 := hd'; omega, Ex.fine_r hf, hB5, fun p3 ts2 H6 W2 => ?_⟩
          have hp2' := W2.but _ _ n2b hp2
          refine ⟨p2, p3, _, _, rfl, rfl, hp2', W2.at_, ?_, fun p4 np4 => ?_⟩
          · rw [List.length_append, List.length_map, List.length_map]
            have h1 := W1.len
            have h2 := W2.len
            have h3 : 1 + l.nds + r.nds + 1 ≤ 2 ^ 6 := hnd
            show ts1.length + 1 + ts2.length ≤ sizeLine
            omega
          have S7 := same_new np4 (.lst ((ts1.map (fun t => V.str t.txt) ++ [V.str g.txt]) ++ ts2.map fun t => V.str t.txt))
          refine ⟨p4, ts1 ++ Tn.sg g :: ts2, _, _, _, _, rfl, ?_, ?_, W2.bag.same S7, U25.trans (W2.but.trans (But.of S7)), ?_, fun t ht => ?_, ?_⟩
          · rw [upd_same, List.map_append, List.map_cons, List.append_assoc]; rfl
          · intro z
            obtain ⟨zs, hz⟩ := W2.bag.lst
            rw [z, hz] at np4
            cases np4
          · exact op_pr W1.pr W2.pr
          · rcases List.mem_append.mp ht with ht | ht
            · exact W1.tok t ht
            · rcases List.mem_cons.mp ht with rfl | ht
              · exact ⟨trivial, fun s z => by cases z⟩
              · exact W2.tok t ht
          · rw [List.length_append, List.length_cons]
            have h1 := W1.len
            have h2 := W2.len
            show ts1.length + (ts2.length + 1) + 4 ≤ 5 * (1 + l.nds + r.nds)
            omega
        · rw [decide_eq_false c2]
          refine iteF ?_
          refine ⟨_, rfl, rfl, ?_⟩
          have hb2 : decide (V.int r.lw = V.int 1) = rB g r := by
            rw [← rs, decide_eq_false c2, Bool.false_or]
            exact decide_eq_decide.mpr ⟨fun z => V.int.inj z, fun z => by rw [z]⟩
          refine ⟨b, y, n + one? mr, k, rB g r, r, (by show [V.ref b, y, V.int (((n : Nat) : Int) + (if mr = true then 1 else 0)), .bl _] = _; rw [hin, hb2]), ty5, by have h2 : 1 + max l.dp8 r.dp8 < d + 1 := hd'; omega, Ex.fine_r hf, hB5, fun p3 ts2 H6 W2 => ?_⟩
          have hp2' := W2.but _ _ n2b hp2
          refine ⟨p2, p3, _, _, rfl, rfl, hp2', W2.at_, ?_, fun p4 np4 => ?_⟩
          · rw [List.length_append, List.length_map, List.length_map]
            have h1 := W1.len
            have h2 := W2.len
            have h3 : 1 + l.nds + r.nds + 1 ≤ 2 ^ 6 := hnd
            show ts1.length + 1 + ts2.length ≤ sizeLine
            omega
          have S7 := same_new np4 (.lst ((ts1.map (fun t => V.str t.txt) ++ [V.str g.txt]) ++ ts2.map fun t => V.str t.txt))
          refine ⟨p4, ts1 ++ Tn.sg g :: ts2, _, _, _, _, rfl, ?_, ?_, W2.bag.same S7, U25.trans (W2.but.trans (But.of S7)), ?_, fun t ht => ?_, ?_⟩
          · rw [upd_same, List.map_append, List.map_cons, List.append_assoc]; rfl
          · intro z
            obtain ⟨zs, hz⟩ := W2.bag.lst
            rw [z, hz] at np4
            cases np4
          · exact op_pr W1.pr W2.pr
          · rcases List.mem_append.mp ht with ht | ht
            · exact W1.tok t ht
            · rcases List.mem_cons.mp ht with rfl | ht
              · exact ⟨trivial, fun s z => by cases z⟩
              · exact W2.tok t ht
          · rw [List.length_append, List.length_cons]
            have h1 := W1.len
            have h2 := W2.len
            show ts1.length + (ts2.length + 1) + 4 ≤ 5 * (1 + l.nds + r.nds)
            omega
  · rintro σ H3 ⟨pf, core, y7, y8, y9, y10, rfl, W⟩
    refine ⟨_, rfl, _, rfl, ?_⟩
    have U03 : But b H H3 := (But.of S1).trans (U2.trans W.but)
    cases mr with
    | false =>
      refine iteF ⟨_, rfl, ?_⟩
      exact q pf core H3 ⟨W.at_, W.ne, W.bag, U03, W.pr, W.tok, by have := W.len; omega⟩
    | true =>
      refine iteT ?_
      have hn2 := hm rfl
      refine ⟨(by show 1 ≤ sizeLine; decide), fun p2 np2 => ?_⟩
      have S3 := same_new np2 (.lst [.str "("])
      have h2 : (upd H3 p2 (.lst [.str "("])) p2 = some (.lst [.str "("]) := upd_same
      refine ⟨_, rfl, p2, pf, _, _, rfl, rfl, h2, S3 _ _ W.at_, ?_, fun p3 np3 => ?_⟩
      · rw [List.length_map]; have := W.len; show 1 + core.length ≤ sizeLine; omega
      have S4 := same_new np3 (.lst ([V.str "("] ++ core.map fun t => V.str t.txt))
      refine ⟨(by show 1 ≤ sizeLine; decide), fun p4 np4 => ?_⟩
      have S5 := same_new np4 (.lst [.str ")"])
      have h3 : (upd (upd H3 p2 (.lst [.str "("])) p3 (.lst ([V.str "("] ++ core.map fun t => V.str t.txt))) p3 = some (.lst ([V.str "("] ++ core.map fun t => V.str t.txt)) := upd_same
      refine ⟨p3, p4, _, _, rfl, rfl, S5 _ _ h3, upd_same, ?_, fun p5 np5 => ?_⟩
      · rw [List.length_append, List.length_map]; have := W.len; show 1 + core.length + 1 ≤ sizeLine; omega
      have S6 := same_new np5 (.lst (([V.str "("] ++ core.map fun t => V.str t.txt) ++ [V.str ")"]))
      have S36 := S3.trans (S4.trans (S5.trans S6))
      have el : ([V.str "("] ++ core.map fun t => V.str t.txt) ++ [V.str ")"] = (Tn.lp :: (core ++ [Tn.rp])).map fun t => V.str t.txt := by
        rw [List.map_cons, List.map_append]; rfl
      refine q p5 (Tn.lp :: (core ++ [Tn.rp])) _ ⟨by rw [upd_same, el], ?_, W.bag.same S36, U03.trans (But.of S36), ?_, fun t ht => ?_, ?_⟩
      · intro z
        obtain ⟨zs, hz⟩ := W.bag.lst
        rw [z] at np5
        rw [S5 _ _ (S4 _ _ (S3 _ _ hz))] at np5
        cases np5
      · have hlv := e.lv_pos
        have hp := Pr.brk (W.pr.to (L := 1) (by decide) (by omega) (by omega))
        rw [show e.dp8 + (2 - (n + one? true)) + 1 = e.dp8 + (2 - n) by show e.dp8 + (2 - (n + 1)) + 1 = _; omega] at hp
        exact hp.to (by omega) (by omega) (by decide)
      · rcases List.mem_cons.mp ht with rfl | ht
        · exact ⟨trivial, fun s z => by cases z⟩
        · rcases List.mem_append.mp ht with ht | ht
          · exact W.tok t ht
          · rw [List.mem_singleton.mp ht]; exact ⟨trivial, fun s z => by cases z⟩
      · rw [List.length_cons, List.length_append]; have := W.len; show core.length + 1 + 1 + 2 ≤ _; omega
theorem brk_none {f0 : Addr} {fd : FuncData} : FnOk P w K mg base CX0 (8 + 2 * 0) f0 fd ["_law_bag_here", "_law_tree_here", "_law_nested"] (spBrk 0) := by
  have no : ∀ vs H Q E, ¬ spBrk 0 vs H Q E := fun vs H Q E h => by
    obtain ⟨_, _, _, _, _, _, _, h1, _⟩ := h
    omega
  exact ⟨fun vs H Q E h => absurd h (no vs H Q E), fun A outer s H args us vs Q E _ _ _ _ h => absurd h (no vs H Q E)⟩
end
end SH

set_option Elab.async false
set_option linter.all false
set_option maxRecDepth 100000
namespace SH
open PySem L2
abbrev sBlk : Stmt := topS 51
theorem scBlk : FnScope ["_law_bag_here", "_law_parts_here", "_law_found", "_law_part", "_law_many"] ["_law_bag_here", "_law_parts_here"] (defScope sBlk) := ⟨rfl, rfl, rfl, by decide +kernel, rfl, by decide +kernel, by decide +kernel⟩
def blS : Nat → Str
  | 0 => ""
  | n + 1 => blS n ++ " "
theorem bl_mul : ∀ n : Fin 4, PySem.Txt.mul " " (n.val : Int) = blS n.val := by decide +kernel
theorem bl_ok : ∀ n : Fin 4, MulOk " " (n.val : Int) := by
  unfold MulOk
  decide +kernel
theorem op_mulB {X : Cx} : OpR X (binaryOp .Mult) (fun x y H Q => ∃ n : Nat, x = .str " " ∧ y = .int (n : Int) ∧ n ≤ 3 ∧ Q (.str (blS n)) H) := by
  intro pins s σ H x y v u Q I rx ry h
  obtain ⟨n, rfl, rfl, h3, q⟩ := h
  obtain ⟨t, rfl⟩ := (show ∃ t, v = Value.str " " t from rx)
  obtain ⟨t', rfl⟩ := (show ∃ t, u = Value.int n t from ry)
  refine SB.mul (bl_ok ⟨n, by omega⟩) fun tk k => ?_
  rw [bl_mul ⟨n, by omega⟩]
  exact ⟨.str (blS n), H, I.tok k, ⟨tk, rfl⟩, q⟩
def blP (n : Nat) : List Pc := List.replicate n none
theorem flat_blP : ∀ n : Nat, flat (blP n) = cd (blS n)
  | 0 => by decide +kernel
  | n + 1 => by
    show flat (none :: blP n) = cd (blS n ++ " ")
    rw [flat_cons, cd_app, ← flat_blP n]
    have : ∀ m, flat (blP m) = List.replicate m 32 := by
      intro m
      induction m with
      | zero => rfl
      | succ m ih => show cd (" " : Str) ++ flat (blP m) = _; rw [cd_bl, ih]; rfl
    rw [this, show cd (ptxt none) = [32] from cd_bl, cd_bl, ← List.replicate_succ', List.replicate_succ]
    rfl
theorem toks_blP : ∀ n : Nat, toks (blP n) = []
  | 0 => rfl
  | n + 1 => toks_blP n
theorem blS_len (n : Nat) : (blS n).length = n := by
  induction n with
  | zero => decide +kernel
  | succ n ih =>
    show (blS n ++ " ").length = _
    rw [app_len, ih, show (" " : Str).length = 1 by decide +kernel]
theorem ajs_bl : ∀ (n : Nat) {ps : List Pc}, Ajs ps → Ajs (ps ++ blP n)
  | 0, ps, h => by show Ajs (ps ++ []); rw [List.append_nil]; exact h
  | n + 1, ps, h => by
    have h1 : Ajs (ps ++ [none]) := h.snoc fun q _ hq => by
      have : pkd q = 4 := hq.1
      omega
    have := ajs_bl n h1
    rw [List.append_assoc] at this
    exact this
def spBlk : Sp := fun vs H Q _ => ∃ (b l : Addr) (ts : List Tn) (k : Nat), vs = [.ref b, .ref l] ∧ l ≠ b ∧ H l = some (.lst (ts.map fun t => V.str t.txt)) ∧ (∀ t ∈ ts, TOk t) ∧ ts.length ≤ 10000 ∧ Bag H b (k + ts.length + 1) ∧
  ∀ (s : Str) (ps : List Pc) (H' : Hp), cd s = flat ps → toks ps = ts → (∀ p ∈ ps, POk p) → Ajs ps → s.length ≤ 40 * ts.length + 2 → Bag H' b k → But b H H' → Q (.str s) H'
section
variable {P : Program} {w : World} {K : PySem.W.Frag} {mg : Str → Option Value} {base : Heap}
theorem ok_blk {f g h : Addr} {fd gd hd : FuncData} (F : Fun K "_law_blanked" "_law_blanked" sBlk f fd) (KI : Fk P w K mg base 1 "_law_kind" g gd ["_law_sign"] spKind) (TK : Fk P w K mg base 1 "_law_take" h hd ["_law_bag_here", "_law_many"] spTake) (T : Bi mg) : FnOk P w K mg base CX0 2 f fd ["_law_bag_here", "_law_parts_here"] spBlk := by
  refine F.ok scBlk (fun vs H Q E h => ?_) (fun cdv A outer s H vs Q E hr h => ?_)
  · obtain ⟨b, l, ts, k, rfl, _⟩ := h
    rfl
  obtain ⟨b, l, ts, k, rfl, nlb, hl, ho, hz, hB, q⟩ := h
  refine ⟨_, (pss_cons (ps_set (i := 2) scBlk.nd rfl (Or.inl rfl) pe_str)
    (pss_cons (ps_for PassesOwn.never rfl (pi_list (pv 1)) (pg_name (i := 3) scBlk.nd rfl (.inl rfl))
      (C8.pss_cut (ps_set (i := 4) scBlk.nd rfl (Or.inl rfl) (pe_ix ix_list (pe_lst (pa_cons pe_int (pa_cons pe_int (pa_cons pe_int (pa_cons pe_int pa_nil))))) (pe_call TK.G (hr.mono (by omega)) (by rfl) TK.m TK.k TK.b .nil pass0 (pa_cons (pv 0) (pa_cons pe_int pa_nil))) (fun _ _ => rfl)))
    (C8.pss_cut (ps_if (PW.pt (pw_and (pt_cmpR op_ne (pv 2) pe_str (nomark _)) (pw_and (pt_cmpR op_eq (pe_call KI.G (hr.mono (by omega)) (by rfl) KI.m KI.k KI.b .nil pass0 (pa_cons (pe_ix ix_str (pv 2) (pe_un un_neg pe_int) (fun _ _ => rfl)) pa_nil)) (pe_call KI.G (hr.mono (by omega)) (by rfl) KI.m KI.k KI.b .nil pass0 (pa_cons (pe_ix ix_str (pv 3) pe_int (fun _ _ => rfl)) pa_nil)) (nomark _)) (pw_and1 (pt_cmpR op_lt (pe_call KI.G (hr.mono (by omega)) (by rfl) KI.m KI.k KI.b .nil pass0 (pa_cons (pe_ix ix_str (pv 3) pe_int (fun _ _ => rfl)) pa_nil)) pe_int (nomark _))))))
      (pss_one (ps_set (i := 4) scBlk.nd rfl (Or.inl rfl) (pe_callB (call_max2 rfl) (by rfl) T.max (by decide +kernel) (pa_cons pe_int (pa_cons (pv 4) pa_nil)))))
      pss_nil)
    (pss_one (ps_set (i := 2) scBlk.nd rfl (Or.inl rfl) (pe_op op_add_str (pe_op op_add_str (pv 2) (pe_op op_mulB pe_str (pv 4))) (pv 3)))))))
    (pss_one (ps_ret (pe_op op_add_str (pv 2) (pe_op op_mulB pe_str (pe_ix ix_list (pe_lst (pa_cons pe_int (pa_cons pe_int (pa_cons pe_int (pa_cons pe_int pa_nil))))) (pe_call TK.G (hr.mono (by omega)) (by rfl) TK.m TK.k TK.b .nil pass0 (pa_cons (pv 0) (pa_cons pe_int pa_nil))) (fun _ _ => rfl)))))))), ?_⟩
  have hs : sizeLine = 16777216 := by decide
  refine ⟨_, rfl, l, rfl, ⟨_, SqL.of hl⟩, for_list (K := K) (xs := ts.map fun t => V.str t.txt) (fun i σ H' => ∃ (fd' : Str) (ps : List Pc) (x y : Option V), σ = [some (.ref b), some (.ref l), some (.str fd'), x, y] ∧ cd fd' = flat ps ∧ toks ps = ts.take i ∧ (∀ p ∈ ps, POk p) ∧ Ajs ps ∧ fd'.length ≤ 40 * i ∧
    Bag H' b (k + (ts.length - i) + 1) ∧ But b H H') ⟨"", [], none, none, rfl, by decide +kernel, rfl, (fun p h => by cases h), trivial, Nat.le_refl _, hB, fun _ _ _ h => h⟩ (fun i σ H' _ h => by obtain ⟨_, _, _, _, _, _, _, _, _, _, _, U⟩ := h; exact SqL.of (U _ _ nlb hl)) ?_ ?_⟩
  · rintro i x σ H1 hx ⟨fd', ps, x0, y0, rfl, e1, e2, o1, a1, z1, B1, U1⟩
    rw [List.getElem?_map] at hx
    cases hxi : ts[i]? with
    | none => rw [hxi] at hx; cases hx
    | some t =>
      rw [hxi] at hx
      cases hx
      have hil : i < ts.length := (List.getElem?_eq_some_iff.mp hxi).1
      have htk := ho t (List.mem_of_getElem? hxi)
      have htl := tx_len8 htk.1
      obtain ⟨c0, r0, ec0⟩ : ∃ c r, cd t.txt = c :: r := by
        cases e : cd t.txt with
        | nil => exact absurd e (pc_ne htk.1)
        | cons c r => exact ⟨c, r, rfl⟩
      have k0 : kdC c0 = t.kd := pc_kinds htk.1 c0 (by show c0 ∈ cd t.txt; rw [ec0]; exact List.mem_cons_self)
      refine ⟨fun σ' H' => ∃ m : Nat, σ' = [some (.ref b), some (.ref l), some (.str fd'), some (.str t.txt), some (.int (m : Nat))] ∧ m ≤ 3 ∧ Bag H' b (k + (ts.length - (i + 1)) + 1) ∧ But b H H', ?_, ?_⟩
      · refine ⟨(by show 4 ≤ sizeLine; decide), fun l2 nl2 => ?_⟩
        have S2 := same_new nl2 (.lst [.int 0, .int 0, .int 1, .int 3])
        have h2 : (upd H1 l2 (.lst [.int 0, .int 0, .int 1, .int 3])) l2 = some (.lst [.int 0, .int 0, .int 1, .int 3]) := upd_same
        have n2b : l2 ≠ b := fun z => by obtain ⟨ys, hy⟩ := B1.lst; rw [z, hy] at nl2; cases nl2
        refine ⟨_, rfl, b, 4, k + (ts.length - (i + 1)) + 1, rfl, by decide, by decide, (B1.same S2).less (by omega), fun d1 H2 b1 b2 B2 U2 => ?_⟩
        obtain ⟨v, ev, hv⟩ := menuI (ns := [0, 0, 1, 3]) b1 (by show d1 < 4; exact b2)
        have hv' : v = 0 ∨ v = 1 ∨ v = 3 := by simpa using hv
        refine ⟨l2, _, _, _, rfl, rfl, SqL.of (U2 _ _ n2b h2), ev, v.toNat, ?_, by omega, B2, U1.trans ((But.of S2).trans U2)⟩
        rw [show ((v.toNat : Nat) : Int) = v by omega]
        rfl
      · rintro σ' H2 ⟨m, rfl, hm, B2, U2⟩
        refine ⟨fun σ' H' => ∃ m : Nat, σ' = [some (.ref b), some (.ref l), some (.str fd'), some (.str t.txt), some (.int (m : Nat))] ∧ m ≤ 3 ∧ Bag H' b (k + (ts.length - (i + 1)) + 1) ∧ But b H H' ∧ (m = 0 → ∀ p, ps.getLast? = some p → ¬ (pkd p = t.kd ∧ pkd p < 3)), ?_, ?_⟩
        · refine ⟨_, rfl, rfl, _, rfl, ?_⟩
          by_cases ce : fd' = Str.empty
          · have hps : ps = [] := by
              have h1 := flat_ne o1
              rw [← e1, ce] at h1
              exact List.length_eq_zero_iff.mp (Nat.le_zero.mp h1)
            rw [decide_eq_true (show V.str fd' = V.str ("" : Str) by rw [ce]; rfl)]
            refine iteF ?_
            refine iteF ?_
            exact ⟨m, rfl, hm, B2, U2, fun _ p hp => by rw [hps] at hp; cases hp⟩
          · rw [decide_eq_false (fun z : V.str fd' = V.str ("" : Str) => ce (V.str.inj z))]
            refine iteT ?_
            rcases List.eq_nil_or_concat ps with eps | ⟨ps', p, eps⟩
            · exact absurd (cd_inj (by rw [e1, eps]; rfl)) ce
            rw [List.concat_eq_append] at eps
            have hpo := o1 p (by rw [eps]; exact List.mem_append_right _ List.mem_cons_self)
            rcases List.eq_nil_or_concat (cd (ptxt p)) with ecp | ⟨A1, cl, ecp⟩
            · exact absurd ecp (pc_ne hpo)
            rw [List.concat_eq_append] at ecp
            have hcl : kdC cl = pkd p := pc_kinds hpo cl (by rw [ecp]; exact List.mem_append_right _ List.mem_cons_self)
            have efd : cd fd' = (flat ps' ++ A1) ++ [cl] := by
              rw [e1, eps, flat_app, flat_cons, ecp, show flat [] = [] from rfl, List.append_nil, ← List.append_assoc]
            have hgl : ps.getLast? = some p := by rw [eps, List.getLast?_concat]
            have at0 : atI t.txt.cps.toList 0 = some c0 := by show atI (cd t.txt) 0 = _; rw [ec0]; exact atI_nat (j := 0) rfl
            refine ⟨_, rfl, _, rfl, fd', _, cl, rfl, rfl, by omega, (by show atI (cd fd') _ = some cl; rw [efd]; exact atI_last _ _), cl, rfl, fun H3 S3 => ?_⟩
            refine ⟨_, rfl, t.txt, 0, c0, rfl, rfl, by omega, at0, c0, rfl, fun H4 S4 => ⟨rfl, _, rfl, ?_⟩⟩
            have S34 := S3.trans S4
            have B4 := B2.same S34
            have U4 := U2.trans (But.of S34)
            by_cases cq : kdC cl = kdC c0
            · rw [decide_eq_true (by rw [cq])]
              refine iteT ?_
              refine ⟨_, rfl, t.txt, 0, c0, rfl, rfl, by omega, at0, c0, rfl, fun H5 S5 => ⟨_, _, rfl, rfl, _, rfl, ?_⟩⟩
              have B5 := B4.same S5
              have U5 := U4.trans (But.of S5)
              by_cases c3 : kdC c0 < 3
              · rw [decide_eq_true c3]
                refine iteT ?_
                refine ⟨_, rfl, _, _, rfl, max 1 m, ?_, by omega, B5, U5, fun h0 => by omega⟩
                have em : (if ((m : Nat) : Int) > 1 then ((m : Nat) : Int) else 1) = ((max 1 m : Nat) : Int) := by split <;> omega
                rw [em]
                rfl
              · rw [decide_eq_false c3]
                refine iteF ?_
                refine ⟨m, rfl, hm, B5, U5, fun _ p' hp' h => ?_⟩
                rw [hgl] at hp'
                cases hp'
                omega
            · rw [decide_eq_false (fun z => cq (V.int.inj z))]
              refine iteF ?_
              refine iteF ?_
              refine ⟨m, rfl, hm, B4, U4, fun _ p' hp' h => ?_⟩
              rw [hgl] at hp'
              cases hp'
              omega
        · rintro σ' H3 ⟨m', rfl, hm', B3, U3, hno⟩
          refine ⟨_, rfl, _, rfl, m', rfl, rfl, hm', _, _, rfl, rfl, by rw [blS_len]; omega, _, rfl, _, _, rfl, rfl, by rw [app_len, blS_len]; omega, ?_⟩
          refine ⟨fd' ++ blS m' ++ t.txt, ps ++ blP m' ++ [some t], _, _, rfl, ?_, ?_, fun p hp => ?_, ?_, ?_, B3, U3⟩
          · rw [cd_app, cd_app, flat_app, flat_app, flat_blP, e1]
            show _ = _ ++ (cd (ptxt (some t)) ++ [])
            rw [List.append_nil]
            rfl
          · rw [toks_app, toks_app, toks_blP, List.append_nil, e2, List.take_add_one, hxi]
            rfl
          · rcases List.mem_append.mp hp with h | h
            · rcases List.mem_append.mp h with h | h
              · exact o1 p h
              · rw [List.eq_of_mem_replicate h]; trivial
            · rw [List.mem_singleton.mp h]; exact htk.1
          · refine (ajs_bl m' a1).snoc fun p hp => ?_
            cases m' with
            | zero =>
              have hp' : (ps ++ []).getLast? = some p := hp
              rw [List.append_nil] at hp'
              exact hno rfl p hp'
            | succ m' =>
              have e : ps ++ blP (m' + 1) = (ps ++ blP m') ++ [none] := by
                unfold blP
                rw [List.replicate_succ', List.append_assoc]
              rw [e, List.getLast?_concat] at hp
              cases hp
              exact fun h => absurd h.2 (by decide)
          · rw [app_len, app_len, blS_len]; omega
  · rintro σ H1 ⟨fd', ps, x0, y0, rfl, e1, e2, o1, a1, z1, B1, U1⟩
    rw [List.length_map] at e2 z1 B1
    rw [List.take_length] at e2
    refine ⟨_, rfl, (by show 4 ≤ sizeLine; decide), fun l2 nl2 => ?_⟩
    have S2 := same_new nl2 (.lst [.int 0, .int 0, .int 0, .int 2])
    have h2 : (upd H1 l2 (.lst [.int 0, .int 0, .int 0, .int 2])) l2 = some (.lst [.int 0, .int 0, .int 0, .int 2]) := upd_same
    have n2b : l2 ≠ b := fun z => by obtain ⟨ys, hy⟩ := B1.lst; rw [z, hy] at nl2; cases nl2
    refine ⟨_, rfl, b, 4, k, rfl, by decide, by decide, (B1.same S2).less (by omega), fun d1 H2 b1 b2 B2 U2 => ?_⟩
    obtain ⟨v, ev, hv⟩ := menuI (ns := [0, 0, 0, 2]) b1 (by show d1 < 4; exact b2)
    have hv' : v = 0 ∨ v = 2 := by simpa using hv
    refine ⟨l2, _, _, _, rfl, rfl, SqL.of (U2 _ _ n2b h2), ev, v.toNat, rfl, ?_, by omega, _, _, rfl, rfl, by rw [blS_len]; omega, ?_⟩
    · rw [show ((v.toNat : Nat) : Int) = v by omega]
    refine q (fd' ++ blS v.toNat) (ps ++ blP v.toNat) H2 ?_ ?_ (fun p hp => ?_) (ajs_bl _ a1) ?_ B2 (U1.trans ((But.of S2).trans U2))
    · rw [cd_app, flat_app, flat_blP, e1]
    · rw [toks_app, toks_blP, List.append_nil, e2]
    · rcases List.mem_append.mp hp with h | h
      · exact o1 p h
      · rw [List.eq_of_mem_replicate h]; trivial
    · rw [app_len, blS_len]; omega
end
end SH

set_option Elab.async false
set_option linter.all false
set_option maxRecDepth 100000
/-! Sets of unlike texts: set(tuple), {.. for .. in ..}, and how many stand in one. -/
namespace SHSet
open PySem PySem.Spec PyProof.Rows
/-- a set in which just these unlike texts stand -/
def TxtSet (prog : Program) (w : World) (h : Heap) (D : Addr) (xs : List Str) : Prop := h.SetOf (strKind prog w) D (fun y => decide (y ∈ xs)) xs.length
section
variable {prog : Program} {w : World} {A : Around} {D : Addr}
theorem TxtSet.keep {h k : Heap} {xs : List Str} (q : TxtSet prog w h D xs) (m : ∀ o, h.get? D = some o → k.get? D = some o) : TxtSet prog w k D xs := by
  obtain ⟨o, es, ep, tb, ho, rest⟩ := q
  exact ⟨o, es, ep, tb, m _ ho, rest⟩
/-- one more text, if it isn't there -/
def addT (xs : List Str) (y : Str) : List Str := if y ∈ xs then xs else xs ++ [y]
/-- each once -/
def dd (xs : List Str) : List Str := xs.foldl addT []
theorem dd_snoc (xs : List Str) (y : Str) : dd (xs ++ [y]) = addT (dd xs) y := by
  unfold dd
  rw [List.foldl_append]
  rfl
theorem addT_len (xs : List Str) (y : Str) : (addT xs y).length ≤ xs.length + 1 := by
  unfold addT
  split
  · omega
  · rw [List.length_append, List.length_singleton]
    omega
theorem dd_len (n : Nat) : ∀ xs : List Str, xs.length = n → (dd xs).length ≤ n := by
  induction n with
  | zero =>
    intro xs h
    rw [List.eq_nil_of_length_eq_zero h]
    exact Nat.le_refl _
  | succ n ih =>
    intro xs h
    have hne : xs ≠ [] := fun z => by rw [z] at h; cases h
    have e := (List.dropLast_concat_getLast hne).symm
    have hl : xs.dropLast.length = n := by rw [List.length_dropLast, h]; rfl
    have := ih xs.dropLast hl
    have a := addT_len (dd xs.dropLast) (xs.getLast hne)
    rw [e, dd_snoc]
    omega
theorem dd_fold : ∀ (xs acc : List Str), (acc ++ xs).Nodup → xs.foldl addT acc = acc ++ xs
  | [], acc, _ => (List.append_nil acc).symm
  | x :: r, acc, h => by
    have hx : x ∉ acc := fun m => by
      have := List.nodup_append.mp h
      exact this.2.2 x m x List.mem_cons_self rfl
    show r.foldl addT (addT acc x) = acc ++ x :: r
    have e : addT acc x = acc ++ [x] := by unfold addT; rw [if_neg hx]
    have e2 : acc ++ x :: r = (acc ++ [x]) ++ r := by rw [List.append_assoc]; rfl
    rw [e, e2]
    rw [e2] at h
    exact dd_fold r (acc ++ [x]) h
theorem dd_nd {xs : List Str} (h : xs.Nodup) : dd xs = xs := dd_fold xs [] h
theorem TxtSet.one {xs : List Str} {y : Str} {t : Tok} {s : Shared} {E : Value → Shared → Prop} {Q : Bool → Shared → Prop} (q : TxtSet prog w s.heap D xs) (few : xs.length + 1 < scanBound)
    (h : ∀ k, s.heap.SameBut D k → TxtSet prog w k D (addT xs y) → ∀ r, Q r { s with heap := k, toks := s.toks + 1 }) : wpAny (model prog w) A (setAdd D (.str y t)) Q E s := by
  unfold setAdd
  refine wpAny_holding (wpAny_bind ((strKind prog w).pyHash (k := y) (strKind_is prog w y t) ?_))
  refine wpAny_setAddHashed_of (knd := strKind prog w) (s := { s with toks := s.toks + 1 }) (strKind_is prog w y t) rfl q few fun k sb st => h k sb ?_ _
  unfold addT
  by_cases hy : y ∈ xs
  · rw [if_pos hy]
    refine SetOf_congr st (fun z => ?_) (by rw [decide_eq_true hy]; rfl)
    by_cases e : z = y
    · subst e; simp [hy]
    · simp [e]
  · rw [if_neg hy]
    refine SetOf_congr st (fun z => ?_) ?_
    · simp [List.mem_append]
    · rw [if_neg (by rw [decide_eq_false hy]; exact Bool.false_ne_true), List.length_append]
      rfl
end
section
variable {prog : Program} {w : World} {A : Around} {R : Result → Shared → Prop} {J D : Addr} {ft wt : List Addr} {Gs : Array GenState → Array GenState → Prop} {n : Nat} {Pi : Nat → Value → Prop} {Sat : Nat → Shared → Prop}
theorem texts_loop (W : WalksS prog w A.in1 J ft wt Gs n Pi Sat) (out : D ∉ ft) {xs : List Str} (len : xs.length = n) (few : n + 1 < scanBound) (val : ∀ i v, Pi i v → ∃ t, v = .str (xs.getD i Str.empty) t) :
    ∀ (m i : Nat) (s : Shared), i + m = n → Sat i s → TxtSet prog w s.heap D (dd (xs.take i)) → (∀ z, Moved (D :: wt) Gs s z → TxtSet prog w z.heap D (dd xs) → R (.ok (.ret .none)) z) →
      codeAny (model prog w) A (.builtin "set.update.loop" ⟨[.ref D, .ref J], []⟩) R s := by
  have outW : D ∉ wt := fun q => out (W.sub _ q)
  have wide : ∀ b ∈ wt, b ∈ D :: wt := fun b q => List.mem_cons_of_mem _ q
  intro m
  induction m with
  | zero =>
    intro i s him st q fin
    have ei : xs.take i = xs := List.take_of_length_le (by omega)
    rw [ei] at q
    refine codeAny_builtin PyProof.Rows.F.entry_set_update_loop (by
      rw [Around.under_plainId PyProof.Rows.F.plain_set_update_loop _]
      refine (show wpAny _ A.in1 (pyNext (.ref J) >>= _) _ _ s from wpAny_bind (W.done s _ _ (by rw [show n = i by omega]; exact st) fun z mv => ?_))
      exact (show wpAny _ A.in1 (ret Value.none) _ _ z from wpAny_pure (fin z (mv.mono wide) (q.keep fun o ho => mv.heap D o outW ho))))
  | succ m ih =>
    intro i s him st q fin
    have lt : i < xs.length := by omega
    refine codeAny_builtin PyProof.Rows.F.entry_set_update_loop (by
      rw [Around.under_plainId PyProof.Rows.F.plain_set_update_loop _]
      refine (show wpAny _ A.in1 (pyNext (.ref J) >>= _) _ _ s from wpAny_bind (W.item i s _ _ (by omega) st fun v z pv stz mv => ?_))
      obtain ⟨t, rfl⟩ := val i v pv
      have qz : TxtSet prog w z.heap D (dd (xs.take i)) := q.keep fun o ho => mv.heap D o outW ho
      have here : xs.getD i Str.empty = xs[i] := by rw [List.getD_eq_getElem?_getD, List.getElem?_eq_getElem lt]; rfl
      have more : xs.take (i + 1) = xs.take i ++ [xs.getD i Str.empty] := by rw [here, List.take_add_one, List.getElem?_eq_getElem lt]; rfl
      refine (show wpAny _ A.in1 (holding [Value.str (xs.getD i Str.empty) t] (setAdd D (.str (xs.getD i Str.empty) t)) >>= _) _ _ z from wpAny_bind (wpAny_holding ?_))
      refine qz.one (by have := dd_len i (xs.take i) (by rw [List.length_take]; omega); omega) fun k sb qk r => ?_
      rw [← dd_snoc, ← more] at qk
      refine wpAny_pure ⟨plainId_quiet PyProof.Rows.F.plain_set_update_loop _, ih (i + 1) _ (by omega) (W.frame _ z _ _ stz (Nat.le_succ _) fun b hb o e => ?_) qk fun u mu qu => ?_⟩
      · exact (sb.2 b (fun q : b = D => out (q ▸ hb))).trans e
      · refine fin u (Moved.trans W.gtrans ((mv.mono wide).then_heap (Nat.le_succ _) fun b o hb e => ?_) mu) qu
        exact (sb.2 b (fun q : b = D => hb (by rw [q]; exact List.mem_cons_self))).trans e)
end
section
variable {prog : Program} {w : World} {A : Around} {E : Value → Shared → Prop} {s : Shared}
/-- an empty set, just made -/
abbrev bareSet (led : Bool) : Obj := { cls := .type "set", dict := none, data := .set #[] 0 (.fresh 0 0 led) }
theorem txt0 {h : Heap} {D : Addr} {led : Bool} (g : h.get? D = some (bareSet led)) : TxtSet prog w h D [] :=
  SetOf_congr ((setObjOf_fresh (knd := strKind prog w) led).setOf g (by decide)) (fun _ => rfl) rfl
/-- set.__init__ over a tuple of texts -/
theorem init_texts {D l : Addr} {items : Array Value} {xs : List Str} {led : Bool} {Q : Value → Shared → Prop} (quiet : A.handled = none) (hl : s.heap.IsTuple l items) (hx : StrsAre items.toList xs) (few : xs.length + 1 < scanBound) (hD : D < s.heap.objs.size) (hDl : l < D) (g : s.heap.get? D = some (bareSet led))
    (h : ∀ (k : Heap) (tk : Nat), TxtSet prog w k D (dd xs) → (∀ b o, b < D → s.heap.get? b = some o → k.get? b = some o) → Q .none { s with heap := k, toks := tk }) :
    codeAny (model prog w) A (.call (.builtin "set.__init__") ⟨[.ref D, .ref l], []⟩) (wants Q E) s := by
  have ty : s.TypeIs (.ref D) "set" := ⟨_, g, rfl⟩
  refine codeAny_call_builtin PySem.F.called_set.init.plain PySem.F.entry_set_init (check_set_init_1 ty ?_)
  obtain ⟨⟨c1, c2, c3, c4⟩, at_l, k1, k2, k3⟩ := hl
  simp only at k1 k3
  subst k1
  subst k3
  have f1 := PySem.F.sub_tuple_set
  have f2 := PySem.F.sub_tuple_frozenset
  have f3 : (Value.type "tuple" == Value.type "dict") = false := by decide
  have whole : s.heap.IsTuple l items := ⟨_, at_l, rfl, k2, rfl⟩
  unfold Builtin.«set.__init__» noKeywords Builtin.Frozenset.updateFrom
  generalize hit : pyIter = PI
  wp_walk
  subst hit
  refine wpAny_pyIter_tuple whole (wpAny_bind (wpAny_runValue ?_))
  have calm : A.in1.in1.handled = none := by simp [quiet]
  have lJ : l ≠ s.heap.objs.size := Nat.ne_of_lt (Nat.lt_trans hDl hD)
  have hsz : xs.length = items.size := by rw [← StrsAre.len_eq hx, Array.length_toList]
  refine texts_loop (prog := prog) (w := w) (A := A.in1) ((Walks.tuple calm _ l lJ items).toS) (D := D) ?_ hsz (by omega) (fun i v hv => SS.strs_at hx i v (by rw [Array.getElem?_toList]; exact hv)) items.size 0 _ (by omega) ?_ ?_ fun z mv qz => ?_
  · simp only [List.mem_cons, List.mem_singleton, List.not_mem_nil, or_false, not_or]
    exact ⟨Nat.ne_of_lt hD, Nat.ne_of_gt hDl⟩
  · exact ⟨⟨_, Heap.get?_push_size _ rfl, rfl, rfl⟩, whole.push _⟩
  · exact txt0 (led := led) (Heap.get?_push_of_some _ g)
  · obtain ⟨hz, gz, dz, tz, oz⟩ := z
    obtain rfl : gz = s.gens := mv.gens
    obtain rfl : dz = s.drawn := mv.drawn
    obtain rfl : oz = s.os := mv.os
    refine wpAny_pure (wpAny_pure (h hz tz qz fun b o hb e => mv.heap b o ?_ (Heap.get?_push_of_some _ e)))
    simp only [List.mem_cons, List.mem_singleton, List.not_mem_nil, or_false, not_or]
    exact ⟨Nat.ne_of_lt hb, Nat.ne_of_lt (Nat.lt_trans hb hD)⟩
/-- set(tuple of unlike texts) -/
theorem call_texts {l : Addr} {items : Array Value} {xs : List Str} {Q : Value → Shared → Prop} (quiet : A.handled = none) (hl : s.heap.IsTuple l items) (hx : StrsAre items.toList xs) (few : xs.length + 1 < scanBound)
    (h : ∀ (k : Heap) (tk : Nat), TxtSet prog w k s.heap.objs.size (dd xs) → (∀ b o, b < s.heap.objs.size → s.heap.get? b = some o → k.get? b = some o) → Q (.ref s.heap.objs.size) { s with heap := k, toks := tk }) :
    wpAny (model prog w) A (call (.type "set") [.ref l]) Q E s := by
  obtain ⟨c, tl, f1⟩ := PySem.F.called_set.mro
  have f2 := PySem.F.called_set.made
  have f3 := PySem.F.called_set.sub
  refine wpAny_call (codeAny_of_tree (show wpAny _ _ (callAny (.type "set") _) _ _ _ from wpAny_pure ⟨Code.quiet_builtin _ (by decide +kernel), codeAny_builtin PySem.F.entry_type_call ?_⟩))
  rw [Around.under_plain (weight_type_call_type "set" [.ref l] []) rfl]
  have f4 := PySem.F.called_set.notType
  have f5 := PySem.F.called_set.canCreate
  have f6 := PySem.F.typeCall_set_1 (.ref l)
  repeat (any_goals (first | assumption | wp_step))
  refine codeAny_mono (code_set_new_1 (.ref l) (E := E) (Q₁ := fun o z => ∃ led : Bool, o = .ref s.heap.objs.size ∧ z = { s with heap := s.heap.push (bareSet led) }) fun led => ⟨led, rfl, rfl⟩) fun r z hr => ?_
  cases r with
  | error e => exact hr
  | ok fl =>
    cases fl with
    | ret obj =>
      obtain ⟨led, rfl, rfl⟩ := hr
      have g : (s.heap.push (bareSet led)).get? s.heap.objs.size = some (bareSet led) := Heap.get?_push_size _ rfl
      have f7 : Shared.TypeIs { s with heap := s.heap.push (bareSet led) } (.ref s.heap.objs.size) "set" := ⟨_, g, rfl⟩
      have f8 := PySem.F.called_set.init.lookup
      have f9 := PySem.F.called_set.init.bind (.ref s.heap.objs.size)
      repeat (any_goals (first | assumption | wp_step))
      have hlt : l < s.heap.objs.size := by
        obtain ⟨o, ho, _⟩ := hl
        exact Heap.lt_size ho
      refine codeAny_mono (init_texts (prog := prog) (w := w) (E := E) (Q := fun r z => r = .none ∧ ∃ k tk, z = { s with heap := k, toks := tk } ∧ TxtSet prog w k s.heap.objs.size (dd xs) ∧ ∀ b o, b < s.heap.objs.size → s.heap.get? b = some o → k.get? b = some o) (led := led) (by simp [quiet]) (hl.push _) hx few (by rw [Heap.size_push]; exact Nat.lt_succ_self _) hlt g fun k tk q kp => ⟨rfl, k, tk, rfl, q, fun b o hb e => kp b o hb (Heap.get?_push_of_some _ e)⟩) fun r z hr => ?_
      cases r with
      | error e => exact hr
      | ok fl =>
        cases fl with
        | ret r =>
          obtain ⟨rfl, k, tk, rfl, q, kp⟩ := hr
          repeat (any_goals (first | assumption | wp_step))
          exact h k tk q kp
        | _ => exact hr.elim
    | _ => exact hr.elim
end
end SHSet
namespace SH
open PySem PySem.Spec PyProof.Rows L2 SHSet
/-- len(set(t)), t a tuple of texts -/
def tLenTxt (K : PySem.W.Frag) (ta : TE) : TE := fun σ H Q => ta σ H fun x H1 => ∃ (l : Addr) (xs : List Str), x = .ref l ∧ SqT K H1 l (xs.map V.str) ∧ xs.length ≤ 1000 ∧ Q (.int ((dd xs).length : Nat)) H1
section
variable {X : Cx}
theorem pe_lenTxt {a : Expr} {ta : TE} {p p2 q pos : Pos} (hg : Gl X "len") (ml : X.mg "len" = none) (hg2 : Gl X "set") (ms : X.mg "set" = none) (ha : PE X a ta) (quiet : X.calm = true := by rfl)
    (plain : starEach [a] X.env = (false, eval a X.env) :: starEach [] X.env := by rfl) : PE X (.Call (.Name "len" p) [.Call (.Name "set" p2) [a] [] q] [] pos) (tLenTxt X.K ta) := by
  refine ⟨fun pins s σ H Q I h => Call_ (ld_blt I hg ml boot_len (callWith_builtin1 (args_cons (Call_ (ld_blt I hg2 ms boot_set ?_)) rfl) rfl rfl))⟩
  refine callWith_type1 (args_cons (thn (ha.run pins s σ H _ I h) fun v z ⟨x, H1, J, rx, l, xs, ex, tq, few, fin⟩ => args_nil ?_) plain) plain rfl
  subst ex
  cases rx
  obtain ⟨its, rv, tup, _⟩ := J.tuple tq
  have small : (dd xs).length ≤ 1000 := Nat.le_trans (dd_len xs.length xs rfl) few
  refine call_texts (J.ok.hd quiet) tup (xs := xs) (by simpa using strsAre_of rv) (by unfold scanBound; omega) fun k tk qs kp => args_nil ?_
  obtain ⟨o, es, ep, tb, h1, h2, h3, _, _, _, h4, h5⟩ := qs
  have J2 : Inv X pins σ H1 { z with heap := k, toks := tk } := J.kept fun b o e => kp b o (Heap.lt_size e) e
  exact call_len_set h1 h2 h3 h4 (by rw [h5]; omega) ⟨.int ((dd xs).length : Nat), H1, J2.tok _, ⟨_, by rw [h5]⟩, fin⟩
end
end SH

set_option Elab.async false
set_option linter.all false
set_option maxRecDepth 100000
set_option maxHeartbeats 2000000
/-! {e for x in xs}, e a text. -/
namespace SH
open PySem PySem.Spec PyProof.Rows L2 SHSet
/-- the set of texts at D -/
def TxtO (P : Program) (w : World) (D : Addr) (xs : List Str) : HO := .ext fun h => TxtSet P w h D xs
theorem txtO_ok {P : Program} {w : World} {H : Hp} {h : Heap} {D : Addr} {xs : List Str} (q : TxtSet P w h D xs) : ObjOk P w H h D (TxtO P w D xs) := by
  have q' := q
  obtain ⟨o, _, _, _, ho, _⟩ := q'
  exact ⟨q, ⟨o, ho⟩, fun h1 h2 p k => TxtSet.keep p k⟩
section
variable {X : Cx}
theorem add_txt {pins : List (Addr × Obj)} {σ : L2.St} {H : Hp} {s : Shared} {E : Value → Shared → Prop} {D : Addr} {xs : List Str} {z : Str} {t : Tok} {Q : Value → Shared → Prop} (I : Inv X pins σ H s) (hD : H D = some (TxtO X.prog X.w D xs)) (few : xs.length + 1 < scanBound)
    (h : ∀ s', Inv X pins σ (upd H D (TxtO X.prog X.w D (addT xs z))) s' → Q .none s') : wpAny (model X.prog X.w) X.A (call (.builtin "set.add") [.ref D, .str z t]) Q E s := by
  have q : TxtSet X.prog X.w s.heap D xs := (I.hok D _ hD).1
  refine call_set_add (knd := strKind X.prog X.w) (k := z) (strKind_is X.prog X.w z t) rfl q few fun k sb st => ?_
  have nw : TxtSet X.prog X.w k D (addT xs z) := by
    unfold addT
    by_cases hy : z ∈ xs
    · rw [if_pos hy]
      refine SetOf_congr st (fun y => ?_) (by rw [decide_eq_true hy]; rfl)
      by_cases e : y = z
      · subst e; simp [hy]
      · simp [e]
    · rw [if_neg hy]
      refine SetOf_congr st (fun y => ?_) ?_
      · simp [List.mem_append]
      · rw [if_neg (by rw [decide_eq_false hy]; exact Bool.false_ne_true), List.length_append]
        rfl
  have ex : ∃ u, k.get? D = some u := by
    have n2 := nw
    obtain ⟨o, _, _, _, ho, _⟩ := n2
    exact ⟨o, ho⟩
  exact h _ (I.write (e := D) (t' := s.toks + 1) (by rw [hD]; trivial) (.inl rfl) (fun b u hb hu => (sb.2 b hb).trans hu) ex (txtO_ok nw))
/-- the readings of {e for x in xs}: D the new set -/
def tTxc (P : Program) (w : World) (wi : TI) (g : TG) (te : TE) (vs : List Nat) : TE := fun σ H Q => wi σ H fun J H1 => ∀ D, H1 D = none → ∃ W : Nat → Nat → Hp → Prop, (∃ m, W 0 m (upd H1 D (TxtO P w D []))) ∧ ∀ i m H, W i m H →
  (J.stop i H ∧ Q (.ref D) H) ∨ (J.go i H ∧ ∃ Nx : Hp → Prop, (∀ H', Nx H' → ∃ m', m' < m ∧ W (i + 1) m' H') ∧ ∀ x H', J.yld i H x H' → g x (wipe σ vs) H' fun σ2 H2 => wipe σ2 vs = wipe σ vs ∧
    te σ2 H2 fun y H4 => ∃ (z : Str) (xs : List Str), y = .str z ∧ H4 D = some (TxtO P w D xs) ∧ xs.length + 1 < scanBound ∧ Nx (upd H4 D (TxtO P w D (addT xs z))))
abbrev freshSet (w : World) : Obj := { cls := .type "set", dict := none, data := .set #[] 0 (.fresh 0 0 (!w.params.followText "set-order")) }
theorem pe_txc {elt tg iter : Expr} {scope : Scope} {own : List (PySem.Str × Nat)} {pos : Pos} {wi : TI} {g : TG} {te : TE} (quiet : X.calm = true) (ndN : X.N.Nodup) (hi : PI X tg iter wi) (ok : BlkOk X.N X.env.scope scope own)
    (hg : ∀ (s : Shared) (H : Hp) (C : Addr) (cl : List (PySem.Str × Addr)) (fp : List Addr), PG (X.blk s H scope (compEnvC scope cl C X.env) fp) tg g)
    (he : ∀ (s : Shared) (H : Hp) (C : Addr) (cl : List (PySem.Str × Addr)) (fp : List Addr), PE (X.blk s H scope (compEnvC scope cl C X.env) fp) elt te) (fold : ∀ x, foldedSetIterable iter X.env x = pure x := by intro _; rfl) :
    PE X (.SetComp elt [⟨tg, iter, [], 0⟩] scope pos) (tTxc X.prog X.w wi g te (own.map (·.2))) := by
  refine ⟨fun pins s σ H Q I h => ?_⟩
  rw [PpSet.eval_SetComp]
  have fr : ∀ y ∈ scope.names, y.2 = .free → ∃ c, X.env.cells.lookup y.1 = some c := fun y hy e => (ok.free y hy e).elim (fun k => I.ok.has _ (.inl k)) fun k => I.ok.has _ (.inr k)
  refine wpAny_comprehension_free (use := none) rfl fold (closure_ok fr) ok.kind (fun y hy e => by rw [ok.uniq y hy, e]) (thn (hi.run pins s σ H _ I h) fun _ s1 hx => thn hx fun _ s2 ⟨it, fp, tn, J, H2, e, I2, T, st2, f2, q⟩ => ?_)
  subst e
  refine PpSet.newSet_ok (newEnv_comp ?_)
  generalize hD : s2.heap.objs.size = D
  obtain ⟨W, ⟨m0, w0⟩, turn⟩ := q D (I2.hok.fresh (Nat.le_of_eq hD))
  generalize ez : ({ s2 with heap := s2.heap.push (freshSet X.w) } : Shared) = sz
  have I3 : Inv X pins σ (upd H2 D (TxtO X.prog X.w D [])) sz := by
    subst ez
    refine I2.laid (t' := s2.toks) (fun b o e => Heap.get?_push_of_some _ e) (Nat.le_of_eq hD) ?_
    subst hD
    exact txtO_ok (txt0 (Heap.get?_push_size _ rfl))
  have hh : sz.heap = s2.heap.push (freshSet X.w) := by subst ez; rfl
  have below : ∀ b ∈ fp, b < s2.heap.objs.size := fun b hb => (T.obj _ _ st2 b hb).elim fun o ho => Heap.lt_size ho.1
  have f3 : ∀ b ∈ fp, FpOk X pins (upd H2 D (TxtO X.prog X.w D [])) b ∧ b < sz.heap.objs.size := fun b hb => by
    refine ⟨⟨?_, (f2 b hb).2⟩, by rw [hh, Heap.size_push]; exact Nat.lt_succ_of_lt (below b hb)⟩
    rw [upd_ne (fun z => Nat.lt_irrefl _ (hD ▸ z ▸ below b hb))]
    exact (f2 b hb).1
  have st3 : tn 0 sz.heap := T.keep _ _ _ st2 fun b _ o e => by rw [hh]; exact Heap.get?_push_of_some _ e
  have I4 := block_start I3 ok ndN f3
  have pg := hg sz (upd H2 D (TxtO X.prog X.w D [])) sz.heap.objs.size (cellsFrom (sz.heap.objs.size + 1) scope.names (cloFrom X.env.cells scope.names [])) fp
  have pe := he sz (upd H2 D (TxtO X.prog X.w D [])) sz.heap.objs.size (cellsFrom (sz.heap.objs.size + 1) scope.names (cloFrom X.env.cells scope.names [])) fp
  show codeAny _ _ (.compStart (.SetComp elt [⟨tg, iter, [], 0⟩] scope pos) 0 (.ref it) (.ref D) (compEnvC scope (cellsFrom (sz.heap.objs.size + 1) scope.names (cloFrom X.env.cells scope.names [])) sz.heap.objs.size X.env)) (compPost (model X.prog X.w) X.A X.xe none _ (.ref D) sz.heap.objs.size) { sz with heap := pushCells (sz.heap.push { cls := .type "dict", data := .dict #[] }) scope.names }
  have nfp : ∀ b ∈ fp, (upd H2 D (TxtO X.prog X.w D [])) b = none := fun b hb => (f3 b hb).1.1
  generalize ec : compEnvC scope (cellsFrom (sz.heap.objs.size + 1) scope.names (cloFrom X.env.cells scope.names [])) sz.heap.objs.size X.env = ce at I4 pg pe ⊢
  have cl : ce.locals = sz.heap.objs.size := by subst ec; rfl
  generalize upd H2 D (TxtO X.prog X.w D []) = H3 at I3 I4 pg pe w0 nfp f3
  generalize e4 : ({ sz with heap := pushCells (sz.heap.push { cls := .type "dict", data := .dict #[] }) scope.names } : Shared) = s4 at I4 ⊢
  have st4 : tn 0 s4.heap := T.keep _ _ _ st3 fun b _ o e => by rw [← e4]; exact pushCells_keeps _ _ _ _ (Heap.get?_push_of_some _ e)
  have stat : ∀ {σ' : L2.St} {H' : Hp} {s' : Shared}, Inv (X.blk sz H3 scope ce fp) [] σ' H' s' → (∀ b ∈ fp, H' b = none) → ∀ b ∈ fp, FpOk (X.blk sz H3 scope ce fp) [] H' b := fun {_ _ _} K hn b hb =>
    ⟨hn b hb, (K.ok.exf b hb).1, K.ok.exfs b hb, .inl hb, fun x c e => (K.ok.exf b hb).2 x c e, fun p hp => absurd (show p ∈ ([] : List (Addr × Obj)) ++ [] from hp) (by simp)⟩
  have loop : codeAny (model X.prog X.w) X.A (.compLoop (.SetComp elt [⟨tg, iter, [], 0⟩] scope pos) 0 (.ref it) (.ref D) ce) (compPost (model X.prog X.w) X.A X.xe none (EP X pins σ Q) (.ref D) sz.heap.objs.size) s4 := by
    refine PpSet.compLoopS_any (fun n z => ∃ i H', Inv (X.blk sz H3 scope ce fp) [] (wipe σ (own.map (·.2))) H' z ∧ tn i z.heap ∧ (∀ b ∈ fp, H' b = none) ∧ W i n H') ?_ m0 ⟨0, H3, I4, st4, nfp, w0⟩
    rintro n s5 ⟨i, H5, I5, st5, n5, w5⟩
    rcases turn i n H5 w5 with ⟨stop, qq⟩ | ⟨go, Nx, hNx, step⟩
    · refine thnF (T.done (X.blk sz H3 scope ce fp) rfl rfl rfl quiet i [] s5 _ H5 (fun _ _ => False) I5 (stat I5 n5) st5 stop) fun r s6 ⟨hr, I6⟩ => ?_
      subst hr
      have I7 : Inv X pins σ H5 s6 := I3.call' (ch := fp) I6.os I6.base I6.hok I6.bare fun b hb => have u := (f3 b hb).1.2; ⟨u.2.2.1, u.1, u.2.2.2.1, u.2.2.2.2⟩
      have nC : H5 sz.heap.objs.size = none := cl ▸ (show H5 ce.locals = none from I6.free)
      obtain ⟨m, hn, _⟩ := I6.loc
      have hn' : s6.heap.Ns sz.heap.objs.size m := cl ▸ (show s6.heap.Ns ce.locals m from hn)
      obtain ⟨u0, u1, u2, u3, u4, u5⟩ := I3.fpOk (Nat.le_refl _) nC
      refine ⟨m, hn', fun k sb => ⟨.ref D, H5, I7.turned (t' := s6.toks) (fun b o hb e => (sb.2 b hb).trans e) u0 u1 u3 u4 u5, rfl, qq⟩⟩
    · refine thnF (T.item (X.blk sz H3 scope ce fp) rfl rfl rfl quiet i [] s5 _ H5 (fun _ _ => False) I5 (stat I5 n5) st5 go) fun r s6 ⟨u, hr, h6⟩ => ?_
      subst hr
      refine thnF h6 fun _ s7 ⟨x, H7, I7, r7, y7, st7, n7⟩ => ?_
      refine thnF (pg.run _ s7 _ H7 x u _ (I7.pinned (stat I7 n7) (T.obj _ _ st7)) r7 (step x H7 y7)) fun _ s8 ⟨σ8, H8, I8, hw8, q8⟩ => ?_
      refine thnF ((pts_nil (X := X.blk sz H3 scope ce fp)).run _ s8 σ8 H8 _ I8 (show tYes σ8 H8 (fun b K => b = true ∧ te σ8 K _) from ⟨rfl, q8⟩)) fun b s9 ⟨H9, I9, eb, q9⟩ => ?_
      subst eb
      simp only [if_true]
      refine thnF (pe.run _ s9 σ8 H9 _ I9 q9) fun z s10 ⟨yv, H10, I10, r10, zt, xs, ey, hD10, few, nx⟩ => ?_
      subst ey
      obtain ⟨tk, rfl⟩ := (show ∃ tk, z = Value.str zt tk from r10)
      refine add_txt (X := X.blk sz H3 scope ce fp) I10 hD10 few fun s11 I11 => ?_
      obtain ⟨m', hm, w'⟩ := hNx _ nx
      have pin : ∀ b ∈ fp, ∀ o, s7.heap.get? b = some o → s11.heap.get? b = some o ∧ (upd H10 D (TxtO X.prog X.w D (addT xs zt))) b = none := fun b hb o e =>
        have v := I11.pin (b, o) (List.mem_append_right _ (List.mem_append_right _ (mem_pinsAt hb e)))
        ⟨v.1, v.2.1⟩
      refine ⟨m', hm, i + 1, _, (I11.unpinned (pins := [])).weak (by rw [← hw8, wipe_length]) (fun j v e => ?_), T.keep _ _ _ st7 fun b hb o e => (pin b hb o e).1, fun b hb => ?_, w'⟩
      · rw [← hw8] at e
        exact (wipe_some e).1
      · exact (T.obj _ _ st7 b hb).elim fun o ho => (pin b hb o ho.1).2
  exact PpSet.codeAny_compStart_set loop (T.self X.A 0 _ _ _ st4 loop)
/-- len of such a set -/
theorem call_lenTxt : CallR X (.builtin "len") (fun xs H Q => ∃ (D : Addr) (l : List Str), xs = [.ref D] ∧ H D = some (TxtO X.prog X.w D l) ∧ l.length ≤ 1000 ∧ Q (.int (l.length : Nat)) H) := by
  intro pins s σ H xs us Q I r h
  obtain ⟨D, l, rfl, hD, few, q⟩ := h
  obtain ⟨u, rfl, ru⟩ := vals1 r
  cases ru
  obtain ⟨o, es, ep, tb, h1, h2, h3, _, _, _, h4, h5⟩ := (I.hok D _ hD).1
  exact call_len_set h1 h2 h3 h4 (by rw [h5]; omega) ⟨.int (l.length : Nat), H, I.tok _, ⟨_, by rw [h5]⟩, q⟩
end
end SH

set_option Elab.async false
set_option linter.all false
set_option maxRecDepth 100000
namespace SH
open PySem PySem.Spec PyProof.Rows L2
section
variable {X : Cx}
/-- y = {k: v for x in xs} -/
theorem ps_setDc {i : Nat} {y : PySem.Str} {py : Pos} {kx vx tg iter : Expr} {scope : Scope} {own : List (PySem.Str × Nat)} {pos spos : Pos} {wi : TI} {g : TG} {tk tv : TE} (quiet : X.calm = true) (ndN : X.N.Nodup) (hy : X.N[i]? = some y) (yl : X.env.scope.names.lookup y = some .local)
    (swap : swapsWith (.DictComp kx vx [⟨tg, iter, [], 0⟩] scope pos) (some (.Name y py)) spos.line X.env = pure true) (hi : PI X tg iter wi) (ok : BlkOk X.N X.env.scope scope own)
    (hg : ∀ (s : Shared) (H : Hp) (C : Addr) (cl : List (PySem.Str × Addr)) (fp : List Addr), PG (X.blk s H scope (compEnvC scope cl C X.env) fp) tg g)
    (hk : ∀ (s : Shared) (H : Hp) (C : Addr) (cl : List (PySem.Str × Addr)) (fp : List Addr), PE (X.blk s H scope (compEnvC scope cl C X.env) fp) kx tk)
    (hv : ∀ (s : Shared) (H : Hp) (C : Addr) (cl : List (PySem.Str × Addr)) (fp : List Addr), PE (X.blk s H scope (compEnvC scope cl C X.env) fp) vx tv) (fold : ∀ x, foldedSetIterable iter X.env x = pure x := by intro _; rfl) :
    PS X (.Assign [.Name y py] (.DictComp kx vx [⟨tg, iter, [], 0⟩] scope pos) spos) (tAsg (tDc wi g tYes tk tv (own.map (·.2))) (gName i)) := by
  refine ⟨fun pins s σ H D I h => ?_⟩
  rw [exec_Assign_Name_used _ _ _ _ swap]
  refine wpAny_bind (wpAny_standAt (wpAny_bind (show wpAny _ X.A (do let _ ← comprehension (.DictComp kx vx [⟨tg, iter, [], 0⟩] scope pos) scope X.env (firstIterPos [⟨tg, iter, [], 0⟩] pos) newDict false (eval iter X.env) (some (assign (.Name y py) X.env))) _ _ s from ?_)))
  refine wpAny_bind (thn (dc_core (Q := fun x H1 => gName i x σ H1 D.nx) (Qf := fun _ z => SP X pins D .next z) quiet ndN I hi ok hg (fun _ _ _ _ _ => pts_nil) hk hv fold h fun L C z m H' J q hn f => ?_) fun _ z hq => wpAny_pure (wpAny_pure hq))
  refine (show wpAny _ _ (assign (.Name y py) X.env (.ref L)) _ _ _ from wpAny_assign_Name (store_ok2 (v := V.ref L) J ndN hy (.inl yl) rfl (fun u J2 ⟨a, sb, ha⟩ => ?_) (.inr yl)))
  have other : C ≠ a := ha.elim (fun e => e ▸ f.2.1) fun e k => f.2.2.2.2.1 y a e k.symm
  exact ⟨m, hn.sameBut sb other, fun k sk => ⟨_, H', J2.turned (t' := u.toks) (fun b o hb e => (sk.2 b hb).trans e) f.1 f.2.1 f.2.2.2.1 f.2.2.2.2.1 f.2.2.2.2.2, q⟩⟩
theorem sw_dict {kx vx : Expr} {gs : List Comprehension} {scope : Scope} {pos py : Pos} {y : PySem.Str} {l : Nat} {env : Env} (hk : env.scope.kind = .function) (hy : env.scope.names.lookup y = some .local) (hl : (py.line == pos.line) = true)
    (ha : (scope.names.any fun (n, k) => n == y && (k == .local || k == .cell)) = false) : swapsWith (.DictComp kx vx gs scope pos) (some (.Name y py)) l env = pure true := by
  have k1 : env.kindOf y = some .local := hy
  have k2 : env.blockKind = .function := by unfold Env.blockKind; rw [hk]; rfl
  unfold swapsWith
  simp only [k2, k1, ha, Expr.pos, hl]
  rfl
/-- str(x) by an own __str__ -/
def rStrOwn (C : Addr) (sp : Sp) : List V → Hp → VK → Prop := fun xs H Q => ∃ (a dx : Addr) (fs : List (PySem.Str × V)), xs = [V.ref a] ∧ H a = some (.ins C dx fs) ∧ sp [.ref a] H (fun v H' => ∃ z, v = .str z ∧ Q v H') E0
theorem call_strOwn {C g : Addr} {gd : FuncData} {n : Nat} {sp : Sp} (hs : PySem.W.findIn X.K (.ref C) "__str__" = some (some (.ref g))) (hf : PySem.W.isFn X.K (.ref g) = true) (F : FnOk X.prog X.w X.K X.mg X.base CX0 n g gd ["self"] sp) (hb : Binds X.K gd ["self"] []) (hr : Room (n + 2) X.A) : CallR X (.type "str") (rStrOwn C sp) := by
  intro pins s σ H xs us Q I r h
  obtain ⟨a, dx, fs, rfl, ha, q⟩ := h
  obtain ⟨u, rfl, ru⟩ := vals1 r
  cases ru
  obtain ⟨mA, om, _⟩ := ins_get I.hok ha
  obtain ⟨od, J, _⟩ := om.look
  have room : Room n X.A.in1.in1 := (show Room (n + 1) X.A.in1 from Room.in1 hr).in1
  have hu : X.A.in1.in1.units < cLine := by have := room.un; omega
  have rv : Vals [V.ref a] [Value.ref a] := .cons rfl .nil
  refine PySem.W.kso_call hu I.kIn J hs hf (wpAny_call (codeAny_mono (F.run X.A.in1.in1 X.stack s H ⟨[.ref a], []⟩ [.ref a] [.ref a] _ E0 room I.env0.in1.in1 (hb s [.ref a] I.kIn rfl) rv q) fun r z hq => ?_))
  cases r with
  | error e => exact hq.elim
  | ok fl =>
    cases fl with
    | ret v =>
      obtain ⟨y, H', J2, ry, t, ey, fin⟩ := I.after hq
      subst ey
      obtain ⟨tk, rfl⟩ := (show ∃ tk, v = Value.str t tk from ry)
      exact ⟨.str t, H', J2, ⟨tk, rfl⟩, fin⟩
    | _ => exact False.elim hq
end
end SH

set_option Elab.async false
set_option linter.all false
set_option maxRecDepth 100000
namespace SW
open PySem PySem.SeqAt PySem.Spec PyProof.Rows
open AutoSeq1 (wpAny_loadPart')
open MeetsSeq MeetsSeq2 MeetsSeq3 SeqRoads2
section
variable {M : Model} {prog : Program} {w : World} {A : Around} {E : Value → Shared → Prop} {s : Shared} {K : PySem.W.Frag} {x C f : Addr} {ox : Obj} {od : Option Obj} {b tb : Value}
/-- the != that every class has, bound -/
theorem bound_ne {args : List Value} {Q : Option Value → Shared → Prop} (KX : K.In s.heap) (J : PySem.W.InstAt s.heap x ox C od) (hN : PySem.W.findIn K (.ref C) "__ne__" = some (some (.builtin "object.__ne__")))
    (h : wpAny M A (call (.builtin "object.__ne__") (.ref x :: args)) (fun v => Q (some v)) E s) : wpAny M A (callSpecialIfBound? (.ref x) "__ne__" args) Q E s := by
  simp only [bindSpecialIfBound?, callSpecialIfBound?]
  refine wpAny_holding (wpAny_bind (wpAny_bind (wpAny_bind (J.type.here ((PySem.W.looks_findIn KX hN).here (wpAny_bind (wpAny_askSetting (wpAny_ite ?_))))))))
  have last : wpAny M A (call (.builtin "object.__ne__") ([.ref x] ++ args) >>= fun v => pure (some v)) Q E s := wpAny_bind (wpAny_mono h (fun _ _ z => wpAny_pure z) fun _ _ z => z)
  split
  · exact wpAny_bind (wpAny_of_eq (F.cmp_object.ne.bind _) (wpAny_pure (by exact last)))
  · exact wpAny_tryCatch (wpAny_bind (wpAny_of_eq (F.cmp_object.ne.bind _) (wpAny_pure (by exact last))))
theorem ne_entry {Q : Fin → Shared → Prop} (KX : K.In s.heap) (J : PySem.W.InstAt s.heap x ox C od) (hE : PySem.W.findIn K (.ref C) "__eq__" = some (some (.ref f))) (hf : PySem.W.isFn K (.ref f) = true) (hu : A.units < cLine)
    (hc : wpAny M A (call (.ref f) [.ref x, b]) (fun v s' => ∃ r, v = .bool r ∧ Q (.done (.ret (.bool (!r)))) s') E s) : wpAny M A (Builtin.«object.__ne__» ⟨[.ref x, b], []⟩) Q E s := by
  unfold Builtin.«object.__ne__»
  repeat (first
    | with_reducible refine wpAny_cRoomFor hu ?_
    | (refine wpAny_bind (m := callSpecialIfBound? (.ref x) (Str.ofString "__eq__") [b]) (PySem.W.ifBound_K KX J hE hf (wpAny_mono hc (fun r s' z => by
          obtain ⟨t, rfl, q⟩ := z
          repeat (first | exact q | exact wpAny_pure q | exact wpAny_truthy_bool q | (refine wpAny_bind (m := truthy (.bool _)) (wpAny_truthy_bool ?_)) | wp_step)) fun _ _ z => z)))
    | wp_step)
theorem rc_ne {Q : Value → Shared → Prop} (hu : A.units + 1 < cLine) (KX : K.In s.heap) (J : PySem.W.InstAt s.heap x ox C od) (hb : PySem.W.Looks (model prog w) s.heap (typeOf b) tb) (hn : PySem.W.notFirst K C tb = true)
    (hN : PySem.W.findIn K (.ref C) "__ne__" = some (some (.builtin "object.__ne__"))) (hE : PySem.W.findIn K (.ref C) "__eq__" = some (some (.ref f))) (hf : PySem.W.isFn K (.ref f) = true) (hm : PySem.W.mroIn K C (.type "object") = some true)
    (hc : wpAny (model prog w) A.in1 (call (.ref f) [.ref x, b]) (fun v s' => ∃ r, v = .bool r ∧ Q (.bool (!r)) s') E s) : wpAny (model prog w) A (richCompare .NotEq (.ref x) b) Q E s := by
  have one : wpAny (model prog w) A (tryCompare (.ref x) "__ne__" b) (fun r s' => ∃ v, r = some v ∧ Q v s') E s := by
    unfold tryCompare
    refine wpAny_bind (bound_ne KX J hN (wpAny_call (codeAny_call_builtin F.cmp_object.ne.plain F.cmpEntry_ne (PySem.W.check_slot F.cmpKind_ne F.cmpSplit_ne (J.type.andThen (PySem.W.looks_mroIn KX hm)) (F.cmpArgs_ne _ _)
      (ne_entry (A := A.in1) KX J hE hf hu (wpAny_mono hc (fun v s' z => ?_) fun _ _ z => z))))))
    obtain ⟨r, rfl, q⟩ := z
    exact ⟨r, rfl, wpAny_pure ⟨_, rfl, q⟩⟩
  unfold richCompare
  simp only [oneThing_ref, cmpInfo_NotEq]
  refine wpAny_holding (wpAny_bind (wpAny_cRoomFor (by omega) (wpAny_bind (J.type.here (wpAny_bind (hb.here ?_))))))
  split
  · rename_i q
    have e : PySem.W.subIn K tb (.ref C) = some false := by
      rcases Bool.or_eq_true_iff.mp hn with e | e
      · rw [beq_iff_eq.mp e] at q
        simp at q
      · exact beq_iff_eq.mp e
    refine wpAny_bind ((PySem.W.looks_subIn KX e).here ?_)
    simp only [Bool.false_eq_true, if_false]
    refine wpAny_bind (wpAny_mono one (fun r s' z => ?_) fun _ _ z => z)
    obtain ⟨v, rfl, k⟩ := z
    exact wpAny_pure k
  · refine wpAny_bind (wpAny_pure ?_)
    simp only [Bool.false_eq_true, if_false]
    refine wpAny_bind (wpAny_mono one (fun r s' z => ?_) fun _ _ z => z)
    obtain ⟨v, rfl, k⟩ := z
    exact wpAny_pure k
/-- the right one's own == is asked where the left one, of a built-in type, knows nothing of it -/
theorem rc_back {u : Value} {T : String} {Q : Value → Shared → Prop} (hu : A.units < cLine) (KX : K.In s.heap) (J : PySem.W.InstAt s.heap x ox C od) (hT : s.TypeIs u T) (hs : PySem.W.mroIn K C (.type T) = some false)
    (hE : PySem.W.findIn K (.ref C) "__eq__" = some (some (.ref f))) (hf : PySem.W.isFn K (.ref f) = true) (no : wpAny (model prog w) A (tryCompare u "__eq__" (.ref x)) (fun r s' => r = none ∧ s' = s) E s)
    (hc : wpAny (model prog w) A (call (.ref f) [.ref x, u]) (fun v s' => ∃ r, v = .bool r ∧ Q (.bool r) s') E s) : wpAny (model prog w) A (richCompare .Eq u (.ref x)) Q E s := by
  have two : wpAny (model prog w) A (tryCompare (.ref x) "__eq__" u) (fun r s' => ∃ v, r = some v ∧ Q v s') E s := by
    unfold tryCompare
    refine wpAny_bind (PySem.W.ifBound_K KX J hE hf (wpAny_mono hc (fun v s' z => ?_) fun _ _ z => z))
    obtain ⟨r, rfl, q⟩ := z
    exact wpAny_pure ⟨_, rfl, q⟩
  simp only [richCompare, cmpInfo_Eq, hT.oneThing_none]
  refine wpAny_holding (wpAny_bind (wpAny_cRoomFor hu ?_))
  refine wpAny_bind (wpAny_typeOf hT (wpAny_bind (J.type.here ?_)))
  split
  · refine wpAny_bind ((PySem.W.looks_mroIn KX hs).here ?_)
    simp only [Bool.not_false, Bool.false_eq_true, if_true, if_false]
    refine wpAny_bind (m := tryCompare u _ (.ref x)) (wpAny_mono no (fun r s1 z => ?_) fun _ _ z => z)
    obtain ⟨rfl, rfl⟩ := z
    refine wpAny_bind (m := tryCompare (.ref x) _ u) (wpAny_mono two (fun r s2 z => ?_) fun _ _ z => z)
    obtain ⟨v, rfl, k⟩ := z
    exact wpAny_pure k
  · rename_i q
    exact absurd (by simp) q
/-- y is the one item of a list: is x in it? -/
theorem in_one {l : Addr} {y v : Value} {its : Array Value} {n : Nat} {dd : Option Addr} {sl : Array (Option Value)} {Q : Value → Shared → Prop} (i0 : its[0]? = some y) (hl : s.heap.get? l = some { cls := .type "list", dict := dd, data := .seq its n, slots := sl })
    (he : wpAny (model prog w) A.in1 (eqBool y v) (fun r s' => (∃ (its' : Array Value) (n' : Nat) (dd' : Option Addr) (sl' : Array (Option Value)), its'[1]? = none ∧ s'.heap.get? l = some { cls := .type "list", dict := dd', data := .seq its' n', slots := sl' }) ∧ Q (.bool r) s') E s) : wpAny (model prog w) A (compareOp .In v (.ref l)) Q E s := by
  show wpAny _ A (do return .bool (← contains (.ref l) v)) Q E s
  refine wpAny_bind (wpAny_contains_slot ⟨_, hl, rfl⟩ F.slot_list_contains (wpAny_mono (Q := fun z s' => ∃ r, z = .bool r ∧ Q (.bool r) s') (GQ.call_here F.slot_list_contains ⟨_, hl, rfl⟩ F.entry_list_contains (F.args_list_contains_2 _ _) ?_) (fun z s' hz => ?_) fun _ _ z => z))
  · obtain ⟨hp, g, d, tk, os⟩ := s
    wp_walk using wpAny_loadPart' hl
    refine ⟨plainId_quiet plain_contains_loop _, codeAny_builtin entry_contains_loop ?_⟩
    rw [Around.under_plainId plain_contains_loop _]
    have e0 : its[((0 : Nat) : Int).toNat]? = some y := i0
    have e0' : its[(0 : Int).toNat]? = some y := i0
    wp_walk using wpAny_loadPart' hl
    first | rw [e0] | rw [e0'] | rw [i0]
    refine wpAny_bind (wpAny_mono he (fun r s2 z => ?_) fun _ _ z => z)
    obtain ⟨⟨its', n', dd', sl', i1', hl2⟩, q⟩ := z
    obtain ⟨hp2, g2, d2, tk2, os2⟩ := s2
    cases r with
    | true =>
      wp_walk
      exact ⟨true, rfl, q⟩
    | false =>
      wp_walk
      refine ⟨plainId_quiet plain_contains_loop _, codeAny_builtin entry_contains_loop ?_⟩
      rw [Around.under_plainId plain_contains_loop _]
      have e1 : its'[((0 : Int) + 1).toNat]? = none := i1'
      wp_walk using wpAny_loadPart' hl2
      first | rw [e1] | rw [i1']
      wp_walk
      exact ⟨false, rfl, q⟩
  · obtain ⟨r, rfl, q⟩ := hz
    exact wpAny_truthy_bool (wpAny_pure q)
/-- what knows nothing of an instance -/
theorem no_none (hx : s.heap.get? x = some ox) : wpAny (model prog w) A (tryCompare .none "__eq__" (.ref x)) (fun r s' => r = none ∧ s' = s) E s :=
  wpAny_tryCompare_declines (T := "NoneType") rfl F.slot_NoneType_eq_refl (GQ.call_here F.slot_NoneType_eq_refl rfl F.entry_NoneType_eq (F.args_NoneType_eq_2 _ _) (by
    obtain ⟨hp, g, d, tk, os⟩ := s
    wp_walk
    exact ⟨rfl, rfl, rfl⟩))
theorem no_int {i : Int} {t : Tok} {dx : Addr} (hx : s.heap.get? x = some (PySem.W.instObj C dx)) : wpAny (model prog w) A (tryCompare (.int i t) "__eq__" (.ref x)) (fun r s' => r = none ∧ s' = s) E s :=
  wpAny_tryCompare_declines (T := "int") rfl F.slot_int_eq_refl (GQ.call_here F.slot_int_eq_refl rfl F.entry_int_eq (F.args_int_eq_2 _ _) (by
    obtain ⟨hp, g, d, tk, os⟩ := s
    wp_walk using wpAny_loadPart' hx, wpAny_load hx
    exact ⟨rfl, rfl, rfl⟩))
theorem no_bool {i : Bool} {dx : Addr} (hx : s.heap.get? x = some (PySem.W.instObj C dx)) : wpAny (model prog w) A (tryCompare (.bool i) "__eq__" (.ref x)) (fun r s' => r = none ∧ s' = s) E s :=
  wpAny_tryCompare_declines (T := "bool") rfl F.slot_bool_eq_refl (GQ.call_here F.slot_bool_eq_refl rfl F.entry_int_eq (F.args_int_eq_2 _ _) (by
    obtain ⟨hp, g, d, tk, os⟩ := s
    wp_walk using wpAny_loadPart' hx, wpAny_load hx
    exact ⟨rfl, rfl, rfl⟩))
theorem no_str {i : Str} {t : Tok} {dx : Addr} (hx : s.heap.get? x = some (PySem.W.instObj C dx)) : wpAny (model prog w) A (tryCompare (.str i t) "__eq__" (.ref x)) (fun r s' => r = none ∧ s' = s) E s :=
  wpAny_tryCompare_declines (T := "str") rfl F.slot_str_eq_refl (GQ.call_here F.slot_str_eq_refl rfl F.entry_str_eq (F.args_str_eq_2 _ _) (by
    obtain ⟨hp, g, d, tk, os⟩ := s
    wp_walk using wpAny_loadPart' hx, wpAny_load hx
    exact ⟨rfl, rfl, rfl⟩))
theorem no_list {l : Addr} {its : Array Value} {n : Nat} {dd : Option Addr} {sl : Array (Option Value)} (hl : s.heap.get? l = some { cls := .type "list", dict := dd, data := .seq its n, slots := sl }) (KX : K.In s.heap) (J : PySem.W.InstAt s.heap x ox C od) (hm : PySem.W.mroIn K C (.type "list") = some false) :
    wpAny (model prog w) A (tryCompare (.ref l) "__eq__" (.ref x)) (fun r s' => r = none ∧ s' = s) E s :=
  wpAny_tryCompare_declines (T := "list") ⟨_, hl, rfl⟩ F.slot_list_eq_refl (GQ.call_here F.slot_list_eq_refl ⟨_, hl, rfl⟩ F.entry_list_eq (F.args_list_eq_2 _ _) (by
    have e : PySem.W.Looks (model prog w) s.heap (isInstance (.ref x) (.type "list")) false := J.type.andThen (PySem.W.looks_mroIn KX hm)
    obtain ⟨hp, g, d, tk, os⟩ := s
    wp_walk using wpAny_loadPart' hl, e.here
    exact ⟨rfl, rfl, rfl⟩))
theorem no_tup {l : Addr} {its : Array Value} {n : Nat} {dd : Option Addr} {sl : Array (Option Value)} (hl : s.heap.get? l = some { cls := .type "tuple", dict := dd, data := .seq its n, slots := sl }) (KX : K.In s.heap) (J : PySem.W.InstAt s.heap x ox C od) (hm : PySem.W.mroIn K C (.type "tuple") = some false) :
    wpAny (model prog w) A (tryCompare (.ref l) "__eq__" (.ref x)) (fun r s' => r = none ∧ s' = s) E s :=
  wpAny_tryCompare_declines (T := "tuple") ⟨_, hl, rfl⟩ F.slot_tuple_eq_refl (GQ.call_here F.slot_tuple_eq_refl ⟨_, hl, rfl⟩ F.entry_tuple_eq (F.args_tuple_eq_2 _ _) (by
    have e : PySem.W.Looks (model prog w) s.heap (isInstance (.ref x) (.type "tuple")) false := J.type.andThen (PySem.W.looks_mroIn KX hm)
    obtain ⟨hp, g, d, tk, os⟩ := s
    wp_walk using wpAny_loadPart' hl, e.here
    exact ⟨rfl, rfl, rfl⟩))
end
end SW

set_option Elab.async false
set_option linter.all false
set_option maxRecDepth 100000
namespace SH
open PySem PySem.Spec PyProof.Rows L2
/-- a class with its own ==, and nothing else of that kind -/
structure OwnQ (K : PySem.W.Frag) (C f : Addr) : Prop where
  eq : PySem.W.findIn K (.ref C) "__eq__" = some (some (.ref f))
  fn : PySem.W.isFn K (.ref f) = true
  ne : PySem.W.findIn K (.ref C) "__ne__" = some (some (.builtin "object.__ne__"))
  obj : PySem.W.mroIn K C (.type "object") = some true
  li : PySem.W.mroIn K C (.type "list") = some false
  tu : PySem.W.mroIn K C (.type "tuple") = some false
  it : PySem.W.mroIn K C (.type "int") = some false
  bo : PySem.W.mroIn K C (.type "bool") = some false
  st : PySem.W.mroIn K C (.type "str") = some false
  no : PySem.W.mroIn K C (.type "NoneType") = some false
/-- a promise that gives a truth -/
def Tru (sp : Sp) (a : Addr) (y : V) (H : Hp) (Q : Bool → Hp → Prop) : Prop := sp [.ref a, y] H (fun z H' => ∃ r, z = .bl r ∧ Q r H') E0
section
variable {X : Cx} {n : Nat} {C f : Addr} {fd : FuncData} {ps : List PySem.Str} {sp : Sp} {pins : List (Addr × Obj)} {σ : L2.St} {H : Hp} {s : Shared}
theorem own_run (F : FnOk X.prog X.w X.K X.mg X.base CX0 n f fd ps sp) (hb : Binds X.K fd ps []) {A : Around} (sb : Sub X n A) (I : Inv X pins σ H s) {a : Addr} {y : V} {v : Value} (ry : RelV y v) {Q : Bool → Hp → Prop} (q : Tru sp a y H Q) :
    wpAny (model X.prog X.w) A (call (.ref f) [.ref a, v]) (fun r s' => ∃ z H', r = .bool z ∧ Inv X pins σ H' s' ∧ Q z H') X.xe s := by
  have e0 : Env0 X.prog X.w X.K X.mg X.base A X.stack s H := by
    have e := I.env0
    exact ⟨by rw [sb.fr]; exact e.frames, e.mod, e.bs, e.bsz, e.funs, e.frf, e.hok, e.bare⟩
  have hl := F.len _ _ _ _ q
  have rv : Vals [V.ref a, y] [Value.ref a, v] := .cons rfl (.cons ry .nil)
  refine wpAny_call (codeAny_mono (F.run A X.stack s H ⟨[.ref a, v], []⟩ [.ref a, v] [.ref a, y] _ E0 sb.room e0 (by
    have := hb s [.ref a, v] I.kIn (by simpa using hl)
    simpa using this) rv q) fun r s' hq => ?_)
  cases r with
  | error e => exact hq.elim
  | ok fl =>
    cases fl with
    | ret w =>
      obtain ⟨z, H', I', rz, t, rfl, k⟩ := I.after hq
      cases rz
      exact ⟨t, H', rfl, I', k⟩
    | next => exact False.elim hq
    | brk => exact False.elim hq
    | cont => exact False.elim hq
def rEqO (K : PySem.W.Frag) (C : Addr) (sp : Sp) (neg : Bool) : R2 := fun x y H Q => ∃ (a dx : Addr) (fs : List (PySem.Str × V)) (t : Value), x = .ref a ∧ H a = some (.ins C dx fs) ∧ TyX K H y t ∧ PySem.W.notFirst K C t = true ∧ Tru sp a y H fun r H' => Q (.bl (if neg then !r else r)) H'
theorem rc_own (T : OwnQ X.K C f) (F : FnOk X.prog X.w X.K X.mg X.base CX0 n f fd ps sp) (hb : Binds X.K fd ps []) {A : Around} (sb : Sub X n A) (I : Inv X pins σ H s) {a dx : Addr} {fs : List (PySem.Str × V)} {y : V} {v t : Value} (ha : H a = some (.ins C dx fs)) (ry : RelV y v) (ty : TyX X.K H y t) (nf : PySem.W.notFirst X.K C t = true) {Q : Bool → Hp → Prop} (q : Tru sp a y H Q) :
    wpAny (model X.prog X.w) A (richCompare .Eq (.ref a) v) (fun r s' => ∃ z H', r = .bool z ∧ Inv X pins σ H' s' ∧ Q z H') X.xe s := by
  obtain ⟨mA, om, _⟩ := ins_get I.hok ha
  obtain ⟨od, J, _⟩ := om.look
  obtain ⟨P, Z, p, _⟩ := kit_of I ry ty
  obtain ⟨m, hF⟩ := I.fr
  refine PySem.W.cmp_K (op := .Eq) sb.room.units0 hF I.ok.mod.kin J (Z.ty _ _ I.kIn p) nf T.eq T.fn (wpAny_mono (own_run F hb sb I ry q) (fun r s' z => ?_) fun _ _ z => z)
  obtain ⟨t, H', rfl, k⟩ := z
  exact ⟨t, H', rfl, k⟩
theorem op_eqO (T : OwnQ X.K C f) (F : FnOk X.prog X.w X.K X.mg X.base CX0 n f fd ps sp) (hb : Binds X.K fd ps []) (hr : Room n X.A) : OpR X (compareOp .Eq) (rEqO X.K C sp false) := by
  intro pins s σ H x y v u Q I rx ry h
  obtain ⟨a, dx, fs, t, rfl, ha, ty, nf, q⟩ := h
  cases rx
  refine (show wpAny (model X.prog X.w) X.A (richCompare .Eq (.ref a) u) _ _ s from wpAny_mono (rc_own T F hb ⟨hr, rfl⟩ I ha ry ty nf q) (fun r s' z => ?_) fun _ _ z => z)
  obtain ⟨t, H', rfl, I', k⟩ := z
  exact ⟨.bl t, H', I', rfl, k⟩
theorem op_neO (T : OwnQ X.K C f) (F : FnOk X.prog X.w X.K X.mg X.base CX0 n f fd ps sp) (hb : Binds X.K fd ps []) (hr : Room (n + 1) X.A) : OpR X (compareOp .NotEq) (rEqO X.K C sp true) := by
  intro pins s σ H x y v u Q I rx ry h
  obtain ⟨a, dx, fs, t, rfl, ha, ty, nf, q⟩ := h
  cases rx
  obtain ⟨mA, om, _⟩ := ins_get I.hok ha
  obtain ⟨od, J, _⟩ := om.look
  obtain ⟨P, Z, p, _⟩ := kit_of I ry ty
  have hu : X.A.units + 1 < cLine := hr.in1.units0
  refine (show wpAny (model X.prog X.w) X.A (richCompare .NotEq (.ref a) u) _ _ s from SW.rc_ne hu I.kIn J (Z.ty _ _ I.kIn p) nf T.ne T.eq T.fn T.obj (wpAny_mono (own_run F hb ⟨hr.in1, rfl⟩ I ry q) (fun r s' z => ?_) fun _ _ z => z))
  obtain ⟨t, H', rfl, I', k⟩ := z
  exact ⟨t, rfl, .bl (!t), H', I', rfl, k⟩
/-- b in [a], both of the class, not the same -/
def rInO (K : PySem.W.Frag) (C : Addr) (sp : Sp) : R2 := fun x y H Q => ∃ (a b l dx : Addr) (fs : List (PySem.Str × V)) (t : Value), x = .ref b ∧ y = .ref l ∧ b ≠ a ∧ H l = some (.lst [.ref a]) ∧ H a = some (.ins C dx fs) ∧ TyX K H x t ∧ PySem.W.notFirst K C t = true ∧ Tru sp a x H fun r H' => H' l = some (.lst [.ref a]) ∧ Q (.bl r) H'
theorem op_inO (T : OwnQ X.K C f) (F : FnOk X.prog X.w X.K X.mg X.base CX0 n f fd ps sp) (hb : Binds X.K fd ps []) (hr : Room (n + 1) X.A) : OpR X (compareOp .In) (rInO X.K C sp) := by
  intro pins s σ H x y v u Q I rx ry h
  obtain ⟨a, b, l, dx, fs, t, rfl, rfl, ne, hl, ha, ty, nf, q⟩ := h
  cases rx
  cases ry
  obtain ⟨_, its, n0, rv, hl1⟩ := (show ObjOk X.prog X.w H s.heap l (.lst [.ref a]) from I.hok l _ hl)
  obtain ⟨u1, e1, r1⟩ := vals1 rv
  subst e1
  cases r1
  refine SW.in_one (y := .ref a) rfl hl1 (GQ.eqBool_refG (Ne.symm ne) (wpAny_mono (rc_own T F hb ⟨hr.in1, rfl⟩ I ha (show RelV (.ref b) (.ref b) from rfl) ty nf q) (fun r s' z => ?_) fun _ _ z => z))
  obtain ⟨t, H', rfl, I', hl', k⟩ := z
  obtain ⟨_, its', n1, rv', hl2⟩ := (show ObjOk X.prog X.w H' s'.heap l (.lst [.ref a]) from I'.hok l _ hl')
  obtain ⟨u2, e2, _⟩ := vals1 rv'
  subst e2
  exact ⟨t, rfl, ⟨_, _, _, _, rfl, hl2⟩, .bl t, H', I', rfl, k⟩
/-- a thing of a built-in type -/
inductive Alien (H : Hp) : V → Prop where
  | non : Alien H .non
  | bl (b : Bool) : Alien H (.bl b)
  | int (i : Int) : Alien H (.int i)
  | str (z : PySem.Str) : Alien H (.str z)
  | lst {p : Addr} {xs : List V} (e : H p = some (.lst xs)) : Alien H (.ref p)
  | tup {p : Addr} {xs : List V} (e : H p = some (.tup xs)) : Alien H (.ref p)
theorem Alien.ty {K : PySem.W.Frag} {H : Hp} {C : Addr} {z : V} (h : Alien H z) : ∃ t, TyX K H z t ∧ PySem.W.notFirst K C t = true := by
  have no : ∀ T l, fastBuiltinMro T = some l → l.contains (Value.ref C) = false → PySem.W.notFirst K C (.type T) = true := fun T l e c => by
    have : PySem.W.subIn K (.type T) (.ref C) = some false := by
      show (fastBuiltinMro T).map (·.contains (.ref C)) = some false
      rw [e, Option.map_some, c]
    unfold PySem.W.notFirst
    rw [this]
    simp
  cases h with
  | non => exact ⟨_, .base .non, no "NoneType" [.type "NoneType", .type "object"] (by decide +kernel) (by simp)⟩
  | bl b => exact ⟨_, .base (.bl b), no "bool" [.type "bool", .type "int", .type "object"] (by decide +kernel) (by simp)⟩
  | int i => exact ⟨_, .base (.int i), no "int" [.type "int", .type "object"] (by decide +kernel) (by simp)⟩
  | str z => exact ⟨_, .base (.str z), no "str" [.type "str", .type "object"] (by decide +kernel) (by simp)⟩
  | lst e => exact ⟨_, .base (.lst e), no "list" [.type "list", .type "object"] (by decide +kernel) (by simp)⟩
  | tup e => exact ⟨_, .base (.tup e), no "tuple" [.type "tuple", .type "object"] (by decide +kernel) (by simp)⟩
theorem eq_alien (T : OwnQ X.K C f) (F : FnOk X.prog X.w X.K X.mg X.base CX0 n f fd ps sp) (hb : Binds X.K fd ps []) {A : Around} (sb : Sub X n A) (I : Inv X pins σ H s) {a dx : Addr} {fs : List (PySem.Str × V)} {z : V} {v : Value} (ha : H a = some (.ins C dx fs)) (rz : RelV z v) (al : Alien H z) {Q : Bool → Hp → Prop} (q : Tru sp a z H Q) :
    wpAny (model X.prog X.w) A (eqBool v (.ref a)) (fun r s' => ∃ H', Inv X pins σ H' s' ∧ Q r H') X.xe s := by
  obtain ⟨mA, om, _⟩ := ins_get I.hok ha
  obtain ⟨od, J, _⟩ := om.look
  have run := own_run F hb sb I rz q
  have hu := sb.room.units0
  have back : ∀ {T' : String}, s.TypeIs v T' → PySem.W.mroIn X.K C (.type T') = some false → wpAny (model X.prog X.w) A (tryCompare v "__eq__" (.ref a)) (fun r s' => r = none ∧ s' = s) X.xe s →
      wpAny (model X.prog X.w) A (richCompare .Eq v (.ref a)) (fun w s' => ∃ r H', w = .bool r ∧ Inv X pins σ H' s' ∧ Q r H') X.xe s := fun hT hm no =>
    SW.rc_back hu I.kIn J hT hm T.eq T.fn no (wpAny_mono run (fun w s' k => by
      obtain ⟨r, H', rfl, I', k⟩ := k
      exact ⟨r, rfl, r, H', rfl, I', k⟩) fun _ _ k => k)
  have flat : (v == Value.ref a) = false → (∀ bits tok, v ≠ .float bits tok) → wpAny (model X.prog X.w) A (richCompare .Eq v (.ref a)) (fun w s' => ∃ r H', w = .bool r ∧ Inv X pins σ H' s' ∧ Q r H') X.xe s →
      wpAny (model X.prog X.w) A (eqBool v (.ref a)) (fun r s' => ∃ H', Inv X pins σ H' s' ∧ Q r H') X.xe s := fun ne _ h => by
    unfold eqBool
    refine wpAny_holding (wpAny_ite_split (fun k => absurd k (by rw [ne]; simp)) fun _ => ?_)
    have go : wpAny (model X.prog X.w) A (do let r ← richCompare .Eq v (.ref a); truthOfDropped r) (fun r s' => ∃ H', Inv X pins σ H' s' ∧ Q r H') X.xe s := by
      refine wpAny_bind (wpAny_mono h (fun w s' k => ?_) fun _ _ k => k)
      obtain ⟨r, H', rfl, I', k⟩ := k
      exact wpAny_truthy_bool ⟨H', I', k⟩
    cases v <;> exact go
  cases al with
  | non =>
    cases rz
    exact flat rfl (fun _ _ k => nomatch k) (back rfl T.no (SW.no_none J.at_))
  | bl b =>
    cases rz
    exact flat rfl (fun _ _ k => nomatch k) (back rfl T.bo (SW.no_bool J.at_))
  | int i =>
    obtain ⟨t, rfl⟩ := rz
    exact flat rfl (fun _ _ k => nomatch k) (back rfl T.it (SW.no_int J.at_))
  | str i =>
    obtain ⟨t, rfl⟩ := rz
    exact flat rfl (fun _ _ k => nomatch k) (back rfl T.st (SW.no_str J.at_))
  | @lst p xs e =>
    cases rz
    obtain ⟨_, its, n0, _, hl⟩ := (show ObjOk X.prog X.w H s.heap p (.lst xs) from I.hok p _ e)
    have ne : p ≠ a := fun k => by
      rw [k, ha] at e
      cases e
    exact flat (by simpa using ne) (fun _ _ k => nomatch k) (back ⟨_, hl, rfl⟩ T.li (SW.no_list hl I.kIn J T.li))
  | @tup p xs e =>
    cases rz
    obtain ⟨_, its, _, o, h1, h2, n0, h3⟩ := (show ObjOk X.prog X.w H s.heap p (.tup xs) from I.hok p _ e)
    have ne : p ≠ a := fun k => by
      rw [k, ha] at e
      cases e
    obtain ⟨oc, od', dt, sl⟩ := o
    simp only at h2 h3
    subst h2 h3
    exact flat (by simpa using ne) (fun _ _ k => nomatch k) (back ⟨_, h1, rfl⟩ T.tu (SW.no_tup h1 I.kIn J T.tu))
/-- a in [z], z of a built-in type -/
def rInB (C : Addr) (sp : Sp) : R2 := fun x y H Q => ∃ (a l dx : Addr) (fs : List (PySem.Str × V)) (z : V), x = .ref a ∧ y = .ref l ∧ H l = some (.lst [z]) ∧ H a = some (.ins C dx fs) ∧ Alien H z ∧ Tru sp a z H fun r H' => H' l = some (.lst [z]) ∧ Q (.bl r) H'
theorem op_inB (T : OwnQ X.K C f) (F : FnOk X.prog X.w X.K X.mg X.base CX0 n f fd ps sp) (hb : Binds X.K fd ps []) (hr : Room (n + 1) X.A) : OpR X (compareOp .In) (rInB C sp) := by
  intro pins s σ H x y v u Q I rx ry h
  obtain ⟨a, l, dx, fs, z, rfl, rfl, hl, ha, al, q⟩ := h
  cases rx
  cases ry
  obtain ⟨_, its, n0, rv, hl1⟩ := (show ObjOk X.prog X.w H s.heap l (.lst [z]) from I.hok l _ hl)
  obtain ⟨u1, e1, r1⟩ := vals1 rv
  subst e1
  refine SW.in_one (y := u1) rfl hl1 (wpAny_mono (eq_alien T F hb ⟨hr.in1, rfl⟩ I ha r1 al q) (fun r s' k => ?_) fun _ _ k => k)
  obtain ⟨H', I', hl', k⟩ := k
  obtain ⟨_, its', n1, rv', hl2⟩ := (show ObjOk X.prog X.w H' s'.heap l (.lst [z]) from I'.hok l _ hl')
  obtain ⟨u2, e2, _⟩ := vals1 rv'
  subst e2
  exact ⟨⟨_, _, _, _, rfl, hl2⟩, .bl r, H', I', rfl, k⟩
end
end SH

set_option Elab.async false
set_option linter.all false
set_option maxRecDepth 100000
/-! repr of plain data; defs that ask for it, which are called where no such text is under way. -/
namespace SH
open PySem PySem.Spec PyProof.Rows L2
/-- a def's promise, where no guard stands around the call -/
structure FnG (P : Program) (w : World) (K : PySem.W.Frag) (mg : PySem.Str → Option Value) (base : Heap) (k : Nat) (f : Addr) (fd : FuncData) (ps : List PySem.Str) (sp : Sp) : Prop where
  len : ∀ vs H Q E, sp vs H Q E → vs.length = ps.length
  run : ∀ (A : Around) (outer : List Env) (s : Shared) (H : Hp) (args : Args) (us : List Value) (vs : List V) (Q : VK) (E : XK), A.guards = some [] → Room k A → Env0 P w K mg base A outer s H →
    BindsTo s fd args (ps.zip us) → Vals vs us → sp vs H Q E → codeAny (model P w) A (.call (.ref f) args) (CR CX0 outer P w H s Q E) s
section
variable {P : Program} {w : World} {K : PySem.W.Frag} {mg : PySem.Str → Option Value} {base : Heap}
theorem FnG.of {k : Nat} {f : Addr} {fd : FuncData} {ps : List PySem.Str} {sp : Sp} (F : FnOk P w K mg base CX0 k f fd ps sp) : FnG P w K mg base k f fd ps sp :=
  ⟨F.len, fun A outer s H args us vs Q E _ => F.run A outer s H args us vs Q E⟩
theorem FnG.mono {j k : Nat} {f : Addr} {fd : FuncData} {ps : List PySem.Str} {sp : Sp} (F : FnG P w K mg base j f fd ps sp) (h : j ≤ k) : FnG P w K mg base k f fd ps sp :=
  ⟨F.len, fun A outer s H args us vs Q E g r => F.run A outer s H args us vs Q E g (r.mono h)⟩
/-- a def of the text, by its body -/
theorem okG {x qual : PySem.Str} {st : Stmt} {f : Addr} {fd : FuncData} {N ps : List PySem.Str} {k : Nat} {sp : Sp} (F : Fun K x qual st f fd) (S : FnScope N ps (defScope st)) (len : ∀ vs H Q E, sp vs H Q E → vs.length = ps.length)
    (body : ∀ (cdv : Value) (A : Around) (outer : List Env) (s : Shared) (H : Hp) (vs : List V) (Q : VK) (E : XK), (A.deeper (envOfC qual (defScope st) s.heap.objs.size f cdv)).guards = some [] → Room k (A.deeper (envOfC qual (defScope st) s.heap.objs.size f cdv)) → sp vs H Q E →
      ∃ t, PSs (cxOf CX0 P w K mg base N qual (defScope st) f cdv A outer s H E).nox (defBody st) t ∧ t { nx := fun _ H' => Q .non H', rt := Q } (start N vs) H) : FnG P w K mg base (k + 1) f fd ps sp := by
  obtain ⟨oc, od, kV, doc, pm, an, cdv, ct, osl, rfl, look, code⟩ := F.ex
  refine ⟨len, ?_⟩
  intro A outer s H args us vs Q E gd room env bind rel want
  have many := len _ _ _ _ want
  have still : ∀ b o, base.get? b = some o → s.heap.get? b = some o := fun b o e => (env.bs b o e).1
  have inK := env.mod.kin.keeps still
  refine codeAny_call_function room.depth (inK _ _ look) rfl S.co S.gen rfl (PySem.W.codeRec_of inK code) (bind _ _ _ _ ?_)
  refine wpAny_newFunctionEnv_cells S.kind ?_ fun env' he s1 made => ?_
  · rintro ⟨n, v⟩ hy
    cases S.par n (List.of_mem_zip hy).1 with
    | inl q => exact .inl q
    | inr q => exact .inr ⟨q, PySem.W.cellsFrom_some _ _ _ (.inl q)⟩
  subst he
  refine ⟨(env.mod.nolimit.keeps still).keeps made.toInCall.keep, codeAny_func ?_⟩
  obtain ⟨t, ht, hq⟩ := body cdv A outer s H vs Q E gd (room.deeper _) want
  have begun : Inv (cxOf CX0 P w K mg base N qual (defScope st) f cdv A outer s H E) [] (start N vs) H s1 := inv_start S room.hd env many rel made
  refine wpAny_mono (ht.nox.run [] s1 _ H _ begun hq) (fun fl s' out => ?_) fun _ _ out => out
  cases fl with
  | ret u => exact let ⟨v, _, H', J, rv, q⟩ := out; ⟨v, H', J.os, J.bare, J.base, J.hok, rv, q⟩
  | next => exact let ⟨_, H', J, q⟩ := out; ⟨V.non, H', J.os, J.bare, J.base, J.hok, rfl, q⟩
  | brk => exact (let ⟨_, _, _, q⟩ := out; False.elim q)
  | cont => exact (let ⟨_, _, _, q⟩ := out; False.elim q)
end
section
variable {X : Cx}
/-- f(..) of such a def -/
theorem pe_callG {k : Nat} {f : Addr} {fd : FuncData} {ps : List PySem.Str} {sp : Sp} {x : PySem.Str} {p pos : Pos} {e : Expr} {es : List Expr} {t : TA} (F : FnG X.prog X.w X.K X.mg X.base k f fd ps sp) (gd : X.A.guards = some []) (hr : Room k X.A) (hg : Gl X x) (hm : X.mg x = some (.ref f)) (hk : PySem.W.keepIn X.K (.ref f) = true) (hb : Binds X.K fd ps [])
    (ha : PA X (e :: es) t) (hdb : (x == ("__debug__" : PySem.Str)) = false := by decide) (he : starEach (e :: es) X.env = (false, eval e X.env) :: starEach es X.env := by rfl) (hpl : (backTo pos (starEach es X.env)).any (·.1) = false := by rfl) :
    PE X (.Call (.Name x p) (e :: es) [] pos) (tCall sp [] E0 t) := by
  constructor
  intro pins s σ H Q I h
  refine wpAny_Call_Name_kw (ld_glob I hg hm ?_ hdb)
  refine PySem.W.callWith_K (h₀ := X.base) I.ok.mod.kin hk (thn (ha.run pos pins s σ H _ I h) ?_) he hpl
  rintro us s1 ⟨vs, H1, I1, r, q⟩
  rw [List.append_nil] at q
  refine ⟨I1.kIn, wpAny_call (codeAny_mono (F.run X.A X.stack s1 H1 ⟨us, []⟩ us vs Q E0 gd hr I1.env0 ?_ r q) fun r' s' hq => ?_)⟩
  · have := hb s1 us I1.kIn (by rw [List.append_nil, ← r.length]; exact F.len _ _ _ _ q)
    rwa [List.append_nil] at this
  · cases r' with
    | error e => exact False.elim hq
    | ok fl =>
      cases fl with
      | ret u => exact I1.after hq
      | next => exact False.elim hq
      | brk => exact False.elim hq
      | cont => exact False.elim hq
/-- repr(x), x a list or tuple of plain data -/
def rRepr (K : PySem.W.Frag) : List V → Hp → VK → Prop := fun xs H Q => ∃ (a : Addr) (d : PyData), xs = [.ref a] ∧ Dp K H (.ref a) d ∧ d.showable = true ∧ d.hasDict = false ∧ d.depth ≤ 60 ∧ d.shown.length ≤ sizeLine ∧ Q (.str d.shown) H
theorem call_reprD (gd : X.A.guards = some []) (hu : X.A.units + 64 < cLine) : CallR X (.builtin "repr") (rRepr X.K) := by
  intro pins s σ H xs us Q I r h
  obtain ⟨a, d, rfl, dp, sh, nd, de, sz, q⟩ := h
  obtain ⟨u, rfl, ru⟩ := vals1 r
  cases ru
  obtain ⟨as, rd⟩ := Dp.reads I d _ _ dp rfl
  refine repr_of_reads' rd sh (fun z => by rw [nd] at z; cases z) gd (by omega) (fun _ _ e => e) (fun h' t tk kp => ?_) sz
  exact ⟨.str d.shown, H, I.kept (t' := tk) kp, ⟨_, rfl⟩, q⟩
theorem call_reprK (K : PySem.W.Frag) (gd : X.A.guards = some []) (hu : X.A.units + 64 < cLine) (hK : X.K = K := by rfl) : CallR X (.builtin "repr") (rRepr K) := hK ▸ call_reprD gd hu
end
/-! ### the beginning -/
/-- the heap in which the script alone is known, and what comes of the law's end -/
theorem law_begin {P : Program} {w : World} {K : PySem.W.Frag} {mg mb : PySem.Str → Option Value} {a : Addr} {s₁ : Shared} {vs : List Value} {ns : List Int} (inK : K.In s₁.heap) (gl : s₁.heap.Ns mainGlobals mg) (bl : s₁.heap.Ns builtinsNs mb) (boot : ∀ x : PySem.Str, x ≠ "__name__" → mb x = bootBuiltins x) (nl : s₁.heap.NoLimit) (gens : s₁.gens = #[])
    (at_ : s₁.heap.get? a = some { cls := .type "list", data := .seq vs.toArray }) (hin : IntsAre vs ns) (few : ns.length ≤ sizeLine) :
    ∃ (H : Hp) (base : Heap), SqL K H a (ns.map V.int) ∧ Env0 P w K mg base callerA [] s₁ H ∧ K.In base ∧ base.Ns mainGlobals mg ∧ ∀ (r : Result) (s' : Shared), CR CX0 [] P w H s₁ (fun v _ => v = .bl true) E0 r s' → r = .ok (.ret (.bool true)) ∧ OldK s₁.heap s'.heap ∧ s'.os = s₁.os ∧ AllBare s'.gens := by
  have vals := vals_ints hin
  have many := hin.length
  -- any heap that knows no more than the script, as it lies there
  have any : ∀ H : Hp, (∀ b u, H b = some u → b = a ∧ K.lookup a = none ∧ ∃ o xs, u = .frz o xs) → SqL K H a (ns.map V.int) → HOk P w H s₁.heap →
      ∃ (H : Hp) (base : Heap), SqL K H a (ns.map V.int) ∧ Env0 P w K mg base callerA [] s₁ H ∧ K.In base ∧ base.Ns mainGlobals mg ∧ ∀ (r : Result) (s' : Shared), CR CX0 [] P w H s₁ (fun v _ => v = .bl true) E0 r s' → r = .ok (.ret (.bool true)) ∧ OldK s₁.heap s'.heap ∧ s'.os = s₁.os ∧ AllBare s'.gens := by
    intro H only sq ok
    have clear : ∀ {b : Addr} {o : Obj}, s₁.heap.get? b = some o → (b = a → K.lookup a = none → False) → (hidT s₁.heap H).get? b = some o := fun {b o} e no => by
      refine hidT_get e ?_
      cases q : H b with
      | none => rfl
      | some u => exact (no (only b u q).1 (only b u q).2.1).elim
    have ns' : ∀ {b : Addr} {m : PySem.Str → Option Value}, s₁.heap.Ns b m → (hidT s₁.heap H).Ns b m := by
      rintro b m ⟨o, es, ep, e, d, r⟩
      refine ⟨o, es, ep, clear e fun z _ => ?_, d, r⟩
      subst z
      rw [at_] at e
      cases e
      cases (show Data.seq vs.toArray _ = Data.dict es ep from d)
    have kb : K.In (hidT s₁.heap H) := fun b o e => clear (inK b o e) fun z n => by
      subst z
      rw [n] at e
      cases e
    refine ⟨H, hidT s₁.heap H, sq, ⟨rfl, ⟨kb, ns' gl, ⟨mb, ns' bl, boot⟩, ?_⟩, fun b o e => of_hidT e, Nat.le_of_eq (hidT_size _ _), trivial, ?_, ok, .of_eq gens⟩, kb, ns' gl, ?_⟩
    · obtain ⟨mc, h1, h2⟩ := nl
      exact ⟨mc, ns' h1, h2⟩
    · intro b hb
      cases (show b ∈ ([] : List Addr) from hb)
    · intro r s' h
      cases r with
      | error e => exact False.elim h
      | ok fl =>
        cases fl with
        | next => exact False.elim h
        | brk => exact False.elim h
        | cont => exact False.elim h
        | ret u =>
          obtain ⟨v, H', os, bare, un, ok', rv, q⟩ := h
          cases (show v = .bl true from q)
          cases (show u = Value.bool true from rv)
          refine ⟨rfl, OldK.of_keep fun b o e => ?_, os, bare⟩
          cases q : H b with
          | none => exact un.keep b o e q (fun z => by cases (show b ∈ ([] : List Addr) from z)) (by simp)
          | some u =>
            obtain ⟨_, _, ob, xs, rfl⟩ := only b u q
            have e1 := (ok b _ q).1
            rw [e] at e1
            cases e1
            exact (ok' b _ (un.frzs b _ _ q)).1
  cases look : K.lookup a with
  | some o =>
    have e := inK a o look
    rw [at_] at e
    cases e
    refine any (fun _ => none) (fun b u z => by cases z) ?_ (fun b u z => by cases (show (none : Option HO) = some u from z))
    exact .inr ⟨_, vs.toArray, _, look, rfl, rfl, rfl, by rw [List.size_toArray, many]; exact few, by simpa using vals⟩
  | none =>
    refine any (fun b => if b = a then some (.frz { cls := .type "list", data := .seq vs.toArray } (.lst (ns.map V.int))) else none) ?_ (.inl (.inr ⟨{ cls := .type "list", data := .seq vs.toArray }, if_pos rfl⟩)) ?_
    · intro b u z
      by_cases hb : b = a
      · rw [if_pos hb] at z
        cases z
        exact ⟨hb, look, _, _, rfl⟩
      · rw [if_neg hb] at z
        cases z
    · intro b u z
      by_cases hb : b = a
      · have z' := (if_pos hb).symm.trans z
        cases z'
        subst hb
        exact ⟨at_, by rw [List.length_map]; exact few, vs, _, vals, at_⟩
      · cases (if_neg hb).symm.trans z
/-- the law's walk, from such a promise of it -/
theorem walk_G {l : PySem.W.OpenLaw} {k : Nat} {q : Program} {loose : List PySem.Str} {XP : (PySem.Str → Option Value) → Heap → Prop} {YP : World → Heap → Prop} {d : DefRec} {K : Params → PySem.W.Frag} {sp : PySem.W.Frag → Sp} (most : l.most = some 63) (nodf : d.params.defaults = []) (room : Room k callerA)
    (hY : ∀ (w : World) (h : Heap), YP w h → (K w.params).In h)
    (F : ∀ (w : World) (mg : PySem.Str → Option Value) (fa : Addr) (h : Heap), (K w.params).In h → h.Ns mainGlobals mg → mg d.name = some (.ref fa) →
      ∃ fd : FuncData, (∀ (s : Shared) (u : Value), BindsTo s fd ⟨[u], []⟩ [("_law_script", u)]) ∧ ∀ base : Heap, (K w.params).In base → base.Ns mainGlobals mg → FnG l.prog w (K w.params) mg base k fa fd ["_law_script"] (sp (K w.params)))
    (hsp : ∀ (K : PySem.W.Frag) (H : Hp) (a : Addr) (ns : List Int), ns.length ≤ 63 → SqL K H a (ns.map V.int) → sp K [.ref a] H (fun v _ => v = .bl true) E0) :
    PySem.W.WalkO q loose XP YP l.row.toRowW d [] (fun f vs => PySem.call f vs) := by
  refine Att.attach_call most nodf fun w s₀ s₁ mg mb fa o pm cd doc a vs ns G Y ho hd hcd hmg hobj hints hlen hg => ?_
  obtain ⟨fd, hb, hF⟩ := F w mg fa _ (hY w _ Y) G.T.g hmg
  obtain ⟨H, base, sq, env, kb, nb, out⟩ := law_begin (P := l.prog) (w := w) (hY w _ Y) G.T.g G.T.b G.T.builtins G.T.nolimit hg hobj hints (Nat.le_trans hlen (by decide))
  exact codeAny_mono ((hF base kb nb).run callerA [] s₁ H ⟨[.ref a], []⟩ [.ref a] [.ref a] _ _ rfl room env (hb s₁ (.ref a)) (.cons rfl .nil) (hsp _ H a ns hlen sq)) out
end SH

set_option Elab.async false
set_option linter.all false
set_option maxRecDepth 100000
/-! plain data of tuples: how deep, how long their text. -/
namespace SH
open PySem L2
mutual
def onlyT : PyData → Bool
  | .none => true
  | .bool _ => true
  | .int _ => true
  | .str _ => true
  | .list _ => false
  | .tuple ds => onlyTs ds
  | .dict _ => false
def onlyTs : List PyData → Bool
  | [] => true
  | d :: ds => onlyT d && onlyTs ds
end
theorem onlyTs_mem : ∀ {ds : List PyData}, (∀ d ∈ ds, onlyT d = true) → onlyTs ds = true
  | [], _ => rfl
  | d :: ds, h => by
    show (onlyT d && onlyTs ds) = true
    rw [h d (List.mem_cons_self ..), onlyTs_mem fun e he => h e (List.mem_cons_of_mem _ he)]
    rfl
theorem mem_onlyTs : ∀ {ds : List PyData}, onlyTs ds = true → ∀ d ∈ ds, onlyT d = true
  | [], _, d, hd => by cases hd
  | e :: ds, h, d, hd => by
    have h' : (onlyT e && onlyTs ds) = true := h
    rw [Bool.and_eq_true] at h'
    rcases List.mem_cons.mp hd with rfl | hd
    · exact h'.1
    · exact mem_onlyTs h'.2 d hd
/-! such data stay where the tuples stay -/
def KpT (K : PySem.W.Frag) (H H' : Hp) : Prop := ∀ a xs, SqT K H a xs → SqT K H' a xs
mutual
theorem Dp.keep {K : PySem.W.Frag} {H H' : Hp} (h : KpT K H H') : ∀ {d : PyData} {v : V}, onlyT d = true → Dp K H v d → Dp K H' v d
  | .none, _, _, .non => .non
  | .bool _, _, _, .bl b => .bl b
  | .int _, _, _, .int i => .int i
  | .str _, _, _, .str x => .str x
  | .list _, _, o, _ => by cases o
  | .tuple ds, _, o, .tup s q => .tup (h _ _ s) (DpAll.keep h o q)
  | .dict _, _, o, _ => by cases o
theorem DpAll.keep {K : PySem.W.Frag} {H H' : Hp} (h : KpT K H H') : ∀ {ds : List PyData} {vs : List V}, onlyTs ds = true → DpAll K H vs ds → DpAll K H' vs ds
  | [], _, _, .nil => .nil
  | d :: ds, _, o, .cons a b => by
    have o' : (onlyT d && onlyTs ds) = true := o
    rw [Bool.and_eq_true] at o'
    exact .cons (Dp.keep h o'.1 a) (DpAll.keep h o'.2 b)
end
theorem Same.kpT {K : PySem.W.Frag} {H H' : Hp} (s : Same H H') : KpT K H H' := fun a xs h => by
  rcases h with (h | ⟨o, h⟩) | h
  · exact .inl (.inl (s _ _ h))
  · exact .inl (.inr ⟨o, s _ _ h⟩)
  · exact .inr h
theorem KpT.trans {K : PySem.W.Frag} {H H1 H2 : Hp} (a : KpT K H H1) (b : KpT K H1 H2) : KpT K H H2 := fun x xs h => b x xs (a x xs h)
theorem KpT.lst {K : PySem.W.Frag} {H : Hp} {l : Addr} {xs zs : List V} (h : H l = some (.lst xs)) : KpT K H (upd H l (.lst zs)) := fun a ys q => by
  rcases q with (q | ⟨o, q⟩) | q
  · exact .inl (.inl (by rw [upd_ne (fun z => by rw [z, h] at q; cases q)]; exact q))
  · exact .inl (.inr ⟨o, by rw [upd_ne (fun z => by rw [z, h] at q; cases q)]; exact q⟩)
  · exact .inr q
theorem DpAll.app {K : PySem.W.Frag} {H : Hp} : ∀ {as bs : List V} {ds es : List PyData}, DpAll K H as ds → DpAll K H bs es → DpAll K H (as ++ bs) (ds ++ es)
  | _, _, _, _, .nil, q => q
  | _, _, _, _, .cons a b, q => .cons a (DpAll.app b q)
theorem DpAll.len {K : PySem.W.Frag} {H : Hp} : ∀ {as : List V} {ds : List PyData}, DpAll K H as ds → as.length = ds.length
  | _, _, .nil => rfl
  | _, _, .cons _ b => by rw [List.length_cons, List.length_cons, DpAll.len b]
theorem DpAll.rev {K : PySem.W.Frag} {H : Hp} : ∀ {as : List V} {ds : List PyData}, DpAll K H as ds → DpAll K H as.reverse ds.reverse
  | _, _, .nil => .nil
  | _, _, .cons a b => by
    rw [List.reverse_cons, List.reverse_cons]
    exact DpAll.app (DpAll.rev b) (.cons a .nil)
/-! ### how long their text is -/
theorem piled_sum : ∀ ts : List Str, piled ts = (ts.map fun t => t.length + 2).sum
  | [] => rfl
  | t :: ts => by rw [piled_cons, piled_sum ts, List.map_cons, List.sum_cons]
theorem tuple_len (ts : List Str) : (tupleText ts).length ≤ 3 + (ts.map fun t => t.length + 2).sum := by
  unfold tupleText
  rw [strLen_append, strLen_append]
  have e1 : (((if ts.length == 1 then ",)" else ")" : String) : Str)).length ≤ 2 := by split <;> decide
  have e2 : (("(" : String) : Str).length = 1 := rfl
  cases ts with
  | nil =>
    have : (Str.join ", " ([] : List Str)).length = 0 := rfl
    omega
  | cons x r =>
    have := join_length_add (x :: r) (by simp)
    rw [piled_sum] at this
    omega
theorem textFrom_le : ∀ (ts : List Str) (k : Nat) (acc : Str), (textFrom k acc ts).length ≤ acc.length + (ts.map fun t => t.length + 2).sum
  | [], _, acc => Nat.le_refl _
  | t :: r, k, acc => by
    have h := textFrom_le r (k + 1) (acc ++ (if k > 0 then ", " else "" : String) ++ t)
    have e : (acc ++ (if k > 0 then ", " else "" : String) ++ t).length ≤ acc.length + 2 + t.length := by
      rw [strLen_append, strLen_append]
      have : (((if k > 0 then ", " else "" : String) : Str)).length ≤ 2 := by split <;> decide
      omega
    show (textFrom (k + 1) (acc ++ (if k > 0 then ", " else "" : String) ++ t) r).length ≤ _
    rw [List.map_cons, List.sum_cons]
    omega
theorem list_len (ts : List Str) : (listText ts).length ≤ 2 + (ts.map fun t => t.length + 2).sum := by
  unfold listText
  rw [strLen_append]
  have := textFrom_le ts 0 "["
  have e1 : (("[" : String) : Str).length = 1 := rfl
  have e2 : (("]" : String) : Str).length = 1 := rfl
  omega
/-- plain data of tuples, no deeper than n, with a text of at most m signs -/
structure Nice (n m : Nat) (d : PyData) : Prop where
  lay : PySem.PyData.canLay0 d = true
  dep : d.depth ≤ n
  ot : onlyT d = true
  sh : d.showable = true
  nd : d.hasDict = false
  sz : d.shown.length ≤ m
theorem Nice.up {n m n' m' : Nat} {d : PyData} (h : Nice n m d) (a : n ≤ n') (b : m ≤ m') : Nice n' m' d := ⟨h.lay, Nat.le_trans h.dep a, h.ot, h.sh, h.nd, Nat.le_trans h.sz b⟩
theorem showAll_mem : ∀ {ds : List PyData}, (∀ d ∈ ds, PyData.showable d = true) → PyData.showableAll ds = true
  | [], _ => rfl
  | d :: ds, h => by
    show (PyData.showable d && PyData.showableAll ds) = true
    rw [h d (List.mem_cons_self ..), showAll_mem fun e he => h e (List.mem_cons_of_mem _ he)]
    rfl
theorem noDict_mem : ∀ {ds : List PyData}, (∀ d ∈ ds, PyData.hasDict d = false) → PyData.hasDictAll ds = false
  | [], _ => rfl
  | d :: ds, h => by
    show (PyData.hasDict d || PyData.hasDictAll ds) = false
    rw [h d (List.mem_cons_self ..), noDict_mem fun e he => h e (List.mem_cons_of_mem _ he)]
    rfl
theorem shownAll_map : ∀ ds : List PyData, PyData.shownAll ds = ds.map PyData.shown
  | [] => rfl
  | d :: ds => by
    show PyData.shown d :: PyData.shownAll ds = _
    rw [shownAll_map ds]
    rfl
theorem lay_all (xs : List PyData) : PySem.PyData.canLayAll0 xs = xs.all PySem.PyData.canLay0 := by
  induction xs with
  | nil => rfl
  | cons x xs ih =>
    show (PySem.PyData.canLay0 x && PySem.PyData.canLayAll0 xs) = _
    rw [ih, List.all_cons]
theorem deep_all {n : Nat} : ∀ {xs : List PyData}, (∀ x ∈ xs, x.depth ≤ n) → PySem.PyData.depthAll xs ≤ n
  | [], _ => Nat.zero_le _
  | x :: xs, h => by
    show max x.depth (PySem.PyData.depthAll xs) ≤ n
    have h1 := h x (List.mem_cons_self ..)
    have h2 := deep_all fun y hy => h y (List.mem_cons_of_mem _ hy)
    omega
/-- the parts one by one: no deeper than n, their texts together -/
inductive Nices (n : Nat) : Nat → List PyData → Prop
  | nil : Nices n 0 []
  | cons {m k : Nat} {d : PyData} {ds : List PyData} : Nice n m d → Nices n k ds → Nices n (m + 2 + k) (d :: ds)
theorem Nices.mem {n k : Nat} {ds : List PyData} (h : Nices n k ds) : ∀ d ∈ ds, ∃ m, Nice n m d := by
  induction h with
  | nil => intro d hd; cases hd
  | cons a _ ih =>
    intro e he
    rcases List.mem_cons.mp he with rfl | he
    · exact ⟨_, a⟩
    · exact ih e he
theorem Nices.sum {n k : Nat} {ds : List PyData} (h : Nices n k ds) : ((PyData.shownAll ds).map fun t => t.length + 2).sum ≤ k := by
  induction h with
  | nil => exact Nat.le_refl _
  | @cons m k d ds a _ ih =>
    show ((PyData.shown d :: PyData.shownAll ds).map fun t => t.length + 2).sum ≤ _
    rw [List.map_cons, List.sum_cons]
    have := a.sz
    omega
theorem Nices.app {n k l : Nat} {ds es : List PyData} (a : Nices n k ds) (b : Nices n l es) : Nices n (k + l) (ds ++ es) := by
  induction a with
  | nil => rw [Nat.zero_add]; exact b
  | @cons m k d ds h _ ih =>
    have := Nices.cons h ih
    rw [show m + 2 + k + l = m + 2 + (k + l) by omega]
    exact this
theorem Nices.all {n m : Nat} : ∀ {ds : List PyData}, (∀ d ∈ ds, Nice n m d) → Nices n (ds.length * (m + 2)) ds
  | [], _ => by rw [List.length_nil, Nat.zero_mul]; exact .nil
  | d :: ds, h => by
    have := Nices.cons (h d (List.mem_cons_self ..)) (Nices.all fun e he => h e (List.mem_cons_of_mem _ he))
    rw [List.length_cons, Nat.succ_mul, Nat.add_comm]
    exact this
theorem nice_tup {n k : Nat} {ds : List PyData} (h : Nices n k ds) : Nice (n + 1) (3 + k) (.tuple ds) := by
  have me := h.mem
  refine ⟨?_, ?_, ?_, ?_, ?_, ?_⟩
  · show PySem.PyData.canLayAll0 ds = true
    rw [lay_all, List.all_eq_true]
    exact fun d hd => (let ⟨_, z⟩ := me d hd; z.lay)
  · show PySem.PyData.depthAll ds + 1 ≤ n + 1
    have := deep_all (n := n) fun d hd => (let ⟨_, z⟩ := me d hd; z.dep)
    omega
  · exact onlyTs_mem fun d hd => (let ⟨_, z⟩ := me d hd; z.ot)
  · exact showAll_mem fun d hd => (let ⟨_, z⟩ := me d hd; z.sh)
  · exact noDict_mem fun d hd => (let ⟨_, z⟩ := me d hd; z.nd)
  · have := tuple_len (PyData.shownAll ds)
    have := h.sum
    show (tupleText (PyData.shownAll ds)).length ≤ _
    omega
/-- a list of such data -/
structure NiceL (ds : List PyData) : Prop where
  lay : PySem.PyData.canLay0 (.list ds) = true
  dep : (PyData.list ds).depth ≤ 40
  ot : onlyTs ds = true
  sh : (PyData.list ds).showable = true
  nd : (PyData.list ds).hasDict = false
  sz : (PyData.list ds).shown.length ≤ sizeLine
theorem niceL {n k : Nat} {ds : List PyData} (h : Nices n k ds) (hn : n < 40) (hk : k + 2 ≤ sizeLine) : NiceL ds := by
  have me := h.mem
  refine ⟨?_, ?_, ?_, ?_, ?_, ?_⟩
  · show PySem.PyData.canLayAll0 ds = true
    rw [lay_all, List.all_eq_true]
    exact fun d hd => (let ⟨_, z⟩ := me d hd; z.lay)
  · show PySem.PyData.depthAll ds + 1 ≤ 40
    have := deep_all (n := n) fun d hd => (let ⟨_, z⟩ := me d hd; z.dep)
    omega
  · exact onlyTs_mem fun d hd => (let ⟨_, z⟩ := me d hd; z.ot)
  · exact showAll_mem fun d hd => (let ⟨_, z⟩ := me d hd; z.sh)
  · exact noDict_mem fun d hd => (let ⟨_, z⟩ := me d hd; z.nd)
  · have := list_len (PyData.shownAll ds)
    have := h.sum
    show (listText (PyData.shownAll ds)).length ≤ _
    omega
theorem NiceL.shaped {ds : List PyData} (h : NiceL ds) : SeqAt.shaped (.list ds) = true := by
  unfold SeqAt.shaped
  rw [h.lay, decide_eq_true (Nat.le_trans h.dep (by decide))]
  rfl
theorem NiceL.refl {ds : List PyData} (h : NiceL ds) : PyData.eqv (.list ds) (.list ds) = true := SeqAt.eqv_refl _ h.lay
theorem nice_int {n : Nat} {i : Int} (h : i.natAbs < 2 ^ 100) : Nice n 101 (.int i) := by
  have lg : i.natAbs.log2 < 1920 := by
    by_cases z : i.natAbs = 0
    · rw [z]; decide
    · have := (Nat.log2_lt z).mpr h
      omega
  refine ⟨rfl, Nat.zero_le _, rfl, decide_eq_true lg, rfl, ?_⟩
  show (Str.ofString (toString i)).length ≤ 101
  have e := int_text_length_le (a := i) (k := 100) (by decide) (by
    by_cases z : i.natAbs = 0
    · rw [z]; decide
    · exact (Nat.log2_lt z).mpr h)
  rw [ofString_length]; exact e
theorem nice_lit {n m : Nat} {s : Str} (h : PySem.PyData.strOk s = true) (k : (reprText s).length ≤ m) : Nice n m (.str s) := ⟨h, Nat.zero_le _, rfl, rfl, rfl, k⟩
end SH

set_option Elab.async false
set_option linter.all false
set_option maxRecDepth 100000
namespace SH
open PySem L2
abbrev sLaw : Stmt := topS 52
theorem scLaw : FnScope ["_law_script", "_law_seen", "_law_k", "_law_bag_here", "_law_names_here", "_law_tree_here", "_law_text_here", "_law_many", "_law_leaf"] ["_law_script"] (defScope sLaw) := ⟨rfl, rfl, rfl, by decide +kernel, rfl, by decide +kernel, by decide +kernel⟩
def spLaw (K : PySem.W.Frag) : Sp := fun vs H Q _ => ∃ (a : Addr) (ns : List Int), vs = [.ref a] ∧ SqL K H a (ns.map V.int) ∧ ns.length ≤ 63 ∧ ∀ H', Q (.bl true) H'
def Ex.dat : Ex → PyData
  | .num i => .tuple [.str "number", .int i]
  | .nam s => .tuple [.str "name", .str s]
  | .op g l r => .tuple [.str g.txt, l.dat, r.dat]
theorem Ex.dp {K : PySem.W.Frag} {H : Hp} : ∀ {e : Ex} {v : V}, TrIn H e v → Dp K H v e.dat
  | .num _, _, ⟨a, e, h⟩ => e ▸ .tup (SqT.of h) (.cons (.str _) (.cons (.int _) .nil))
  | .nam _, _, ⟨a, e, h⟩ => e ▸ .tup (SqT.of h) (.cons (.str _) (.cons (.str _) .nil))
  | .op _ _ _, _, ⟨a, x, y, e, h, l, r⟩ => e ▸ .tup (SqT.of h) (.cons (.str _) (.cons (Ex.dp l) (.cons (Ex.dp r) .nil)))
theorem fit_name {s : Str} (h : NmOk s) : PySem.PyData.canLay0 (.str s) = true := by
  show PySem.PyData.strOk s = true
  unfold PySem.PyData.strOk
  rw [Array.all_eq_true]
  intro i hi
  have q := h.1.2.2 s.cps[i] (by show _ ∈ s.cps.toList; exact Array.mem_toList_iff.mpr (Array.getElem_mem hi))
  exact decide_eq_true (by omega)
theorem nice_nm {n : Nat} {s : Str} (h : NmOk s) : Nice n 82 (.str s) := by
  refine ⟨fit_name h, Nat.zero_le _, rfl, rfl, rfl, ?_⟩
  have l8 := h.1.2.1
  have := StrLaws.reprText_len s (fun c hc => by
    have := h.1.2.2 c hc
    omega)
  rw [codes_len] at l8
  show (reprText s).length ≤ 82
  omega
def exB : Nat → Nat
  | 0 => 130
  | n + 1 => 2 * exB n + 20
theorem exB_ge (n : Nat) : 130 ≤ exB n := by
  induction n with
  | zero => exact Nat.le_refl _
  | succ n ih => show 130 ≤ 2 * exB n + 20; omega
theorem Ex.nice : ∀ {n : Nat} {e : Ex}, Ex.fine n e → Nice n (exB n) e.dat
  | 0, _, h => h.elim
  | n + 1, .num i, h => by
    have hb := exB_ge n
    have e5 : (1000000 : Int) ^ 5 < 2 ^ 100 := by decide
    have hi : i.natAbs < 2 ^ 100 := by have h1 := h.1; have h2 := h.2; omega
    exact (nice_tup (.cons (nice_lit (m := 8) (by decide +kernel) (by decide +kernel)) (.cons (nice_int hi) .nil))).up (Nat.le_refl _) (by show _ ≤ 2 * exB n + 20; omega)
  | n + 1, .nam s, h => by
    have hb := exB_ge n
    exact (nice_tup (.cons (nice_lit (m := 6) (by decide +kernel) (by decide +kernel)) (.cons (nice_nm h) .nil))).up (Nat.le_refl _) (by show _ ≤ 2 * exB n + 20; omega)
  | n + 1, .op g l r, h => by
    exact (nice_tup (.cons (nice_lit (m := 4) (by cases g <;> decide +kernel) (by cases g <;> decide +kernel)) (.cons (Ex.nice h.1) (.cons (Ex.nice h.2) .nil)))).up (Nat.le_refl _) (by show _ ≤ 2 * exB n + 20; omega)
theorem exB6 : exB 6 = 9580 := by decide
theorem Ex.nice6 {e : Ex} (h : Ex.fine 6 e) : Nice 6 9580 e.dat := by
  have := Ex.nice h
  rwa [exB6] at this

theorem TrIn.ref {H : Hp} {e : Ex} {v : V} (h : TrIn H e v) : ∃ a, v = .ref a := by
  obtain ⟨a, xs, e, _⟩ := h.tup
  exact ⟨a, e⟩
/-- what repr asks, and what comes of it -/
theorem rep_tr {K : PySem.W.Frag} {H : Hp} {e : Ex} {v : V} {Q : VK} (h : TrIn H e v) (hf : Ex.fine 6 e) (q : Q (.str e.dat.shown) H) : rRepr K [v] H Q := by
  obtain ⟨a, rfl⟩ := h.ref
  have n := Ex.nice6 hf
  exact ⟨a, e.dat, rfl, Ex.dp h, n.sh, n.nd, Nat.le_trans n.dep (by decide), Nat.le_trans n.sz (by decide), q⟩
/-- a text that is read as that tree -/
def GoodT (s : Str) (e : Ex) : Prop := ∃ ps, cd s = flat ps ∧ (∀ p ∈ ps, POk p) ∧ (∀ t, some t ∈ ps → TOk t) ∧ Ajs ps ∧ s.length ≤ 1000000 ∧ Pr 8 1 e (toks ps) ∧ Ex.fine 6 e
def SeenV (H : Hp) (v : V) : Prop := ∃ (a : Addr) (s : Str) (tv : V) (e : Ex), v = .ref a ∧ H a = some (.tup [.str s, tv]) ∧ TrIn H e tv ∧ GoodT s e
theorem SeenV.keep {H H' : Hp} {v : V} (h : SeenV H v) (k : ∀ c zs, H c = some (.tup zs) → H' c = some (.tup zs)) : SeenV H' v :=
  let ⟨a, s, tv, e, h1, h2, h3, h4⟩ := h; ⟨a, s, tv, e, h1, k _ _ h2, tups k h3, h4⟩
where tups {H H' : Hp} (h : ∀ c zs, H c = some (.tup zs) → H' c = some (.tup zs)) : ∀ {e : Ex} {v : V}, TrIn H e v → TrIn H' e v
  | .num n, v, ⟨a, e, k⟩ => ⟨a, e, h _ _ k⟩
  | .nam n, v, ⟨a, e, k⟩ => ⟨a, e, h _ _ k⟩
  | .op g l r, v, ⟨a, x, y, e, k, p, q⟩ => ⟨a, x, y, e, h _ _ k, tups h p, tups h q⟩
theorem fresh_but {b : Addr} {H0 H1 H2 : Hp} (s : Same H0 H1) (hb : H0 b = none) (u : But b H1 H2) : Same H0 H2 := fun a o e => u a o (ne_of_none e hb) (s a o e)
theorem dp8_lt : ∀ {n : Nat} {e : Ex}, Ex.fine n e → e.dp8 + 1 ≤ n
  | 0, _, h => h.elim
  | n + 1, .num _, _ => by show 0 + 1 ≤ n + 1; omega
  | n + 1, .nam _, _ => by show 0 + 1 ≤ n + 1; omega
  | n + 1, .op _ l r, h => by
    have h1 := dp8_lt h.1
    have h2 := dp8_lt h.2
    show 1 + max l.dp8 r.dp8 + 1 ≤ n + 1
    omega
theorem toks_mem {ps : List Pc} {ts : List Tn} (h : toks ps = ts) (k : ∀ t ∈ ts, TOk t) : ∀ t, some t ∈ ps → TOk t := fun t ht => k t (by rw [← h]; exact List.mem_filterMap.mpr ⟨some t, ht, rfl⟩)
theorem Pr.brks {e : Ex} {t : Tn} (h : leafT e = some t) : ∀ m : Nat, Pr m 4 e (List.replicate m Tn.lp ++ (t :: List.replicate m Tn.rp))
  | 0 => .leaf h
  | m + 1 => by
    have := Pr.brk ((Pr.brks h m).to (L := 1) (by decide) (by decide) (by decide))
    have e1 : Tn.lp :: ((List.replicate m Tn.lp ++ (t :: List.replicate m Tn.rp)) ++ [Tn.rp]) = List.replicate (m + 1) Tn.lp ++ (t :: List.replicate (m + 1) Tn.rp) := by
      rw [List.replicate_succ (n := m) (a := Tn.lp), List.replicate_succ' (n := m) (a := Tn.rp)]
      simp
    rw [← e1]
    exact this
theorem rep_flat (v : V) : ∀ m : Nat, (List.replicate m [v]).flatten = List.replicate m v
  | 0 => rfl
  | m + 1 => by
    rw [List.replicate_succ, List.flatten_cons, rep_flat v m, List.replicate_succ]
    rfl
theorem leaf_val {H : Hp} {e : Ex} {v : V} {t : Tn} (h : TrIn H e v) (hf : Ex.fine 6 e) (ht : leafT e = some t) : ∃ (a : Addr) (hd val : V), v = .ref a ∧ H a = some (.tup [hd, val]) ∧ ((∃ n : Int, val = .int n ∧ n.natAbs.log2 < 1920 ∧ t.txt = Str.ofString (toString n)) ∨ ∃ s, val = .str s ∧ t.txt = s) := by
  cases e with
  | num n =>
    cases ht
    obtain ⟨a, rfl, ha⟩ := h
    exact ⟨a, _, _, rfl, ha, .inl ⟨n, rfl, log_ok hf.1 hf.2, rfl⟩⟩
  | nam n =>
    cases ht
    obtain ⟨a, rfl, ha⟩ := h
    exact ⟨a, _, _, rfl, ha, .inr ⟨n, rfl, rfl⟩⟩
  | op g l r => cases ht
theorem leaf_tok {e : Ex} {t : Tn} (hf : Ex.fine 6 e) (ht : leafT e = some t) : TOk t := by
  cases e with
  | num n => cases ht; exact ⟨hf, fun s z => by cases z⟩
  | nam n => cases ht; exact ⟨hf.1, fun s z => by cases z; exact hf.2⟩
  | op g l r => cases ht
section
variable {P : Program} {w : World} {K : PySem.W.Frag} {mg : Str → Option Value} {base : Heap}
theorem ok_law {f fB fN fT fR fK fL fE : Addr} {fd dB dN dT dR dK dL dE : FuncData} {C : Addr} (F : Fun K "law" "law" sLaw f fd) (BG : Fk P w K mg base 1 "_law_bag" fB dB ["_law_script", "_law_k"] (spBag K)) (NM : Fk P w K mg base 2 "_law_names" fN dN ["_law_bag_here", "_law_many"] spNames)
    (TK : Fk P w K mg base 1 "_law_take" fT dT ["_law_bag_here", "_law_many"] spTake) (TR : Fk P w K mg base 8 "_law_tree" fR dR ["_law_bag_here", "_law_names_here", "_law_deep"] (spTrees 6))
    (BK : Fk P w K mg base 20 "_law_bracketed" fK dK ["_law_bag_here", "_law_tree_here", "_law_nested"] (spBrk 6)) (BL : Fk P w K mg base 2 "_law_blanked" fL dL ["_law_bag_here", "_law_parts_here"] spBlk) (RE : Fk P w K mg base 56 "read_expression" fE dE ["text"] (spRead C)) (T : Bi mg) (q_repr : mg "repr" = none) : FnG P w K mg base 57 f fd ["_law_script"] (spLaw K) := by
  refine okG F scLaw (fun vs H Q E h => ?_) (fun cdv A outer s H vs Q E gd hr h => ?_)
  · obtain ⟨a, ns, rfl, _⟩ := h
    rfl
  obtain ⟨a, ns, rfl, hS, h63, q⟩ := h
  refine ⟨_, (pss_cons (ps_set (i := 1) scLaw.nd rfl (Or.inl rfl) (pe_lst pa_nil))
    (pss_cons (ps_for PassesOwn.never rfl (pi_range1 (by rfl) T.range (pa_cons (pe_callB (call_max2 rfl) (by rfl) T.max (by decide +kernel) (pa_cons pe_int (pa_cons (pe_callB (call_min2 rfl) (by rfl) T.min (by decide +kernel) (pa_cons pe_int (pa_cons (pe_callB call_len_seq (by rfl) T.len (by decide +kernel) (pa_cons (pv 0) pa_nil)) pa_nil))) pa_nil))) pa_nil)) (pg_name (i := 2) scLaw.nd rfl (.inl rfl))
      (pss_cons (ps_set (i := 3) scLaw.nd rfl (Or.inl rfl) (pe_call BG.G (hr.mono (by omega)) (by rfl) BG.m BG.k BG.b .nil pass0 (pa_cons (pv 0) (pa_cons (pv 2) pa_nil))))
    (pss_cons (ps_set (i := 4) scLaw.nd rfl (Or.inl rfl) (pe_call NM.G (hr.mono (by omega)) (by rfl) NM.m NM.k NM.b .nil pass0 (pa_cons (pv 3) (pa_cons pe_int pa_nil))))
    (pss_cons (ps_for PassesOwn.never rfl (pi_list (pe_lst (pa_cons (pe_call TR.G (hr.mono (by omega)) (by rfl) TR.m TR.k TR.b .nil pass0 (pa_cons (pv 3) (pa_cons (pv 4) (pa_cons pe_int pa_nil)))) (pa_cons (pe_call TR.G (hr.mono (by omega)) (by rfl) TR.m TR.k TR.b .nil pass0 (pa_cons (pv 3) (pa_cons (pv 4) (pa_cons (pe_op op_add pe_int (pe_call TK.G (hr.mono (by omega)) (by rfl) TK.m TK.k TK.b .nil pass0 (pa_cons (pv 3) (pa_cons pe_int pa_nil)))) pa_nil)))) pa_nil)))) (pg_name (i := 5) scLaw.nd rfl (.inl rfl))
      (pss_cons (ps_set (i := 6) scLaw.nd rfl (Or.inl rfl) (pe_call BL.G (hr.mono (by omega)) (by rfl) BL.m BL.k BL.b .nil pass0 (pa_cons (pv 3) (pa_cons (pe_call BK.G (hr.mono (by omega)) (by rfl) BK.m BK.k BK.b .nil pass0 (pa_cons (pv 3) (pa_cons (pv 5) (pa_cons pe_int pa_nil)))) pa_nil))))
    (pss_cons (ps_if (pt_cmpR op_ne (pe_callB (call_reprD gd hr.units) (by rfl) q_repr (by decide +kernel) (pa_cons (pe_call RE.G (hr.mono (by omega)) (by rfl) RE.m RE.k RE.b .nil pass0 (pa_cons (pv 6) pa_nil)) pa_nil)) (pe_callB (call_reprD gd hr.units) (by rfl) q_repr (by decide +kernel) (pa_cons (pv 5) pa_nil)) (nomark _))
      (pss_one (ps_ret pe_bl))
      pss_nil)
    (pss_one (ps_expr (pe_bm PySem.F.plainAttrs_list PySem.F.slot_list_append PySem.F.type_list_append mt_append (pv 1) (pa_cons (pe_tup (pa_cons (pv 6) (pa_cons (pv 5) pa_nil))) pa_nil)))))))
    (pss_cons (ps_set (i := 7) scLaw.nd rfl (Or.inl rfl) (pe_op op_add pe_int (pe_call TK.G (hr.mono (by omega)) (by rfl) TK.m TK.k TK.b .nil pass0 (pa_cons (pv 3) (pa_cons pe_int pa_nil)))))
    (pss_cons (ps_set (i := 8) scLaw.nd rfl (Or.inl rfl) (pe_call TR.G (hr.mono (by omega)) (by rfl) TR.m TR.k TR.b .nil pass0 (pa_cons (pv 3) (pa_cons (pv 4) (pa_cons pe_int pa_nil)))))
    (pss_cons (ps_set (i := 6) scLaw.nd rfl (Or.inl rfl) (pe_call BL.G (hr.mono (by omega)) (by rfl) BL.m BL.k BL.b .nil pass0 (pa_cons (pv 3) (pa_cons (pe_op op_cat (pe_op op_cat (pe_op op_rep (pe_lst (pa_cons pe_str pa_nil)) (pv 7)) (pe_lst (pa_cons (pe_callTy (CallR.or call_str_int SkE.call_str_str) (by rfl) T.str (by decide +kernel) (pa_cons (pe_ix ix_tup (pv 8) pe_int (fun _ _ => rfl)) pa_nil)) pa_nil))) (pe_op op_rep (pe_lst (pa_cons pe_str pa_nil)) (pv 7))) pa_nil))))
    (pss_one (ps_if (pt_cmpR op_ne (pe_callB (call_reprD gd hr.units) (by rfl) q_repr (by decide +kernel) (pa_cons (pe_call RE.G (hr.mono (by omega)) (by rfl) RE.m RE.k RE.b .nil pass0 (pa_cons (pv 6) pa_nil)) pa_nil)) (pe_callB (call_reprD gd hr.units) (by rfl) q_repr (by decide +kernel) (pa_cons (pv 8) pa_nil)) (nomark _))
      (pss_one (ps_ret pe_bl))
      pss_nil)))))))))
    (pss_one (ps_ret (pe_callB (cr_all rfl) (by rfl) T.all (by decide +kernel) (pa_cons (pe_lc (own := [("_law_text_here", 6), ("_law_tree_here", 5)]) (g := gTup K 2 (gCons (gName 6) (gCons (gName 5) gNil))) (tt := tYes) (by rfl) scLaw.nd (pi_list (pv 1)) (blkOk_by (own := [("_law_text_here", 6), ("_law_tree_here", 5)]) (N := ["_law_script", "_law_seen", "_law_k", "_law_bag_here", "_law_names_here", "_law_tree_here", "_law_text_here", "_law_many", "_law_leaf"]) (sc := defScope sLaw) (by decide +kernel)) (fun _ _ _ _ _ => pg_tup rfl (pgs_cons (pg_name (i := 6) scLaw.nd rfl (Or.inl rfl)) (pgs_cons (pg_name (i := 5) scLaw.nd rfl (Or.inl rfl)) pgs_nil))) (fun _ _ _ _ _ => pts_nil) (fun _ _ _ _ _ => (pe_cmpR op_eq (pe_callB (call_reprK K gd hr.units) (by rfl) q_repr (by decide +kernel) (pa_cons (pe_call RE.G (hr.mono (by omega)) (by rfl) RE.m RE.k RE.b .nil pass0 (pa_cons (pv 6) pa_nil)) pa_nil)) (pe_callB (call_reprK K gd hr.units) (by rfl) q_repr (by decide +kernel) (pa_cons (pv 5) pa_nil)) (nomark _)))) pa_nil)))))), ?_⟩
  have hs : sizeLine = 16777216 := by decide
  have hnum : ∃ N : Int, N = (if (if ((ns.map V.int).length : Int) < 5 then ((ns.map V.int).length : Int) else 5) > 3 then (if ((ns.map V.int).length : Int) < 5 then ((ns.map V.int).length : Int) else 5) else 3) ∧ 0 ≤ N ∧ N ≤ 5 := by
    refine ⟨_, rfl, ?_, ?_⟩ <;> (split <;> (try split) <;> omega)
  obtain ⟨N, eN, N0, N5⟩ := hnum
  refine ⟨Nat.zero_le _, fun ls nls => ?_⟩
  have s1 := same_new nls (.lst [])
  refine ⟨_, rfl, a, _, rfl, .inl (s1.seq hS), _, _, rfl, _, _, rfl, N, (by rw [eN]), by omega, by omega, ?_⟩
  refine for_range (lo := 0) (n := N.toNat) (fun i σ H' => ∃ (vs : List V) (y2 y3 y4 y5 y6 y7 y8 : Option V), σ = [some (.ref a), some (.ref ls), y2, y3, y4, y5, y6, y7, y8] ∧ H' ls = some (.lst vs) ∧ vs.length ≤ 2 * i ∧ (∀ v ∈ vs, SeenV H' v) ∧ Same H H') ?_ ?_ ?_
  · exact ⟨[], none, none, none, none, none, none, none, rfl, upd_same, Nat.zero_le _, (fun v h => by cases h), s1⟩
  · rintro i σ H1 hi ⟨vs, y2, y3, y4, y5, y6, y7, y8, rfl, hls, hvl, hse, sH⟩
    have hi5 : i < 5 := by omega
    refine ⟨_, rfl, _, rfl, a, ns, 0 + (i : Int), rfl, sH.seq hS, by omega, by omega, fun b H2 s2 nb B2 => ?_⟩
    refine ⟨_, rfl, b, 3, 900000, rfl, by decide, B2.less (by decide), fun pn nm H3 npn hpn lnm okn B3 U3 => ?_⟩
    have s3 : Same H1 H3 := fresh_but s2 nb U3
    have npb : pn ≠ b := fun z => by obtain ⟨ys, hy⟩ := B2.lst; rw [z, hy] at npn; cases npn
    have hnm : ∀ s ∈ nm, nmOk s := fun s hs' => (okn.each s hs').1
    have hNm : ∀ s ∈ nm, NmOk s := fun s hs' => okn.each s hs'
    have nlsb : ls ≠ b := fun z => by rw [z] at hls; rw [hls] at nb; cases nb
    refine ⟨_, rfl, _, rfl, 6, Nat.le_refl _, b, pn, nm, 800000, rfl, hpn, npb, by omega, hnm, by decide, B3.less (by decide), fun v1 e1 H4 t1 o1 B4 U4 => ?_⟩
    have hpn4 := U4 _ _ npb hpn
    refine ⟨_, rfl, _, rfl, _, rfl, b, 5, 700000, rfl, by decide, by decide, B4.less (by decide), fun d1 H5 a1 a2 B5 U5 => ?_⟩
    have hpn5 := U5 _ _ npb hpn4
    have ed : ((1 + d1).toNat : Int) = 1 + d1 := Int.toNat_of_nonneg (by omega)
    have tcs : tc (1 + d1).toNat ≤ 756 := by
      rcases (show d1 = 0 ∨ d1 = 1 ∨ d1 = 2 ∨ d1 = 3 ∨ d1 = 4 by omega) with rfl | rfl | rfl | rfl | rfl <;> decide
    refine ⟨_, _, rfl, rfl, (1 + d1).toNat, by omega, b, pn, nm, 600000, (by show [V.ref b, V.ref pn, V.int (1 + d1)] = _; rw [ed]), hpn5, npb, by omega, hnm, by omega, B5.less (by omega), fun v2 e2 H6 t2 o2 B6 U6 => ?_⟩
    have hpn6 := U6 _ _ npb hpn5
    refine ⟨(by show 2 ≤ sizeLine; decide), fun so hso => ?_⟩
    obtain ⟨ys4, hys4⟩ := B4.lst
    have t1' : TrIn H6 e1 v1 := t1.but hys4 (U5.trans U6)
    have u7 := same_new hso (.lst [v1, v2])
    have hso7 : (upd H6 so (.lst [v1, v2])) so = some (.lst [v1, v2]) := upd_same
    have f1 : Ex.fine 6 e1 := Ex.of_fine hNm o1
    have f2 : Ex.fine 6 e2 := Ex.fine_up (by omega) (Ex.of_fine hNm o2)
    have nsb : so ≠ b := fun z => by obtain ⟨ys, hy⟩ := B6.lst; rw [z, hy] at hso; cases hso
    have tt : ∀ v ∈ [v1, v2], ∃ e, TrIn (upd H6 so (.lst [v1, v2])) e v ∧ Ex.fine 6 e := by
      intro v hv
      have hv' : v = v1 ∨ v = v2 := by simpa using hv
      rcases hv' with rfl | rfl
      · exact ⟨e1, t1'.same u7, f1⟩
      · exact ⟨e2, t2.same u7, f2⟩
    have s7 : Same H1 (upd H6 so (.lst [v1, v2])) := (fresh_but s3 nb (U4.trans (U5.trans U6))).trans u7
    have hpn7 := u7 _ _ hpn6
    have B7 := B6.same u7
    have nsl : so ≠ ls := fun z => by rw [z] at hso; rw [(U4.trans (U5.trans U6)) _ _ nlsb (s3 _ _ hls)] at hso; cases hso
    have npl : pn ≠ ls := fun z => by
      have := s2 _ _ hls
      rw [← z, npn] at this
      cases this
    generalize upd H6 so (.lst [v1, v2]) = H7 at u7 hso7 tt s7 hpn7 B7
    refine ⟨so, rfl, ⟨_, SqL.of hso7⟩, ?_⟩
    refine for_list (K := K) (a := so) (xs := [v1, v2]) (fun j σ H' => ∃ (ws : List V) (z5 z6 z7 z8 : Option V), σ = [some (.ref a), some (.ref ls), some (.int (0 + (i : Int))), some (.ref b), some (.ref pn), z5, z6, z7, z8] ∧ H' so = some (.lst [v1, v2]) ∧ (∀ v ∈ [v1, v2], ∃ e, TrIn H' e v ∧ Ex.fine 6 e) ∧
      H' ls = some (.lst ws) ∧ ws.length ≤ 2 * i + j ∧ (∀ v ∈ ws, SeenV H' v) ∧ H' pn = some (.lst (nm.map V.str)) ∧ Bag H' b (500000 - 5000 * j) ∧ (∀ c o, c ≠ ls → H1 c = some o → H' c = some o)) ?_ ?_ ?_ ?_
    · exact ⟨vs, _, _, _, _, rfl, hso7, tt, s7 _ _ hls, by omega, fun v hv => (hse v hv).keep fun c zs e => s7 _ _ e, hpn7, B7.less (by decide), fun c o _ e => s7 _ _ e⟩
    · rintro j σ' H' _ ⟨ws, z5, z6, z7, z8, rfl, h1, _⟩
      exact SqL.of h1
    · rintro j v σ' H8 hv ⟨ws, z5, z6, z7, z8, rfl, h1, h2, h3, h4, h5, h6, h7, h8⟩
      have hj : j < 2 := (List.getElem?_eq_some_iff.mp hv).1
      obtain ⟨e, te, fe⟩ := h2 v (List.mem_of_getElem? hv)
      obtain ⟨av, ev⟩ := te.ref
      have nn := Ex.nice6 fe
      have nn1 : e.dat.depth ≤ 60 := Nat.le_trans nn.dep (by decide)
      have nn2 : e.dat.shown.length ≤ sizeLine := Nat.le_trans nn.sz (by decide)
      have hnd := nds_small fe
      have hnd' : e.nds + 1 ≤ 64 := hnd
      have hd8 := dp8_lt fe
      obtain ⟨ys8, hys8⟩ := h7.lst
      refine ⟨_, rfl, _, rfl, _, rfl, b, v, 0, 500000 - 5000 * j - 100, e, rfl, te, by omega, fe, h7.less (by omega), fun p ts H9 W => ?_⟩
      have hWl := W.len
      refine ⟨b, p, ts, 500000 - 5000 * (j + 1), rfl, W.ne, W.at_, W.tok, by omega, W.bag.less (by omega), fun s' ps H10 g1 g2 g3 g4 g5 B10 U10 => ?_⟩
      have hgood : GoodT s' e := ⟨ps, g1, g3, toks_mem g2 W.tok, g4, by omega, by rw [g2]; exact (W.pr.mono (by omega)).to (by decide) (by have := e.lv_pos; omega) (by have := e.lv_pos; omega), fe⟩
      obtain ⟨ps', q1, q2, q3, q4, q5, q6, q7⟩ := hgood
      have U810 : But b H8 H10 := W.but.trans U10
      have te10 : TrIn H10 e v := te.but hys8 U810
      refine ⟨_, rfl, s', ps', e, rfl, q1, q2, q3, q4, q5, q6, q7, fun v' H11 S11 tv' => ?_⟩
      obtain ⟨av', rfl⟩ := tv'.ref
      refine ⟨av', e.dat, rfl, Ex.dp tv', nn.sh, nn.nd, nn1, nn2, ?_⟩
      have te11 := te10.same S11
      have te11' := te11
      rw [ev] at te11'
      refine ⟨_, rfl, av, e.dat, by rw [ev], Ex.dp te11', nn.sh, nn.nd, nn1, nn2, rfl, _, rfl, ?_⟩
      rw [decide_eq_true rfl]
      refine iteF ?_
      have U811 : But b H8 H11 := U810.trans (But.of S11)
      have k3 := U811 _ _ nlsb h3
      refine ⟨_, rfl, .inl ⟨rfl, _, SqL.of k3⟩, _, rfl, _, rfl, (by show 2 ≤ sizeLine; decide), fun p2 np2 => ?_⟩
      have S12 := same_new np2 (.tup [.str s', v])
      have k32 := S12 _ _ k3
      refine ⟨ls, _, _, rfl, rfl, k32, by omega, ?_⟩
      have n2l : p2 ≠ ls := fun z => by rw [z, k3] at np2; cases np2
      have KT : ∀ c zs, H11 c = some (.tup zs) → (upd (upd H11 p2 (.tup [.str s', v])) ls (.lst (ws ++ [.ref p2]))) c = some (.tup zs) := fun c zs e => by
        rw [upd_ne (fun z => by rw [z, k3] at e; cases e)]; exact S12 _ _ e
      have KT8 : ∀ c zs, H8 c = some (.tup zs) → (upd (upd H11 p2 (.tup [.str s', v])) ls (.lst (ws ++ [.ref p2]))) c = some (.tup zs) := fun c zs e => KT _ _ (U811 _ _ (lst_ne e hys8) e)
      refine ⟨ws ++ [.ref p2], _, _, _, _, rfl, ?_, fun u hu => ?_, upd_same, by rw [List.length_append]; show ws.length + 1 ≤ _; omega, fun u hu => ?_, ?_, ?_, fun c o nc e => ?_⟩
      · rw [upd_ne nsl]; exact S12 _ _ (U811 _ _ nsb h1)
      · obtain ⟨e', t', f'⟩ := h2 u hu
        exact ⟨e', SeenV.keep.tups KT8 t', f'⟩
      · rcases List.mem_append.mp hu with hu | hu
        · exact (h5 u hu).keep KT8
        · rw [List.mem_singleton.mp hu]
          exact ⟨p2, s', v, e, rfl, by rw [upd_ne n2l]; exact upd_same, SeenV.keep.tups KT te11, ⟨ps', q1, q2, q3, q4, q5, q6, q7⟩⟩
      · rw [upd_ne npl]; exact S12 _ _ (U811 _ _ npb h6)
      · obtain ⟨x, y, z, hx, r⟩ := (B10.same S11).same S12
        exact ⟨x, y, z, by rw [upd_ne nlsb.symm]; exact hx, r⟩
      · rw [upd_ne nc]
        exact S12 _ _ (U811 _ _ (ne_of_none e nb) (h8 c o nc e))
    · rintro σ' H8 ⟨ws, z5, z6, z7, z8, rfl, h1, h2, h3, h4, h5, h6, h7, h8⟩
      have hn1 : ([v1, v2] : List V).length = 2 := rfl
      rw [hn1] at h4 h7
      refine ⟨_, rfl, b, 8, 400000, rfl, by decide, by decide, h7.less (by decide), fun d3 H9 c1 c2 B9 U9 => ?_⟩
      refine ⟨_, _, rfl, rfl, ?_⟩
      have h69 := U9 _ _ npb h6
      refine ⟨_, rfl, _, rfl, 1, by decide, b, pn, nm, 300000, rfl, h69, npb, by omega, hnm, by decide, B9.less (by decide), fun v3 e3 H10 t3 o3 B10 U10 => ?_⟩
      have f3 : Ex.fine 6 e3 := Ex.fine_up (by decide) (Ex.of_fine hNm o3)
      obtain ⟨t0, ht0⟩ : ∃ t, leafT e3 = some t := by
        cases e3 with
        | num n => exact ⟨_, rfl⟩
        | nam n => exact ⟨_, rfl⟩
        | op g l r => exact absurd o3.1 (fun h => h)
      obtain ⟨a3, hd3, val, rfl, ha3, hstr⟩ := leaf_val t3 f3 ht0
      have htok := leaf_tok f3 ht0
      generalize hm : (1 + d3).toNat = m
      have hm9 : m ≤ 8 := by omega
      have em : (1 + d3 : Int) = (m : Nat) := by omega
      have U810 : But b H8 H10 := U9.trans U10
      refine ⟨_, rfl, (by show 1 ≤ sizeLine; decide), fun l1 nl1 => ?_⟩
      have T1 := same_new nl1 (.lst [.str "("])
      refine ⟨_, rfl, l1, _, _, rfl, rfl, upd_same, by omega, by omega, (by show 1 * (1 + d3).toNat ≤ sizeLine; omega), fun l2 nl2 => ?_⟩
      rw [hm, rep_flat]
      have T2 := same_new nl2 (.lst (List.replicate m (V.str "(")))
      have h2' : (upd (upd H10 l1 (.lst [.str "("])) l2 (.lst (List.replicate m (V.str "(")))) l2 = some (.lst (List.replicate m (V.str "("))) := upd_same
      have T12 := T1.trans T2
      generalize upd (upd H10 l1 (.lst [.str "("])) l2 (.lst (List.replicate m (V.str "("))) = G2 at T2 h2' T12
      refine ⟨_, rfl, a3, _, 1, _, rfl, rfl, SqT.of (T12 _ _ ha3), atI_nat (j := 1) rfl, ?_⟩
      rcases hstr with ⟨n0, rfl, hlog, htx⟩ | ⟨s0, rfl, htx⟩
      · refine .inl ⟨n0, rfl, hlog, ?_⟩
        rw [← htx]
        refine ⟨(by show 1 ≤ sizeLine; decide), fun l3 nl3 => ?_⟩
        have T3 := same_new nl3 (.lst [V.str t0.txt])
        refine ⟨l2, l3, _, _, rfl, rfl, T3 _ _ h2', upd_same, by rw [List.length_replicate]; show m + 1 ≤ sizeLine; omega, fun l4 nl4 => ?_⟩
        have T4 := same_new nl4 (.lst (List.replicate m (V.str "(") ++ [V.str t0.txt]))
        have h4' : (upd (upd G2 l3 (.lst [V.str t0.txt])) l4 (.lst (List.replicate m (V.str "(") ++ [V.str t0.txt]))) l4 = some (.lst (List.replicate m (V.str "(") ++ [V.str t0.txt])) := upd_same
        have T14 := T12.trans (T3.trans T4)
        generalize upd (upd G2 l3 (.lst [V.str t0.txt])) l4 (.lst (List.replicate m (V.str "(") ++ [V.str t0.txt])) = G4 at T4 h4' T14
        refine ⟨(by show 1 ≤ sizeLine; decide), fun l5 nl5 => ?_⟩
        have T5 := same_new nl5 (.lst [.str ")"])
        refine ⟨_, rfl, l5, _, _, rfl, rfl, upd_same, by omega, by omega, (by show 1 * (1 + d3).toNat ≤ sizeLine; omega), fun l6 nl6 => ?_⟩
        rw [hm, rep_flat]
        have T6 := same_new nl6 (.lst (List.replicate m (V.str ")")))
        have T56 := T5.trans T6
        refine ⟨l4, l6, _, _, rfl, rfl, T56 _ _ h4', upd_same, by rw [List.length_append, List.length_replicate, List.length_replicate]; show m + 1 + m ≤ sizeLine; omega, fun l7 nl7 => ?_⟩
        have T7 := same_new nl7 (.lst ((List.replicate m (V.str "(") ++ [V.str t0.txt]) ++ List.replicate m (V.str ")")))
        have h7' : (upd (upd (upd G4 l5 (.lst [.str ")"])) l6 (.lst (List.replicate m (V.str ")")))) l7 (.lst ((List.replicate m (V.str "(") ++ [V.str t0.txt]) ++ List.replicate m (V.str ")")))) l7 = some (.lst ((List.replicate m (V.str "(") ++ [V.str t0.txt]) ++ List.replicate m (V.str ")"))) := upd_same
        have n7b : l7 ≠ b := fun z => by
          obtain ⟨ys, hy⟩ := B10.lst
          rw [z] at nl7
          rw [T56 _ _ (T14 _ _ hy)] at nl7
          cases nl7
        have T17 := T14.trans (T56.trans T7)
        have el : (List.replicate m (V.str "(") ++ [V.str t0.txt]) ++ List.replicate m (V.str ")") = (List.replicate m Tn.lp ++ (t0 :: List.replicate m Tn.rp)).map fun t => V.str t.txt := by
          rw [List.map_append, List.map_cons, List.map_replicate, List.map_replicate, List.append_assoc]
          rfl
        generalize upd (upd (upd G4 l5 (.lst [.str ")"])) l6 (.lst (List.replicate m (V.str ")")))) l7 (.lst ((List.replicate m (V.str "(") ++ [V.str t0.txt]) ++ List.replicate m (V.str ")"))) = G7 at T7 h7' T17
        rw [el] at h7'
        have hlen : (List.replicate m Tn.lp ++ (t0 :: List.replicate m Tn.rp)).length = m + (m + 1) := by rw [List.length_append, List.length_cons, List.length_replicate, List.length_replicate]
        refine ⟨b, l7, List.replicate m Tn.lp ++ (t0 :: List.replicate m Tn.rp), 100000, rfl, n7b, h7', fun t ht => ?_, by omega, (B10.same T17).less (by omega), fun s' ps H12 g1 g2 g3 g4 g5 B12 U12 => ?_⟩
        · rcases List.mem_append.mp ht with ht | ht
          · rw [List.eq_of_mem_replicate ht]; exact ⟨trivial, fun s z => by cases z⟩
          · rcases List.mem_cons.mp ht with rfl | ht
            · exact htok
            · rw [List.eq_of_mem_replicate ht]; exact ⟨trivial, fun s z => by cases z⟩
        have htk' : ∀ t ∈ List.replicate m Tn.lp ++ (t0 :: List.replicate m Tn.rp), TOk t := fun t ht => by
          rcases List.mem_append.mp ht with ht | ht
          · rw [List.eq_of_mem_replicate ht]; exact ⟨trivial, fun s z => by cases z⟩
          · rcases List.mem_cons.mp ht with rfl | ht
            · exact htok
            · rw [List.eq_of_mem_replicate ht]; exact ⟨trivial, fun s z => by cases z⟩
        have nn := Ex.nice6 f3
        have nn1 : e3.dat.depth ≤ 60 := Nat.le_trans nn.dep (by decide)
        have nn2 : e3.dat.shown.length ≤ sizeLine := Nat.le_trans nn.sz (by decide)
        have hpr : Pr 8 1 e3 (toks ps) := by
          rw [g2]
          exact ((Pr.brks ht0 m).mono hm9).to (by decide) (by decide) (by decide)
        have U712 : But b H10 H12 := (But.of T17).trans U12
        refine ⟨_, rfl, s', ps, e3, rfl, g1, g3, toks_mem g2 htk', g4, by omega, hpr, f3, fun v' H13 S13 tv' => ?_⟩
        obtain ⟨av', rfl⟩ := tv'.ref
        refine ⟨av', e3.dat, rfl, Ex.dp tv', nn.sh, nn.nd, nn1, nn2, ?_⟩
        have te12 : TrIn H13 e3 (.ref a3) := by
          obtain ⟨ysA, hysA⟩ := B10.lst
          exact (t3.but hysA U712).same S13
        refine ⟨_, rfl, a3, e3.dat, rfl, Ex.dp te12, nn.sh, nn.nd, nn1, nn2, rfl, _, rfl, ?_⟩
        rw [decide_eq_true rfl]
        refine iteF ?_
        have U813 : But b H8 H13 := U810.trans (U712.trans (But.of S13))
        have k3 := U813 _ _ nlsb h3
        obtain ⟨ys8, hys8⟩ := h7.lst
        have KT8 : ∀ c zs, H8 c = some (.tup zs) → H13 c = some (.tup zs) := fun c zs e => U813 _ _ (lst_ne e hys8) e
        refine ⟨ws, _, _, _, _, _, _, _, rfl, k3, by omega, fun u hu => (h5 u hu).keep KT8, fun c o e => ?_⟩
        by_cases ec : c = ls
        · rw [ec] at e; exact absurd e (by rw [nls]; intro z; cases z)
        · have e1 := sH _ _ e
          exact U813 _ _ (ne_of_none e1 nb) (h8 c o ec e1)
      · refine .inr ⟨s0, rfl, ?_⟩
        rw [← htx]
        refine ⟨(by show 1 ≤ sizeLine; decide), fun l3 nl3 => ?_⟩
        have T3 := same_new nl3 (.lst [V.str t0.txt])
        refine ⟨l2, l3, _, _, rfl, rfl, T3 _ _ h2', upd_same, by rw [List.length_replicate]; show m + 1 ≤ sizeLine; omega, fun l4 nl4 => ?_⟩
        have T4 := same_new nl4 (.lst (List.replicate m (V.str "(") ++ [V.str t0.txt]))
        have h4' : (upd (upd G2 l3 (.lst [V.str t0.txt])) l4 (.lst (List.replicate m (V.str "(") ++ [V.str t0.txt]))) l4 = some (.lst (List.replicate m (V.str "(") ++ [V.str t0.txt])) := upd_same
        have T14 := T12.trans (T3.trans T4)
        generalize upd (upd G2 l3 (.lst [V.str t0.txt])) l4 (.lst (List.replicate m (V.str "(") ++ [V.str t0.txt])) = G4 at T4 h4' T14
        refine ⟨(by show 1 ≤ sizeLine; decide), fun l5 nl5 => ?_⟩
        have T5 := same_new nl5 (.lst [.str ")"])
        refine ⟨_, rfl, l5, _, _, rfl, rfl, upd_same, by omega, by omega, (by show 1 * (1 + d3).toNat ≤ sizeLine; omega), fun l6 nl6 => ?_⟩
        rw [hm, rep_flat]
        have T6 := same_new nl6 (.lst (List.replicate m (V.str ")")))
        have T56 := T5.trans T6
        refine ⟨l4, l6, _, _, rfl, rfl, T56 _ _ h4', upd_same, by rw [List.length_append, List.length_replicate, List.length_replicate]; show m + 1 + m ≤ sizeLine; omega, fun l7 nl7 => ?_⟩
        have T7 := same_new nl7 (.lst ((List.replicate m (V.str "(") ++ [V.str t0.txt]) ++ List.replicate m (V.str ")")))
        have h7' : (upd (upd (upd G4 l5 (.lst [.str ")"])) l6 (.lst (List.replicate m (V.str ")")))) l7 (.lst ((List.replicate m (V.str "(") ++ [V.str t0.txt]) ++ List.replicate m (V.str ")")))) l7 = some (.lst ((List.replicate m (V.str "(") ++ [V.str t0.txt]) ++ List.replicate m (V.str ")"))) := upd_same
        have n7b : l7 ≠ b := fun z => by
          obtain ⟨ys, hy⟩ := B10.lst
          rw [z] at nl7
          rw [T56 _ _ (T14 _ _ hy)] at nl7
          cases nl7
        have T17 := T14.trans (T56.trans T7)
        have el : (List.replicate m (V.str "(") ++ [V.str t0.txt]) ++ List.replicate m (V.str ")") = (List.replicate m Tn.lp ++ (t0 :: List.replicate m Tn.rp)).map fun t => V.str t.txt := by
          rw [List.map_append, List.map_cons, List.map_replicate, List.map_replicate, List.append_assoc]
          rfl
        generalize upd (upd (upd G4 l5 (.lst [.str ")"])) l6 (.lst (List.replicate m (V.str ")")))) l7 (.lst ((List.replicate m (V.str "(") ++ [V.str t0.txt]) ++ List.replicate m (V.str ")"))) = G7 at T7 h7' T17
        rw [el] at h7'
        have hlen : (List.replicate m Tn.lp ++ (t0 :: List.replicate m Tn.rp)).length = m + (m + 1) := by rw [List.length_append, List.length_cons, List.length_replicate, List.length_replicate]
        refine ⟨b, l7, List.replicate m Tn.lp ++ (t0 :: List.replicate m Tn.rp), 100000, rfl, n7b, h7', fun t ht => ?_, by omega, (B10.same T17).less (by omega), fun s' ps H12 g1 g2 g3 g4 g5 B12 U12 => ?_⟩
        · rcases List.mem_append.mp ht with ht | ht
          · rw [List.eq_of_mem_replicate ht]; exact ⟨trivial, fun s z => by cases z⟩
          · rcases List.mem_cons.mp ht with rfl | ht
            · exact htok
            · rw [List.eq_of_mem_replicate ht]; exact ⟨trivial, fun s z => by cases z⟩
        have htk' : ∀ t ∈ List.replicate m Tn.lp ++ (t0 :: List.replicate m Tn.rp), TOk t := fun t ht => by
          rcases List.mem_append.mp ht with ht | ht
          · rw [List.eq_of_mem_replicate ht]; exact ⟨trivial, fun s z => by cases z⟩
          · rcases List.mem_cons.mp ht with rfl | ht
            · exact htok
            · rw [List.eq_of_mem_replicate ht]; exact ⟨trivial, fun s z => by cases z⟩
        have nn := Ex.nice6 f3
        have nn1 : e3.dat.depth ≤ 60 := Nat.le_trans nn.dep (by decide)
        have nn2 : e3.dat.shown.length ≤ sizeLine := Nat.le_trans nn.sz (by decide)
        have hpr : Pr 8 1 e3 (toks ps) := by
          rw [g2]
          exact ((Pr.brks ht0 m).mono hm9).to (by decide) (by decide) (by decide)
        have U712 : But b H10 H12 := (But.of T17).trans U12
        refine ⟨_, rfl, s', ps, e3, rfl, g1, g3, toks_mem g2 htk', g4, by omega, hpr, f3, fun v' H13 S13 tv' => ?_⟩
        obtain ⟨av', rfl⟩ := tv'.ref
        refine ⟨av', e3.dat, rfl, Ex.dp tv', nn.sh, nn.nd, nn1, nn2, ?_⟩
        have te12 : TrIn H13 e3 (.ref a3) := by
          obtain ⟨ysA, hysA⟩ := B10.lst
          exact (t3.but hysA U712).same S13
        refine ⟨_, rfl, a3, e3.dat, rfl, Ex.dp te12, nn.sh, nn.nd, nn1, nn2, rfl, _, rfl, ?_⟩
        rw [decide_eq_true rfl]
        refine iteF ?_
        have U813 : But b H8 H13 := U810.trans (U712.trans (But.of S13))
        have k3 := U813 _ _ nlsb h3
        obtain ⟨ys8, hys8⟩ := h7.lst
        have KT8 : ∀ c zs, H8 c = some (.tup zs) → H13 c = some (.tup zs) := fun c zs e => U813 _ _ (lst_ne e hys8) e
        refine ⟨ws, _, _, _, _, _, _, _, rfl, k3, by omega, fun u hu => (h5 u hu).keep KT8, fun c o e => ?_⟩
        by_cases ec : c = ls
        · rw [ec] at e; exact absurd e (by rw [nls]; intro z; cases z)
        · have e1 := sH _ _ e
          exact U813 _ _ (ne_of_none e1 nb) (h8 c o ec e1)
  · rintro σ H1 ⟨vs, y2, y3, y4, y5, y6, y7, y8, rfl, hls, hvl, hse, sH⟩
    refine ⟨_, rfl, ls, rfl, ⟨_, SqL.of hls⟩, ?_⟩
    intro D hD
    refine lc_list (K := K) (a := ls) (xs := vs) (fun j H' => H' D = some (.lst ((List.replicate j true).map V.bl)) ∧ Same H1 H') ⟨upd_same, same_new hD _⟩ (fun j H' _ h => SqL.of (h.2 _ _ hls)) ?_ ?_
    · rintro j v H2 hv ⟨hD2, s2⟩
      have hj : j < vs.length := (List.getElem?_eq_some_iff.mp hv).1
      obtain ⟨at', s', tv, e, rfl, ha, te, ps', q1, q2, q3, q4, q5, q6, fe⟩ := hse v (List.mem_of_getElem? hv)
      have nn := Ex.nice6 fe
      have nn1 : e.dat.depth ≤ 60 := Nat.le_trans nn.dep (by decide)
      have nn2 : e.dat.shown.length ≤ sizeLine := Nat.le_trans nn.sz (by decide)
      obtain ⟨av, rfl⟩ := te.ref
      refine ⟨at', _, rfl, SqT.of (s2 _ _ ha), rfl, _, _, rfl, _, _, rfl, rfl, rfl, ?_⟩
      refine ⟨_, rfl, s', ps', e, rfl, q1, q2, q3, q4, q5, q6, fe, fun v' H3 S3 tv' => ?_⟩
      obtain ⟨av', rfl⟩ := tv'.ref
      refine ⟨av', e.dat, rfl, Ex.dp tv', nn.sh, nn.nd, nn1, nn2, ?_⟩
      refine ⟨_, rfl, av, e.dat, rfl, Ex.dp ((te.same s2).same S3), nn.sh, nn.nd, nn1, nn2, rfl, ?_⟩
      refine ⟨_, S3 _ _ hD2, ?_, ?_, ?_⟩
      · rw [List.length_map, List.length_replicate]; omega
      · rw [upd_same, decide_eq_true rfl, List.replicate_succ', List.map_append]; rfl
      · intro x o z
        rw [upd_ne (ne_of_none z hD)]
        exact S3 _ _ (s2 _ _ z)
    · rintro H2 ⟨hD2, s2⟩
      refine ⟨D, _, rfl, SqL.of hD2, ?_⟩
      have : (List.replicate vs.length true).all id = true := by
        rw [List.all_eq_true]
        intro x hx
        exact (List.mem_replicate.mp hx).2
      rw [this]
      exact q H2
end
end SH

set_option Elab.async false
set_option linter.all false
set_option maxRecDepth 100000
namespace SH
open PySem L2
section
variable {K : PySem.W.Frag} {f : Addr} {fd : FuncData}
theorem isEx_dflt (F : FunD K "is_expression" "is_expression" (defArgs sIsEx) (defBody sIsEx) (defScope sIsEx) [.int 6] [] f fd) : (∃ ds, Vals [V.int 6] ds ∧ Binds K fd ["thing", "deepest"] ds) ∧ Binds K fd ["thing", "deepest"] [] := by
  have one := F.binds1 (ps := ["thing", "deepest"]) 1 0 (by simp) rfl fun T kV doc pm an cdv ct us its h1 h2 => match us, its, h1, h2 with | [_], [_], _, _ => ⟨_, rfl, rfl⟩
  obtain ⟨ds, v, b⟩ := F.binds1 (ps := ["thing", "deepest"]) 2 1 (by simp) rfl fun T kV doc pm an cdv ct us its h1 h2 => match us, its, h1, h2 with | [_, _], [_], _, _ => ⟨_, rfl, rfl⟩
  have e : ds = [] := by
    cases v
    rfl
  exact ⟨one, e ▸ b⟩
theorem tree_dflt (F : FunD K "read_tree" "read_tree" (defArgs sTreeR) (defBody sTreeR) (defScope sTreeR) [.int 0] [] f fd) : (∃ ds, Vals [V.int 0] ds ∧ Binds K fd ["line", "brackets"] ds) ∧ Binds K fd ["line", "brackets"] [] := by
  have one := F.binds1 (ps := ["line", "brackets"]) 1 0 (by simp) rfl fun T kV doc pm an cdv ct us its h1 h2 => match us, its, h1, h2 with | [_], [_], _, _ => ⟨_, rfl, rfl⟩
  obtain ⟨ds, v, b⟩ := F.binds1 (ps := ["line", "brackets"]) 2 1 (by simp) rfl fun T kV doc pm an cdv ct us its h1 h2 => match us, its, h1, h2 with | [_, _], [_], _, _ => ⟨_, rfl, rfl⟩
  have e : ds = [] := by
    cases v
    rfl
  exact ⟨one, e ▸ b⟩
end
/-- one who has one has two: the single value of a list of one -/
theorem vals_one {v : V} {ds : List Value} (h : Vals [v] ds) : ∃ d, ds = [d] := by
  cases h with
  | cons r t => cases t; exact ⟨_, rfl⟩
section
variable {P : Program} {w : World} {K : PySem.W.Frag} {mg : Str → Option Value} {base : Heap}
theorem descents {fT fB fS fP fM a1 a2 a3 a4 a5 a6 a7 C : Addr} {dT dB dS dP dM d1 d2 d3 d4 d5 d6 d7 : FuncData} {dvs : List V} (FT : FunD K "read_tree" "read_tree" (defArgs sTreeR) (defBody sTreeR) (defScope sTreeR) dvs [] fT dT) (mT : mg "read_tree" = some (.ref fT)) (bT : Binds K dT ["line", "brackets"] [])
    (FB : Fun K "read_bracketed" "read_bracketed" sBrack fB dB) (mB : mg "read_bracketed" = some (.ref fB)) (bB : Binds K dB ["line", "brackets"] []) (FS : Fun K "read_single" "read_single" sSingle fS dS) (mS : mg "read_single" = some (.ref fS)) (bS : Binds K dS ["line", "brackets"] [])
    (FP : Fun K "read_product" "read_product" sProd fP dP) (mP : mg "read_product" = some (.ref fP)) (bP : Binds K dP ["line", "brackets"] []) (FM : Fun K "read_sum" "read_sum" sSum fM dM) (mM : mg "read_sum" = some (.ref fM)) (bM : Binds K dM ["line", "brackets"] [])
    (LT : LineT K C) (PK : FkMm P w K mg base 1 C "peek" a1 d1 ["self"] (spPeek C)) (TA : FkMm P w K mg base 2 C "take" a2 d2 ["self"] (spTakeL C)) (SK : FkMm P w K mg base 3 C "skip" a3 d3 ["self", "wanted"] (spSkip C)) (IF : Fk P w K mg base 1 "is_figures" a4 d4 ["part"] spFigs)
    (RN : Fk P w K mg base 3 "read_number" a5 d5 ["line", "most"] (spRdNum C)) (RA : Fk P w K mg base 3 "read_name" a6 d6 ["line"] (spRdName C)) (OP : Fk P w K mg base 10 "operation" a7 d7 ["line", "sign", "left", "right"] spOper) (G : Gf K mg) (J : Gp K mg) :
    ∀ n : Nat, FnOk P w K mg base CX0 (11 + 5 * n) fB dB ["line", "brackets"] (spBr C n) ∧ FnOk P w K mg base CX0 (15 + 5 * n) fT dT ["line", "brackets"] (spRd C 1 n) := by
  have tree : ∀ n : Nat, FnOk P w K mg base CX0 (11 + 5 * n) fB dB ["line", "brackets"] (spBr C n) → FnOk P w K mg base CX0 (15 + 5 * n) fT dT ["line", "brackets"] (spRd C 1 n) := fun n h =>
    ok_treeR (xqual := "") FT LT PK TA ⟨ok_sum FM LT PK TA ⟨ok_prod FP LT PK TA ⟨ok_single FS LT PK ⟨h, mB, FB.kp, bB⟩ IF RN RA G, mS, FS.kp, bS⟩ OP, mP, FP.kp, bP⟩ OP, mM, FM.kp, bM⟩ OP
  intro n
  induction n with
  | zero => exact ⟨brack_none, tree 0 brack_none⟩
  | succ n ih =>
    have h := ok_brack (vd := .none) FB LT SK ⟨ih.2, mT, FT.kp, bT⟩ J
    exact ⟨h, tree (n + 1) h⟩
theorem bracks {fK fW a1 a2 : Addr} {dK dW d1 d2 : FuncData} (FK : Fun K "_law_bracketed" "_law_bracketed" sBrk fK dK) (mK : mg "_law_bracketed" = some (.ref fK)) (bK : Binds K dK ["_law_bag_here", "_law_tree_here", "_law_nested"] []) (FW : Fun K "_law_within" "_law_within" sWn fW dW) (mW : mg "_law_within" = some (.ref fW)) (bW : Binds K dW ["_law_bag_here", "_law_tree_here", "_law_nested", "_law_wanted"] [])
    (TX : Fk P w K mg base 6 "_law_text" a1 d1 ["_law_tree_here"] (spText 6)) (TK : Fk P w K mg base 1 "_law_take" a2 d2 ["_law_bag_here", "_law_many"] spTake) (T : Bi mg) : ∀ n : Nat, FnOk P w K mg base CX0 (8 + 2 * n) fK dK ["_law_bag_here", "_law_tree_here", "_law_nested"] (spBrk n)
  | 0 => brk_none
  | n + 1 => ok_brk FK ⟨ok_wn FW ⟨bracks FK mK bK FW mW bW TX TK T n, mK, FK.kp, bK⟩, mW, FW.kp, bW⟩ TX TK T
end
end SH

set_option Elab.async false
set_option linter.all false
set_option maxRecDepth 100000
namespace SH
open PySem L2
set_option maxHeartbeats 8000000
theorem all_mk {l : PySem.W.OpenLaw} {w : World} {K : PySem.W.Frag} {h : Heap} {mg : Str → Option Value} {fa f_is_tuple_of f_is_whole f_is_whole_within f_is_name f_is_expression f_is_leaf f_parts_of f_part_at f_run_at f_is_part f_is_figures f_Line___init__ f_Line_peek f_Line_take f_Line_skip f_read_expression f_read_tree f_read_sum f_read_product f_operation f_read_single f_read_bracketed f_read_number f_read_name f_Lbag f_Ltake f_Lkept f_Lnames f_Lnumber f_Ltree f_Ltext f_Lkind f_Lbracketed f_Lwithin f_Lblanked f_law : Addr} (X : K.In h) (G : h.Ns mainGlobals mg) (hfa : mg "law" = some (.ref fa))
    {od_is_tuple_of od_is_whole od_is_whole_within od_is_name od_is_expression od_is_leaf od_parts_of od_part_at od_run_at od_is_part od_is_figures od_Line___init__ od_Line_peek od_Line_take od_Line_skip od_read_expression od_read_tree od_read_sum od_read_product od_operation od_read_single od_read_bracketed od_read_number od_read_name od_Lbag od_Ltake od_Lkept od_Lnames od_Lnumber od_Ltree od_Ltext od_Lkind od_Lbracketed od_Lwithin od_Lblanked od_law an_is_tuple_of an_is_whole an_is_whole_within an_is_name an_is_expression an_is_leaf an_parts_of an_part_at an_run_at an_is_part an_is_figures an_Line___init__ an_Line_peek an_Line_take an_Line_skip an_read_expression an_read_tree an_read_sum an_read_product an_operation an_read_single an_read_bracketed an_read_number an_read_name an_Lbag an_Ltake an_Lkept an_Lnames an_Lnumber an_Ltree an_Ltext an_Lkind an_Lbracketed an_Lwithin an_Lblanked an_law : Option Addr} {sl_is_tuple_of sl_is_whole sl_is_whole_within sl_is_name sl_is_expression sl_is_leaf sl_parts_of sl_part_at sl_run_at sl_is_part sl_is_figures sl_Line___init__ sl_Line_peek sl_Line_take sl_Line_skip sl_read_expression sl_read_tree sl_read_sum sl_read_product sl_operation sl_read_single sl_read_bracketed sl_read_number sl_read_name sl_Lbag sl_Ltake sl_Lkept sl_Lnames sl_Lnumber sl_Ltree sl_Ltext sl_Lkind sl_Lbracketed sl_Lwithin sl_Lblanked sl_law : Array (Option Value)} {oc_is_tuple_of oc_is_whole oc_is_whole_within oc_is_name oc_is_expression oc_is_leaf oc_parts_of oc_part_at oc_run_at oc_is_part oc_is_figures oc_Line___init__ oc_Line_peek oc_Line_take oc_Line_skip oc_read_expression oc_read_tree oc_read_sum oc_read_product oc_operation oc_read_single oc_read_bracketed oc_read_number oc_read_name oc_Lbag oc_Ltake oc_Lkept oc_Lnames oc_Lnumber oc_Ltree oc_Ltext oc_Lkind oc_Lbracketed oc_Lwithin oc_Lblanked oc_law kV_is_tuple_of kV_is_whole kV_is_whole_within kV_is_name kV_is_expression kV_is_leaf kV_parts_of kV_part_at kV_run_at kV_is_part kV_is_figures kV_Line___init__ kV_Line_peek kV_Line_take kV_Line_skip kV_read_expression kV_read_tree kV_read_sum kV_read_product kV_operation kV_read_single kV_read_bracketed kV_read_number kV_read_name kV_Lbag kV_Ltake kV_Lkept kV_Lnames kV_Lnumber kV_Ltree kV_Ltext kV_Lkind kV_Lbracketed kV_Lwithin kV_Lblanked kV_law dc_is_tuple_of dc_is_whole dc_is_whole_within dc_is_name dc_is_expression dc_is_leaf dc_parts_of dc_part_at dc_run_at dc_is_part dc_is_figures dc_Line___init__ dc_Line_peek dc_Line_take dc_Line_skip dc_read_expression dc_read_tree dc_read_sum dc_read_product dc_operation dc_read_single dc_read_bracketed dc_read_number dc_read_name dc_Lbag dc_Ltake dc_Lkept dc_Lnames dc_Lnumber dc_Ltree dc_Ltext dc_Lkind dc_Lbracketed dc_Lwithin dc_Lblanked dc_law pm_is_tuple_of pm_is_whole pm_is_whole_within pm_is_name pm_is_expression pm_is_leaf pm_parts_of pm_part_at pm_run_at pm_is_part pm_is_figures pm_Line___init__ pm_Line_peek pm_Line_take pm_Line_skip pm_read_expression pm_read_tree pm_read_sum pm_read_product pm_operation pm_read_single pm_read_bracketed pm_read_number pm_read_name pm_Lbag pm_Ltake pm_Lkept pm_Lnames pm_Lnumber pm_Ltree pm_Ltext pm_Lkind pm_Lbracketed pm_Lwithin pm_Lblanked pm_law cd_is_tuple_of cd_is_whole cd_is_whole_within cd_is_name cd_is_expression cd_is_leaf cd_parts_of cd_part_at cd_run_at cd_is_part cd_is_figures cd_Line___init__ cd_Line_peek cd_Line_take cd_Line_skip cd_read_expression cd_read_tree cd_read_sum cd_read_product cd_operation cd_read_single cd_read_bracketed cd_read_number cd_read_name cd_Lbag cd_Ltake cd_Lkept cd_Lnames cd_Lnumber cd_Ltree cd_Ltext cd_Lkind cd_Lbracketed cd_Lwithin cd_Lblanked cd_law ct_is_tuple_of ct_is_whole ct_is_whole_within ct_is_name ct_is_expression ct_is_leaf ct_parts_of ct_part_at ct_run_at ct_is_part ct_is_figures ct_Line___init__ ct_Line_peek ct_Line_take ct_Line_skip ct_read_expression ct_read_tree ct_read_sum ct_read_product ct_operation ct_read_single ct_read_bracketed ct_read_number ct_read_name ct_Lbag ct_Ltake ct_Lkept ct_Lnames ct_Lnumber ct_Ltree ct_Ltext ct_Lkind ct_Lbracketed ct_Lwithin ct_Lblanked ct_law : Value}
    {TD : Addr} {oTD : Obj} {iTD : List Value} {nTD : Nat}
    {TD2 : Addr} {oTD2 : Obj} {iTD2 : List Value} {nTD2 : Nat}
    {C_Line : Addr} (aC_Line : PySem.W.nsIn K mainGlobals "Line" = some (some (.ref C_Line)))
    (a_is_tuple_of : PySem.W.nsIn K mainGlobals "is_tuple_of" = some (some (.ref f_is_tuple_of))) (l_is_tuple_of : K.lookup f_is_tuple_of = some ⟨oc_is_tuple_of, od_is_tuple_of, .func (PySem.W.fnOf "is_tuple_of" "is_tuple_of" (defArgs sTupOf) (defBody sTupOf) (defScope sTupOf) .none kV_is_tuple_of dc_is_tuple_of pm_is_tuple_of an_is_tuple_of cd_is_tuple_of ct_is_tuple_of), sl_is_tuple_of⟩) (c_is_tuple_of : PySem.W.codeIn K cd_is_tuple_of "is_tuple_of" = true) (k_is_tuple_of : PySem.W.keepIn K (.ref f_is_tuple_of) = true)
    (a_is_whole : PySem.W.nsIn K mainGlobals "is_whole" = some (some (.ref f_is_whole))) (l_is_whole : K.lookup f_is_whole = some ⟨oc_is_whole, od_is_whole, .func (PySem.W.fnOf "is_whole" "is_whole" (defArgs sWhole) (defBody sWhole) (defScope sWhole) .none kV_is_whole dc_is_whole pm_is_whole an_is_whole cd_is_whole ct_is_whole), sl_is_whole⟩) (c_is_whole : PySem.W.codeIn K cd_is_whole "is_whole" = true) (k_is_whole : PySem.W.keepIn K (.ref f_is_whole) = true)
    (a_is_whole_within : PySem.W.nsIn K mainGlobals "is_whole_within" = some (some (.ref f_is_whole_within))) (l_is_whole_within : K.lookup f_is_whole_within = some ⟨oc_is_whole_within, od_is_whole_within, .func (PySem.W.fnOf "is_whole_within" "is_whole_within" (defArgs sWithin) (defBody sWithin) (defScope sWithin) .none kV_is_whole_within dc_is_whole_within pm_is_whole_within an_is_whole_within cd_is_whole_within ct_is_whole_within), sl_is_whole_within⟩) (c_is_whole_within : PySem.W.codeIn K cd_is_whole_within "is_whole_within" = true) (k_is_whole_within : PySem.W.keepIn K (.ref f_is_whole_within) = true)
    (a_is_name : PySem.W.nsIn K mainGlobals "is_name" = some (some (.ref f_is_name))) (l_is_name : K.lookup f_is_name = some ⟨oc_is_name, od_is_name, .func (PySem.W.fnOf "is_name" "is_name" (defArgs sIsName) (defBody sIsName) (defScope sIsName) .none kV_is_name dc_is_name pm_is_name an_is_name cd_is_name ct_is_name), sl_is_name⟩) (c_is_name : PySem.W.codeIn K cd_is_name "is_name" = true) (k_is_name : PySem.W.keepIn K (.ref f_is_name) = true)
    (a_is_expression : PySem.W.nsIn K mainGlobals "is_expression" = some (some (.ref f_is_expression))) (l_is_expression : K.lookup f_is_expression = some ⟨oc_is_expression, od_is_expression, .func (PySem.W.fnOf "is_expression" "is_expression" (defArgs sIsEx) (defBody sIsEx) (defScope sIsEx) (.ref TD) kV_is_expression dc_is_expression pm_is_expression an_is_expression cd_is_expression ct_is_expression), sl_is_expression⟩) (c_is_expression : PySem.W.codeIn K cd_is_expression "is_expression" = true) (k_is_expression : PySem.W.keepIn K (.ref f_is_expression) = true)
    (a_is_leaf : PySem.W.nsIn K mainGlobals "is_leaf" = some (some (.ref f_is_leaf))) (l_is_leaf : K.lookup f_is_leaf = some ⟨oc_is_leaf, od_is_leaf, .func (PySem.W.fnOf "is_leaf" "is_leaf" (defArgs sLeaf) (defBody sLeaf) (defScope sLeaf) .none kV_is_leaf dc_is_leaf pm_is_leaf an_is_leaf cd_is_leaf ct_is_leaf), sl_is_leaf⟩) (c_is_leaf : PySem.W.codeIn K cd_is_leaf "is_leaf" = true) (k_is_leaf : PySem.W.keepIn K (.ref f_is_leaf) = true)
    (a_parts_of : PySem.W.nsIn K mainGlobals "parts_of" = some (some (.ref f_parts_of))) (l_parts_of : K.lookup f_parts_of = some ⟨oc_parts_of, od_parts_of, .func (PySem.W.fnOf "parts_of" "parts_of" (defArgs sPartsOf) (defBody sPartsOf) (defScope sPartsOf) .none kV_parts_of dc_parts_of pm_parts_of an_parts_of cd_parts_of ct_parts_of), sl_parts_of⟩) (c_parts_of : PySem.W.codeIn K cd_parts_of "parts_of" = true) (k_parts_of : PySem.W.keepIn K (.ref f_parts_of) = true)
    (a_part_at : PySem.W.nsIn K mainGlobals "part_at" = some (some (.ref f_part_at))) (l_part_at : K.lookup f_part_at = some ⟨oc_part_at, od_part_at, .func (PySem.W.fnOf "part_at" "part_at" (defArgs sPartAt) (defBody sPartAt) (defScope sPartAt) .none kV_part_at dc_part_at pm_part_at an_part_at cd_part_at ct_part_at), sl_part_at⟩) (c_part_at : PySem.W.codeIn K cd_part_at "part_at" = true) (k_part_at : PySem.W.keepIn K (.ref f_part_at) = true)
    (a_run_at : PySem.W.nsIn K mainGlobals "run_at" = some (some (.ref f_run_at))) (l_run_at : K.lookup f_run_at = some ⟨oc_run_at, od_run_at, .func (PySem.W.fnOf "run_at" "run_at" (defArgs sRunAt) (defBody sRunAt) (defScope sRunAt) .none kV_run_at dc_run_at pm_run_at an_run_at cd_run_at ct_run_at), sl_run_at⟩) (c_run_at : PySem.W.codeIn K cd_run_at "run_at" = true) (k_run_at : PySem.W.keepIn K (.ref f_run_at) = true)
    (a_is_part : PySem.W.nsIn K mainGlobals "is_part" = some (some (.ref f_is_part))) (l_is_part : K.lookup f_is_part = some ⟨oc_is_part, od_is_part, .func (PySem.W.fnOf "is_part" "is_part" (defArgs sIsPart) (defBody sIsPart) (defScope sIsPart) .none kV_is_part dc_is_part pm_is_part an_is_part cd_is_part ct_is_part), sl_is_part⟩) (c_is_part : PySem.W.codeIn K cd_is_part "is_part" = true) (k_is_part : PySem.W.keepIn K (.ref f_is_part) = true)
    (a_is_figures : PySem.W.nsIn K mainGlobals "is_figures" = some (some (.ref f_is_figures))) (l_is_figures : K.lookup f_is_figures = some ⟨oc_is_figures, od_is_figures, .func (PySem.W.fnOf "is_figures" "is_figures" (defArgs sFigs) (defBody sFigs) (defScope sFigs) .none kV_is_figures dc_is_figures pm_is_figures an_is_figures cd_is_figures ct_is_figures), sl_is_figures⟩) (c_is_figures : PySem.W.codeIn K cd_is_figures "is_figures" = true) (k_is_figures : PySem.W.keepIn K (.ref f_is_figures) = true)
    (a_Line___init__ : PySem.W.findIn K (.ref C_Line) "__init__" = some (some (.ref f_Line___init__))) (l_Line___init__ : K.lookup f_Line___init__ = some ⟨oc_Line___init__, od_Line___init__, .func (PySem.W.fnOf "__init__" "Line.__init__" (defArgs sLineInit) (defBody sLineInit) (defScope sLineInit) .none kV_Line___init__ dc_Line___init__ pm_Line___init__ an_Line___init__ cd_Line___init__ ct_Line___init__), sl_Line___init__⟩) (c_Line___init__ : PySem.W.codeIn K cd_Line___init__ "Line.__init__" = true) (k_Line___init__ : PySem.W.keepIn K (.ref f_Line___init__) = true)
    (i_Line___init__ : PySem.W.isFn K (.ref f_Line___init__) = true)
    (a_Line_peek : PySem.W.findIn K (.ref C_Line) "peek" = some (some (.ref f_Line_peek))) (l_Line_peek : K.lookup f_Line_peek = some ⟨oc_Line_peek, od_Line_peek, .func (PySem.W.fnOf "peek" "Line.peek" (defArgs sPeek) (defBody sPeek) (defScope sPeek) .none kV_Line_peek dc_Line_peek pm_Line_peek an_Line_peek cd_Line_peek ct_Line_peek), sl_Line_peek⟩) (c_Line_peek : PySem.W.codeIn K cd_Line_peek "Line.peek" = true) (k_Line_peek : PySem.W.keepIn K (.ref f_Line_peek) = true)
    (i_Line_peek : PySem.W.isFn K (.ref f_Line_peek) = true)
    (a_Line_take : PySem.W.findIn K (.ref C_Line) "take" = some (some (.ref f_Line_take))) (l_Line_take : K.lookup f_Line_take = some ⟨oc_Line_take, od_Line_take, .func (PySem.W.fnOf "take" "Line.take" (defArgs sTakeL) (defBody sTakeL) (defScope sTakeL) .none kV_Line_take dc_Line_take pm_Line_take an_Line_take cd_Line_take ct_Line_take), sl_Line_take⟩) (c_Line_take : PySem.W.codeIn K cd_Line_take "Line.take" = true) (k_Line_take : PySem.W.keepIn K (.ref f_Line_take) = true)
    (i_Line_take : PySem.W.isFn K (.ref f_Line_take) = true)
    (a_Line_skip : PySem.W.findIn K (.ref C_Line) "skip" = some (some (.ref f_Line_skip))) (l_Line_skip : K.lookup f_Line_skip = some ⟨oc_Line_skip, od_Line_skip, .func (PySem.W.fnOf "skip" "Line.skip" (defArgs sSkip) (defBody sSkip) (defScope sSkip) .none kV_Line_skip dc_Line_skip pm_Line_skip an_Line_skip cd_Line_skip ct_Line_skip), sl_Line_skip⟩) (c_Line_skip : PySem.W.codeIn K cd_Line_skip "Line.skip" = true) (k_Line_skip : PySem.W.keepIn K (.ref f_Line_skip) = true)
    (i_Line_skip : PySem.W.isFn K (.ref f_Line_skip) = true)
    (a_read_expression : PySem.W.nsIn K mainGlobals "read_expression" = some (some (.ref f_read_expression))) (l_read_expression : K.lookup f_read_expression = some ⟨oc_read_expression, od_read_expression, .func (PySem.W.fnOf "read_expression" "read_expression" (defArgs sExprR) (defBody sExprR) (defScope sExprR) .none kV_read_expression dc_read_expression pm_read_expression an_read_expression cd_read_expression ct_read_expression), sl_read_expression⟩) (c_read_expression : PySem.W.codeIn K cd_read_expression "read_expression" = true) (k_read_expression : PySem.W.keepIn K (.ref f_read_expression) = true)
    (a_read_tree : PySem.W.nsIn K mainGlobals "read_tree" = some (some (.ref f_read_tree))) (l_read_tree : K.lookup f_read_tree = some ⟨oc_read_tree, od_read_tree, .func (PySem.W.fnOf "read_tree" "read_tree" (defArgs sTreeR) (defBody sTreeR) (defScope sTreeR) (.ref TD2) kV_read_tree dc_read_tree pm_read_tree an_read_tree cd_read_tree ct_read_tree), sl_read_tree⟩) (c_read_tree : PySem.W.codeIn K cd_read_tree "read_tree" = true) (k_read_tree : PySem.W.keepIn K (.ref f_read_tree) = true)
    (a_read_sum : PySem.W.nsIn K mainGlobals "read_sum" = some (some (.ref f_read_sum))) (l_read_sum : K.lookup f_read_sum = some ⟨oc_read_sum, od_read_sum, .func (PySem.W.fnOf "read_sum" "read_sum" (defArgs sSum) (defBody sSum) (defScope sSum) .none kV_read_sum dc_read_sum pm_read_sum an_read_sum cd_read_sum ct_read_sum), sl_read_sum⟩) (c_read_sum : PySem.W.codeIn K cd_read_sum "read_sum" = true) (k_read_sum : PySem.W.keepIn K (.ref f_read_sum) = true)
    (a_read_product : PySem.W.nsIn K mainGlobals "read_product" = some (some (.ref f_read_product))) (l_read_product : K.lookup f_read_product = some ⟨oc_read_product, od_read_product, .func (PySem.W.fnOf "read_product" "read_product" (defArgs sProd) (defBody sProd) (defScope sProd) .none kV_read_product dc_read_product pm_read_product an_read_product cd_read_product ct_read_product), sl_read_product⟩) (c_read_product : PySem.W.codeIn K cd_read_product "read_product" = true) (k_read_product : PySem.W.keepIn K (.ref f_read_product) = true)
    (a_operation : PySem.W.nsIn K mainGlobals "operation" = some (some (.ref f_operation))) (l_operation : K.lookup f_operation = some ⟨oc_operation, od_operation, .func (PySem.W.fnOf "operation" "operation" (defArgs sOper) (defBody sOper) (defScope sOper) .none kV_operation dc_operation pm_operation an_operation cd_operation ct_operation), sl_operation⟩) (c_operation : PySem.W.codeIn K cd_operation "operation" = true) (k_operation : PySem.W.keepIn K (.ref f_operation) = true)
    (a_read_single : PySem.W.nsIn K mainGlobals "read_single" = some (some (.ref f_read_single))) (l_read_single : K.lookup f_read_single = some ⟨oc_read_single, od_read_single, .func (PySem.W.fnOf "read_single" "read_single" (defArgs sSingle) (defBody sSingle) (defScope sSingle) .none kV_read_single dc_read_single pm_read_single an_read_single cd_read_single ct_read_single), sl_read_single⟩) (c_read_single : PySem.W.codeIn K cd_read_single "read_single" = true) (k_read_single : PySem.W.keepIn K (.ref f_read_single) = true)
    (a_read_bracketed : PySem.W.nsIn K mainGlobals "read_bracketed" = some (some (.ref f_read_bracketed))) (l_read_bracketed : K.lookup f_read_bracketed = some ⟨oc_read_bracketed, od_read_bracketed, .func (PySem.W.fnOf "read_bracketed" "read_bracketed" (defArgs sBrack) (defBody sBrack) (defScope sBrack) .none kV_read_bracketed dc_read_bracketed pm_read_bracketed an_read_bracketed cd_read_bracketed ct_read_bracketed), sl_read_bracketed⟩) (c_read_bracketed : PySem.W.codeIn K cd_read_bracketed "read_bracketed" = true) (k_read_bracketed : PySem.W.keepIn K (.ref f_read_bracketed) = true)
    (a_read_number : PySem.W.nsIn K mainGlobals "read_number" = some (some (.ref f_read_number))) (l_read_number : K.lookup f_read_number = some ⟨oc_read_number, od_read_number, .func (PySem.W.fnOf "read_number" "read_number" (defArgs sRdNum) (defBody sRdNum) (defScope sRdNum) .none kV_read_number dc_read_number pm_read_number an_read_number cd_read_number ct_read_number), sl_read_number⟩) (c_read_number : PySem.W.codeIn K cd_read_number "read_number" = true) (k_read_number : PySem.W.keepIn K (.ref f_read_number) = true)
    (a_read_name : PySem.W.nsIn K mainGlobals "read_name" = some (some (.ref f_read_name))) (l_read_name : K.lookup f_read_name = some ⟨oc_read_name, od_read_name, .func (PySem.W.fnOf "read_name" "read_name" (defArgs sRdName) (defBody sRdName) (defScope sRdName) .none kV_read_name dc_read_name pm_read_name an_read_name cd_read_name ct_read_name), sl_read_name⟩) (c_read_name : PySem.W.codeIn K cd_read_name "read_name" = true) (k_read_name : PySem.W.keepIn K (.ref f_read_name) = true)
    (a_Lbag : PySem.W.nsIn K mainGlobals "_law_bag" = some (some (.ref f_Lbag))) (l_Lbag : K.lookup f_Lbag = some ⟨oc_Lbag, od_Lbag, .func (PySem.W.fnOf "_law_bag" "_law_bag" (defArgs sBag) (defBody sBag) (defScope sBag) .none kV_Lbag dc_Lbag pm_Lbag an_Lbag cd_Lbag ct_Lbag), sl_Lbag⟩) (c_Lbag : PySem.W.codeIn K cd_Lbag "_law_bag" = true) (k_Lbag : PySem.W.keepIn K (.ref f_Lbag) = true)
    (a_Ltake : PySem.W.nsIn K mainGlobals "_law_take" = some (some (.ref f_Ltake))) (l_Ltake : K.lookup f_Ltake = some ⟨oc_Ltake, od_Ltake, .func (PySem.W.fnOf "_law_take" "_law_take" (defArgs sTake) (defBody sTake) (defScope sTake) .none kV_Ltake dc_Ltake pm_Ltake an_Ltake cd_Ltake ct_Ltake), sl_Ltake⟩) (c_Ltake : PySem.W.codeIn K cd_Ltake "_law_take" = true) (k_Ltake : PySem.W.keepIn K (.ref f_Ltake) = true)
    (a_Lkept : PySem.W.nsIn K mainGlobals "_law_kept" = some (some (.ref f_Lkept))) (l_Lkept : K.lookup f_Lkept = some ⟨oc_Lkept, od_Lkept, .func (PySem.W.fnOf "_law_kept" "_law_kept" (defArgs sKept) (defBody sKept) (defScope sKept) .none kV_Lkept dc_Lkept pm_Lkept an_Lkept cd_Lkept ct_Lkept), sl_Lkept⟩) (c_Lkept : PySem.W.codeIn K cd_Lkept "_law_kept" = true) (k_Lkept : PySem.W.keepIn K (.ref f_Lkept) = true)
    (a_Lnames : PySem.W.nsIn K mainGlobals "_law_names" = some (some (.ref f_Lnames))) (l_Lnames : K.lookup f_Lnames = some ⟨oc_Lnames, od_Lnames, .func (PySem.W.fnOf "_law_names" "_law_names" (defArgs sNames) (defBody sNames) (defScope sNames) .none kV_Lnames dc_Lnames pm_Lnames an_Lnames cd_Lnames ct_Lnames), sl_Lnames⟩) (c_Lnames : PySem.W.codeIn K cd_Lnames "_law_names" = true) (k_Lnames : PySem.W.keepIn K (.ref f_Lnames) = true)
    (a_Lnumber : PySem.W.nsIn K mainGlobals "_law_number" = some (some (.ref f_Lnumber))) (l_Lnumber : K.lookup f_Lnumber = some ⟨oc_Lnumber, od_Lnumber, .func (PySem.W.fnOf "_law_number" "_law_number" (defArgs sNumber) (defBody sNumber) (defScope sNumber) .none kV_Lnumber dc_Lnumber pm_Lnumber an_Lnumber cd_Lnumber ct_Lnumber), sl_Lnumber⟩) (c_Lnumber : PySem.W.codeIn K cd_Lnumber "_law_number" = true) (k_Lnumber : PySem.W.keepIn K (.ref f_Lnumber) = true)
    (a_Ltree : PySem.W.nsIn K mainGlobals "_law_tree" = some (some (.ref f_Ltree))) (l_Ltree : K.lookup f_Ltree = some ⟨oc_Ltree, od_Ltree, .func (PySem.W.fnOf "_law_tree" "_law_tree" (defArgs sTree) (defBody sTree) (defScope sTree) .none kV_Ltree dc_Ltree pm_Ltree an_Ltree cd_Ltree ct_Ltree), sl_Ltree⟩) (c_Ltree : PySem.W.codeIn K cd_Ltree "_law_tree" = true) (k_Ltree : PySem.W.keepIn K (.ref f_Ltree) = true)
    (a_Ltext : PySem.W.nsIn K mainGlobals "_law_text" = some (some (.ref f_Ltext))) (l_Ltext : K.lookup f_Ltext = some ⟨oc_Ltext, od_Ltext, .func (PySem.W.fnOf "_law_text" "_law_text" (defArgs sText) (defBody sText) (defScope sText) .none kV_Ltext dc_Ltext pm_Ltext an_Ltext cd_Ltext ct_Ltext), sl_Ltext⟩) (c_Ltext : PySem.W.codeIn K cd_Ltext "_law_text" = true) (k_Ltext : PySem.W.keepIn K (.ref f_Ltext) = true)
    (a_Lkind : PySem.W.nsIn K mainGlobals "_law_kind" = some (some (.ref f_Lkind))) (l_Lkind : K.lookup f_Lkind = some ⟨oc_Lkind, od_Lkind, .func (PySem.W.fnOf "_law_kind" "_law_kind" (defArgs sKind) (defBody sKind) (defScope sKind) .none kV_Lkind dc_Lkind pm_Lkind an_Lkind cd_Lkind ct_Lkind), sl_Lkind⟩) (c_Lkind : PySem.W.codeIn K cd_Lkind "_law_kind" = true) (k_Lkind : PySem.W.keepIn K (.ref f_Lkind) = true)
    (a_Lbracketed : PySem.W.nsIn K mainGlobals "_law_bracketed" = some (some (.ref f_Lbracketed))) (l_Lbracketed : K.lookup f_Lbracketed = some ⟨oc_Lbracketed, od_Lbracketed, .func (PySem.W.fnOf "_law_bracketed" "_law_bracketed" (defArgs sBrk) (defBody sBrk) (defScope sBrk) .none kV_Lbracketed dc_Lbracketed pm_Lbracketed an_Lbracketed cd_Lbracketed ct_Lbracketed), sl_Lbracketed⟩) (c_Lbracketed : PySem.W.codeIn K cd_Lbracketed "_law_bracketed" = true) (k_Lbracketed : PySem.W.keepIn K (.ref f_Lbracketed) = true)
    (a_Lwithin : PySem.W.nsIn K mainGlobals "_law_within" = some (some (.ref f_Lwithin))) (l_Lwithin : K.lookup f_Lwithin = some ⟨oc_Lwithin, od_Lwithin, .func (PySem.W.fnOf "_law_within" "_law_within" (defArgs sWn) (defBody sWn) (defScope sWn) .none kV_Lwithin dc_Lwithin pm_Lwithin an_Lwithin cd_Lwithin ct_Lwithin), sl_Lwithin⟩) (c_Lwithin : PySem.W.codeIn K cd_Lwithin "_law_within" = true) (k_Lwithin : PySem.W.keepIn K (.ref f_Lwithin) = true)
    (a_Lblanked : PySem.W.nsIn K mainGlobals "_law_blanked" = some (some (.ref f_Lblanked))) (l_Lblanked : K.lookup f_Lblanked = some ⟨oc_Lblanked, od_Lblanked, .func (PySem.W.fnOf "_law_blanked" "_law_blanked" (defArgs sBlk) (defBody sBlk) (defScope sBlk) .none kV_Lblanked dc_Lblanked pm_Lblanked an_Lblanked cd_Lblanked ct_Lblanked), sl_Lblanked⟩) (c_Lblanked : PySem.W.codeIn K cd_Lblanked "_law_blanked" = true) (k_Lblanked : PySem.W.keepIn K (.ref f_Lblanked) = true)
    (a_law : PySem.W.nsIn K mainGlobals "law" = some (some (.ref f_law))) (l_law : K.lookup f_law = some ⟨oc_law, od_law, .func (PySem.W.fnOf "law" "law" (defArgs sLaw) (defBody sLaw) (defScope sLaw) .none kV_law dc_law pm_law an_law cd_law ct_law), sl_law⟩) (c_law : PySem.W.codeIn K cd_law "law" = true) (k_law : PySem.W.keepIn K (.ref f_law) = true)
    (z_len : PySem.W.nsIn K mainGlobals "len" = some none)
    (z_abs : PySem.W.nsIn K mainGlobals "abs" = some none)
    (z_int : PySem.W.nsIn K mainGlobals "int" = some none)
    (z_str : PySem.W.nsIn K mainGlobals "str" = some none)
    (z_range : PySem.W.nsIn K mainGlobals "range" = some none)
    (z_max : PySem.W.nsIn K mainGlobals "max" = some none)
    (z_min : PySem.W.nsIn K mainGlobals "min" = some none)
    (z_isinstance : PySem.W.nsIn K mainGlobals "isinstance" = some none)
    (z_all : PySem.W.nsIn K mainGlobals "all" = some none)
    (z_tuple : PySem.W.nsIn K mainGlobals "tuple" = some none)
    (z_bool : PySem.W.nsIn K mainGlobals "bool" = some none)
    (z_repr : PySem.W.nsIn K mainGlobals "repr" = some none)
    (pg_Line : PySem.W.plainGet K C_Line Str.empty = true) (hd_Line : PySem.W.hasDictIn K C_Line = true) (po_Line : PySem.W.plainOver K C_Line = true) (sa_Line : PySem.W.findIn K (.ref C_Line) "__setattr__" = some (some (.builtin "object.__setattr__"))) (mk_Line : PySem.W.makesIn K C_Line = true) (kc_Line : PySem.W.keepIn K (.ref C_Line) = true) (na_parts_Line : PySem.W.findIn K (.ref C_Line) "parts" = some none) (na_row_Line : PySem.W.findIn K (.ref C_Line) "row" = some none) (na_place_Line : PySem.W.findIn K (.ref C_Line) "place" = some none)
    {tLt tFg tNp : Tok} (gLt : PySem.W.nsIn K mainGlobals "LETTERS" = some (some (.str "abcdefghijklmnopqrstuvwxyz" tLt))) (gFg : PySem.W.nsIn K mainGlobals "FIGURES" = some (some (.str "0123456789" tFg))) (gNp : PySem.W.nsIn K mainGlobals "NO_PART" = some (some (.str "" tNp)))
    {t_MOST_LETTERS t_MOST_NUMBER t_MOST_FIGURES t_MOST_BRACKETS : Tok} (g_MOST_LETTERS : PySem.W.nsIn K mainGlobals "MOST_LETTERS" = some (some (.int 8 t_MOST_LETTERS))) (g_MOST_NUMBER : PySem.W.nsIn K mainGlobals "MOST_NUMBER" = some (some (.int 999999999999999999999999999999 t_MOST_NUMBER))) (g_MOST_FIGURES : PySem.W.nsIn K mainGlobals "MOST_FIGURES" = some (some (.int 30 t_MOST_FIGURES))) (g_MOST_BRACKETS : PySem.W.nsIn K mainGlobals "MOST_BRACKETS" = some (some (.int 8 t_MOST_BRACKETS)))
    {aW aS aM : Addr} {dW dS dM : Option Addr} {iW iS iM : List Value} {nW nS nM : Nat} {sW sS sM : Array (Option Value)} (gW : PySem.W.nsIn K mainGlobals "WORDS" = some (some (.ref aW))) (lW : K.lookup aW = some ⟨.type "tuple", dW, .seq iW.toArray nW, sW⟩) (vW : Vals (kept.map V.str) iW)
    (gS : PySem.W.nsIn K mainGlobals "SIGNS" = some (some (.ref aS))) (lS : K.lookup aS = some ⟨.type "tuple", dS, .seq iS.toArray nS, sS⟩) (vS : Vals (signsL.map V.str) iS)
    (gM : PySem.W.nsIn K mainGlobals "MARKS" = some (some (.ref aM))) (lM : K.lookup aM = some ⟨.type "tuple", dM, .seq iM.toArray nM, sM⟩) (vM : Vals (marksL.map V.str) iM)
    (lTD : K.lookup TD = some oTD) (oTD0 : oTD.data = .seq iTD.toArray nTD) (vTD : Vals [V.int 6] iTD) (lTD2 : K.lookup TD2 = some oTD2) (oTD20 : oTD2.data = .seq iTD2.toArray nTD2) (vTD2 : Vals [V.int 0] iTD2)
    : ∃ fd : FuncData, (∀ (s : Shared) (v : Value), BindsTo s fd ⟨[v], []⟩ [("_law_script", v)]) ∧ ∀ base : Heap, K.In base → base.Ns mainGlobals mg → FnG l.prog w K mg base 57 fa fd ["_law_script"] (spLaw K) := by
  have e := hfa.symm.trans (PySem.W.mg_of X G a_law)
  cases e
  have F_is_tuple_of := fun_mk (st := sTupOf) l_is_tuple_of c_is_tuple_of k_is_tuple_of
  have b_is_tuple_of := F_is_tuple_of.binds (ps := ["thing", "many"]) fun _ _ _ _ _ _ us hl => match us, hl with | [_, _], _ => rfl
  have m_is_tuple_of := PySem.W.mg_of X G a_is_tuple_of
  have F_is_whole := fun_mk (st := sWhole) l_is_whole c_is_whole k_is_whole
  have b_is_whole := F_is_whole.binds (ps := ["thing"]) fun _ _ _ _ _ _ us hl => match us, hl with | [_], _ => rfl
  have m_is_whole := PySem.W.mg_of X G a_is_whole
  have F_is_whole_within := fun_mk (st := sWithin) l_is_whole_within c_is_whole_within k_is_whole_within
  have b_is_whole_within := F_is_whole_within.binds (ps := ["thing", "most"]) fun _ _ _ _ _ _ us hl => match us, hl with | [_, _], _ => rfl
  have m_is_whole_within := PySem.W.mg_of X G a_is_whole_within
  have F_is_name := fun_mk (st := sIsName) l_is_name c_is_name k_is_name
  have b_is_name := F_is_name.binds (ps := ["thing"]) fun _ _ _ _ _ _ us hl => match us, hl with | [_], _ => rfl
  have m_is_name := PySem.W.mg_of X G a_is_name
  have m_is_expression := PySem.W.mg_of X G a_is_expression
  have F_is_leaf := fun_mk (st := sLeaf) l_is_leaf c_is_leaf k_is_leaf
  have b_is_leaf := F_is_leaf.binds (ps := ["pair"]) fun _ _ _ _ _ _ us hl => match us, hl with | [_], _ => rfl
  have m_is_leaf := PySem.W.mg_of X G a_is_leaf
  have F_parts_of := fun_mk (st := sPartsOf) l_parts_of c_parts_of k_parts_of
  have b_parts_of := F_parts_of.binds (ps := ["text", "row"]) fun _ _ _ _ _ _ us hl => match us, hl with | [_, _], _ => rfl
  have m_parts_of := PySem.W.mg_of X G a_parts_of
  have F_part_at := fun_mk (st := sPartAt) l_part_at c_part_at k_part_at
  have b_part_at := F_part_at.binds (ps := ["text", "at"]) fun _ _ _ _ _ _ us hl => match us, hl with | [_, _], _ => rfl
  have m_part_at := PySem.W.mg_of X G a_part_at
  have F_run_at := fun_mk (st := sRunAt) l_run_at c_run_at k_run_at
  have b_run_at := F_run_at.binds (ps := ["text", "at", "signs"]) fun _ _ _ _ _ _ us hl => match us, hl with | [_, _, _], _ => rfl
  have m_run_at := PySem.W.mg_of X G a_run_at
  have F_is_part := fun_mk (st := sIsPart) l_is_part c_is_part k_is_part
  have b_is_part := F_is_part.binds (ps := ["text"]) fun _ _ _ _ _ _ us hl => match us, hl with | [_], _ => rfl
  have m_is_part := PySem.W.mg_of X G a_is_part
  have F_is_figures := fun_mk (st := sFigs) l_is_figures c_is_figures k_is_figures
  have b_is_figures := F_is_figures.binds (ps := ["part"]) fun _ _ _ _ _ _ us hl => match us, hl with | [_], _ => rfl
  have m_is_figures := PySem.W.mg_of X G a_is_figures
  have F_Line___init__ := fun_mk (st := sLineInit) l_Line___init__ c_Line___init__ k_Line___init__
  have b_Line___init__ := F_Line___init__.binds (ps := ["self", "text", "row"]) fun _ _ _ _ _ _ us hl => match us, hl with | [_, _, _], _ => rfl
  have M_Line___init__ : Meth K C_Line "__init__" f_Line___init__ := ⟨a_Line___init__, i_Line___init__, k_Line___init__⟩
  have F_Line_peek := fun_mk (st := sPeek) l_Line_peek c_Line_peek k_Line_peek
  have b_Line_peek := F_Line_peek.binds (ps := ["self"]) fun _ _ _ _ _ _ us hl => match us, hl with | [_], _ => rfl
  have M_Line_peek : Meth K C_Line "peek" f_Line_peek := ⟨a_Line_peek, i_Line_peek, k_Line_peek⟩
  have F_Line_take := fun_mk (st := sTakeL) l_Line_take c_Line_take k_Line_take
  have b_Line_take := F_Line_take.binds (ps := ["self"]) fun _ _ _ _ _ _ us hl => match us, hl with | [_], _ => rfl
  have M_Line_take : Meth K C_Line "take" f_Line_take := ⟨a_Line_take, i_Line_take, k_Line_take⟩
  have F_Line_skip := fun_mk (st := sSkip) l_Line_skip c_Line_skip k_Line_skip
  have b_Line_skip := F_Line_skip.binds (ps := ["self", "wanted"]) fun _ _ _ _ _ _ us hl => match us, hl with | [_, _], _ => rfl
  have M_Line_skip : Meth K C_Line "skip" f_Line_skip := ⟨a_Line_skip, i_Line_skip, k_Line_skip⟩
  have F_read_expression := fun_mk (st := sExprR) l_read_expression c_read_expression k_read_expression
  have b_read_expression := F_read_expression.binds (ps := ["text"]) fun _ _ _ _ _ _ us hl => match us, hl with | [_], _ => rfl
  have m_read_expression := PySem.W.mg_of X G a_read_expression
  have m_read_tree := PySem.W.mg_of X G a_read_tree
  have F_read_sum := fun_mk (st := sSum) l_read_sum c_read_sum k_read_sum
  have b_read_sum := F_read_sum.binds (ps := ["line", "brackets"]) fun _ _ _ _ _ _ us hl => match us, hl with | [_, _], _ => rfl
  have m_read_sum := PySem.W.mg_of X G a_read_sum
  have F_read_product := fun_mk (st := sProd) l_read_product c_read_product k_read_product
  have b_read_product := F_read_product.binds (ps := ["line", "brackets"]) fun _ _ _ _ _ _ us hl => match us, hl with | [_, _], _ => rfl
  have m_read_product := PySem.W.mg_of X G a_read_product
  have F_operation := fun_mk (st := sOper) l_operation c_operation k_operation
  have b_operation := F_operation.binds (ps := ["line", "sign", "left", "right"]) fun _ _ _ _ _ _ us hl => match us, hl with | [_, _, _, _], _ => rfl
  have m_operation := PySem.W.mg_of X G a_operation
  have F_read_single := fun_mk (st := sSingle) l_read_single c_read_single k_read_single
  have b_read_single := F_read_single.binds (ps := ["line", "brackets"]) fun _ _ _ _ _ _ us hl => match us, hl with | [_, _], _ => rfl
  have m_read_single := PySem.W.mg_of X G a_read_single
  have F_read_bracketed := fun_mk (st := sBrack) l_read_bracketed c_read_bracketed k_read_bracketed
  have b_read_bracketed := F_read_bracketed.binds (ps := ["line", "brackets"]) fun _ _ _ _ _ _ us hl => match us, hl with | [_, _], _ => rfl
  have m_read_bracketed := PySem.W.mg_of X G a_read_bracketed
  have F_read_number := fun_mk (st := sRdNum) l_read_number c_read_number k_read_number
  have b_read_number := F_read_number.binds (ps := ["line", "most"]) fun _ _ _ _ _ _ us hl => match us, hl with | [_, _], _ => rfl
  have m_read_number := PySem.W.mg_of X G a_read_number
  have F_read_name := fun_mk (st := sRdName) l_read_name c_read_name k_read_name
  have b_read_name := F_read_name.binds (ps := ["line"]) fun _ _ _ _ _ _ us hl => match us, hl with | [_], _ => rfl
  have m_read_name := PySem.W.mg_of X G a_read_name
  have F_Lbag := fun_mk (st := sBag) l_Lbag c_Lbag k_Lbag
  have b_Lbag := F_Lbag.binds (ps := ["_law_script", "_law_k"]) fun _ _ _ _ _ _ us hl => match us, hl with | [_, _], _ => rfl
  have m_Lbag := PySem.W.mg_of X G a_Lbag
  have F_Ltake := fun_mk (st := sTake) l_Ltake c_Ltake k_Ltake
  have b_Ltake := F_Ltake.binds (ps := ["_law_bag_here", "_law_many"]) fun _ _ _ _ _ _ us hl => match us, hl with | [_, _], _ => rfl
  have m_Ltake := PySem.W.mg_of X G a_Ltake
  have F_Lkept := fun_mk (st := sKept) l_Lkept c_Lkept k_Lkept
  have b_Lkept := F_Lkept.binds (ps := []) fun _ _ _ _ _ _ us hl => match us, hl with | [], _ => rfl
  have m_Lkept := PySem.W.mg_of X G a_Lkept
  have F_Lnames := fun_mk (st := sNames) l_Lnames c_Lnames k_Lnames
  have b_Lnames := F_Lnames.binds (ps := ["_law_bag_here", "_law_many"]) fun _ _ _ _ _ _ us hl => match us, hl with | [_, _], _ => rfl
  have m_Lnames := PySem.W.mg_of X G a_Lnames
  have F_Lnumber := fun_mk (st := sNumber) l_Lnumber c_Lnumber k_Lnumber
  have b_Lnumber := F_Lnumber.binds (ps := ["_law_bag_here"]) fun _ _ _ _ _ _ us hl => match us, hl with | [_], _ => rfl
  have m_Lnumber := PySem.W.mg_of X G a_Lnumber
  have F_Ltree := fun_mk (st := sTree) l_Ltree c_Ltree k_Ltree
  have b_Ltree := F_Ltree.binds (ps := ["_law_bag_here", "_law_names_here", "_law_deep"]) fun _ _ _ _ _ _ us hl => match us, hl with | [_, _, _], _ => rfl
  have m_Ltree := PySem.W.mg_of X G a_Ltree
  have F_Ltext := fun_mk (st := sText) l_Ltext c_Ltext k_Ltext
  have b_Ltext := F_Ltext.binds (ps := ["_law_tree_here"]) fun _ _ _ _ _ _ us hl => match us, hl with | [_], _ => rfl
  have m_Ltext := PySem.W.mg_of X G a_Ltext
  have F_Lkind := fun_mk (st := sKind) l_Lkind c_Lkind k_Lkind
  have b_Lkind := F_Lkind.binds (ps := ["_law_sign"]) fun _ _ _ _ _ _ us hl => match us, hl with | [_], _ => rfl
  have m_Lkind := PySem.W.mg_of X G a_Lkind
  have F_Lbracketed := fun_mk (st := sBrk) l_Lbracketed c_Lbracketed k_Lbracketed
  have b_Lbracketed := F_Lbracketed.binds (ps := ["_law_bag_here", "_law_tree_here", "_law_nested"]) fun _ _ _ _ _ _ us hl => match us, hl with | [_, _, _], _ => rfl
  have m_Lbracketed := PySem.W.mg_of X G a_Lbracketed
  have F_Lwithin := fun_mk (st := sWn) l_Lwithin c_Lwithin k_Lwithin
  have b_Lwithin := F_Lwithin.binds (ps := ["_law_bag_here", "_law_tree_here", "_law_nested", "_law_wanted"]) fun _ _ _ _ _ _ us hl => match us, hl with | [_, _, _, _], _ => rfl
  have m_Lwithin := PySem.W.mg_of X G a_Lwithin
  have F_Lblanked := fun_mk (st := sBlk) l_Lblanked c_Lblanked k_Lblanked
  have b_Lblanked := F_Lblanked.binds (ps := ["_law_bag_here", "_law_parts_here"]) fun _ _ _ _ _ _ us hl => match us, hl with | [_, _], _ => rfl
  have m_Lblanked := PySem.W.mg_of X G a_Lblanked
  have F_law := fun_mk (st := sLaw) l_law c_law k_law
  have m_law := PySem.W.mg_of X G a_law
  have mC_Line := PySem.W.mg_of X G aC_Line
  have T : Bi mg := ⟨PySem.W.mg_none_of X G z_len, PySem.W.mg_none_of X G z_abs, PySem.W.mg_none_of X G z_int, PySem.W.mg_none_of X G z_str, PySem.W.mg_none_of X G z_range, PySem.W.mg_none_of X G z_max, PySem.W.mg_none_of X G z_min, PySem.W.mg_none_of X G z_isinstance, PySem.W.mg_none_of X G z_all⟩
  have q_tuple := PySem.W.mg_none_of X G z_tuple
  have q_bool := PySem.W.mg_none_of X G z_bool
  have q_repr := PySem.W.mg_none_of X G z_repr
  have cl_Line : Cls K C_Line := ⟨pg_Line, hd_Line, po_Line, sa_Line⟩
  refine ⟨PySem.W.fnOf "law" "law" (defArgs sLaw) (defBody sLaw) (defScope sLaw) .none kV_law dc_law pm_law an_law cd_law ct_law, fun s v => .of_eq rfl, fun base _ _ => ?_⟩
  have hW10 : iW.toArray.size ≤ sizeLine := by
    have := vW.length
    rw [List.size_toArray, ← this]
    decide
  have hS5 : iS.toArray.size ≤ sizeLine := by
    have := vS.length
    rw [List.size_toArray, ← this]
    decide
  have hM9 : iM.toArray.size ≤ sizeLine := by
    have := vM.length
    rw [List.size_toArray, ← this]
    decide
  have e30 : (1000000 : Int) ^ 5 - 1 = 999999999999999999999999999999 := by decide
  have eNp : ("" : Str) = Str.empty := by decide +kernel
  have GF : Gf K mg := ⟨⟨aW, PySem.W.mg_of X G gW, fun H => .inr ⟨_, iW.toArray, nW, lW, rfl, rfl, hW10, by rw [List.toList_toArray]; exact vW⟩⟩, ⟨aS, PySem.W.mg_of X G gS, fun H => .inr ⟨_, iS.toArray, nS, lS, rfl, rfl, hS5, by rw [List.toList_toArray]; exact vS⟩⟩, ⟨tLt, PySem.W.mg_of X G gLt⟩,
    ⟨_, PySem.W.mg_of X G g_MOST_LETTERS⟩, ⟨_, by rw [e30]; exact PySem.W.mg_of X G g_MOST_NUMBER⟩⟩
  have J : Gp K mg := ⟨⟨tFg, PySem.W.mg_of X G gFg⟩, ⟨tNp, by rw [← eNp]; exact PySem.W.mg_of X G gNp⟩, ⟨aM, PySem.W.mg_of X G gM, fun H => .inr ⟨_, iM.toArray, nM, lM, rfl, rfl, hM9, by rw [List.toList_toArray]; exact vM⟩⟩, ⟨_, PySem.W.mg_of X G g_MOST_FIGURES⟩, ⟨_, PySem.W.mg_of X G g_MOST_BRACKETS⟩⟩
  have FE : FunD K "is_expression" "is_expression" (defArgs sIsEx) (defBody sIsEx) (defScope sIsEx) [.int 6] [] f_is_expression _ := ⟨⟨_, _, _, _, _, _, _, _, _, _, rfl, l_is_expression, c_is_expression, .inr ⟨by simp, TD, oTD, iTD, nTD, rfl, lTD, oTD0, vTD⟩, .inl rfl⟩, k_is_expression⟩
  obtain ⟨⟨dsE, vE, bE⟩, bE0⟩ := isEx_dflt FE
  have FT : FunD K "read_tree" "read_tree" (defArgs sTreeR) (defBody sTreeR) (defScope sTreeR) [.int 0] [] f_read_tree _ := ⟨⟨_, _, _, _, _, _, _, _, _, _, rfl, l_read_tree, c_read_tree, .inr ⟨by simp, TD2, oTD2, iTD2, nTD2, rfl, lTD2, oTD20, vTD2⟩, .inl rfl⟩, k_read_tree⟩
  obtain ⟨⟨dsT, vT, bT⟩, bT0⟩ := tree_dflt FT
  obtain ⟨vE1, rfl⟩ := vals_one vE
  obtain ⟨vT1, rfl⟩ := vals_one vT
  have LT : LineT K C_Line := ⟨cl_Line, na_parts_Line, na_row_Line, na_place_Line⟩
  have TO : Fk l.prog w K mg base 1 "is_tuple_of" f_is_tuple_of _ ["thing", "many"] spTupOf := ⟨ok_tupOf F_is_tuple_of T q_tuple, m_is_tuple_of, k_is_tuple_of, b_is_tuple_of⟩
  have WH : Fk l.prog w K mg base 1 "is_whole" f_is_whole _ ["thing"] spWhole := ⟨ok_whole F_is_whole T q_bool, m_is_whole, k_is_whole, b_is_whole⟩
  have WI : Fk l.prog w K mg base 2 "is_whole_within" f_is_whole_within _ ["thing", "most"] spWithin := ⟨ok_within F_is_whole_within WH, m_is_whole_within, k_is_whole_within, b_is_whole_within⟩
  have IN : Fk l.prog w K mg base 1 "is_name" f_is_name _ ["thing"] spIsName := ⟨ok_isName F_is_name T GF, m_is_name, k_is_name, b_is_name⟩
  have LF : Fk l.prog w K mg base 3 "is_leaf" f_is_leaf _ ["pair"] spLeaf := ⟨ok_leaf F_is_leaf WI IN GF, m_is_leaf, k_is_leaf, b_is_leaf⟩
  have mE := PySem.W.mg_of X G a_is_expression
  have IE : Fk l.prog w K mg base 9 "is_expression" f_is_expression _ ["thing", "deepest"] (spIsEx 6) := ⟨isExs FE mE bE0 TO LF GF 6, mE, k_is_expression, bE0⟩
  have IF : Fk l.prog w K mg base 1 "is_figures" f_is_figures _ ["part"] spFigs := ⟨ok_figs F_is_figures J, m_is_figures, k_is_figures, b_is_figures⟩
  have RU : Fk l.prog w K mg base 1 "run_at" f_run_at _ ["text", "at", "signs"] spRun := ⟨ok_run F_run_at T, m_run_at, k_run_at, b_run_at⟩
  have PA : Fk l.prog w K mg base 2 "part_at" f_part_at _ ["text", "at"] spPartAt := ⟨ok_partAt F_part_at RU GF J, m_part_at, k_part_at, b_part_at⟩
  have IP : Fk l.prog w K mg base 2 "is_part" f_is_part _ ["text"] spIsPart := ⟨ok_isPart F_is_part IF IN GF J, m_is_part, k_is_part, b_is_part⟩
  have PO : Fk l.prog w K mg base 3 "parts_of" f_parts_of _ ["text", "row"] spPartsOf := ⟨ok_partsOf F_parts_of PA IP T, m_parts_of, k_parts_of, b_parts_of⟩
  have PK : FkMm l.prog w K mg base 1 C_Line "peek" f_Line_peek _ ["self"] (spPeek C_Line) := ⟨M_Line_peek, ok_peek F_Line_peek LT J T, b_Line_peek⟩
  have TA : FkMm l.prog w K mg base 2 C_Line "take" f_Line_take _ ["self"] (spTakeL C_Line) := ⟨M_Line_take, ok_takeL F_Line_take LT PK, b_Line_take⟩
  have SK : FkMm l.prog w K mg base 3 C_Line "skip" f_Line_skip _ ["self", "wanted"] (spSkip C_Line) := ⟨M_Line_skip, ok_skip F_Line_skip LT TA, b_Line_skip⟩
  have OP : Fk l.prog w K mg base 10 "operation" f_operation _ ["line", "sign", "left", "right"] spOper := ⟨ok_oper F_operation IE bE vE, m_operation, k_operation, b_operation⟩
  have RN : Fk l.prog w K mg base 3 "read_number" f_read_number _ ["line", "most"] (spRdNum C_Line) := ⟨ok_rdNum F_read_number LT TA IF J T, m_read_number, k_read_number, b_read_number⟩
  have RA : Fk l.prog w K mg base 3 "read_name" f_read_name _ ["line"] (spRdName C_Line) := ⟨ok_rdName F_read_name LT TA IN, m_read_name, k_read_name, b_read_name⟩
  have mT := PySem.W.mg_of X G a_read_tree
  have DS := descents (P := l.prog) (w := w) (base := base) FT mT bT0 F_read_bracketed m_read_bracketed b_read_bracketed F_read_single m_read_single b_read_single F_read_product m_read_product b_read_product F_read_sum m_read_sum b_read_sum LT PK TA SK IF RN RA OP GF J 8
  have RT : Fk l.prog w K mg base 55 "read_tree" f_read_tree _ ["line", "brackets"] (spRd C_Line 1 8) := ⟨DS.2, mT, k_read_tree, bT0⟩
  have MKL : L2.Mk K C_Line f_Line___init__ := ⟨mk_Line, a_Line___init__, i_Line___init__, kc_Line⟩
  have RE : Fk l.prog w K mg base 56 "read_expression" f_read_expression _ ["text"] (spRead C_Line) := ⟨ok_exprR F_read_expression LT mC_Line MKL (ok_lineInit F_Line___init__ LT PO) b_Line___init__ SK RT bT vT J, m_read_expression, k_read_expression, b_read_expression⟩
  have TK : Fk l.prog w K mg base 1 "_law_take" f_Ltake _ ["_law_bag_here", "_law_many"] spTake := ⟨ok_take F_Ltake, m_Ltake, k_Ltake, b_Ltake⟩
  have KP : Fk l.prog w K mg base 1 "_law_kept" f_Lkept _ [] spKept := ⟨ok_kept F_Lkept, m_Lkept, k_Lkept, b_Lkept⟩
  have NB : Fk l.prog w K mg base 2 "_law_number" f_Lnumber _ ["_law_bag_here"] spNumber := ⟨ok_number F_Lnumber TK T, m_Lnumber, k_Lnumber, b_Lnumber⟩
  have TX : Fk l.prog w K mg base 6 "_law_text" f_Ltext _ ["_law_tree_here"] (spText 6) := ⟨texts F_Ltext m_Ltext b_Ltext T 6 (by decide), m_Ltext, k_Ltext, b_Ltext⟩
  have KI : Fk l.prog w K mg base 1 "_law_kind" f_Lkind _ ["_law_sign"] spKind := ⟨ok_kind F_Lkind T, m_Lkind, k_Lkind, b_Lkind⟩
  have BK : Fk l.prog w K mg base 20 "_law_bracketed" f_Lbracketed _ ["_law_bag_here", "_law_tree_here", "_law_nested"] (spBrk 6) := ⟨bracks F_Lbracketed m_Lbracketed b_Lbracketed F_Lwithin m_Lwithin b_Lwithin TX TK T 6, m_Lbracketed, k_Lbracketed, b_Lbracketed⟩
  have BL : Fk l.prog w K mg base 2 "_law_blanked" f_Lblanked _ ["_law_bag_here", "_law_parts_here"] spBlk := ⟨ok_blk F_Lblanked KI TK T, m_Lblanked, k_Lblanked, b_Lblanked⟩
  exact ok_law F_law ⟨ok_bag F_Lbag T, m_Lbag, k_Lbag, b_Lbag⟩ ⟨ok_names F_Lnames TK KP T, m_Lnames, k_Lnames, b_Lnames⟩ TK ⟨trees_all F_Ltree m_Ltree b_Ltree TK NB T 6, m_Ltree, k_Ltree, b_Ltree⟩ BK BL RE T q_repr
theorem walk {l : PySem.W.OpenLaw} {q : Program} {loose : List Str} {XP : (Str → Option Value) → Heap → Prop} {YP : World → Heap → Prop} {d : DefRec} {K : Params → PySem.W.Frag} (hn : l.most = some 63) (hdf : d.params.defaults = [])
    (hY : ∀ (w : World) (h : Heap), YP w h → (K w.params).In h)
    (F : ∀ (w : World) (mg : Str → Option Value) (fa : Addr) (h : Heap), (K w.params).In h → h.Ns mainGlobals mg → mg d.name = some (.ref fa) →
      ∃ fd : FuncData, (∀ (s : Shared) (u : Value), BindsTo s fd ⟨[u], []⟩ [("_law_script", u)]) ∧ ∀ base : Heap, (K w.params).In base → base.Ns mainGlobals mg → FnG l.prog w (K w.params) mg base 57 fa fd ["_law_script"] (spLaw (K w.params))) :
    PySem.W.WalkO q loose XP YP l.row.toRowW d [] (fun f vs => PySem.call f vs) :=
  walk_G (k := 57) (sp := spLaw) hn hdf ⟨rfl, by decide, by decide⟩ hY F fun K H a ns hl hS => ⟨a, ns, rfl, hS, hl, fun _ => rfl⟩
end SH
open PySem PySem.W PyProof.Rows
set_option maxRecDepth 100000 in
set_option maxHeartbeats 0 in
theorem PySem.Challenge.cw_stealhall_k08_expressions_read_holds : PySem.Challenge.rw_stealhall_k08_expressions_read.Holds := by
  w_on; o_law; k_head; (case hw => w_witness2)
  k_fill
  refine SH.walk (l := PySem.Challenge.rw_stealhall_k08_expressions_read) rfl rfl (fun w h Y => PySem.W.kIn_of Y) ?F
  case F =>
    intro w mg fa h KX G hmg
    refine' SH.all_mk KX G hmg ?aC_Line ?a_is_tuple_of ?l_is_tuple_of ?c_is_tuple_of ?k_is_tuple_of ?a_is_whole ?l_is_whole ?c_is_whole ?k_is_whole ?a_is_whole_within ?l_is_whole_within ?c_is_whole_within ?k_is_whole_within ?a_is_name ?l_is_name ?c_is_name ?k_is_name ?a_is_expression ?l_is_expression ?c_is_expression ?k_is_expression ?a_is_leaf ?l_is_leaf ?c_is_leaf ?k_is_leaf ?a_parts_of ?l_parts_of ?c_parts_of ?k_parts_of ?a_part_at ?l_part_at ?c_part_at ?k_part_at ?a_run_at ?l_run_at ?c_run_at ?k_run_at ?a_is_part ?l_is_part ?c_is_part ?k_is_part ?a_is_figures ?l_is_figures ?c_is_figures ?k_is_figures ?a_Line___init__ ?l_Line___init__ ?c_Line___init__ ?k_Line___init__ ?i_Line___init__ ?a_Line_peek ?l_Line_peek ?c_Line_peek ?k_Line_peek ?i_Line_peek ?a_Line_take ?l_Line_take ?c_Line_take ?k_Line_take ?i_Line_take ?a_Line_skip ?l_Line_skip ?c_Line_skip ?k_Line_skip ?i_Line_skip ?a_read_expression ?l_read_expression ?c_read_expression ?k_read_expression ?a_read_tree ?l_read_tree ?c_read_tree ?k_read_tree ?a_read_sum ?l_read_sum ?c_read_sum ?k_read_sum ?a_read_product ?l_read_product ?c_read_product ?k_read_product ?a_operation ?l_operation ?c_operation ?k_operation ?a_read_single ?l_read_single ?c_read_single ?k_read_single ?a_read_bracketed ?l_read_bracketed ?c_read_bracketed ?k_read_bracketed ?a_read_number ?l_read_number ?c_read_number ?k_read_number ?a_read_name ?l_read_name ?c_read_name ?k_read_name ?a_Lbag ?l_Lbag ?c_Lbag ?k_Lbag ?a_Ltake ?l_Ltake ?c_Ltake ?k_Ltake ?a_Lkept ?l_Lkept ?c_Lkept ?k_Lkept ?a_Lnames ?l_Lnames ?c_Lnames ?k_Lnames ?a_Lnumber ?l_Lnumber ?c_Lnumber ?k_Lnumber ?a_Ltree ?l_Ltree ?c_Ltree ?k_Ltree ?a_Ltext ?l_Ltext ?c_Ltext ?k_Ltext ?a_Lkind ?l_Lkind ?c_Lkind ?k_Lkind ?a_Lbracketed ?l_Lbracketed ?c_Lbracketed ?k_Lbracketed ?a_Lwithin ?l_Lwithin ?c_Lwithin ?k_Lwithin ?a_Lblanked ?l_Lblanked ?c_Lblanked ?k_Lblanked ?a_law ?l_law ?c_law ?k_law ?z_len ?z_abs ?z_int ?z_str ?z_range ?z_max ?z_min ?z_isinstance ?z_all ?z_tuple ?z_bool ?z_repr ?pg_Line ?hd_Line ?po_Line ?sa_Line ?mk_Line ?kc_Line ?na_parts_Line ?na_row_Line ?na_place_Line ?gLt ?gFg ?gNp ?g_MOST_LETTERS ?g_MOST_NUMBER ?g_MOST_FIGURES ?g_MOST_BRACKETS ?gW ?lW ?vW ?gS ?lS ?vS ?gM ?lM ?vM ?lTD ?oTD0 ?vTD ?lTD2 ?oTD20 ?vTD2
    (case aC_Line => k_is)
    (case a_is_tuple_of => k_is)
    (case l_is_tuple_of => k_is)
    (case c_is_tuple_of => k_is)
    (case k_is_tuple_of => k_is)
    (case a_is_whole => k_is)
    (case l_is_whole => k_is)
    (case c_is_whole => k_is)
    (case k_is_whole => k_is)
    (case a_is_whole_within => k_is)
    (case l_is_whole_within => k_is)
    (case c_is_whole_within => k_is)
    (case k_is_whole_within => k_is)
    (case a_is_name => k_is)
    (case l_is_name => k_is)
    (case c_is_name => k_is)
    (case k_is_name => k_is)
    (case a_is_expression => k_is)
    (case l_is_expression => k_is)
    (case c_is_expression => k_is)
    (case k_is_expression => k_is)
    (case a_is_leaf => k_is)
    (case l_is_leaf => k_is)
    (case c_is_leaf => k_is)
    (case k_is_leaf => k_is)
    (case a_parts_of => k_is)
    (case l_parts_of => k_is)
    (case c_parts_of => k_is)
    (case k_parts_of => k_is)
    (case a_part_at => k_is)
    (case l_part_at => k_is)
    (case c_part_at => k_is)
    (case k_part_at => k_is)
    (case a_run_at => k_is)
    (case l_run_at => k_is)
    (case c_run_at => k_is)
    (case k_run_at => k_is)
    (case a_is_part => k_is)
    (case l_is_part => k_is)
    (case c_is_part => k_is)
    (case k_is_part => k_is)
    (case a_is_figures => k_is)
    (case l_is_figures => k_is)
    (case c_is_figures => k_is)
    (case k_is_figures => k_is)
    (case a_Line___init__ => k_is)
    (case l_Line___init__ => k_is)
    (case c_Line___init__ => k_is)
    (case k_Line___init__ => k_is)
    (case i_Line___init__ => k_is)
    (case a_Line_peek => k_is)
    (case l_Line_peek => k_is)
    (case c_Line_peek => k_is)
    (case k_Line_peek => k_is)
    (case i_Line_peek => k_is)
    (case a_Line_take => k_is)
    (case l_Line_take => k_is)
    (case c_Line_take => k_is)
    (case k_Line_take => k_is)
    (case i_Line_take => k_is)
    (case a_Line_skip => k_is)
    (case l_Line_skip => k_is)
    (case c_Line_skip => k_is)
    (case k_Line_skip => k_is)
    (case i_Line_skip => k_is)
    (case a_read_expression => k_is)
    (case l_read_expression => k_is)
    (case c_read_expression => k_is)
    (case k_read_expression => k_is)
    (case a_read_tree => k_is)
    (case l_read_tree => k_is)
    (case c_read_tree => k_is)
    (case k_read_tree => k_is)
    (case a_read_sum => k_is)
    (case l_read_sum => k_is)
    (case c_read_sum => k_is)
    (case k_read_sum => k_is)
    (case a_read_product => k_is)
    (case l_read_product => k_is)
    (case c_read_product => k_is)
    (case k_read_product => k_is)
    (case a_operation => k_is)
    (case l_operation => k_is)
    (case c_operation => k_is)
    (case k_operation => k_is)
    (case a_read_single => k_is)
    (case l_read_single => k_is)
    (case c_read_single => k_is)
    (case k_read_single => k_is)
    (case a_read_bracketed => k_is)
    (case l_read_bracketed => k_is)
    (case c_read_bracketed => k_is)
    (case k_read_bracketed => k_is)
    (case a_read_number => k_is)
    (case l_read_number => k_is)
    (case c_read_number => k_is)
    (case k_read_number => k_is)
    (case a_read_name => k_is)
    (case l_read_name => k_is)
    (case c_read_name => k_is)
    (case k_read_name => k_is)
    (case a_Lbag => k_is)
    (case l_Lbag => k_is)
    (case c_Lbag => k_is)
    (case k_Lbag => k_is)
    (case a_Ltake => k_is)
    (case l_Ltake => k_is)
    (case c_Ltake => k_is)
    (case k_Ltake => k_is)
    (case a_Lkept => k_is)
    (case l_Lkept => k_is)
    (case c_Lkept => k_is)
    (case k_Lkept => k_is)
    (case a_Lnames => k_is)
    (case l_Lnames => k_is)
    (case c_Lnames => k_is)
    (case k_Lnames => k_is)
    (case a_Lnumber => k_is)
    (case l_Lnumber => k_is)
    (case c_Lnumber => k_is)
    (case k_Lnumber => k_is)
    (case a_Ltree => k_is)
    (case l_Ltree => k_is)
    (case c_Ltree => k_is)
    (case k_Ltree => k_is)
    (case a_Ltext => k_is)
    (case l_Ltext => k_is)
    (case c_Ltext => k_is)
    (case k_Ltext => k_is)
    (case a_Lkind => k_is)
    (case l_Lkind => k_is)
    (case c_Lkind => k_is)
    (case k_Lkind => k_is)
    (case a_Lbracketed => k_is)
    (case l_Lbracketed => k_is)
    (case c_Lbracketed => k_is)
    (case k_Lbracketed => k_is)
    (case a_Lwithin => k_is)
    (case l_Lwithin => k_is)
    (case c_Lwithin => k_is)
    (case k_Lwithin => k_is)
    (case a_Lblanked => k_is)
    (case l_Lblanked => k_is)
    (case c_Lblanked => k_is)
    (case k_Lblanked => k_is)
    (case a_law => k_is)
    (case l_law => k_is)
    (case c_law => k_is)
    (case k_law => k_is)
    (case z_len => k_is)
    (case z_abs => k_is)
    (case z_int => k_is)
    (case z_str => k_is)
    (case z_range => k_is)
    (case z_max => k_is)
    (case z_min => k_is)
    (case z_isinstance => k_is)
    (case z_all => k_is)
    (case z_tuple => k_is)
    (case z_bool => k_is)
    (case z_repr => k_is)
    (case pg_Line => k_is)
    (case hd_Line => k_is)
    (case po_Line => k_is)
    (case sa_Line => k_is)
    (case mk_Line => k_is)
    (case kc_Line => k_is)
    (case na_parts_Line => k_is)
    (case na_row_Line => k_is)
    (case na_place_Line => k_is)
    (case gLt => k_is)
    (case gFg => k_is)
    (case gNp => k_is)
    (case g_MOST_LETTERS => k_is)
    (case g_MOST_NUMBER => k_is)
    (case g_MOST_FIGURES => k_is)
    (case g_MOST_BRACKETS => k_is)
    (case gW => k_is)
    (case lW => k_is)
    (case vW => (repeat (first | exact Paired.nil | refine Paired.cons ⟨_, rfl⟩ ?_)))
    (case gS => k_is)
    (case lS => k_is)
    (case vS => (repeat (first | exact Paired.nil | refine Paired.cons ⟨_, rfl⟩ ?_)))
    (case gM => k_is)
    (case lM => k_is)
    (case vM => (repeat (first | exact Paired.nil | refine Paired.cons ⟨_, rfl⟩ ?_)))
    (case lTD => k_is)
    (case oTD0 => (first | rfl | k_is))
    (case vTD => (repeat (first | exact Paired.nil | refine Paired.cons ⟨_, rfl⟩ ?_)))
    (case lTD2 => k_is)
    (case oTD20 => (first | rfl | k_is))
    (case vTD2 => (repeat (first | exact Paired.nil | refine Paired.cons ⟨_, rfl⟩ ?_)))
