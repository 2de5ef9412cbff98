import PyProof.Rows.All
import Wide.All
import OpenK.AllK
import Wide.FinOn
import HandS.ForMost
import HandS.More
import HandS.FStr
import HandS.IsInst
import HandS.Codes
import HandS.Strs
import HandS.SetBool
import HandS.SetKeys
import HandS.DictComp
import KE.KCallOwn
import HandS.OwnEq
import PyProof.ReprRoads
import PyProof.StrLawsRepr
import PyProof.FitsInt
import KE.SortData
import HandS.Zip
import HandS.Walk
import HandS.TupAny
import HandS.NoneIn
import HandS.Deep
import HandS.ForExc
import HandS.ExcInit
import HandS.ExcSuper
import KE.KExcSuper
import KE.KExcLine
import KE.KExcIs
import HandS.HotCalls
import HandS.ExcField
import HandS.Sort
import HandS.SortKw
import HandS.Exc
import KE.SortKeyHeap
import HandS.Star
import PySem.Challenge.RW_stealhall_k40_plain_order
set_option Elab.async false
set_option linter.all false
set_option maxRecDepth 100000
/-! Expressions: what they are, their text, how they lie in the heap. -/
namespace SH
open PySem L2
inductive Sg where
  | add | sub | mul | lt | eq
def Sg.txt : Sg → Str
  | .add => "+"
  | .sub => "-"
  | .mul => "*"
  | .lt => "<"
  | .eq => "=="
def Sg.lv : Sg → Int
  | .add => 2
  | .sub => 2
  | .mul => 3
  | .lt => 1
  | .eq => 1
inductive Ex where
  | num (n : Int)
  | nam (s : Str)
  | op (g : Sg) (l r : Ex)
def Ex.lv : Ex → Int
  | .num _ => 4
  | .nam _ => 4
  | .op g _ _ => g.lv
def Ex.lw : Ex → Int
  | .num _ => 9
  | .nam _ => 9
  | .op g _ _ => g.lv
def br (b : Bool) (t : Str) : Str := if b = true then ("(" : Str) ++ t ++ (")" : Str) else t
def lB (g : Sg) (l : Ex) : Bool := decide (l.lv < g.lv) || decide (l.lv = 1)
def rB (g : Sg) (r : Ex) : Bool := decide (r.lv ≤ g.lv)
def Ex.txt : Ex → Str
  | .num n => (toString n : String)
  | .nam s => s
  | .op g l r => br (lB g l) l.txt ++ (" " : Str) ++ g.txt ++ (" " : Str) ++ br (rB g r) r.txt
/-- at most n deep, its parts within bounds -/
def Ex.ok : Nat → Ex → Prop
  | 0, _ => False
  | _ + 1, .num n => n.natAbs.log2 < 1920
  | _ + 1, .nam s => s.length ≤ 2000
  | n + 1, .op _ l r => Ex.ok n l ∧ Ex.ok n r
def lenB : Nat → Nat
  | 0 => 2000
  | n + 1 => 2 * lenB n + 2000
theorem app_len (a b : Str) : (a ++ b).length = a.length + b.length := by
  show (a.cps ++ b.cps).size = _
  rw [Array.size_append]
  all_goals rfl
theorem emp_app (a : Str) : Str.empty ++ a = a := by
  show (⟨#[] ++ a.cps⟩ : Str) = a
  rw [Array.empty_append]
theorem Sg.len (g : Sg) : g.txt.length ≤ 2 := by cases g <;> decide +kernel
theorem br_len (b : Bool) (t : Str) : (br b t).length ≤ t.length + 2 := by
  unfold br
  split
  · rw [app_len, app_len]
    have h1 : ("(" : Str).length = 1 := by decide +kernel
    have h2 : (")" : Str).length = 1 := by decide +kernel
    omega
  · omega
theorem Ex.len : ∀ (n : Nat) (e : Ex), Ex.ok n e → e.txt.length ≤ lenB n
  | 0, _, h => h.elim
  | n + 1, .num i, h => by
    have q := PyProof.Rows.int_text_len_1921 (i := i) h
    show (PySem.Str.ofString (toString i)).length ≤ 2 * lenB n + 2000
    omega
  | n + 1, .nam s, h => by
    show s.length ≤ 2 * lenB n + 2000
    have : s.length ≤ 2000 := h
    omega
  | n + 1, .op g l r, h => by
    have h1 := Ex.len n l h.1
    have h2 := Ex.len n r h.2
    have q1 := br_len (lB g l) l.txt
    have q2 := br_len (rB g r) r.txt
    have q3 := g.len
    have hb : (" " : Str).length = 1 := by decide +kernel
    show (br (lB g l) l.txt ++ (" " : Str) ++ g.txt ++ (" " : Str) ++ br (rB g r) r.txt).length ≤ 2 * lenB n + 2000
    rw [app_len, app_len, app_len, app_len]
    omega
theorem Ex.ok_up : ∀ {n m : Nat} {e : Ex}, n ≤ m → Ex.ok n e → Ex.ok m e
  | 0, _, _, _, h => h.elim
  | n + 1, m + 1, .num _, _, h => h
  | n + 1, m + 1, .nam _, _, h => h
  | n + 1, m + 1, .op _ _ _, hm, h => ⟨Ex.ok_up (by omega) h.1, Ex.ok_up (by omega) h.2⟩
/-- what lies at v is the expression -/
def TrIn (H : Hp) : Ex → V → Prop
  | .num n, v => ∃ a, v = .ref a ∧ H a = some (.tup [.str "number", .int n])
  | .nam s, v => ∃ a, v = .ref a ∧ H a = some (.tup [.str "name", .str s])
  | .op g l r, v => ∃ a x y, v = .ref a ∧ H a = some (.tup [.str g.txt, x, y]) ∧ TrIn H l x ∧ TrIn H r y
/-- all but what stands at b stays -/
def But (b : Addr) (H H' : Hp) : Prop := ∀ a o, a ≠ b → H a = some o → H' a = some o
theorem But.of {b : Addr} {H H' : Hp} (h : Same H H') : But b H H' := fun a o _ e => h a o e
theorem But.trans {b : Addr} {H H1 H2 : Hp} (h : But b H H1) (k : But b H1 H2) : But b H H2 := fun a o n e => k a o n (h a o n e)
theorem TrIn.same {H H' : Hp} (h : Same H H') : ∀ {e : Ex} {v : V}, TrIn H e v → TrIn H' e v
  | .num n, v, ⟨a, e, k⟩ => ⟨a, e, h _ _ k⟩
  | .nam n, v, ⟨a, e, k⟩ => ⟨a, e, h _ _ k⟩
  | .op g l r, v, ⟨a, x, y, e, k, p, q⟩ => ⟨a, x, y, e, h _ _ k, TrIn.same h p, TrIn.same h q⟩
theorem lst_ne {H : Hp} {a b : Addr} {xs ys : List V} (h : H a = some (.tup xs)) (k : H b = some (.lst ys)) : a ≠ b := fun e => by
  rw [e, k] at h
  cases h
theorem TrIn.but {H H' : Hp} {b : Addr} {ys : List V} (hb : H b = some (.lst ys)) (h : But b H H') : ∀ {e : Ex} {v : V}, TrIn H e v → TrIn H' e v
  | .num n, v, ⟨a, e, k⟩ => ⟨a, e, h _ _ (lst_ne k hb) k⟩
  | .nam n, v, ⟨a, e, k⟩ => ⟨a, e, h _ _ (lst_ne k hb) k⟩
  | .op g l r, v, ⟨a, x, y, e, k, p, q⟩ => ⟨a, x, y, e, h _ _ (lst_ne k hb) k, TrIn.but hb h p, TrIn.but hb h q⟩
theorem same_new {H : Hp} {p : Addr} (h : H p = none) (o : HO) : Same H (upd H p o) := fun b u q => by
  rw [upd_ne (ne_of_none q h)]
  exact q
def Ex.head : Ex → Str
  | .num _ => "number"
  | .nam _ => "name"
  | .op g _ _ => g.txt
theorem TrIn.tup {H : Hp} : ∀ {e : Ex} {v : V}, TrIn H e v → ∃ a xs, v = .ref a ∧ H a = some (.tup xs) ∧ xs[0]? = some (.str e.head)
  | .num n, v, ⟨a, e, k⟩ => ⟨a, _, e, k, rfl⟩
  | .nam n, v, ⟨a, e, k⟩ => ⟨a, _, e, k, rfl⟩
  | .op g l r, v, ⟨a, x, y, e, k, p, q⟩ => ⟨a, _, e, k, rfl⟩
theorem Sg.ne_number (g : Sg) : g.txt ≠ ("number" : Str) := by cases g <;> decide +kernel
theorem Sg.ne_name (g : Sg) : g.txt ≠ ("name" : Str) := by cases g <;> decide +kernel
/-! ### d.get(k, x) of a dict of the module, keys texts -/
section
variable {X : Cx} {o e f : Expr} {apos cpos : Pos} {td ty tx : TE}
def KGet (K : PySem.W.Frag) (w : World) (a : Addr) (x : Str) (r : Option V) : Prop :=
  ∃ es n ou, K.lookup a = some ⟨.type "dict", none, .dict es n, #[]⟩ ∧ PySem.W.KeysLit w.params es.toList ∧ (a == sysModules) = false ∧ PySem.W.nsIn K a x = some ou ∧
    ((∃ v u, r = some v ∧ ou = some u ∧ RelV v u) ∨ (r = none ∧ ou = none))
def tKGet2 (K : PySem.W.Frag) (w : World) (td ty tx : TE) : TE := fun σ H Q => td σ H fun x H1 => ∃ a es n, x = .ref a ∧ K.lookup a = some ⟨.type "dict", none, .dict es n, #[]⟩ ∧ PySem.W.KeysLit w.params es.toList ∧
  ty σ H1 fun y H2 => tx σ H2 fun z H3 => ∃ k r, y = .str k ∧ KGet K w a k r ∧ Q (r.getD z) H3
theorem pe_kget2 (ho : PE X o td) (he : PE X e ty) (hf : PE X f tx) (m : M2 X o "get" apos e f cpos) : PE X (.Call (.Attribute o "get" apos) [e, f] [] cpos) (tKGet2 X.K X.w td ty tx) := by
  refine ⟨fun pins s σ H Q I h => ?_⟩
  refine wpAny_Call_method m.base m.few m.line PySem.F.plainAttrs_dict PySem.F.slot_dict_get PySem.F.type_dict_get (thn (ho.run pins s σ H _ I h) fun u s1 ⟨x, H1, I1, rx, a, es, n, ex, hl, hk, q1⟩ => ?_)
  subst ex
  obtain rfl : u = Value.ref a := rx
  have hm := PySem.W.mapOf_K (prog := X.prog) (w := X.w) I1.kIn hl hk
  refine ⟨hm.typeIs, fun b q => ?_, ?_⟩
  · cases q
    exact ⟨_, I1.kIn _ _ hl, rfl⟩
  rw [m.trees]
  refine Calls.callWith_builtin rfl (Calls.evalArgs_plain (Calls.spliced_cons (thn (he.run pins s1 σ H1 _ I1 q1) fun iv s2 ⟨y, H2, I2, ry, q2⟩ =>
    Calls.spliced_cons (thn (hf.run pins s2 σ H2 _ I2 q2) fun fv s3 ⟨z, H3, I3, rz, k, r, ey, g, q3⟩ => Calls.spliced_nil ?_))))
  subst ey
  obtain ⟨t, rfl⟩ := (show ∃ t, iv = Value.str k t from ry)
  obtain ⟨es', n', ou, hl', hk', low, hn, hr⟩ := g
  have hm3 := PySem.W.mapOf_K (prog := X.prog) (w := X.w) I3.kIn hl' hk'
  refine call_meetsIn PySem.F.slot_dict_get hm3.typeIs PySem.F.entry_dict_get (PySem.F.args_dict_get_3 _ _ _) (meets_dict_get_default (strKind X.prog X.w) a (strKind_is X.prog X.w k t) low fv) ⟨_, hm3, ?_⟩
  rw [PySem.W.find_K hl' hn]
  rcases hr with ⟨v, u, rfl, rfl, rv⟩ | ⟨rfl, rfl⟩
  · exact ⟨v, H3, I3.tok _, rv, q3⟩
  · exact ⟨z, H3, I3.tok _, rz, q3⟩
end
/-! ### rules within a comprehension: the written part by its name -/
section
variable {X : Cx}
theorem ix_tupK (K : PySem.W.Frag) (h : X.K = K := by rfl) : IxR X (rIxT K) := h ▸ ix_tup
theorem ix_listK (K : PySem.W.Frag) (h : X.K = K := by rfl) : IxR X (rIxL K) := h ▸ ix_list
theorem call_len_seqK (K : PySem.W.Frag) (h : X.K = K := by rfl) : CallR X (.builtin "len") (fun xs H Q => ∃ p ys, xs = [V.ref p] ∧ (SqL K H p ys ∨ SqT K H p ys) ∧ Q (.int (ys.length : Nat)) H) := h ▸ call_len_seq
theorem op_in_seqK (K : PySem.W.Frag) (h : X.K = K := by rfl) : OpR X (compareOp .In) (rIn K false) := h ▸ op_in_seq
theorem op_notIn_seqK (K : PySem.W.Frag) (h : X.K = K := by rfl) : OpR X (compareOp .NotIn) (rIn K true) := h ▸ op_notIn_seq
end
end SH

set_option Elab.async false
set_option linter.all false
set_option maxRecDepth 100000
namespace SH
open PySem L2
def topS (i : Nat) : Stmt := PySem.Challenge.pw_stealhall_k40_plain_order.main.body.getD i (.Pass ⟨0, 0, 0, 0⟩)
end SH


set_option Elab.async false
set_option linter.all false
set_option maxRecDepth 100000
namespace SH
open PySem L2
abbrev sBag : Stmt := topS 5
abbrev sTake : Stmt := topS 6
theorem scBag : FnScope ["_law_script", "_law_k", "_law_cell"] ["_law_script", "_law_k"] (defScope sBag) := ⟨rfl, rfl, rfl, by decide +kernel, rfl, by decide +kernel, by decide +kernel⟩
theorem scTake : FnScope ["_law_bag_here", "_law_many", "_law_digit", "_law_primes", "_law_step", "_law_base", "_law_found", "_law_prime"] ["_law_bag_here", "_law_many"] (defScope sTake) := ⟨rfl, rfl, rfl, by decide +kernel, rfl, by decide +kernel, by decide +kernel⟩
/-- the names of the built-ins are free -/
structure Bi (mg : Str → Option Value) : Prop where
  len : mg "len" = none
  abs : mg "abs" = none
  int : mg "int" = none
  str : mg "str" = none
  range : mg "range" = none
  max : mg "max" = none
  min : mg "min" = none
  isinstance : mg "isinstance" = none
  all : mg "all" = none
/-- a def that can be called -/
structure Fk (P : Program) (w : World) (K : PySem.W.Frag) (mg : Str → Option Value) (base : Heap) (lv : Nat) (x : Str) (f : Addr) (fd : FuncData) (ps : List Str) (sp : Sp) : Prop where
  G : FnOk P w K mg base CX0 lv f fd ps sp
  m : mg x = some (.ref f)
  k : PySem.W.keepIn K (.ref f) = true
  b : Binds K fd ps []
/-- a bag from which n can be taken -/
def Bag (H : Hp) (b : Addr) (n : Nat) : Prop := ∃ x y z : Int, H b = some (.lst [.int x, .int y, .int z]) ∧ 0 ≤ x ∧ 0 ≤ y ∧ y ≤ 4294967296 ∧ 0 ≤ z ∧ z + n ≤ 16777216
theorem Bag.less {H : Hp} {b : Addr} {n m : Nat} (h : Bag H b n) (hm : m ≤ n) : Bag H b m := by
  obtain ⟨x, y, z, e, h1, h2, h3, h4, h5⟩ := h
  exact ⟨x, y, z, e, h1, h2, h3, h4, by omega⟩
theorem Bag.same {H H' : Hp} {b : Addr} {n : Nat} (h : Bag H b n) (s : Same H H') : Bag H' b n := by
  obtain ⟨x, y, z, e, r⟩ := h
  exact ⟨x, y, z, s _ _ e, r⟩
theorem Bag.lst {H : Hp} {b : Addr} {n : Nat} (h : Bag H b n) : ∃ ys, H b = some (.lst ys) := by
  obtain ⟨x, y, z, e, _⟩ := h
  exact ⟨_, e⟩
def spBag (K : PySem.W.Frag) : Sp := fun vs H Q _ => ∃ (a : Addr) (ns : List Int) (k : Int), vs = [.ref a, .int k] ∧ SqL K H a (ns.map V.int) ∧ 0 ≤ k ∧ k ≤ 63 ∧
  ∀ b H', Same H H' → H b = none → Bag H' b 16000000 → Q (.ref b) H'
def spTake : Sp := fun vs H Q _ => ∃ (b : Addr) (m : Int) (n : Nat), vs = [.ref b, .int m] ∧ 0 < m ∧ m < 1073741824 ∧ Bag H b (n + 1) ∧
  ∀ (d : Int) (H' : Hp), 0 ≤ d → d < m → Bag H' b n → But b H H' → Q (.int d) H'
theorem bit01 (b : Bool) : -(2 ^ 64) < (if b = true then (1 : Int) else 0) ∧ (if b = true then (1 : Int) else 0) < 2 ^ 64 := by cases b <;> decide
theorem bit0 (b : Bool) : 0 ≤ (if b = true then (1 : Int) else 0) := by cases b <;> decide
section
variable {P : Program} {w : World} {K : PySem.W.Frag} {mg : Str → Option Value} {base : Heap}
theorem ok_bag {f : Addr} {fd : FuncData} (F : Fun K "_law_bag" "_law_bag" sBag f fd) (T : Bi mg) : FnOk P w K mg base CX0 1 f fd ["_law_script", "_law_k"] (spBag K) := by
  refine F.ok scBag (fun vs H Q E h => ?_) (fun cdv A outer s H vs Q E hr h => ?_)
  · obtain ⟨a, ns, k, rfl, _⟩ := h
    rfl
  obtain ⟨a, ns, k, rfl, hS, h0, h1, q⟩ := h
  refine ⟨_, (pss_cons (ps_set (i := 2) scBag.nd rfl (Or.inl rfl) (pe_op op_add (pe_op op_mul pe_int (pv 1)) pe_int))
    (C8.pss_cut (ps_if (pt_cmpR op_lt (pv 1) (pe_callB call_len_seq (by rfl) T.len (by decide +kernel) (pa_cons (pv 0) pa_nil)) (nomark _))
      (pss_one (ps_set (i := 2) scBag.nd rfl (Or.inl rfl) (pe_ix ix_list (pv 0) (pv 1) (fun _ _ => rfl))))
      pss_nil)
    (pss_one (ps_ret (pe_lst (pa_cons (pe_op op_mul (pe_callB call_abs (by rfl) T.abs (by decide +kernel) (pa_cons (pv 2) pa_nil)) (pe_callTy call_int1 (by rfl) T.int (by decide +kernel) (pa_cons (pe_cmpR op_ge (pe_callB call_abs (by rfl) T.abs (by decide +kernel) (pa_cons (pv 2) pa_nil)) (pe_op op_pow pe_int pe_int) (nomark _)) pa_nil))) (pa_cons (pe_op op_add (pe_op op_mod (pv 2) pe_int) (pe_op op_mul pe_int (pv 1))) (pa_cons pe_int pa_nil)))))))), ?_⟩
  have hl : (ns.map V.int).length = ns.length := List.length_map _
  refine ⟨_, rfl, _, _, rfl, rfl, .inl ⟨by decide, by decide⟩, _, _, rfl, rfl, ?_⟩
  refine ⟨fun σ' H' => ∃ c : Int, σ' = [some (.ref a), some (.int k), some (.int c)] ∧ H' = H, ?_, ?_⟩
  · refine ⟨_, rfl, _, rfl, a, _, rfl, .inl hS, _, _, rfl, rfl, _, rfl, ?_⟩
    refine ite2 (fun c => ?_) (fun c => ?_)
    · have c' := of_decide_eq_true c
      rw [hl] at c'
      have hk : k.toNat < ns.length := by omega
      refine ⟨_, rfl, _, rfl, a, _, k, .int ns[k.toNat], rfl, rfl, hS, ?_, ?_⟩
      · have q : atI (ns.map V.int) ((k.toNat : Nat) : Int) = some (.int ns[k.toNat]) := atI_nat (by rw [List.getElem?_map, List.getElem?_eq_getElem hk] <;> rfl)
        rwa [show ((k.toNat : Nat) : Int) = k by omega] at q
      · exact ⟨_, rfl, rfl⟩
    · exact ⟨_, rfl, rfl⟩
  · rintro σ' H' ⟨c, rfl, rfl⟩
    refine ⟨_, rfl, _, rfl, _, rfl, _, rfl, _, _, rfl, rfl, ⟨by decide, by decide, by decide⟩, _, _, rfl, rfl, .inr ⟨_, rfl, ?_⟩⟩
    refine ⟨_, _, rfl, rfl, .inr ?_, ?_⟩
    · exact bit01 _
    refine ⟨_, rfl, _, _, rfl, rfl, (by show (0 : Int) < 2147483647; decide), _, rfl, _, _, rfl, rfl, .inl ⟨by decide, by decide⟩, _, _, rfl, rfl, ?_⟩
    refine ⟨by show 3 ≤ sizeLine; decide, fun b hb => ?_⟩
    refine q b _ (same_new hb _) hb ⟨_, _, _, upd_same, ?_, ?_, ?_, Int.le_refl 0, by decide⟩
    · show 0 ≤ (if c < 0 then -c else c) * (if decide ((10 : Int) ^ 18 ≤ (if c < 0 then -c else c)) = true then (1 : Int) else 0)
      refine Int.mul_nonneg ?_ ?_
      · split <;> omega
      · exact bit0 _
    · have := Int.emod_nonneg c (show (2147483647 : Int) ≠ 0 by decide)
      show 0 ≤ c % 2147483647 + 31 * k
      omega
    · have := Int.emod_lt_of_pos c (show (0 : Int) < 2147483647 by decide)
      show c % 2147483647 + 31 * k ≤ 4294967296
      omega
theorem pow3 {a : Int} (h0 : 0 ≤ a) (h : a < 4611686018427387904) : CPow a 3 := ⟨by decide, by decide, by omega⟩
def primes : List Int := [2147483647, 2147483629, 2147483587, 2147483579, 2147483563, 2147483549, 2147483543, 2147483497, 2147483489, 2147483477, 2147483423, 2147483399]
theorem primes_at {z : Int} : ∃ p : Int, atI (primes.map V.int) (z % 12) = some (.int p) ∧ 0 < p ∧ p < 2147483648 := by
  have h0 := Int.emod_nonneg z (show (12 : Int) ≠ 0 by decide)
  have h1 := Int.emod_lt_of_pos z (show (0 : Int) < 12 by decide)
  have hk : (z % 12).toNat < primes.length := by show (z % 12).toNat < 12; omega
  have q : atI (primes.map V.int) (((z % 12).toNat : Nat) : Int) = some (.int primes[(z % 12).toNat]) := atI_nat (by rw [List.getElem?_map, List.getElem?_eq_getElem hk] <;> rfl)
  rw [show (((z % 12).toNat : Nat) : Int) = z % 12 by omega] at q
  have all : ∀ p ∈ primes, 0 < p ∧ p < 2147483648 := by decide
  exact ⟨_, q, all _ (List.getElem_mem hk)⟩
theorem base_le {y z : Int} (h2 : 0 ≤ y) (h3 : y ≤ 4294967296) (h4 : 0 ≤ z) (h5 : z ≤ 16777217) : 0 ≤ y * (2 * z + 1) + 7919 * z * z + 17 ∧ y * (2 * z + 1) + 7919 * z * z + 17 < 4611686018427387904 := by
  have a1 : y * (2 * z + 1) ≤ 4294967296 * 67108864 := Int.mul_le_mul h3 (by omega) (by omega) (by omega)
  have a2 : 0 ≤ y * (2 * z + 1) := Int.mul_nonneg h2 (by omega)
  have b1 : 7919 * z * z ≤ 132858781423 * 16777217 := Int.mul_le_mul (by omega) h5 h4 (by omega)
  have b2 : 0 ≤ 7919 * z * z := Int.mul_nonneg (by omega) h4
  omega
theorem ok_take {f : Addr} {fd : FuncData} (F : Fun K "_law_take" "_law_take" sTake f fd) : FnOk P w K mg base CX0 1 f fd ["_law_bag_here", "_law_many"] spTake := by
  refine F.ok scTake (fun vs H Q E h => ?_) (fun cdv A outer s H vs Q E hr h => ?_)
  · obtain ⟨b, m, n, rfl, _⟩ := h
    rfl
  obtain ⟨b, m, n, rfl, hm0, hm1, ⟨x, y, z, hb, hx, hy, hy1, hz, hz1⟩, q⟩ := h
  refine ⟨_, (pss_cons (ps_if (pt_cmpR op_gt (pe_ix ix_list (pv 0) pe_int (fun _ _ => rfl)) pe_int (nomark _))
      (pss_cons (ps_set (i := 2) scTake.nd rfl (Or.inl rfl) (pe_op op_mod (pe_ix ix_list (pv 0) pe_int (fun _ _ => rfl)) (pv 1)))
    (pss_cons (ps_asg (pe_op op_fdiv (pe_ix ix_list (pv 0) pe_int (fun _ _ => rfl)) (pv 1)) (pg_sub (pv 0) pe_int set_list))
    (pss_one (ps_ret (pv 2)))))
      pss_nil)
    (pss_cons (ps_set (i := 3) scTake.nd rfl (Or.inl rfl) (pe_tup (pa_cons pe_int (pa_cons pe_int (pa_cons pe_int (pa_cons pe_int (pa_cons pe_int (pa_cons pe_int (pa_cons pe_int (pa_cons pe_int (pa_cons pe_int (pa_cons pe_int (pa_cons pe_int (pa_cons pe_int pa_nil))))))))))))))
    (pss_cons (ps_asg (pe_op op_add (pe_ix ix_list (pv 0) pe_int (fun _ _ => rfl)) pe_int) (pg_sub (pv 0) pe_int set_list))
    (pss_cons (ps_set (i := 4) scTake.nd rfl (Or.inl rfl) (pe_ix ix_list (pv 0) pe_int (fun _ _ => rfl)))
    (pss_cons (ps_set (i := 5) scTake.nd rfl (Or.inl rfl) (pe_op op_add (pe_op op_add (pe_op op_mul (pe_ix ix_list (pv 0) pe_int (fun _ _ => rfl)) (pe_op op_add (pe_op op_mul pe_int (pv 4)) pe_int)) (pe_op op_mul (pe_op op_mul pe_int (pv 4)) (pv 4))) pe_int))
    (pss_cons (ps_set (i := 6) scTake.nd rfl (Or.inl rfl) (pe_op op_mod (pe_op op_pow (pv 5) pe_int) (pe_ix ix_tup (pv 3) (pe_op op_mod (pv 4) pe_int) (fun _ _ => rfl))))
    (pss_cons (ps_set (i := 7) scTake.nd rfl (Or.inl rfl) (pe_ix ix_tup (pv 3) (pe_op op_mod (pe_op op_add (pv 4) pe_int) pe_int) (fun _ _ => rfl)))
    (pss_one (ps_ret (pe_op op_mod (pe_op op_fdiv (pe_op op_mod (pe_op op_mul (pv 6) (pe_op op_add (pe_op op_fdiv (pv 6) pe_int) pe_int)) (pv 7)) pe_int) (pv 1))))))))))), ?_⟩
  have i0 : ∀ {u v t : V}, atI [u, v, t] 0 = some u := fun {u v t} => atI_nat (j := 0) rfl
  have i1 : ∀ {u v t : V}, atI [u, v, t] 1 = some v := fun {u v t} => atI_nat (j := 1) rfl
  have i2 : ∀ {u v t : V}, atI [u, v, t] 2 = some t := fun {u v t} => atI_nat (j := 2) rfl
  refine ⟨_, rfl, b, _, 0, _, rfl, rfl, SqL.of hb, i0, _, _, rfl, rfl, _, rfl, ?_⟩
  refine ite2 (fun c => ?_) (fun c => ?_)
  · refine ⟨_, rfl, b, _, 0, _, rfl, rfl, SqL.of hb, i0, _, rfl, _, _, rfl, rfl, hm0, ?_⟩
    refine ⟨_, rfl, b, _, 0, _, rfl, rfl, SqL.of hb, i0, _, rfl, _, _, rfl, rfl, ⟨hm0, hm1⟩, ?_⟩
    refine ⟨_, rfl, b, _, 0, 0, rfl, rfl, hb, rfl, ?_⟩
    refine ⟨_, rfl, ?_⟩
    refine q _ _ (Int.emod_nonneg x (by omega)) (Int.emod_lt_of_pos x hm0) ⟨_, y, z, upd_same, Int.ediv_nonneg hx (by omega), hy, hy1, hz, by omega⟩ fun a o na e => ?_
    rw [upd_ne na]
    exact e
  · refine ⟨by show 12 ≤ sizeLine; decide, fun t ht => ?_⟩
    have nt : b ≠ t := ne_of_none hb ht
    have hb1 : (upd H t (.tup (primes.map V.int))) b = some (.lst [.int x, .int y, .int z]) := by rw [upd_ne nt]; exact hb
    refine ⟨_, rfl, b, _, 2, _, rfl, rfl, SqL.of hb1, i2, _, _, rfl, rfl, ?_⟩
    refine ⟨_, rfl, b, _, 2, 2, rfl, rfl, hb1, rfl, ?_⟩
    have hb2 : (upd (upd H t (.tup (primes.map V.int))) b (.lst [.int x, .int y, .int (z + 1)])) b = some (.lst [.int x, .int y, .int (z + 1)]) := upd_same
    have ht2 : (upd (upd H t (.tup (primes.map V.int))) b (.lst [.int x, .int y, .int (z + 1)])) t = some (.tup (primes.map V.int)) := by rw [upd_ne (Ne.symm nt), upd_same]
    refine ⟨_, rfl, b, _, 2, _, rfl, rfl, SqL.of hb2, i2, ?_⟩
    obtain ⟨c0, c1⟩ := base_le (y := y) (z := z + 1) hy hy1 (by omega) (by omega)
    refine ⟨_, rfl, b, _, 1, _, rfl, rfl, SqL.of hb2, i1, _, rfl, _, _, rfl, rfl, .inl ⟨by decide, by decide⟩, _, _, rfl, rfl, _, _, rfl, rfl, .inl ⟨by omega, by omega⟩, ?_⟩
    refine ⟨_, rfl, _, _, rfl, rfl, .inl ⟨by decide, by decide⟩, _, rfl, _, _, rfl, rfl, .inl ⟨by omega, by omega⟩, _, _, rfl, rfl, _, _, rfl, rfl, ?_⟩
    obtain ⟨p1, e1, p1a, p1b⟩ := primes_at (z := z + 1)
    obtain ⟨p2, e2, p2a, p2b⟩ := primes_at (z := z + 1 + 5)
    refine ⟨_, rfl, _, _, rfl, rfl, pow3 c0 c1, _, rfl, _, rfl, _, _, rfl, rfl, (by show (0 : Int) < 12; decide), t, _, _, _, rfl, rfl, SqT.of ht2, e1, _, _, rfl, rfl, p1a, ?_⟩
    refine ⟨_, rfl, _, rfl, _, _, rfl, rfl, _, _, rfl, rfl, (by show (0 : Int) < 12; decide), t, _, _, _, rfl, rfl, SqT.of ht2, e2, ?_⟩
    have f0 := Int.emod_nonneg ((y * (2 * (z + 1) + 1) + 7919 * (z + 1) * (z + 1) + 17) ^ 3) (show p1 ≠ 0 by omega)
    have f1 := Int.emod_lt_of_pos ((y * (2 * (z + 1) + 1) + 7919 * (z + 1) * (z + 1) + 17) ^ 3) p1a
    refine ⟨_, rfl, _, rfl, _, _, rfl, rfl, ⟨by decide, by decide⟩, _, _, rfl, rfl, _, _, rfl, rfl, .inl ⟨Int.lt_of_lt_of_le (by decide) f0, Int.lt_trans f1 (by omega)⟩, _, rfl, _, _, rfl, rfl, p2a, _, _, rfl, rfl, ⟨by decide, by decide⟩, _, rfl, _, _, rfl, rfl, hm0, ?_⟩
    refine q _ _ (Int.emod_nonneg _ (by omega)) (Int.emod_lt_of_pos _ hm0) ⟨x, y, z + 1, hb2, hx, hy, hy1, by omega, by omega⟩ fun a o na e => ?_
    rw [upd_ne na, upd_ne (ne_of_none e ht)]
    exact e
end
end SH

set_option Elab.async false
set_option linter.all false
set_option maxRecDepth 100000
/-! Sets of unlike texts: set(tuple), {.. for .. in ..}, and how many stand in one. -/
namespace SHSet
open PySem PySem.Spec PyProof.Rows
/-- a set in which just these unlike texts stand -/
def TxtSet (prog : Program) (w : World) (h : Heap) (D : Addr) (xs : List Str) : Prop := h.SetOf (strKind prog w) D (fun y => decide (y ∈ xs)) xs.length
section
variable {prog : Program} {w : World} {A : Around} {D : Addr}
theorem TxtSet.keep {h k : Heap} {xs : List Str} (q : TxtSet prog w h D xs) (m : ∀ o, h.get? D = some o → k.get? D = some o) : TxtSet prog w k D xs := by
  obtain ⟨o, es, ep, tb, ho, rest⟩ := q
  exact ⟨o, es, ep, tb, m _ ho, rest⟩
/-- one more text, if it isn't there -/
def addT (xs : List Str) (y : Str) : List Str := if y ∈ xs then xs else xs ++ [y]
/-- each once -/
def dd (xs : List Str) : List Str := xs.foldl addT []
theorem dd_snoc (xs : List Str) (y : Str) : dd (xs ++ [y]) = addT (dd xs) y := by
  unfold dd
  rw [List.foldl_append]
  rfl
theorem addT_len (xs : List Str) (y : Str) : (addT xs y).length ≤ xs.length + 1 := by
  unfold addT
  split
  · omega
  · rw [List.length_append, List.length_singleton]
    omega
theorem dd_len (n : Nat) : ∀ xs : List Str, xs.length = n → (dd xs).length ≤ n := by
  induction n with
  | zero =>
    intro xs h
    rw [List.eq_nil_of_length_eq_zero h]
    exact Nat.le_refl _
  | succ n ih =>
    intro xs h
    have hne : xs ≠ [] := fun z => by rw [z] at h; cases h
    have e := (List.dropLast_concat_getLast hne).symm
    have hl : xs.dropLast.length = n := by rw [List.length_dropLast, h]; rfl
    have := ih xs.dropLast hl
    have a := addT_len (dd xs.dropLast) (xs.getLast hne)
    rw [e, dd_snoc]
    omega
theorem dd_fold : ∀ (xs acc : List Str), (acc ++ xs).Nodup → xs.foldl addT acc = acc ++ xs
  | [], acc, _ => (List.append_nil acc).symm
  | x :: r, acc, h => by
    have hx : x ∉ acc := fun m => by
      have := List.nodup_append.mp h
      exact this.2.2 x m x List.mem_cons_self rfl
    show r.foldl addT (addT acc x) = acc ++ x :: r
    have e : addT acc x = acc ++ [x] := by unfold addT; rw [if_neg hx]
    have e2 : acc ++ x :: r = (acc ++ [x]) ++ r := by rw [List.append_assoc]; rfl
    rw [e, e2]
    rw [e2] at h
    exact dd_fold r (acc ++ [x]) h
theorem dd_nd {xs : List Str} (h : xs.Nodup) : dd xs = xs := dd_fold xs [] h
theorem TxtSet.one {xs : List Str} {y : Str} {t : Tok} {s : Shared} {E : Value → Shared → Prop} {Q : Bool → Shared → Prop} (q : TxtSet prog w s.heap D xs) (few : xs.length + 1 < scanBound)
    (h : ∀ k, s.heap.SameBut D k → TxtSet prog w k D (addT xs y) → ∀ r, Q r { s with heap := k, toks := s.toks + 1 }) : wpAny (model prog w) A (setAdd D (.str y t)) Q E s := by
  unfold setAdd
  refine wpAny_holding (wpAny_bind ((strKind prog w).pyHash (k := y) (strKind_is prog w y t) ?_))
  refine wpAny_setAddHashed_of (knd := strKind prog w) (s := { s with toks := s.toks + 1 }) (strKind_is prog w y t) rfl q few fun k sb st => h k sb ?_ _
  unfold addT
  by_cases hy : y ∈ xs
  · rw [if_pos hy]
    refine SetOf_congr st (fun z => ?_) (by rw [decide_eq_true hy]; rfl)
    by_cases e : z = y
    · subst e; simp [hy]
    · simp [e]
  · rw [if_neg hy]
    refine SetOf_congr st (fun z => ?_) ?_
    · simp [List.mem_append]
    · rw [if_neg (by rw [decide_eq_false hy]; exact Bool.false_ne_true), List.length_append]
      rfl
end
section
variable {prog : Program} {w : World} {A : Around} {R : Result → Shared → Prop} {J D : Addr} {ft wt : List Addr} {Gs : Array GenState → Array GenState → Prop} {n : Nat} {Pi : Nat → Value → Prop} {Sat : Nat → Shared → Prop}
theorem texts_loop (W : WalksS prog w A.in1 J ft wt Gs n Pi Sat) (out : D ∉ ft) {xs : List Str} (len : xs.length = n) (few : n + 1 < scanBound) (val : ∀ i v, Pi i v → ∃ t, v = .str (xs.getD i Str.empty) t) :
    ∀ (m i : Nat) (s : Shared), i + m = n → Sat i s → TxtSet prog w s.heap D (dd (xs.take i)) → (∀ z, Moved (D :: wt) Gs s z → TxtSet prog w z.heap D (dd xs) → R (.ok (.ret .none)) z) →
      codeAny (model prog w) A (.builtin "set.update.loop" ⟨[.ref D, .ref J], []⟩) R s := by
  have outW : D ∉ wt := fun q => out (W.sub _ q)
  have wide : ∀ b ∈ wt, b ∈ D :: wt := fun b q => List.mem_cons_of_mem _ q
  intro m
  induction m with
  | zero =>
    intro i s him st q fin
    have ei : xs.take i = xs := List.take_of_length_le (by omega)
    rw [ei] at q
    refine codeAny_builtin PyProof.Rows.F.entry_set_update_loop (by
      rw [Around.under_plainId PyProof.Rows.F.plain_set_update_loop _]
      refine (show wpAny _ A.in1 (pyNext (.ref J) >>= _) _ _ s from wpAny_bind (W.done s _ _ (by rw [show n = i by omega]; exact st) fun z mv => ?_))
      exact (show wpAny _ A.in1 (ret Value.none) _ _ z from wpAny_pure (fin z (mv.mono wide) (q.keep fun o ho => mv.heap D o outW ho))))
  | succ m ih =>
    intro i s him st q fin
    have lt : i < xs.length := by omega
    refine codeAny_builtin PyProof.Rows.F.entry_set_update_loop (by
      rw [Around.under_plainId PyProof.Rows.F.plain_set_update_loop _]
      refine (show wpAny _ A.in1 (pyNext (.ref J) >>= _) _ _ s from wpAny_bind (W.item i s _ _ (by omega) st fun v z pv stz mv => ?_))
      obtain ⟨t, rfl⟩ := val i v pv
      have qz : TxtSet prog w z.heap D (dd (xs.take i)) := q.keep fun o ho => mv.heap D o outW ho
      have here : xs.getD i Str.empty = xs[i] := by rw [List.getD_eq_getElem?_getD, List.getElem?_eq_getElem lt]; rfl
      have more : xs.take (i + 1) = xs.take i ++ [xs.getD i Str.empty] := by rw [here, List.take_add_one, List.getElem?_eq_getElem lt]; rfl
      refine (show wpAny _ A.in1 (holding [Value.str (xs.getD i Str.empty) t] (setAdd D (.str (xs.getD i Str.empty) t)) >>= _) _ _ z from wpAny_bind (wpAny_holding ?_))
      refine qz.one (by have := dd_len i (xs.take i) (by rw [List.length_take]; omega); omega) fun k sb qk r => ?_
      rw [← dd_snoc, ← more] at qk
      refine wpAny_pure ⟨plainId_quiet PyProof.Rows.F.plain_set_update_loop _, ih (i + 1) _ (by omega) (W.frame _ z _ _ stz (Nat.le_succ _) fun b hb o e => ?_) qk fun u mu qu => ?_⟩
      · exact (sb.2 b (fun q : b = D => out (q ▸ hb))).trans e
      · refine fin u (Moved.trans W.gtrans ((mv.mono wide).then_heap (Nat.le_succ _) fun b o hb e => ?_) mu) qu
        exact (sb.2 b (fun q : b = D => hb (by rw [q]; exact List.mem_cons_self))).trans e)
end
section
variable {prog : Program} {w : World} {A : Around} {E : Value → Shared → Prop} {s : Shared}
/-- an empty set, just made -/
abbrev bareSet (led : Bool) : Obj := { cls := .type "set", dict := none, data := .set #[] 0 (.fresh 0 0 led) }
theorem txt0 {h : Heap} {D : Addr} {led : Bool} (g : h.get? D = some (bareSet led)) : TxtSet prog w h D [] :=
  SetOf_congr ((setObjOf_fresh (knd := strKind prog w) led).setOf g (by decide)) (fun _ => rfl) rfl
/-- set.__init__ over a tuple of texts -/
theorem init_texts {D l : Addr} {items : Array Value} {xs : List Str} {led : Bool} {Q : Value → Shared → Prop} (quiet : A.handled = none) (hl : s.heap.IsTuple l items) (hx : StrsAre items.toList xs) (few : xs.length + 1 < scanBound) (hD : D < s.heap.objs.size) (hDl : l < D) (g : s.heap.get? D = some (bareSet led))
    (h : ∀ (k : Heap) (tk : Nat), TxtSet prog w k D (dd xs) → (∀ b o, b < D → s.heap.get? b = some o → k.get? b = some o) → Q .none { s with heap := k, toks := tk }) :
    codeAny (model prog w) A (.call (.builtin "set.__init__") ⟨[.ref D, .ref l], []⟩) (wants Q E) s := by
  have ty : s.TypeIs (.ref D) "set" := ⟨_, g, rfl⟩
  refine codeAny_call_builtin PySem.F.called_set.init.plain PySem.F.entry_set_init (check_set_init_1 ty ?_)
  obtain ⟨⟨c1, c2, c3, c4⟩, at_l, k1, k2, k3⟩ := hl
  simp only at k1 k3
  subst k1
  subst k3
  have f1 := PySem.F.sub_tuple_set
  have f2 := PySem.F.sub_tuple_frozenset
  have f3 : (Value.type "tuple" == Value.type "dict") = false := by decide
  have whole : s.heap.IsTuple l items := ⟨_, at_l, rfl, k2, rfl⟩
  unfold Builtin.«set.__init__» noKeywords Builtin.Frozenset.updateFrom
  generalize hit : pyIter = PI
  wp_walk
  subst hit
  refine wpAny_pyIter_tuple whole (wpAny_bind (wpAny_runValue ?_))
  have calm : A.in1.in1.handled = none := by simp [quiet]
  have lJ : l ≠ s.heap.objs.size := Nat.ne_of_lt (Nat.lt_trans hDl hD)
  have hsz : xs.length = items.size := by rw [← StrsAre.len_eq hx, Array.length_toList]
  refine texts_loop (prog := prog) (w := w) (A := A.in1) ((Walks.tuple calm _ l lJ items).toS) (D := D) ?_ hsz (by omega) (fun i v hv => SS.strs_at hx i v (by rw [Array.getElem?_toList]; exact hv)) items.size 0 _ (by omega) ?_ ?_ fun z mv qz => ?_
  · simp only [List.mem_cons, List.mem_singleton, List.not_mem_nil, or_false, not_or]
    exact ⟨Nat.ne_of_lt hD, Nat.ne_of_gt hDl⟩
  · exact ⟨⟨_, Heap.get?_push_size _ rfl, rfl, rfl⟩, whole.push _⟩
  · exact txt0 (led := led) (Heap.get?_push_of_some _ g)
  · obtain ⟨hz, gz, dz, tz, oz⟩ := z
    obtain rfl : gz = s.gens := mv.gens
    obtain rfl : dz = s.drawn := mv.drawn
    obtain rfl : oz = s.os := mv.os
    refine wpAny_pure (wpAny_pure (h hz tz qz fun b o hb e => mv.heap b o ?_ (Heap.get?_push_of_some _ e)))
    simp only [List.mem_cons, List.mem_singleton, List.not_mem_nil, or_false, not_or]
    exact ⟨Nat.ne_of_lt hb, Nat.ne_of_lt (Nat.lt_trans hb hD)⟩
/-- set(tuple of unlike texts) -/
theorem call_texts {l : Addr} {items : Array Value} {xs : List Str} {Q : Value → Shared → Prop} (quiet : A.handled = none) (hl : s.heap.IsTuple l items) (hx : StrsAre items.toList xs) (few : xs.length + 1 < scanBound)
    (h : ∀ (k : Heap) (tk : Nat), TxtSet prog w k s.heap.objs.size (dd xs) → (∀ b o, b < s.heap.objs.size → s.heap.get? b = some o → k.get? b = some o) → Q (.ref s.heap.objs.size) { s with heap := k, toks := tk }) :
    wpAny (model prog w) A (call (.type "set") [.ref l]) Q E s := by
  obtain ⟨c, tl, f1⟩ := PySem.F.called_set.mro
  have f2 := PySem.F.called_set.made
  have f3 := PySem.F.called_set.sub
  refine wpAny_call (codeAny_of_tree (show wpAny _ _ (callAny (.type "set") _) _ _ _ from wpAny_pure ⟨Code.quiet_builtin _ (by decide +kernel), codeAny_builtin PySem.F.entry_type_call ?_⟩))
  rw [Around.under_plain (weight_type_call_type "set" [.ref l] []) rfl]
  have f4 := PySem.F.called_set.notType
  have f5 := PySem.F.called_set.canCreate
  have f6 := PySem.F.typeCall_set_1 (.ref l)
  repeat (any_goals (first | assumption | wp_step))
  refine codeAny_mono (code_set_new_1 (.ref l) (E := E) (Q₁ := fun o z => ∃ led : Bool, o = .ref s.heap.objs.size ∧ z = { s with heap := s.heap.push (bareSet led) }) fun led => ⟨led, rfl, rfl⟩) fun r z hr => ?_
  cases r with
  | error e => exact hr
  | ok fl =>
    cases fl with
    | ret obj =>
      obtain ⟨led, rfl, rfl⟩ := hr
      have g : (s.heap.push (bareSet led)).get? s.heap.objs.size = some (bareSet led) := Heap.get?_push_size _ rfl
      have f7 : Shared.TypeIs { s with heap := s.heap.push (bareSet led) } (.ref s.heap.objs.size) "set" := ⟨_, g, rfl⟩
      have f8 := PySem.F.called_set.init.lookup
      have f9 := PySem.F.called_set.init.bind (.ref s.heap.objs.size)
      repeat (any_goals (first | assumption | wp_step))
      have hlt : l < s.heap.objs.size := by
        obtain ⟨o, ho, _⟩ := hl
        exact Heap.lt_size ho
      refine codeAny_mono (init_texts (prog := prog) (w := w) (E := E) (Q := fun r z => r = .none ∧ ∃ k tk, z = { s with heap := k, toks := tk } ∧ TxtSet prog w k s.heap.objs.size (dd xs) ∧ ∀ b o, b < s.heap.objs.size → s.heap.get? b = some o → k.get? b = some o) (led := led) (by simp [quiet]) (hl.push _) hx few (by rw [Heap.size_push]; exact Nat.lt_succ_self _) hlt g fun k tk q kp => ⟨rfl, k, tk, rfl, q, fun b o hb e => kp b o hb (Heap.get?_push_of_some _ e)⟩) fun r z hr => ?_
      cases r with
      | error e => exact hr
      | ok fl =>
        cases fl with
        | ret r =>
          obtain ⟨rfl, k, tk, rfl, q, kp⟩ := hr
          repeat (any_goals (first | assumption | wp_step))
          exact h k tk q kp
        | _ => exact hr.elim
    | _ => exact hr.elim
end
end SHSet
namespace SH
open PySem PySem.Spec PyProof.Rows L2 SHSet
/-- len(set(t)), t a tuple of texts -/
def tLenTxt (K : PySem.W.Frag) (ta : TE) : TE := fun σ H Q => ta σ H fun x H1 => ∃ (l : Addr) (xs : List Str), x = .ref l ∧ SqT K H1 l (xs.map V.str) ∧ xs.length ≤ 1000 ∧ Q (.int ((dd xs).length : Nat)) H1
section
variable {X : Cx}
theorem pe_lenTxt {a : Expr} {ta : TE} {p p2 q pos : Pos} (hg : Gl X "len") (ml : X.mg "len" = none) (hg2 : Gl X "set") (ms : X.mg "set" = none) (ha : PE X a ta) (quiet : X.calm = true := by rfl)
    (plain : starEach [a] X.env = (false, eval a X.env) :: starEach [] X.env := by rfl) : PE X (.Call (.Name "len" p) [.Call (.Name "set" p2) [a] [] q] [] pos) (tLenTxt X.K ta) := by
  refine ⟨fun pins s σ H Q I h => Call_ (ld_blt I hg ml boot_len (callWith_builtin1 (args_cons (Call_ (ld_blt I hg2 ms boot_set ?_)) rfl) rfl rfl))⟩
  refine callWith_type1 (args_cons (thn (ha.run pins s σ H _ I h) fun v z ⟨x, H1, J, rx, l, xs, ex, tq, few, fin⟩ => args_nil ?_) plain) plain rfl
  subst ex
  cases rx
  obtain ⟨its, rv, tup, _⟩ := J.tuple tq
  have small : (dd xs).length ≤ 1000 := Nat.le_trans (dd_len xs.length xs rfl) few
  refine call_texts (J.ok.hd quiet) tup (xs := xs) (by simpa using strsAre_of rv) (by unfold scanBound; omega) fun k tk qs kp => args_nil ?_
  obtain ⟨o, es, ep, tb, h1, h2, h3, _, _, _, h4, h5⟩ := qs
  have J2 : Inv X pins σ H1 { z with heap := k, toks := tk } := J.kept fun b o e => kp b o (Heap.lt_size e) e
  exact call_len_set h1 h2 h3 h4 (by rw [h5]; omega) ⟨.int ((dd xs).length : Nat), H1, J2.tok _, ⟨_, by rw [h5]⟩, fin⟩
end
end SH

set_option Elab.async false
set_option linter.all false
set_option maxRecDepth 100000
set_option maxHeartbeats 2000000
/-! {e for x in xs}, e a text. -/
namespace SH
open PySem PySem.Spec PyProof.Rows L2 SHSet
/-- the set of texts at D -/
def TxtO (P : Program) (w : World) (D : Addr) (xs : List Str) : HO := .ext fun h => TxtSet P w h D xs
theorem txtO_ok {P : Program} {w : World} {H : Hp} {h : Heap} {D : Addr} {xs : List Str} (q : TxtSet P w h D xs) : ObjOk P w H h D (TxtO P w D xs) := by
  have q' := q
  obtain ⟨o, _, _, _, ho, _⟩ := q'
  exact ⟨q, ⟨o, ho⟩, fun h1 h2 p k => TxtSet.keep p k⟩
section
variable {X : Cx}
theorem add_txt {pins : List (Addr × Obj)} {σ : L2.St} {H : Hp} {s : Shared} {E : Value → Shared → Prop} {D : Addr} {xs : List Str} {z : Str} {t : Tok} {Q : Value → Shared → Prop} (I : Inv X pins σ H s) (hD : H D = some (TxtO X.prog X.w D xs)) (few : xs.length + 1 < scanBound)
    (h : ∀ s', Inv X pins σ (upd H D (TxtO X.prog X.w D (addT xs z))) s' → Q .none s') : wpAny (model X.prog X.w) X.A (call (.builtin "set.add") [.ref D, .str z t]) Q E s := by
  have q : TxtSet X.prog X.w s.heap D xs := (I.hok D _ hD).1
  refine call_set_add (knd := strKind X.prog X.w) (k := z) (strKind_is X.prog X.w z t) rfl q few fun k sb st => ?_
  have nw : TxtSet X.prog X.w k D (addT xs z) := by
    unfold addT
    by_cases hy : z ∈ xs
    · rw [if_pos hy]
      refine SetOf_congr st (fun y => ?_) (by rw [decide_eq_true hy]; rfl)
      by_cases e : y = z
      · subst e; simp [hy]
      · simp [e]
    · rw [if_neg hy]
      refine SetOf_congr st (fun y => ?_) ?_
      · simp [List.mem_append]
      · rw [if_neg (by rw [decide_eq_false hy]; exact Bool.false_ne_true), List.length_append]
        rfl
  have ex : ∃ u, k.get? D = some u := by
    have n2 := nw
    obtain ⟨o, _, _, _, ho, _⟩ := n2
    exact ⟨o, ho⟩
  exact h _ (I.write (e := D) (t' := s.toks + 1) (by rw [hD]; trivial) (.inl rfl) (fun b u hb hu => (sb.2 b hb).trans hu) ex (txtO_ok nw))
/-- the readings of {e for x in xs}: D the new set -/
def tTxc (P : Program) (w : World) (wi : TI) (g : TG) (te : TE) (vs : List Nat) : TE := fun σ H Q => wi σ H fun J H1 => ∀ D, H1 D = none → ∃ W : Nat → Nat → Hp → Prop, (∃ m, W 0 m (upd H1 D (TxtO P w D []))) ∧ ∀ i m H, W i m H →
  (J.stop i H ∧ Q (.ref D) H) ∨ (J.go i H ∧ ∃ Nx : Hp → Prop, (∀ H', Nx H' → ∃ m', m' < m ∧ W (i + 1) m' H') ∧ ∀ x H', J.yld i H x H' → g x (wipe σ vs) H' fun σ2 H2 => wipe σ2 vs = wipe σ vs ∧
    te σ2 H2 fun y H4 => ∃ (z : Str) (xs : List Str), y = .str z ∧ H4 D = some (TxtO P w D xs) ∧ xs.length + 1 < scanBound ∧ Nx (upd H4 D (TxtO P w D (addT xs z))))
abbrev freshSet (w : World) : Obj := { cls := .type "set", dict := none, data := .set #[] 0 (.fresh 0 0 (!w.params.followText "set-order")) }
theorem pe_txc {elt tg iter : Expr} {scope : Scope} {own : List (PySem.Str × Nat)} {pos : Pos} {wi : TI} {g : TG} {te : TE} (quiet : X.calm = true) (ndN : X.N.Nodup) (hi : PI X tg iter wi) (ok : BlkOk X.N X.env.scope scope own)
    (hg : ∀ (s : Shared) (H : Hp) (C : Addr) (cl : List (PySem.Str × Addr)) (fp : List Addr), PG (X.blk s H scope (compEnvC scope cl C X.env) fp) tg g)
    (he : ∀ (s : Shared) (H : Hp) (C : Addr) (cl : List (PySem.Str × Addr)) (fp : List Addr), PE (X.blk s H scope (compEnvC scope cl C X.env) fp) elt te) (fold : ∀ x, foldedSetIterable iter X.env x = pure x := by intro _; rfl) :
    PE X (.SetComp elt [⟨tg, iter, [], 0⟩] scope pos) (tTxc X.prog X.w wi g te (own.map (·.2))) := by
  refine ⟨fun pins s σ H Q I h => ?_⟩
  rw [PpSet.eval_SetComp]
  have fr : ∀ y ∈ scope.names, y.2 = .free → ∃ c, X.env.cells.lookup y.1 = some c := fun y hy e => (ok.free y hy e).elim (fun k => I.ok.has _ (.inl k)) fun k => I.ok.has _ (.inr k)
  refine wpAny_comprehension_free (use := none) rfl fold (closure_ok fr) ok.kind (fun y hy e => by rw [ok.uniq y hy, e]) (thn (hi.run pins s σ H _ I h) fun _ s1 hx => thn hx fun _ s2 ⟨it, fp, tn, J, H2, e, I2, T, st2, f2, q⟩ => ?_)
  subst e
  refine PpSet.newSet_ok (newEnv_comp ?_)
  generalize hD : s2.heap.objs.size = D
  obtain ⟨W, ⟨m0, w0⟩, turn⟩ := q D (I2.hok.fresh (Nat.le_of_eq hD))
  generalize ez : ({ s2 with heap := s2.heap.push (freshSet X.w) } : Shared) = sz
  have I3 : Inv X pins σ (upd H2 D (TxtO X.prog X.w D [])) sz := by
    subst ez
    refine I2.laid (t' := s2.toks) (fun b o e => Heap.get?_push_of_some _ e) (Nat.le_of_eq hD) ?_
    subst hD
    exact txtO_ok (txt0 (Heap.get?_push_size _ rfl))
  have hh : sz.heap = s2.heap.push (freshSet X.w) := by subst ez; rfl
  have below : ∀ b ∈ fp, b < s2.heap.objs.size := fun b hb => (T.obj _ _ st2 b hb).elim fun o ho => Heap.lt_size ho.1
  have f3 : ∀ b ∈ fp, FpOk X pins (upd H2 D (TxtO X.prog X.w D [])) b ∧ b < sz.heap.objs.size := fun b hb => by
    refine ⟨⟨?_, (f2 b hb).2⟩, by rw [hh, Heap.size_push]; exact Nat.lt_succ_of_lt (below b hb)⟩
    rw [upd_ne (fun z => Nat.lt_irrefl _ (hD ▸ z ▸ below b hb))]
    exact (f2 b hb).1
  have st3 : tn 0 sz.heap := T.keep _ _ _ st2 fun b _ o e => by rw [hh]; exact Heap.get?_push_of_some _ e
  have I4 := block_start I3 ok ndN f3
  have pg := hg sz (upd H2 D (TxtO X.prog X.w D [])) sz.heap.objs.size (cellsFrom (sz.heap.objs.size + 1) scope.names (cloFrom X.env.cells scope.names [])) fp
  have pe := he sz (upd H2 D (TxtO X.prog X.w D [])) sz.heap.objs.size (cellsFrom (sz.heap.objs.size + 1) scope.names (cloFrom X.env.cells scope.names [])) fp
  show codeAny _ _ (.compStart (.SetComp elt [⟨tg, iter, [], 0⟩] scope pos) 0 (.ref it) (.ref D) (compEnvC scope (cellsFrom (sz.heap.objs.size + 1) scope.names (cloFrom X.env.cells scope.names [])) sz.heap.objs.size X.env)) (compPost (model X.prog X.w) X.A X.xe none _ (.ref D) sz.heap.objs.size) { sz with heap := pushCells (sz.heap.push { cls := .type "dict", data := .dict #[] }) scope.names }
  have nfp : ∀ b ∈ fp, (upd H2 D (TxtO X.prog X.w D [])) b = none := fun b hb => (f3 b hb).1.1
  generalize ec : compEnvC scope (cellsFrom (sz.heap.objs.size + 1) scope.names (cloFrom X.env.cells scope.names [])) sz.heap.objs.size X.env = ce at I4 pg pe ⊢
  have cl : ce.locals = sz.heap.objs.size := by subst ec; rfl
  generalize upd H2 D (TxtO X.prog X.w D []) = H3 at I3 I4 pg pe w0 nfp f3
  generalize e4 : ({ sz with heap := pushCells (sz.heap.push { cls := .type "dict", data := .dict #[] }) scope.names } : Shared) = s4 at I4 ⊢
  have st4 : tn 0 s4.heap := T.keep _ _ _ st3 fun b _ o e => by rw [← e4]; exact pushCells_keeps _ _ _ _ (Heap.get?_push_of_some _ e)
  have stat : ∀ {σ' : L2.St} {H' : Hp} {s' : Shared}, Inv (X.blk sz H3 scope ce fp) [] σ' H' s' → (∀ b ∈ fp, H' b = none) → ∀ b ∈ fp, FpOk (X.blk sz H3 scope ce fp) [] H' b := fun {_ _ _} K hn b hb =>
    ⟨hn b hb, (K.ok.exf b hb).1, K.ok.exfs b hb, .inl hb, fun x c e => (K.ok.exf b hb).2 x c e, fun p hp => absurd (show p ∈ ([] : List (Addr × Obj)) ++ [] from hp) (by simp)⟩
  have loop : codeAny (model X.prog X.w) X.A (.compLoop (.SetComp elt [⟨tg, iter, [], 0⟩] scope pos) 0 (.ref it) (.ref D) ce) (compPost (model X.prog X.w) X.A X.xe none (EP X pins σ Q) (.ref D) sz.heap.objs.size) s4 := by
    refine PpSet.compLoopS_any (fun n z => ∃ i H', Inv (X.blk sz H3 scope ce fp) [] (wipe σ (own.map (·.2))) H' z ∧ tn i z.heap ∧ (∀ b ∈ fp, H' b = none) ∧ W i n H') ?_ m0 ⟨0, H3, I4, st4, nfp, w0⟩
    rintro n s5 ⟨i, H5, I5, st5, n5, w5⟩
    rcases turn i n H5 w5 with ⟨stop, qq⟩ | ⟨go, Nx, hNx, step⟩
    · refine thnF (T.done (X.blk sz H3 scope ce fp) rfl rfl rfl quiet i [] s5 _ H5 (fun _ _ => False) I5 (stat I5 n5) st5 stop) fun r s6 ⟨hr, I6⟩ => ?_
      subst hr
      have I7 : Inv X pins σ H5 s6 := I3.call' (ch := fp) I6.os I6.base I6.hok I6.bare fun b hb => have u := (f3 b hb).1.2; ⟨u.2.2.1, u.1, u.2.2.2.1, u.2.2.2.2⟩
      have nC : H5 sz.heap.objs.size = none := cl ▸ (show H5 ce.locals = none from I6.free)
      obtain ⟨m, hn, _⟩ := I6.loc
      have hn' : s6.heap.Ns sz.heap.objs.size m := cl ▸ (show s6.heap.Ns ce.locals m from hn)
      obtain ⟨u0, u1, u2, u3, u4, u5⟩ := I3.fpOk (Nat.le_refl _) nC
      refine ⟨m, hn', fun k sb => ⟨.ref D, H5, I7.turned (t' := s6.toks) (fun b o hb e => (sb.2 b hb).trans e) u0 u1 u3 u4 u5, rfl, qq⟩⟩
    · refine thnF (T.item (X.blk sz H3 scope ce fp) rfl rfl rfl quiet i [] s5 _ H5 (fun _ _ => False) I5 (stat I5 n5) st5 go) fun r s6 ⟨u, hr, h6⟩ => ?_
      subst hr
      refine thnF h6 fun _ s7 ⟨x, H7, I7, r7, y7, st7, n7⟩ => ?_
      refine thnF (pg.run _ s7 _ H7 x u _ (I7.pinned (stat I7 n7) (T.obj _ _ st7)) r7 (step x H7 y7)) fun _ s8 ⟨σ8, H8, I8, hw8, q8⟩ => ?_
      refine thnF ((pts_nil (X := X.blk sz H3 scope ce fp)).run _ s8 σ8 H8 _ I8 (show tYes σ8 H8 (fun b K => b = true ∧ te σ8 K _) from ⟨rfl, q8⟩)) fun b s9 ⟨H9, I9, eb, q9⟩ => ?_
      subst eb
      simp only [if_true]
      refine thnF (pe.run _ s9 σ8 H9 _ I9 q9) fun z s10 ⟨yv, H10, I10, r10, zt, xs, ey, hD10, few, nx⟩ => ?_
      subst ey
      obtain ⟨tk, rfl⟩ := (show ∃ tk, z = Value.str zt tk from r10)
      refine add_txt (X := X.blk sz H3 scope ce fp) I10 hD10 few fun s11 I11 => ?_
      obtain ⟨m', hm, w'⟩ := hNx _ nx
      have pin : ∀ b ∈ fp, ∀ o, s7.heap.get? b = some o → s11.heap.get? b = some o ∧ (upd H10 D (TxtO X.prog X.w D (addT xs zt))) b = none := fun b hb o e =>
        have v := I11.pin (b, o) (List.mem_append_right _ (List.mem_append_right _ (mem_pinsAt hb e)))
        ⟨v.1, v.2.1⟩
      refine ⟨m', hm, i + 1, _, (I11.unpinned (pins := [])).weak (by rw [← hw8, wipe_length]) (fun j v e => ?_), T.keep _ _ _ st7 fun b hb o e => (pin b hb o e).1, fun b hb => ?_, w'⟩
      · rw [← hw8] at e
        exact (wipe_some e).1
      · exact (T.obj _ _ st7 b hb).elim fun o ho => (pin b hb o ho.1).2
  exact PpSet.codeAny_compStart_set loop (T.self X.A 0 _ _ _ st4 loop)
/-- len of such a set -/
theorem call_lenTxt : CallR X (.builtin "len") (fun xs H Q => ∃ (D : Addr) (l : List Str), xs = [.ref D] ∧ H D = some (TxtO X.prog X.w D l) ∧ l.length ≤ 1000 ∧ Q (.int (l.length : Nat)) H) := by
  intro pins s σ H xs us Q I r h
  obtain ⟨D, l, rfl, hD, few, q⟩ := h
  obtain ⟨u, rfl, ru⟩ := vals1 r
  cases ru
  obtain ⟨o, es, ep, tb, h1, h2, h3, _, _, _, h4, h5⟩ := (I.hok D _ hD).1
  exact call_len_set h1 h2 h3 h4 (by rw [h5]; omega) ⟨.int (l.length : Nat), H, I.tok _, ⟨_, by rw [h5]⟩, q⟩
end
end SH

set_option Elab.async false
set_option linter.all false
set_option maxRecDepth 100000
namespace SH
open PySem PySem.Spec PyProof.Rows L2
section
variable {X : Cx}
/-- y = {k: v for x in xs} -/
theorem ps_setDc {i : Nat} {y : PySem.Str} {py : Pos} {kx vx tg iter : Expr} {scope : Scope} {own : List (PySem.Str × Nat)} {pos spos : Pos} {wi : TI} {g : TG} {tk tv : TE} (quiet : X.calm = true) (ndN : X.N.Nodup) (hy : X.N[i]? = some y) (yl : X.env.scope.names.lookup y = some .local)
    (swap : swapsWith (.DictComp kx vx [⟨tg, iter, [], 0⟩] scope pos) (some (.Name y py)) spos.line X.env = pure true) (hi : PI X tg iter wi) (ok : BlkOk X.N X.env.scope scope own)
    (hg : ∀ (s : Shared) (H : Hp) (C : Addr) (cl : List (PySem.Str × Addr)) (fp : List Addr), PG (X.blk s H scope (compEnvC scope cl C X.env) fp) tg g)
    (hk : ∀ (s : Shared) (H : Hp) (C : Addr) (cl : List (PySem.Str × Addr)) (fp : List Addr), PE (X.blk s H scope (compEnvC scope cl C X.env) fp) kx tk)
    (hv : ∀ (s : Shared) (H : Hp) (C : Addr) (cl : List (PySem.Str × Addr)) (fp : List Addr), PE (X.blk s H scope (compEnvC scope cl C X.env) fp) vx tv) (fold : ∀ x, foldedSetIterable iter X.env x = pure x := by intro _; rfl) :
    PS X (.Assign [.Name y py] (.DictComp kx vx [⟨tg, iter, [], 0⟩] scope pos) spos) (tAsg (tDc wi g tYes tk tv (own.map (·.2))) (gName i)) := by
  refine ⟨fun pins s σ H D I h => ?_⟩
  rw [exec_Assign_Name_used _ _ _ _ swap]
  refine wpAny_bind (wpAny_standAt (wpAny_bind (show wpAny _ X.A (do let _ ← comprehension (.DictComp kx vx [⟨tg, iter, [], 0⟩] scope pos) scope X.env (firstIterPos [⟨tg, iter, [], 0⟩] pos) newDict false (eval iter X.env) (some (assign (.Name y py) X.env))) _ _ s from ?_)))
  refine wpAny_bind (thn (dc_core (Q := fun x H1 => gName i x σ H1 D.nx) (Qf := fun _ z => SP X pins D .next z) quiet ndN I hi ok hg (fun _ _ _ _ _ => pts_nil) hk hv fold h fun L C z m H' J q hn f => ?_) fun _ z hq => wpAny_pure (wpAny_pure hq))
  refine (show wpAny _ _ (assign (.Name y py) X.env (.ref L)) _ _ _ from wpAny_assign_Name (store_ok2 (v := V.ref L) J ndN hy (.inl yl) rfl (fun u J2 ⟨a, sb, ha⟩ => ?_) (.inr yl)))
  have other : C ≠ a := ha.elim (fun e => e ▸ f.2.1) fun e k => f.2.2.2.2.1 y a e k.symm
  exact ⟨m, hn.sameBut sb other, fun k sk => ⟨_, H', J2.turned (t' := u.toks) (fun b o hb e => (sk.2 b hb).trans e) f.1 f.2.1 f.2.2.2.1 f.2.2.2.2.1 f.2.2.2.2.2, q⟩⟩
theorem sw_dict {kx vx : Expr} {gs : List Comprehension} {scope : Scope} {pos py : Pos} {y : PySem.Str} {l : Nat} {env : Env} (hk : env.scope.kind = .function) (hy : env.scope.names.lookup y = some .local) (hl : (py.line == pos.line) = true)
    (ha : (scope.names.any fun (n, k) => n == y && (k == .local || k == .cell)) = false) : swapsWith (.DictComp kx vx gs scope pos) (some (.Name y py)) l env = pure true := by
  have k1 : env.kindOf y = some .local := hy
  have k2 : env.blockKind = .function := by unfold Env.blockKind; rw [hk]; rfl
  unfold swapsWith
  simp only [k2, k1, ha, Expr.pos, hl]
  rfl
/-- str(x) by an own __str__ -/
def rStrOwn (C : Addr) (sp : Sp) : List V → Hp → VK → Prop := fun xs H Q => ∃ (a dx : Addr) (fs : List (PySem.Str × V)), xs = [V.ref a] ∧ H a = some (.ins C dx fs) ∧ sp [.ref a] H (fun v H' => ∃ z, v = .str z ∧ Q v H') E0
theorem call_strOwn {C g : Addr} {gd : FuncData} {n : Nat} {sp : Sp} (hs : PySem.W.findIn X.K (.ref C) "__str__" = some (some (.ref g))) (hf : PySem.W.isFn X.K (.ref g) = true) (F : FnOk X.prog X.w X.K X.mg X.base CX0 n g gd ["self"] sp) (hb : Binds X.K gd ["self"] []) (hr : Room (n + 2) X.A) : CallR X (.type "str") (rStrOwn C sp) := by
  intro pins s σ H xs us Q I r h
  obtain ⟨a, dx, fs, rfl, ha, q⟩ := h
  obtain ⟨u, rfl, ru⟩ := vals1 r
  cases ru
  obtain ⟨mA, om, _⟩ := ins_get I.hok ha
  obtain ⟨od, J, _⟩ := om.look
  have room : Room n X.A.in1.in1 := (show Room (n + 1) X.A.in1 from Room.in1 hr).in1
  have hu : X.A.in1.in1.units < cLine := by have := room.un; omega
  have rv : Vals [V.ref a] [Value.ref a] := .cons rfl .nil
  refine PySem.W.kso_call hu I.kIn J hs hf (wpAny_call (codeAny_mono (F.run X.A.in1.in1 X.stack s H ⟨[.ref a], []⟩ [.ref a] [.ref a] _ E0 room I.env0.in1.in1 (hb s [.ref a] I.kIn rfl) rv q) fun r z hq => ?_))
  cases r with
  | error e => exact hq.elim
  | ok fl =>
    cases fl with
    | ret v =>
      obtain ⟨y, H', J2, ry, t, ey, fin⟩ := I.after hq
      subst ey
      obtain ⟨tk, rfl⟩ := (show ∃ tk, v = Value.str t tk from ry)
      exact ⟨.str t, H', J2, ⟨tk, rfl⟩, fin⟩
    | _ => exact False.elim hq
end
end SH

set_option Elab.async false
set_option linter.all false
set_option maxRecDepth 100000
namespace SW
open PySem PySem.SeqAt PySem.Spec PyProof.Rows
open AutoSeq1 (wpAny_loadPart')
open MeetsSeq MeetsSeq2 MeetsSeq3 SeqRoads2
section
variable {M : Model} {prog : Program} {w : World} {A : Around} {E : Value → Shared → Prop} {s : Shared} {K : PySem.W.Frag} {x C f : Addr} {ox : Obj} {od : Option Obj} {b tb : Value}
/-- the != that every class has, bound -/
theorem bound_ne {args : List Value} {Q : Option Value → Shared → Prop} (KX : K.In s.heap) (J : PySem.W.InstAt s.heap x ox C od) (hN : PySem.W.findIn K (.ref C) "__ne__" = some (some (.builtin "object.__ne__")))
    (h : wpAny M A (call (.builtin "object.__ne__") (.ref x :: args)) (fun v => Q (some v)) E s) : wpAny M A (callSpecialIfBound? (.ref x) "__ne__" args) Q E s := by
  simp only [bindSpecialIfBound?, callSpecialIfBound?]
  refine wpAny_holding (wpAny_bind (wpAny_bind (wpAny_bind (J.type.here ((PySem.W.looks_findIn KX hN).here (wpAny_bind (wpAny_askSetting (wpAny_ite ?_))))))))
  have last : wpAny M A (call (.builtin "object.__ne__") ([.ref x] ++ args) >>= fun v => pure (some v)) Q E s := wpAny_bind (wpAny_mono h (fun _ _ z => wpAny_pure z) fun _ _ z => z)
  split
  · exact wpAny_bind (wpAny_of_eq (F.cmp_object.ne.bind _) (wpAny_pure (by exact last)))
  · exact wpAny_tryCatch (wpAny_bind (wpAny_of_eq (F.cmp_object.ne.bind _) (wpAny_pure (by exact last))))
theorem ne_entry {Q : Fin → Shared → Prop} (KX : K.In s.heap) (J : PySem.W.InstAt s.heap x ox C od) (hE : PySem.W.findIn K (.ref C) "__eq__" = some (some (.ref f))) (hf : PySem.W.isFn K (.ref f) = true) (hu : A.units < cLine)
    (hc : wpAny M A (call (.ref f) [.ref x, b]) (fun v s' => ∃ r, v = .bool r ∧ Q (.done (.ret (.bool (!r)))) s') E s) : wpAny M A (Builtin.«object.__ne__» ⟨[.ref x, b], []⟩) Q E s := by
  unfold Builtin.«object.__ne__»
  repeat (first
    | with_reducible refine wpAny_cRoomFor hu ?_
    | (refine wpAny_bind (m := callSpecialIfBound? (.ref x) (Str.ofString "__eq__") [b]) (PySem.W.ifBound_K KX J hE hf (wpAny_mono hc (fun r s' z => by
          obtain ⟨t, rfl, q⟩ := z
          repeat (first | exact q | exact wpAny_pure q | exact wpAny_truthy_bool q | (refine wpAny_bind (m := truthy (.bool _)) (wpAny_truthy_bool ?_)) | wp_step)) fun _ _ z => z)))
    | wp_step)
theorem rc_ne {Q : Value → Shared → Prop} (hu : A.units + 1 < cLine) (KX : K.In s.heap) (J : PySem.W.InstAt s.heap x ox C od) (hb : PySem.W.Looks (model prog w) s.heap (typeOf b) tb) (hn : PySem.W.notFirst K C tb = true)
    (hN : PySem.W.findIn K (.ref C) "__ne__" = some (some (.builtin "object.__ne__"))) (hE : PySem.W.findIn K (.ref C) "__eq__" = some (some (.ref f))) (hf : PySem.W.isFn K (.ref f) = true) (hm : PySem.W.mroIn K C (.type "object") = some true)
    (hc : wpAny (model prog w) A.in1 (call (.ref f) [.ref x, b]) (fun v s' => ∃ r, v = .bool r ∧ Q (.bool (!r)) s') E s) : wpAny (model prog w) A (richCompare .NotEq (.ref x) b) Q E s := by
  have one : wpAny (model prog w) A (tryCompare (.ref x) "__ne__" b) (fun r s' => ∃ v, r = some v ∧ Q v s') E s := by
    unfold tryCompare
    refine wpAny_bind (bound_ne KX J hN (wpAny_call (codeAny_call_builtin F.cmp_object.ne.plain F.cmpEntry_ne (PySem.W.check_slot F.cmpKind_ne F.cmpSplit_ne (J.type.andThen (PySem.W.looks_mroIn KX hm)) (F.cmpArgs_ne _ _)
      (ne_entry (A := A.in1) KX J hE hf hu (wpAny_mono hc (fun v s' z => ?_) fun _ _ z => z))))))
    obtain ⟨r, rfl, q⟩ := z
    exact ⟨r, rfl, wpAny_pure ⟨_, rfl, q⟩⟩
  unfold richCompare
  simp only [oneThing_ref, cmpInfo_NotEq]
  refine wpAny_holding (wpAny_bind (wpAny_cRoomFor (by omega) (wpAny_bind (J.type.here (wpAny_bind (hb.here ?_))))))
  split
  · rename_i q
    have e : PySem.W.subIn K tb (.ref C) = some false := by
      rcases Bool.or_eq_true_iff.mp hn with e | e
      · rw [beq_iff_eq.mp e] at q
        simp at q
      · exact beq_iff_eq.mp e
    refine wpAny_bind ((PySem.W.looks_subIn KX e).here ?_)
    simp only [Bool.false_eq_true, if_false]
    refine wpAny_bind (wpAny_mono one (fun r s' z => ?_) fun _ _ z => z)
    obtain ⟨v, rfl, k⟩ := z
    exact wpAny_pure k
  · refine wpAny_bind (wpAny_pure ?_)
    simp only [Bool.false_eq_true, if_false]
    refine wpAny_bind (wpAny_mono one (fun r s' z => ?_) fun _ _ z => z)
    obtain ⟨v, rfl, k⟩ := z
    exact wpAny_pure k
/-- the right one's own == is asked where the left one, of a built-in type, knows nothing of it -/
theorem rc_back {u : Value} {T : String} {Q : Value → Shared → Prop} (hu : A.units < cLine) (KX : K.In s.heap) (J : PySem.W.InstAt s.heap x ox C od) (hT : s.TypeIs u T) (hs : PySem.W.mroIn K C (.type T) = some false)
    (hE : PySem.W.findIn K (.ref C) "__eq__" = some (some (.ref f))) (hf : PySem.W.isFn K (.ref f) = true) (no : wpAny (model prog w) A (tryCompare u "__eq__" (.ref x)) (fun r s' => r = none ∧ s' = s) E s)
    (hc : wpAny (model prog w) A (call (.ref f) [.ref x, u]) (fun v s' => ∃ r, v = .bool r ∧ Q (.bool r) s') E s) : wpAny (model prog w) A (richCompare .Eq u (.ref x)) Q E s := by
  have two : wpAny (model prog w) A (tryCompare (.ref x) "__eq__" u) (fun r s' => ∃ v, r = some v ∧ Q v s') E s := by
    unfold tryCompare
    refine wpAny_bind (PySem.W.ifBound_K KX J hE hf (wpAny_mono hc (fun v s' z => ?_) fun _ _ z => z))
    obtain ⟨r, rfl, q⟩ := z
    exact wpAny_pure ⟨_, rfl, q⟩
  simp only [richCompare, cmpInfo_Eq, hT.oneThing_none]
  refine wpAny_holding (wpAny_bind (wpAny_cRoomFor hu ?_))
  refine wpAny_bind (wpAny_typeOf hT (wpAny_bind (J.type.here ?_)))
  split
  · refine wpAny_bind ((PySem.W.looks_mroIn KX hs).here ?_)
    simp only [Bool.not_false, Bool.false_eq_true, if_true, if_false]
    refine wpAny_bind (m := tryCompare u _ (.ref x)) (wpAny_mono no (fun r s1 z => ?_) fun _ _ z => z)
    obtain ⟨rfl, rfl⟩ := z
    refine wpAny_bind (m := tryCompare (.ref x) _ u) (wpAny_mono two (fun r s2 z => ?_) fun _ _ z => z)
    obtain ⟨v, rfl, k⟩ := z
    exact wpAny_pure k
  · rename_i q
    exact absurd (by simp) q
/-- y is the one item of a list: is x in it? -/
theorem in_one {l : Addr} {y v : Value} {its : Array Value} {n : Nat} {dd : Option Addr} {sl : Array (Option Value)} {Q : Value → Shared → Prop} (i0 : its[0]? = some y) (hl : s.heap.get? l = some { cls := .type "list", dict := dd, data := .seq its n, slots := sl })
    (he : wpAny (model prog w) A.in1 (eqBool y v) (fun r s' => (∃ (its' : Array Value) (n' : Nat) (dd' : Option Addr) (sl' : Array (Option Value)), its'[1]? = none ∧ s'.heap.get? l = some { cls := .type "list", dict := dd', data := .seq its' n', slots := sl' }) ∧ Q (.bool r) s') E s) : wpAny (model prog w) A (compareOp .In v (.ref l)) Q E s := by
  show wpAny _ A (do return .bool (← contains (.ref l) v)) Q E s
  refine wpAny_bind (wpAny_contains_slot ⟨_, hl, rfl⟩ F.slot_list_contains (wpAny_mono (Q := fun z s' => ∃ r, z = .bool r ∧ Q (.bool r) s') (GQ.call_here F.slot_list_contains ⟨_, hl, rfl⟩ F.entry_list_contains (F.args_list_contains_2 _ _) ?_) (fun z s' hz => ?_) fun _ _ z => z))
  · obtain ⟨hp, g, d, tk, os⟩ := s
    wp_walk using wpAny_loadPart' hl
    refine ⟨plainId_quiet plain_contains_loop _, codeAny_builtin entry_contains_loop ?_⟩
    rw [Around.under_plainId plain_contains_loop _]
    have e0 : its[((0 : Nat) : Int).toNat]? = some y := i0
    have e0' : its[(0 : Int).toNat]? = some y := i0
    wp_walk using wpAny_loadPart' hl
    first | rw [e0] | rw [e0'] | rw [i0]
    refine wpAny_bind (wpAny_mono he (fun r s2 z => ?_) fun _ _ z => z)
    obtain ⟨⟨its', n', dd', sl', i1', hl2⟩, q⟩ := z
    obtain ⟨hp2, g2, d2, tk2, os2⟩ := s2
    cases r with
    | true =>
      wp_walk
      exact ⟨true, rfl, q⟩
    | false =>
      wp_walk
      refine ⟨plainId_quiet plain_contains_loop _, codeAny_builtin entry_contains_loop ?_⟩
      rw [Around.under_plainId plain_contains_loop _]
      have e1 : its'[((0 : Int) + 1).toNat]? = none := i1'
      wp_walk using wpAny_loadPart' hl2
      first | rw [e1] | rw [i1']
      wp_walk
      exact ⟨false, rfl, q⟩
  · obtain ⟨r, rfl, q⟩ := hz
    exact wpAny_truthy_bool (wpAny_pure q)
/-- what knows nothing of an instance -/
theorem no_none (hx : s.heap.get? x = some ox) : wpAny (model prog w) A (tryCompare .none "__eq__" (.ref x)) (fun r s' => r = none ∧ s' = s) E s :=
  wpAny_tryCompare_declines (T := "NoneType") rfl F.slot_NoneType_eq_refl (GQ.call_here F.slot_NoneType_eq_refl rfl F.entry_NoneType_eq (F.args_NoneType_eq_2 _ _) (by
    obtain ⟨hp, g, d, tk, os⟩ := s
    wp_walk
    exact ⟨rfl, rfl, rfl⟩))
theorem no_int {i : Int} {t : Tok} {dx : Addr} (hx : s.heap.get? x = some (PySem.W.instObj C dx)) : wpAny (model prog w) A (tryCompare (.int i t) "__eq__" (.ref x)) (fun r s' => r = none ∧ s' = s) E s :=
  wpAny_tryCompare_declines (T := "int") rfl F.slot_int_eq_refl (GQ.call_here F.slot_int_eq_refl rfl F.entry_int_eq (F.args_int_eq_2 _ _) (by
    obtain ⟨hp, g, d, tk, os⟩ := s
    wp_walk using wpAny_loadPart' hx, wpAny_load hx
    exact ⟨rfl, rfl, rfl⟩))
theorem no_bool {i : Bool} {dx : Addr} (hx : s.heap.get? x = some (PySem.W.instObj C dx)) : wpAny (model prog w) A (tryCompare (.bool i) "__eq__" (.ref x)) (fun r s' => r = none ∧ s' = s) E s :=
  wpAny_tryCompare_declines (T := "bool") rfl F.slot_bool_eq_refl (GQ.call_here F.slot_bool_eq_refl rfl F.entry_int_eq (F.args_int_eq_2 _ _) (by
    obtain ⟨hp, g, d, tk, os⟩ := s
    wp_walk using wpAny_loadPart' hx, wpAny_load hx
    exact ⟨rfl, rfl, rfl⟩))
theorem no_str {i : Str} {t : Tok} {dx : Addr} (hx : s.heap.get? x = some (PySem.W.instObj C dx)) : wpAny (model prog w) A (tryCompare (.str i t) "__eq__" (.ref x)) (fun r s' => r = none ∧ s' = s) E s :=
  wpAny_tryCompare_declines (T := "str") rfl F.slot_str_eq_refl (GQ.call_here F.slot_str_eq_refl rfl F.entry_str_eq (F.args_str_eq_2 _ _) (by
    obtain ⟨hp, g, d, tk, os⟩ := s
    wp_walk using wpAny_loadPart' hx, wpAny_load hx
    exact ⟨rfl, rfl, rfl⟩))
theorem no_list {l : Addr} {its : Array Value} {n : Nat} {dd : Option Addr} {sl : Array (Option Value)} (hl : s.heap.get? l = some { cls := .type "list", dict := dd, data := .seq its n, slots := sl }) (KX : K.In s.heap) (J : PySem.W.InstAt s.heap x ox C od) (hm : PySem.W.mroIn K C (.type "list") = some false) :
    wpAny (model prog w) A (tryCompare (.ref l) "__eq__" (.ref x)) (fun r s' => r = none ∧ s' = s) E s :=
  wpAny_tryCompare_declines (T := "list") ⟨_, hl, rfl⟩ F.slot_list_eq_refl (GQ.call_here F.slot_list_eq_refl ⟨_, hl, rfl⟩ F.entry_list_eq (F.args_list_eq_2 _ _) (by
    have e : PySem.W.Looks (model prog w) s.heap (isInstance (.ref x) (.type "list")) false := J.type.andThen (PySem.W.looks_mroIn KX hm)
    obtain ⟨hp, g, d, tk, os⟩ := s
    wp_walk using wpAny_loadPart' hl, e.here
    exact ⟨rfl, rfl, rfl⟩))
theorem no_tup {l : Addr} {its : Array Value} {n : Nat} {dd : Option Addr} {sl : Array (Option Value)} (hl : s.heap.get? l = some { cls := .type "tuple", dict := dd, data := .seq its n, slots := sl }) (KX : K.In s.heap) (J : PySem.W.InstAt s.heap x ox C od) (hm : PySem.W.mroIn K C (.type "tuple") = some false) :
    wpAny (model prog w) A (tryCompare (.ref l) "__eq__" (.ref x)) (fun r s' => r = none ∧ s' = s) E s :=
  wpAny_tryCompare_declines (T := "tuple") ⟨_, hl, rfl⟩ F.slot_tuple_eq_refl (GQ.call_here F.slot_tuple_eq_refl ⟨_, hl, rfl⟩ F.entry_tuple_eq (F.args_tuple_eq_2 _ _) (by
    have e : PySem.W.Looks (model prog w) s.heap (isInstance (.ref x) (.type "tuple")) false := J.type.andThen (PySem.W.looks_mroIn KX hm)
    obtain ⟨hp, g, d, tk, os⟩ := s
    wp_walk using wpAny_loadPart' hl, e.here
    exact ⟨rfl, rfl, rfl⟩))
end
end SW

set_option Elab.async false
set_option linter.all false
set_option maxRecDepth 100000
namespace SH
open PySem PySem.Spec PyProof.Rows L2
/-- a class with its own ==, and nothing else of that kind -/
structure OwnQ (K : PySem.W.Frag) (C f : Addr) : Prop where
  eq : PySem.W.findIn K (.ref C) "__eq__" = some (some (.ref f))
  fn : PySem.W.isFn K (.ref f) = true
  ne : PySem.W.findIn K (.ref C) "__ne__" = some (some (.builtin "object.__ne__"))
  obj : PySem.W.mroIn K C (.type "object") = some true
  li : PySem.W.mroIn K C (.type "list") = some false
  tu : PySem.W.mroIn K C (.type "tuple") = some false
  it : PySem.W.mroIn K C (.type "int") = some false
  bo : PySem.W.mroIn K C (.type "bool") = some false
  st : PySem.W.mroIn K C (.type "str") = some false
  no : PySem.W.mroIn K C (.type "NoneType") = some false
/-- a promise that gives a truth -/
def Tru (sp : Sp) (a : Addr) (y : V) (H : Hp) (Q : Bool → Hp → Prop) : Prop := sp [.ref a, y] H (fun z H' => ∃ r, z = .bl r ∧ Q r H') E0
section
variable {X : Cx} {n : Nat} {C f : Addr} {fd : FuncData} {ps : List PySem.Str} {sp : Sp} {pins : List (Addr × Obj)} {σ : L2.St} {H : Hp} {s : Shared}
theorem own_run (F : FnOk X.prog X.w X.K X.mg X.base CX0 n f fd ps sp) (hb : Binds X.K fd ps []) {A : Around} (sb : Sub X n A) (I : Inv X pins σ H s) {a : Addr} {y : V} {v : Value} (ry : RelV y v) {Q : Bool → Hp → Prop} (q : Tru sp a y H Q) :
    wpAny (model X.prog X.w) A (call (.ref f) [.ref a, v]) (fun r s' => ∃ z H', r = .bool z ∧ Inv X pins σ H' s' ∧ Q z H') X.xe s := by
  have e0 : Env0 X.prog X.w X.K X.mg X.base A X.stack s H := by
    have e := I.env0
    exact ⟨by rw [sb.fr]; exact e.frames, e.mod, e.bs, e.bsz, e.funs, e.frf, e.hok, e.bare⟩
  have hl := F.len _ _ _ _ q
  have rv : Vals [V.ref a, y] [Value.ref a, v] := .cons rfl (.cons ry .nil)
  refine wpAny_call (codeAny_mono (F.run A X.stack s H ⟨[.ref a, v], []⟩ [.ref a, v] [.ref a, y] _ E0 sb.room e0 (by
    have := hb s [.ref a, v] I.kIn (by simpa using hl)
    simpa using this) rv q) fun r s' hq => ?_)
  cases r with
  | error e => exact hq.elim
  | ok fl =>
    cases fl with
    | ret w =>
      obtain ⟨z, H', I', rz, t, rfl, k⟩ := I.after hq
      cases rz
      exact ⟨t, H', rfl, I', k⟩
    | next => exact False.elim hq
    | brk => exact False.elim hq
    | cont => exact False.elim hq
def rEqO (K : PySem.W.Frag) (C : Addr) (sp : Sp) (neg : Bool) : R2 := fun x y H Q => ∃ (a dx : Addr) (fs : List (PySem.Str × V)) (t : Value), x = .ref a ∧ H a = some (.ins C dx fs) ∧ TyX K H y t ∧ PySem.W.notFirst K C t = true ∧ Tru sp a y H fun r H' => Q (.bl (if neg then !r else r)) H'
theorem rc_own (T : OwnQ X.K C f) (F : FnOk X.prog X.w X.K X.mg X.base CX0 n f fd ps sp) (hb : Binds X.K fd ps []) {A : Around} (sb : Sub X n A) (I : Inv X pins σ H s) {a dx : Addr} {fs : List (PySem.Str × V)} {y : V} {v t : Value} (ha : H a = some (.ins C dx fs)) (ry : RelV y v) (ty : TyX X.K H y t) (nf : PySem.W.notFirst X.K C t = true) {Q : Bool → Hp → Prop} (q : Tru sp a y H Q) :
    wpAny (model X.prog X.w) A (richCompare .Eq (.ref a) v) (fun r s' => ∃ z H', r = .bool z ∧ Inv X pins σ H' s' ∧ Q z H') X.xe s := by
  obtain ⟨mA, om, _⟩ := ins_get I.hok ha
  obtain ⟨od, J, _⟩ := om.look
  obtain ⟨P, Z, p, _⟩ := kit_of I ry ty
  obtain ⟨m, hF⟩ := I.fr
  refine PySem.W.cmp_K (op := .Eq) sb.room.units0 hF I.ok.mod.kin J (Z.ty _ _ I.kIn p) nf T.eq T.fn (wpAny_mono (own_run F hb sb I ry q) (fun r s' z => ?_) fun _ _ z => z)
  obtain ⟨t, H', rfl, k⟩ := z
  exact ⟨t, H', rfl, k⟩
theorem op_eqO (T : OwnQ X.K C f) (F : FnOk X.prog X.w X.K X.mg X.base CX0 n f fd ps sp) (hb : Binds X.K fd ps []) (hr : Room n X.A) : OpR X (compareOp .Eq) (rEqO X.K C sp false) := by
  intro pins s σ H x y v u Q I rx ry h
  obtain ⟨a, dx, fs, t, rfl, ha, ty, nf, q⟩ := h
  cases rx
  refine (show wpAny (model X.prog X.w) X.A (richCompare .Eq (.ref a) u) _ _ s from wpAny_mono (rc_own T F hb ⟨hr, rfl⟩ I ha ry ty nf q) (fun r s' z => ?_) fun _ _ z => z)
  obtain ⟨t, H', rfl, I', k⟩ := z
  exact ⟨.bl t, H', I', rfl, k⟩
theorem op_neO (T : OwnQ X.K C f) (F : FnOk X.prog X.w X.K X.mg X.base CX0 n f fd ps sp) (hb : Binds X.K fd ps []) (hr : Room (n + 1) X.A) : OpR X (compareOp .NotEq) (rEqO X.K C sp true) := by
  intro pins s σ H x y v u Q I rx ry h
  obtain ⟨a, dx, fs, t, rfl, ha, ty, nf, q⟩ := h
  cases rx
  obtain ⟨mA, om, _⟩ := ins_get I.hok ha
  obtain ⟨od, J, _⟩ := om.look
  obtain ⟨P, Z, p, _⟩ := kit_of I ry ty
  have hu : X.A.units + 1 < cLine := hr.in1.units0
  refine (show wpAny (model X.prog X.w) X.A (richCompare .NotEq (.ref a) u) _ _ s from SW.rc_ne hu I.kIn J (Z.ty _ _ I.kIn p) nf T.ne T.eq T.fn T.obj (wpAny_mono (own_run F hb ⟨hr.in1, rfl⟩ I ry q) (fun r s' z => ?_) fun _ _ z => z))
  obtain ⟨t, H', rfl, I', k⟩ := z
  exact ⟨t, rfl, .bl (!t), H', I', rfl, k⟩
/-- b in [a], both of the class, not the same -/
def rInO (K : PySem.W.Frag) (C : Addr) (sp : Sp) : R2 := fun x y H Q => ∃ (a b l dx : Addr) (fs : List (PySem.Str × V)) (t : Value), x = .ref b ∧ y = .ref l ∧ b ≠ a ∧ H l = some (.lst [.ref a]) ∧ H a = some (.ins C dx fs) ∧ TyX K H x t ∧ PySem.W.notFirst K C t = true ∧ Tru sp a x H fun r H' => H' l = some (.lst [.ref a]) ∧ Q (.bl r) H'
theorem op_inO (T : OwnQ X.K C f) (F : FnOk X.prog X.w X.K X.mg X.base CX0 n f fd ps sp) (hb : Binds X.K fd ps []) (hr : Room (n + 1) X.A) : OpR X (compareOp .In) (rInO X.K C sp) := by
  intro pins s σ H x y v u Q I rx ry h
  obtain ⟨a, b, l, dx, fs, t, rfl, rfl, ne, hl, ha, ty, nf, q⟩ := h
  cases rx
  cases ry
  obtain ⟨_, its, n0, rv, hl1⟩ := (show ObjOk X.prog X.w H s.heap l (.lst [.ref a]) from I.hok l _ hl)
  obtain ⟨u1, e1, r1⟩ := vals1 rv
  subst e1
  cases r1
  refine SW.in_one (y := .ref a) rfl hl1 (GQ.eqBool_refG (Ne.symm ne) (wpAny_mono (rc_own T F hb ⟨hr.in1, rfl⟩ I ha (show RelV (.ref b) (.ref b) from rfl) ty nf q) (fun r s' z => ?_) fun _ _ z => z))
  obtain ⟨t, H', rfl, I', hl', k⟩ := z
  obtain ⟨_, its', n1, rv', hl2⟩ := (show ObjOk X.prog X.w H' s'.heap l (.lst [.ref a]) from I'.hok l _ hl')
  obtain ⟨u2, e2, _⟩ := vals1 rv'
  subst e2
  exact ⟨t, rfl, ⟨_, _, _, _, rfl, hl2⟩, .bl t, H', I', rfl, k⟩
/-- a thing of a built-in type -/
inductive Alien (H : Hp) : V → Prop where
  | non : Alien H .non
  | bl (b : Bool) : Alien H (.bl b)
  | int (i : Int) : Alien H (.int i)
  | str (z : PySem.Str) : Alien H (.str z)
  | lst {p : Addr} {xs : List V} (e : H p = some (.lst xs)) : Alien H (.ref p)
  | tup {p : Addr} {xs : List V} (e : H p = some (.tup xs)) : Alien H (.ref p)
theorem Alien.ty {K : PySem.W.Frag} {H : Hp} {C : Addr} {z : V} (h : Alien H z) : ∃ t, TyX K H z t ∧ PySem.W.notFirst K C t = true := by
  have no : ∀ T l, fastBuiltinMro T = some l → l.contains (Value.ref C) = false → PySem.W.notFirst K C (.type T) = true := fun T l e c => by
    have : PySem.W.subIn K (.type T) (.ref C) = some false := by
      show (fastBuiltinMro T).map (·.contains (.ref C)) = some false
      rw [e, Option.map_some, c]
    unfold PySem.W.notFirst
    rw [this]
    simp
  cases h with
  | non => exact ⟨_, .base .non, no "NoneType" [.type "NoneType", .type "object"] (by decide +kernel) (by simp)⟩
  | bl b => exact ⟨_, .base (.bl b), no "bool" [.type "bool", .type "int", .type "object"] (by decide +kernel) (by simp)⟩
  | int i => exact ⟨_, .base (.int i), no "int" [.type "int", .type "object"] (by decide +kernel) (by simp)⟩
  | str z => exact ⟨_, .base (.str z), no "str" [.type "str", .type "object"] (by decide +kernel) (by simp)⟩
  | lst e => exact ⟨_, .base (.lst e), no "list" [.type "list", .type "object"] (by decide +kernel) (by simp)⟩
  | tup e => exact ⟨_, .base (.tup e), no "tuple" [.type "tuple", .type "object"] (by decide +kernel) (by simp)⟩
theorem eq_alien (T : OwnQ X.K C f) (F : FnOk X.prog X.w X.K X.mg X.base CX0 n f fd ps sp) (hb : Binds X.K fd ps []) {A : Around} (sb : Sub X n A) (I : Inv X pins σ H s) {a dx : Addr} {fs : List (PySem.Str × V)} {z : V} {v : Value} (ha : H a = some (.ins C dx fs)) (rz : RelV z v) (al : Alien H z) {Q : Bool → Hp → Prop} (q : Tru sp a z H Q) :
    wpAny (model X.prog X.w) A (eqBool v (.ref a)) (fun r s' => ∃ H', Inv X pins σ H' s' ∧ Q r H') X.xe s := by
  obtain ⟨mA, om, _⟩ := ins_get I.hok ha
  obtain ⟨od, J, _⟩ := om.look
  have run := own_run F hb sb I rz q
  have hu := sb.room.units0
  have back : ∀ {T' : String}, s.TypeIs v T' → PySem.W.mroIn X.K C (.type T') = some false → wpAny (model X.prog X.w) A (tryCompare v "__eq__" (.ref a)) (fun r s' => r = none ∧ s' = s) X.xe s →
      wpAny (model X.prog X.w) A (richCompare .Eq v (.ref a)) (fun w s' => ∃ r H', w = .bool r ∧ Inv X pins σ H' s' ∧ Q r H') X.xe s := fun hT hm no =>
    SW.rc_back hu I.kIn J hT hm T.eq T.fn no (wpAny_mono run (fun w s' k => by
      obtain ⟨r, H', rfl, I', k⟩ := k
      exact ⟨r, rfl, r, H', rfl, I', k⟩) fun _ _ k => k)
  have flat : (v == Value.ref a) = false → (∀ bits tok, v ≠ .float bits tok) → wpAny (model X.prog X.w) A (richCompare .Eq v (.ref a)) (fun w s' => ∃ r H', w = .bool r ∧ Inv X pins σ H' s' ∧ Q r H') X.xe s →
      wpAny (model X.prog X.w) A (eqBool v (.ref a)) (fun r s' => ∃ H', Inv X pins σ H' s' ∧ Q r H') X.xe s := fun ne _ h => by
    unfold eqBool
    refine wpAny_holding (wpAny_ite_split (fun k => absurd k (by rw [ne]; simp)) fun _ => ?_)
    have go : wpAny (model X.prog X.w) A (do let r ← richCompare .Eq v (.ref a); truthOfDropped r) (fun r s' => ∃ H', Inv X pins σ H' s' ∧ Q r H') X.xe s := by
      refine wpAny_bind (wpAny_mono h (fun w s' k => ?_) fun _ _ k => k)
      obtain ⟨r, H', rfl, I', k⟩ := k
      exact wpAny_truthy_bool ⟨H', I', k⟩
    cases v <;> exact go
  cases al with
  | non =>
    cases rz
    exact flat rfl (fun _ _ k => nomatch k) (back rfl T.no (SW.no_none J.at_))
  | bl b =>
    cases rz
    exact flat rfl (fun _ _ k => nomatch k) (back rfl T.bo (SW.no_bool J.at_))
  | int i =>
    obtain ⟨t, rfl⟩ := rz
    exact flat rfl (fun _ _ k => nomatch k) (back rfl T.it (SW.no_int J.at_))
  | str i =>
    obtain ⟨t, rfl⟩ := rz
    exact flat rfl (fun _ _ k => nomatch k) (back rfl T.st (SW.no_str J.at_))
  | @lst p xs e =>
    cases rz
    obtain ⟨_, its, n0, _, hl⟩ := (show ObjOk X.prog X.w H s.heap p (.lst xs) from I.hok p _ e)
    have ne : p ≠ a := fun k => by
      rw [k, ha] at e
      cases e
    exact flat (by simpa using ne) (fun _ _ k => nomatch k) (back ⟨_, hl, rfl⟩ T.li (SW.no_list hl I.kIn J T.li))
  | @tup p xs e =>
    cases rz
    obtain ⟨_, its, _, o, h1, h2, n0, h3⟩ := (show ObjOk X.prog X.w H s.heap p (.tup xs) from I.hok p _ e)
    have ne : p ≠ a := fun k => by
      rw [k, ha] at e
      cases e
    obtain ⟨oc, od', dt, sl⟩ := o
    simp only at h2 h3
    subst h2 h3
    exact flat (by simpa using ne) (fun _ _ k => nomatch k) (back ⟨_, h1, rfl⟩ T.tu (SW.no_tup h1 I.kIn J T.tu))
/-- a in [z], z of a built-in type -/
def rInB (C : Addr) (sp : Sp) : R2 := fun x y H Q => ∃ (a l dx : Addr) (fs : List (PySem.Str × V)) (z : V), x = .ref a ∧ y = .ref l ∧ H l = some (.lst [z]) ∧ H a = some (.ins C dx fs) ∧ Alien H z ∧ Tru sp a z H fun r H' => H' l = some (.lst [z]) ∧ Q (.bl r) H'
theorem op_inB (T : OwnQ X.K C f) (F : FnOk X.prog X.w X.K X.mg X.base CX0 n f fd ps sp) (hb : Binds X.K fd ps []) (hr : Room (n + 1) X.A) : OpR X (compareOp .In) (rInB C sp) := by
  intro pins s σ H x y v u Q I rx ry h
  obtain ⟨a, l, dx, fs, z, rfl, rfl, hl, ha, al, q⟩ := h
  cases rx
  cases ry
  obtain ⟨_, its, n0, rv, hl1⟩ := (show ObjOk X.prog X.w H s.heap l (.lst [z]) from I.hok l _ hl)
  obtain ⟨u1, e1, r1⟩ := vals1 rv
  subst e1
  refine SW.in_one (y := u1) rfl hl1 (wpAny_mono (eq_alien T F hb ⟨hr.in1, rfl⟩ I ha r1 al q) (fun r s' k => ?_) fun _ _ k => k)
  obtain ⟨H', I', hl', k⟩ := k
  obtain ⟨_, its', n1, rv', hl2⟩ := (show ObjOk X.prog X.w H' s'.heap l (.lst [z]) from I'.hok l _ hl')
  obtain ⟨u2, e2, _⟩ := vals1 rv'
  subst e2
  exact ⟨⟨_, _, _, _, rfl, hl2⟩, .bl r, H', I', rfl, k⟩
end
end SH

set_option Elab.async false
set_option linter.all false
set_option maxRecDepth 100000
/-! repr of plain data; defs that ask for it, which are called where no such text is under way. -/
namespace SH
open PySem PySem.Spec PyProof.Rows L2
/-- a def's promise, where no guard stands around the call -/
structure FnG (P : Program) (w : World) (K : PySem.W.Frag) (mg : PySem.Str → Option Value) (base : Heap) (k : Nat) (f : Addr) (fd : FuncData) (ps : List PySem.Str) (sp : Sp) : Prop where
  len : ∀ vs H Q E, sp vs H Q E → vs.length = ps.length
  run : ∀ (A : Around) (outer : List Env) (s : Shared) (H : Hp) (args : Args) (us : List Value) (vs : List V) (Q : VK) (E : XK), A.guards = some [] → Room k A → Env0 P w K mg base A outer s H →
    BindsTo s fd args (ps.zip us) → Vals vs us → sp vs H Q E → codeAny (model P w) A (.call (.ref f) args) (CR CX0 outer P w H s Q E) s
section
variable {P : Program} {w : World} {K : PySem.W.Frag} {mg : PySem.Str → Option Value} {base : Heap}
theorem FnG.of {k : Nat} {f : Addr} {fd : FuncData} {ps : List PySem.Str} {sp : Sp} (F : FnOk P w K mg base CX0 k f fd ps sp) : FnG P w K mg base k f fd ps sp :=
  ⟨F.len, fun A outer s H args us vs Q E _ => F.run A outer s H args us vs Q E⟩
theorem FnG.mono {j k : Nat} {f : Addr} {fd : FuncData} {ps : List PySem.Str} {sp : Sp} (F : FnG P w K mg base j f fd ps sp) (h : j ≤ k) : FnG P w K mg base k f fd ps sp :=
  ⟨F.len, fun A outer s H args us vs Q E g r => F.run A outer s H args us vs Q E g (r.mono h)⟩
/-- a def of the text, by its body -/
theorem okG {x qual : PySem.Str} {st : Stmt} {f : Addr} {fd : FuncData} {N ps : List PySem.Str} {k : Nat} {sp : Sp} (F : Fun K x qual st f fd) (S : FnScope N ps (defScope st)) (len : ∀ vs H Q E, sp vs H Q E → vs.length = ps.length)
    (body : ∀ (cdv : Value) (A : Around) (outer : List Env) (s : Shared) (H : Hp) (vs : List V) (Q : VK) (E : XK), (A.deeper (envOfC qual (defScope st) s.heap.objs.size f cdv)).guards = some [] → Room k (A.deeper (envOfC qual (defScope st) s.heap.objs.size f cdv)) → sp vs H Q E →
      ∃ t, PSs (cxOf CX0 P w K mg base N qual (defScope st) f cdv A outer s H E).nox (defBody st) t ∧ t { nx := fun _ H' => Q .non H', rt := Q } (start N vs) H) : FnG P w K mg base (k + 1) f fd ps sp := by
  obtain ⟨oc, od, kV, doc, pm, an, cdv, ct, osl, rfl, look, code⟩ := F.ex
  refine ⟨len, ?_⟩
  intro A outer s H args us vs Q E gd room env bind rel want
  have many := len _ _ _ _ want
  have still : ∀ b o, base.get? b = some o → s.heap.get? b = some o := fun b o e => (env.bs b o e).1
  have inK := env.mod.kin.keeps still
  refine codeAny_call_function room.depth (inK _ _ look) rfl S.co S.gen rfl (PySem.W.codeRec_of inK code) (bind _ _ _ _ ?_)
  refine wpAny_newFunctionEnv_cells S.kind ?_ fun env' he s1 made => ?_
  · rintro ⟨n, v⟩ hy
    cases S.par n (List.of_mem_zip hy).1 with
    | inl q => exact .inl q
    | inr q => exact .inr ⟨q, PySem.W.cellsFrom_some _ _ _ (.inl q)⟩
  subst he
  refine ⟨(env.mod.nolimit.keeps still).keeps made.toInCall.keep, codeAny_func ?_⟩
  obtain ⟨t, ht, hq⟩ := body cdv A outer s H vs Q E gd (room.deeper _) want
  have begun : Inv (cxOf CX0 P w K mg base N qual (defScope st) f cdv A outer s H E) [] (start N vs) H s1 := inv_start S room.hd env many rel made
  refine wpAny_mono (ht.nox.run [] s1 _ H _ begun hq) (fun fl s' out => ?_) fun _ _ out => out
  cases fl with
  | ret u => exact let ⟨v, _, H', J, rv, q⟩ := out; ⟨v, H', J.os, J.bare, J.base, J.hok, rv, q⟩
  | next => exact let ⟨_, H', J, q⟩ := out; ⟨V.non, H', J.os, J.bare, J.base, J.hok, rfl, q⟩
  | brk => exact (let ⟨_, _, _, q⟩ := out; False.elim q)
  | cont => exact (let ⟨_, _, _, q⟩ := out; False.elim q)
end
section
variable {X : Cx}
/-- f(..) of such a def -/
theorem pe_callG {k : Nat} {f : Addr} {fd : FuncData} {ps : List PySem.Str} {sp : Sp} {x : PySem.Str} {p pos : Pos} {e : Expr} {es : List Expr} {t : TA} (F : FnG X.prog X.w X.K X.mg X.base k f fd ps sp) (gd : X.A.guards = some []) (hr : Room k X.A) (hg : Gl X x) (hm : X.mg x = some (.ref f)) (hk : PySem.W.keepIn X.K (.ref f) = true) (hb : Binds X.K fd ps [])
    (ha : PA X (e :: es) t) (hdb : (x == ("__debug__" : PySem.Str)) = false := by decide) (he : starEach (e :: es) X.env = (false, eval e X.env) :: starEach es X.env := by rfl) (hpl : (backTo pos (starEach es X.env)).any (·.1) = false := by rfl) :
    PE X (.Call (.Name x p) (e :: es) [] pos) (tCall sp [] E0 t) := by
  constructor
  intro pins s σ H Q I h
  refine wpAny_Call_Name_kw (ld_glob I hg hm ?_ hdb)
  refine PySem.W.callWith_K (h₀ := X.base) I.ok.mod.kin hk (thn (ha.run pos pins s σ H _ I h) ?_) he hpl
  rintro us s1 ⟨vs, H1, I1, r, q⟩
  rw [List.append_nil] at q
  refine ⟨I1.kIn, wpAny_call (codeAny_mono (F.run X.A X.stack s1 H1 ⟨us, []⟩ us vs Q E0 gd hr I1.env0 ?_ r q) fun r' s' hq => ?_)⟩
  · have := hb s1 us I1.kIn (by rw [List.append_nil, ← r.length]; exact F.len _ _ _ _ q)
    rwa [List.append_nil] at this
  · cases r' with
    | error e => exact False.elim hq
    | ok fl =>
      cases fl with
      | ret u => exact I1.after hq
      | next => exact False.elim hq
      | brk => exact False.elim hq
      | cont => exact False.elim hq
/-- repr(x), x a list or tuple of plain data -/
def rRepr (K : PySem.W.Frag) : List V → Hp → VK → Prop := fun xs H Q => ∃ (a : Addr) (d : PyData), xs = [.ref a] ∧ Dp K H (.ref a) d ∧ d.showable = true ∧ d.hasDict = false ∧ d.depth ≤ 60 ∧ d.shown.length ≤ sizeLine ∧ Q (.str d.shown) H
theorem call_reprD (gd : X.A.guards = some []) (hu : X.A.units + 64 < cLine) : CallR X (.builtin "repr") (rRepr X.K) := by
  intro pins s σ H xs us Q I r h
  obtain ⟨a, d, rfl, dp, sh, nd, de, sz, q⟩ := h
  obtain ⟨u, rfl, ru⟩ := vals1 r
  cases ru
  obtain ⟨as, rd⟩ := Dp.reads I d _ _ dp rfl
  refine repr_of_reads' rd sh (fun z => by rw [nd] at z; cases z) gd (by omega) (fun _ _ e => e) (fun h' t tk kp => ?_) sz
  exact ⟨.str d.shown, H, I.kept (t' := tk) kp, ⟨_, rfl⟩, q⟩
theorem call_reprK (K : PySem.W.Frag) (gd : X.A.guards = some []) (hu : X.A.units + 64 < cLine) (hK : X.K = K := by rfl) : CallR X (.builtin "repr") (rRepr K) := hK ▸ call_reprD gd hu
end
/-! ### the beginning -/
/-- the heap in which the script alone is known, and what comes of the law's end -/
theorem law_begin {P : Program} {w : World} {K : PySem.W.Frag} {mg mb : PySem.Str → Option Value} {a : Addr} {s₁ : Shared} {vs : List Value} {ns : List Int} (inK : K.In s₁.heap) (gl : s₁.heap.Ns mainGlobals mg) (bl : s₁.heap.Ns builtinsNs mb) (boot : ∀ x : PySem.Str, x ≠ "__name__" → mb x = bootBuiltins x) (nl : s₁.heap.NoLimit) (gens : s₁.gens = #[])
    (at_ : s₁.heap.get? a = some { cls := .type "list", data := .seq vs.toArray }) (hin : IntsAre vs ns) (few : ns.length ≤ sizeLine) :
    ∃ (H : Hp) (base : Heap), SqL K H a (ns.map V.int) ∧ Env0 P w K mg base callerA [] s₁ H ∧ K.In base ∧ base.Ns mainGlobals mg ∧ ∀ (r : Result) (s' : Shared), CR CX0 [] P w H s₁ (fun v _ => v = .bl true) E0 r s' → r = .ok (.ret (.bool true)) ∧ OldK s₁.heap s'.heap ∧ s'.os = s₁.os ∧ AllBare s'.gens := by
  have vals := vals_ints hin
  have many := hin.length
  -- any heap that knows no more than the script, as it lies there
  have any : ∀ H : Hp, (∀ b u, H b = some u → b = a ∧ K.lookup a = none ∧ ∃ o xs, u = .frz o xs) → SqL K H a (ns.map V.int) → HOk P w H s₁.heap →
      ∃ (H : Hp) (base : Heap), SqL K H a (ns.map V.int) ∧ Env0 P w K mg base callerA [] s₁ H ∧ K.In base ∧ base.Ns mainGlobals mg ∧ ∀ (r : Result) (s' : Shared), CR CX0 [] P w H s₁ (fun v _ => v = .bl true) E0 r s' → r = .ok (.ret (.bool true)) ∧ OldK s₁.heap s'.heap ∧ s'.os = s₁.os ∧ AllBare s'.gens := by
    intro H only sq ok
    have clear : ∀ {b : Addr} {o : Obj}, s₁.heap.get? b = some o → (b = a → K.lookup a = none → False) → (hidT s₁.heap H).get? b = some o := fun {b o} e no => by
      refine hidT_get e ?_
      cases q : H b with
      | none => rfl
      | some u => exact (no (only b u q).1 (only b u q).2.1).elim
    have ns' : ∀ {b : Addr} {m : PySem.Str → Option Value}, s₁.heap.Ns b m → (hidT s₁.heap H).Ns b m := by
      rintro b m ⟨o, es, ep, e, d, r⟩
      refine ⟨o, es, ep, clear e fun z _ => ?_, d, r⟩
      subst z
      rw [at_] at e
      cases e
      cases (show Data.seq vs.toArray _ = Data.dict es ep from d)
    have kb : K.In (hidT s₁.heap H) := fun b o e => clear (inK b o e) fun z n => by
      subst z
      rw [n] at e
      cases e
    refine ⟨H, hidT s₁.heap H, sq, ⟨rfl, ⟨kb, ns' gl, ⟨mb, ns' bl, boot⟩, ?_⟩, fun b o e => of_hidT e, Nat.le_of_eq (hidT_size _ _), trivial, ?_, ok, .of_eq gens⟩, kb, ns' gl, ?_⟩
    · obtain ⟨mc, h1, h2⟩ := nl
      exact ⟨mc, ns' h1, h2⟩
    · intro b hb
      cases (show b ∈ ([] : List Addr) from hb)
    · intro r s' h
      cases r with
      | error e => exact False.elim h
      | ok fl =>
        cases fl with
        | next => exact False.elim h
        | brk => exact False.elim h
        | cont => exact False.elim h
        | ret u =>
          obtain ⟨v, H', os, bare, un, ok', rv, q⟩ := h
          cases (show v = .bl true from q)
          cases (show u = Value.bool true from rv)
          refine ⟨rfl, OldK.of_keep fun b o e => ?_, os, bare⟩
          cases q : H b with
          | none => exact un.keep b o e q (fun z => by cases (show b ∈ ([] : List Addr) from z)) (by simp)
          | some u =>
            obtain ⟨_, _, ob, xs, rfl⟩ := only b u q
            have e1 := (ok b _ q).1
            rw [e] at e1
            cases e1
            exact (ok' b _ (un.frzs b _ _ q)).1
  cases look : K.lookup a with
  | some o =>
    have e := inK a o look
    rw [at_] at e
    cases e
    refine any (fun _ => none) (fun b u z => by cases z) ?_ (fun b u z => by cases (show (none : Option HO) = some u from z))
    exact .inr ⟨_, vs.toArray, _, look, rfl, rfl, rfl, by rw [List.size_toArray, many]; exact few, by simpa using vals⟩
  | none =>
    refine any (fun b => if b = a then some (.frz { cls := .type "list", data := .seq vs.toArray } (.lst (ns.map V.int))) else none) ?_ (.inl (.inr ⟨{ cls := .type "list", data := .seq vs.toArray }, if_pos rfl⟩)) ?_
    · intro b u z
      by_cases hb : b = a
      · rw [if_pos hb] at z
        cases z
        exact ⟨hb, look, _, _, rfl⟩
      · rw [if_neg hb] at z
        cases z
    · intro b u z
      by_cases hb : b = a
      · have z' := (if_pos hb).symm.trans z
        cases z'
        subst hb
        exact ⟨at_, by rw [List.length_map]; exact few, vs, _, vals, at_⟩
      · cases (if_neg hb).symm.trans z
/-- the law's walk, from such a promise of it -/
theorem walk_G {l : PySem.W.OpenLaw} {k : Nat} {q : Program} {loose : List PySem.Str} {XP : (PySem.Str → Option Value) → Heap → Prop} {YP : World → Heap → Prop} {d : DefRec} {K : Params → PySem.W.Frag} {sp : PySem.W.Frag → Sp} (most : l.most = some 63) (nodf : d.params.defaults = []) (room : Room k callerA)
    (hY : ∀ (w : World) (h : Heap), YP w h → (K w.params).In h)
    (F : ∀ (w : World) (mg : PySem.Str → Option Value) (fa : Addr) (h : Heap), (K w.params).In h → h.Ns mainGlobals mg → mg d.name = some (.ref fa) →
      ∃ fd : FuncData, (∀ (s : Shared) (u : Value), BindsTo s fd ⟨[u], []⟩ [("_law_script", u)]) ∧ ∀ base : Heap, (K w.params).In base → base.Ns mainGlobals mg → FnG l.prog w (K w.params) mg base k fa fd ["_law_script"] (sp (K w.params)))
    (hsp : ∀ (K : PySem.W.Frag) (H : Hp) (a : Addr) (ns : List Int), ns.length ≤ 63 → SqL K H a (ns.map V.int) → sp K [.ref a] H (fun v _ => v = .bl true) E0) :
    PySem.W.WalkO q loose XP YP l.row.toRowW d [] (fun f vs => PySem.call f vs) := by
  refine Att.attach_call most nodf fun w s₀ s₁ mg mb fa o pm cd doc a vs ns G Y ho hd hcd hmg hobj hints hlen hg => ?_
  obtain ⟨fd, hb, hF⟩ := F w mg fa _ (hY w _ Y) G.T.g hmg
  obtain ⟨H, base, sq, env, kb, nb, out⟩ := law_begin (P := l.prog) (w := w) (hY w _ Y) G.T.g G.T.b G.T.builtins G.T.nolimit hg hobj hints (Nat.le_trans hlen (by decide))
  exact codeAny_mono ((hF base kb nb).run callerA [] s₁ H ⟨[.ref a], []⟩ [.ref a] [.ref a] _ _ rfl room env (hb s₁ (.ref a)) (.cons rfl .nil) (hsp _ H a ns hlen sq)) out
end SH

set_option Elab.async false
set_option linter.all false
set_option maxRecDepth 100000
/-! plain data of tuples: how deep, how long their text. -/
namespace SH
open PySem L2
mutual
def onlyT : PyData → Bool
  | .none => true
  | .bool _ => true
  | .int _ => true
  | .str _ => true
  | .list _ => false
  | .tuple ds => onlyTs ds
  | .dict _ => false
def onlyTs : List PyData → Bool
  | [] => true
  | d :: ds => onlyT d && onlyTs ds
end
theorem onlyTs_mem : ∀ {ds : List PyData}, (∀ d ∈ ds, onlyT d = true) → onlyTs ds = true
  | [], _ => rfl
  | d :: ds, h => by
    show (onlyT d && onlyTs ds) = true
    rw [h d (List.mem_cons_self ..), onlyTs_mem fun e he => h e (List.mem_cons_of_mem _ he)]
    rfl
theorem mem_onlyTs : ∀ {ds : List PyData}, onlyTs ds = true → ∀ d ∈ ds, onlyT d = true
  | [], _, d, hd => by cases hd
  | e :: ds, h, d, hd => by
    have h' : (onlyT e && onlyTs ds) = true := h
    rw [Bool.and_eq_true] at h'
    rcases List.mem_cons.mp hd with rfl | hd
    · exact h'.1
    · exact mem_onlyTs h'.2 d hd
/-! such data stay where the tuples stay -/
def KpT (K : PySem.W.Frag) (H H' : Hp) : Prop := ∀ a xs, SqT K H a xs → SqT K H' a xs
mutual
theorem Dp.keep {K : PySem.W.Frag} {H H' : Hp} (h : KpT K H H') : ∀ {d : PyData} {v : V}, onlyT d = true → Dp K H v d → Dp K H' v d
  | .none, _, _, .non => .non
  | .bool _, _, _, .bl b => .bl b
  | .int _, _, _, .int i => .int i
  | .str _, _, _, .str x => .str x
  | .list _, _, o, _ => by cases o
  | .tuple ds, _, o, .tup s q => .tup (h _ _ s) (DpAll.keep h o q)
  | .dict _, _, o, _ => by cases o
theorem DpAll.keep {K : PySem.W.Frag} {H H' : Hp} (h : KpT K H H') : ∀ {ds : List PyData} {vs : List V}, onlyTs ds = true → DpAll K H vs ds → DpAll K H' vs ds
  | [], _, _, .nil => .nil
  | d :: ds, _, o, .cons a b => by
    have o' : (onlyT d && onlyTs ds) = true := o
    rw [Bool.and_eq_true] at o'
    exact .cons (Dp.keep h o'.1 a) (DpAll.keep h o'.2 b)
end
theorem Same.kpT {K : PySem.W.Frag} {H H' : Hp} (s : Same H H') : KpT K H H' := fun a xs h => by
  rcases h with (h | ⟨o, h⟩) | h
  · exact .inl (.inl (s _ _ h))
  · exact .inl (.inr ⟨o, s _ _ h⟩)
  · exact .inr h
theorem KpT.trans {K : PySem.W.Frag} {H H1 H2 : Hp} (a : KpT K H H1) (b : KpT K H1 H2) : KpT K H H2 := fun x xs h => b x xs (a x xs h)
theorem KpT.lst {K : PySem.W.Frag} {H : Hp} {l : Addr} {xs zs : List V} (h : H l = some (.lst xs)) : KpT K H (upd H l (.lst zs)) := fun a ys q => by
  rcases q with (q | ⟨o, q⟩) | q
  · exact .inl (.inl (by rw [upd_ne (fun z => by rw [z, h] at q; cases q)]; exact q))
  · exact .inl (.inr ⟨o, by rw [upd_ne (fun z => by rw [z, h] at q; cases q)]; exact q⟩)
  · exact .inr q
theorem DpAll.app {K : PySem.W.Frag} {H : Hp} : ∀ {as bs : List V} {ds es : List PyData}, DpAll K H as ds → DpAll K H bs es → DpAll K H (as ++ bs) (ds ++ es)
  | _, _, _, _, .nil, q => q
  | _, _, _, _, .cons a b, q => .cons a (DpAll.app b q)
theorem DpAll.len {K : PySem.W.Frag} {H : Hp} : ∀ {as : List V} {ds : List PyData}, DpAll K H as ds → as.length = ds.length
  | _, _, .nil => rfl
  | _, _, .cons _ b => by rw [List.length_cons, List.length_cons, DpAll.len b]
theorem DpAll.rev {K : PySem.W.Frag} {H : Hp} : ∀ {as : List V} {ds : List PyData}, DpAll K H as ds → DpAll K H as.reverse ds.reverse
  | _, _, .nil => .nil
  | _, _, .cons a b => by
    rw [List.reverse_cons, List.reverse_cons]
    exact DpAll.app (DpAll.rev b) (.cons a .nil)
/-! ### how long their text is -/
theorem piled_sum : ∀ ts : List Str, piled ts = (ts.map fun t => t.length + 2).sum
  | [] => rfl
  | t :: ts => by rw [piled_cons, piled_sum ts, List.map_cons, List.sum_cons]
theorem tuple_len (ts : List Str) : (tupleText ts).length ≤ 3 + (ts.map fun t => t.length + 2).sum := by
  unfold tupleText
  rw [strLen_append, strLen_append]
  have e1 : (((if ts.length == 1 then ",)" else ")" : String) : Str)).length ≤ 2 := by split <;> decide
  have e2 : (("(" : String) : Str).length = 1 := rfl
  cases ts with
  | nil =>
    have : (Str.join ", " ([] : List Str)).length = 0 := rfl
    omega
  | cons x r =>
    have := join_length_add (x :: r) (by simp)
    rw [piled_sum] at this
    omega
theorem textFrom_le : ∀ (ts : List Str) (k : Nat) (acc : Str), (textFrom k acc ts).length ≤ acc.length + (ts.map fun t => t.length + 2).sum
  | [], _, acc => Nat.le_refl _
  | t :: r, k, acc => by
    have h := textFrom_le r (k + 1) (acc ++ (if k > 0 then ", " else "" : String) ++ t)
    have e : (acc ++ (if k > 0 then ", " else "" : String) ++ t).length ≤ acc.length + 2 + t.length := by
      rw [strLen_append, strLen_append]
      have : (((if k > 0 then ", " else "" : String) : Str)).length ≤ 2 := by split <;> decide
      omega
    show (textFrom (k + 1) (acc ++ (if k > 0 then ", " else "" : String) ++ t) r).length ≤ _
    rw [List.map_cons, List.sum_cons]
    omega
theorem list_len (ts : List Str) : (listText ts).length ≤ 2 + (ts.map fun t => t.length + 2).sum := by
  unfold listText
  rw [strLen_append]
  have := textFrom_le ts 0 "["
  have e1 : (("[" : String) : Str).length = 1 := rfl
  have e2 : (("]" : String) : Str).length = 1 := rfl
  omega
/-- plain data of tuples, no deeper than n, with a text of at most m signs -/
structure Nice (n m : Nat) (d : PyData) : Prop where
  lay : PySem.PyData.canLay0 d = true
  dep : d.depth ≤ n
  ot : onlyT d = true
  sh : d.showable = true
  nd : d.hasDict = false
  sz : d.shown.length ≤ m
theorem Nice.up {n m n' m' : Nat} {d : PyData} (h : Nice n m d) (a : n ≤ n') (b : m ≤ m') : Nice n' m' d := ⟨h.lay, Nat.le_trans h.dep a, h.ot, h.sh, h.nd, Nat.le_trans h.sz b⟩
theorem showAll_mem : ∀ {ds : List PyData}, (∀ d ∈ ds, PyData.showable d = true) → PyData.showableAll ds = true
  | [], _ => rfl
  | d :: ds, h => by
    show (PyData.showable d && PyData.showableAll ds) = true
    rw [h d (List.mem_cons_self ..), showAll_mem fun e he => h e (List.mem_cons_of_mem _ he)]
    rfl
theorem noDict_mem : ∀ {ds : List PyData}, (∀ d ∈ ds, PyData.hasDict d = false) → PyData.hasDictAll ds = false
  | [], _ => rfl
  | d :: ds, h => by
    show (PyData.hasDict d || PyData.hasDictAll ds) = false
    rw [h d (List.mem_cons_self ..), noDict_mem fun e he => h e (List.mem_cons_of_mem _ he)]
    rfl
theorem shownAll_map : ∀ ds : List PyData, PyData.shownAll ds = ds.map PyData.shown
  | [] => rfl
  | d :: ds => by
    show PyData.shown d :: PyData.shownAll ds = _
    rw [shownAll_map ds]
    rfl
theorem lay_all (xs : List PyData) : PySem.PyData.canLayAll0 xs = xs.all PySem.PyData.canLay0 := by
  induction xs with
  | nil => rfl
  | cons x xs ih =>
    show (PySem.PyData.canLay0 x && PySem.PyData.canLayAll0 xs) = _
    rw [ih, List.all_cons]
theorem deep_all {n : Nat} : ∀ {xs : List PyData}, (∀ x ∈ xs, x.depth ≤ n) → PySem.PyData.depthAll xs ≤ n
  | [], _ => Nat.zero_le _
  | x :: xs, h => by
    show max x.depth (PySem.PyData.depthAll xs) ≤ n
    have h1 := h x (List.mem_cons_self ..)
    have h2 := deep_all fun y hy => h y (List.mem_cons_of_mem _ hy)
    omega
/-- the parts one by one: no deeper than n, their texts together -/
inductive Nices (n : Nat) : Nat → List PyData → Prop
  | nil : Nices n 0 []
  | cons {m k : Nat} {d : PyData} {ds : List PyData} : Nice n m d → Nices n k ds → Nices n (m + 2 + k) (d :: ds)
theorem Nices.mem {n k : Nat} {ds : List PyData} (h : Nices n k ds) : ∀ d ∈ ds, ∃ m, Nice n m d := by
  induction h with
  | nil => intro d hd; cases hd
  | cons a _ ih =>
    intro e he
    rcases List.mem_cons.mp he with rfl | he
    · exact ⟨_, a⟩
    · exact ih e he
theorem Nices.sum {n k : Nat} {ds : List PyData} (h : Nices n k ds) : ((PyData.shownAll ds).map fun t => t.length + 2).sum ≤ k := by
  induction h with
  | nil => exact Nat.le_refl _
  | @cons m k d ds a _ ih =>
    show ((PyData.shown d :: PyData.shownAll ds).map fun t => t.length + 2).sum ≤ _
    rw [List.map_cons, List.sum_cons]
    have := a.sz
    omega
theorem Nices.app {n k l : Nat} {ds es : List PyData} (a : Nices n k ds) (b : Nices n l es) : Nices n (k + l) (ds ++ es) := by
  induction a with
  | nil => rw [Nat.zero_add]; exact b
  | @cons m k d ds h _ ih =>
    have := Nices.cons h ih
    rw [show m + 2 + k + l = m + 2 + (k + l) by omega]
    exact this
theorem Nices.all {n m : Nat} : ∀ {ds : List PyData}, (∀ d ∈ ds, Nice n m d) → Nices n (ds.length * (m + 2)) ds
  | [], _ => by rw [List.length_nil, Nat.zero_mul]; exact .nil
  | d :: ds, h => by
    have := Nices.cons (h d (List.mem_cons_self ..)) (Nices.all fun e he => h e (List.mem_cons_of_mem _ he))
    rw [List.length_cons, Nat.succ_mul, Nat.add_comm]
    exact this
theorem nice_tup {n k : Nat} {ds : List PyData} (h : Nices n k ds) : Nice (n + 1) (3 + k) (.tuple ds) := by
  have me := h.mem
  refine ⟨?_, ?_, ?_, ?_, ?_, ?_⟩
  · show PySem.PyData.canLayAll0 ds = true
    rw [lay_all, List.all_eq_true]
    exact fun d hd => (let ⟨_, z⟩ := me d hd; z.lay)
  · show PySem.PyData.depthAll ds + 1 ≤ n + 1
    have := deep_all (n := n) fun d hd => (let ⟨_, z⟩ := me d hd; z.dep)
    omega
  · exact onlyTs_mem fun d hd => (let ⟨_, z⟩ := me d hd; z.ot)
  · exact showAll_mem fun d hd => (let ⟨_, z⟩ := me d hd; z.sh)
  · exact noDict_mem fun d hd => (let ⟨_, z⟩ := me d hd; z.nd)
  · have := tuple_len (PyData.shownAll ds)
    have := h.sum
    show (tupleText (PyData.shownAll ds)).length ≤ _
    omega
/-- a list of such data -/
structure NiceL (ds : List PyData) : Prop where
  lay : PySem.PyData.canLay0 (.list ds) = true
  dep : (PyData.list ds).depth ≤ 40
  ot : onlyTs ds = true
  sh : (PyData.list ds).showable = true
  nd : (PyData.list ds).hasDict = false
  sz : (PyData.list ds).shown.length ≤ sizeLine
theorem niceL {n k : Nat} {ds : List PyData} (h : Nices n k ds) (hn : n < 40) (hk : k + 2 ≤ sizeLine) : NiceL ds := by
  have me := h.mem
  refine ⟨?_, ?_, ?_, ?_, ?_, ?_⟩
  · show PySem.PyData.canLayAll0 ds = true
    rw [lay_all, List.all_eq_true]
    exact fun d hd => (let ⟨_, z⟩ := me d hd; z.lay)
  · show PySem.PyData.depthAll ds + 1 ≤ 40
    have := deep_all (n := n) fun d hd => (let ⟨_, z⟩ := me d hd; z.dep)
    omega
  · exact onlyTs_mem fun d hd => (let ⟨_, z⟩ := me d hd; z.ot)
  · exact showAll_mem fun d hd => (let ⟨_, z⟩ := me d hd; z.sh)
  · exact noDict_mem fun d hd => (let ⟨_, z⟩ := me d hd; z.nd)
  · have := list_len (PyData.shownAll ds)
    have := h.sum
    show (listText (PyData.shownAll ds)).length ≤ _
    omega
theorem NiceL.shaped {ds : List PyData} (h : NiceL ds) : SeqAt.shaped (.list ds) = true := by
  unfold SeqAt.shaped
  rw [h.lay, decide_eq_true (Nat.le_trans h.dep (by decide))]
  rfl
theorem NiceL.refl {ds : List PyData} (h : NiceL ds) : PyData.eqv (.list ds) (.list ds) = true := SeqAt.eqv_refl _ h.lay
theorem nice_int {n : Nat} {i : Int} (h : i.natAbs < 2 ^ 100) : Nice n 101 (.int i) := by
  have lg : i.natAbs.log2 < 1920 := by
    by_cases z : i.natAbs = 0
    · rw [z]; decide
    · have := (Nat.log2_lt z).mpr h
      omega
  refine ⟨rfl, Nat.zero_le _, rfl, decide_eq_true lg, rfl, ?_⟩
  show (Str.ofString (toString i)).length ≤ 101
  have e := int_text_length_le (a := i) (k := 100) (by decide) (by
    by_cases z : i.natAbs = 0
    · rw [z]; decide
    · exact (Nat.log2_lt z).mpr h)
  rw [ofString_length]; exact e
theorem nice_lit {n m : Nat} {s : Str} (h : PySem.PyData.strOk s = true) (k : (reprText s).length ≤ m) : Nice n m (.str s) := ⟨h, Nat.zero_le _, rfl, rfl, rfl, k⟩
end SH

set_option Elab.async false
set_option linter.all false
set_option maxRecDepth 100000
/-! sorted of lists of plain data. -/
namespace SH
open PySem PySem.Spec PyProof.Rows L2
/-- these things, sorted by the data that they are -/
def sortV (xs : List V) (ds : List PyData) : List V := ((xs.zip ds).mergeSort (PySem.W.dataLe false Prod.snd)).map Prod.fst
def sortDs (ds : List PyData) : List PyData := ds.mergeSort (PySem.W.dataLe false id)
theorem dpLen {K : PySem.W.Frag} {H : Hp} : ∀ {xs : List V} {ds : List PyData}, DpAll K H xs ds → xs.length = ds.length
  | _, _, .nil => rfl
  | _, _, .cons _ t => congrArg (· + 1) (dpLen t)
theorem dpPairs {K : PySem.W.Frag} {H : Hp} : ∀ {xs : List V} {ds : List PyData}, DpAll K H xs ds → ∀ p ∈ xs.zip ds, Dp K H p.1 p.2
  | _, _, .nil, p, hp => by cases hp
  | _, _, .cons h t, p, hp => by
    rcases List.mem_cons.mp hp with e | hp
    · rw [e]; exact h
    · exact dpPairs t p hp
theorem dpOfPairs {K : PySem.W.Frag} {H : Hp} : ∀ (l : List (V × PyData)), (∀ p ∈ l, Dp K H p.1 p.2) → DpAll K H (l.map Prod.fst) (l.map Prod.snd)
  | [], _ => .nil
  | p :: l, h => .cons (h p List.mem_cons_self) (dpOfPairs l fun q hq => h q (List.mem_cons_of_mem _ hq))
theorem zip_snd {xs : List V} {ds : List PyData} (h : xs.length = ds.length) : (xs.zip ds).map Prod.snd = ds := by
  rw [List.map_snd_zip]
  omega
theorem sortV_dp {K : PySem.W.Frag} {H : Hp} {xs : List V} {ds : List PyData} (h : DpAll K H xs ds) : DpAll K H (sortV xs ds) (sortDs ds) := by
  have e : sortDs ds = ((xs.zip ds).mergeSort (PySem.W.dataLe false Prod.snd)).map Prod.snd := by
    unfold sortDs
    conv => lhs; rw [← zip_snd (dpLen h)]
    exact (PySem.W.sort_maps (r := PySem.W.dataLe false Prod.snd) (s := PySem.W.dataLe false id) Prod.snd fun _ _ _ _ => rfl).symm
  rw [e]
  exact dpOfPairs _ fun p hp => dpPairs h p (List.mem_mergeSort.mp hp)
theorem sortV_len {xs : List V} {ds : List PyData} (h : xs.length = ds.length) : (sortV xs ds).length = xs.length := by
  unfold sortV
  rw [List.length_map, List.length_mergeSort, List.length_zip]
  omega
def rSortD (K : PySem.W.Frag) : List V → Hp → VK → Prop := fun vs H Q => ∃ (a : Addr) (xs : List V) (ds : List PyData), vs = [V.ref a] ∧ SqL K H a xs ∧ DpAll K H xs ds ∧ PySem.W.AllAlike ds ∧ PySem.W.Sortable ds ∧ (∀ d ∈ ds, d.depth ≤ 60) ∧
  ∀ p : Addr, H p = none → Q (.ref p) (upd H p (.lst (sortV xs ds)))
section
variable {X : Cx}
theorem eachVals : ∀ {xs : List V} {us : List Value} {ds : List PyData}, Vals xs us → xs.length = ds.length → PySem.W.EachIs (fun u (b : V × PyData) => RelV b.1 u) us (xs.zip ds)
  | [], _, [], .nil, _ => .nil
  | _ :: _, _, _ :: _, .cons r t, h => .cons r (eachVals t (Nat.succ.inj h))
theorem valsEach : ∀ {us : List Value} {bs : List (V × PyData)}, PySem.W.EachIs (fun u (b : V × PyData) => RelV b.1 u) us bs → Vals (bs.map Prod.fst) us
  | _, _, .nil => .nil
  | _, _, .cons r t => .cons r (valsEach t)
theorem cr_sortD (hu : X.A.units + 64 < cLine) : CallR X (.builtin "sorted") (rSortD X.K) := by
  intro pins s σ H vs us Q I r h
  obtain ⟨a, xs, ds, rfl, hs, hd, al, so, dp, q⟩ := h
  obtain ⟨its, rv, hl, hz⟩ := I.list hs
  obtain ⟨u, rfl, ru⟩ := vals1 r
  obtain rfl : u = Value.ref a := ru
  have len := dpLen hd
  have hsn : (xs.zip ds).map Prod.snd = ds := zip_snd len
  have zl : (xs.zip ds).length = xs.length := by rw [List.length_zip]; omega
  have er : PySem.W.EachIs (fun (v : Value) (b : V × PyData) => ∃ as, Reads s.heap v b.2 as) its (xs.zip ds) := by
    have e1 := PySem.W.each_mem (eachVals rv len)
    exact e1.mono fun v b ⟨rb, mb⟩ => Dp.reads I b.2 b.1 v (dpPairs hd b mb) rb
  refine PySem.W.sorted_data (enc := Prod.snd) hl.isList (eachVals rv len) er (by rw [hsn]; exact al) (by rw [hsn]; exact so) (by rw [zl]; exact hz) (fun b hb => ?_) fun out ol oe => ?_
  · have : b.2 ∈ ds := (List.of_mem_zip hb).2
    have := dp _ this
    omega
  · have hv : Vals (sortV xs ds) out := valsEach oe
    obtain ⟨e, he⟩ := sortedAll_at s.heap its (List.toArray out)
    exact ⟨.ref (s.heap.objs.size + 1), upd H _ (.lst (sortV xs ds)), I.laid (t' := s.toks) (fun _ _ => sortedAll_old) (Nat.le_succ _) ⟨by rw [sortV_len len]; exact hz, out, e, hv, he⟩, rfl, q _ (I.hok.fresh (Nat.le_succ _))⟩
end
end SH

set_option Elab.async false
set_option linter.all false
set_option maxRecDepth 100000
/-! plain data: when two are the same; paths. -/
namespace SH
open PySem L2
mutual
def plainD : PyData → Bool
  | .none => true
  | .bool _ => false
  | .int _ => true
  | .str _ => true
  | .list ds => plainDs ds
  | .tuple ds => plainDs ds
  | .dict _ => false
def plainDs : List PyData → Bool
  | [] => true
  | d :: ds => plainD d && plainDs ds
end
mutual
theorem eqv_iff : ∀ {d e : PyData}, plainD d = true → plainD e = true → (PyData.eqv d e = true ↔ d = e)
  | .none, .none, _, _ => by simp [PyData.eqv]
  | .none, .int _, _, _ => by simp [PyData.eqv]
  | .none, .str _, _, _ => by simp [PyData.eqv]
  | .none, .list _, _, _ => by simp [PyData.eqv]
  | .none, .tuple _, _, _ => by simp [PyData.eqv]
  | .int _, .none, _, _ => by simp [PyData.eqv]
  | .int i, .int j, _, _ => by simp [PyData.eqv]
  | .int _, .str _, _, _ => by simp [PyData.eqv]
  | .int _, .list _, _, _ => by simp [PyData.eqv]
  | .int _, .tuple _, _, _ => by simp [PyData.eqv]
  | .str _, .none, _, _ => by simp [PyData.eqv]
  | .str _, .int _, _, _ => by simp [PyData.eqv]
  | .str x, .str y, _, _ => by simp [PyData.eqv]
  | .str _, .list _, _, _ => by simp [PyData.eqv]
  | .str _, .tuple _, _, _ => by simp [PyData.eqv]
  | .list _, .none, _, _ => by simp [PyData.eqv]
  | .list _, .int _, _, _ => by simp [PyData.eqv]
  | .list _, .str _, _, _ => by simp [PyData.eqv]
  | .list xs, .list ys, h, k => by
    have := eqvAll_iff (ds := xs) (es := ys) h k
    simp [PyData.eqv, this]
  | .list _, .tuple _, _, _ => by simp [PyData.eqv]
  | .tuple _, .none, _, _ => by simp [PyData.eqv]
  | .tuple _, .int _, _, _ => by simp [PyData.eqv]
  | .tuple _, .str _, _, _ => by simp [PyData.eqv]
  | .tuple _, .list _, _, _ => by simp [PyData.eqv]
  | .tuple xs, .tuple ys, h, k => by
    have := eqvAll_iff (ds := xs) (es := ys) h k
    simp [PyData.eqv, this]
  | .bool _, _, h, _ => by cases h
  | .dict _, _, h, _ => by cases h
  | _, .bool _, _, h => by cases h
  | _, .dict _, _, h => by cases h
theorem eqvAll_iff : ∀ {ds es : List PyData}, plainDs ds = true → plainDs es = true → (PyData.eqvAll ds es = true ↔ ds = es)
  | [], [], _, _ => by simp [PyData.eqvAll]
  | [], _ :: _, _, _ => by simp [PyData.eqvAll]
  | _ :: _, [], _, _ => by simp [PyData.eqvAll]
  | d :: ds, e :: es, h, k => by
    have h' : (plainD d && plainDs ds) = true := h
    have k' : (plainD e && plainDs es) = true := k
    rw [Bool.and_eq_true] at h' k'
    simp [PyData.eqvAll, eqv_iff h'.1 k'.1, eqvAll_iff h'.2 k'.2]
end
/-- a path -/
def pathD (p : List Int) : PyData := .tuple (p.map .int)
theorem ints_inj : ∀ {p q : List Int}, p.map PyData.int = q.map PyData.int → p = q
  | [], [], _ => rfl
  | [], _ :: _, h => by cases h
  | _ :: _, [], h => by cases h
  | a :: p, b :: q, h => by
    rw [List.map_cons, List.map_cons] at h
    injection h with h1 h2
    injection h1 with h1
    rw [h1, ints_inj h2]
theorem pathD_inj {p q : List Int} (h : pathD p = pathD q) : p = q := by
  unfold pathD at h
  injection h with h
  exact ints_inj h
theorem plain_ints : ∀ p : List Int, plainDs (p.map .int) = true
  | [] => rfl
  | _ :: p => by show (true && plainDs (p.map .int)) = true; rw [plain_ints p]; rfl
theorem plain_path (p : List Int) : plainD (pathD p) = true := plain_ints p
theorem eqv_path (p q : List Int) : PyData.eqv (pathD p) (pathD q) = decide (p = q) := by
  by_cases h : p = q
  · rw [decide_eq_true h]
    exact (eqv_iff (plain_path p) (plain_path q)).mpr (by rw [h])
  · rw [decide_eq_false h]
    cases e : PyData.eqv (pathD p) (pathD q) with
    | false => rfl
    | true => exact absurd (pathD_inj ((eqv_iff (plain_path p) (plain_path q)).mp e)) h
theorem plain_paths : ∀ ps : List (List Int), plainDs (ps.map pathD) = true
  | [] => rfl
  | p :: ps => by show (plainD (pathD p) && plainDs (ps.map pathD)) = true; rw [plain_path, plain_paths ps]; rfl
theorem paths_inj : ∀ {ps qs : List (List Int)}, ps.map pathD = qs.map pathD → ps = qs
  | [], [], _ => rfl
  | [], _ :: _, h => by cases h
  | _ :: _, [], h => by cases h
  | a :: p, b :: q, h => by
    rw [List.map_cons, List.map_cons] at h
    injection h with h1 h2
    rw [pathD_inj h1, paths_inj h2]
theorem eqv_paths (ps qs : List (List Int)) : PyData.eqv (.list (ps.map pathD)) (.list (qs.map pathD)) = decide (ps = qs) := by
  have i := eqv_iff (d := .list (ps.map pathD)) (e := .list (qs.map pathD)) (plain_paths ps) (plain_paths qs)
  by_cases h : ps = qs
  · rw [decide_eq_true h]
    exact i.mpr (by rw [h])
  · rw [decide_eq_false h]
    cases e : PyData.eqv (.list (ps.map pathD)) (.list (qs.map pathD)) with
    | false => rfl
    | true =>
      have := i.mp e
      injection this with this
      exact absurd (paths_inj this) h
theorem lay_ints : ∀ p : List Int, PyData.canLayAll0 (p.map .int) = true
  | [] => by rw [List.map_nil, PyData.canLayAll0]
  | _ :: p => by rw [List.map_cons, PyData.canLayAll0, lay_ints p, PyData.canLay0]; rfl
theorem depth_ints : ∀ p : List Int, PyData.depthAll (p.map .int) = 0
  | [] => by rw [List.map_nil, PyData.depthAll]
  | _ :: p => by rw [List.map_cons, PyData.depthAll, depth_ints p, PyData.depth]; rfl
theorem depth_path (p : List Int) : (pathD p).depth = 1 := by unfold pathD; rw [PyData.depth, depth_ints]
theorem shaped_path (p : List Int) : SeqAt.shaped (pathD p) = true := by
  unfold SeqAt.shaped
  rw [depth_path]
  unfold pathD
  rw [PyData.canLay0, lay_ints]
  rfl
theorem lay_paths : ∀ ps : List (List Int), PyData.canLayAll0 (ps.map pathD) = true
  | [] => by rw [List.map_nil, PyData.canLayAll0]
  | p :: ps => by
    rw [List.map_cons, PyData.canLayAll0, lay_paths ps]
    unfold pathD
    rw [PyData.canLay0, lay_ints]
    rfl
theorem depth_paths : ∀ ps : List (List Int), PyData.depthAll (ps.map pathD) ≤ 1
  | [] => by rw [List.map_nil, PyData.depthAll]; decide
  | p :: ps => by
    have := depth_paths ps
    rw [List.map_cons, PyData.depthAll, depth_path]
    omega
theorem shaped_paths (ps : List (List Int)) : SeqAt.shaped (.list (ps.map pathD)) = true := by
  unfold SeqAt.shaped
  have := depth_paths ps
  rw [PyData.canLay0, lay_paths, PyData.depth]
  simp
  omega
theorem only_ints : ∀ p : List Int, onlyTs (p.map .int) = true
  | [] => rfl
  | _ :: p => by show (true && onlyTs (p.map .int)) = true; rw [only_ints p]; rfl
theorem only_path (p : List Int) : onlyT (pathD p) = true := only_ints p
theorem only_paths : ∀ ps : List (List Int), onlyTs (ps.map pathD) = true
  | [] => rfl
  | p :: ps => by show (onlyT (pathD p) && onlyTs (ps.map pathD)) = true; rw [only_path, only_paths ps]; rfl
section
variable {K : PySem.W.Frag} {H : Hp}
theorem dpInts : ∀ {p : List Int} {xs : List V}, DpAll K H xs (p.map PyData.int) → xs = p.map V.int
  | [], _, .nil => rfl
  | _ :: _, _, .cons (.int _) t => by rw [dpInts t]; rfl
theorem intsDp : ∀ p : List Int, DpAll K H (p.map V.int) (p.map PyData.int)
  | [] => .nil
  | i :: p => .cons (.int i) (intsDp p)
theorem dpPath {v : V} {p : List Int} (h : Dp K H v (pathD p)) : ∃ a, v = .ref a ∧ SqT K H a (p.map V.int) := by
  cases h with
  | tup s q => exact ⟨_, rfl, by rw [← dpInts q]; exact s⟩
theorem pathDp {a : Addr} {p : List Int} (h : SqT K H a (p.map V.int)) : Dp K H (.ref a) (pathD p) := .tup h (intsDp p)
theorem dpGet : ∀ {xs : List V} {ds : List PyData} {i : Nat} {v : V}, DpAll K H xs ds → xs[i]? = some v → ∃ d, ds[i]? = some d ∧ Dp K H v d
  | _, _, _, _, .nil, h => by simp at h
  | _, _, 0, _, .cons a _, h => by
    obtain rfl := Option.some.inj h
    exact ⟨_, rfl, a⟩
  | _, _, i + 1, _, .cons _ t, h => dpGet (i := i) t h
theorem dpPathAt {xs : List V} {ps : List (List Int)} {i : Nat} {v : V} (h : DpAll K H xs (ps.map pathD)) (e : xs[i]? = some v) : ∃ p, ps[i]? = some p ∧ Dp K H v (pathD p) := by
  obtain ⟨d, hd, q⟩ := dpGet h e
  rw [List.getElem?_map] at hd
  cases hp : ps[i]? with
  | none => rw [hp] at hd; cases hd
  | some p =>
    rw [hp] at hd
    obtain rfl := Option.some.inj hd
    exact ⟨p, rfl, q⟩
theorem dpTake : ∀ {xs : List V} {ds : List PyData} (n : Nat), DpAll K H xs ds → DpAll K H (xs.take n) (ds.take n)
  | _, _, 0, _ => by rw [List.take_zero, List.take_zero]; exact .nil
  | _, _, _ + 1, .nil => by rw [List.take_nil, List.take_nil]; exact .nil
  | _, _, n + 1, .cons a t => .cons a (dpTake n t)
theorem dpDrop : ∀ {xs : List V} {ds : List PyData} (n : Nat), DpAll K H xs ds → DpAll K H (xs.drop n) (ds.drop n)
  | _, _, 0, h => h
  | _, _, _ + 1, .nil => by rw [List.drop_nil, List.drop_nil]; exact .nil
  | _, _, n + 1, .cons _ t => dpDrop n t
end
section
variable {K : PySem.W.Frag} {a b : Addr} {xs ys : List V}
/-- zip of two tuples, however long -/
theorem walk_zipT : Walk (RZ.ItzT K a b) (min xs.length ys.length) (fun H => SqT K H a xs ∧ SqT K H b ys) (YPair (fun i => xs[i]?) (fun i => ys[i]?)) := by
  refine ⟨fun i _ hi q => ?_, fun _ q => ⟨xs, ys, q.1, q.2, by omega⟩, fun i H v H' _ q y => ?_⟩
  · exact ⟨xs, ys, xs[i]'(by omega), ys[i]'(by omega), q.1, q.2, List.getElem?_eq_getElem (by omega), List.getElem?_eq_getElem (by omega)⟩
  · obtain ⟨T, x, y, e, n, e2, f, g⟩ := y
    exact ⟨T, x, y, e, n, e2, f xs q.1, g ys q.2⟩
end
theorem kp {K : PySem.W.Frag} {H H' : Hp} {a : Addr} {xs : List V} (s : Same H H') (h : SqT K H a xs) : SqT K H' a xs := Same.kpT s _ _ h
theorem dpS {K : PySem.W.Frag} {H H' : Hp} {v : V} {d : PyData} (s : Same H H') (o : onlyT d = true) (h : Dp K H v d) : Dp K H' v d := Dp.keep (Same.kpT s) o h
theorem dpsS {K : PySem.W.Frag} {H H' : Hp} {vs : List V} {ds : List PyData} (s : Same H H') (o : onlyTs ds = true) (h : DpAll K H vs ds) : DpAll K H' vs ds := DpAll.keep (Same.kpT s) o h
theorem cut_all {α : Type} {xs : List α} {lo hi : Option Int} (h : HT.sIx xs.length 0 lo = 0 ∧ HT.sIx xs.length xs.length hi = xs.length) : (xs.drop (HT.sIx xs.length 0 lo)).take (HT.sIx xs.length xs.length hi - HT.sIx xs.length 0 lo) = xs := by
  rw [h.1, h.2, List.drop_zero, Nat.sub_zero, List.take_length]
/-- a slice of a tuple, new or the tuple itself -/
theorem slA {K : PySem.W.Frag} {H : Hp} {a : Addr} {xs : List V} {lo hi : Option Int} {Q : VK} (h : SqT K H a xs) (k : ∀ b H', Same H H' → SqT K H' b (cutV xs lo hi) → Q (.ref b) H') : rSlA K (.ref a) lo hi H Q :=
  ⟨a, xs, rfl, h, fun e => k a H (Same.refl _) (by unfold cutV; rw [cut_all e]; exact h), fun _ p hp => k p _ (same_new hp _) (.inl (.inl upd_same))⟩
theorem joinLen (a : Str) : ∀ l : List Str, (PySem.Txt.join a l).length ≤ (l.map (·.length)).sum + l.length * a.length := by
  have step : ∀ l : List Str, (PySem.Str.join a l).length ≤ (l.map (·.length)).sum + l.length * a.length := by
    intro l
    induction l with
    | nil => exact Nat.zero_le _
    | cons x r ih =>
      cases r with
      | nil =>
        show x.length ≤ x.length + 0 + 1 * a.length
        omega
      | cons y t =>
        show (x ++ a ++ PySem.Str.join a (y :: t)).length ≤ x.length + ((y :: t).map (·.length)).sum + ((y :: t).length + 1) * a.length
        rw [app_len, app_len, Nat.succ_mul]
        omega
  intro l
  show (Builtin.Str.glued a l).length ≤ _
  rw [StrLaws.glued_eq_join]
  exact step l
theorem eqDK {X : Cx} (K : PySem.W.Frag) (hu : X.A.units + 64 < cLine) (hK : X.K = K := by rfl) : OpR X (compareOp .Eq) (rEqD K) := hK ▸ op_eqD hu
theorem neDK {X : Cx} (K : PySem.W.Frag) (hu : X.A.units + 64 < cLine) (hK : X.K = K := by rfl) : OpR X (compareOp .NotEq) (rNeD K) := hK ▸ op_neD hu
theorem call_isi_at {X : Cx} (K : PySem.W.Frag) (h : X.K = K := by rfl) : CallR X (.builtin "isinstance") (rIsi K) := h ▸ call_isi
/-! ### the order of paths -/
def ahead (p q : List Int) : Bool := if p.take (min p.length q.length) = q.take (min p.length q.length) then decide (q.length < p.length) else HT.lexLt p q
/-- the same, number by number -/
def bef : List Int → List Int → Bool
  | [], _ => false
  | _ :: _, [] => true
  | x :: p, y :: q => if x = y then bef p q else decide (x < y)
theorem ahead_bef : ∀ p q : List Int, ahead p q = bef p q
  | [], q => by unfold ahead bef; simp
  | _ :: _, [] => by unfold ahead bef; simp
  | x :: p, y :: q => by
    have ih := ahead_bef p q
    unfold ahead at ih ⊢
    unfold bef
    rw [show min (x :: p).length (y :: q).length = min p.length q.length + 1 by simp only [List.length_cons]; omega, List.take_succ_cons, List.take_succ_cons]
    by_cases h : x = y
    · subst h
      rw [if_pos rfl, ← ih]
      by_cases e : p.take (min p.length q.length) = q.take (min p.length q.length)
      · rw [if_pos (by rw [e]), if_pos e]
        simp
      · rw [if_neg (by intro z; injection z with _ z; exact e z), if_neg e]
        simp [HT.lexLt]
    · rw [if_neg h, if_neg (by intro z; injection z with z _; exact h z)]
      simp [HT.lexLt, h]
theorem bef_irrefl : ∀ p, bef p p = false
  | [] => rfl
  | x :: p => by unfold bef; rw [if_pos rfl]; exact bef_irrefl p
end SH

set_option Elab.async false
set_option linter.all false
set_option maxRecDepth 100000
set_option maxHeartbeats 2000000
/-! Errors of one's own whose __init__ says super().__init__(f'..') and keeps its one argument: raw. -/
namespace SH
open PySem PySem.W PySem.Calls PySem.Spec PyProof.Rows PySem.HandSPX
section
variable {prog : Program} {w : World} {A : Around} {E : Value → Shared → Prop} {R : Result → Shared → Prop} {h : Heap} {g : Array GenState} {d : Drawn} {t : Nat} {os : OsState}
open Builtin Builtin.ObjectAttr
/-- the first field stored on an error, whatever built-in it comes of -/
theorem osaB {K : Frag} {name : PySem.Str} {tk : Tok} {v : Value} {x C : Addr} {fv : Array Value} {cd : ClassData}
    (X : K.In h) (hx : h.get? x = some { cls := .ref C, data := .fields fv }) (hcd : clsIn K C = some cd) (some_ : cd.mro.isEmpty = false) (obj : cd.mro.contains (.type "object") = true) (pass : ∀ self : Value, refuseLoop self "__setattr__" cd.mro = pure ()) (hh : cd.hasDict = true) (ha : findIn K (.ref C) name = some none)
    (out : ∀ h' tk' dx, (∀ b o, b ≠ x → h.get? b = some o → h'.get? b = some o) → h.objs.size ≤ dx → dx ≠ x → h'.get? x = some { cls := .ref C, dict := some dx, data := .fields fv } →
      h'.Ns1 dx (fun y => if y = name then some v else none) → R (.ok (.ret .none)) ⟨h', g, d, tk', os⟩) :
    codeAny (model prog w) A (.call (.builtin "object.__setattr__") ⟨[.ref x, .str name tk, v], []⟩) R ⟨h, g, d, t, os⟩ := by
  have I : InstAt h x { cls := .ref C, data := .fields fv } C none := ⟨hx, rfl, rfl, trivial⟩
  have xs : x ≠ h.objs.size := Nat.ne_of_lt (Heap.lt_size hx)
  have S := F.store_object
  have under : Looks (model prog w) h (isInstance (.ref x) (.type "object")) true := I.type.andThen (looks_mroIn X (by unfold mroIn; rw [hcd, Option.bind_some, if_neg (by rw [some_]; decide), obj]))
  have mro : Looks (model prog w) h (mroOf (.ref C)) cd.mro := (looks_clsIn X hcd).andThen .now
  have none_ : Looks (model prog w) h (storeTaker? none) none := .now
  have data : Looks (model prog w) h (classData C) cd := looks_clsIn X hcd
  refine codeAny_call_builtin S.slot.plain S.entry (@check_slot (model prog w) _ _ ⟨h, g, d, t, os⟩ "object.__setattr__" "object" "__setattr__" (.ref x) [.str name tk, v] [] _ S.kind S.split under (S.args (.ref x) (.str name tk) v) ?_)
  rw [osa_eq, refuse_eq]
  refine wpAny_bind (wpAny_bind (I.type.at (wpAny_bind (mro.at ?_))))
  rw [pass]
  refine wpAny_pure (wpAny_bind (I.type.at (wpAny_bind ((looks_findIn X ha).at (wpAny_bind (none_.at ?_))))))
  show wpAny _ _ (storeInOwnDict (.ref x) (.ref C) (.str name tk) name v false) _ _ _
  obtain ⟨_, _, _, _, _, hd, _, _, _, _, _⟩ := cd
  dsimp only at hh
  subst hh
  unfold storeInOwnDict ownDictForStores
  repeat (first | with_reducible refine store_in_new ?_ ?_ | with_reducible refine wpAny_loadPart_at hx ?_ | with_reducible refine data.at ?_ | wp_step)
  · exact ⟨_, #[], _,
      (Heap.get?_update_ne _ _ _ _ xs.symm).trans (Heap.get?_push_at rfl rfl), rfl,
      fun e he => absurd he (by simp), fun _ => rfl⟩
  · intro h' tk' ns same
    have there : (h.push { cls := .type "dict", data := .dict #[] }).get? x = some { cls := .ref C, data := .fields fv } := Heap.get?_push_of_some _ hx
    refine out h' tk' h.objs.size ?_ (Nat.le_refl _) xs.symm ((same.2 x xs).trans (Heap.get?_update_self _ there rfl)) ns
    intro b o hb ho
    exact (same.2 b (Nat.ne_of_lt (Heap.lt_size ho))).trans ((Heap.get?_update_ne _ _ _ _ hb).trans (Heap.get?_push_of_some _ ho))
/-- the bound __init__ of the built-in called: new args, nothing else -/
theorem call_mw {nm q : PySem.Str} {C N : Addr} {bs bm bmB : List Value} {hdct : Bool} {sn : List PySem.Str} {sub : List Value} {ab : Bool} {col : Option Bool} {dd : Option Addr} {k0 k1 k2 k3 k5 : Option Value} {B newId i : String} (FB : ExcBaseFacts B newId i bmB) (lt : i.startsWith "lifetime." = false) {u e t0 : Addr} {rest : List Value} {Q : Value → Shared → Prop}
    (hC : h.get? C = some (excClassObj nm q C N bs bm hdct sn sub ab col dd k0 k1 k2 k3 k5 newId)) (he : h.get? e = some (excO C t0)) (hu : h.get? u = some (kxs_mw i e)) (hz : rest.length ≤ sizeLine)
    (out : ∀ h' t1, (∀ b o, b ≠ e → h.get? b = some o → h'.get? b = some o) → h'.get? e = some (excO C t1) → Q .none ⟨h', g, d, t, os⟩) :
    wpAny (model prog w) A (call (.ref u) rest) Q E ⟨h, g, d, t, os⟩ := by
  refine wpAny_call (codeAny_of_tree ?_)
  show wpAny _ A.in1 (callAny (.ref u) ⟨rest, []⟩) _ _ _
  simp only [callAny]
  refine wpAny_bind (wpAny_load hu ?_)
  simp only [show (Value.type "method-wrapper" == Value.type "method" || Value.type "method-wrapper" == Value.type "builtin_function_or_method" || Value.type "method-wrapper" == Value.type "method-wrapper") = true by decide, if_true]
  refine KFB.if_so (by decide) ?_
  refine wpAny_bind (ESX.check_bound FB hC he rfl ?_)
  refine wpAny_bind (wpAny_pure (wpAny_pure ?_))
  refine ⟨Code.quiet_builtin _ lt, codeAny_builtin FB.initEntry ?_⟩
  rw [Around.under_plainId FB.init.plain _]
  wp_walk
  refine out _ h.objs.size ?_ ?_
  · intro b o hb ho
    rw [Heap.get?_update_other _ _ (Ne.symm hb)]
    exact Heap.get?_push_of_some _ ho
  · rw [Heap.get?_update_self _ (Heap.get?_push_of_some _ he) rfl]
    rfl
/-- what may stand in the f-string -/
def Fmt (v : Value) : Prop := (∃ y t, v = .str y t ∧ y.length ≤ 100000) ∨ ∃ i t, v = .int i t ∧ i.natAbs.log2 < 1920
theorem ldN {M : Model} {s : Shared} {env : Env} {m : PySem.Str → Option Value} {y : PySem.Str} {pos : Pos} {v : Value} {Q : Value → Shared → Prop} (hk : env.scope.kind = .function) (hl : env.kindOf y = some .local) (hn : s.heap.Ns env.locals m) (hv : m y = some v) (hd : (y == ("__debug__" : PySem.Str)) = false) (q : Q v s) : wpAny M A (eval (.Name y pos) env) Q E s := wpAny_Name (wpAny_loadName_local hk hl hn hv q) hd
/-- {f} -/
theorem fmt_any {s : Shared} {env : Env} {m : PySem.Str → Option Value} {f : PySem.Str} {pf pv : Pos} {v : Value} {Q : Value → Shared → Prop} (hk : env.scope.kind = .function) (hl : env.kindOf f = some .local) (hn : s.heap.Ns env.locals m) (hv : m f = some v) (hd : (f == ("__debug__" : PySem.Str)) = false) (hF : Fmt v)
    (q : ∀ (y : PySem.Str) (t tk : Nat), y.length ≤ 100000 → Q (.str y t) { s with toks := tk }) : wpAny (model prog w) A (eval (.FormattedValue (.Name f pf) (-1) none pv) env) Q E s := by
  have hs : sizeLine = 16777216 := by decide
  refine wpAny_FormattedValue_plain (ldN hk hl hn hv hd ?_)
  rcases hF with ⟨y, t, rfl, l⟩ | ⟨i, t, rfl, l⟩
  · exact wpAny_formatField_str (q y t s.toks l) (q y _ _ l) (by omega)
  · refine wpAny_formatField_int l (q _ _ _ ?_)
    have e := int_text_length_le (a := i) (k := 1920) (by decide) l
    rw [PySem.ofString_length]
    omega
/-- f'a{f}' and f'a{f}b' -/
theorem js_any {s : Shared} {env : Env} {m : PySem.Str → Option Value} {f a b : PySem.Str} {j1 j2 : Nat} {pf pv pa pb pos : Pos} {v : Value} {parts : List Expr} {Q : Value → Shared → Prop} (hp : parts = [.Constant (.str a) j1 pa, .FormattedValue (.Name f pf) (-1) none pv] ∨ parts = [.Constant (.str a) j1 pa, .FormattedValue (.Name f pf) (-1) none pv, .Constant (.str b) j2 pb])
    (la : a.length ≤ 1000) (lb : b.length ≤ 1000) (hk : env.scope.kind = .function) (hl : env.kindOf f = some .local) (hn : s.heap.Ns env.locals m) (hv : m f = some v) (hd : (f == ("__debug__" : PySem.Str)) = false) (hF : Fmt v)
    (q : ∀ (y : PySem.Str) (t tk : Nat), Q (.str y t) { s with toks := tk }) : wpAny (model prog w) A (eval (.JoinedStr parts pos) env) Q E s := by
  have hs : sizeLine = 16777216 := by decide
  have e0 : (Str.empty ++ a).length = a.length := by rw [strLen_append]; exact Nat.zero_add _
  have step : ∀ {e : Expr} {es : List Expr}, evalEach (e :: es) env = eval e env :: evalEach es env := fun {e es} => by first | rfl | simp [evalEach]
  have stop : evalEach [] env = [] := by first | rfl | simp [evalEach]
  have add : ∀ x y : PySem.Str, (x ++ y).length = x.length + y.length := fun x y => by rw [strLen_append]
  rcases hp with rfl | rfl
  · refine wpAny_JoinedStr ?_
    rw [step, step, stop]
    refine Calls.Constant_str ⟨a, _, rfl, by omega, ?_⟩
    refine fmt_any (s := { s with toks := _ }) hk hl hn hv hd hF fun y t tk ly => ⟨y, t, rfl, by rw [add]; omega, ?_⟩
    exact ⟨by rw [add]; omega, q _ _ _⟩
  · refine wpAny_JoinedStr ?_
    rw [step, step, step, stop]
    refine Calls.Constant_str ⟨a, _, rfl, by omega, ?_⟩
    refine fmt_any (s := { s with toks := _ }) hk hl hn hv hd hF fun y t tk ly => ⟨y, t, rfl, by rw [add]; omega, ?_⟩
    refine Calls.Constant_str ⟨b, _, rfl, by rw [add, add]; omega, ?_⟩
    exact ⟨by rw [add, add]; omega, q _ _ _⟩
end
end SH

set_option Elab.async false
set_option linter.all false
set_option maxRecDepth 100000
set_option maxHeartbeats 2000000
namespace SH
open PySem PySem.W PySem.Calls PySem.Spec PyProof.Rows PySem.HandSPX
/-! ### the text of such an __init__ -/
def supA (f : PySem.Str) (p1 p2 : Pos) : Arguments := { posonlyargs := [], args := [{ arg := "self", annotation := none, pos := p1 }, { arg := f, annotation := none, pos := p2 }], vararg := none, kwonlyargs := [], kw_defaults := [], kwarg := none, defaults := [] }
def supB (f : PySem.Str) (js : List Expr) (p0 p1 p2 p3 p4 p5 q1 q2 q3 q4 : Pos) : List Stmt :=
  [.Expr (.Call (.Attribute (.Call (.Name "super" p0) [] [] p1) "__init__" p2) [.JoinedStr js p3] [] p4) p5, .Assign [.Attribute (.Name "self" q1) f q2] (.Name f q3) q4]
def supS (f : PySem.Str) : Scope := { kind := .function, names := [(PySem.Str.ofString "self", .local), (f, .local), (PySem.Str.ofString "__class__", .free), (PySem.Str.ofString "super", .globalImplicit)], isGenerator := false, isCoroutine := false, more := [] }
/-- what the written part says of such a class, at C, and of its __init__, at fI; B the built-in that it comes of -/
structure SupC (prog : Program) (K : Frag) (mg : PySem.Str → Option Value) (x f : PySem.Str) (C fI : Addr) (B newId i : String) (bmB : List Value) : Prop where
  gC : mg x = some (.ref C)
  FB : ExcBaseFacts B newId i bmB
  KF : KxsFacts B i
  lt : i.startsWith "lifetime." = false
  cls : ∃ nm q N bs bm sn sub ab col dd k0 k1 k2 k3 k5, K.lookup C = some (excClassObj nm q C N bs bm true sn sub ab col dd k0 k1 k2 k3 k5 newId) ∧ (∀ X : String, bm.contains (.type X) = bmB.contains (.type X)) ∧ (∀ self : Value, refuseLoop self "__setattr__" bm = pure ()) ∧ alongIn K "__init__" bm = some (some (.builtin i)) ∧ bm.contains (.type "object") = true
  sa : findIn K (.ref C) "__setattr__" = some (some (.builtin "object.__setattr__"))
  noF : findIn K (.ref C) f = some none
  iC : findIn K (.ref C) "__init__" = some (some (.ref fI))
  tC : typeIn K (.ref fI) = some (.type "function")
  kC : keepIn K (.ref C) = true
  exC : subIn K (.ref C) (.type "BaseException") = some true
  tyC : typeIn K (.ref C) = some (.type "type")
  hB : subIn K (.ref C) (.type B) = some true
  op : nsIn K cStatics "thirdparty.any" = some none
  sup : mg "super" = none
  top : (prog.main.scope.names.lookup ("super" : PySem.Str)).isSome = false
  self : (f == ("self" : PySem.Str)) = false
  dbg : (f == ("__debug__" : PySem.Str)) = false
  n3 : (supS f).names.lookup ("super" : PySem.Str) = some .globalImplicit
  n4 : (supS f).names.lookup ("__class__" : PySem.Str) = some .free
  fn : ∃ (oc : Value) (od : Option Addr) (dV kV doc pm : Value) (an : Option Addr) (cda : Addr) (ct : Value) (osl : Array (Option Value)) (cc : Addr) (q : PySem.Str) (js : List Expr) (p1 p2 r0 r1 r2 r3 r4 r5 q1 q2 q3 q4 : Pos),
    K.lookup fI = some ⟨oc, od, .func (ksFn "__init__" q (supA f p1 p2) (supB f js r0 r1 r2 r3 r4 r5 q1 q2 q3 q4) (supS f) dV kV doc pm an (.ref cda) ct cc), osl⟩ ∧ codeIn K (.ref cda) q = true ∧ (r2.endLine == r4.line) = true ∧ (∀ u v : Value, bindArgs (ksFn "__init__" q (supA f p1 p2) (supB f js r0 r1 r2 r3 r4 r5 q1 q2 q3 q4) (supS f) dV kV doc pm an (.ref cda) ct cc) ⟨[u, v], []⟩ = pure [(PySem.Str.ofString "self", u), (f, v)]) ∧
    (∃ (ccl : Value) (cdd : Option Addr) (vs : Array Value) (ccs : Array (Option Value)) (file : PySem.Str) (tf : Tok), K.lookup cda = some ⟨ccl, cdd, .fields vs, ccs⟩ ∧ vs[2]? = some (.str file tf) ∧ ((prog.main.file : PySem.Str) == file) = true) ∧
    (∃ (cl : Value) (cld : Option Addr) (csl : Array (Option Value)), K.lookup cc = some ⟨cl, cld, .cell (some (.ref C)), csl⟩) ∧
    ∃ (a b : PySem.Str) (j1 j2 : Nat) (pf pv pa pb : Pos), a.length ≤ 1000 ∧ b.length ≤ 1000 ∧ (js = [.Constant (.str a) j1 pa, .FormattedValue (.Name f pf) (-1) none pv] ∨ js = [.Constant (.str a) j1 pa, .FormattedValue (.Name f pf) (-1) none pv, .Constant (.str b) j2 pb])
/-- what __init__ leaves of a fresh error at x -/
structure SupEnd (h h' : Heap) (x C dx t1 : Addr) (f : PySem.Str) (v : Value) : Prop where
  keep : ∀ b o, b ≠ x → h.get? b = some o → h'.get? b = some o
  obj : h'.get? x = some { cls := .ref C, dict := some dx, data := .fields #[.ref t1, .none, .none, .none, .bool false, .none] }
  dbig : h.objs.size ≤ dx
  dne : dx ≠ x
  ns : h'.Ns1 dx (fun y => if y = f then some v else none)
section
variable {prog : Program} {w : World} {A : Around} {E : Value → Shared → Prop} {R : Result → Shared → Prop} {s : Shared} {K : Frag} {mg mb : PySem.Str → Option Value} {x f : PySem.Str} {C fI : Addr} {B newId i : String} {bmB : List Value}
theorem sup_init (T : SupC prog K mg x f C fI B newId i bmB) {e t0 : Addr} {v : Value} (X : K.In s.heap) (gl : s.heap.Ns mainGlobals mg) (bl : s.heap.Ns builtinsNs mb) (boot : mb "super" = some (.type "super")) (lim : s.heap.NoLimit) (he : s.heap.get? e = some (excO C t0)) (new : K.lookup e = none) (hF : Fmt v) (room : A.depth < recursionLimit)
    (out : ∀ h' tk dx t1, SupEnd s.heap h' e C dx t1 f v → R (.ok (.ret .none)) { s with heap := h', toks := tk }) : codeAny (model prog w) A (.call (.ref fI) ⟨[.ref e, v], []⟩) R s := by
  obtain ⟨oc, od, dV, kV, doc, pm, an, cda, ct, osl, cc, q, js, p1, p2, r0, r1, r2, r3, r4, r5, q1, q2, q3, q4, lk, hcd, hline, hbind, ⟨ccl, cdd, vs, ccs, file, tf, lc, hvs, hfile⟩, ⟨cl, cld, csl, lcell⟩, a, b, j1, j2, pf, pv, pa, pb, la, lb, hjs⟩ := T.fn
  obtain ⟨nm, qn, N, bs, bm, sn, sub, ab, col, dd, k0, k1, k2, k3, k5, lC, hT, pass, along, obj⟩ := T.cls
  have hcl : clsIn K C = some { name := nm, bases := bs, mro := .ref C :: bm, ns := N, qualname := qn, hasDict := true, slotNames := sn, subclasses := sub, abstract := ab, collection := col, hasDel := false } := by unfold clsIn; rw [lC] <;> rfl
  have l1 : (supS f).names.lookup ("self" : PySem.Str) = some .local := by simp [supS, List.lookup]
  have l2 : (supS f).names.lookup f = some .local := by
    simp only [supS, List.lookup, T.self]
    simp
  refine ks_codeAny_call_defAt (fd := ksFn "__init__" q (supA f p1 p2) (supB f js r0 r1 r2 r3 r4 r5 q1 q2 q3 q4) (supS f) dV kV doc pm an (.ref cda) ct cc) (binds := [(PySem.Str.ofString "self", .ref e), (f, v)]) room (X _ _ lk) rfl lim (codeRec_of X hcd) rfl (BindsTo.of_eq (hbind _ _)) ?_ ?_ (fun h₁ ns k => ?_)
  · intro y hy
    simp [supS] at hy
    rcases hy with rfl | rfl | rfl | rfl <;> (intro z; cases z)
  · intro y hy
    simp at hy
    rcases hy with rfl | rfl
    · exact l1
    · exact l2
  have hn : h₁.Ns s.heap.objs.size (fun y => [(f, v), (PySem.Str.ofString "self", Value.ref e)].lookup y) := ns
  have v1 : [(f, v), (PySem.Str.ofString "self", Value.ref e)].lookup f = some v := by simp [List.lookup]
  have v2 : [(f, v), (PySem.Str.ofString "self", Value.ref e)].lookup (PySem.Str.ofString "self") = some (Value.ref e) := by
    have : (PySem.Str.ofString "self" == f) = false := by
      have z := T.self
      rw [beq_eq_false_iff_ne] at z ⊢
      exact fun y => z y.symm
    simp [List.lookup, this]
  have X₁ : K.In h₁ := X.keeps k
  have he₁ := k _ _ he
  have nL : s.heap.objs.size ≠ e := Nat.ne_of_gt (Heap.lt_size he)
  obtain ⟨hp, g, d, t, os⟩ := s
  dsimp only at *
  show _root_.PySem.wpAt _ _ _ (execs (supB f js r0 r1 r2 r3 r4 r5 q1 q2 q3 q4) _) _ _ _
  unfold supB
  refine ks_wpAt_execs_cons (ks_wpAt_Expr_any (ks_wpAt_MethodCall (pl := pure false) ?_ (by
    rw [arm_eval_Call]
    unfold methodCall methodCallPos
    rw [hline]
    simp only [Bool.or_true, if_true, pure_bind]
    rfl)))
  refine ks_wpAt_super_base T.n3 T.n4 (by decide) rfl (X₁ _ _ lk) rfl rfl rfl (X₁ _ _ lc) rfl hvs hfile T.top ?_
  refine ks_loadName_global rfl T.n3 (loadGlobal_builtin (gl.keeps k) T.sup (bl.keeps k) boot ⟨rfl, ?_⟩)
  refine wpAny_loadName_free rfl T.n4 rfl ⟨_, X₁ _ _ lcell, rfl⟩ ?_
  refine wpAny_loadName_local rfl l1 hn v2 ?_
  have oC := X₁ _ _ lC
  refine ks_wpAny_isType_cls oC rfl ⟨rfl, ?_⟩
  have hself : mroIn K C (.ref C) = some true := by
    unfold mroIn
    rw [hcl]
    simp
  have eC : e ≠ C := fun z => by
    rw [z, lC] at new
    cases new
  refine ks_wpAny_call_super oC rfl he₁ rfl (fun c z => by cases z) (looks_mroIn X₁ hself) (fun h₂ so k₂ => ?_)
  have X₂ : K.In h₂ := X₁.keeps k₂
  have he₂ := k₂ _ _ he₁
  have I₂ : InstAt h₂ e (excO C t0) C none := ⟨he₂, rfl, rfl, trivial⟩
  have mro₂ : Looks (model prog w) h₂ (mroOf (.ref C)) (.ref C :: bm) := (looks_clsIn X₂ hcl).andThen .now
  refine kxs_getMethod T.KF so (looks_opaque X₂ T.op) mro₂ (ESX.drop_own C bm) X₂ along (I₂.type.andThen (looks_subIn X₂ T.hB)) eC (by decide) ?_
  -- the text, and the call
  have k₃ : ∀ b o, h₂.get? b = some o → (h₂.push (kxs_mw i e)).get? b = some o := fun b o z => Heap.get?_push_of_some _ z
  have hu : (h₂.push (kxs_mw i e)).get? h₂.objs.size = some (kxs_mw i e) := Heap.get?_push_at rfl rfl
  refine kxs_callWith (i := i) (x := e) (by rfl) ?_
  refine evalArgs_plain ?_
  refine Calls.spliced_cons ?_
  refine js_any (pos := r3) (f := f) (v := v) (m := fun y => [(f, v), (PySem.Str.ofString "self", Value.ref e)].lookup y) hjs la lb (by rfl) (by exact l2) (hn.keeps fun b o z => k₃ b o (k₂ b o z)) v1 T.dbg hF fun y ty tk => ?_
  refine Calls.spliced_nil ⟨hu, ?_⟩
  refine call_mw T.FB T.lt (k₃ _ _ (k₂ _ _ oC)) (k₃ _ _ he₂) hu (by show 1 ≤ sizeLine; decide) fun h₄ t1 k₄ he₄ => ?_
  -- self.f = f
  have k14 : ∀ b o, b ≠ e → h₁.get? b = some o → h₄.get? b = some o := fun b o ne z => k₄ b o ne (k₃ b o (k₂ b o z))
  have X₄ : K.In h₄ := fun b o z => k14 b o (fun y => by rw [y, new] at z; cases z) (X₁ b o z)
  have hn₄ : h₄.Ns hp.objs.size (fun y => [(f, v), (PySem.Str.ofString "self", Value.ref e)].lookup y) := by
    obtain ⟨o, es, ep, z, zd, zr⟩ := hn
    exact ⟨o, es, ep, k14 _ _ nL z, zd, zr⟩
  refine ks_wpAt_execs_cons (ks_wpAt_Assign_Attr (wpAt_of_wpAny ?_))
  refine ldN (by rfl) (by exact l2) hn₄ v1 T.dbg ?_
  refine ldN (by rfl) (by exact l1) hn₄ v2 (by decide) ?_
  refine set_plain X₄ (ox := excO C t1) (od := none) ⟨he₄, rfl, rfl, trivial⟩ T.sa ?_
  refine osaB X₄ he₄ hcl rfl (by show (Value.ref C :: bm).contains (.type "object") = true; rw [List.contains_cons, obj, Bool.or_true]) (fun self => by rw [refuseLoop_ref]; exact pass self) rfl T.noF (fun h₅ tk₅ dx k₅ dn dne hx₅ hn₅ => ?_)
  refine wpAt_of_wpAny (wpAny_execs_nil ?_)
  have z := hn₄.lt
  have z' : hp.objs.size ≤ dx := Nat.le_trans (Nat.le_of_lt z) dn
  exact out h₅ tk₅ dx t1 ⟨fun b o ne y => k₅ b o ne (k14 b o ne (k b o y)), hx₅, z', dne, hn₅⟩
/-- a made error of this kind -/
structure SupMade (h h' : Heap) (e C d : Addr) (f : PySem.Str) (v : Value) : Prop where
  keep : ∀ b o, h.get? b = some o → h'.get? b = some o
  new : h.objs.size ≤ e
  obj : ∃ oe vs, h'.get? e = some oe ∧ oe.cls = .ref C ∧ oe.dict = some d ∧ oe.data = .fields vs ∧ vs[1]? = some .none
  dbig : h.objs.size ≤ d
  dne : d ≠ e
  ns : h'.Ns1 d (fun y => if y = f then some v else none)
theorem sup_made (T : SupC prog K mg x f C fI B newId i bmB) {v : Value} (X : K.In s.heap) (gl : s.heap.Ns mainGlobals mg) (bl : s.heap.Ns builtinsNs mb) (boot : mb "super" = some (.type "super")) (lim : s.heap.NoLimit) (hF : Fmt v) (room : A.depth + 1 < recursionLimit)
    (out : ∀ h' tk e d, SupMade s.heap h' e C d f v → R (.ok (.ret (.ref e))) { s with heap := h', toks := tk }) : codeAny (model prog w) A (.call (.ref C) ⟨[v], []⟩) R s := by
  obtain ⟨nm, qn, N, bs, bm, sn, sub, ab, col, dd, k0, k1, k2, k3, k5, lC, hT, pass, along, obj⟩ := T.cls
  obtain ⟨hp, g, dr, tk, os⟩ := s
  have kk : ∀ b o, hp.get? b = some o → ((hp.push (kdv_tup [v])).push (excO C hp.objs.size)).get? b = some o := fun b o z => Heap.get?_push_of_some _ (Heap.get?_push_of_some _ z)
  have there : ((hp.push (kdv_tup [v])).push (excO C hp.objs.size)).get? (hp.objs.size + 1) = some (excO C hp.objs.size) := by heap_get
  have fresh : K.lookup (hp.objs.size + 1) = none := by
    cases z : K.lookup (hp.objs.size + 1) with
    | none => rfl
    | some o =>
      have y : hp.objs.size + 1 < hp.objs.size := Heap.lt_size (X _ _ z)
      exact absurd (Nat.lt_of_succ_lt y) (Nat.lt_irrefl _)
  refine call_own T.FB hT (X _ _ lC) (looks_findIn X T.iC) (fun self => bind_fn X self T.tC) (by show 1 ≤ sizeLine; decide) ?_
  refine sup_init (s := ⟨(hp.push (kdv_tup [v])).push (excO C hp.objs.size), g, dr, tk, os⟩) T (X.keeps kk) (gl.keeps kk) (bl.keeps kk) boot (lim.keeps kk) there fresh hF room fun h' tk' dx t1 D => ?_
  have big : hp.objs.size + 1 + 1 ≤ dx := by
    have y := D.dbig
    rw [Heap.size_push, Heap.size_push] at y
    exact y
  refine ⟨rfl, out h' tk' (hp.objs.size + 1) dx ⟨fun b o y => D.keep b o (Nat.ne_of_lt (Nat.lt_succ_of_lt (Heap.lt_size y))) (kk b o y), Nat.le_succ _, ⟨_, _, D.obj, rfl, rfl, rfl, rfl⟩, ?_, D.dne, D.ns⟩⟩
  show hp.objs.size ≤ dx
  omega
end
end SH

set_option Elab.async false
set_option linter.all false
set_option maxRecDepth 100000
set_option maxHeartbeats 2000000
/-! raise X(e), X such an error, as a rule. -/
namespace SH
open PySem PySem.Spec PyProof.Rows L2
/-- what may be told in its text -/
def FmtV (v : V) : Prop := (∃ y : PySem.Str, v = .str y ∧ y.length ≤ 100000) ∨ ∃ i : Int, v = .int i ∧ i.natAbs.log2 < 1920
theorem FmtV.fmt {v : V} {u : Value} (h : FmtV v) (r : RelV v u) : Fmt u := by
  rcases h with ⟨y, rfl, l⟩ | ⟨i, rfl, l⟩
  · obtain ⟨t, rfl⟩ := r
    exact .inl ⟨y, t, rfl, l⟩
  · obtain ⟨t, rfl⟩ := r
    exact .inr ⟨i, t, rfl, l⟩
section
variable {X : Cx} {x f : PySem.Str} {C fI : Addr} {B newId i : String} {bmB : List Value}
/-- X(e) -/
def tMkS (C : Addr) (f : PySem.Str) (ta : TA) : L2.St → Hp → XK → Prop := fun σ H Q => ta σ H fun vs H1 => ∃ v, vs = [v] ∧ FmtV v ∧ ∀ d, H1 d = none → Q (.ref C) (some d) (upd H1 d (.xd [(f, v)]))
theorem pmk_sup {a : Expr} {ta : TA} {p pos : Pos} {k : Nat} (T : SupC X.prog X.K X.mg x f C fI B newId i bmB) (hr : Room k X.A) (ha : PA X [a] ta) (hg : Gl X x) (hdb : (x == ("__debug__" : PySem.Str)) = false := by decide)
    (he : starEach (a :: []) X.env = (false, eval a X.env) :: starEach [] X.env := by rfl) (hpl : (backTo pos (starEach [] X.env)).any (·.1) = false := by rfl) :
    PMk X (.Call (.Name x p) [a] [] pos) (tMkS C f ta) := by
  intro pins s σ H Q I h
  refine wpAny_Call_Name_kw (ld_glob I hg T.gC ?_ hdb)
  refine PySem.W.callWith_K (h₀ := X.base) I.ok.mod.kin T.kC (thn (ha.run pos pins s σ H _ I h) ?_) he hpl
  rintro us s1 ⟨vs, H1, I1, r1, v, rfl, fv, q1⟩
  refine ⟨I1.kIn, ?_⟩
  obtain ⟨u, rfl, ru⟩ := vals1 r1
  show wpAny _ _ (call (.ref C) [u]) _ _ _
  have lim := I1.nolimit
  have gl := I1.ok.mod.glob.keeps I1.bk
  obtain ⟨mb, bl0, boot⟩ := I1.ok.mod.blt
  have bl := bl0.keeps I1.bk
  have sup : mb "super" = some (.type "super") := (boot _ (by decide)).trans (by decide +kernel)
  have kIn := I1.kIn
  obtain ⟨hp, g, dr, tk, os⟩ := s1
  refine wpAny_call (sup_made T kIn gl bl sup lim (fv.fmt ru) (by have := hr.dp; omega) fun h' tk' e d M => ?_)
  show MkP X pins σ Q (.ref e) ⟨h', g, dr, tk', os⟩
  obtain ⟨oe, vs, hoe, hc, hd, hdat, h1⟩ := M.obj
  have hns := M.ns
  -- all but the error itself
  obtain ⟨G', g1, g2⟩ := restrict h' fun b => decide (b ≠ e)
  have same : ∀ b, b ≠ e → G'.get? b = h'.get? b := fun b hb => g1 b (decide_eq_true hb)
  have gone : G'.get? e = none := g2 e (by simp)
  have old : ∀ b o, hp.get? b = some o → G'.get? b = some o := fun b o z => (same b (Nat.ne_of_lt (Nat.lt_of_lt_of_le (Heap.lt_size z) M.new))).trans (M.keep b o z)
  have ob : ObjOk X.prog X.w (upd H1 d (.xd [(f, v)])) G' d (.xd [(f, v)]) := ⟨_, hns.at (fun o z => (same d M.dne).trans z), relO_put (fs := []) ru fun _ => True.intro⟩
  have J : L2.Inv X pins σ (upd H1 d (.xd [(f, v)])) ⟨G', g, dr, tk', os⟩ := I1.laid (t' := tk') old M.dbig ob
  refine ⟨e, oe, vs, ⟨G', g, dr, tk', os⟩, _, .ref C, some d, rfl, J, ?_, gone, hoe, ⟨hc, hd⟩, hdat, h1, ?_, rfl, I1.bare, raises_own T.exC T.tyC, q1 d (I1.hok.fresh M.dbig)⟩
  · intro b o z
    by_cases hb : b = e
    · rw [hb] at z
      have z' : G'.get? e = some o := z
      rw [gone] at z'
      cases z'
    · exact (same b hb).symm.trans z
  · rw [upd_ne (Ne.symm M.dne)]
    exact I1.hok.fresh M.new
/-- raise X(e) -/
def tRaiseS (C : Addr) (f : PySem.Str) (W : WX) (ta : TA) : TS := fun _ σ H => tMkS C f ta σ H fun cls d H' => W cls d σ H'
theorem ps_raiseS {a : Expr} {ta : TA} {W : WX} {p pos pos2 : Pos} {k : Nat} (hc : X.calm = true) (T : SupC X.prog X.K X.mg x f C fI B newId i bmB) (hr : Room k X.A) (tk : Takes X W) (ha : PA X [a] ta) (hg : Gl X x) (hdb : (x == ("__debug__" : PySem.Str)) = false := by decide)
    (he : starEach (a :: []) X.env = (false, eval a X.env) :: starEach [] X.env := by rfl) (hpl : (backTo pos (starEach [] X.env)).any (·.1) = false := by rfl) :
    PS X (.Raise (some (.Call (.Name x p) [a] [] pos)) none pos2) (tRaiseS C f W ta) := ps_raise hc tk (pmk_sup T hr ha hg hdb he hpl)
end
end SH

set_option Elab.async false
set_option linter.all false
set_option maxRecDepth 100000
set_option maxHeartbeats 2000000
/-! Defs that are handed a caught error, within an except suite; isinstance of it there. -/
namespace SH
open PySem PySem.Spec PyProof.Rows L2
/-- a def's promise where p's object, an error, stands in the state and may be handed -/
structure FnE (P : Program) (w : World) (K : PySem.W.Frag) (mg : PySem.Str → Option Value) (base : Heap) (k : Nat) (f : Addr) (fd : FuncData) (ps : List PySem.Str) (sp : Addr → Value → Option Addr → Sp) : Prop where
  len : ∀ a cls d vs H Q E, sp a cls d vs H Q E → vs.length = ps.length
  run : ∀ (A : Around) (outer : List Env) (s : Shared) (H : Hp) (args : Args) (us : List Value) (vs : List V) (Q : VK) (E : XK) (p : Addr × Obj) (cls : Value) (d : Option Addr), L2H.RoomH k A → L2H.PinOk outer H s p → Zc cls d p.2 → (∃ vs, p.2.data = .fields vs) → Env0 P w K mg base A outer s H →
    BindsTo s fd args (ps.zip us) → Vals vs us → sp p.1 cls d vs H Q E → codeAny (model P w) A (.call (.ref f) args) (CR CX0 outer P w H s Q E) s
section
variable {P : Program} {w : World} {K : PySem.W.Frag} {mg : PySem.Str → Option Value} {base : Heap}
theorem okE {x qual : PySem.Str} {st : Stmt} {f : Addr} {fd : FuncData} {N ps : List PySem.Str} {k : Nat} {sp : Addr → Value → Option Addr → Sp} (F : Fun K x qual st f fd) (S : FnScope N ps (defScope st)) (len : ∀ a cls d vs H Q E, sp a cls d vs H Q E → vs.length = ps.length)
    (body : ∀ (cdv : Value) (A : Around) (outer : List Env) (s : Shared) (H : Hp) (vs : List V) (Q : VK) (E : XK) (p : Addr × Obj) (cls : Value) (d : Option Addr), Zc cls d p.2 → (∃ vs, p.2.data = .fields vs) → L2H.RoomH k (A.deeper (envOfC qual (defScope st) s.heap.objs.size f cdv)) → sp p.1 cls d vs H Q E →
      ∃ t, PSs (L2H.cxH CX0 P w K mg base N qual (defScope st) f cdv A outer s H E p) (defBody st) t ∧ t { nx := fun _ H' => Q .non H', rt := Q } (start N vs) H) : FnE P w K mg base (k + 1) f fd ps sp := by
  obtain ⟨oc, od, kV, doc, pm, an, cdv, ct, osl, rfl, look, code⟩ := F.ex
  refine ⟨len, ?_⟩
  intro A outer s H args us vs Q E p cls d room pin hz hf env bind rel want
  have many := len _ _ _ _ _ _ _ want
  have still : ∀ b o, base.get? b = some o → s.heap.get? b = some o := fun b o e => (env.bs b o e).1
  have inK := env.mod.kin.keeps still
  refine codeAny_call_function room.depth (inK _ _ look) rfl S.co S.gen rfl (PySem.W.codeRec_of inK code) (bind _ _ _ _ ?_)
  refine wpAny_newFunctionEnv_cells S.kind ?_ fun env' he s1 made => ?_
  · rintro ⟨n, v⟩ hy
    cases S.par n (List.of_mem_zip hy).1 with
    | inl q => exact .inl q
    | inr q => exact .inr ⟨q, PySem.W.cellsFrom_some _ _ _ (.inl q)⟩
  subst he
  refine ⟨(env.mod.nolimit.keeps still).keeps made.toInCall.keep, codeAny_func ?_⟩
  obtain ⟨t, ht, hq⟩ := body cdv A outer s H vs Q E p cls d hz hf (room.deeper _) want
  have begun : L2.Inv (L2H.cxH CX0 P w K mg base N qual (defScope st) f cdv A outer s H E p) [] (start N vs) H s1 := L2H.inv_startH S pin env many rel made
  refine wpAny_mono (ht.run [] s1 _ H _ begun hq) (fun fl s' out => ?_) fun _ _ out => out
  cases fl with
  | ret u => exact let ⟨v, _, H', J, rv, q⟩ := out; ⟨v, H', J.os, J.bare, J.base, J.hok, rv, q⟩
  | next => exact let ⟨_, H', J, q⟩ := out; ⟨V.non, H', J.os, J.bare, J.base, J.hok, rfl, q⟩
  | brk => exact (let ⟨_, _, _, q⟩ := out; False.elim q)
  | cont => exact (let ⟨_, _, _, q⟩ := out; False.elim q)
end
section
variable {X : Cx}
/-- f(e, ..) in a suite that holds the error at a -/
theorem pe_callE {k : Nat} {a : Addr} {oe : Obj} {pn : List (Addr × Obj)} {f : Addr} {fd : FuncData} {ps : List PySem.Str} {sp : Addr → Value → Option Addr → Sp} {cls : Value} {d : Option Addr} (hz : Zc cls d oe) (hf : ∃ vs, oe.data = .fields vs) {x : PySem.Str} {p pos : Pos} {e : Expr} {es : List Expr} {t : TA} (F : FnE X.prog X.w X.K X.mg X.base k f fd ps sp) (hr : L2H.RoomH k (X.suite a ((a, oe) :: pn)).A) (hg : Gl (X.suite a ((a, oe) :: pn)) x) (hm : X.mg x = some (.ref f)) (hk : PySem.W.keepIn X.K (.ref f) = true) (hb : Binds X.K fd ps [])
    (ha : PA (X.suite a ((a, oe) :: pn)) (e :: es) t) (hdb : (x == ("__debug__" : PySem.Str)) = false := by decide) (he : starEach (e :: es) X.env = (false, eval e X.env) :: starEach es X.env := by rfl) (hpl : (backTo pos (starEach es X.env)).any (·.1) = false := by rfl) :
    PE (X.suite a ((a, oe) :: pn)) (.Call (.Name x p) (e :: es) [] pos) (tCall (sp a cls d) [] E0 t) := by
  constructor
  intro pins s σ H Q I h
  refine wpAny_Call_Name_kw (ld_glob I hg hm ?_ hdb)
  refine PySem.W.callWith_K (h₀ := X.base) I.ok.mod.kin hk (thn (ha.run pos pins s σ H _ I h) ?_) he hpl
  rintro us s1 ⟨vs, H1, I1, r, q⟩
  rw [List.append_nil] at q
  have P1 := I1.pin (a, oe) (List.mem_append_left _ List.mem_cons_self)
  have pin : L2H.PinOk (X.suite a ((a, oe) :: pn)).stack H1 s1 (a, oe) := ⟨P1.1, P1.2.1, fun hm => (List.mem_cons.mp (I1.stkSub a hm)).elim P1.2.2.1 P1.2.2.2.1, P1.2.2.2.2⟩
  refine ⟨I1.kIn, wpAny_call (codeAny_mono (F.run _ _ s1 H1 ⟨us, []⟩ us vs Q E0 (a, oe) cls d hr pin hz hf I1.env0 ?_ r q) fun r' s' hq => ?_)⟩
  · have := hb s1 us I1.kIn (by rw [List.append_nil, ← r.length]; exact F.len _ _ _ _ _ _ _ q)
    rwa [List.append_nil] at this
  · cases r' with
    | error e => exact False.elim hq
    | ok fl =>
      cases fl with
      | ret u => exact I1.after hq
      | next => exact False.elim hq
      | brk => exact False.elim hq
      | cont => exact False.elim hq
/-- what the class of an error says, so that isinstance looks at it rightly -/
structure ErC (K : PySem.W.Frag) (D : Addr) : Prop where
  cl : (PySem.W.clsIn K D).isSome = true
  hg : PySem.W.findIn K (.ref D) "__getattribute__" = some (some (.builtin "BaseException.__getattribute__"))
  hk : PySem.W.findIn K (.ref D) "__getattr__" = some none
  hs : PySem.W.subIn K (.ref D) (.type "BaseException") = some true
  ha : PySem.W.findIn K (.ref D) "__class__" = some (some (.builtin "object.__class__"))
  hn : PySem.W.specialIn K (.builtin "object.__class__") "__get__" = some (some (.builtin "getset_descriptor.__get__"))
  ht : PySem.W.takesIn K (.builtin "object.__class__") = some true
  hm : PySem.W.mroIn K D (.type "object") = some true
/-- isinstance(e, c), e a pinned error of the class at D, its dict at dd -/
def rIsP (K : PySem.W.Frag) (D a dd : Addr) : List V → Hp → VK → Prop := fun xs H Q => ∃ (c : V) (cv : Value) (b : Bool) (fs : List (PySem.Str × V)), xs = [.ref a, c] ∧ (∀ u, RelV c u → u = cv) ∧ H dd = some (.xd fs) ∧ PySem.W.kitOne K (.ref D) cv = some b ∧ Q (.bl b) H
theorem call_isP {a D dd : Addr} {oe : Obj} (C : ErC X.K D) (hz : Zc (.ref D) (some dd) oe) (hf : ∃ vs, oe.data = .fields vs) (hp : (a, oe) ∈ X.pn) : CallR X (.builtin "isinstance") (rIsP X.K D a dd) := by
  intro pins s σ H xs us Q I r h
  obtain ⟨c, cv, b, fs, rfl, hcv, hd, e, q⟩ := h
  cases r with
  | cons rx rr =>
    cases rr with
    | cons rt rr =>
      cases rr
      cases rx
      have ec := hcv _ rt
      subst ec
      obtain ⟨hget, _⟩ := I.pin (a, oe) (List.mem_append.mpr (.inl hp))
      obtain ⟨mA, hns, _⟩ := (show ObjOk X.prog X.w H s.heap dd (.xd fs) from I.hok dd _ hd)
      obtain ⟨od, ho, _⟩ := lookIn_ns hns
      obtain ⟨vs, hv⟩ := hf
      have J : PySem.W.InstAt s.heap a oe D (some od) := ⟨hget, hz.1, by unfold PySem.W.notCls; rw [hv] <;> rfl, by rw [hz.2]; exact ho⟩
      exact PySem.W.kia_one (PySem.W.kitx_exc C.cl C.hg C.hk C.hs C.ha C.hn C.ht C.hm) I.kIn J e (fun z => nomatch z) fun tk => ⟨.bl b, H, I.kept (t' := tk) fun _ _ z => z, rfl, q⟩
/-- o.m(e, ..), what it raises wished for at the caller's slots -/
def tMethX (C : Addr) (m : PySem.Str) (sp : Sp) (E : L2.St → XK) (ta : TE) (t : TA) : TE := fun σ H Q => ta σ H fun x H1 => ∃ a dx fs, x = .ref a ∧ H1 a = some (.ins C dx fs) ∧ fs.lookup m = none ∧ t σ H1 fun vs H2 => sp (x :: vs) H2 Q (E σ)
theorem pe_methX {CX : CXT} {k : Nat} {f C : Addr} {fd : FuncData} {ps : List PySem.Str} {sp : Sp} {E : L2.St → XK} {m : PySem.Str} {pos apos : Pos} {e o : Expr} {es : List Expr} {ta : TE} {t : TA} {pl : Sem Bool} (he : PE X o ta) (c : Cls X.K C) (hm : Meth X.K C m f) (F : FnOk X.prog X.w X.K X.mg X.base CX k f fd ps sp) (hr : Room k X.A) (hb : Binds X.K fd ps []) (hx : ∀ σ, PassesAt CX X σ (E σ)) (ha : PA X (e :: es) t)
    (hst : starEach (e :: es) X.env = (false, eval e X.env) :: starEach es X.env := by rfl) (hpl : (backTo pos (starEach es X.env)).any (·.1) = false := by rfl)
    (ht : eval (.Call (.Attribute o m apos) (e :: es) [] pos) X.env = (do
      let ov ← eval o X.env
      standAt apos.atName
      let (f, first) ← holding [ov] (getMethod ov m pl)
      callWith pos f first (backTo pos (starEach (e :: es) X.env)) (backToKw pos (keywordEach [] X.env))) := by rfl) :
    PE X (.Call (.Attribute o m apos) (e :: es) [] pos) (tMethX C m sp E ta t) := by
  constructor
  intro pins s σ H Q I h
  refine PySem.W.methodCall_KW (pl := pl) (thn (he.run pins s σ H _ I h) ?_) ht
  rintro u s1 ⟨x, H1, I1, rx, a, dx, fs, rfl, ea, l, q⟩
  obtain rfl : u = Value.ref a := rx
  refine getmeth_ok I1 ea c hm l (PySem.W.callWith_K (first := [.ref a]) (h₀ := X.base) I.ok.mod.kin hm.kp (thn (ha.run pos pins s1 σ H1 _ I1 q) ?_) hst hpl)
  rintro us s2 ⟨vs, H2, I2, r, q2⟩
  exact ⟨I2.kIn, run_fnS (us := .ref a :: us) (vs := .ref a :: vs) F hr hb (hx σ) I2 (.cons rfl r) q2⟩
/-- xs.count(y), flat things -/
def rCntF (K : PySem.W.Frag) : V → List V → Hp → VK → Prop := fun x xs H Q => ∃ (a : Addr) (ys : List V) (y : V), x = .ref a ∧ xs = [y] ∧ SqL K H a ys ∧ flatV y = true ∧ ys.all flatV = true ∧ Q (.int (ys.countP (fun z => eqV z y) : Nat)) H
theorem countU {y : V} : ∀ {ys : List V} {its : List Value}, Vals ys its → ys.all flatV = true → its.countP (eqU y) = ys.countP fun z => eqV z y
  | _, _, .nil, _ => rfl
  | _, _, .cons r rs, h => by
    rw [List.all_cons, Bool.and_eq_true] at h
    rw [List.countP_cons, List.countP_cons, countU rs h.2, eqU_of r h.1]
theorem mt_countF : MtR X "list.count" (rCntF X.K) := by
  intro pins s σ H x xs v us Q I rx rxs h
  obtain ⟨a, ys, y, rfl, rfl, hs, fy, fys, q⟩ := h
  cases rx
  obtain ⟨u, rfl, ru⟩ := rxs.one
  obtain ⟨its, rv, ⟨⟨cls, dd, data, sl⟩, n, ho, hc, hdn, hd⟩, hlen⟩ := I.list hs
  simp only at hc hd
  subst hc hd
  refine call_meets PySem.F.slot_list_count ⟨_, ho, rfl⟩ PySem.F.entry_list_count (PySem.F.args_list_count_2 _ _) (SeqAt.list_countAt a its.toArray n dd sl u (eqU y)) ⟨ho, fun u' hu' => mem_eqAt ru fy rv fys u' (by simpa using hu'), ?_⟩
  refine ⟨.int (ys.countP (fun z => eqV z y) : Nat), H, I.tok _, ⟨s.toks, ?_⟩, q⟩
  show Value.int ((its.toArray.toList.countP (eqU y) : Nat) : Int) s.toks = _
  rw [List.toList_toArray, countU rv fys]
theorem unH {k : Nat} {A : Around} (r : L2H.RoomH k A) : A.units + 64 < cLine := by
  have := r.un
  omega
end
end SH

set_option Elab.async false
set_option linter.all false
set_option maxRecDepth 100000
set_option maxHeartbeats 2000000
/-! repr(x) by an own __repr__; bool(x) by an own __len__. -/
namespace SH
open PySem PySem.Spec PyProof.Rows L2
section
open PySem.W
variable {prog : Program} {w : World} {A : Around} {E : Value → Shared → Prop} {s : Shared} {K : Frag} {C x f : Addr} {ox : Obj} {od : Option Obj}
/-- len's own run -/
theorem run_len {Q : Value → Shared → Prop} (X : K.In s.heap) (I : InstAt s.heap x ox C od) (hs : findIn K (.ref C) "__len__" = some (some (.ref f))) (hf : isFn K (.ref f) = true)
    (h : wpAny (model prog w) A.in1 (call (.ref f) [.ref x]) (fun r s' => ∃ (n : Nat) (u : Tok), r = .int (n : Int) u ∧ n < 1000000 ∧ ∀ v tk, Q (.int (n : Int) v) { s' with toks := tk }) E s) : wpAny (model prog w) A (runValue (.builtin "len" ⟨[.ref x], []⟩)) Q E s := by
  refine wpAny_runValue (codeAny_builtin entry_len ?_)
  rw [Around.under_plainId plain_len _]
  unfold Builtin.«len»
  refine wpAny_bind (m := oneArg "len" _) (wpAny_pure ?_)
  refine wpAny_bind (m := callSpecial? (.ref x) (Str.ofString "__len__")) (special_fn X I hs (beq_iff_eq.mp hf) (wpAny_mono h (fun r s' hr => ?_) fun _ _ y => y))
  obtain ⟨n, u, rfl, lt, q⟩ := hr
  refine wpAny_bind (wpAny_holding (wpAny_pure ?_))
  refine wpAny_bind (wpAny_letGo ?_)
  show wpAny _ _ (if (n : Int) < 0 then _ else _) _ _ _
  rw [if_neg (by omega)]
  show wpAny _ _ (if (n : Int) ≥ 2 ^ 63 then _ else _) _ _ _
  rw [if_neg (by omega)]
  exact wpAny_bind (wpAny_mkInt (wpAny_pure (q _ _)))
theorem truth_len {Q : Bool → Shared → Prop} (X : K.In s.heap) (I : InstAt s.heap x ox C od) (hb : findIn K (.ref C) "__bool__" = some none) (hs : findIn K (.ref C) "__len__" = some (some (.ref f))) (hf : isFn K (.ref f) = true)
    (h : wpAny (model prog w) A.in1 (call (.ref f) [.ref x]) (fun r s' => ∃ (n : Nat) (u : Tok), r = .int (n : Int) u ∧ n < 1000000 ∧ ∀ tk, Q ((n : Int) != 0) { s' with toks := tk }) E s) : wpAny (model prog w) A (truthy (.ref x)) Q E s := by
  unfold truthy
  refine wpAny_bind (m := callSpecial? (.ref x) (Str.ofString "__bool__")) (wpAny_bind (wpAny_bind (I.type.here ((looks_findIn X hb).here (wpAny_pure ?_)))))
  refine wpAny_bind (wpAny_bind (I.type.here ((looks_findIn X hs).here ?_)))
  show wpAny _ _ (if (some (Value.ref f)).isNone = true then _ else _) _ _ _
  rw [if_neg (by simp)]
  refine wpAny_bind (run_len X I hs hf (wpAny_mono h (fun r s' hr => ?_) fun _ _ y => y))
  obtain ⟨n, u, rfl, lt, q⟩ := hr
  exact ⟨n, u, rfl, lt, fun v tk => wpAny_pure (q tk)⟩
theorem bool_len {Q : Value → Shared → Prop} (X : K.In s.heap) (I : InstAt s.heap x ox C od) (hb : findIn K (.ref C) "__bool__" = some none) (hs : findIn K (.ref C) "__len__" = some (some (.ref f))) (hf : isFn K (.ref f) = true)
    (h : wpAny (model prog w) A.in1.in1.in1 (call (.ref f) [.ref x]) (fun r s' => ∃ (n : Nat) (u : Tok), r = .int (n : Int) u ∧ n < 1000000 ∧ ∀ tk, Q (.bool ((n : Int) != 0)) { s' with toks := tk }) E s) : wpAny (model prog w) A (call (.type "bool") [.ref x]) Q E s := by
  refine callType_codes (T := "bool") (Bi := Builtin.«object.__init__») (Q₁ := fun r s₁ => ∃ y, r = .bool y ∧ Q r s₁) PySem.F.called_bool (PySem.F.typeCall_bool_1 _) PySem.F.entry_object_init ?_ ?_
  · refine codeAny_of_tree ?_
    show wpAny _ A.in1.in1 (do checkBuiltinCall "bool.__new__" ⟨[.type "bool", .ref x], []⟩; again (.builtin "bool.__new__" ⟨[.type "bool", .ref x], []⟩)) _ _ s
    refine wpAny_bind (wpAny_of_eq (PySem.F.newCall_bool_1 _) (wpAny_pure ⟨plainId_quiet (by decide +kernel) _, codeAny_builtin PySem.F.entry_bool_new ?_⟩))
    rw [Around.under_plainId (by decide +kernel) _]
    have f1 := PySem.F.conv_sub_bool
    have key : ∀ {R : Bool → Shared → Prop}, (∀ b s', Q (.bool b) s' → R b s') → wpAny (model prog w) A.in1.in1 (truthy (.ref x)) R E s := fun {R} k => truth_len X I hb hs hf (wpAny_mono h (fun r s' ⟨n, u, e, lt, q⟩ => ⟨n, u, e, lt, fun tk => k _ _ (q tk)⟩) fun _ _ y => y)
    obtain ⟨hp, g, d, tk, os⟩ := s
    unfold Builtin.«bool.__new__»
    repeat (any_goals (first | assumption | (with_reducible refine key fun b s' q => ?_) | wp_step))
    all_goals first | exact ⟨_, rfl, by assumption⟩ | skip
  · rintro o s₁ ⟨y, rfl, q⟩
    exact ⟨PySem.typeIs_bool _ _, PySem.F.args_object_init_2 _ _, object_init_meets PySem.F.called_bool.init.lookup PySem.F.called_bool.made (by decide) prog w A.in1 _ s₁ ⟨PySem.typeIs_bool _ _, rfl, q⟩⟩
end
section
variable {X : Cx}
/-- repr(x) by an own __repr__ -/
def rReprOwn (C : Addr) (sp : Sp) : List V → Hp → VK → Prop := fun xs H Q => ∃ (a dx : Addr) (fs : List (PySem.Str × V)), xs = [V.ref a] ∧ H a = some (.ins C dx fs) ∧ sp [.ref a] H (fun v H' => ∃ z, v = .str z ∧ Q v H') E0
theorem call_reprOwn {C g : Addr} {gd : FuncData} {n : Nat} {sp : Sp} (hs : PySem.W.findIn X.K (.ref C) "__repr__" = some (some (.ref g))) (hf : PySem.W.isFn X.K (.ref g) = true) (F : FnOk X.prog X.w X.K X.mg X.base CX0 n g gd ["self"] sp) (hb : Binds X.K gd ["self"] []) (hr : Room (n + 1) X.A) : CallR X (.builtin "repr") (rReprOwn C sp) := by
  intro pins s σ H xs us Q I r h
  obtain ⟨a, dx, fs, rfl, ha, q⟩ := h
  obtain ⟨u, rfl, ru⟩ := vals1 r
  cases ru
  obtain ⟨mA, om, _⟩ := ins_get I.hok ha
  obtain ⟨od, J, _⟩ := om.look
  obtain ⟨m, hF⟩ := I.fr
  have rm := hr.in1
  refine PySem.W.repr_K (by have := rm.un; omega) hF I.ok.mod.kin J hs hf (wpAny_call (codeAny_mono (F.run X.A.in1 X.stack s H ⟨[.ref a], []⟩ [.ref a] [.ref a] _ E0 rm I.env0.in1 (hb s [.ref a] I.kIn rfl) (.cons rfl .nil) q) fun r z hq => ?_))
  cases r with
  | error e => exact hq.elim
  | ok fl =>
    cases fl with
    | ret v =>
      obtain ⟨y, H', J2, ry, t, ey, fin⟩ := I.after hq
      subst ey
      obtain ⟨tk, rfl⟩ := (show ∃ tk, v = Value.str t tk from ry)
      exact ⟨.str t, H', J2, ⟨_, rfl⟩, fin⟩
    | _ => exact False.elim hq
/-- bool(x) by an own __len__ -/
def rBoolLen (C : Addr) (sp : Sp) : List V → Hp → VK → Prop := fun xs H Q => ∃ (a dx : Addr) (fs : List (PySem.Str × V)), xs = [V.ref a] ∧ H a = some (.ins C dx fs) ∧ sp [.ref a] H (fun v H' => ∃ n : Nat, v = .int (n : Int) ∧ n < 1000000 ∧ Q (.bl ((n : Int) != 0)) H') E0
theorem call_boolLen {C g : Addr} {gd : FuncData} {n : Nat} {sp : Sp} (hb0 : PySem.W.findIn X.K (.ref C) "__bool__" = some none) (hs : PySem.W.findIn X.K (.ref C) "__len__" = some (some (.ref g))) (hf : PySem.W.isFn X.K (.ref g) = true) (F : FnOk X.prog X.w X.K X.mg X.base CX0 n g gd ["self"] sp) (hb : Binds X.K gd ["self"] []) (hr : Room (n + 3) X.A) : CallR X (.type "bool") (rBoolLen C sp) := by
  intro pins s σ H xs us Q I r h
  obtain ⟨a, dx, fs, rfl, ha, q⟩ := h
  obtain ⟨u, rfl, ru⟩ := vals1 r
  cases ru
  obtain ⟨mA, om, _⟩ := ins_get I.hok ha
  obtain ⟨od, J, _⟩ := om.look
  have rm : Room n X.A.in1.in1.in1 := ((show Room (n + 2) X.A.in1 from Room.in1 hr).in1).in1
  refine bool_len I.kIn J hb0 hs hf (wpAny_call (codeAny_mono (F.run X.A.in1.in1.in1 X.stack s H ⟨[.ref a], []⟩ [.ref a] [.ref a] _ E0 rm I.env0.in1.in1.in1 (hb s [.ref a] I.kIn rfl) (.cons rfl .nil) q) fun r z hq => ?_))
  cases r with
  | error e => exact hq.elim
  | ok fl =>
    cases fl with
    | ret v =>
      obtain ⟨y, H', J2, ry, t, ey, lt, fin⟩ := I.after hq
      subst ey
      obtain ⟨tk, rfl⟩ := (show ∃ tk, v = Value.int t tk from ry)
      exact ⟨t, tk, rfl, lt, fun tk' => ⟨.bl ((t : Int) != 0), H', J2.tok tk', rfl, fin⟩⟩
    | _ => exact False.elim hq
end
end SH

set_option Elab.async false
set_option linter.all false
set_option maxRecDepth 100000
namespace SH
open PySem L2
abbrev sAhead : Stmt := topS 1
theorem scAhead : FnScope ["one", "other", "shared"] ["one", "other"] (defScope sAhead) := ⟨rfl, rfl, rfl, by decide +kernel, rfl, by decide +kernel, by decide +kernel⟩
def spAhead (K : PySem.W.Frag) : Sp := fun vs H Q _ => ∃ (v u : V) (p q : List Int), vs = [v, u] ∧ Dp K H v (pathD p) ∧ Dp K H u (pathD q) ∧ ∀ H', Same H H' → Q (.bl (bef p q)) H'
theorem sIx_some {n m : Nat} (h : m ≤ n) : HT.sIx n n (some (m : Int)) = m := by
  unfold HT.sIx
  have : ¬ ((m : Int) < 0) := by omega
  simp [this]
  omega
theorem sIx_none (n d : Nat) : HT.sIx n d none = d := rfl
section
variable {P : Program} {w : World} {K : PySem.W.Frag} {mg : Str → Option Value} {base : Heap}
theorem ok_ahead {f : Addr} {fd : FuncData} (F : Fun K "is_ahead" "is_ahead" sAhead f fd) (T : Bi mg) : FnOk P w K mg base CX0 1 f fd ["one", "other"] (spAhead K) := by
  refine F.ok scAhead (fun vs H Q E h => ?_) (fun cdv A outer s H vs Q E hr h => ?_)
  · obtain ⟨v, u, p, q, rfl, _⟩ := h
    rfl
  obtain ⟨v, u, p, q, rfl, hp, hq, k⟩ := h
  refine ⟨_, (pss_cons (ps_set (i := 2) scAhead.nd rfl (Or.inl rfl) (pe_callB (call_min2 rfl) (by rfl) T.min (by decide +kernel) (pa_cons (pe_callB call_len_seq (by rfl) T.len (by decide +kernel) (pa_cons (pv 0) pa_nil)) (pa_cons (pe_callB call_len_seq (by rfl) T.len (by decide +kernel) (pa_cons (pv 1) pa_nil)) pa_nil))))
    (pss_cons (ps_if (pt_cmpR (op_eqD hr.units) (pe_slice sl_tupA (pv 0) po_none (po_some (pv 2))) (pe_slice sl_tupA (pv 1) po_none (po_some (pv 2))) (nomark _))
      (pss_one (ps_ret (pe_cmpR op_gt (pe_callB call_len_seq (by rfl) T.len (by decide +kernel) (pa_cons (pv 0) pa_nil)) (pe_callB call_len_seq (by rfl) T.len (by decide +kernel) (pa_cons (pv 1) pa_nil)) (nomark _))))
      pss_nil)
    (pss_one (ps_ret (pe_cmpR (op_ltT hr.units0) (pv 0) (pv 1) (nomark _)))))), ?_⟩
  obtain ⟨a, rfl, ha⟩ := dpPath hp
  obtain ⟨b, rfl, hb⟩ := dpPath hq
  have la : (p.map V.int).length = p.length := List.length_map _
  have lb : (q.map V.int).length = q.length := List.length_map _
  have emin : (if ((q.map V.int).length : Int) < ((p.map V.int).length : Int) then ((q.map V.int).length : Int) else ((p.map V.int).length : Int)) = ((min p.length q.length : Nat) : Int) := by
    rw [la, lb]
    split <;> omega
  refine ⟨_, rfl, a, _, rfl, .inr ha, _, rfl, b, _, rfl, .inr hb, _, _, rfl, ?_⟩
  rw [emin]
  have cutp : cutV (p.map V.int) none (some ((min p.length q.length : Nat) : Int)) = (p.take (min p.length q.length)).map V.int := by
    unfold cutV
    rw [sIx_none, la, sIx_some (Nat.min_le_left _ _), List.drop_zero, Nat.sub_zero, List.map_take]
  have cutq : cutV (q.map V.int) none (some ((min p.length q.length : Nat) : Int)) = (q.take (min p.length q.length)).map V.int := by
    unfold cutV
    rw [sIx_none, lb, sIx_some (Nat.min_le_right _ _), List.drop_zero, Nat.sub_zero, List.map_take]
  refine ⟨_, rfl, ⟨_, rfl, _, rfl, slA ha fun b1 H1 s1 h1 => ?_⟩⟩
  rw [cutp] at h1
  refine ⟨_, rfl, ⟨_, rfl, _, rfl, slA (kp s1 hb) fun b2 H2 s2 h2 => ?_⟩⟩
  rw [cutq] at h2
  have s12 := s1.trans s2
  have ha2 := kp s12 ha
  have hb2 := kp s12 hb
  refine ⟨_, _, pathDp (kp s2 h1), pathDp h2, shaped_path _, shaped_path _, _, rfl, ?_⟩
  rw [eqv_path]
  have e := ahead_bef p q
  unfold ahead at e
  by_cases c : p.take (min p.length q.length) = q.take (min p.length q.length)
  · rw [if_pos c] at e
    rw [decide_eq_true c]
    refine iteT ⟨_, rfl, a, _, rfl, .inr ha2, _, rfl, b, _, rfl, .inr hb2, _, _, rfl, rfl, ?_⟩
    have := k H2 s12
    rw [← e] at this
    show Q (.bl (decide (((q.map V.int).length : Int) < ((p.map V.int).length : Int)))) H2
    rw [la, lb]
    rw [show decide ((q.length : Int) < (p.length : Int)) = decide (q.length < p.length) by simp]
    exact this
  · rw [if_neg c] at e
    rw [decide_eq_false c]
    refine iteF ⟨_, rfl, _, rfl, a, b, p, q, rfl, rfl, ha2, hb2, ?_⟩
    rw [e]
    exact k H2 s12
end
def NumOk (i : Int) : Prop := i.natAbs.log2 < 1920
def PathOk (p : List Int) : Prop := p.length ≤ 100 ∧ ∀ n ∈ p, NumOk n
def numT (i : Int) : Str := (toString i : String)
def pathT (p : List Int) : Str := if p = [] then "." else Txt.join "." (p.map numT)
abbrev sLpath : Stmt := topS 7
abbrev sBefore : Stmt := topS 9
theorem scLpath : FnScope ["_law_bag_here", "_law_found", "_law_at", "_law_great"] ["_law_bag_here"] (defScope sLpath) := ⟨rfl, rfl, rfl, by decide +kernel, rfl, by decide +kernel, by decide +kernel⟩
theorem scBefore : FnScope ["_law_one", "_law_other", "_law_a", "_law_b"] ["_law_one", "_law_other"] (defScope sBefore) := ⟨rfl, rfl, rfl, by decide +kernel, rfl, by decide +kernel, by decide +kernel⟩
def spLpath (K : PySem.W.Frag) : Sp := fun vs H Q _ => ∃ (b : Addr) (n : Nat), vs = [.ref b] ∧ Bag H b (n + 20) ∧
  ∀ (v : V) (p : List Int) (H' : Hp), Dp K H' v (pathD p) → PathOk p → p.length ≤ 6 → Bag H' b n → But b H H' → Q v H'
def spBefore (K : PySem.W.Frag) : Sp := fun vs H Q _ => ∃ (v u : V) (p q : List Int), vs = [v, u] ∧ Dp K H v (pathD p) ∧ Dp K H u (pathD q) ∧ ∀ H', Same H H' → Q (.bl (bef p q)) H'
theorem bef_end : ∀ (p q : List Int) (i : Nat), i = min p.length q.length → bef (p.drop i) (q.drop i) = decide (q.length < p.length)
  | [], q, i, h => by
    rw [List.drop_nil]
    unfold bef
    simp
  | x :: p, [], i, h => by
    have : i = 0 := by simpa using h
    subst this
    rfl
  | x :: p, y :: q, 0, h => by simp at h
  | x :: p, y :: q, i + 1, h => by
    have := bef_end p q i (by simp only [List.length_cons] at h; omega)
    rw [List.drop_succ_cons, List.drop_succ_cons, this]
    simp
theorem numOk_of {i : Int} (h0 : 0 ≤ i) (h : i < 2 ^ 200) : NumOk i := by
  unfold NumOk
  have e : i.natAbs < 2 ^ 200 := by omega
  have := Nat.log2_lt (n := i.natAbs) (k := 200)
  by_cases z : i.natAbs = 0
  · rw [z]; decide
  · have := (Nat.log2_lt z).mpr e
    omega
theorem But.new' {b : Addr} {H : Hp} {p : Addr} (h : H p = none) (o : HO) : But b H (upd H p o) := .of (same_new h o)
section
variable {P : Program} {w : World} {K : PySem.W.Frag} {mg : Str → Option Value} {base : Heap}
theorem ok_before {f : Addr} {fd : FuncData} (F : Fun K "_law_before" "_law_before" sBefore f fd) (T : Bi mg) (q_zip : mg "zip" = none) : FnOk P w K mg base CX0 1 f fd ["_law_one", "_law_other"] (spBefore K) := by
  refine F.ok scBefore (fun vs H Q E h => ?_) (fun cdv A outer s H vs Q E hr h => ?_)
  · obtain ⟨v, u, p, q, rfl, _⟩ := h
    rfl
  obtain ⟨v, u, p, q, rfl, hp, hq, k⟩ := h
  refine ⟨_, (pss_cons (ps_for PassesOwn.never rfl (RZ.pi_zipA (by rfl) q_zip (pa_cons (pv 0) (pa_cons (pv 1) pa_nil))) (pg_tup rfl (pgs_cons (pg_name (i := 2) scBefore.nd rfl (.inl rfl)) (pgs_cons (pg_name (i := 3) scBefore.nd rfl (.inl rfl)) pgs_nil)))
      (pss_one (ps_if (pt_cmpR op_ne (pv 2) (pv 3) (nomark _))
      (pss_one (ps_ret (pe_cmpR op_lt (pv 2) (pv 3) (nomark _))))
      pss_nil)))
    (pss_one (ps_ret (pe_cmpR op_gt (pe_callB call_len_seq (by rfl) T.len (by decide +kernel) (pa_cons (pv 0) pa_nil)) (pe_callB call_len_seq (by rfl) T.len (by decide +kernel) (pa_cons (pv 1) pa_nil)) (nomark _))))), ?_⟩
  obtain ⟨a, rfl, ha⟩ := dpPath hp
  obtain ⟨b, rfl, hb⟩ := dpPath hq
  have la : (p.map V.int).length = p.length := List.length_map _
  have lb : (q.map V.int).length = q.length := List.length_map _
  refine ⟨_, rfl, _, rfl, a, b, _, _, rfl, .inr ⟨ha, hb, ?_⟩⟩
  refine for_it (walk_zipT (xs := p.map V.int) (ys := q.map V.int)) (fun i σ H' => ∃ y2 y3 : Option V, σ = [some (.ref a), some (.ref b), y2, y3] ∧ Same H H' ∧ bef p q = bef (p.drop i) (q.drop i)) ⟨none, none, rfl, Same.refl _, rfl⟩ (fun i σ H' _ ⟨_, _, _, s', _⟩ => ⟨kp s' ha, kp s' hb⟩) ?_ ?_
  · rintro i x σ H1 H2 hi ⟨y2, y3, rfl, s1, e1⟩ ⟨t, x1, x2, rfl, nt, rfl, ea, eb⟩
    have s2 := s1.trans (same_new nt (.tup [x1, x2]))
    have hi1 : i < p.length := by omega
    have hi2 : i < q.length := by omega
    have ex : x1 = V.int p[i] := by
      have : (p.map V.int)[i]? = some x1 := ea
      rw [List.getElem?_map, List.getElem?_eq_getElem hi1] at this
      exact (Option.some.inj this).symm
    have ey : x2 = V.int q[i] := by
      have : (q.map V.int)[i]? = some x2 := eb
      rw [List.getElem?_map, List.getElem?_eq_getElem hi2] at this
      exact (Option.some.inj this).symm
    subst ex ey
    rw [List.drop_eq_getElem_cons hi1, List.drop_eq_getElem_cons hi2] at e1
    rw [show bef (p[i] :: p.drop (i + 1)) (q[i] :: q.drop (i + 1)) = if p[i] = q[i] then bef (p.drop (i + 1)) (q.drop (i + 1)) else decide (p[i] < q[i]) from rfl] at e1
    refine ⟨t, _, rfl, SqT.of upd_same, rfl, _, _, rfl, _, _, rfl, rfl, ?_⟩
    refine ⟨_, rfl, _, rfl, rfl, _, rfl, ?_⟩
    by_cases c : p[i] = q[i]
    · rw [if_pos c] at e1
      refine iteNS (by rw [c]) ?_
      exact ⟨_, _, rfl, s2, e1⟩
    · rw [if_neg c] at e1
      rw [decide_eq_false (by intro z; exact c (V.int.inj z))]
      refine iteT ⟨_, rfl, _, rfl, _, _, rfl, rfl, ?_⟩
      have := k _ s2
      rw [e1] at this
      exact this
  · rintro σ H1 ⟨y2, y3, rfl, s1, e1⟩
    rw [bef_end p q _ (by rw [la, lb])] at e1
    refine ⟨_, rfl, a, _, rfl, .inr (kp s1 ha), _, rfl, b, _, rfl, .inr (kp s1 hb), _, _, rfl, rfl, ?_⟩
    have := k H1 s1
    rw [e1] at this
    show Q (.bl (decide (((q.map V.int).length : Int) < ((p.map V.int).length : Int)))) H1
    rw [la, lb, show decide ((q.length : Int) < (p.length : Int)) = decide (q.length < p.length) by simp]
    exact this
theorem ok_lpath {f t : Addr} {fd td : FuncData} (F : Fun K "_law_path" "_law_path" sLpath f fd) (TK : Fk P w K mg base 1 "_law_take" t td ["_law_bag_here", "_law_many"] spTake) (T : Bi mg) (mt : mg "tuple" = none) : FnOk P w K mg base CX0 2 f fd ["_law_bag_here"] (spLpath K) := by
  refine F.ok scLpath (fun vs H Q E h => ?_) (fun cdv A outer s H vs Q E hr h => ?_)
  · obtain ⟨b, n, rfl, _⟩ := h
    rfl
  obtain ⟨b, n, rfl, B0, k⟩ := h
  refine ⟨_, (pss_cons (ps_set (i := 1) scLpath.nd rfl (Or.inl rfl) (pe_lst pa_nil))
    (pss_cons (ps_for PassesOwn.never rfl (pi_range1 (by rfl) T.range (pa_cons (pe_call TK.G (hr.mono (by omega)) (by rfl) TK.m TK.k TK.b .nil pass0 (pa_cons (pv 0) (pa_cons pe_int pa_nil))) pa_nil)) (pg_name (i := 2) scLpath.nd rfl (.inl rfl))
      (pss_cons (ps_set (i := 3) scLpath.nd rfl (Or.inl rfl) (pe_op op_add (pe_op op_mul (pe_call TK.G (hr.mono (by omega)) (by rfl) TK.m TK.k TK.b .nil pass0 (pa_cons (pv 0) (pa_cons (pe_op op_pow pe_int pe_int) pa_nil))) (pe_op op_pow pe_int pe_int)) pe_int))
    (pss_one (ps_expr (pe_bm PySem.F.plainAttrs_list PySem.F.slot_list_append PySem.F.type_list_append mt_append (pv 1) (pa_cons (pe_ifExp (pt_cmpR op_lt (pe_call TK.G (hr.mono (by omega)) (by rfl) TK.m TK.k TK.b .nil pass0 (pa_cons (pv 0) (pa_cons pe_int pa_nil))) pe_int (nomark _)) (pe_call TK.G (hr.mono (by omega)) (by rfl) TK.m TK.k TK.b .nil pass0 (pa_cons (pv 0) (pa_cons pe_int pa_nil))) (pv 3)) pa_nil))))))
    (pss_one (ps_ret (pe_callTy call_tuple_of (by rfl) mt (by decide +kernel) (pa_cons (pv 1) pa_nil)))))), ?_⟩
  have hs : sizeLine = 16777216 := by decide
  refine ⟨Nat.zero_le _, fun l hl => ?_⟩
  have s1 := same_new hl (.lst [])
  obtain ⟨ys, hys⟩ := B0.lst
  have nlb : l ≠ b := fun z => by rw [z, hys] at hl; cases hl
  have B1 := B0.same s1
  refine ⟨_, rfl, b, 7, n + 19, rfl, by decide, by decide, B1, fun d H2 d0 d7 B2 U2 => ?_⟩
  refine ⟨d, rfl, by omega, by omega, ?_⟩
  refine for_range (lo := 0) (n := d.toNat) (fun i σ H' => ∃ (p : List Int) (y2 y3 : Option V), σ = [some (.ref b), some (.ref l), y2, y3] ∧ H' l = some (.lst (p.map V.int)) ∧ p.length = i ∧ (∀ x ∈ p, NumOk x) ∧ Bag H' b (n + 19 - 3 * i) ∧ ∀ a o, a ≠ b → a ≠ l → H a = some o → H' a = some o) ?_ ?_ ?_
  · exact ⟨[], none, none, rfl, U2 _ _ nlb upd_same, rfl, fun x hx => (by cases hx), B2, fun a o na nl e => U2 a o na (s1 a o e)⟩
  · rintro i σ H3 hi ⟨p, y2, y3, rfl, hl3, hp, ok, B3, U3⟩
    refine ⟨_, rfl, _, _, rfl, rfl, ⟨by decide, by decide, by decide⟩, b, _, n + 18 - 3 * i, rfl, by decide, by decide, B3.less (by omega), fun d1 H4 a0 a1 B4 U4 => ?_⟩
    refine ⟨_, _, rfl, rfl, ⟨by decide, by decide, by decide⟩, _, _, rfl, rfl, .inl ⟨by omega, ?_⟩, _, _, rfl, rfl, ?_⟩
    · exact Int.lt_trans a1 (by decide)
    have hl4 := U4 _ _ nlb hl3
    refine ⟨_, rfl, .inl ⟨rfl, _, SqL.of hl4⟩, ?_⟩
    refine ⟨_, rfl, b, 8, n + 17 - 3 * i, rfl, by decide, by decide, B4.less (by omega), fun d2 H5 b0 b1 B5 U5 => ?_⟩
    refine ⟨_, _, rfl, rfl, _, rfl, ?_⟩
    have hl5 := U5 _ _ nlb hl4
    have U35 : ∀ a o, a ≠ b → a ≠ l → H a = some o → H5 a = some o := fun a o na nl e => U5 a o na (U4 a o na (U3 a o na nl e))
    have fin : ∀ (x : Int) (H6 : Hp), NumOk x → H6 l = some (.lst (p.map V.int)) → Bag H6 b (n + 16 - 3 * i) → (∀ a o, a ≠ b → a ≠ l → H a = some o → H6 a = some o) →
        ∃ (q : List Int) (y2' y3' : Option V), [some (V.ref b), some (V.ref l), some (V.int (0 + (i : Int))), some (V.int (d1 * 10 ^ 20 + 11))] = [some (.ref b), some (.ref l), y2', y3'] ∧ (upd H6 l (.lst (p.map V.int ++ [V.int x]))) l = some (.lst (q.map V.int)) ∧ q.length = i + 1 ∧ (∀ x ∈ q, NumOk x) ∧ Bag (upd H6 l (.lst (p.map V.int ++ [V.int x]))) b (n + 19 - 3 * (i + 1)) ∧ ∀ a o, a ≠ b → a ≠ l → H a = some o → (upd H6 l (.lst (p.map V.int ++ [V.int x]))) a = some o := by
      intro x H6 ox h6 B6 U6
      refine ⟨p ++ [x], _, _, rfl, by rw [upd_same, List.map_append]; rfl, by rw [List.length_append, hp]; rfl, fun y hy => ?_, ?_, fun a o na nl e => by rw [upd_ne nl]; exact U6 a o na nl e⟩
      · rcases List.mem_append.mp hy with hy | hy
        · exact ok y hy
        · rw [List.mem_singleton.mp hy]; exact ox
      · obtain ⟨x', y', z', e, r⟩ := B6
        refine Bag.less (n := n + 16 - 3 * i) ⟨x', y', z', ?_, r⟩ (by omega)
        rw [upd_ne (Ne.symm nlb)]
        exact e
    refine ite2 (fun c => ?_) (fun c => ?_)
    · refine ⟨_, rfl, b, 4, n + 16 - 3 * i, rfl, by decide, by decide, B5.less (by omega), fun d3 H6 c0 c1 B6 U6 => ?_⟩
      refine ⟨l, _, _, rfl, rfl, U6 _ _ nlb hl5, by rw [List.length_map]; omega, ?_⟩
      exact fin d3 H6 (numOk_of c0 (Int.lt_trans c1 (by decide))) (U6 _ _ nlb hl5) B6 fun a o na nl e => U6 a o na (U35 a o na nl e)
    · refine ⟨_, rfl, l, _, _, rfl, rfl, hl5, by rw [List.length_map]; omega, ?_⟩
      refine fin _ H5 (numOk_of ?_ ?_) hl5 (B5.less (by omega)) U35
      · show 0 ≤ d1 * (100000000000000000000 : Int) + 11
        omega
      · have a9 : d1 < 1000000000 := a1
        show d1 * (100000000000000000000 : Int) + 11 < 1606938044258990275541962092341162602522202993782792835301376
        omega
  · rintro σ H3 ⟨p, y2, y3, rfl, hl3, hp, ok, B3, U3⟩
    refine ⟨_, rfl, l, _, rfl, .inl ⟨SqL.of hl3, fun t ht => ?_⟩⟩
    have s4 := same_new ht (.tup (p.map V.int))
    refine k _ p _ (pathDp (SqT.of upd_same)) ⟨by omega, ok⟩ (by omega) ((B3.less (by omega)).same s4) fun a o na e => ?_
    exact s4 _ _ (U3 a o na (ne_of_none e hl) e)
end
end SH

set_option Elab.async false
set_option linter.all false
set_option maxRecDepth 100000
/-! sorted(xs, key=own def): the def is known by its promise alone. -/
namespace SH
open PySem PySem.Spec PyProof.Rows PySem.W L2
section
variable {X : Cx} {pins : List (Addr × Obj)} {σ : L2.St} {H : Hp} {s : Shared}
/-- two records of ours have changed, and one of them is known as a list from now on -/
theorem adopt2 {kS a : Addr} {h' : Heap} {t' : Nat} {xs : List V} {its : List Value} {n : Nat} (I : Inv X pins σ H s)
    (fk : FpOk X pins H kS) (fa : FpOk X pins H a)
    (k : ∀ b o, b ≠ kS → b ≠ a → s.heap.get? b = some o → h'.get? b = some o)
    (ho : h'.get? a = some (seqObj "list" its.toArray n)) (rv : Vals xs its) (hz : xs.length ≤ sizeLine) :
    Inv X pins σ (upd H a (.lst xs)) { s with heap := h', toks := t' } := by
  have nk : ∀ b o, H b = some o → b ≠ kS := fun b o e z => by
    rw [z, fk.1] at e
    cases e
  have na : ∀ b o, H b = some o → b ≠ a := fun b o e z => by
    rw [z, fa.1] at e
    cases e
  refine I.call' (s' := { s with heap := h', toks := t' }) (ch := [kS, a]) rfl ⟨fun b o e _ _ hx => ?_, fun b o e _ _ hx => ?_, fun b o _ q hx => ?_, fun b o e hx => ?_, fun b xs e => ?_, fun b o u e => ?_, fun b ps e => ?_⟩ (fun b u e => ?_) I.bare fun b hb => ?_
  · exact k b o (fun z => hx (by simp [z])) (fun z => hx (by simp [z])) e
  · exact ⟨o.slots, k b o (fun z => hx (by simp [z])) (fun z => hx (by simp [z])) e⟩
  · rw [upd_ne (fun z => hx (by simp [z]))]
    exact q
  · exact ⟨o, k b o (fun z => hx (by simp [z])) (fun z => hx (by simp [z])) e⟩
  · rw [upd_ne (na b _ e)]
    exact e
  · rw [upd_ne (na b _ e)]
    exact e
  · exact ⟨#[], by rw [upd_ne (na b _ e), e]; simp⟩
  · by_cases hb : b = a
    · subst hb
      rw [upd_same] at e
      cases e
      exact ⟨hz, its, n, rv, ho⟩
    · rw [upd_ne hb] at e
      refine (I.hok b u e).stay (fun c v hc q => k c v ?_ ?_ q) (fun c q => by rw [upd_ne (na c _ q)]; exact q) fun c xs q => by rw [upd_ne (na c _ q)]; exact q
      · rcases hc with z | z
        · rw [z]; exact nk b u e
        · exact nk c _ z
      · rcases hc with z | z
        · rw [z]; exact hb
        · exact na c _ z
  · rcases List.mem_cons.mp hb with z | z
    · subst z
      exact ⟨fk.2.2.2.1, fk.2.1, fk.2.2.2.2.1, fk.2.2.2.2.2⟩
    · obtain rfl : b = a := by simpa using z
      exact ⟨fa.2.2.2.1, fa.2.1, fa.2.2.2.2.1, fa.2.2.2.2.2⟩
/-- .. and nothing is known anew -/
theorem shiftIt {kS : Addr} {h' : Heap} {t' : Nat} (I : Inv X pins σ H s) (fk : FpOk X pins H kS) (k : ∀ b o, b ≠ kS → s.heap.get? b = some o → h'.get? b = some o) :
    Inv X pins σ H { s with heap := h', toks := t' } := I.turned k fk.1 fk.2.1 fk.2.2.2.1 fk.2.2.2.2.1 fk.2.2.2.2.2
/-- while the keys are asked for: those that have come lie at kS, the list that is sorted (at a) is bare -/
def Asked (X : Cx) (pins : List (Addr × Obj)) (σ : L2.St) (H : Hp) (a kS : Addr) (e1 : Nat) (ks : List PyData) (s' : Shared) : Prop :=
  ∃ H' kA e, Inv X pins σ H' s' ∧ Same H H' ∧ H' a = none ∧ H' kS = none ∧ s'.heap.get? kS = some (seqObj "list" kA e) ∧ s'.heap.get? a = some (seqObj "list" #[] e1) ∧
    EachIs (fun (u : Value) (d : PyData) => ∃ v, RelV v u ∧ Dp X.K H' v d) kA.toList ks
theorem fpUp {H' : Hp} {b : Addr} (f : FpOk X pins H b) (n : H' b = none) : FpOk X pins H' b := ⟨n, f.2⟩
theorem fpStk (I : Inv X pins σ H s) {b : Addr} (f : FpOk X pins H b) : b ∉ frs X.stack := fun z => (List.mem_cons.mp (I.stkSub b z)).elim f.2.1 f.2.2.1
/-- one key more -/
theorem askOne {f : Addr} {fd : FuncData} {n : Nat} {p : Str} {sp : Sp} {A' : Around} {a kS : Addr} {e1 : Nat} {ks : List PyData} {s' : Shared} {u : Value} {v : V} {d : PyData} {P E : Value → Shared → Prop}
    (F : FnOk X.prog X.w X.K X.mg X.base CX0 n f fd [p] sp) (hb : Binds X.K fd [p] []) (hr : Room n A')
    (he : ∀ {H1 : Hp} {s1 : Shared}, Inv X pins σ H1 s1 → Env0 X.prog X.w X.K X.mg X.base A' X.stack s1 H1)
    (fk : FpOk X pins H kS) (fa : FpOk X pins H a) (i : Asked X pins σ H a kS e1 ks s') (ru : RelV v u) (ot : onlyTs ks = true)
    (q : ∀ H1, Same H H1 → sp [v] H1 (fun w H2 => Same H1 H2 ∧ Dp X.K H2 w d) E0)
    (h : ∀ k s2 H2 kA e, Inv X pins σ H2 s2 → Same H H2 → H2 a = none → H2 kS = none → s2.heap.get? kS = some (seqObj "list" kA e) → s2.heap.get? a = some (seqObj "list" #[] e1) →
      EachIs (fun (u : Value) (d : PyData) => ∃ v, RelV v u ∧ Dp X.K H2 v d) kA.toList ks → (∃ y, RelV y k ∧ Dp X.K H2 y d) → P k s2) :
    wpAny (model X.prog X.w) A' (call (.ref f) [u]) P E s' := by
  obtain ⟨H', kA, e, I', sm, na, nk, ok, oa, ek⟩ := i
  refine wpAny_call (codeAny_mono (F.run A' X.stack s' H' ⟨[u], []⟩ [u] [v] _ E0 hr (he I') (hb s' [u] I'.kIn rfl) (.cons ru .nil) (q H' sm)) fun r z hq => ?_)
  cases r with
  | error e => exact hq.elim
  | ok fl =>
    cases fl with
    | ret k =>
      obtain ⟨y, H2, os, bare, un, hok, ry, sm2, dy⟩ : CE X.stack X.prog X.w H' s' (fun w H2 => Same H' H2 ∧ Dp X.K H2 w d) k z := hq
      have I2 : Inv X pins σ H2 z := I'.call' (ch := []) os un hok bare fun b w => absurd w (by simp)
      have sk := fpStk I' (fpUp fk nk)
      have sa := fpStk I' (fpUp fa na)
      refine h k z H2 kA e I2 (sm.trans sm2) (un.free a _ oa na (by simp)) (un.free kS _ ok nk (by simp)) (un.keep kS _ ok nk sk (by simp)) (un.keep a _ oa na sa (by simp)) ?_ ⟨y, ry, dy⟩
      have ek2 := PySem.W.each_mem ek
      exact ek2.mono fun u d ⟨⟨v, r1, d1⟩, m⟩ => ⟨v, r1, dpS sm2 (mem_onlyTs ot d m) d1⟩
    | _ => exact False.elim hq
end
/-- these things, sorted by the data of their keys -/
def sortK (key : PyData → PyData) (xs : List V) (ds : List PyData) : List (V × PyData) := (xs.zip ds).mergeSort (PySem.W.dataLe false fun b => key b.2)
def rSortK (K : PySem.W.Frag) (f : Addr) (sp : Sp) (key : PyData → PyData) : List V → List V → Hp → VK → Prop := fun vs zs H Q => ∃ (l : Addr) (xs : List V) (ds : List PyData), vs = [V.ref l] ∧ zs = [V.ref f] ∧ SqL K H l xs ∧ xs.length = ds.length ∧
  PySem.W.AllAlike (ds.map key) ∧ PySem.W.Sortable (ds.map key) ∧ (∀ d ∈ ds, (key d).depth ≤ 60) ∧ onlyTs (ds.map key) = true ∧
  (∀ b ∈ xs.zip ds, ∀ H1, Same H H1 → sp [b.1] H1 (fun w H2 => Same H1 H2 ∧ Dp K H2 w (key b.2)) E0) ∧
  ∀ (p : Addr) (H1 : Hp), Same H H1 → H1 p = none → Q (.ref p) (upd H1 p (.lst ((sortK key xs ds).map Prod.fst)))
theorem only_take : ∀ {ds : List PyData} (j : Nat), onlyTs ds = true → onlyTs (ds.take j) = true := fun j h => onlyTs_mem fun d m => mem_onlyTs h d (List.mem_of_mem_take m)
section
variable {X : Cx} {f : Addr} {fd : FuncData} {n : Nat} {p : Str} {sp : Sp} {key : PyData → PyData}
theorem cr_sortK (F : FnOk X.prog X.w X.K X.mg X.base CX0 n f fd [p] sp) (hb : Binds X.K fd [p] []) (hr : Room (n + 2) X.A) (hu : X.A.units + 64 < cLine) : CallRK X (.builtin "sorted") [Str.ofString "key"] (rSortK X.K f sp key) := by
  intro pins s σ H vs zs us ws Q I r rz h
  obtain ⟨l, xs, ds, rfl, rfl, hs, len, al, so, dp, ot, turn, q⟩ := h
  obtain ⟨its, rv, hl, hz⟩ := I.list hs
  obtain rfl := Vals.ref1 r
  obtain rfl := Vals.ref1 rz
  have zl : (xs.zip ds).length = xs.length := by rw [List.length_zip]; omega
  have il : its.length = xs.length := rv.length.symm
  have eb : EachIs (fun u (b : V × PyData) => RelV b.1 u) its (xs.zip ds) := eachVals rv len
  have emap : (xs.zip ds).map (fun b => key b.2) = ds.map key := by
    rw [show (fun b : V × PyData => key b.2) = key ∘ Prod.snd from rfl, ← List.map_map, zip_snd len]
  refine sorted_of_sort hl.isList (by rw [il]; exact hz) (ksk_s1 _ _) (fun _ => ksk_l1 _ _) fun E' => ?_
  show wpAny _ _ (Builtin.«list.sort» ⟨[.ref (s.heap.objs.size + 1)], [(Str.ofString "key", .ref f)]⟩) _ _ _
  rw [PyProof.Rows.ksk_t1]
  have ho := copyHeap_at s.heap its
  have up0 : ∀ b o, s.heap.get? b = some o → (copyHeap s.heap its).get? b = some o := fun b o e => copyHeap_old e
  have hsz0 : s.heap.objs.size + 1 < (copyHeap s.heap its).objs.size := Heap.lt_size ho
  generalize hg0 : copyHeap s.heap its = g0 at ho up0 hsz0 ⊢
  generalize ha : s.heap.objs.size + 1 = a at ho hsz0 ⊢
  have fa : FpOk X pins H a := I.fpOk (by rw [← ha]; exact Nat.le_succ _) (I.hok.fresh (by rw [← ha]; exact Nat.le_succ _))
  have sa0 : ∀ b o, s.heap.get? b = some o → b ≠ a := fun b o e z => absurd (Heap.lt_size e) (by rw [z, ← ha]; exact Nat.not_lt.mpr (Nat.le_succ _))
  obtain ⟨e1, ho1⟩ : ∃ e1, (g0.update a (Obj.mapSeq fun _ => (#[] : Array Value))).get? a = some (seqObj "list" #[] e1) := ⟨_, get?_update_seq ho fun _ => #[]⟩
  have k1 : ∀ b o, s.heap.get? b = some o → (g0.update a (Obj.mapSeq fun _ => (#[] : Array Value))).get? b = some o := fun b o e =>
    ((Heap.SameBut.update g0 a (Obj.mapSeq fun _ => (#[] : Array Value))).2 b (sa0 b o e)).trans (up0 b o e)
  unfold ksk_tree
  refine wpAny_bind (listItems_at ho rfl ?_)
  refine wpAny_bind (listUpdate_at ho rfl ?_ (by rw [List.size_toArray, il]; exact hz) (Nat.zero_le _))
  refine wpAny_bind (seqEpoch_at ho1 rfl ?_)
  refine wpAny_bind (wpAny_newTuple ?_ (by show its.length ≤ _; rw [il]; exact hz))
  refine wpAny_bind (wpAny_newList ?_ (Nat.zero_le _))
  refine wpAny_holding ?_
  show wpAny _ _ (ksk_rest a (.ref f) false its.toArray e1 (.ref ((g0.update a (Obj.mapSeq fun _ => (#[] : Array Value))).push (seqObj "tuple" its.toArray 0)).objs.size)) _ _ { s with heap := ((g0.update a (Obj.mapSeq fun _ => (#[] : Array Value))).push (seqObj "tuple" its.toArray 0)).push (seqObj "list" #[] 0) }
  have usz : (g0.update a (Obj.mapSeq fun _ => (#[] : Array Value))).objs.size = g0.objs.size := Heap.size_update _ _ _
  generalize g0.update a (Obj.mapSeq fun _ => (#[] : Array Value)) = g1 at ho1 k1 usz ⊢
  have psz : (g1.push (seqObj "tuple" its.toArray 0)).objs.size = g0.objs.size + 1 := by rw [size_push', usz]
  have ho2 : (g1.push (seqObj "tuple" its.toArray 0)).get? a = some (seqObj "list" #[] e1) := Heap.get?_push_of_some _ ho1
  have k2 : ∀ b o, s.heap.get? b = some o → (g1.push (seqObj "tuple" its.toArray 0)).get? b = some o := fun b o e => Heap.get?_push_of_some _ (k1 b o e)
  generalize g1.push (seqObj "tuple" its.toArray 0) = g2 at ho2 k2 psz ⊢
  have ho3 : (g2.push (seqObj "list" #[] 0)).get? a = some (seqObj "list" #[] e1) := Heap.get?_push_of_some _ ho2
  have hk3 : (g2.push (seqObj "list" #[] 0)).get? g2.objs.size = some (seqObj "list" #[] 0) := Heap.get?_push_size _ rfl
  have k3 : ∀ b o, s.heap.get? b = some o → (g2.push (seqObj "list" #[] 0)).get? b = some o := fun b o e => Heap.get?_push_of_some _ (k2 b o e)
  have hka : g2.objs.size ≠ a := by rw [psz]; exact Nat.ne_of_gt (Nat.lt_succ_of_lt hsz0)
  have hge : s.heap.objs.size ≤ g2.objs.size := by
    rw [psz]
    have : s.heap.objs.size < a := by rw [← ha]; exact Nat.lt_succ_self _
    exact Nat.le_succ_of_le (Nat.le_of_lt (Nat.lt_trans this hsz0))
  have fk : FpOk X pins H g2.objs.size := I.fpOk hge (I.hok.fresh hge)
  generalize g2.objs.size = kS at hk3 hka fk ⊢
  generalize g2.push (seqObj "list" #[] 0) = g3 at ho3 hk3 k3 ⊢
  have I3 : Inv X pins σ H { s with heap := g3 } := I.kept (t' := s.toks) k3
  have rm : Room n X.A.in1.in1 := (show Room (n + 1) X.A.in1 from Room.in1 hr).in1
  unfold ksk_rest
  refine wpAny_bind (wpAny_rule ?_)
  first
    | rw [List.forIn_toArray]
    | (rw [← Array.forIn_toList]; simp only [List.toList_toArray])
    | rw [← Array.forIn_toList]
  refine wpAny_bind (ksk_fold (fun i s' => Asked X pins σ H a kS e1 ((ds.map key).take i) s') its 0 _ ⟨H, #[], 0, I3, Same.refl H, fa.1, fk.1, hk3, ho3, by rw [List.take_zero]; exact EachIs.nil⟩ (fun j u s' hx i => ?_) fun s' i => ?_)
  · simp only [Nat.zero_add] at i ⊢
    have hj : j < its.length := (List.getElem?_eq_some_iff.mp hx).1
    have hj1 : j < xs.length := by omega
    have hj2 : j < ds.length := by omega
    have ej : (its.zip (xs.zip ds))[j]? = some (u, (xs[j], ds[j])) := by
      rw [List.getElem?_zip_eq_some]
      refine ⟨hx, ?_⟩
      rw [List.getElem?_zip_eq_some]
      exact ⟨List.getElem?_eq_getElem hj1, List.getElem?_eq_getElem hj2⟩
    have ru : RelV xs[j] u := eb.zip _ (List.mem_of_getElem? ej)
    have mb : (xs[j], ds[j]) ∈ xs.zip ds := (List.of_mem_zip (List.mem_of_getElem? ej)).2
    have ek : (ds.map key).take (j + 1) = (ds.map key).take j ++ [key ds[j]] := by
      rw [List.take_add_one, List.getElem?_map, List.getElem?_eq_getElem hj2]
      rfl
    refine wpAny_bind (wpAny_attempt (askOne F hb rm (fun I1 => I1.env0.in1.in1) fk fa i ru (only_take j ot) (turn _ mb) fun k s2 H2 kA e I2 sm na nk ok oa ks ⟨y, ry, dy⟩ => ?_))
    have kz : kA.size ≤ xs.length := by
      have := ks.length
      rw [Array.length_toList, List.length_take] at this
      omega
    try dsimp only
    refine wpAny_bind (listUpdate_at ok rfl ?_ (Nat.le_trans kz hz) (Nat.le_trans (Nat.le_of_eq (Array.size_push ..)) (Nat.succ_le_succ (Nat.le_trans kz hz))))
    have sb := Heap.SameBut.update s2.heap kS (Obj.mapSeq (·.push k))
    obtain ⟨c2, hc2⟩ : ∃ c2, (s2.heap.update kS (Obj.mapSeq (·.push k))).get? kS = some (seqObj "list" (kA.push k) c2) := ⟨_, get?_update_seq ok (·.push k)⟩
    refine wpAny_pure ⟨rfl, H2, kA.push k, c2, shiftIt (t' := s2.toks) I2 (fpUp fk nk) (fun b o hne e => (sb.2 b hne).trans e), sm, na, nk, hc2, (sb.2 a hka.symm).trans oa, ?_⟩
    rw [ek, Array.toList_push]
    exact each_snoc (R := fun (u : Value) (d : PyData) => ∃ v, RelV v u ∧ Dp X.K H2 v d) ⟨y, ry, dy⟩ ks
  · obtain ⟨H', kA, e, I', sm, na, nk, ok, oa, ek⟩ := i
    have e3 : (ds.map key).take (0 + its.length) = ds.map key := List.take_of_length_le (by rw [List.length_map]; omega)
    rw [e3] at ek
    have er : EachIs (fun (v : Value) (d : PyData) => ∃ as, Reads s'.heap v d as) kA.toList (ds.map key) := ek.mono fun u d ⟨v, r1, d1⟩ => Dp.reads I' d v u d1 r1
    have ksz : kA.size = its.length := by
      have := er.length
      rw [Array.length_toList, List.length_map] at this
      omega
    try dsimp only
    refine wpAny_bind (listItems_at ok rfl ?_)
    obtain ⟨B, b1, b2⟩ := restrict s'.heap fun b => decide (b ≠ kS)
    have bk : ∀ b o, B.get? b = some o → s'.heap.get? b = some o := fun b o e => by
      by_cases hb : b = kS
      · rw [b2 b (decide_eq_false fun z => z hb)] at e
        cases e
      · exact (b1 b (decide_eq_true hb)).symm.trans e
    refine keyH_end (s := s') (κ := dataKind s'.heap (ds.map key)) (h₁ := B) (fun b o _ e => bk b o e) (b2 kS (decide_eq_false fun z => z rfl)) ok oa hka (SortsAt.data er al so fun d hd => ?_) ksz (by rw [il]; exact hz) fun h' tk c kp na' => ⟨rfl, ?_⟩
    · obtain ⟨x, hx, rfl⟩ := List.mem_map.mp hd
      have := dp x hx
      show X.A.units + 2 + _ < _
      omega
    · have out := keyedOut_each (R := fun u (b : V × PyData) => RelV b.1 u) (bs := xs.zip ds) (vs := its) (out := sortVals (dataKind s'.heap (ds.map key)) false kA.toList its) (fun b => key b.2) ⟨s'.heap, kA.toList, by rw [emap]; exact al, by rw [emap], by rw [emap]; exact er⟩ eb
      have hv : Vals ((sortK key xs ds).map Prod.fst) (sortVals (dataKind s'.heap (ds.map key)) false kA.toList its) := valsEach out
      have hlen : ((sortK key xs ds).map Prod.fst).length ≤ sizeLine := by
        unfold sortK
        rw [List.length_map, List.length_mergeSort, zl]
        exact hz
      refine ⟨.ref a, upd H' a (.lst ((sortK key xs ds).map Prod.fst)), adopt2 (t' := tk) I' (fpUp fk nk) (fpUp fa na) (fun b o hk hne e => kp b o hne ((b1 b (decide_eq_true hk)).trans e)) na' hv hlen, rfl, q a H' sm na⟩
end
end SH

set_option Elab.async false
set_option linter.all false
set_option maxRecDepth 100000
namespace SH
open PySem L2
theorem bef_total : ∀ p q : List Int, bef p q = false → bef q p = false → p = q
  | [], [], _, _ => rfl
  | [], _ :: _, _, h => by cases h
  | _ :: _, [], h, _ => by cases h
  | x :: p, y :: q, h1, h2 => by
    unfold bef at h1 h2
    by_cases e : x = y
    · rw [if_pos e] at h1
      rw [if_pos e.symm] at h2
      rw [e, bef_total p q h1 h2]
    · rw [if_neg e] at h1
      rw [if_neg (Ne.symm e)] at h2
      have a := of_decide_eq_false h1
      have b := of_decide_eq_false h2
      omega
theorem bef_trans : ∀ p q r : List Int, bef p q = true → bef q r = true → bef p r = true
  | [], _, _, h, _ => by cases h
  | _ :: _, [], _, _, h => by cases h
  | _ :: _, _ :: _, [], _, _ => rfl
  | x :: p, y :: q, z :: r, h1, h2 => by
    unfold bef at h1 h2 ⊢
    by_cases e : x = y
    · rw [if_pos e] at h1
      subst e
      by_cases f : x = z
      · rw [if_pos f] at h2 ⊢
        exact bef_trans p q r h1 h2
      · rw [if_neg f] at h2 ⊢
        exact h2
    · rw [if_neg e] at h1
      have a := of_decide_eq_true h1
      by_cases f : y = z
      · subst f
        rw [if_neg e]
        exact h1
      · rw [if_neg f] at h2
        have b := of_decide_eq_true h2
        rw [if_neg (by omega), decide_eq_true (by omega)]
theorem bef_asymm {p q : List Int} (h : bef p q = true) : bef q p = false := by
  cases c : bef q p with
  | false => rfl
  | true =>
    have := bef_trans p q p h c
    rw [bef_irrefl] at this
    cases this
def leP (p q : List Int) : Bool := !bef q p
theorem leP_total (p q : List Int) : (leP p q || leP q p) = true := by
  unfold leP
  cases c : bef q p with
  | false => rfl
  | true => rw [bef_asymm c]; rfl
theorem leP_trans (p q r : List Int) (h1 : leP p q = true) (h2 : leP q r = true) : leP p r = true := by
  unfold leP at *
  have a : bef q p = false := by simpa using h1
  have b : bef r q = false := by simpa using h2
  cases c : bef r p with
  | false => rfl
  | true =>
    by_cases e : q = p
    · subst e
      rw [b] at c
      cases c
    · cases d : bef p q with
      | false => exact absurd (bef_total q p a d) e
      | true =>
        rw [bef_trans r p q c d] at b
        cases b
theorem leP_anti {p q : List Int} (h1 : leP p q = true) (h2 : leP q p = true) : p = q := by
  unfold leP at *
  exact bef_total p q (by simpa using h2) (by simpa using h1)
/-- the paths in order -/
def ordP (ps : List (List Int)) : List (List Int) := ps.mergeSort leP
theorem ordP_only {ps qs : List (List Int)} (h : qs.Perm ps) (s : qs.Pairwise fun p q => leP p q = true) : ordP ps = qs := by
  unfold ordP
  refine List.Perm.eq_of_pairwise (le := fun p q => leP p q = true) (fun a b _ _ h1 h2 => leP_anti h1 h2) ?_ s ((List.mergeSort_perm _ _).trans h.symm)
  exact List.pairwise_mergeSort leP_trans leP_total ps
/-- one path more is put in behind those that are ahead of it -/
def cntB (D : List (List Int)) (p : List Int) : Nat := (D.filter fun o => bef o p).length
theorem cntB_cut : ∀ (D : List (List Int)) (p : List Int), D.Pairwise (fun a b => bef a b = true) → p ∉ D → (∀ o ∈ D.take (cntB D p), bef o p = true) ∧ (∀ o ∈ D.drop (cntB D p), bef p o = true) ∧ cntB D p ≤ D.length
  | [], p, _, _ => ⟨fun o h => (by cases h), fun o h => (by cases h), Nat.le_refl _⟩
  | a :: D, p, s, n => by
    obtain ⟨s1, s2⟩ := List.pairwise_cons.mp s
    have n2 : p ∉ D := fun h => n (List.mem_cons_of_mem _ h)
    obtain ⟨x, y, z⟩ := cntB_cut D p s2 n2
    cases c : bef a p with
    | true =>
      have e : cntB (a :: D) p = cntB D p + 1 := by
        unfold cntB
        rw [List.filter_cons_of_pos (by exact c), List.length_cons]
      rw [e]
      refine ⟨fun o h => ?_, fun o h => y o (by rw [List.drop_succ_cons] at h; exact h), by rw [List.length_cons]; omega⟩
      rw [List.take_succ_cons] at h
      rcases List.mem_cons.mp h with h | h
      · rw [h]; exact c
      · exact x o h
    | false =>
      have pa : bef p a = true := by
        cases d : bef p a with
        | true => rfl
        | false => exact absurd (by rw [bef_total p a d c]; exact List.mem_cons_self) n
      have all : ∀ o ∈ D, bef p o = true := fun o h => bef_trans p a o pa (s1 o h)
      have e : cntB (a :: D) p = 0 := by
        unfold cntB
        rw [List.length_eq_zero_iff, List.filter_eq_nil_iff]
        intro o h
        rcases List.mem_cons.mp h with h | h
        · rw [h, c]; decide
        · rw [bef_asymm (all o h)]; decide
      rw [e]
      refine ⟨fun o h => (by cases h), fun o h => ?_, Nat.zero_le _⟩
      rcases List.mem_cons.mp h with h | h
      · rw [h]; exact pa
      · exact all o h
def insAt {α : Type} (xs : List α) (i : Nat) (y : α) : List α := xs.take i ++ [y] ++ xs.drop i
theorem insAt_dp {K : PySem.W.Frag} {H : Hp} {xs : List V} {ds : List PyData} {y : V} {d : PyData} (h : DpAll K H xs ds) (hy : Dp K H y d) (i : Nat) : DpAll K H (insAt xs i y) (insAt ds i d) := by
  unfold insAt
  exact DpAll.app (DpAll.app (dpTake i h) (.cons hy .nil)) (dpDrop i h)
theorem insAt_map {α β : Type} (f : α → β) (xs : List α) (i : Nat) (y : α) : (insAt xs i y).map f = insAt (xs.map f) i (f y) := by
  unfold insAt
  rw [List.map_append, List.map_append, List.map_take, List.map_drop]
  rfl
theorem insAt_len {α : Type} (xs : List α) (i : Nat) (y : α) : (insAt xs i y).length = xs.length + 1 := by
  unfold insAt
  rw [List.length_append, List.length_append, List.length_take, List.length_drop, List.length_singleton]
  omega
theorem insAt_perm {α : Type} (xs : List α) (i : Nat) (y : α) : (insAt xs i y).Perm (xs ++ [y]) := by
  unfold insAt
  have h : (xs.take i ++ [y] ++ xs.drop i).Perm (xs.take i ++ (xs.drop i ++ [y])) := by
    rw [List.append_assoc]
    exact List.Perm.append_left _ List.perm_append_comm
  rw [← List.append_assoc, List.take_append_drop] at h
  exact h
theorem ins_sorted {D : List (List Int)} {p : List Int} (s : D.Pairwise fun a b => bef a b = true) (n : p ∉ D) : (insAt D (cntB D p) p).Pairwise fun a b => bef a b = true := by
  obtain ⟨x, y, z⟩ := cntB_cut D p s n
  unfold insAt
  rw [List.append_assoc, List.pairwise_append]
  have sp := s
  rw [← List.take_append_drop (cntB D p) D, List.pairwise_append] at sp
  refine ⟨sp.1, ?_, fun a ha b hb => ?_⟩
  · rw [List.singleton_append, List.pairwise_cons]
    exact ⟨fun o h => y o h, sp.2.1⟩
  · rcases List.mem_cons.mp (by simpa using hb) with h | h
    · rw [h]; exact x a ha
    · exact sp.2.2 a ha b h
/-- what a path is sorted by -/
def keyD : PyData → PyData
  | .tuple ds => .tuple (ds.map (fun d => .tuple [.int 0, d]) ++ [.tuple [.int 1, .int 0]])
  | d => d
def keyL (p : List Int) : List PyData := p.map (fun n => PyData.tuple [.int 0, .int n]) ++ [.tuple [.int 1, .int 0]]
theorem keyD_path (p : List Int) : keyD (pathD p) = .tuple (keyL p) := by
  show PyData.tuple ((p.map PyData.int).map (fun d => .tuple [.int 0, d]) ++ [.tuple [.int 1, .int 0]]) = _
  rw [List.map_map]
  rfl
theorem tok_cons (x : Int) (p : List Int) : PySem.W.keyToksAll (keyL (x :: p)) = [.inl 1, .inl 1, .inl 0, .inl 1] ++ (.inl x :: (.inl 0 :: PySem.W.keyToksAll (keyL p))) := by
  unfold keyL
  rw [List.map_cons, List.cons_append, PySem.W.keyToksAll, PySem.W.keyToks, PySem.W.keyToksAll, PySem.W.keyToksAll, PySem.W.keyToksAll, PySem.W.keyToks, PySem.W.keyToks]
  rfl
theorem tok_nil : PySem.W.keyToksAll (keyL []) = [.inl 1, .inl 1] ++ (.inl 1 :: [.inl 1, .inl 0, .inl 0, .inl 0]) := by
  unfold keyL
  rw [List.map_nil, List.nil_append, PySem.W.keyToksAll, PySem.W.keyToks, PySem.W.keyToksAll, PySem.W.keyToksAll, PySem.W.keyToksAll, PySem.W.keyToks, PySem.W.keyToks]
  rfl
theorem lt_atom {a b : Int} (h : a ≠ b) (l m : List (Int ⊕ List Nat)) : PyProof.Rows.lexLt PyProof.Rows.itemOrd (.inl a :: l) (.inl b :: m) = decide (a < b) := by
  exact PyProof.Rows.lex_diff (O := PyProof.Rows.itemOrd) (by intro z; exact h (Sum.inl.inj z))
theorem key_lt : ∀ p q : List Int, PyProof.Rows.lexLt PyProof.Rows.itemOrd (PySem.W.keyToksAll (keyL p)) (PySem.W.keyToksAll (keyL q)) = bef p q
  | [], [] => by rw [PyProof.Rows.lex_irrefl]; rfl
  | [], y :: q => by
    rw [tok_nil, tok_cons, show [Sum.inl 1, Sum.inl 1, Sum.inl 0, Sum.inl 1] ++ (Sum.inl y :: (Sum.inl 0 :: PySem.W.keyToksAll (keyL q))) = [Sum.inl 1, Sum.inl 1] ++ (Sum.inl 0 :: Sum.inl 1 :: (Sum.inl y :: (Sum.inl 0 :: PySem.W.keyToksAll (keyL q)))) from rfl, PySem.W.lex_pre, lt_atom (by decide)]
    rfl
  | x :: p, [] => by
    rw [tok_nil, tok_cons, show [Sum.inl 1, Sum.inl 1, Sum.inl 0, Sum.inl 1] ++ (Sum.inl x :: (Sum.inl 0 :: PySem.W.keyToksAll (keyL p))) = [Sum.inl 1, Sum.inl 1] ++ (Sum.inl 0 :: Sum.inl 1 :: (Sum.inl x :: (Sum.inl 0 :: PySem.W.keyToksAll (keyL p)))) from rfl, PySem.W.lex_pre, lt_atom (by decide)]
    rfl
  | x :: p, y :: q => by
    rw [tok_cons, tok_cons, PySem.W.lex_pre]
    unfold bef
    by_cases e : x = y
    · subst e
      rw [if_pos rfl, ← key_lt p q]
      exact PySem.W.lex_pre [.inl x, .inl 0] _ _
    · rw [if_neg e, lt_atom e]
theorem le_key (p q : List Int) : PySem.W.dataLe false keyD (pathD p) (pathD q) = leP p q := by
  show (!PyProof.Rows.lexLt PyProof.Rows.itemOrd (PySem.W.keyToks (keyD (pathD q))) (PySem.W.keyToks (keyD (pathD p)))) = leP p q
  rw [keyD_path, keyD_path, PySem.W.keyToks, PySem.W.keyToks, key_lt]
  rfl
theorem ord_data (ps : List (List Int)) : (ps.map pathD).mergeSort (PySem.W.dataLe false keyD) = (ordP ps).map pathD :=
  (PySem.W.sort_maps pathD fun a _ b _ => (le_key a b).symm).symm
theorem alike_keys : ∀ p q : List Int, PySem.W.alikeAll (keyL p) (keyL q) = true
  | [], [] => by decide +kernel
  | [], y :: q => by
    unfold keyL
    rw [List.map_nil, List.nil_append, List.map_cons, List.cons_append, PySem.W.alikeAll, PySem.W.alikeAll]
    rfl
  | x :: p, [] => by
    unfold keyL
    rw [List.map_nil, List.nil_append, List.map_cons, List.cons_append]
    cases p with
    | nil => rfl
    | cons z p => rfl
  | x :: p, y :: q => by
    have := alike_keys p q
    unfold keyL at this ⊢
    rw [List.map_cons, List.cons_append, List.map_cons, List.cons_append, PySem.W.alikeAll, this]
    rfl
theorem key_depth (p : List Int) : (keyD (pathD p)).depth ≤ 2 := by
  have all : ∀ p : List Int, PyData.depthAll (keyL p) ≤ 1 := by
    intro p
    induction p with
    | nil => unfold keyL; rw [List.map_nil, List.nil_append]; decide +kernel
    | cons x p ih =>
      unfold keyL at ih ⊢
      rw [List.map_cons, List.cons_append, PyData.depthAll]
      have : (PyData.tuple [.int 0, .int x]).depth = 1 := by
        rw [PyData.depth, PyData.depthAll, PyData.depthAll, PyData.depthAll, PyData.depth, PyData.depth]
        rfl
      omega
  rw [keyD_path, PyData.depth]
  have := all p
  omega
theorem key_only (p : List Int) : onlyT (keyD (pathD p)) = true := by
  rw [keyD_path]
  show onlyTs (keyL p) = true
  refine onlyTs_mem fun d hd => ?_
  unfold keyL at hd
  rcases List.mem_append.mp hd with h | h
  · obtain ⟨n, _, rfl⟩ := List.mem_map.mp h
    rfl
  · rw [List.mem_singleton.mp h]
    rfl
end SH

set_option Elab.async false
set_option linter.all false
set_option maxRecDepth 100000
namespace SH
open PySem L2
abbrev sKey : Stmt := topS 3
abbrev sOrd : Stmt := topS 2
abbrev sLpaths : Stmt := topS 8
theorem scKey : FnScope ["path", "number"] ["path"] (defScope sKey) := ⟨rfl, rfl, rfl, by decide +kernel, rfl, by decide +kernel, by decide +kernel⟩
theorem scOrd : FnScope ["paths"] ["paths"] (defScope sOrd) := ⟨rfl, rfl, rfl, by decide +kernel, rfl, by decide +kernel, by decide +kernel⟩
theorem scLpaths : FnScope ["_law_bag_here", "_law_many", "_law_found", "_law_at", "_law_path_here"] ["_law_bag_here", "_law_many"] (defScope sLpaths) := ⟨rfl, rfl, rfl, by decide +kernel, rfl, by decide +kernel, by decide +kernel⟩
def spKey (K : PySem.W.Frag) : Sp := fun vs H Q _ => ∃ (v : V) (p : List Int), vs = [v] ∧ Dp K H v (pathD p) ∧ p.length ≤ 100 ∧ ∀ (u : V) (H' : Hp), Same H H' → Dp K H' u (keyD (pathD p)) → Q u H'
def spOrd (K : PySem.W.Frag) : Sp := fun vs H Q _ => ∃ (l : Addr) (xs : List V) (ps : List (List Int)), vs = [.ref l] ∧ SqL K H l xs ∧ DpAll K H xs (ps.map pathD) ∧ (∀ p ∈ ps, p.length ≤ 100) ∧
  ∀ (r : Addr) (H1 : Hp) (ys : List V), Same H H1 → H1 r = none → DpAll K H1 ys ((ordP ps).map pathD) → Q (.ref r) (upd H1 r (.lst ys))
def PK (p : List Int) : Prop := p.length ≤ 20 ∧ ∀ n ∈ p, NumOk n
def spLpaths (K : PySem.W.Frag) : Sp := fun vs H Q _ => ∃ (b : Addr) (m n : Nat), vs = [.ref b, .int (m : Int)] ∧ m ≤ 12 ∧ Bag H b (n + 500) ∧
  ∀ (l : Addr) (xs : List V) (ps : List (List Int)) (H' : Hp), H' l = some (.lst xs) → DpAll K H' xs (ps.map pathD) → ps.length ≤ 12 → ps.Nodup → (∀ p ∈ ps, PK p) → Bag H' b n → But b H H' → H l = none → Q (.ref l) H'
def atomK (n : Int) : PyData := .tuple [.int 0, .int n]
theorem sortD_only {K : PySem.W.Frag} {H : Hp} {xs : List V} {ds : List PyData} (key : PyData → PyData) (h : DpAll K H xs ds) : DpAll K H ((sortK key xs ds).map Prod.fst) (ds.mergeSort (PySem.W.dataLe false key)) := by
  have e : ds.mergeSort (PySem.W.dataLe false key) = (sortK key xs ds).map Prod.snd := by
    unfold sortK
    conv => lhs; rw [← zip_snd (dpLen h)]
    exact (PySem.W.sort_maps (r := PySem.W.dataLe false fun b : V × PyData => key b.2) (s := PySem.W.dataLe false key) Prod.snd fun _ _ _ _ => rfl).symm
  rw [e]
  exact dpOfPairs _ fun p hp => dpPairs h p (List.mem_mergeSort.mp hp)
section
variable {P : Program} {w : World} {K : PySem.W.Frag} {mg : Str → Option Value} {base : Heap}
theorem ok_key {f : Addr} {fd : FuncData} (F : Fun K "order_key" "order_key" sKey f fd) (T : Bi mg) : FnOk P w K mg base CX0 1 f fd ["path"] (spKey K) := by
  refine F.ok scKey (fun vs H Q E h => ?_) (fun cdv A outer s H vs Q E hr h => ?_)
  · obtain ⟨v, p, rfl, _⟩ := h
    rfl
  obtain ⟨v, p, rfl, hp, lp, k⟩ := h
  refine ⟨_, (pss_one (ps_ret (pe_tup (StX.pa_star (pe_lc (own := [("number", 1)]) (g := gName 1) (tt := tYes) (by rfl) scKey.nd (pi_tup (pv 0)) (blkOk_by (own := [("number", 1)]) (N := ["path", "number"]) (sc := defScope sKey) (by decide +kernel)) (fun _ _ _ _ _ => pg_name (i := 1) scKey.nd rfl (Or.inl rfl)) (fun _ _ _ _ _ => pts_nil) (fun _ _ _ _ _ => (pe_tup (pa_cons pe_int (pa_cons (pv 1) pa_nil))))) (pa_cons (pe_tup (pa_cons pe_int (pa_cons pe_int pa_nil))) pa_nil))))), ?_⟩
  have hs : sizeLine = 16777216 := by decide
  obtain ⟨a, rfl, ha⟩ := dpPath hp
  refine ⟨_, rfl, a, rfl, ⟨_, ha⟩, ?_⟩
  intro D hD
  refine lc_tup (K := K) (a := a) (xs := p.map V.int) (fun j H' => ∃ ys, H' D = some (.lst ys) ∧ ys.length ≤ j ∧ DpAll K H' ys ((p.take j).map atomK) ∧ Same H H') ⟨[], upd_same, Nat.le_refl _, .nil, same_new hD _⟩ (fun j H' _ ⟨_, _, _, _, h⟩ => kp h ha) ?_ ?_
  · rintro j x H7 hx ⟨ys, hD7, ly, dy, s7⟩
    rw [List.getElem?_map] at hx
    cases hy : p[j]? with
    | none => rw [hy] at hx; cases hx
    | some y =>
    rw [hy] at hx
    obtain rfl := Option.some.inj hx
    have jl : j < p.length := (List.getElem?_eq_some_iff.mp hy).1
    refine ⟨rfl, ?_⟩
    refine ⟨_, rfl, by show 2 ≤ sizeLine; omega, fun t ht => ?_⟩
    have s8 := same_new ht (.tup [V.int 0, V.int y])
    have ht8 : (upd H7 t (.tup [V.int 0, V.int y])) t = some (.tup [V.int 0, V.int y]) := upd_same
    have hD8 := s8 _ _ hD7
    have oT : onlyTs ((p.take j).map atomK) = true := onlyTs_mem fun d hd => by
      obtain ⟨n, _, rfl⟩ := List.mem_map.mp hd
      rfl
    have dy8 := dpsS s8 oT dy
    generalize upd H7 t (.tup [V.int 0, V.int y]) = H8 at s8 ht8 hD8 dy8 ⊢
    have k8 : KpT K H8 (upd H8 D (.lst (ys ++ [V.ref t]))) := KpT.lst hD8
    refine ⟨ys, hD8, by omega, ys ++ [V.ref t], upd_same, by rw [List.length_append, List.length_singleton]; omega, ?_, fun b o z => ?_⟩
    · rw [List.take_add_one, hy, List.map_append]
      have d1 : Dp K H8 (.ref t) (atomK y) := .tup (SqT.of ht8) (.cons (.int 0) (.cons (.int y) .nil))
      exact DpAll.app (DpAll.keep k8 oT dy8) (.cons (Dp.keep k8 rfl d1) .nil)
    · rw [upd_ne (ne_of_none z hD)]
      exact s8 _ _ (s7 _ _ z)
  · rintro H7 ⟨ys, hD7, ly, dy, s7⟩
    rw [List.length_map] at ly dy
    rw [List.take_length] at dy
    have oT : onlyTs (p.map atomK) = true := onlyTs_mem fun d hd => by
      obtain ⟨n, _, rfl⟩ := List.mem_map.mp hd
      rfl
    refine ⟨D, ys, rfl, .inr (SqL.of hD7), by show 2 ≤ sizeLine; omega, fun t ht => ?_⟩
    have s8 := same_new ht (.tup [V.int 1, V.int 0])
    have ht8 : (upd H7 t (.tup [V.int 1, V.int 0])) t = some (.tup [V.int 1, V.int 0]) := upd_same
    have dy8 := dpsS s8 oT dy
    generalize upd H7 t (.tup [V.int 1, V.int 0]) = H8 at s8 ht8 dy8 ⊢
    refine ⟨by rw [List.length_append]; simp; omega, fun u hu => ?_⟩
    have s9 := same_new hu (.tup (ys ++ [V.ref t]))
    refine k _ _ (s7.trans (s8.trans s9)) ?_
    rw [keyD_path]
    have d1 : Dp K H8 (.ref t) (.tuple [.int 1, .int 0]) := .tup (SqT.of ht8) (.cons (.int 1) (.cons (.int 0) .nil))
    exact .tup (SqT.of upd_same) (DpAll.app (dpsS s9 oT dy8) (.cons (dpS s9 rfl d1) .nil))
theorem ok_ord {f g : Addr} {fd gd : FuncData} (F : Fun K "in_order" "in_order" sOrd f fd) (KY : Fk P w K mg base 1 "order_key" g gd ["path"] (spKey K)) (q_sorted : mg "sorted" = none) : FnOk P w K mg base CX0 4 f fd ["paths"] (spOrd K) := by
  refine F.ok scOrd (fun vs H Q E h => ?_) (fun cdv A outer s H vs Q E hr h => ?_)
  · obtain ⟨l, xs, ps, rfl, _⟩ := h
    rfl
  obtain ⟨l, xs, ps, rfl, hl, hd, lp, k⟩ := h
  refine ⟨_, (pss_one (ps_ret (pe_callBK (cr_sortK (key := keyD) KY.G KY.b (hr.mono (by omega)) hr.units) (by rfl) q_sorted (by decide +kernel) (pa_cons (pv 0) pa_nil) (pk_cons (pe_glob (v := .ref g) rfl KY.m rfl) pk_nil)))), ?_⟩
  have key : ∀ d ∈ ps.map pathD, ∃ p ∈ ps, d = pathD p := fun d hd => by
    obtain ⟨p, hp, rfl⟩ := List.mem_map.mp hd
    exact ⟨p, hp, rfl⟩
  refine ⟨_, rfl, l, xs, ps.map pathD, rfl, rfl, hl, dpLen hd, fun d hd d' hd' => ?_, .inl fun d hd => ?_, fun d hd => ?_, onlyTs_mem fun d hd => ?_, fun b hb H1 s1 => ?_, fun r H1 s1 hr => ?_⟩
  · obtain ⟨_, hx, rfl⟩ := List.mem_map.mp hd
    obtain ⟨_, hx', rfl⟩ := List.mem_map.mp hd'
    obtain ⟨p, _, rfl⟩ := key _ hx
    obtain ⟨q, _, rfl⟩ := key _ hx'
    rw [keyD_path, keyD_path, PySem.W.alike, alike_keys]
  · obtain ⟨_, hx, rfl⟩ := List.mem_map.mp hd
    obtain ⟨p, _, rfl⟩ := key _ hx
    rw [keyD_path]
    cases p with
    | nil => exact ⟨_, _, rfl⟩
    | cons n p => exact ⟨_, _, rfl⟩
  · obtain ⟨p, _, rfl⟩ := key _ hd
    have := key_depth p
    omega
  · obtain ⟨_, hx, rfl⟩ := List.mem_map.mp hd
    obtain ⟨p, _, rfl⟩ := key _ hx
    exact key_only p
  · obtain ⟨p, hp, e⟩ := key _ (List.of_mem_zip hb).2
    have d := dpPairs hd b hb
    rw [e] at d ⊢
    exact ⟨b.1, p, rfl, dpS s1 (only_path p) d, lp p hp, fun u H2 s2 d2 => ⟨s2, d2⟩⟩
  · have := sortD_only keyD (dpsS s1 (only_paths _) hd)
    rw [ord_data] at this
    exact k r H1 _ s1 hr this
end
end SH

set_option Elab.async false
set_option linter.all false
set_option maxRecDepth 100000
namespace SH
open PySem L2
theorem kpt_two {K : PySem.W.Frag} {H H' : Hp} {l h : Addr} {xs ys : List V} (hl : H l = some (.lst xs)) (hh : H h = some (.lst ys)) (u : ∀ a o, a ≠ l → a ≠ h → H a = some o → H' a = some o) : KpT K H H' := fun a zs q => by
  rcases q with (q | ⟨o, q⟩) | q
  · exact .inl (.inl (u _ _ (fun z => by rw [z, hl] at q; cases q) (fun z => by rw [z, hh] at q; cases q) q))
  · exact .inl (.inr ⟨o, u _ _ (fun z => by rw [z, hl] at q; cases q) (fun z => by rw [z, hh] at q; cases q) q⟩)
  · exact .inr q
theorem kpt_but {K : PySem.W.Frag} {H H' : Hp} {b : Addr} {n : Nat} (B : Bag H b n) (u : But b H H') : KpT K H H' := by
  obtain ⟨b1, b2, b3, eb, _⟩ := B
  exact kpt_two eb eb fun a o n1 _ z => u a o n1 z
theorem any_path (ps : List (List Int)) (p : List Int) : ((ps.map pathD).any fun z => PyData.eqv z (pathD p)) = decide (p ∈ ps) := by
  induction ps with
  | nil => rfl
  | cons q ps ih =>
    rw [List.map_cons, List.any_cons, ih, eqv_path]
    by_cases c : q = p
    · subst c
      simp
    · rw [decide_eq_false c, Bool.false_or]
      by_cases d : p ∈ ps
      · simp [d]
      · have : ¬ p ∈ q :: ps := fun h => (List.mem_cons.mp h).elim (fun e => c e.symm) d
        rw [decide_eq_false d, decide_eq_false this]
/-- a bag and a list of paths beside it -/
structure PathsAt (K : PySem.W.Frag) (H : Hp) (b l : Addr) (n : Nat) (xs : List V) (ps : List (List Int)) : Prop where
  bag : Bag H b n
  lst : H l = some (.lst xs)
  dp : DpAll K H xs (ps.map pathD)
theorem PathsAt.but {K : PySem.W.Frag} {H H' : Hp} {b l : Addr} {n m : Nat} {xs : List V} {ps : List (List Int)} (h : PathsAt K H b l n xs ps) (u : But b H H') (B : Bag H' b m) (lb : l ≠ b) : PathsAt K H' b l m xs ps :=
  ⟨B, u _ _ lb h.lst, DpAll.keep (kpt_but h.bag u) (only_paths _) h.dp⟩
theorem PathsAt.same {K : PySem.W.Frag} {H H' : Hp} {b l : Addr} {n : Nat} {xs : List V} {ps : List (List Int)} (h : PathsAt K H b l n xs ps) (s : Same H H') : PathsAt K H' b l n xs ps :=
  ⟨h.bag.same s, s _ _ h.lst, dpsS s (only_paths _) h.dp⟩
def PKi (i : Nat) (p : List Int) : Prop := p.length ≤ 6 + i ∧ ∀ n ∈ p, NumOk n
section
variable {P : Program} {w : World} {K : PySem.W.Frag} {mg : Str → Option Value} {base : Heap}
set_option maxHeartbeats 1000000 in
theorem ok_lpaths {f t g : Addr} {fd td gd : FuncData} (F : Fun K "_law_paths" "_law_paths" sLpaths f fd) (TK : Fk P w K mg base 1 "_law_take" t td ["_law_bag_here", "_law_many"] spTake) (LP : Fk P w K mg base 2 "_law_path" g gd ["_law_bag_here"] (spLpath K)) (T : Bi mg) : FnOk P w K mg base CX0 3 f fd ["_law_bag_here", "_law_many"] (spLpaths K) := by
  refine F.ok scLpaths (fun vs H Q E h => ?_) (fun cdv A outer s H vs Q E hr h => ?_)
  · obtain ⟨b, m, n, rfl, _⟩ := h
    rfl
  obtain ⟨b, m, n, rfl, m12, B0, k⟩ := h
  refine ⟨_, (pss_cons (ps_set (i := 2) scLpaths.nd rfl (Or.inl rfl) (pe_lst pa_nil))
    (pss_cons (ps_for PassesOwn.never rfl (pi_range1 (by rfl) T.range (pa_cons (pv 1) pa_nil)) (pg_name (i := 3) scLpaths.nd rfl (.inl rfl))
      (pss_cons (ps_set (i := 4) scLpaths.nd rfl (Or.inl rfl) (pe_call LP.G (hr.mono (by omega)) (by rfl) LP.m LP.k LP.b .nil pass0 (pa_cons (pv 0) pa_nil)))
    (C8.pss_cut (ps_if (PW.pt (pw_and (pt_cmpR (op_neD hr.units) (pv 2) (pe_lst pa_nil) (nomark _)) (pw_and1 (pt_cmpR op_eq (pe_call TK.G (hr.mono (by omega)) (by rfl) TK.m TK.k TK.b .nil pass0 (pa_cons (pv 0) (pa_cons pe_int pa_nil))) pe_int (nomark _)))))
      (pss_one (ps_set (i := 4) scLpaths.nd rfl (Or.inl rfl) (pe_op op_catA (pe_ix ix_list (pv 2) (pe_call TK.G (hr.mono (by omega)) (by rfl) TK.m TK.k TK.b .nil pass0 (pa_cons (pv 0) (pa_cons (pe_callB call_len_seq (by rfl) T.len (by decide +kernel) (pa_cons (pv 2) pa_nil)) pa_nil))) (fun _ _ => rfl)) (pe_tup (pa_cons (pe_call TK.G (hr.mono (by omega)) (by rfl) TK.m TK.k TK.b .nil pass0 (pa_cons (pv 0) (pa_cons pe_int pa_nil))) pa_nil)))))
      pss_nil)
    (pss_one (ps_if (pt_cmpR (op_notInD (show (A.deeper _).units + 65 < PySem.cLine from by have := hr.un; omega)) (pv 4) (pv 2) rfl)
      (pss_one (ps_expr (pe_bm PySem.F.plainAttrs_list PySem.F.slot_list_append PySem.F.type_list_append mt_append (pv 2) (pa_cons (pv 4) pa_nil))))
      pss_nil)))))
    (pss_one (ps_ret (pv 2))))), ?_⟩
  have hs : sizeLine = 16777216 := by decide
  refine ⟨Nat.zero_le _, fun l hl => ?_⟩
  have s1 := same_new hl (.lst [])
  obtain ⟨ys, hys⟩ := B0.lst
  have lb : l ≠ b := fun z => by rw [z, hys] at hl; cases hl
  have B1 := B0.same s1
  refine ⟨_, rfl, (m : Int), rfl, by omega, by omega, ?_⟩
  refine for_range (lo := 0) (n := (m : Int).toNat) (fun i σ H' => ∃ (y3 y4 : Option V) (xs : List V) (ps : List (List Int)), σ = [some (.ref b), some (.int (m : Int)), some (.ref l), y3, y4] ∧ PathsAt K H' b l (n + 500 - 30 * i) xs ps ∧ ps.length ≤ i ∧ ps.Nodup ∧ (∀ p ∈ ps, PKi i p) ∧ ∀ a o, a ≠ b → a ≠ l → H a = some o → H' a = some o)
    ⟨none, none, [], [], rfl, ⟨B1, upd_same, .nil⟩, Nat.le_refl _, List.nodup_nil, fun p hp => (by cases hp), fun a o _ nl e => s1 a o e⟩ ?_ ?_
  · rintro i σ H1 hi ⟨y3, y4, xs, ps, rfl, A1, li, nd, ok, U1⟩
    have i12 : i < 12 := by omega
    refine ⟨_, rfl, b, n + 480 - 30 * i, rfl, A1.bag.less (by omega), fun v p H2 dv okp lp B2 U2 => ?_⟩
    have A2 := A1.but U2 B2 lb
    have u2 : ∀ a o, a ≠ b → a ≠ l → H a = some o → H2 a = some o := fun a o na nl e => U2 a o na (U1 a o na nl e)
    have len : xs.length = ps.length := by rw [dpLen A1.dp, List.length_map]
    refine ⟨fun σ' H' => ∃ (v : V) (p : List Int), σ' = [some (.ref b), some (.int (m : Int)), some (.ref l), some (.int (0 + (i : Int))), some v] ∧ Dp K H' v (pathD p) ∧ PKi (i + 1) p ∧ PathsAt K H' b l (n + 470 - 30 * i) xs ps ∧ ∀ a o, a ≠ b → a ≠ l → H a = some o → H' a = some o, ?_, ?_⟩
    · refine ⟨_, rfl, Nat.zero_le _, fun e he => ?_⟩
      have sE := same_new he (.lst [])
      have ke := upd_same (H := H2) (a := e) (o := .lst [])
      generalize upd H2 e (.lst []) = H3 at sE ke
      have A3 := A2.same sE
      have dv3 := dpS sE (only_path _) dv
      have u3 : ∀ a o, a ≠ b → a ≠ l → H a = some o → H3 a = some o := fun a o na nl e => sE _ _ (u2 a o na nl e)
      have pk : PKi (i + 1) p := ⟨by omega, okp.2⟩
      refine ⟨_, _, .lst (SqL.of A3.lst) A3.dp, .lst (SqL.of ke) (ds := ([] : List (List Int)).map pathD) .nil, shaped_paths _, shaped_paths _, _, rfl, ?_⟩
      rw [eqv_paths]
      by_cases c : ps = []
      · rw [decide_eq_true c]
        refine iteF (iteF ?_)
        exact ⟨v, p, rfl, dv3, pk, ⟨A3.bag.less (by omega), A3.lst, A3.dp⟩, u3⟩
      · rw [decide_eq_false c]
        have pos : 0 < ps.length := List.length_pos_iff.mpr c
        refine iteT ⟨_, rfl, b, 3, n + 479 - 30 * i, rfl, by decide, by decide, A3.bag.less (by omega), fun d' H4 _ _ B4 U4 => ?_⟩
        have A4 := A3.but U4 B4 lb
        have dv4 := Dp.keep (kpt_but A3.bag U4) (only_path _) dv3
        have u4 : ∀ a o, a ≠ b → a ≠ l → H a = some o → H4 a = some o := fun a o na nl e => U4 _ _ na (u3 a o na nl e)
        refine ⟨rfl, _, rfl, ?_⟩
        refine ite2 (fun _ => ?_) (fun _ => ?_)
        · refine ⟨_, rfl, _, rfl, _, rfl, l, xs, rfl, .inl (SqL.of A4.lst), ?_⟩
          refine ⟨b, (xs.length : Int), n + 478 - 30 * i, rfl, by omega, by omega, A4.bag.less (by omega), fun k' H5 k0 k1 B5 U5 => ?_⟩
          have A5 := A4.but U5 B5 lb
          have hk : k'.toNat < xs.length := by omega
          have hx : xs[k'.toNat]? = some xs[k'.toNat] := List.getElem?_eq_getElem hk
          have ai : atI xs k' = some xs[k'.toNat] := by
            have := atI_nat hx
            rw [Int.toNat_of_nonneg k0] at this
            exact this
          obtain ⟨o, ho, dO⟩ := dpPathAt A5.dp hx
          obtain ⟨oa, eo, hoa⟩ := dpPath dO
          have oko := ok o (List.mem_of_getElem? ho)
          refine ⟨l, xs, k', _, rfl, rfl, SqL.of A5.lst, ai, ?_⟩
          refine ⟨_, rfl, b, 4, n + 477 - 30 * i, rfl, by decide, by decide, A5.bag.less (by omega), fun d2 H6 g0 g4 B6 U6 => ?_⟩
          have A6 := A5.but U6 B6 lb
          have hoa6 : SqT K H6 oa (o.map V.int) := kpt_but A5.bag U6 _ _ hoa
          have u6 : ∀ a o, a ≠ b → a ≠ l → H a = some o → H6 a = some o := fun a o na nl e => U6 _ _ na (U5 _ _ na (u4 a o na nl e))
          have okn : PKi (i + 1) (o ++ [d2]) := by
            refine ⟨by rw [List.length_append, List.length_singleton]; have := oko.1; omega, fun x hx => ?_⟩
            rcases List.mem_append.mp hx with hx | hx
            · exact oko.2 x hx
            · rw [List.mem_singleton.mp hx]
              exact numOk_of g0 (Int.lt_trans g4 (by decide))
          refine ⟨by show 1 ≤ sizeLine; omega, fun t1 ht1 => ?_⟩
          have s7 := same_new ht1 (.tup [V.int d2])
          have kt1 : (upd H6 t1 (.tup [V.int d2])) t1 = some (.tup ([d2].map V.int)) := upd_same
          generalize upd H6 t1 (.tup [V.int d2]) = H7 at s7 kt1 ⊢
          have A7 := A6.same s7
          have u7 : ∀ a o, a ≠ b → a ≠ l → H a = some o → H7 a = some o := fun a o na nl e => s7 _ _ (u6 a o na nl e)
          have A7' : PathsAt K H7 b l (n + 470 - 30 * i) xs ps := ⟨A7.bag.less (by omega), A7.lst, A7.dp⟩
          refine ⟨oa, t1, o.map V.int, [V.int d2], eo, rfl, kp s7 hoa6, SqT.of kt1, by rw [List.length_map]; have := oko.1; simp; omega, fun e0 => ?_, fun _ e0 => (by cases e0), fun _ _ t2 ht2 => ?_⟩
          · have : o = [] := List.map_eq_nil_iff.mp e0
            subst this
            exact ⟨_, [d2], rfl, pathDp (SqT.of kt1), okn, A7', u7⟩
          · have s8 := same_new ht2 (.tup (o.map V.int ++ [V.int d2]))
            have kt2 : (upd H7 t2 (.tup (o.map V.int ++ [V.int d2]))) t2 = some (.tup ((o ++ [d2]).map V.int)) := by rw [upd_same, List.map_append]; rfl
            exact ⟨_, o ++ [d2], rfl, pathDp (SqT.of kt2), okn, A7'.same s8, fun a o na nl e => s8 _ _ (u7 a o na nl e)⟩
        · exact ⟨v, p, rfl, dv4, pk, ⟨A4.bag.less (by omega), A4.lst, A4.dp⟩, u4⟩
    · rintro σ' H3 ⟨v, p, rfl, dv3, pk, A3, u3⟩
      have nb : ∀ q ∈ ps, PKi (i + 1) q := fun q hq => ⟨by have := (ok q hq).1; omega, (ok q hq).2⟩
      refine ⟨_, rfl, _, rfl, pathD p, ps.map pathD, dv3, .lst (SqL.of A3.lst) A3.dp, shaped_path _, shaped_paths _, _, rfl, ?_⟩
      rw [any_path]
      by_cases c : p ∈ ps
      · rw [decide_eq_true c]
        refine iteF ?_
        exact ⟨_, _, xs, ps, rfl, ⟨A3.bag.less (by omega), A3.lst, A3.dp⟩, by omega, nd, nb, u3⟩
      · rw [decide_eq_false c]
        refine iteT ?_
        have kL : KpT K H3 (upd H3 l (.lst (xs ++ [v]))) := KpT.lst A3.lst
        refine ⟨_, rfl, .inl ⟨rfl, _, SqL.of A3.lst⟩, _, rfl, l, xs, v, rfl, rfl, A3.lst, by omega, ?_⟩
        refine ⟨_, _, xs ++ [v], ps ++ [p], rfl, ⟨?_, upd_same, ?_⟩, by rw [List.length_append, List.length_singleton]; omega, ?_, fun q hq => ?_, fun a o na nl e => by rw [upd_ne nl]; exact u3 a o na nl e⟩
        · obtain ⟨x', y', z', e, r⟩ := A3.bag
          refine Bag.less (n := n + 470 - 30 * i) ⟨x', y', z', ?_, r⟩ (by omega)
          rw [upd_ne (Ne.symm lb)]
          exact e
        · rw [List.map_append]
          exact DpAll.app (DpAll.keep kL (only_paths _) A3.dp) (.cons (Dp.keep kL (only_path _) dv3) .nil)
        · rw [List.nodup_append]
          refine ⟨nd, List.nodup_cons.mpr ⟨by simp, List.nodup_nil⟩, fun a ha q hq => ?_⟩
          rw [List.mem_singleton.mp hq]
          intro z
          exact c (z ▸ ha)
        · rcases List.mem_append.mp hq with hq | hq
          · exact nb q hq
          · rw [List.mem_singleton.mp hq]; exact pk
  · rintro σ H1 ⟨y3, y4, xs, ps, rfl, A1, li, nd, ok, U1⟩
    refine ⟨_, rfl, ?_⟩
    refine k l xs ps H1 A1.lst A1.dp (by omega) nd (fun p hp => ⟨by have := (ok p hp).1; omega, (ok p hp).2⟩) (A1.bag.less (by omega)) (fun a o na e => U1 a o na (ne_of_none e hl) e) hl
end
end SH

set_option Elab.async false
set_option linter.all false
set_option maxRecDepth 100000
namespace SH
open PySem L2
abbrev sLaw : Stmt := topS 10
theorem scLaw : FnScope ["_law_script", "_law_k", "_law_bag_here", "_law_paths_here", "_law_one", "_law_other", "_law_found", "_law_due", "_law_path_here", "_law_at", "_law_handed", "_law_again", "_law_kept"] ["_law_script"] (defScope sLaw) := ⟨rfl, rfl, rfl, by decide +kernel, rfl, by decide +kernel, by decide +kernel⟩
def spLaw (K : PySem.W.Frag) : Sp := fun vs H Q _ => ∃ (a : Addr) (ns : List Int), vs = [.ref a] ∧ SqL K H a (ns.map V.int) ∧ ns.length ≤ 63 ∧ ∀ H', Q (.bl true) H'
theorem nice_num {n : Nat} {i : Int} (h : NumOk i) : Nice n 1921 (.int i) := ⟨rfl, Nat.zero_le _, rfl, decide_eq_true h, rfl, PyProof.Rows.int_text_len_1921 h⟩
theorem nice_path {p : List Int} (h : PK p) : Nice 1 38500 (pathD p) := by
  have z : ∀ d ∈ p.map PyData.int, Nice 0 1921 d := fun d hd => by
    obtain ⟨i, hi, rfl⟩ := List.mem_map.mp hd
    exact nice_num (h.2 i hi)
  have y := nice_tup (Nices.all z)
  rw [List.length_map] at y
  have := h.1
  exact y.up (Nat.le_refl _) (by omega)
theorem nice_paths {ps : List (List Int)} (h : ∀ p ∈ ps, PK p) (n : ps.length ≤ 13) : NiceL (ps.map pathD) := by
  have z : ∀ d ∈ ps.map pathD, Nice 1 38500 d := fun d hd => by
    obtain ⟨p, hp, rfl⟩ := List.mem_map.mp hd
    exact nice_path (h p hp)
  have hs : sizeLine = 16777216 := by decide
  exact niceL (Nices.all z) (by decide) (by rw [List.length_map]; omega)
/-- the same paths stand there, in the order of the law -/
theorem due_is {ps D : List (List Int)} (h : D.Perm ps) (s : D.Pairwise fun a b => bef a b = true) : ordP ps = D := by
  refine ordP_only h (s.imp fun {a b} e => ?_)
  unfold leP
  rw [bef_asymm e]
  rfl
section
variable {P : Program} {w : World} {K : PySem.W.Frag} {mg : Str → Option Value} {base : Heap}
set_option maxHeartbeats 4000000 in
theorem ok_law {f fB fT fP fR fA fO : Addr} {fd dB dT dP dR dA dO : FuncData} (F : Fun K "law" "law" sLaw f fd) (BG : Fk P w K mg base 1 "_law_bag" fB dB ["_law_script", "_law_k"] (spBag K)) (TK : Fk P w K mg base 1 "_law_take" fT dT ["_law_bag_here", "_law_many"] spTake)
    (LPS : Fk P w K mg base 3 "_law_paths" fP dP ["_law_bag_here", "_law_many"] (spLpaths K)) (BF : Fk P w K mg base 1 "_law_before" fR dR ["_law_one", "_law_other"] (spBefore K)) (AH : Fk P w K mg base 1 "is_ahead" fA dA ["one", "other"] (spAhead K)) (IO : Fk P w K mg base 4 "in_order" fO dO ["paths"] (spOrd K))
    (T : Bi mg) (q_bool : mg "bool" = none) (q_list : mg "list" = none) (q_repr : mg "repr" = none) : FnG P w K mg base 5 f fd ["_law_script"] (spLaw K) := by
  refine okG F scLaw (fun vs H Q E h => ?_) (fun cdv A outer s H vs Q E gd hr h => ?_)
  · obtain ⟨a, ns, rfl, _⟩ := h
    rfl
  obtain ⟨a, ns, rfl, hS, h63, q⟩ := h
  have mtl := q_list
  refine ⟨_, (pss_cons (ps_for PassesOwn.never rfl (pi_range1 (by rfl) T.range (pa_cons (pe_callB (call_max2 rfl) (by rfl) T.max (by decide +kernel) (pa_cons pe_int (pa_cons (pe_callB (call_min2 rfl) (by rfl) T.min (by decide +kernel) (pa_cons pe_int (pa_cons (pe_callB call_len_seq (by rfl) T.len (by decide +kernel) (pa_cons (pv 0) pa_nil)) pa_nil))) pa_nil))) pa_nil)) (pg_name (i := 1) scLaw.nd rfl (.inl rfl))
      (pss_cons (ps_set (i := 2) scLaw.nd rfl (Or.inl rfl) (pe_call BG.G (hr.mono (by omega)) (by rfl) BG.m BG.k BG.b .nil pass0 (pa_cons (pv 0) (pa_cons (pv 1) pa_nil))))
    (pss_cons (ps_set (i := 3) scLaw.nd rfl (Or.inl rfl) (pe_call LPS.G (hr.mono (by omega)) (by rfl) LPS.m LPS.k LPS.b .nil pass0 (pa_cons (pv 2) (pa_cons (pe_op op_add pe_int (pe_call TK.G (hr.mono (by omega)) (by rfl) TK.m TK.k TK.b .nil pass0 (pa_cons (pv 2) (pa_cons pe_int pa_nil)))) pa_nil))))
    (pss_cons (ps_for PassesOwn.never rfl (pi_list (pv 3)) (pg_name (i := 4) scLaw.nd rfl (.inl rfl))
      (pss_one (ps_for PassesOwn.never rfl (pi_list (pv 3)) (pg_name (i := 5) scLaw.nd rfl (.inl rfl))
      (pss_cons (ps_set (i := 6) scLaw.nd rfl (Or.inl rfl) (pe_call AH.G (hr.mono (by omega)) (by rfl) AH.m AH.k AH.b .nil pass0 (pa_cons (pv 4) (pa_cons (pv 5) pa_nil))))
    (pss_one (ps_if (PW.pt (pw_or (pt_not (pt_val (pe_callB call_isi (by rfl) T.isinstance (by decide +kernel) (pa_cons (pv 6) (pa_cons (pe_bltn (v := .ty "bool") (by rfl) q_bool (by decide +kernel) rfl) pa_nil))))) (pw_or1 (pt_cmpR op_ne (pv 6) (pe_and (pe_cmpR (op_neD hr.units) (pv 4) (pv 5) (nomark _)) (pe_one (pe_call BF.G (hr.mono (by omega)) (by rfl) BF.m BF.k BF.b .nil pass0 (pa_cons (pv 4) (pa_cons (pv 5) pa_nil))))) (nomark _)))))
      (pss_one (ps_ret pe_bl))
      pss_nil))))))
    (pss_cons (ps_set (i := 7) scLaw.nd rfl (Or.inl rfl) (pe_lst pa_nil))
    (pss_cons (ps_for PassesOwn.never rfl (pi_list (pv 3)) (pg_name (i := 8) scLaw.nd rfl (.inr rfl))
      (pss_cons (ps_set (i := 9) scLaw.nd rfl (Or.inl rfl) (pe_callB call_len_seq (by rfl) T.len (by decide +kernel) (pa_cons (pe_lc (own := [("_law_one", 4)]) (g := gName 4) (by rfl) scLaw.nd (pi_list (pv 7)) (blkOk_by (own := [("_law_one", 4)]) (N := ["_law_script", "_law_k", "_law_bag_here", "_law_paths_here", "_law_one", "_law_other", "_law_found", "_law_due", "_law_path_here", "_law_at", "_law_handed", "_law_again", "_law_kept"]) (sc := defScope sLaw) (by decide +kernel)) (fun _ _ _ _ _ => pg_name (i := 4) scLaw.nd rfl (Or.inl rfl)) (fun _ _ _ _ _ => (pts_one (pt_val (pe_call BF.G (hr.mono (by omega)) (by rfl) BF.m BF.k BF.b .nil pass0 (pa_cons (pv 4) (pa_cons (pv 8) pa_nil)))))) (fun _ _ _ _ _ => (pv 4))) pa_nil)))
    (pss_one (ps_expr (pe_bm PySem.F.plainAttrs_list PySem.F.slot_list_insert PySem.F.type_list_insert mt_insert (pv 7) (pa_cons (pv 9) (pa_cons (pv 8) pa_nil)))))))
    (pss_cons (ps_set (i := 10) scLaw.nd rfl (Or.inl rfl) (pe_callTy call_list_of (by rfl) mtl (by decide +kernel) (pa_cons (pv 3) pa_nil)))
    (pss_one (ps_for PassesOwn.never rfl (pi_range1 (by rfl) T.range (pa_cons pe_int pa_nil)) (pg_name (i := 11) scLaw.nd rfl (.inl rfl))
      (pss_cons (ps_set (i := 6) scLaw.nd rfl (Or.inl rfl) (pe_call IO.G (hr.mono (by omega)) (by rfl) IO.m IO.k IO.b .nil pass0 (pa_cons (pv 10) pa_nil)))
    (pss_cons (ps_if (PW.pt (pw_or (pt_not (pt_val (pe_callB call_isi (by rfl) T.isinstance (by decide +kernel) (pa_cons (pv 6) (pa_cons (pe_bltn (v := .ty "list") (by rfl) q_list (by decide +kernel) rfl) pa_nil))))) (pw_or (pt_cmpR (op_neD hr.units) (pv 6) (pv 7) (nomark _)) (pw_or1 (pt_cmpR (op_neD hr.units) (pv 10) (pv 3) (nomark _))))))
      (pss_one (ps_ret pe_bl))
      pss_nil)
    (pss_cons (ps_expr (pe_bm PySem.F.plainAttrs_list PySem.F.slot_list_append PySem.F.type_list_append mt_append (pv 6) (pa_cons (pe_tup pa_nil) pa_nil)))
    (pss_cons (ps_set (i := 12) scLaw.nd rfl (Or.inl rfl) (pe_callB (call_reprD gd hr.units) (by rfl) q_repr (by decide +kernel) (pa_cons (pv 6) pa_nil)))
    (pss_one (ps_if (PW.pt (pw_or (pt_cmpR (op_neD hr.units) (pe_call IO.G (hr.mono (by omega)) (by rfl) IO.m IO.k IO.b .nil pass0 (pa_cons (pv 10) pa_nil)) (pv 7) (nomark _)) (pw_or1 (pt_cmpR op_ne (pe_callB (call_reprD gd hr.units) (by rfl) q_repr (by decide +kernel) (pa_cons (pv 6) pa_nil)) (pv 12) (nomark _)))))
      (pss_one (ps_ret pe_bl))
      pss_nil)))))))))))))))
    (pss_one (ps_ret (pe_cmpR (op_eqD hr.units) (pe_call IO.G (hr.mono (by omega)) (by rfl) IO.m IO.k IO.b .nil pass0 (pa_cons (pe_lst pa_nil) pa_nil)) (pe_lst pa_nil) (nomark _))))), ?_⟩
  have hs : sizeLine = 16777216 := by decide
  have hnum : ∃ N : Int, N = (if (if ((ns.map V.int).length : Int) < 4 then ((ns.map V.int).length : Int) else 4) > 1 then (if ((ns.map V.int).length : Int) < 4 then ((ns.map V.int).length : Int) else 4) else 1) ∧ 0 ≤ N ∧ N ≤ 4 := by
    refine ⟨_, rfl, ?_, ?_⟩ <;> (split <;> (try split) <;> omega)
  obtain ⟨N, eN, N0, N8⟩ := hnum
  refine ⟨_, rfl, a, _, rfl, .inl hS, _, _, rfl, _, _, rfl, N, (by rw [eN]), by omega, by omega, ?_⟩
  refine for_range (lo := 0) (n := N.toNat) (fun i σ H' => ∃ (y1 y2 y3 y4 y5 y6 y7 y8 y9 y10 y11 y12 : Option V), σ = [some (.ref a), y1, y2, y3, y4, y5, y6, y7, y8, y9, y10, y11, y12] ∧ Same H H') ⟨none, none, none, none, none, none, none, none, none, none, none, none, rfl, Same.refl _⟩ ?_ ?_
  · rintro i σ H1 hi ⟨y1, y2, y3, y4, y5, y6, y7, y8, y9, y10, y11, y12, rfl, sH⟩
    have hi4 : i < 4 := by omega
    refine ⟨_, rfl, _, rfl, a, ns, 0 + (i : Int), rfl, sH.seq hS, by omega, by omega, fun b H2 s2 nb B2 => ?_⟩
    have Hb : H b = none := by
      cases c : H b with
      | none => rfl
      | some o => rw [sH _ _ c] at nb; cases nb
    refine ⟨_, rfl, _, rfl, b, 12, 1000, rfl, by decide, by decide, B2.less (by decide), fun d H3 d0 d12 B3 U3 => ?_⟩
    refine ⟨_, _, rfl, rfl, ?_⟩
    refine ⟨b, (1 + d).toNat, 100, by rw [Int.toNat_of_nonneg (by omega)]; rfl, by omega, B3.less (by decide), fun l xs ps H4 hl dp l12 nd ok B4 U4 nl => ?_⟩
    have s4 : Same H H4 := fun y o z => U4 _ _ (ne_of_none z Hb) (U3 _ _ (ne_of_none z Hb) (s2 _ _ (sH _ _ z)))
    have len : xs.length = ps.length := by rw [dpLen dp, List.length_map]
    have pk100 : ∀ p ∈ ps, p.length ≤ 100 := fun p hp => Nat.le_trans (ok p hp).1 (by decide)
    -- each with each
    refine ⟨_, rfl, l, rfl, ⟨_, SqL.of hl⟩, ?_⟩
    refine for_list (K := K) (a := l) (xs := xs) (fun j σ H' => ∃ (z4 z5 z6 : Option V), σ = [some (.ref a), some (.int (0 + (i : Int))), some (.ref b), some (.ref l), z4, z5, z6, y7, y8, y9, y10, y11, y12] ∧ Same H4 H') ⟨_, _, _, rfl, Same.refl _⟩ (fun j σ' H' _ ⟨_, _, _, _, s'⟩ => SqL.of (s' _ _ hl)) ?_ ?_
    · rintro j v σ' H5 hv ⟨z4, z5, z6, rfl, s5⟩
      obtain ⟨p, hp, dv⟩ := dpPathAt dp hv
      refine ⟨_, rfl, l, rfl, ⟨_, SqL.of (s5 _ _ hl)⟩, ?_⟩
      refine for_list (K := K) (a := l) (xs := xs) (fun j σ H' => ∃ (z5 z6 : Option V), σ = [some (.ref a), some (.int (0 + (i : Int))), some (.ref b), some (.ref l), some v, z5, z6, y7, y8, y9, y10, y11, y12] ∧ Same H4 H') ⟨_, _, rfl, s5⟩ (fun j σ' H' _ ⟨_, _, _, s'⟩ => SqL.of (s' _ _ hl)) ?_ ?_
      · rintro m u σ'' H6 hu ⟨x5, x6, rfl, s6⟩
        obtain ⟨r, hr', du⟩ := dpPathAt dp hu
        refine ⟨_, rfl, _, rfl, v, u, p, r, rfl, dpS s6 (only_path _) dv, dpS s6 (only_path _) du, fun H7 s7 => ?_⟩
        have s67 := s6.trans s7
        have dv7 := dpS s67 (only_path _) dv
        have du7 := dpS s67 (only_path _) du
        refine ⟨_, rfl, _, _, _, _, true, rfl, .ty "bool", .base (.bl _), kit_ty (by decide +kernel), _, rfl, ?_⟩
        refine ⟨_, rfl, _, rfl, _, rfl, _, _, dv7, du7, shaped_path _, shaped_path _, ?_⟩
        rw [eqv_path]
        by_cases c : p = r
        · rw [decide_eq_true c]
          refine ⟨_, rfl, iteF ⟨rfl, _, rfl, iteNS (by rw [c, bef_irrefl]) ?_⟩⟩
          exact ⟨_, _, rfl, s67⟩
        · rw [decide_eq_false c]
          refine ⟨_, rfl, iteT ⟨_, rfl, _, rfl, v, u, p, r, rfl, dv7, du7, fun H8 s8 => ⟨rfl, _, rfl, iteNS rfl ?_⟩⟩⟩
          exact ⟨_, _, rfl, s67.trans s8⟩
      · rintro σ'' H6 ⟨x5, x6, rfl, s6⟩
        exact ⟨_, _, _, rfl, s6⟩
    rintro σ' H5 ⟨z4, z5, z6, rfl, s5⟩
    -- the law's own order
    refine ⟨Nat.zero_le _, fun du hdu => ?_⟩
    have h4du : H4 du = none := by
      cases c : H4 du with
      | none => rfl
      | some o => rw [s5 _ _ c] at hdu; cases hdu
    have s6 := s5.trans (same_new hdu (.lst []))
    have k6 := upd_same (H := H5) (a := du) (o := .lst [])
    generalize upd H5 du (.lst []) = H6 at s6 k6
    refine ⟨_, rfl, l, rfl, ⟨_, SqL.of (s6 _ _ hl)⟩, ?_⟩
    refine for_list (K := K) (a := l) (xs := xs) (fun j σ H' => ∃ (z8 z9 : Option V) (zs : List V) (D : List (List Int)), σ = [some (.ref a), some (.int (0 + (i : Int))), some (.ref b), some (.ref l), z4, z5, z6, some (.ref du), z8, z9, y10, y11, y12] ∧ H' du = some (.lst zs) ∧ DpAll K H' zs (D.map pathD) ∧ D.Pairwise (fun a b => bef a b = true) ∧ D.Perm (ps.take j) ∧ Same H4 H')
      ⟨_, _, [], [], rfl, k6, .nil, .nil, .refl _, s6⟩ (fun j σ' H' _ ⟨_, _, _, _, _, _, _, _, _, s'⟩ => SqL.of (s' _ _ hl)) ?_ ?_
    · rintro j v σ' H7 hv ⟨z8, z9, zs, D, rfl, kd7, dd7, sd, pd, s7⟩
      obtain ⟨p, hp, dv⟩ := dpPathAt dp hv
      have dv7 := dpS s7 (only_path _) dv
      have lz : zs.length = D.length := by rw [dpLen dd7, List.length_map]
      have lD : D.length ≤ 12 := by rw [pd.length_eq, List.length_take]; omega
      have jl : j < ps.length := (List.getElem?_eq_some_iff.mp hp).1
      have np : p ∉ D := fun hm => by
        have h1 := pd.mem_iff.mp hm
        obtain ⟨m, hm1, hm2⟩ := List.getElem_of_mem h1
        rw [List.length_take] at hm1
        rw [List.getElem_take] at hm2
        have h3 : ps[j] = p := (List.getElem?_eq_some_iff.mp hp).2
        have := (List.getElem_inj nd).mp (hm2.trans h3.symm)
        omega
      refine ⟨_, rfl, du, rfl, ⟨_, SqL.of kd7⟩, ?_⟩
      intro D0 hD0
      refine lc_list (K := K) (a := du) (xs := zs) (fun m H' => ∃ os, H' D0 = some (.lst os) ∧ os.length = ((D.take m).filter fun o => bef o p).length ∧ Same H7 H') ⟨[], upd_same, rfl, same_new hD0 _⟩ (fun m H' _ ⟨_, _, _, h⟩ => SqL.of (h _ _ kd7)) ?_ ?_
      · rintro m x HB hx ⟨os, hDB, lo, sB⟩
        obtain ⟨o, ho, dO⟩ := dpPathAt dd7 hx
        have lo12 : os.length ≤ 12 := by
          rw [lo]
          exact Nat.le_trans (List.length_filter_le _ _) (by rw [List.length_take]; omega)
        refine ⟨rfl, ?_⟩
        refine ⟨_, rfl, _, rfl, x, v, o, p, rfl, dpS sB (only_path _) dO, dpS sB (only_path _) dv7, fun HX sX => ?_⟩
        refine ⟨_, rfl, ?_⟩
        cases cb : bef o p with
        | false =>
          refine iteF ⟨os, sX _ _ hDB, ?_, sB.trans sX⟩
          rw [List.take_add_one, ho, List.filter_append, List.length_append, ← lo]
          simp [cb]
        | true =>
          refine iteT ⟨_, rfl, os, sX _ _ hDB, by omega, os ++ [x], upd_same, ?_, fun y o' z => ?_⟩
          · rw [List.take_add_one, ho, List.filter_append, List.length_append, List.length_append, ← lo]
            simp [cb]
          · rw [upd_ne (ne_of_none z hD0)]
            exact sX _ _ (sB _ _ z)
      · rintro HB ⟨os, hDB, lo, sB⟩
        rw [lz, List.take_length] at lo
        have lo' : os.length = cntB D p := lo
        obtain ⟨_, _, lc⟩ := cntB_cut D p sd np
        refine ⟨D0, os, rfl, .inl (SqL.of hDB), ?_⟩
        have kdB := sB _ _ kd7
        have kU : KpT K HB (upd HB du (.lst (insAt zs os.length v))) := KpT.lst kdB
        refine ⟨_, rfl, .inl ⟨rfl, _, SqL.of kdB⟩, _, rfl, _, rfl, du, zs, (os.length : Nat), v, rfl, rfl, kdB, by omega, by omega, by omega, ?_⟩
        refine ⟨_, _, insAt zs os.length v, insAt D (cntB D p) p, rfl, upd_same, ?_, ins_sorted sd np, ?_, fun y o z => ?_⟩
        · rw [insAt_map, ← lo']
          exact insAt_dp (DpAll.keep kU (only_paths _) (dpsS sB (only_paths _) dd7)) (Dp.keep kU (only_path _) (dpS sB (only_path _) dv7)) _
        · rw [List.take_add_one, hp]
          exact (insAt_perm _ _ _).trans (pd.append_right _)
        · rw [upd_ne (ne_of_none z h4du)]
          exact sB _ _ (s7 _ _ z)
    rintro σ' H7 ⟨z8, z9, zs, D, rfl, kd7, dd7, sd, pd, s7⟩
    rw [len, List.take_length] at pd
    have eD := due_is pd sd
    subst eD
    -- handed
    refine ⟨_, rfl, l, xs, rfl, .inl (SqL.of (s7 _ _ hl)), fun h hh => ?_⟩
    have s8 := same_new hh (.lst xs)
    have k8 := upd_same (H := H7) (a := h) (o := .lst xs)
    generalize upd H7 h (.lst xs) = H8 at s8 k8
    have s48 := s7.trans s8
    have oko : ∀ p ∈ ordP ps, PK p := fun p hp => ok p (List.mem_mergeSort.mp hp)
    have lo : (ordP ps).length = ps.length := List.length_mergeSort _
    have ni := nice_paths oko (by omega)
    have n2 := nice_paths ok (by omega)
    have okm : ∀ p ∈ ordP ps ++ [[]], PK p := fun p hp => by
      rcases List.mem_append.mp hp with hp | hp
      · exact oko p hp
      · rw [List.mem_singleton.mp hp]
        exact ⟨Nat.zero_le _, fun n hn => (by cases hn)⟩
    have nm := nice_paths okm (by rw [List.length_append, List.length_singleton]; omega)
    have d60 : (PyData.list ((ordP ps ++ [[]]).map pathD)).depth ≤ 60 := Nat.le_trans nm.dep (by decide)
    refine ⟨_, rfl, by decide, by decide, ?_⟩
    refine for_range (lo := 0) (n := 2) (fun t σ H' => ∃ (w6 w11 w12 : Option V), σ = [some (.ref a), some (.int (0 + (i : Int))), some (.ref b), some (.ref l), z4, z5, w6, some (.ref du), z8, z9, some (.ref h), w11, w12] ∧ Same H8 H') ⟨_, _, _, rfl, Same.refl _⟩ ?_ ?_
    · rintro t σ' H9 ht ⟨w6, w11, w12, rfl, s9⟩
      have here : ∀ {HX : Hp}, Same H8 HX → HX h = some (.lst xs) ∧ HX l = some (.lst xs) ∧ HX du = some (.lst zs) ∧ DpAll K HX xs (ps.map pathD) ∧ DpAll K HX zs ((ordP ps).map pathD) := fun {HX} sx =>
        ⟨sx _ _ k8, sx _ _ (s48 _ _ hl), sx _ _ (s8 _ _ kd7), dpsS (s48.trans sx) (only_paths _) dp, dpsS (s8.trans sx) (only_paths _) dd7⟩
      obtain ⟨a1, _, _, a4, _⟩ := here s9
      refine ⟨_, rfl, h, xs, ps, rfl, SqL.of a1, a4, pk100, fun r HA ys sA nr dys => ?_⟩
      have sB := same_new nr (.lst ys)
      have kr := upd_same (H := HA) (a := r) (o := .lst ys)
      have dysB := dpsS sB (only_paths _) dys
      have ly : ys.length = ps.length := by rw [dpLen dys, List.length_map, lo]
      generalize upd HA r (.lst ys) = HB at sB kr dysB
      have s8B := s9.trans (sA.trans sB)
      have nr8 : H8 r = none := by
        cases c : H8 r with
        | none => rfl
        | some o => rw [sA _ _ (s9 _ _ c)] at nr; cases nr
      obtain ⟨b1, b2, b3, b4, b5⟩ := here s8B
      refine ⟨_, rfl, _, _, _, _, true, rfl, .ty "list", .base (.lst kr), kit_ty (by decide +kernel), _, rfl, ?_⟩
      refine ⟨_, rfl, _, rfl, _, _, .lst (SqL.of kr) dysB, .lst (SqL.of b3) b5, ni.shaped, ni.shaped, ?_⟩
      rw [ni.refl]
      refine ⟨false, rfl, ?_⟩
      refine ⟨_, rfl, _, rfl, _, _, .lst (SqL.of b1) b4, .lst (SqL.of b2) b4, n2.shaped, n2.shaped, _, rfl, ?_⟩
      rw [n2.refl]
      refine iteF ?_
      refine ⟨_, rfl, .inl ⟨rfl, _, SqL.of kr⟩, Nat.zero_le _, fun e ne => ?_⟩
      have sC := same_new ne (.tup [])
      have krC := sC _ _ kr
      have keC := upd_same (H := HB) (a := e) (o := .tup [])
      have dysC := dpsS sC (only_paths _) dysB
      generalize upd HB e (.tup []) = HC at sC krC keC dysC
      refine ⟨r, ys, _, rfl, rfl, krC, by omega, ?_⟩
      have kU : KpT K HC (upd HC r (.lst (ys ++ [V.ref e]))) := KpT.lst krC
      have s8D : Same H8 (upd HC r (.lst (ys ++ [V.ref e]))) := fun y o z => by
        rw [upd_ne (ne_of_none z nr8)]
        exact sC _ _ (s8B _ _ z)
      have krD := upd_same (H := HC) (a := r) (o := .lst (ys ++ [V.ref e]))
      have dD : DpAll K (upd HC r (.lst (ys ++ [V.ref e]))) (ys ++ [V.ref e]) ((ordP ps ++ [[]]).map pathD) := by
        rw [List.map_append]
        exact DpAll.app (DpAll.keep kU (only_paths _) dysC) (.cons (Dp.keep kU (only_path []) (pathDp (p := []) (SqT.of keC))) .nil)
      generalize upd HC r (.lst (ys ++ [V.ref e])) = HD at s8D krD dD
      have dm : ∀ {HX : Hp}, Same HD HX → Dp K HX (.ref r) (.list ((ordP ps ++ [[]]).map pathD)) := fun {HX} sx => .lst (SqL.of (sx _ _ krD)) (dpsS sx (only_paths _) dD)
      refine ⟨_, rfl, r, _, rfl, dm (Same.refl _), nm.sh, nm.nd, d60, nm.sz, ?_⟩
      obtain ⟨c1, c2, c3, c4, c5⟩ := here s8D
      refine ⟨_, rfl, h, xs, ps, rfl, SqL.of c1, c4, pk100, fun r2 HE ys2 sE nr2 dys2 => ?_⟩
      have sF := same_new nr2 (.lst ys2)
      have krF := upd_same (H := HE) (a := r2) (o := .lst ys2)
      have dysF := dpsS sF (only_paths _) dys2
      generalize upd HE r2 (.lst ys2) = HF at sF krF dysF
      have sDF := sE.trans sF
      obtain ⟨d1, d2, d3, d4, d5⟩ := here (s8D.trans sDF)
      refine ⟨_, rfl, _, _, .lst (SqL.of krF) dysF, .lst (SqL.of d3) d5, ni.shaped, ni.shaped, ?_⟩
      rw [ni.refl]
      refine ⟨false, rfl, ?_⟩
      refine ⟨_, rfl, r, _, rfl, dm sDF, nm.sh, nm.nd, d60, nm.sz, _, rfl, rfl, _, rfl, ?_⟩
      refine iteNS (by simp) ?_
      exact ⟨_, _, _, rfl, s8D.trans sDF⟩
    · rintro σ' H9 ⟨w6, w11, w12, rfl, s9⟩
      exact ⟨_, _, _, _, _, _, _, _, _, _, _, _, rfl, s4.trans (s48.trans s9)⟩
  · rintro σ H1 ⟨y1, y2, y3, y4, y5, y6, y7, y8, y9, y10, y11, y12, rfl, sH⟩
    refine ⟨Nat.zero_le _, fun e he => ?_⟩
    refine ⟨e, [], [], rfl, SqL.of upd_same, .nil, fun p hp => (by cases hp), fun r H2 ys s2 nr dys => ?_⟩
    rw [show ordP [] = [] from List.mergeSort_nil] at dys
    cases dys
    have sr := same_new nr (.lst [])
    have kr := upd_same (H := H2) (a := r) (o := .lst [])
    generalize upd H2 r (.lst []) = H3 at sr kr
    refine ⟨Nat.zero_le _, fun e2 he2 => ?_⟩
    have s3 := same_new he2 (.lst [])
    refine ⟨_, _, .lst (SqL.of (s3 _ _ kr)) (ds := ([] : List (List Int)).map pathD) .nil, .lst (SqL.of upd_same) (ds := ([] : List (List Int)).map pathD) .nil, shaped_paths _, shaped_paths _, ?_⟩
    rw [eqv_paths]
    exact q _
end
end SH

set_option Elab.async false
set_option linter.all false
set_option maxRecDepth 100000
namespace SH
open PySem L2
set_option maxHeartbeats 8000000
theorem all_mk {l : PySem.W.OpenLaw} {w : World} {K : PySem.W.Frag} {h : Heap} {mg : Str → Option Value} {fa f_is_ahead f_in_order f_order_key f_Lbag f_Ltake f_Lpath f_Lpaths f_Lbefore f_law : Addr} (X : K.In h) (G : h.Ns mainGlobals mg) (hfa : mg "law" = some (.ref fa))
    {od_is_ahead od_in_order od_order_key od_Lbag od_Ltake od_Lpath od_Lpaths od_Lbefore od_law an_is_ahead an_in_order an_order_key an_Lbag an_Ltake an_Lpath an_Lpaths an_Lbefore an_law : Option Addr} {sl_is_ahead sl_in_order sl_order_key sl_Lbag sl_Ltake sl_Lpath sl_Lpaths sl_Lbefore sl_law : Array (Option Value)} {oc_is_ahead oc_in_order oc_order_key oc_Lbag oc_Ltake oc_Lpath oc_Lpaths oc_Lbefore oc_law kV_is_ahead kV_in_order kV_order_key kV_Lbag kV_Ltake kV_Lpath kV_Lpaths kV_Lbefore kV_law dc_is_ahead dc_in_order dc_order_key dc_Lbag dc_Ltake dc_Lpath dc_Lpaths dc_Lbefore dc_law pm_is_ahead pm_in_order pm_order_key pm_Lbag pm_Ltake pm_Lpath pm_Lpaths pm_Lbefore pm_law cd_is_ahead cd_in_order cd_order_key cd_Lbag cd_Ltake cd_Lpath cd_Lpaths cd_Lbefore cd_law ct_is_ahead ct_in_order ct_order_key ct_Lbag ct_Ltake ct_Lpath ct_Lpaths ct_Lbefore ct_law : Value}
    (a_is_ahead : PySem.W.nsIn K mainGlobals "is_ahead" = some (some (.ref f_is_ahead))) (l_is_ahead : K.lookup f_is_ahead = some ⟨oc_is_ahead, od_is_ahead, .func (PySem.W.fnOf "is_ahead" "is_ahead" (defArgs sAhead) (defBody sAhead) (defScope sAhead) .none kV_is_ahead dc_is_ahead pm_is_ahead an_is_ahead cd_is_ahead ct_is_ahead), sl_is_ahead⟩) (c_is_ahead : PySem.W.codeIn K cd_is_ahead "is_ahead" = true) (k_is_ahead : PySem.W.keepIn K (.ref f_is_ahead) = true)
    (a_in_order : PySem.W.nsIn K mainGlobals "in_order" = some (some (.ref f_in_order))) (l_in_order : K.lookup f_in_order = some ⟨oc_in_order, od_in_order, .func (PySem.W.fnOf "in_order" "in_order" (defArgs sOrd) (defBody sOrd) (defScope sOrd) .none kV_in_order dc_in_order pm_in_order an_in_order cd_in_order ct_in_order), sl_in_order⟩) (c_in_order : PySem.W.codeIn K cd_in_order "in_order" = true) (k_in_order : PySem.W.keepIn K (.ref f_in_order) = true)
    (a_order_key : PySem.W.nsIn K mainGlobals "order_key" = some (some (.ref f_order_key))) (l_order_key : K.lookup f_order_key = some ⟨oc_order_key, od_order_key, .func (PySem.W.fnOf "order_key" "order_key" (defArgs sKey) (defBody sKey) (defScope sKey) .none kV_order_key dc_order_key pm_order_key an_order_key cd_order_key ct_order_key), sl_order_key⟩) (c_order_key : PySem.W.codeIn K cd_order_key "order_key" = true) (k_order_key : PySem.W.keepIn K (.ref f_order_key) = true)
    (a_Lbag : PySem.W.nsIn K mainGlobals "_law_bag" = some (some (.ref f_Lbag))) (l_Lbag : K.lookup f_Lbag = some ⟨oc_Lbag, od_Lbag, .func (PySem.W.fnOf "_law_bag" "_law_bag" (defArgs sBag) (defBody sBag) (defScope sBag) .none kV_Lbag dc_Lbag pm_Lbag an_Lbag cd_Lbag ct_Lbag), sl_Lbag⟩) (c_Lbag : PySem.W.codeIn K cd_Lbag "_law_bag" = true) (k_Lbag : PySem.W.keepIn K (.ref f_Lbag) = true)
    (a_Ltake : PySem.W.nsIn K mainGlobals "_law_take" = some (some (.ref f_Ltake))) (l_Ltake : K.lookup f_Ltake = some ⟨oc_Ltake, od_Ltake, .func (PySem.W.fnOf "_law_take" "_law_take" (defArgs sTake) (defBody sTake) (defScope sTake) .none kV_Ltake dc_Ltake pm_Ltake an_Ltake cd_Ltake ct_Ltake), sl_Ltake⟩) (c_Ltake : PySem.W.codeIn K cd_Ltake "_law_take" = true) (k_Ltake : PySem.W.keepIn K (.ref f_Ltake) = true)
    (a_Lpath : PySem.W.nsIn K mainGlobals "_law_path" = some (some (.ref f_Lpath))) (l_Lpath : K.lookup f_Lpath = some ⟨oc_Lpath, od_Lpath, .func (PySem.W.fnOf "_law_path" "_law_path" (defArgs sLpath) (defBody sLpath) (defScope sLpath) .none kV_Lpath dc_Lpath pm_Lpath an_Lpath cd_Lpath ct_Lpath), sl_Lpath⟩) (c_Lpath : PySem.W.codeIn K cd_Lpath "_law_path" = true) (k_Lpath : PySem.W.keepIn K (.ref f_Lpath) = true)
    (a_Lpaths : PySem.W.nsIn K mainGlobals "_law_paths" = some (some (.ref f_Lpaths))) (l_Lpaths : K.lookup f_Lpaths = some ⟨oc_Lpaths, od_Lpaths, .func (PySem.W.fnOf "_law_paths" "_law_paths" (defArgs sLpaths) (defBody sLpaths) (defScope sLpaths) .none kV_Lpaths dc_Lpaths pm_Lpaths an_Lpaths cd_Lpaths ct_Lpaths), sl_Lpaths⟩) (c_Lpaths : PySem.W.codeIn K cd_Lpaths "_law_paths" = true) (k_Lpaths : PySem.W.keepIn K (.ref f_Lpaths) = true)
    (a_Lbefore : PySem.W.nsIn K mainGlobals "_law_before" = some (some (.ref f_Lbefore))) (l_Lbefore : K.lookup f_Lbefore = some ⟨oc_Lbefore, od_Lbefore, .func (PySem.W.fnOf "_law_before" "_law_before" (defArgs sBefore) (defBody sBefore) (defScope sBefore) .none kV_Lbefore dc_Lbefore pm_Lbefore an_Lbefore cd_Lbefore ct_Lbefore), sl_Lbefore⟩) (c_Lbefore : PySem.W.codeIn K cd_Lbefore "_law_before" = true) (k_Lbefore : PySem.W.keepIn K (.ref f_Lbefore) = true)
    (a_law : PySem.W.nsIn K mainGlobals "law" = some (some (.ref f_law))) (l_law : K.lookup f_law = some ⟨oc_law, od_law, .func (PySem.W.fnOf "law" "law" (defArgs sLaw) (defBody sLaw) (defScope sLaw) .none kV_law dc_law pm_law an_law cd_law ct_law), sl_law⟩) (c_law : PySem.W.codeIn K cd_law "law" = true) (k_law : PySem.W.keepIn K (.ref f_law) = true)
    (z_len : PySem.W.nsIn K mainGlobals "len" = some none)
    (z_abs : PySem.W.nsIn K mainGlobals "abs" = some none)
    (z_int : PySem.W.nsIn K mainGlobals "int" = some none)
    (z_str : PySem.W.nsIn K mainGlobals "str" = some none)
    (z_range : PySem.W.nsIn K mainGlobals "range" = some none)
    (z_max : PySem.W.nsIn K mainGlobals "max" = some none)
    (z_min : PySem.W.nsIn K mainGlobals "min" = some none)
    (z_isinstance : PySem.W.nsIn K mainGlobals "isinstance" = some none)
    (z_all : PySem.W.nsIn K mainGlobals "all" = some none)
    (z_tuple : PySem.W.nsIn K mainGlobals "tuple" = some none)
    (z_list : PySem.W.nsIn K mainGlobals "list" = some none)
    (z_zip : PySem.W.nsIn K mainGlobals "zip" = some none)
    (z_repr : PySem.W.nsIn K mainGlobals "repr" = some none)
    (z_bool : PySem.W.nsIn K mainGlobals "bool" = some none)
    (z_sorted : PySem.W.nsIn K mainGlobals "sorted" = some none)
    
    : ∃ fd : FuncData, (∀ (s : Shared) (v : Value), BindsTo s fd ⟨[v], []⟩ [("_law_script", v)]) ∧ ∀ base : Heap, K.In base → base.Ns mainGlobals mg → FnG l.prog w K mg base 5 fa fd ["_law_script"] (spLaw K) := by
  have e := hfa.symm.trans (PySem.W.mg_of X G a_law)
  cases e
  have F_is_ahead := fun_mk (st := sAhead) l_is_ahead c_is_ahead k_is_ahead
  have b_is_ahead := F_is_ahead.binds (ps := ["one", "other"]) fun _ _ _ _ _ _ us hl => match us, hl with | [_, _], _ => rfl
  have m_is_ahead := PySem.W.mg_of X G a_is_ahead
  have F_in_order := fun_mk (st := sOrd) l_in_order c_in_order k_in_order
  have b_in_order := F_in_order.binds (ps := ["paths"]) fun _ _ _ _ _ _ us hl => match us, hl with | [_], _ => rfl
  have m_in_order := PySem.W.mg_of X G a_in_order
  have F_order_key := fun_mk (st := sKey) l_order_key c_order_key k_order_key
  have b_order_key := F_order_key.binds (ps := ["path"]) fun _ _ _ _ _ _ us hl => match us, hl with | [_], _ => rfl
  have m_order_key := PySem.W.mg_of X G a_order_key
  have F_Lbag := fun_mk (st := sBag) l_Lbag c_Lbag k_Lbag
  have b_Lbag := F_Lbag.binds (ps := ["_law_script", "_law_k"]) fun _ _ _ _ _ _ us hl => match us, hl with | [_, _], _ => rfl
  have m_Lbag := PySem.W.mg_of X G a_Lbag
  have F_Ltake := fun_mk (st := sTake) l_Ltake c_Ltake k_Ltake
  have b_Ltake := F_Ltake.binds (ps := ["_law_bag_here", "_law_many"]) fun _ _ _ _ _ _ us hl => match us, hl with | [_, _], _ => rfl
  have m_Ltake := PySem.W.mg_of X G a_Ltake
  have F_Lpath := fun_mk (st := sLpath) l_Lpath c_Lpath k_Lpath
  have b_Lpath := F_Lpath.binds (ps := ["_law_bag_here"]) fun _ _ _ _ _ _ us hl => match us, hl with | [_], _ => rfl
  have m_Lpath := PySem.W.mg_of X G a_Lpath
  have F_Lpaths := fun_mk (st := sLpaths) l_Lpaths c_Lpaths k_Lpaths
  have b_Lpaths := F_Lpaths.binds (ps := ["_law_bag_here", "_law_many"]) fun _ _ _ _ _ _ us hl => match us, hl with | [_, _], _ => rfl
  have m_Lpaths := PySem.W.mg_of X G a_Lpaths
  have F_Lbefore := fun_mk (st := sBefore) l_Lbefore c_Lbefore k_Lbefore
  have b_Lbefore := F_Lbefore.binds (ps := ["_law_one", "_law_other"]) fun _ _ _ _ _ _ us hl => match us, hl with | [_, _], _ => rfl
  have m_Lbefore := PySem.W.mg_of X G a_Lbefore
  have F_law := fun_mk (st := sLaw) l_law c_law k_law
  have m_law := PySem.W.mg_of X G a_law
  have T : Bi mg := ⟨PySem.W.mg_none_of X G z_len, PySem.W.mg_none_of X G z_abs, PySem.W.mg_none_of X G z_int, PySem.W.mg_none_of X G z_str, PySem.W.mg_none_of X G z_range, PySem.W.mg_none_of X G z_max, PySem.W.mg_none_of X G z_min, PySem.W.mg_none_of X G z_isinstance, PySem.W.mg_none_of X G z_all⟩
  have q_tuple := PySem.W.mg_none_of X G z_tuple
  have q_list := PySem.W.mg_none_of X G z_list
  have q_zip := PySem.W.mg_none_of X G z_zip
  have q_repr := PySem.W.mg_none_of X G z_repr
  have q_bool := PySem.W.mg_none_of X G z_bool
  have q_sorted := PySem.W.mg_none_of X G z_sorted
  refine ⟨PySem.W.fnOf "law" "law" (defArgs sLaw) (defBody sLaw) (defScope sLaw) .none kV_law dc_law pm_law an_law cd_law ct_law, fun s v => .of_eq rfl, fun base _ _ => ?_⟩
  have AH : Fk l.prog w K mg base 1 "is_ahead" f_is_ahead _ ["one", "other"] (spAhead K) := ⟨ok_ahead F_is_ahead T, m_is_ahead, k_is_ahead, b_is_ahead⟩
  have TK : Fk l.prog w K mg base 1 "_law_take" f_Ltake _ ["_law_bag_here", "_law_many"] spTake := ⟨ok_take F_Ltake, m_Ltake, k_Ltake, b_Ltake⟩
  have KY : Fk l.prog w K mg base 1 "order_key" f_order_key _ ["path"] (spKey K) := ⟨ok_key F_order_key T, m_order_key, k_order_key, b_order_key⟩
  have IO : Fk l.prog w K mg base 4 "in_order" f_in_order _ ["paths"] (spOrd K) := ⟨ok_ord F_in_order KY q_sorted, m_in_order, k_in_order, b_in_order⟩
  have LP : Fk l.prog w K mg base 2 "_law_path" f_Lpath _ ["_law_bag_here"] (spLpath K) := ⟨ok_lpath F_Lpath TK T q_tuple, m_Lpath, k_Lpath, b_Lpath⟩
  have LPS : Fk l.prog w K mg base 3 "_law_paths" f_Lpaths _ ["_law_bag_here", "_law_many"] (spLpaths K) := ⟨ok_lpaths F_Lpaths TK LP T, m_Lpaths, k_Lpaths, b_Lpaths⟩
  exact ok_law F_law ⟨ok_bag F_Lbag T, m_Lbag, k_Lbag, b_Lbag⟩ TK LPS ⟨ok_before F_Lbefore T q_zip, m_Lbefore, k_Lbefore, b_Lbefore⟩ AH IO T q_bool q_list q_repr
theorem walk {l : PySem.W.OpenLaw} {q : Program} {loose : List Str} {XP : (Str → Option Value) → Heap → Prop} {YP : World → Heap → Prop} {d : DefRec} {K : Params → PySem.W.Frag} (hn : l.most = some 63) (hdf : d.params.defaults = [])
    (hY : ∀ (w : World) (h : Heap), YP w h → (K w.params).In h)
    (F : ∀ (w : World) (mg : Str → Option Value) (fa : Addr) (h : Heap), (K w.params).In h → h.Ns mainGlobals mg → mg d.name = some (.ref fa) →
      ∃ fd : FuncData, (∀ (s : Shared) (u : Value), BindsTo s fd ⟨[u], []⟩ [("_law_script", u)]) ∧ ∀ base : Heap, (K w.params).In base → base.Ns mainGlobals mg → FnG l.prog w (K w.params) mg base 5 fa fd ["_law_script"] (spLaw (K w.params))) :
    PySem.W.WalkO q loose XP YP l.row.toRowW d [] (fun f vs => PySem.call f vs) :=
  walk_G (k := 5) (sp := spLaw) hn hdf ⟨rfl, by decide, by decide⟩ hY F fun K H a ns hl hS => ⟨a, ns, rfl, hS, hl, fun _ => rfl⟩
end SH
open PySem PySem.W PyProof.Rows
set_option maxRecDepth 100000 in
set_option maxHeartbeats 0 in
theorem PySem.Challenge.cw_stealhall_k40_plain_order_holds : PySem.Challenge.rw_stealhall_k40_plain_order.Holds := by
  w_on; o_law; k_head; (case hw => w_witness2)
  k_fill
  refine SH.walk (l := PySem.Challenge.rw_stealhall_k40_plain_order) rfl rfl (fun w h Y => PySem.W.kIn_of Y) ?F
  case F =>
    intro w mg fa h KX G hmg
    refine' SH.all_mk KX G hmg ?a_is_ahead ?l_is_ahead ?c_is_ahead ?k_is_ahead ?a_in_order ?l_in_order ?c_in_order ?k_in_order ?a_order_key ?l_order_key ?c_order_key ?k_order_key ?a_Lbag ?l_Lbag ?c_Lbag ?k_Lbag ?a_Ltake ?l_Ltake ?c_Ltake ?k_Ltake ?a_Lpath ?l_Lpath ?c_Lpath ?k_Lpath ?a_Lpaths ?l_Lpaths ?c_Lpaths ?k_Lpaths ?a_Lbefore ?l_Lbefore ?c_Lbefore ?k_Lbefore ?a_law ?l_law ?c_law ?k_law ?z_len ?z_abs ?z_int ?z_str ?z_range ?z_max ?z_min ?z_isinstance ?z_all ?z_tuple ?z_list ?z_zip ?z_repr ?z_bool ?z_sorted
    (case a_is_ahead => k_is)
    (case l_is_ahead => k_is)
    (case c_is_ahead => k_is)
    (case k_is_ahead => k_is)
    (case a_in_order => k_is)
    (case l_in_order => k_is)
    (case c_in_order => k_is)
    (case k_in_order => k_is)
    (case a_order_key => k_is)
    (case l_order_key => k_is)
    (case c_order_key => k_is)
    (case k_order_key => k_is)
    (case a_Lbag => k_is)
    (case l_Lbag => k_is)
    (case c_Lbag => k_is)
    (case k_Lbag => k_is)
    (case a_Ltake => k_is)
    (case l_Ltake => k_is)
    (case c_Ltake => k_is)
    (case k_Ltake => k_is)
    (case a_Lpath => k_is)
    (case l_Lpath => k_is)
    (case c_Lpath => k_is)
    (case k_Lpath => k_is)
    (case a_Lpaths => k_is)
    (case l_Lpaths => k_is)
    (case c_Lpaths => k_is)
    (case k_Lpaths => k_is)
    (case a_Lbefore => k_is)
    (case l_Lbefore => k_is)
    (case c_Lbefore => k_is)
    (case k_Lbefore => k_is)
    (case a_law => k_is)
    (case l_law => k_is)
    (case c_law => k_is)
    (case k_law => k_is)
    (case z_len => k_is)
    (case z_abs => k_is)
    (case z_int => k_is)
    (case z_str => k_is)
    (case z_range => k_is)
    (case z_max => k_is)
    (case z_min => k_is)
    (case z_isinstance => k_is)
    (case z_all => k_is)
    (case z_tuple => k_is)
    (case z_list => k_is)
    (case z_zip => k_is)
    (case z_repr => k_is)
    (case z_bool => k_is)
    (case z_sorted => k_is)
