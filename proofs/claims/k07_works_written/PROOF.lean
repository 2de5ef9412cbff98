import PyProof.Rows.All
import Wide.All
import OpenK.AllK
import Wide.FinOn
import HandS.ForMost
import HandS.More
import HandS.FStr
import HandS.IsInst
import HandS.Strs
import HandS.SetBool
import HandS.SetKeys
import HandS.DictComp
import KE.KCallOwn
import HandS.Codes
import HandS.Walk
import HandS.RaiseMore
import HandS.Defaults
import HandS.TupAny
import HandS.DictSub
import HandS.NoneIn
import HandS.MakeKwOnly
import PySem.Challenge.RW_stealhall_k07_works_written
set_option Elab.async false
set_option linter.all false
set_option maxRecDepth 100000
/-! Expressions: what they are, their text, how they lie in the heap. -/
namespace SH
open PySem L2
inductive Sg where
  | add | sub | mul | lt | eq
def Sg.txt : Sg → Str
  | .add => "+"
  | .sub => "-"
  | .mul => "*"
  | .lt => "<"
  | .eq => "=="
def Sg.lv : Sg → Int
  | .add => 2
  | .sub => 2
  | .mul => 3
  | .lt => 1
  | .eq => 1
inductive Ex where
  | num (n : Int)
  | nam (s : Str)
  | op (g : Sg) (l r : Ex)
def Ex.lv : Ex → Int
  | .num _ => 4
  | .nam _ => 4
  | .op g _ _ => g.lv
def Ex.lw : Ex → Int
  | .num _ => 9
  | .nam _ => 9
  | .op g _ _ => g.lv
def br (b : Bool) (t : Str) : Str := if b = true then ("(" : Str) ++ t ++ (")" : Str) else t
def lB (g : Sg) (l : Ex) : Bool := decide (l.lv < g.lv) || decide (l.lv = 1)
def rB (g : Sg) (r : Ex) : Bool := decide (r.lv ≤ g.lv)
def Ex.txt : Ex → Str
  | .num n => (toString n : String)
  | .nam s => s
  | .op g l r => br (lB g l) l.txt ++ (" " : Str) ++ g.txt ++ (" " : Str) ++ br (rB g r) r.txt
/-- at most n deep, its parts within bounds -/
def Ex.ok : Nat → Ex → Prop
  | 0, _ => False
  | _ + 1, .num n => n.natAbs.log2 < 1920
  | _ + 1, .nam s => s.length ≤ 2000
  | n + 1, .op _ l r => Ex.ok n l ∧ Ex.ok n r
def lenB : Nat → Nat
  | 0 => 2000
  | n + 1 => 2 * lenB n + 2000
theorem app_len (a b : Str) : (a ++ b).length = a.length + b.length := by
  show (a.cps ++ b.cps).size = _
  rw [Array.size_append]
  all_goals rfl
theorem emp_app (a : Str) : Str.empty ++ a = a := by
  show (⟨#[] ++ a.cps⟩ : Str) = a
  rw [Array.empty_append]
theorem Sg.len (g : Sg) : g.txt.length ≤ 2 := by cases g <;> decide +kernel
theorem br_len (b : Bool) (t : Str) : (br b t).length ≤ t.length + 2 := by
  unfold br
  split
  · rw [app_len, app_len]
    have h1 : ("(" : Str).length = 1 := by decide +kernel
    have h2 : (")" : Str).length = 1 := by decide +kernel
    omega
  · omega
theorem Ex.len : ∀ (n : Nat) (e : Ex), Ex.ok n e → e.txt.length ≤ lenB n
  | 0, _, h => h.elim
  | n + 1, .num i, h => by
    have q := PyProof.Rows.int_text_len_1921 (i := i) h
    show (PySem.Str.ofString (toString i)).length ≤ 2 * lenB n + 2000
    omega
  | n + 1, .nam s, h => by
    show s.length ≤ 2 * lenB n + 2000
    have : s.length ≤ 2000 := h
    omega
  | n + 1, .op g l r, h => by
    have h1 := Ex.len n l h.1
    have h2 := Ex.len n r h.2
    have q1 := br_len (lB g l) l.txt
    have q2 := br_len (rB g r) r.txt
    have q3 := g.len
    have hb : (" " : Str).length = 1 := by decide +kernel
    show (br (lB g l) l.txt ++ (" " : Str) ++ g.txt ++ (" " : Str) ++ br (rB g r) r.txt).length ≤ 2 * lenB n + 2000
    rw [app_len, app_len, app_len, app_len]
    omega
theorem Ex.ok_up : ∀ {n m : Nat} {e : Ex}, n ≤ m → Ex.ok n e → Ex.ok m e
  | 0, _, _, _, h => h.elim
  | n + 1, m + 1, .num _, _, h => h
  | n + 1, m + 1, .nam _, _, h => h
  | n + 1, m + 1, .op _ _ _, hm, h => ⟨Ex.ok_up (by omega) h.1, Ex.ok_up (by omega) h.2⟩
/-- what lies at v is the expression -/
def TrIn (H : Hp) : Ex → V → Prop
  | .num n, v => ∃ a, v = .ref a ∧ H a = some (.tup [.str "number", .int n])
  | .nam s, v => ∃ a, v = .ref a ∧ H a = some (.tup [.str "name", .str s])
  | .op g l r, v => ∃ a x y, v = .ref a ∧ H a = some (.tup [.str g.txt, x, y]) ∧ TrIn H l x ∧ TrIn H r y
/-- all but what stands at b stays -/
def But (b : Addr) (H H' : Hp) : Prop := ∀ a o, a ≠ b → H a = some o → H' a = some o
theorem But.of {b : Addr} {H H' : Hp} (h : Same H H') : But b H H' := fun a o _ e => h a o e
theorem But.trans {b : Addr} {H H1 H2 : Hp} (h : But b H H1) (k : But b H1 H2) : But b H H2 := fun a o n e => k a o n (h a o n e)
theorem TrIn.same {H H' : Hp} (h : Same H H') : ∀ {e : Ex} {v : V}, TrIn H e v → TrIn H' e v
  | .num n, v, ⟨a, e, k⟩ => ⟨a, e, h _ _ k⟩
  | .nam n, v, ⟨a, e, k⟩ => ⟨a, e, h _ _ k⟩
  | .op g l r, v, ⟨a, x, y, e, k, p, q⟩ => ⟨a, x, y, e, h _ _ k, TrIn.same h p, TrIn.same h q⟩
theorem lst_ne {H : Hp} {a b : Addr} {xs ys : List V} (h : H a = some (.tup xs)) (k : H b = some (.lst ys)) : a ≠ b := fun e => by
  rw [e, k] at h
  cases h
theorem TrIn.but {H H' : Hp} {b : Addr} {ys : List V} (hb : H b = some (.lst ys)) (h : But b H H') : ∀ {e : Ex} {v : V}, TrIn H e v → TrIn H' e v
  | .num n, v, ⟨a, e, k⟩ => ⟨a, e, h _ _ (lst_ne k hb) k⟩
  | .nam n, v, ⟨a, e, k⟩ => ⟨a, e, h _ _ (lst_ne k hb) k⟩
  | .op g l r, v, ⟨a, x, y, e, k, p, q⟩ => ⟨a, x, y, e, h _ _ (lst_ne k hb) k, TrIn.but hb h p, TrIn.but hb h q⟩
theorem same_new {H : Hp} {p : Addr} (h : H p = none) (o : HO) : Same H (upd H p o) := fun b u q => by
  rw [upd_ne (ne_of_none q h)]
  exact q
def Ex.head : Ex → Str
  | .num _ => "number"
  | .nam _ => "name"
  | .op g _ _ => g.txt
theorem TrIn.tup {H : Hp} : ∀ {e : Ex} {v : V}, TrIn H e v → ∃ a xs, v = .ref a ∧ H a = some (.tup xs) ∧ xs[0]? = some (.str e.head)
  | .num n, v, ⟨a, e, k⟩ => ⟨a, _, e, k, rfl⟩
  | .nam n, v, ⟨a, e, k⟩ => ⟨a, _, e, k, rfl⟩
  | .op g l r, v, ⟨a, x, y, e, k, p, q⟩ => ⟨a, _, e, k, rfl⟩
theorem Sg.ne_number (g : Sg) : g.txt ≠ ("number" : Str) := by cases g <;> decide +kernel
theorem Sg.ne_name (g : Sg) : g.txt ≠ ("name" : Str) := by cases g <;> decide +kernel
/-! ### d.get(k, x) of a dict of the module, keys texts -/
section
variable {X : Cx} {o e f : Expr} {apos cpos : Pos} {td ty tx : TE}
def KGet (K : PySem.W.Frag) (w : World) (a : Addr) (x : Str) (r : Option V) : Prop :=
  ∃ es n ou, K.lookup a = some ⟨.type "dict", none, .dict es n, #[]⟩ ∧ PySem.W.KeysLit w.params es.toList ∧ (a == sysModules) = false ∧ PySem.W.nsIn K a x = some ou ∧
    ((∃ v u, r = some v ∧ ou = some u ∧ RelV v u) ∨ (r = none ∧ ou = none))
def tKGet2 (K : PySem.W.Frag) (w : World) (td ty tx : TE) : TE := fun σ H Q => td σ H fun x H1 => ∃ a es n, x = .ref a ∧ K.lookup a = some ⟨.type "dict", none, .dict es n, #[]⟩ ∧ PySem.W.KeysLit w.params es.toList ∧
  ty σ H1 fun y H2 => tx σ H2 fun z H3 => ∃ k r, y = .str k ∧ KGet K w a k r ∧ Q (r.getD z) H3
theorem pe_kget2 (ho : PE X o td) (he : PE X e ty) (hf : PE X f tx) (m : M2 X o "get" apos e f cpos) : PE X (.Call (.Attribute o "get" apos) [e, f] [] cpos) (tKGet2 X.K X.w td ty tx) := by
  refine ⟨fun pins s σ H Q I h => ?_⟩
  refine wpAny_Call_method m.base m.few m.line PySem.F.plainAttrs_dict PySem.F.slot_dict_get PySem.F.type_dict_get (thn (ho.run pins s σ H _ I h) fun u s1 ⟨x, H1, I1, rx, a, es, n, ex, hl, hk, q1⟩ => ?_)
  subst ex
  obtain rfl : u = Value.ref a := rx
  have hm := PySem.W.mapOf_K (prog := X.prog) (w := X.w) I1.kIn hl hk
  refine ⟨hm.typeIs, fun b q => ?_, ?_⟩
  · cases q
    exact ⟨_, I1.kIn _ _ hl, rfl⟩
  rw [m.trees]
  refine Calls.callWith_builtin rfl (Calls.evalArgs_plain (Calls.spliced_cons (thn (he.run pins s1 σ H1 _ I1 q1) fun iv s2 ⟨y, H2, I2, ry, q2⟩ =>
    Calls.spliced_cons (thn (hf.run pins s2 σ H2 _ I2 q2) fun fv s3 ⟨z, H3, I3, rz, k, r, ey, g, q3⟩ => Calls.spliced_nil ?_))))
  subst ey
  obtain ⟨t, rfl⟩ := (show ∃ t, iv = Value.str k t from ry)
  obtain ⟨es', n', ou, hl', hk', low, hn, hr⟩ := g
  have hm3 := PySem.W.mapOf_K (prog := X.prog) (w := X.w) I3.kIn hl' hk'
  refine call_meetsIn PySem.F.slot_dict_get hm3.typeIs PySem.F.entry_dict_get (PySem.F.args_dict_get_3 _ _ _) (meets_dict_get_default (strKind X.prog X.w) a (strKind_is X.prog X.w k t) low fv) ⟨_, hm3, ?_⟩
  rw [PySem.W.find_K hl' hn]
  rcases hr with ⟨v, u, rfl, rfl, rv⟩ | ⟨rfl, rfl⟩
  · exact ⟨v, H3, I3.tok _, rv, q3⟩
  · exact ⟨z, H3, I3.tok _, rz, q3⟩
end
/-! ### rules within a comprehension: the written part by its name -/
section
variable {X : Cx}
theorem ix_tupK (K : PySem.W.Frag) (h : X.K = K := by rfl) : IxR X (rIxT K) := h ▸ ix_tup
theorem ix_listK (K : PySem.W.Frag) (h : X.K = K := by rfl) : IxR X (rIxL K) := h ▸ ix_list
theorem call_len_seqK (K : PySem.W.Frag) (h : X.K = K := by rfl) : CallR X (.builtin "len") (fun xs H Q => ∃ p ys, xs = [V.ref p] ∧ (SqL K H p ys ∨ SqT K H p ys) ∧ Q (.int (ys.length : Nat)) H) := h ▸ call_len_seq
theorem op_in_seqK (K : PySem.W.Frag) (h : X.K = K := by rfl) : OpR X (compareOp .In) (rIn K false) := h ▸ op_in_seq
theorem op_notIn_seqK (K : PySem.W.Frag) (h : X.K = K := by rfl) : OpR X (compareOp .NotIn) (rIn K true) := h ▸ op_notIn_seq
end
end SH

set_option Elab.async false
set_option linter.all false
set_option maxRecDepth 100000
/-! Sets of unlike texts: set(tuple), {.. for .. in ..}, and how many stand in one. -/
namespace SHSet
open PySem PySem.Spec PyProof.Rows
/-- a set in which just these unlike texts stand -/
def TxtSet (prog : Program) (w : World) (h : Heap) (D : Addr) (xs : List Str) : Prop := h.SetOf (strKind prog w) D (fun y => decide (y ∈ xs)) xs.length
section
variable {prog : Program} {w : World} {A : Around} {D : Addr}
theorem TxtSet.keep {h k : Heap} {xs : List Str} (q : TxtSet prog w h D xs) (m : ∀ o, h.get? D = some o → k.get? D = some o) : TxtSet prog w k D xs := by
  obtain ⟨o, es, ep, tb, ho, rest⟩ := q
  exact ⟨o, es, ep, tb, m _ ho, rest⟩
/-- one more text, if it isn't there -/
def addT (xs : List Str) (y : Str) : List Str := if y ∈ xs then xs else xs ++ [y]
/-- each once -/
def dd (xs : List Str) : List Str := xs.foldl addT []
theorem dd_snoc (xs : List Str) (y : Str) : dd (xs ++ [y]) = addT (dd xs) y := by
  unfold dd
  rw [List.foldl_append]
  rfl
theorem addT_len (xs : List Str) (y : Str) : (addT xs y).length ≤ xs.length + 1 := by
  unfold addT
  split
  · omega
  · rw [List.length_append, List.length_singleton]
    omega
theorem dd_len (n : Nat) : ∀ xs : List Str, xs.length = n → (dd xs).length ≤ n := by
  induction n with
  | zero =>
    intro xs h
    rw [List.eq_nil_of_length_eq_zero h]
    exact Nat.le_refl _
  | succ n ih =>
    intro xs h
    have hne : xs ≠ [] := fun z => by rw [z] at h; cases h
    have e := (List.dropLast_concat_getLast hne).symm
    have hl : xs.dropLast.length = n := by rw [List.length_dropLast, h]; rfl
    have := ih xs.dropLast hl
    have a := addT_len (dd xs.dropLast) (xs.getLast hne)
    rw [e, dd_snoc]
    omega
theorem dd_fold : ∀ (xs acc : List Str), (acc ++ xs).Nodup → xs.foldl addT acc = acc ++ xs
  | [], acc, _ => (List.append_nil acc).symm
  | x :: r, acc, h => by
    have hx : x ∉ acc := fun m => by
      have := List.nodup_append.mp h
      exact this.2.2 x m x List.mem_cons_self rfl
    show r.foldl addT (addT acc x) = acc ++ x :: r
    have e : addT acc x = acc ++ [x] := by unfold addT; rw [if_neg hx]
    have e2 : acc ++ x :: r = (acc ++ [x]) ++ r := by rw [List.append_assoc]; rfl
    rw [e, e2]
    rw [e2] at h
    exact dd_fold r (acc ++ [x]) h
theorem dd_nd {xs : List Str} (h : xs.Nodup) : dd xs = xs := dd_fold xs [] h
theorem TxtSet.one {xs : List Str} {y : Str} {t : Tok} {s : Shared} {E : Value → Shared → Prop} {Q : Bool → Shared → Prop} (q : TxtSet prog w s.heap D xs) (few : xs.length + 1 < scanBound)
    (h : ∀ k, s.heap.SameBut D k → TxtSet prog w k D (addT xs y) → ∀ r, Q r { s with heap := k, toks := s.toks + 1 }) : wpAny (model prog w) A (setAdd D (.str y t)) Q E s := by
  unfold setAdd
  refine wpAny_holding (wpAny_bind ((strKind prog w).pyHash (k := y) (strKind_is prog w y t) ?_))
  refine wpAny_setAddHashed_of (knd := strKind prog w) (s := { s with toks := s.toks + 1 }) (strKind_is prog w y t) rfl q few fun k sb st => h k sb ?_ _
  unfold addT
  by_cases hy : y ∈ xs
  · rw [if_pos hy]
    refine SetOf_congr st (fun z => ?_) (by rw [decide_eq_true hy]; rfl)
    by_cases e : z = y
    · subst e; simp [hy]
    · simp [e]
  · rw [if_neg hy]
    refine SetOf_congr st (fun z => ?_) ?_
    · simp [List.mem_append]
    · rw [if_neg (by rw [decide_eq_false hy]; exact Bool.false_ne_true), List.length_append]
      rfl
end
section
variable {prog : Program} {w : World} {A : Around} {R : Result → Shared → Prop} {J D : Addr} {ft wt : List Addr} {Gs : Array GenState → Array GenState → Prop} {n : Nat} {Pi : Nat → Value → Prop} {Sat : Nat → Shared → Prop}
theorem texts_loop (W : WalksS prog w A.in1 J ft wt Gs n Pi Sat) (out : D ∉ ft) {xs : List Str} (len : xs.length = n) (few : n + 1 < scanBound) (val : ∀ i v, Pi i v → ∃ t, v = .str (xs.getD i Str.empty) t) :
    ∀ (m i : Nat) (s : Shared), i + m = n → Sat i s → TxtSet prog w s.heap D (dd (xs.take i)) → (∀ z, Moved (D :: wt) Gs s z → TxtSet prog w z.heap D (dd xs) → R (.ok (.ret .none)) z) →
      codeAny (model prog w) A (.builtin "set.update.loop" ⟨[.ref D, .ref J], []⟩) R s := by
  have outW : D ∉ wt := fun q => out (W.sub _ q)
  have wide : ∀ b ∈ wt, b ∈ D :: wt := fun b q => List.mem_cons_of_mem _ q
  intro m
  induction m with
  | zero =>
    intro i s him st q fin
    have ei : xs.take i = xs := List.take_of_length_le (by omega)
    rw [ei] at q
    refine codeAny_builtin PyProof.Rows.F.entry_set_update_loop (by
      rw [Around.under_plainId PyProof.Rows.F.plain_set_update_loop _]
      refine (show wpAny _ A.in1 (pyNext (.ref J) >>= _) _ _ s from wpAny_bind (W.done s _ _ (by rw [show n = i by omega]; exact st) fun z mv => ?_))
      exact (show wpAny _ A.in1 (ret Value.none) _ _ z from wpAny_pure (fin z (mv.mono wide) (q.keep fun o ho => mv.heap D o outW ho))))
  | succ m ih =>
    intro i s him st q fin
    have lt : i < xs.length := by omega
    refine codeAny_builtin PyProof.Rows.F.entry_set_update_loop (by
      rw [Around.under_plainId PyProof.Rows.F.plain_set_update_loop _]
      refine (show wpAny _ A.in1 (pyNext (.ref J) >>= _) _ _ s from wpAny_bind (W.item i s _ _ (by omega) st fun v z pv stz mv => ?_))
      obtain ⟨t, rfl⟩ := val i v pv
      have qz : TxtSet prog w z.heap D (dd (xs.take i)) := q.keep fun o ho => mv.heap D o outW ho
      have here : xs.getD i Str.empty = xs[i] := by rw [List.getD_eq_getElem?_getD, List.getElem?_eq_getElem lt]; rfl
      have more : xs.take (i + 1) = xs.take i ++ [xs.getD i Str.empty] := by rw [here, List.take_add_one, List.getElem?_eq_getElem lt]; rfl
      refine (show wpAny _ A.in1 (holding [Value.str (xs.getD i Str.empty) t] (setAdd D (.str (xs.getD i Str.empty) t)) >>= _) _ _ z from wpAny_bind (wpAny_holding ?_))
      refine qz.one (by have := dd_len i (xs.take i) (by rw [List.length_take]; omega); omega) fun k sb qk r => ?_
      rw [← dd_snoc, ← more] at qk
      refine wpAny_pure ⟨plainId_quiet PyProof.Rows.F.plain_set_update_loop _, ih (i + 1) _ (by omega) (W.frame _ z _ _ stz (Nat.le_succ _) fun b hb o e => ?_) qk fun u mu qu => ?_⟩
      · exact (sb.2 b (fun q : b = D => out (q ▸ hb))).trans e
      · refine fin u (Moved.trans W.gtrans ((mv.mono wide).then_heap (Nat.le_succ _) fun b o hb e => ?_) mu) qu
        exact (sb.2 b (fun q : b = D => hb (by rw [q]; exact List.mem_cons_self))).trans e)
end
section
variable {prog : Program} {w : World} {A : Around} {E : Value → Shared → Prop} {s : Shared}
/-- an empty set, just made -/
abbrev bareSet (led : Bool) : Obj := { cls := .type "set", dict := none, data := .set #[] 0 (.fresh 0 0 led) }
theorem txt0 {h : Heap} {D : Addr} {led : Bool} (g : h.get? D = some (bareSet led)) : TxtSet prog w h D [] :=
  SetOf_congr ((setObjOf_fresh (knd := strKind prog w) led).setOf g (by decide)) (fun _ => rfl) rfl
/-- set.__init__ over a tuple of texts -/
theorem init_texts {D l : Addr} {items : Array Value} {xs : List Str} {led : Bool} {Q : Value → Shared → Prop} (quiet : A.handled = none) (hl : s.heap.IsTuple l items) (hx : StrsAre items.toList xs) (few : xs.length + 1 < scanBound) (hD : D < s.heap.objs.size) (hDl : l < D) (g : s.heap.get? D = some (bareSet led))
    (h : ∀ (k : Heap) (tk : Nat), TxtSet prog w k D (dd xs) → (∀ b o, b < D → s.heap.get? b = some o → k.get? b = some o) → Q .none { s with heap := k, toks := tk }) :
    codeAny (model prog w) A (.call (.builtin "set.__init__") ⟨[.ref D, .ref l], []⟩) (wants Q E) s := by
  have ty : s.TypeIs (.ref D) "set" := ⟨_, g, rfl⟩
  refine codeAny_call_builtin PySem.F.called_set.init.plain PySem.F.entry_set_init (check_set_init_1 ty ?_)
  obtain ⟨⟨c1, c2, c3, c4⟩, at_l, k1, k2, k3⟩ := hl
  simp only at k1 k3
  subst k1
  subst k3
  have f1 := PySem.F.sub_tuple_set
  have f2 := PySem.F.sub_tuple_frozenset
  have f3 : (Value.type "tuple" == Value.type "dict") = false := by decide
  have whole : s.heap.IsTuple l items := ⟨_, at_l, rfl, k2, rfl⟩
  unfold Builtin.«set.__init__» noKeywords Builtin.Frozenset.updateFrom
  generalize hit : pyIter = PI
  wp_walk
  subst hit
  refine wpAny_pyIter_tuple whole (wpAny_bind (wpAny_runValue ?_))
  have calm : A.in1.in1.handled = none := by simp [quiet]
  have lJ : l ≠ s.heap.objs.size := Nat.ne_of_lt (Nat.lt_trans hDl hD)
  have hsz : xs.length = items.size := by rw [← StrsAre.len_eq hx, Array.length_toList]
  refine texts_loop (prog := prog) (w := w) (A := A.in1) ((Walks.tuple calm _ l lJ items).toS) (D := D) ?_ hsz (by omega) (fun i v hv => SS.strs_at hx i v (by rw [Array.getElem?_toList]; exact hv)) items.size 0 _ (by omega) ?_ ?_ fun z mv qz => ?_
  · simp only [List.mem_cons, List.mem_singleton, List.not_mem_nil, or_false, not_or]
    exact ⟨Nat.ne_of_lt hD, Nat.ne_of_gt hDl⟩
  · exact ⟨⟨_, Heap.get?_push_size _ rfl, rfl, rfl⟩, whole.push _⟩
  · exact txt0 (led := led) (Heap.get?_push_of_some _ g)
  · obtain ⟨hz, gz, dz, tz, oz⟩ := z
    obtain rfl : gz = s.gens := mv.gens
    obtain rfl : dz = s.drawn := mv.drawn
    obtain rfl : oz = s.os := mv.os
    refine wpAny_pure (wpAny_pure (h hz tz qz fun b o hb e => mv.heap b o ?_ (Heap.get?_push_of_some _ e)))
    simp only [List.mem_cons, List.mem_singleton, List.not_mem_nil, or_false, not_or]
    exact ⟨Nat.ne_of_lt hb, Nat.ne_of_lt (Nat.lt_trans hb hD)⟩
/-- set(tuple of unlike texts) -/
theorem call_texts {l : Addr} {items : Array Value} {xs : List Str} {Q : Value → Shared → Prop} (quiet : A.handled = none) (hl : s.heap.IsTuple l items) (hx : StrsAre items.toList xs) (few : xs.length + 1 < scanBound)
    (h : ∀ (k : Heap) (tk : Nat), TxtSet prog w k s.heap.objs.size (dd xs) → (∀ b o, b < s.heap.objs.size → s.heap.get? b = some o → k.get? b = some o) → Q (.ref s.heap.objs.size) { s with heap := k, toks := tk }) :
    wpAny (model prog w) A (call (.type "set") [.ref l]) Q E s := by
  obtain ⟨c, tl, f1⟩ := PySem.F.called_set.mro
  have f2 := PySem.F.called_set.made
  have f3 := PySem.F.called_set.sub
  refine wpAny_call (codeAny_of_tree (show wpAny _ _ (callAny (.type "set") _) _ _ _ from wpAny_pure ⟨Code.quiet_builtin _ (by decide +kernel), codeAny_builtin PySem.F.entry_type_call ?_⟩))
  rw [Around.under_plain (weight_type_call_type "set" [.ref l] []) rfl]
  have f4 := PySem.F.called_set.notType
  have f5 := PySem.F.called_set.canCreate
  have f6 := PySem.F.typeCall_set_1 (.ref l)
  repeat (any_goals (first | assumption | wp_step))
  refine codeAny_mono (code_set_new_1 (.ref l) (E := E) (Q₁ := fun o z => ∃ led : Bool, o = .ref s.heap.objs.size ∧ z = { s with heap := s.heap.push (bareSet led) }) fun led => ⟨led, rfl, rfl⟩) fun r z hr => ?_
  cases r with
  | error e => exact hr
  | ok fl =>
    cases fl with
    | ret obj =>
      obtain ⟨led, rfl, rfl⟩ := hr
      have g : (s.heap.push (bareSet led)).get? s.heap.objs.size = some (bareSet led) := Heap.get?_push_size _ rfl
      have f7 : Shared.TypeIs { s with heap := s.heap.push (bareSet led) } (.ref s.heap.objs.size) "set" := ⟨_, g, rfl⟩
      have f8 := PySem.F.called_set.init.lookup
      have f9 := PySem.F.called_set.init.bind (.ref s.heap.objs.size)
      repeat (any_goals (first | assumption | wp_step))
      have hlt : l < s.heap.objs.size := by
        obtain ⟨o, ho, _⟩ := hl
        exact Heap.lt_size ho
      refine codeAny_mono (init_texts (prog := prog) (w := w) (E := E) (Q := fun r z => r = .none ∧ ∃ k tk, z = { s with heap := k, toks := tk } ∧ TxtSet prog w k s.heap.objs.size (dd xs) ∧ ∀ b o, b < s.heap.objs.size → s.heap.get? b = some o → k.get? b = some o) (led := led) (by simp [quiet]) (hl.push _) hx few (by rw [Heap.size_push]; exact Nat.lt_succ_self _) hlt g fun k tk q kp => ⟨rfl, k, tk, rfl, q, fun b o hb e => kp b o hb (Heap.get?_push_of_some _ e)⟩) fun r z hr => ?_
      cases r with
      | error e => exact hr
      | ok fl =>
        cases fl with
        | ret r =>
          obtain ⟨rfl, k, tk, rfl, q, kp⟩ := hr
          repeat (any_goals (first | assumption | wp_step))
          exact h k tk q kp
        | _ => exact hr.elim
    | _ => exact hr.elim
end
end SHSet
namespace SH
open PySem PySem.Spec PyProof.Rows L2 SHSet
/-- len(set(t)), t a tuple of texts -/
def tLenTxt (K : PySem.W.Frag) (ta : TE) : TE := fun σ H Q => ta σ H fun x H1 => ∃ (l : Addr) (xs : List Str), x = .ref l ∧ SqT K H1 l (xs.map V.str) ∧ xs.length ≤ 1000 ∧ Q (.int ((dd xs).length : Nat)) H1
section
variable {X : Cx}
theorem pe_lenTxt {a : Expr} {ta : TE} {p p2 q pos : Pos} (hg : Gl X "len") (ml : X.mg "len" = none) (hg2 : Gl X "set") (ms : X.mg "set" = none) (ha : PE X a ta) (quiet : X.calm = true := by rfl)
    (plain : starEach [a] X.env = (false, eval a X.env) :: starEach [] X.env := by rfl) : PE X (.Call (.Name "len" p) [.Call (.Name "set" p2) [a] [] q] [] pos) (tLenTxt X.K ta) := by
  refine ⟨fun pins s σ H Q I h => Call_ (ld_blt I hg ml boot_len (callWith_builtin1 (args_cons (Call_ (ld_blt I hg2 ms boot_set ?_)) rfl) rfl rfl))⟩
  refine callWith_type1 (args_cons (thn (ha.run pins s σ H _ I h) fun v z ⟨x, H1, J, rx, l, xs, ex, tq, few, fin⟩ => args_nil ?_) plain) plain rfl
  subst ex
  cases rx
  obtain ⟨its, rv, tup, _⟩ := J.tuple tq
  have small : (dd xs).length ≤ 1000 := Nat.le_trans (dd_len xs.length xs rfl) few
  refine call_texts (J.ok.hd quiet) tup (xs := xs) (by simpa using strsAre_of rv) (by unfold scanBound; omega) fun k tk qs kp => args_nil ?_
  obtain ⟨o, es, ep, tb, h1, h2, h3, _, _, _, h4, h5⟩ := qs
  have J2 : Inv X pins σ H1 { z with heap := k, toks := tk } := J.kept fun b o e => kp b o (Heap.lt_size e) e
  exact call_len_set h1 h2 h3 h4 (by rw [h5]; omega) ⟨.int ((dd xs).length : Nat), H1, J2.tok _, ⟨_, by rw [h5]⟩, fin⟩
end
end SH

set_option Elab.async false
set_option linter.all false
set_option maxRecDepth 100000
set_option maxHeartbeats 2000000
/-! {e for x in xs}, e a text. -/
namespace SH
open PySem PySem.Spec PyProof.Rows L2 SHSet
/-- the set of texts at D -/
def TxtO (P : Program) (w : World) (D : Addr) (xs : List Str) : HO := .ext fun h => TxtSet P w h D xs
theorem txtO_ok {P : Program} {w : World} {H : Hp} {h : Heap} {D : Addr} {xs : List Str} (q : TxtSet P w h D xs) : ObjOk P w H h D (TxtO P w D xs) := by
  have q' := q
  obtain ⟨o, _, _, _, ho, _⟩ := q'
  exact ⟨q, ⟨o, ho⟩, fun h1 h2 p k => TxtSet.keep p k⟩
section
variable {X : Cx}
theorem add_txt {pins : List (Addr × Obj)} {σ : L2.St} {H : Hp} {s : Shared} {E : Value → Shared → Prop} {D : Addr} {xs : List Str} {z : Str} {t : Tok} {Q : Value → Shared → Prop} (I : Inv X pins σ H s) (hD : H D = some (TxtO X.prog X.w D xs)) (few : xs.length + 1 < scanBound)
    (h : ∀ s', Inv X pins σ (upd H D (TxtO X.prog X.w D (addT xs z))) s' → Q .none s') : wpAny (model X.prog X.w) X.A (call (.builtin "set.add") [.ref D, .str z t]) Q E s := by
  have q : TxtSet X.prog X.w s.heap D xs := (I.hok D _ hD).1
  refine call_set_add (knd := strKind X.prog X.w) (k := z) (strKind_is X.prog X.w z t) rfl q few fun k sb st => ?_
  have nw : TxtSet X.prog X.w k D (addT xs z) := by
    unfold addT
    by_cases hy : z ∈ xs
    · rw [if_pos hy]
      refine SetOf_congr st (fun y => ?_) (by rw [decide_eq_true hy]; rfl)
      by_cases e : y = z
      · subst e; simp [hy]
      · simp [e]
    · rw [if_neg hy]
      refine SetOf_congr st (fun y => ?_) ?_
      · simp [List.mem_append]
      · rw [if_neg (by rw [decide_eq_false hy]; exact Bool.false_ne_true), List.length_append]
        rfl
  have ex : ∃ u, k.get? D = some u := by
    have n2 := nw
    obtain ⟨o, _, _, _, ho, _⟩ := n2
    exact ⟨o, ho⟩
  exact h _ (I.write (e := D) (t' := s.toks + 1) (by rw [hD]; trivial) (.inl rfl) (fun b u hb hu => (sb.2 b hb).trans hu) ex (txtO_ok nw))
/-- the readings of {e for x in xs}: D the new set -/
def tTxc (P : Program) (w : World) (wi : TI) (g : TG) (te : TE) (vs : List Nat) : TE := fun σ H Q => wi σ H fun J H1 => ∀ D, H1 D = none → ∃ W : Nat → Nat → Hp → Prop, (∃ m, W 0 m (upd H1 D (TxtO P w D []))) ∧ ∀ i m H, W i m H →
  (J.stop i H ∧ Q (.ref D) H) ∨ (J.go i H ∧ ∃ Nx : Hp → Prop, (∀ H', Nx H' → ∃ m', m' < m ∧ W (i + 1) m' H') ∧ ∀ x H', J.yld i H x H' → g x (wipe σ vs) H' fun σ2 H2 => wipe σ2 vs = wipe σ vs ∧
    te σ2 H2 fun y H4 => ∃ (z : Str) (xs : List Str), y = .str z ∧ H4 D = some (TxtO P w D xs) ∧ xs.length + 1 < scanBound ∧ Nx (upd H4 D (TxtO P w D (addT xs z))))
abbrev freshSet (w : World) : Obj := { cls := .type "set", dict := none, data := .set #[] 0 (.fresh 0 0 (!w.params.followText "set-order")) }
theorem pe_txc {elt tg iter : Expr} {scope : Scope} {own : List (PySem.Str × Nat)} {pos : Pos} {wi : TI} {g : TG} {te : TE} (quiet : X.calm = true) (ndN : X.N.Nodup) (hi : PI X tg iter wi) (ok : BlkOk X.N X.env.scope scope own)
    (hg : ∀ (s : Shared) (H : Hp) (C : Addr) (cl : List (PySem.Str × Addr)) (fp : List Addr), PG (X.blk s H scope (compEnvC scope cl C X.env) fp) tg g)
    (he : ∀ (s : Shared) (H : Hp) (C : Addr) (cl : List (PySem.Str × Addr)) (fp : List Addr), PE (X.blk s H scope (compEnvC scope cl C X.env) fp) elt te) (fold : ∀ x, foldedSetIterable iter X.env x = pure x := by intro _; rfl) :
    PE X (.SetComp elt [⟨tg, iter, [], 0⟩] scope pos) (tTxc X.prog X.w wi g te (own.map (·.2))) := by
  refine ⟨fun pins s σ H Q I h => ?_⟩
  rw [PpSet.eval_SetComp]
  have fr : ∀ y ∈ scope.names, y.2 = .free → ∃ c, X.env.cells.lookup y.1 = some c := fun y hy e => (ok.free y hy e).elim (fun k => I.ok.has _ (.inl k)) fun k => I.ok.has _ (.inr k)
  refine wpAny_comprehension_free (use := none) rfl fold (closure_ok fr) ok.kind (fun y hy e => by rw [ok.uniq y hy, e]) (thn (hi.run pins s σ H _ I h) fun _ s1 hx => thn hx fun _ s2 ⟨it, fp, tn, J, H2, e, I2, T, st2, f2, q⟩ => ?_)
  subst e
  refine PpSet.newSet_ok (newEnv_comp ?_)
  generalize hD : s2.heap.objs.size = D
  obtain ⟨W, ⟨m0, w0⟩, turn⟩ := q D (I2.hok.fresh (Nat.le_of_eq hD))
  generalize ez : ({ s2 with heap := s2.heap.push (freshSet X.w) } : Shared) = sz
  have I3 : Inv X pins σ (upd H2 D (TxtO X.prog X.w D [])) sz := by
    subst ez
    refine I2.laid (t' := s2.toks) (fun b o e => Heap.get?_push_of_some _ e) (Nat.le_of_eq hD) ?_
    subst hD
    exact txtO_ok (txt0 (Heap.get?_push_size _ rfl))
  have hh : sz.heap = s2.heap.push (freshSet X.w) := by subst ez; rfl
  have below : ∀ b ∈ fp, b < s2.heap.objs.size := fun b hb => (T.obj _ _ st2 b hb).elim fun o ho => Heap.lt_size ho.1
  have f3 : ∀ b ∈ fp, FpOk X pins (upd H2 D (TxtO X.prog X.w D [])) b ∧ b < sz.heap.objs.size := fun b hb => by
    refine ⟨⟨?_, (f2 b hb).2⟩, by rw [hh, Heap.size_push]; exact Nat.lt_succ_of_lt (below b hb)⟩
    rw [upd_ne (fun z => Nat.lt_irrefl _ (hD ▸ z ▸ below b hb))]
    exact (f2 b hb).1
  have st3 : tn 0 sz.heap := T.keep _ _ _ st2 fun b _ o e => by rw [hh]; exact Heap.get?_push_of_some _ e
  have I4 := block_start I3 ok ndN f3
  have pg := hg sz (upd H2 D (TxtO X.prog X.w D [])) sz.heap.objs.size (cellsFrom (sz.heap.objs.size + 1) scope.names (cloFrom X.env.cells scope.names [])) fp
  have pe := he sz (upd H2 D (TxtO X.prog X.w D [])) sz.heap.objs.size (cellsFrom (sz.heap.objs.size + 1) scope.names (cloFrom X.env.cells scope.names [])) fp
  show codeAny _ _ (.compStart (.SetComp elt [⟨tg, iter, [], 0⟩] scope pos) 0 (.ref it) (.ref D) (compEnvC scope (cellsFrom (sz.heap.objs.size + 1) scope.names (cloFrom X.env.cells scope.names [])) sz.heap.objs.size X.env)) (compPost (model X.prog X.w) X.A X.xe none _ (.ref D) sz.heap.objs.size) { sz with heap := pushCells (sz.heap.push { cls := .type "dict", data := .dict #[] }) scope.names }
  have nfp : ∀ b ∈ fp, (upd H2 D (TxtO X.prog X.w D [])) b = none := fun b hb => (f3 b hb).1.1
  generalize ec : compEnvC scope (cellsFrom (sz.heap.objs.size + 1) scope.names (cloFrom X.env.cells scope.names [])) sz.heap.objs.size X.env = ce at I4 pg pe ⊢
  have cl : ce.locals = sz.heap.objs.size := by subst ec; rfl
  generalize upd H2 D (TxtO X.prog X.w D []) = H3 at I3 I4 pg pe w0 nfp f3
  generalize e4 : ({ sz with heap := pushCells (sz.heap.push { cls := .type "dict", data := .dict #[] }) scope.names } : Shared) = s4 at I4 ⊢
  have st4 : tn 0 s4.heap := T.keep _ _ _ st3 fun b _ o e => by rw [← e4]; exact pushCells_keeps _ _ _ _ (Heap.get?_push_of_some _ e)
  have stat : ∀ {σ' : L2.St} {H' : Hp} {s' : Shared}, Inv (X.blk sz H3 scope ce fp) [] σ' H' s' → (∀ b ∈ fp, H' b = none) → ∀ b ∈ fp, FpOk (X.blk sz H3 scope ce fp) [] H' b := fun {_ _ _} K hn b hb =>
    ⟨hn b hb, (K.ok.exf b hb).1, K.ok.exfs b hb, .inl hb, fun x c e => (K.ok.exf b hb).2 x c e, fun p hp => absurd (show p ∈ ([] : List (Addr × Obj)) ++ [] from hp) (by simp)⟩
  have loop : codeAny (model X.prog X.w) X.A (.compLoop (.SetComp elt [⟨tg, iter, [], 0⟩] scope pos) 0 (.ref it) (.ref D) ce) (compPost (model X.prog X.w) X.A X.xe none (EP X pins σ Q) (.ref D) sz.heap.objs.size) s4 := by
    refine PpSet.compLoopS_any (fun n z => ∃ i H', Inv (X.blk sz H3 scope ce fp) [] (wipe σ (own.map (·.2))) H' z ∧ tn i z.heap ∧ (∀ b ∈ fp, H' b = none) ∧ W i n H') ?_ m0 ⟨0, H3, I4, st4, nfp, w0⟩
    rintro n s5 ⟨i, H5, I5, st5, n5, w5⟩
    rcases turn i n H5 w5 with ⟨stop, qq⟩ | ⟨go, Nx, hNx, step⟩
    · refine thnF (T.done (X.blk sz H3 scope ce fp) rfl rfl rfl quiet i [] s5 _ H5 (fun _ _ => False) I5 (stat I5 n5) st5 stop) fun r s6 ⟨hr, I6⟩ => ?_
      subst hr
      have I7 : Inv X pins σ H5 s6 := I3.call' (ch := fp) I6.os I6.base I6.hok I6.bare fun b hb => have u := (f3 b hb).1.2; ⟨u.2.2.1, u.1, u.2.2.2.1, u.2.2.2.2⟩
      have nC : H5 sz.heap.objs.size = none := cl ▸ (show H5 ce.locals = none from I6.free)
      obtain ⟨m, hn, _⟩ := I6.loc
      have hn' : s6.heap.Ns sz.heap.objs.size m := cl ▸ (show s6.heap.Ns ce.locals m from hn)
      obtain ⟨u0, u1, u2, u3, u4, u5⟩ := I3.fpOk (Nat.le_refl _) nC
      refine ⟨m, hn', fun k sb => ⟨.ref D, H5, I7.turned (t' := s6.toks) (fun b o hb e => (sb.2 b hb).trans e) u0 u1 u3 u4 u5, rfl, qq⟩⟩
    · refine thnF (T.item (X.blk sz H3 scope ce fp) rfl rfl rfl quiet i [] s5 _ H5 (fun _ _ => False) I5 (stat I5 n5) st5 go) fun r s6 ⟨u, hr, h6⟩ => ?_
      subst hr
      refine thnF h6 fun _ s7 ⟨x, H7, I7, r7, y7, st7, n7⟩ => ?_
      refine thnF (pg.run _ s7 _ H7 x u _ (I7.pinned (stat I7 n7) (T.obj _ _ st7)) r7 (step x H7 y7)) fun _ s8 ⟨σ8, H8, I8, hw8, q8⟩ => ?_
      refine thnF ((pts_nil (X := X.blk sz H3 scope ce fp)).run _ s8 σ8 H8 _ I8 (show tYes σ8 H8 (fun b K => b = true ∧ te σ8 K _) from ⟨rfl, q8⟩)) fun b s9 ⟨H9, I9, eb, q9⟩ => ?_
      subst eb
      simp only [if_true]
      refine thnF (pe.run _ s9 σ8 H9 _ I9 q9) fun z s10 ⟨yv, H10, I10, r10, zt, xs, ey, hD10, few, nx⟩ => ?_
      subst ey
      obtain ⟨tk, rfl⟩ := (show ∃ tk, z = Value.str zt tk from r10)
      refine add_txt (X := X.blk sz H3 scope ce fp) I10 hD10 few fun s11 I11 => ?_
      obtain ⟨m', hm, w'⟩ := hNx _ nx
      have pin : ∀ b ∈ fp, ∀ o, s7.heap.get? b = some o → s11.heap.get? b = some o ∧ (upd H10 D (TxtO X.prog X.w D (addT xs zt))) b = none := fun b hb o e =>
        have v := I11.pin (b, o) (List.mem_append_right _ (List.mem_append_right _ (mem_pinsAt hb e)))
        ⟨v.1, v.2.1⟩
      refine ⟨m', hm, i + 1, _, (I11.unpinned (pins := [])).weak (by rw [← hw8, wipe_length]) (fun j v e => ?_), T.keep _ _ _ st7 fun b hb o e => (pin b hb o e).1, fun b hb => ?_, w'⟩
      · rw [← hw8] at e
        exact (wipe_some e).1
      · exact (T.obj _ _ st7 b hb).elim fun o ho => (pin b hb o ho.1).2
  exact PpSet.codeAny_compStart_set loop (T.self X.A 0 _ _ _ st4 loop)
/-- len of such a set -/
theorem call_lenTxt : CallR X (.builtin "len") (fun xs H Q => ∃ (D : Addr) (l : List Str), xs = [.ref D] ∧ H D = some (TxtO X.prog X.w D l) ∧ l.length ≤ 1000 ∧ Q (.int (l.length : Nat)) H) := by
  intro pins s σ H xs us Q I r h
  obtain ⟨D, l, rfl, hD, few, q⟩ := h
  obtain ⟨u, rfl, ru⟩ := vals1 r
  cases ru
  obtain ⟨o, es, ep, tb, h1, h2, h3, _, _, _, h4, h5⟩ := (I.hok D _ hD).1
  exact call_len_set h1 h2 h3 h4 (by rw [h5]; omega) ⟨.int (l.length : Nat), H, I.tok _, ⟨_, by rw [h5]⟩, q⟩
end
end SH

set_option Elab.async false
set_option linter.all false
set_option maxRecDepth 100000
namespace SH
open PySem PySem.Spec PyProof.Rows L2
section
variable {X : Cx}
/-- y = {k: v for x in xs} -/
theorem ps_setDc {i : Nat} {y : PySem.Str} {py : Pos} {kx vx tg iter : Expr} {scope : Scope} {own : List (PySem.Str × Nat)} {pos spos : Pos} {wi : TI} {g : TG} {tk tv : TE} (quiet : X.calm = true) (ndN : X.N.Nodup) (hy : X.N[i]? = some y) (yl : X.env.scope.names.lookup y = some .local)
    (swap : swapsWith (.DictComp kx vx [⟨tg, iter, [], 0⟩] scope pos) (some (.Name y py)) spos.line X.env = pure true) (hi : PI X tg iter wi) (ok : BlkOk X.N X.env.scope scope own)
    (hg : ∀ (s : Shared) (H : Hp) (C : Addr) (cl : List (PySem.Str × Addr)) (fp : List Addr), PG (X.blk s H scope (compEnvC scope cl C X.env) fp) tg g)
    (hk : ∀ (s : Shared) (H : Hp) (C : Addr) (cl : List (PySem.Str × Addr)) (fp : List Addr), PE (X.blk s H scope (compEnvC scope cl C X.env) fp) kx tk)
    (hv : ∀ (s : Shared) (H : Hp) (C : Addr) (cl : List (PySem.Str × Addr)) (fp : List Addr), PE (X.blk s H scope (compEnvC scope cl C X.env) fp) vx tv) (fold : ∀ x, foldedSetIterable iter X.env x = pure x := by intro _; rfl) :
    PS X (.Assign [.Name y py] (.DictComp kx vx [⟨tg, iter, [], 0⟩] scope pos) spos) (tAsg (tDc wi g tYes tk tv (own.map (·.2))) (gName i)) := by
  refine ⟨fun pins s σ H D I h => ?_⟩
  rw [exec_Assign_Name_used _ _ _ _ swap]
  refine wpAny_bind (wpAny_standAt (wpAny_bind (show wpAny _ X.A (do let _ ← comprehension (.DictComp kx vx [⟨tg, iter, [], 0⟩] scope pos) scope X.env (firstIterPos [⟨tg, iter, [], 0⟩] pos) newDict false (eval iter X.env) (some (assign (.Name y py) X.env))) _ _ s from ?_)))
  refine wpAny_bind (thn (dc_core (Q := fun x H1 => gName i x σ H1 D.nx) (Qf := fun _ z => SP X pins D .next z) quiet ndN I hi ok hg (fun _ _ _ _ _ => pts_nil) hk hv fold h fun L C z m H' J q hn f => ?_) fun _ z hq => wpAny_pure (wpAny_pure hq))
  refine (show wpAny _ _ (assign (.Name y py) X.env (.ref L)) _ _ _ from wpAny_assign_Name (store_ok2 (v := V.ref L) J ndN hy (.inl yl) rfl (fun u J2 ⟨a, sb, ha⟩ => ?_) (.inr yl)))
  have other : C ≠ a := ha.elim (fun e => e ▸ f.2.1) fun e k => f.2.2.2.2.1 y a e k.symm
  exact ⟨m, hn.sameBut sb other, fun k sk => ⟨_, H', J2.turned (t' := u.toks) (fun b o hb e => (sk.2 b hb).trans e) f.1 f.2.1 f.2.2.2.1 f.2.2.2.2.1 f.2.2.2.2.2, q⟩⟩
theorem sw_dict {kx vx : Expr} {gs : List Comprehension} {scope : Scope} {pos py : Pos} {y : PySem.Str} {l : Nat} {env : Env} (hk : env.scope.kind = .function) (hy : env.scope.names.lookup y = some .local) (hl : (py.line == pos.line) = true)
    (ha : (scope.names.any fun (n, k) => n == y && (k == .local || k == .cell)) = false) : swapsWith (.DictComp kx vx gs scope pos) (some (.Name y py)) l env = pure true := by
  have k1 : env.kindOf y = some .local := hy
  have k2 : env.blockKind = .function := by unfold Env.blockKind; rw [hk]; rfl
  unfold swapsWith
  simp only [k2, k1, ha, Expr.pos, hl]
  rfl
/-- str(x) by an own __str__ -/
def rStrOwn (C : Addr) (sp : Sp) : List V → Hp → VK → Prop := fun xs H Q => ∃ (a dx : Addr) (fs : List (PySem.Str × V)), xs = [V.ref a] ∧ H a = some (.ins C dx fs) ∧ sp [.ref a] H (fun v H' => ∃ z, v = .str z ∧ Q v H') E0
theorem call_strOwn {C g : Addr} {gd : FuncData} {n : Nat} {sp : Sp} (hs : PySem.W.findIn X.K (.ref C) "__str__" = some (some (.ref g))) (hf : PySem.W.isFn X.K (.ref g) = true) (F : FnOk X.prog X.w X.K X.mg X.base CX0 n g gd ["self"] sp) (hb : Binds X.K gd ["self"] []) (hr : Room (n + 2) X.A) : CallR X (.type "str") (rStrOwn C sp) := by
  intro pins s σ H xs us Q I r h
  obtain ⟨a, dx, fs, rfl, ha, q⟩ := h
  obtain ⟨u, rfl, ru⟩ := vals1 r
  cases ru
  obtain ⟨mA, om, _⟩ := ins_get I.hok ha
  obtain ⟨od, J, _⟩ := om.look
  have room : Room n X.A.in1.in1 := (show Room (n + 1) X.A.in1 from Room.in1 hr).in1
  have hu : X.A.in1.in1.units < cLine := by have := room.un; omega
  have rv : Vals [V.ref a] [Value.ref a] := .cons rfl .nil
  refine PySem.W.kso_call hu I.kIn J hs hf (wpAny_call (codeAny_mono (F.run X.A.in1.in1 X.stack s H ⟨[.ref a], []⟩ [.ref a] [.ref a] _ E0 room I.env0.in1.in1 (hb s [.ref a] I.kIn rfl) rv q) fun r z hq => ?_))
  cases r with
  | error e => exact hq.elim
  | ok fl =>
    cases fl with
    | ret v =>
      obtain ⟨y, H', J2, ry, t, ey, fin⟩ := I.after hq
      subst ey
      obtain ⟨tk, rfl⟩ := (show ∃ tk, v = Value.str t tk from ry)
      exact ⟨.str t, H', J2, ⟨tk, rfl⟩, fin⟩
    | _ => exact False.elim hq
end
end SH

set_option Elab.async false
set_option linter.all false
set_option maxRecDepth 100000
namespace SH
open PySem L2
def topS (i : Nat) : Stmt := PySem.Challenge.pw_stealhall_k07_works_written.main.body.getD i (.Pass ⟨0, 0, 0, 0⟩)
abbrev sShow : Stmt := topS 5
abbrev sBind : Stmt := topS 6
abbrev sLeft : Stmt := topS 7
abbrev sRight : Stmt := topS 8
abbrev sPart : Stmt := topS 9
theorem scShow : FnScope ["tree", "sign", "left", "right"] ["tree"] (defScope sShow) := ⟨rfl, rfl, rfl, by decide +kernel, rfl, by decide +kernel, by decide +kernel⟩
theorem scBind : FnScope ["tree"] ["tree"] (defScope sBind) := ⟨rfl, rfl, rfl, by decide +kernel, rfl, by decide +kernel, by decide +kernel⟩
theorem scLeft : FnScope ["part", "sign", "binding"] ["part", "sign"] (defScope sLeft) := ⟨rfl, rfl, rfl, by decide +kernel, rfl, by decide +kernel, by decide +kernel⟩
theorem scRight : FnScope ["part", "sign"] ["part", "sign"] (defScope sRight) := ⟨rfl, rfl, rfl, by decide +kernel, rfl, by decide +kernel, by decide +kernel⟩
theorem scPart : FnScope ["part", "in_brackets", "text"] ["part", "in_brackets"] (defScope sPart) := ⟨rfl, rfl, rfl, by decide +kernel, rfl, by decide +kernel, by decide +kernel⟩
/-- what the module's dict BINDING tells -/
structure BindD (K : PySem.W.Frag) (w : World) (a : Addr) : Prop where
  lk : ∃ es n, K.lookup a = some ⟨.type "dict", none, .dict es n, #[]⟩ ∧ PySem.W.KeysLit w.params es.toList
  low : (a == sysModules) = false
  sg : ∀ g : Sg, ∃ u, PySem.W.nsIn K a g.txt = some (some u) ∧ RelV (.int g.lv) u
  num : PySem.W.nsIn K a "number" = some none
  nam : PySem.W.nsIn K a "name" = some none
theorem BindD.get {K : PySem.W.Frag} {w : World} {a : Addr} (B : BindD K w a) (e : Ex) : ∃ r, KGet K w a e.head r ∧ r.getD (.int 4) = .int e.lv := by
  obtain ⟨es, n, hl, hk⟩ := B.lk
  cases e with
  | num i => exact ⟨none, ⟨es, n, _, hl, hk, B.low, B.num, .inr ⟨rfl, rfl⟩⟩, rfl⟩
  | nam i => exact ⟨none, ⟨es, n, _, hl, hk, B.low, B.nam, .inr ⟨rfl, rfl⟩⟩, rfl⟩
  | op g l r =>
    obtain ⟨u, hu, ru⟩ := B.sg g
    exact ⟨some (.int g.lv), ⟨es, n, _, hl, hk, B.low, hu, .inl ⟨_, u, rfl, rfl, ru⟩⟩, rfl⟩
theorem BindD.ix {K : PySem.W.Frag} {w : World} {a : Addr} (B : BindD K w a) (g : Sg) : KDct K w a g.txt (.int g.lv) := by
  obtain ⟨es, n, hl, hk⟩ := B.lk
  obtain ⟨u, hu, ru⟩ := B.sg g
  exact ⟨es, n, u, hl, hk, hu, ru⟩
def spBind : Sp := fun vs H Q _ => ∃ (v : V) (e : Ex), vs = [v] ∧ TrIn H e v ∧ Q (.int e.lv) H
def spPart (n : Nat) : Sp := fun vs H Q _ => ∃ (v : V) (b : Bool) (e : Ex), vs = [v, .bl b] ∧ TrIn H e v ∧ Ex.ok n e ∧ Q (.str (br b e.txt)) H
def spLeft (n : Nat) : Sp := fun vs H Q _ => ∃ (v : V) (g : Sg) (e : Ex), vs = [v, .str g.txt] ∧ TrIn H e v ∧ Ex.ok n e ∧ Q (.str (br (lB g e) e.txt)) H
def spRight (n : Nat) : Sp := fun vs H Q _ => ∃ (v : V) (g : Sg) (e : Ex), vs = [v, .str g.txt] ∧ TrIn H e v ∧ Ex.ok n e ∧ Q (.str (br (rB g e) e.txt)) H
def spShow (n : Nat) : Sp := fun vs H Q _ => ∃ (v : V) (e : Ex), vs = [v] ∧ TrIn H e v ∧ Ex.ok n e ∧ Q (.str e.txt) H
section
variable {P : Program} {w : World} {K : PySem.W.Frag} {mg : Str → Option Value} {base : Heap}
theorem ok_bind {f aB : Addr} {fd : FuncData} {tL : Tok} (F : Fun K "binding_of" "binding_of" sBind f fd) (gB : mg "BINDING" = some (.ref aB)) (B : BindD K w aB) (gL : mg "LEAF_BINDING" = some (.int 4 tL)) :
    FnOk P w K mg base CX0 1 f fd ["tree"] spBind := by
  refine F.ok scBind (fun vs H Q E h => ?_) (fun cdv A outer s H vs Q E hr h => ?_)
  · obtain ⟨v, e, rfl, _⟩ := h
    rfl
  obtain ⟨v, e, rfl, hT, q⟩ := h
  refine ⟨_, pss_one (ps_ret (pe_kget2 (pe_glob (v := .ref aB) rfl gB rfl) (pe_ix ix_tup (pv 0) pe_int (fun _ _ => rfl)) (pe_glob (v := .int 4) rfl gL ⟨_, rfl⟩) ⟨rfl, rfl, rfl, rfl⟩)), ?_⟩
  obtain ⟨es, n, hl, hk⟩ := B.lk
  obtain ⟨a, xs, rfl, hx, h0⟩ := hT.tup
  obtain ⟨r, hr', er⟩ := B.get e
  refine ⟨aB, es, n, rfl, hl, hk, _, rfl, a, xs, 0, _, rfl, rfl, SqT.of hx, atI_nat h0, e.head, r, rfl, hr', ?_⟩
  rw [er]
  exact q
theorem ok_part {n k : Nat} {f g : Addr} {fd gd : FuncData} (F : Fun K "show_part" "show_part" sPart f fd) (G : FnOk P w K mg base CX0 k g gd ["tree"] (spShow n)) (bG : Binds K gd ["tree"] []) (kG : PySem.W.keepIn K (.ref g) = true) (mG : mg "show_expression" = some (.ref g)) (hn : lenB n ≤ 1000000) :
    FnOk P w K mg base CX0 (k + 1) f fd ["part", "in_brackets"] (spPart n) := by
  refine F.ok scPart (fun vs H Q E h => ?_) (fun cdv A outer s H vs Q E hr h => ?_)
  · obtain ⟨v, b, e, rfl, _⟩ := h
    rfl
  obtain ⟨v, b, e, rfl, hT, ho, q⟩ := h
  refine ⟨_, pss_cons (ps_set (i := 2) scPart.nd rfl (Or.inl rfl) (pe_call G hr rfl mG kG bG .nil pass0 (pa_cons (pv 0) pa_nil)))
    (pss_one (ps_ret (pe_ifExp (pt_val (pv 1)) (pe_joined (.cons pe_str (.cons (pe_fmt (pv 2)) (.cons pe_str .nil)))) (pv 2)))), ?_⟩
  have hl := Ex.len n e ho
  have hs : sizeLine = 16777216 := by decide
  refine ⟨_, rfl, v, e, rfl, hT, ho, ?_⟩
  refine ⟨_, rfl, _, rfl, ?_⟩
  cases b with
  | false =>
    refine iteF ⟨_, rfl, ?_⟩
    exact q
  | true =>
    refine iteT ⟨_, rfl, ?_⟩
    have h1 : ("(" : Str).length = 1 := by decide +kernel
    have h2 : (")" : Str).length = 1 := by decide +kernel
    rw [emp_app]
    refine ⟨by omega, _, rfl, .inl ⟨_, rfl, by omega, _, rfl, ?_, _, rfl, ?_, ?_⟩⟩
    · rw [app_len]; omega
    · rw [app_len, app_len]; omega
    · exact q
theorem ok_left {n k : Nat} {f g b aB : Addr} {fd gd bd : FuncData} {tC : Tok} (F : Fun K "show_left" "show_left" sLeft f fd) (G : FnOk P w K mg base CX0 (k + 1) g gd ["part", "in_brackets"] (spPart n)) (bG : Binds K gd ["part", "in_brackets"] []) (kG : PySem.W.keepIn K (.ref g) = true) (mG : mg "show_part" = some (.ref g))
    (N : FnOk P w K mg base CX0 1 b bd ["tree"] spBind) (bN : Binds K bd ["tree"] []) (kN : PySem.W.keepIn K (.ref b) = true) (mN : mg "binding_of" = some (.ref b))
    (gB : mg "BINDING" = some (.ref aB)) (B : BindD K w aB) (gC : mg "COMPARISON_BINDING" = some (.int 1 tC)) :
    FnOk P w K mg base CX0 (k + 2) f fd ["part", "sign"] (spLeft n) := by
  refine F.ok scLeft (fun vs H Q E h => ?_) (fun cdv A outer s H vs Q E hr h => ?_)
  · obtain ⟨v, g, e, rfl, _⟩ := h
    rfl
  obtain ⟨v, sg, e, rfl, hT, ho, q⟩ := h
  refine ⟨_, pss_cons (ps_set (i := 2) scLeft.nd rfl (Or.inl rfl) (pe_call N (hr.mono (by omega)) rfl mN kN bN .nil pass0 (pa_cons (pv 0) pa_nil)))
    (pss_one (ps_ret (pe_call G hr rfl mG kG bG .nil pass0 (pa_cons (pv 0) (pa_cons (pe_or (pe_cmpR op_lt (pv 2) (pe_ix ix_kdict (pe_glob (v := .ref aB) rfl gB rfl) (pv 1) (fun _ _ => rfl)) (nomark _))
      (pe_one (pe_cmpR op_eq (pv 2) (pe_glob (v := .int 1) rfl gC ⟨_, rfl⟩) (nomark _)))) pa_nil))))), ?_⟩
  refine ⟨_, rfl, v, e, rfl, hT, ?_⟩
  refine ⟨_, rfl, _, rfl, _, rfl, aB, sg.txt, _, rfl, rfl, B.ix sg, _, _, rfl, rfl, _, rfl, ?_⟩
  have fin : ∀ b, b = lB sg e → spPart n [v, .bl b] H Q E := fun b hb => ⟨v, b, e, rfl, hT, ho, by rw [hb]; exact q⟩
  refine ite2 (fun c => ?_) (fun c => ?_)
  · exact fin true (by unfold lB; rw [c]; rfl)
  · refine ⟨_, rfl, rfl, ?_⟩
    refine fin _ ?_
    unfold lB
    rw [Bool.eq_false_iff.mpr c, Bool.false_or]
    by_cases h1 : e.lv = 1
    · rw [h1]; rfl
    · rw [decide_eq_false h1]
      exact decide_eq_false fun z => h1 (V.int.inj z)
theorem ok_right {n k : Nat} {f g b aB : Addr} {fd gd bd : FuncData} (F : Fun K "show_right" "show_right" sRight f fd) (G : FnOk P w K mg base CX0 (k + 1) g gd ["part", "in_brackets"] (spPart n)) (bG : Binds K gd ["part", "in_brackets"] []) (kG : PySem.W.keepIn K (.ref g) = true) (mG : mg "show_part" = some (.ref g))
    (N : FnOk P w K mg base CX0 1 b bd ["tree"] spBind) (bN : Binds K bd ["tree"] []) (kN : PySem.W.keepIn K (.ref b) = true) (mN : mg "binding_of" = some (.ref b))
    (gB : mg "BINDING" = some (.ref aB)) (B : BindD K w aB) :
    FnOk P w K mg base CX0 (k + 2) f fd ["part", "sign"] (spRight n) := by
  refine F.ok scRight (fun vs H Q E h => ?_) (fun cdv A outer s H vs Q E hr h => ?_)
  · obtain ⟨v, g, e, rfl, _⟩ := h
    rfl
  obtain ⟨v, sg, e, rfl, hT, ho, q⟩ := h
  refine ⟨_, pss_one (ps_ret (pe_call G hr rfl mG kG bG .nil pass0 (pa_cons (pv 0) (pa_cons (pe_cmpR op_le (pe_call N (hr.mono (by omega)) rfl mN kN bN .nil pass0 (pa_cons (pv 0) pa_nil)) (pe_ix ix_kdict (pe_glob (v := .ref aB) rfl gB rfl) (pv 1) (fun _ _ => rfl)) (nomark _)) pa_nil)))), ?_⟩
  refine ⟨_, rfl, _, rfl, v, e, rfl, hT, _, rfl, aB, sg.txt, _, rfl, rfl, B.ix sg, _, _, rfl, rfl, ?_⟩
  exact ⟨v, _, e, rfl, hT, ho, q⟩
theorem ok_show {n k : Nat} {f l r : Addr} {fd ld rd : FuncData} (F : Fun K "show_expression" "show_expression" sShow f fd) (GL : FnOk P w K mg base CX0 (k + 2) l ld ["part", "sign"] (spLeft n)) (bL : Binds K ld ["part", "sign"] []) (kL : PySem.W.keepIn K (.ref l) = true) (mL : mg "show_left" = some (.ref l))
    (GR : FnOk P w K mg base CX0 (k + 2) r rd ["part", "sign"] (spRight n)) (bR : Binds K rd ["part", "sign"] []) (kR : PySem.W.keepIn K (.ref r) = true) (mR : mg "show_right" = some (.ref r)) (ms : mg "str" = none) (hn : lenB n ≤ 1000000) :
    FnOk P w K mg base CX0 (k + 3) f fd ["tree"] (spShow (n + 1)) := by
  refine F.ok scShow (fun vs H Q E h => ?_) (fun cdv A outer s H vs Q E hr h => ?_)
  · obtain ⟨v, e, rfl, _⟩ := h
    rfl
  obtain ⟨v, e, rfl, hT, ho, q⟩ := h
  refine ⟨_, pss_cons (ps_if (pt_cmpR op_eq (pe_ix ix_tup (pv 0) pe_int (fun _ _ => rfl)) pe_str (nomark _)) (pss_one (ps_ret (pe_callTy call_str_int (by rfl) ms (by decide +kernel) (pa_cons (pe_ix ix_tup (pv 0) pe_int (fun _ _ => rfl)) pa_nil)))) pss_nil)
    (pss_cons (ps_if (pt_cmpR op_eq (pe_ix ix_tup (pv 0) pe_int (fun _ _ => rfl)) pe_str (nomark _)) (pss_one (ps_ret (pe_ix ix_tup (pv 0) pe_int (fun _ _ => rfl)))) pss_nil)
    (pss_cons (ps_asg (pv 0) (pg_tup rfl (pgs_cons (pg_name (i := 1) scShow.nd rfl (.inl rfl)) (pgs_cons (pg_name (i := 2) scShow.nd rfl (.inl rfl)) (pgs_cons (pg_name (i := 3) scShow.nd rfl (.inl rfl)) pgs_nil)))))
    (pss_one (ps_ret (pe_joined (.cons (pe_fmt (pe_call GL hr rfl mL kL bL .nil pass0 (pa_cons (pv 2) (pa_cons (pv 1) pa_nil)))) (.cons pe_str (.cons (pe_fmt (pv 1)) (.cons pe_str (.cons (pe_fmt (pe_call GR hr rfl mR kR bR .nil pass0 (pa_cons (pv 3) (pa_cons (pv 1) pa_nil)))) .nil)))))))))), ?_⟩
  have hs : sizeLine = 16777216 := by decide
  cases e with
  | num i =>
    obtain ⟨a, rfl, ha⟩ := hT
    refine ⟨_, rfl, a, _, 0, _, rfl, rfl, SqT.of ha, atI_nat rfl, rfl, _, rfl, ?_⟩
    rw [decide_eq_true rfl]
    refine iteT ⟨_, rfl, a, _, 1, _, rfl, rfl, SqT.of ha, atI_nat (j := 1) rfl, _, rfl, ho, ?_⟩
    exact q
  | nam z =>
    obtain ⟨a, rfl, ha⟩ := hT
    refine ⟨_, rfl, a, _, 0, _, rfl, rfl, SqT.of ha, atI_nat rfl, rfl, _, rfl, ?_⟩
    rw [decide_eq_false (by intro z; have := V.str.inj z; revert this; decide +kernel)]
    refine iteF ?_
    refine ⟨_, rfl, a, _, 0, _, rfl, rfl, SqT.of ha, atI_nat rfl, rfl, _, rfl, ?_⟩
    rw [decide_eq_true rfl]
    refine iteT ⟨_, rfl, a, _, 1, _, rfl, rfl, SqT.of ha, atI_nat (j := 1) rfl, ?_⟩
    exact q
  | op g l r =>
    obtain ⟨a, x, y, rfl, ha, hl, hr'⟩ := hT
    obtain ⟨o1, o2⟩ := ho
    have l1 := Ex.len n l o1
    have l2 := Ex.len n r o2
    have q1 := br_len (lB g l) l.txt
    have q2 := br_len (rB g r) r.txt
    have q3 := g.len
    have hb : (" " : Str).length = 1 := by decide +kernel
    refine ⟨_, rfl, a, _, 0, _, rfl, rfl, SqT.of ha, atI_nat rfl, rfl, _, rfl, ?_⟩
    rw [decide_eq_false (by intro z; exact g.ne_number (V.str.inj z))]
    refine iteF ?_
    refine ⟨_, rfl, a, _, 0, _, rfl, rfl, SqT.of ha, atI_nat rfl, rfl, _, rfl, ?_⟩
    rw [decide_eq_false (by intro z; exact g.ne_name (V.str.inj z))]
    refine iteF ?_
    refine ⟨_, rfl, a, _, rfl, SqT.of ha, rfl, _, _, rfl, _, _, rfl, _, _, rfl, rfl, ?_⟩
    refine ⟨_, rfl, _, rfl, x, g, l, rfl, hl, o1, .inl ⟨_, rfl, by omega, _, rfl, ?_, ?_⟩⟩
    · rw [emp_app]; omega
    rw [emp_app]
    refine ⟨_, rfl, by rw [app_len]; omega, _, rfl, .inl ⟨_, rfl, by omega, _, rfl, by rw [app_len, app_len]; omega, _, rfl, by rw [app_len, app_len, app_len]; omega, ?_⟩⟩
    refine ⟨_, rfl, _, rfl, y, g, r, rfl, hr', o2, .inl ⟨_, rfl, by omega, _, rfl, by rw [app_len, app_len, app_len, app_len]; omega, ?_⟩⟩
    exact q
theorem show_none {f : Addr} {fd : FuncData} : FnOk P w K mg base CX0 0 f fd ["tree"] (spShow 0) := by
  have no : ∀ vs H Q E, ¬ spShow 0 vs H Q E := fun vs H Q E h => by
    obtain ⟨v, e, _, _, h1, _⟩ := h
    exact h1
  exact ⟨fun vs H Q E h => absurd h (no vs H Q E), fun A outer s H args us vs Q E _ _ _ _ h => absurd h (no vs H Q E)⟩
theorem lenB_le : ∀ {n m : Nat}, n ≤ m → lenB n ≤ lenB m
  | 0, 0, _ => Nat.le_refl _
  | 0, m + 1, _ => by
    have := lenB_le (n := 0) (m := m) (Nat.zero_le _)
    show lenB 0 ≤ 2 * lenB m + 2000
    omega
  | n + 1, m + 1, h => by
    have := lenB_le (n := n) (m := m) (by omega)
    show 2 * lenB n + 2000 ≤ 2 * lenB m + 2000
    omega
theorem shows {fS fB fL fR fP aB : Addr} {dS dB dL dR dP : FuncData} {tC tL : Tok} (FS : Fun K "show_expression" "show_expression" sShow fS dS) (FB : Fun K "binding_of" "binding_of" sBind fB dB) (FL : Fun K "show_left" "show_left" sLeft fL dL)
    (FR : Fun K "show_right" "show_right" sRight fR dR) (FP : Fun K "show_part" "show_part" sPart fP dP) (mS : mg "show_expression" = some (.ref fS)) (mB : mg "binding_of" = some (.ref fB)) (mL : mg "show_left" = some (.ref fL)) (mR : mg "show_right" = some (.ref fR)) (mP : mg "show_part" = some (.ref fP))
    (bS : Binds K dS ["tree"] []) (bB : Binds K dB ["tree"] []) (bL : Binds K dL ["part", "sign"] []) (bR : Binds K dR ["part", "sign"] []) (bP : Binds K dP ["part", "in_brackets"] [])
    (gB : mg "BINDING" = some (.ref aB)) (B : BindD K w aB) (gC : mg "COMPARISON_BINDING" = some (.int 1 tC)) (gL : mg "LEAF_BINDING" = some (.int 4 tL)) (ms : mg "str" = none) :
    ∀ n : Nat, n ≤ 7 → FnOk P w K mg base CX0 (3 * n) fS dS ["tree"] (spShow n)
  | 0, _ => show_none
  | n + 1, hn => by
    have ih := shows FS FB FL FR FP mS mB mL mR mP bS bB bL bR bP gB B gC gL ms n (by omega)
    have hl : lenB n ≤ 1000000 := Nat.le_trans (lenB_le (m := 7) (by omega)) (by decide)
    have GP := ok_part FP ih bS FS.kp mS hl
    have GB := ok_bind (P := P) (base := base) FB gB B gL
    have GL := ok_left FL GP bP FP.kp mP GB bB FB.kp mB gB B gC
    have GR := ok_right FR GP bP FP.kp mP GB bB FB.kp mB gB B
    exact ok_show FS GL bL FL.kp mL GR bR FR.kp mR ms hl
end
end SH

set_option Elab.async false
set_option linter.all false
set_option maxRecDepth 100000
namespace SH
open PySem L2
abbrev sBag : Stmt := topS 57
abbrev sTake : Stmt := topS 58
theorem scBag : FnScope ["_law_script", "_law_k", "_law_cell"] ["_law_script", "_law_k"] (defScope sBag) := ⟨rfl, rfl, rfl, by decide +kernel, rfl, by decide +kernel, by decide +kernel⟩
theorem scTake : FnScope ["_law_bag_here", "_law_many", "_law_digit", "_law_primes", "_law_step", "_law_base", "_law_found", "_law_prime"] ["_law_bag_here", "_law_many"] (defScope sTake) := ⟨rfl, rfl, rfl, by decide +kernel, rfl, by decide +kernel, by decide +kernel⟩
/-- the names of the built-ins are free -/
structure Bi (mg : Str → Option Value) : Prop where
  len : mg "len" = none
  abs : mg "abs" = none
  int : mg "int" = none
  str : mg "str" = none
  range : mg "range" = none
  max : mg "max" = none
  min : mg "min" = none
  isinstance : mg "isinstance" = none
  all : mg "all" = none
/-- a def that can be called -/
structure Fk (P : Program) (w : World) (K : PySem.W.Frag) (mg : Str → Option Value) (base : Heap) (lv : Nat) (x : Str) (f : Addr) (fd : FuncData) (ps : List Str) (sp : Sp) : Prop where
  G : FnOk P w K mg base CX0 lv f fd ps sp
  m : mg x = some (.ref f)
  k : PySem.W.keepIn K (.ref f) = true
  b : Binds K fd ps []
/-- a bag from which n can be taken -/
def Bag (H : Hp) (b : Addr) (n : Nat) : Prop := ∃ x y z : Int, H b = some (.lst [.int x, .int y, .int z]) ∧ 0 ≤ x ∧ 0 ≤ y ∧ y ≤ 4294967296 ∧ 0 ≤ z ∧ z + n ≤ 16777216
theorem Bag.less {H : Hp} {b : Addr} {n m : Nat} (h : Bag H b n) (hm : m ≤ n) : Bag H b m := by
  obtain ⟨x, y, z, e, h1, h2, h3, h4, h5⟩ := h
  exact ⟨x, y, z, e, h1, h2, h3, h4, by omega⟩
theorem Bag.same {H H' : Hp} {b : Addr} {n : Nat} (h : Bag H b n) (s : Same H H') : Bag H' b n := by
  obtain ⟨x, y, z, e, r⟩ := h
  exact ⟨x, y, z, s _ _ e, r⟩
theorem Bag.lst {H : Hp} {b : Addr} {n : Nat} (h : Bag H b n) : ∃ ys, H b = some (.lst ys) := by
  obtain ⟨x, y, z, e, _⟩ := h
  exact ⟨_, e⟩
def spBag (K : PySem.W.Frag) : Sp := fun vs H Q _ => ∃ (a : Addr) (ns : List Int) (k : Int), vs = [.ref a, .int k] ∧ SqL K H a (ns.map V.int) ∧ 0 ≤ k ∧ k ≤ 63 ∧
  ∀ b H', Same H H' → H b = none → Bag H' b 16000000 → Q (.ref b) H'
def spTake : Sp := fun vs H Q _ => ∃ (b : Addr) (m : Int) (n : Nat), vs = [.ref b, .int m] ∧ 0 < m ∧ m < 1073741824 ∧ Bag H b (n + 1) ∧
  ∀ (d : Int) (H' : Hp), 0 ≤ d → d < m → Bag H' b n → But b H H' → Q (.int d) H'
theorem bit01 (b : Bool) : -(2 ^ 64) < (if b = true then (1 : Int) else 0) ∧ (if b = true then (1 : Int) else 0) < 2 ^ 64 := by cases b <;> decide
theorem bit0 (b : Bool) : 0 ≤ (if b = true then (1 : Int) else 0) := by cases b <;> decide
section
variable {P : Program} {w : World} {K : PySem.W.Frag} {mg : Str → Option Value} {base : Heap}
theorem ok_bag {f : Addr} {fd : FuncData} (F : Fun K "_law_bag" "_law_bag" sBag f fd) (T : Bi mg) : FnOk P w K mg base CX0 1 f fd ["_law_script", "_law_k"] (spBag K) := by
  refine F.ok scBag (fun vs H Q E h => ?_) (fun cdv A outer s H vs Q E hr h => ?_)
  · obtain ⟨a, ns, k, rfl, _⟩ := h
    rfl
  obtain ⟨a, ns, k, rfl, hS, h0, h1, q⟩ := h
  refine ⟨_, (pss_cons (ps_set (i := 2) scBag.nd rfl (Or.inl rfl) (pe_op op_add (pe_op op_mul pe_int (pv 1)) pe_int))
    (C8.pss_cut (ps_if (pt_cmpR op_lt (pv 1) (pe_callB call_len_seq (by rfl) T.len (by decide +kernel) (pa_cons (pv 0) pa_nil)) (nomark _))
      (pss_one (ps_set (i := 2) scBag.nd rfl (Or.inl rfl) (pe_ix ix_list (pv 0) (pv 1) (fun _ _ => rfl))))
      pss_nil)
    (pss_one (ps_ret (pe_lst (pa_cons (pe_op op_mul (pe_callB call_abs (by rfl) T.abs (by decide +kernel) (pa_cons (pv 2) pa_nil)) (pe_callTy call_int1 (by rfl) T.int (by decide +kernel) (pa_cons (pe_cmpR op_ge (pe_callB call_abs (by rfl) T.abs (by decide +kernel) (pa_cons (pv 2) pa_nil)) (pe_op op_pow pe_int pe_int) (nomark _)) pa_nil))) (pa_cons (pe_op op_add (pe_op op_mod (pv 2) pe_int) (pe_op op_mul pe_int (pv 1))) (pa_cons pe_int pa_nil)))))))), ?_⟩
  have hl : (ns.map V.int).length = ns.length := List.length_map _
  refine ⟨_, rfl, _, _, rfl, rfl, .inl ⟨by decide, by decide⟩, _, _, rfl, rfl, ?_⟩
  refine ⟨fun σ' H' => ∃ c : Int, σ' = [some (.ref a), some (.int k), some (.int c)] ∧ H' = H, ?_, ?_⟩
  · refine ⟨_, rfl, _, rfl, a, _, rfl, .inl hS, _, _, rfl, rfl, _, rfl, ?_⟩
    refine ite2 (fun c => ?_) (fun c => ?_)
    · have c' := of_decide_eq_true c
      rw [hl] at c'
      have hk : k.toNat < ns.length := by omega
      refine ⟨_, rfl, _, rfl, a, _, k, .int ns[k.toNat], rfl, rfl, hS, ?_, ?_⟩
      · have q : atI (ns.map V.int) ((k.toNat : Nat) : Int) = some (.int ns[k.toNat]) := atI_nat (by rw [List.getElem?_map, List.getElem?_eq_getElem hk] <;> rfl)
        rwa [show ((k.toNat : Nat) : Int) = k by omega] at q
      · exact ⟨_, rfl, rfl⟩
    · exact ⟨_, rfl, rfl⟩
  · rintro σ' H' ⟨c, rfl, rfl⟩
    refine ⟨_, rfl, _, rfl, _, rfl, _, rfl, _, _, rfl, rfl, ⟨by decide, by decide, by decide⟩, _, _, rfl, rfl, .inr ⟨_, rfl, ?_⟩⟩
    refine ⟨_, _, rfl, rfl, .inr ?_, ?_⟩
    · exact bit01 _
    refine ⟨_, rfl, _, _, rfl, rfl, (by show (0 : Int) < 2147483647; decide), _, rfl, _, _, rfl, rfl, .inl ⟨by decide, by decide⟩, _, _, rfl, rfl, ?_⟩
    refine ⟨by show 3 ≤ sizeLine; decide, fun b hb => ?_⟩
    refine q b _ (same_new hb _) hb ⟨_, _, _, upd_same, ?_, ?_, ?_, Int.le_refl 0, by decide⟩
    · show 0 ≤ (if c < 0 then -c else c) * (if decide ((10 : Int) ^ 18 ≤ (if c < 0 then -c else c)) = true then (1 : Int) else 0)
      refine Int.mul_nonneg ?_ ?_
      · split <;> omega
      · exact bit0 _
    · have := Int.emod_nonneg c (show (2147483647 : Int) ≠ 0 by decide)
      show 0 ≤ c % 2147483647 + 37 * k
      omega
    · have := Int.emod_lt_of_pos c (show (0 : Int) < 2147483647 by decide)
      show c % 2147483647 + 37 * k ≤ 4294967296
      omega
theorem pow3 {a : Int} (h0 : 0 ≤ a) (h : a < 4611686018427387904) : CPow a 3 := ⟨by decide, by decide, by omega⟩
def primes : List Int := [2147483647, 2147483629, 2147483587, 2147483579, 2147483563, 2147483549, 2147483543, 2147483497, 2147483489, 2147483477, 2147483423, 2147483399]
theorem primes_at {z : Int} : ∃ p : Int, atI (primes.map V.int) (z % 12) = some (.int p) ∧ 0 < p ∧ p < 2147483648 := by
  have h0 := Int.emod_nonneg z (show (12 : Int) ≠ 0 by decide)
  have h1 := Int.emod_lt_of_pos z (show (0 : Int) < 12 by decide)
  have hk : (z % 12).toNat < primes.length := by show (z % 12).toNat < 12; omega
  have q : atI (primes.map V.int) (((z % 12).toNat : Nat) : Int) = some (.int primes[(z % 12).toNat]) := atI_nat (by rw [List.getElem?_map, List.getElem?_eq_getElem hk] <;> rfl)
  rw [show (((z % 12).toNat : Nat) : Int) = z % 12 by omega] at q
  have all : ∀ p ∈ primes, 0 < p ∧ p < 2147483648 := by decide
  exact ⟨_, q, all _ (List.getElem_mem hk)⟩
theorem base_le {y z : Int} (h2 : 0 ≤ y) (h3 : y ≤ 4294967296) (h4 : 0 ≤ z) (h5 : z ≤ 16777217) : 0 ≤ y * (2 * z + 1) + 7919 * z * z + 29 ∧ y * (2 * z + 1) + 7919 * z * z + 29 < 4611686018427387904 := by
  have a1 : y * (2 * z + 1) ≤ 4294967296 * 67108864 := Int.mul_le_mul h3 (by omega) (by omega) (by omega)
  have a2 : 0 ≤ y * (2 * z + 1) := Int.mul_nonneg h2 (by omega)
  have b1 : 7919 * z * z ≤ 132858781423 * 16777217 := Int.mul_le_mul (by omega) h5 h4 (by omega)
  have b2 : 0 ≤ 7919 * z * z := Int.mul_nonneg (by omega) h4
  omega
theorem ok_take {f : Addr} {fd : FuncData} (F : Fun K "_law_take" "_law_take" sTake f fd) : FnOk P w K mg base CX0 1 f fd ["_law_bag_here", "_law_many"] spTake := by
  refine F.ok scTake (fun vs H Q E h => ?_) (fun cdv A outer s H vs Q E hr h => ?_)
  · obtain ⟨b, m, n, rfl, _⟩ := h
    rfl
  obtain ⟨b, m, n, rfl, hm0, hm1, ⟨x, y, z, hb, hx, hy, hy1, hz, hz1⟩, q⟩ := h
  refine ⟨_, (pss_cons (ps_if (pt_cmpR op_gt (pe_ix ix_list (pv 0) pe_int (fun _ _ => rfl)) pe_int (nomark _))
      (pss_cons (ps_set (i := 2) scTake.nd rfl (Or.inl rfl) (pe_op op_mod (pe_ix ix_list (pv 0) pe_int (fun _ _ => rfl)) (pv 1)))
    (pss_cons (ps_asg (pe_op op_fdiv (pe_ix ix_list (pv 0) pe_int (fun _ _ => rfl)) (pv 1)) (pg_sub (pv 0) pe_int set_list))
    (pss_one (ps_ret (pv 2)))))
      pss_nil)
    (pss_cons (ps_set (i := 3) scTake.nd rfl (Or.inl rfl) (pe_tup (pa_cons pe_int (pa_cons pe_int (pa_cons pe_int (pa_cons pe_int (pa_cons pe_int (pa_cons pe_int (pa_cons pe_int (pa_cons pe_int (pa_cons pe_int (pa_cons pe_int (pa_cons pe_int (pa_cons pe_int pa_nil))))))))))))))
    (pss_cons (ps_asg (pe_op op_add (pe_ix ix_list (pv 0) pe_int (fun _ _ => rfl)) pe_int) (pg_sub (pv 0) pe_int set_list))
    (pss_cons (ps_set (i := 4) scTake.nd rfl (Or.inl rfl) (pe_ix ix_list (pv 0) pe_int (fun _ _ => rfl)))
    (pss_cons (ps_set (i := 5) scTake.nd rfl (Or.inl rfl) (pe_op op_add (pe_op op_add (pe_op op_mul (pe_ix ix_list (pv 0) pe_int (fun _ _ => rfl)) (pe_op op_add (pe_op op_mul pe_int (pv 4)) pe_int)) (pe_op op_mul (pe_op op_mul pe_int (pv 4)) (pv 4))) pe_int))
    (pss_cons (ps_set (i := 6) scTake.nd rfl (Or.inl rfl) (pe_op op_mod (pe_op op_pow (pv 5) pe_int) (pe_ix ix_tup (pv 3) (pe_op op_mod (pv 4) pe_int) (fun _ _ => rfl))))
    (pss_cons (ps_set (i := 7) scTake.nd rfl (Or.inl rfl) (pe_ix ix_tup (pv 3) (pe_op op_mod (pe_op op_add (pv 4) pe_int) pe_int) (fun _ _ => rfl)))
    (pss_one (ps_ret (pe_op op_mod (pe_op op_fdiv (pe_op op_mod (pe_op op_mul (pv 6) (pe_op op_add (pe_op op_fdiv (pv 6) pe_int) pe_int)) (pv 7)) pe_int) (pv 1))))))))))), ?_⟩
  have i0 : ∀ {u v t : V}, atI [u, v, t] 0 = some u := fun {u v t} => atI_nat (j := 0) rfl
  have i1 : ∀ {u v t : V}, atI [u, v, t] 1 = some v := fun {u v t} => atI_nat (j := 1) rfl
  have i2 : ∀ {u v t : V}, atI [u, v, t] 2 = some t := fun {u v t} => atI_nat (j := 2) rfl
  refine ⟨_, rfl, b, _, 0, _, rfl, rfl, SqL.of hb, i0, _, _, rfl, rfl, _, rfl, ?_⟩
  refine ite2 (fun c => ?_) (fun c => ?_)
  · refine ⟨_, rfl, b, _, 0, _, rfl, rfl, SqL.of hb, i0, _, rfl, _, _, rfl, rfl, hm0, ?_⟩
    refine ⟨_, rfl, b, _, 0, _, rfl, rfl, SqL.of hb, i0, _, rfl, _, _, rfl, rfl, ⟨hm0, hm1⟩, ?_⟩
    refine ⟨_, rfl, b, _, 0, 0, rfl, rfl, hb, rfl, ?_⟩
    refine ⟨_, rfl, ?_⟩
    refine q _ _ (Int.emod_nonneg x (by omega)) (Int.emod_lt_of_pos x hm0) ⟨_, y, z, upd_same, Int.ediv_nonneg hx (by omega), hy, hy1, hz, by omega⟩ fun a o na e => ?_
    rw [upd_ne na]
    exact e
  · refine ⟨by show 12 ≤ sizeLine; decide, fun t ht => ?_⟩
    have nt : b ≠ t := ne_of_none hb ht
    have hb1 : (upd H t (.tup (primes.map V.int))) b = some (.lst [.int x, .int y, .int z]) := by rw [upd_ne nt]; exact hb
    refine ⟨_, rfl, b, _, 2, _, rfl, rfl, SqL.of hb1, i2, _, _, rfl, rfl, ?_⟩
    refine ⟨_, rfl, b, _, 2, 2, rfl, rfl, hb1, rfl, ?_⟩
    have hb2 : (upd (upd H t (.tup (primes.map V.int))) b (.lst [.int x, .int y, .int (z + 1)])) b = some (.lst [.int x, .int y, .int (z + 1)]) := upd_same
    have ht2 : (upd (upd H t (.tup (primes.map V.int))) b (.lst [.int x, .int y, .int (z + 1)])) t = some (.tup (primes.map V.int)) := by rw [upd_ne (Ne.symm nt), upd_same]
    refine ⟨_, rfl, b, _, 2, _, rfl, rfl, SqL.of hb2, i2, ?_⟩
    obtain ⟨c0, c1⟩ := base_le (y := y) (z := z + 1) hy hy1 (by omega) (by omega)
    refine ⟨_, rfl, b, _, 1, _, rfl, rfl, SqL.of hb2, i1, _, rfl, _, _, rfl, rfl, .inl ⟨by decide, by decide⟩, _, _, rfl, rfl, _, _, rfl, rfl, .inl ⟨by omega, by omega⟩, ?_⟩
    refine ⟨_, rfl, _, _, rfl, rfl, .inl ⟨by decide, by decide⟩, _, rfl, _, _, rfl, rfl, .inl ⟨by omega, by omega⟩, _, _, rfl, rfl, _, _, rfl, rfl, ?_⟩
    obtain ⟨p1, e1, p1a, p1b⟩ := primes_at (z := z + 1)
    obtain ⟨p2, e2, p2a, p2b⟩ := primes_at (z := z + 1 + 5)
    refine ⟨_, rfl, _, _, rfl, rfl, pow3 c0 c1, _, rfl, _, rfl, _, _, rfl, rfl, (by show (0 : Int) < 12; decide), t, _, _, _, rfl, rfl, SqT.of ht2, e1, _, _, rfl, rfl, p1a, ?_⟩
    refine ⟨_, rfl, _, rfl, _, _, rfl, rfl, _, _, rfl, rfl, (by show (0 : Int) < 12; decide), t, _, _, _, rfl, rfl, SqT.of ht2, e2, ?_⟩
    have f0 := Int.emod_nonneg ((y * (2 * (z + 1) + 1) + 7919 * (z + 1) * (z + 1) + 29) ^ 3) (show p1 ≠ 0 by omega)
    have f1 := Int.emod_lt_of_pos ((y * (2 * (z + 1) + 1) + 7919 * (z + 1) * (z + 1) + 29) ^ 3) p1a
    refine ⟨_, rfl, _, rfl, _, _, rfl, rfl, ⟨by decide, by decide⟩, _, _, rfl, rfl, _, _, rfl, rfl, .inl ⟨Int.lt_of_lt_of_le (by decide) f0, Int.lt_trans f1 (by omega)⟩, _, rfl, _, _, rfl, rfl, p2a, _, _, rfl, rfl, ⟨by decide, by decide⟩, _, rfl, _, _, rfl, rfl, hm0, ?_⟩
    refine q _ _ (Int.emod_nonneg _ (by omega)) (Int.emod_lt_of_pos _ hm0) ⟨x, y, z + 1, hb2, hx, hy, hy1, by omega, by omega⟩ fun a o na e => ?_
    rw [upd_ne na, upd_ne (ne_of_none e ht)]
    exact e
end
end SH

set_option Elab.async false
set_option linter.all false
set_option maxRecDepth 100000
namespace SH
open PySem L2
abbrev sKept : Stmt := topS 59
abbrev sNames : Stmt := topS 60
abbrev sNumber : Stmt := topS 61
theorem scKept : FnScope [] [] (defScope sKept) := ⟨rfl, rfl, rfl, by decide +kernel, rfl, by decide +kernel, by decide +kernel⟩
theorem scNames : FnScope ["_law_bag_here", "_law_many", "_law_letters", "_law_found", "_law_k", "_law_name", "_law_way", "_law_some", "_law_j", "_law_letter", "_law_one"] ["_law_bag_here", "_law_many"] (defScope sNames) := ⟨rfl, rfl, rfl, by decide +kernel, rfl, by decide +kernel, by decide +kernel⟩
theorem scNumber : FnScope ["_law_bag_here", "_law_way", "_law_found", "_law_k"] ["_law_bag_here"] (defScope sNumber) := ⟨rfl, rfl, rfl, by decide +kernel, rfl, by decide +kernel, by decide +kernel⟩
/-! ### mathematics -/
def kept : List Str := ["work", "room", "go", "call", "wait", "if", "else", "end", "give", "fail"]
def letters : Str := "abcdefghijklmnopqrstuvwxyz"
theorem menu {xs : List V} {i : Int} (h0 : 0 ≤ i) (h1 : i < xs.length) : ∃ v, atI xs i = some v ∧ v ∈ xs := by
  have hk : i.toNat < xs.length := by omega
  refine ⟨xs[i.toNat], ?_, List.getElem_mem hk⟩
  have q : atI xs ((i.toNat : Nat) : Int) = some xs[i.toNat] := atI_nat (List.getElem?_eq_getElem hk)
  rwa [show ((i.toNat : Nat) : Int) = i by omega] at q
theorem menuI {ns : List Int} {i : Int} (h0 : 0 ≤ i) (h1 : i < ns.length) : ∃ k, atI (ns.map V.int) i = some (.int k) ∧ k ∈ ns := by
  obtain ⟨v, e, m⟩ := menu (xs := ns.map V.int) h0 (by rw [List.length_map]; exact h1)
  obtain ⟨k, hk, rfl⟩ := List.mem_map.mp m
  exact ⟨k, e, hk⟩
theorem menuS {ns : List Str} {i : Int} (h0 : 0 ≤ i) (h1 : i < ns.length) : ∃ k, atI (ns.map V.str) i = some (.str k) ∧ k ∈ ns := by
  obtain ⟨v, e, m⟩ := menu (xs := ns.map V.str) h0 (by rw [List.length_map]; exact h1)
  obtain ⟨k, hk, rfl⟩ := List.mem_map.mp m
  exact ⟨k, e, hk⟩
theorem log_ok {i : Int} (h0 : 0 ≤ i) (h1 : i < 1000000 ^ 5) : i.natAbs.log2 < 1920 := by
  by_cases z : i.natAbs = 0
  · rw [z]; decide
  · rw [Nat.log2_lt z]
    have : i.natAbs < 2 ^ 100 := by
      have e : (1000000 : Int) ^ 5 = 1000000000000000000000000000000 := by decide
      have e2 : (2 : Nat) ^ 100 = 1267650600228229401496703205376 := by decide
      rw [e] at h1
      rw [e2]
      omega
    exact Nat.lt_trans this (Nat.pow_lt_pow_right (by decide) (by decide))
def codes (s : Str) : List Nat := s.cps.toList
theorem codes_len (s : Str) : (codes s).length = s.length := Array.length_toList
theorem codes_app (a b : Str) : codes (a ++ b) = codes a ++ codes b := by
  show (a.cps ++ b.cps).toList = _
  rw [Array.toList_append]
  all_goals rfl
theorem codes_inj {a b : Str} (h : codes a = codes b) : a = b := by
  cases a with | mk x =>
  cases b with | mk y =>
  have : x = y := Array.toList_inj.mp h
  rw [this]
/-- a text of one to eight letters -/
def nmOk (s : Str) : Prop := 1 ≤ (codes s).length ∧ (codes s).length ≤ 8 ∧ ∀ c ∈ codes s, 97 ≤ c ∧ c ≤ 122
structure NmsOk (l : List Str) : Prop where
  each : ∀ s ∈ l, nmOk s ∧ s ∉ kept
  nd : l.Nodup
theorem NmsOk.snoc {l : List Str} {s : Str} (h : NmsOk l) (a : nmOk s) (b : s ∉ l ++ kept) : NmsOk (l ++ [s]) := by
  refine ⟨fun x hx => ?_, ?_⟩
  · rcases List.mem_append.mp hx with hx | hx
    · exact h.each x hx
    · rw [List.mem_singleton.mp hx]
      exact ⟨a, fun q => b (List.mem_append_right _ q)⟩
  · exact nd_snoc h.nd fun q => b (List.mem_append_left _ q)
theorem join_codes : ∀ l : List Str, codes (PySem.Txt.join (PySem.Str.ofString "") l) = (l.map codes).flatten := by
  have step : ∀ l : List Str, codes (PySem.Str.join (PySem.Str.ofString "") l) = (l.map codes).flatten := by
    intro l
    induction l with
    | nil => rfl
    | cons a r ih =>
      cases r with
      | nil => show codes a = codes a ++ []; rw [List.append_nil]
      | cons b t =>
        show codes (a ++ PySem.Str.ofString "" ++ PySem.Str.join (PySem.Str.ofString "") (b :: t)) = codes a ++ ((b :: t).map codes).flatten
        rw [codes_app, codes_app, ih]
        have z : codes (PySem.Str.ofString "") = [] := by decide +kernel
        rw [z, List.append_nil]
  intro l
  show codes (Builtin.Str.glued (PySem.Str.ofString "") l) = _
  rw [StrLaws.glued_eq_join]
  exact step l
theorem pig : ∀ (xs L : List Str), xs.Nodup → L.length < xs.length → ∃ x ∈ xs, x ∉ L
  | [], L, _, h => absurd h (Nat.not_lt_zero _)
  | x :: r, L, hn, h => by
    obtain ⟨h1, h2⟩ := List.nodup_cons.mp hn
    by_cases hx : x ∈ L
    · have hl := List.length_erase_of_mem hx
      rw [List.length_cons] at h
      obtain ⟨y, hy, hyL⟩ := pig r (L.erase x) h2 (by have := List.length_pos_of_mem hx; omega)
      refine ⟨y, List.mem_cons_of_mem _ hy, fun q => hyL ?_⟩
      refine (List.mem_erase_of_ne ?_).mpr q
      intro e
      rw [e] at hy
      exact h1 hy
    · exact ⟨x, List.mem_cons_self, hx⟩
def one (c : Nat) : Str := ⟨#[c]⟩
theorem codes_one (c : Nat) : codes (one c) = [c] := rfl
/-- the twenty-six of a name: another first letter -/
def some26 (s : Str) : List Str := (codes letters).map fun c => one c ++ cutS s (some 1) none
theorem cut1 (s : Str) : codes (cutS s (some 1) none) = (codes s).drop 1 := by
  unfold cutS
  show (((s.cps.toList.drop (HT.sIx s.length 0 (some 1))).take (HT.sIx s.length s.length none - HT.sIx s.length 0 (some 1))).toArray).toList = _
  rw [List.toList_toArray, show HT.sIx s.length 0 (some 1) = min 1 s.length from HT.sIx_nat s.length 0 1, HT.sIx_none]
  show (List.drop (min 1 s.length) (codes s)).take (s.length - min 1 s.length) = (codes s).drop 1
  rw [← codes_len]
  cases hc : codes s with
  | nil => rfl
  | cons x r =>
    rw [show min 1 (x :: r).length = 1 by rw [List.length_cons]; omega]
    show r.take ((x :: r).length - 1) = r
    rw [List.length_cons, Nat.add_sub_cancel, List.take_length]
theorem cutN {s : Str} {n : Nat} : codes (cutS s none (some (n : Int))) = (codes s).take n := by
  unfold cutS
  show (((s.cps.toList.drop (HT.sIx s.length 0 none)).take (HT.sIx s.length s.length (some (n : Int)) - HT.sIx s.length 0 none)).toArray).toList = _
  rw [List.toList_toArray, HT.sIx_nat, HT.sIx_none]
  show (List.drop 0 (codes s)).take (min n s.length - 0) = (codes s).take n
  rw [List.drop_zero, Nat.sub_zero, ← codes_len]
  by_cases h : n ≤ (codes s).length
  · rw [Nat.min_eq_left h]
  · rw [Nat.min_eq_right (by omega), List.take_length, List.take_of_length_le (by omega)]
theorem some26_nd (s : Str) : (some26 s).Nodup := by
  have base : (codes letters).Nodup := by decide +kernel
  unfold some26
  refine List.Pairwise.map _ ?_ base
  intro a b hab e
  have q := congrArg codes e
  rw [codes_app, codes_app, codes_one, codes_one] at q
  exact hab (List.cons.inj q).1
theorem some26_len (s : Str) : (some26 s).length = 26 := by
  unfold some26
  rw [List.length_map]
  decide +kernel
theorem letters_ok : ∀ c ∈ codes letters, 97 ≤ c ∧ c ≤ 122 := by decide +kernel
theorem kept_ok : ∀ s ∈ kept, ∀ c ∈ codes s, 97 ≤ c ∧ c ≤ 122 := by decide +kernel
theorem kept_pos : ∀ s ∈ kept, 1 ≤ (codes s).length ∧ (codes s).length ≤ 4 := by decide +kernel
theorem some26_ok {s t : Str} (h : nmOk s) (ht : t ∈ some26 s) : nmOk t := by
  unfold some26 at ht
  obtain ⟨c, hc, rfl⟩ := List.mem_map.mp ht
  obtain ⟨h1, h2, h3⟩ := h
  have e : codes (one c ++ cutS s (some 1) none) = c :: (codes s).drop 1 := by rw [codes_app, codes_one, cut1]; rfl
  refine ⟨?_, ?_, ?_⟩
  · rw [e, List.length_cons]; omega
  · rw [e, List.length_cons, List.length_drop]; omega
  · rw [e]
    intro x hx
    rcases List.mem_cons.mp hx with rfl | hx
    · exact letters_ok _ hc
    · exact h3 _ (List.mem_of_mem_drop hx)
theorem inV_str {x : Str} : ∀ {l : List Str}, inV (.str x) (l.map V.str) = decide (x ∈ l)
  | [] => rfl
  | y :: r => by
    show (eqV (.str y) (.str x) || inV (.str x) (r.map V.str)) = _
    rw [inV_str (l := r)]
    show ((y == x) || decide (x ∈ r)) = _
    by_cases e : x = y
    · subst e; simp
    · have e' : (y == x) = false := by simpa using fun h => e h.symm
      rw [e', Bool.false_or]
      simp [e]
theorem flat_strs (l : List Str) : (l.map V.str).all flatV = true := by
  rw [List.all_eq_true]
  intro x hx
  obtain ⟨s, _, rfl⟩ := List.mem_map.mp hx
  rfl
def spKept : Sp := fun vs H Q _ => vs = [] ∧ ∀ p, H p = none → Q (.ref p) (upd H p (.lst (kept.map V.str)))
def spNumber : Sp := fun vs H Q _ => ∃ (b : Addr) (n : Nat), vs = [.ref b] ∧ Bag H b (n + 8) ∧
  ∀ (i : Int) (H' : Hp), 0 ≤ i → i < 1000000 ^ 5 → Bag H' b n → But b H H' → Q (.int i) H'
def spNames : Sp := fun vs H Q _ => ∃ (b : Addr) (m n : Nat), vs = [.ref b, .int m] ∧ m ≤ 12 ∧ Bag H b (n + 16 * m) ∧
  ∀ (p : Addr) (nm : List Str) (H' : Hp), H p = none → H' p = some (.lst (nm.map V.str)) → nm.length = m → NmsOk nm → Bag H' b n → But b H H' → Q (.ref p) H'
section
variable {P : Program} {w : World} {K : PySem.W.Frag} {mg : Str → Option Value} {base : Heap}
theorem ok_kept {f : Addr} {fd : FuncData} (F : Fun K "_law_kept" "_law_kept" sKept f fd) : FnOk P w K mg base CX0 1 f fd [] spKept := by
  refine F.ok scKept (fun vs H Q E h => ?_) (fun cdv A outer s H vs Q E hr h => ?_)
  · obtain ⟨rfl, _⟩ := h
    rfl
  obtain ⟨rfl, q⟩ := h
  refine ⟨_, (pss_one (ps_ret (pe_lst (pa_cons pe_str (pa_cons pe_str (pa_cons pe_str (pa_cons pe_str (pa_cons pe_str (pa_cons pe_str (pa_cons pe_str (pa_cons pe_str (pa_cons pe_str (pa_cons pe_str pa_nil))))))))))))), ?_⟩
  exact ⟨by show 10 ≤ sizeLine; decide, fun p hp => q p hp⟩
theorem But.new {b : Addr} {H : Hp} {p : Addr} (h : H p = none) (o : HO) : But b H (upd H p o) := .of (same_new h o)
theorem ok_number {f t : Addr} {fd td : FuncData} (F : Fun K "_law_number" "_law_number" sNumber f fd) (TK : Fk P w K mg base 1 "_law_take" t td ["_law_bag_here", "_law_many"] spTake) (T : Bi mg) :
    FnOk P w K mg base CX0 2 f fd ["_law_bag_here"] spNumber := by
  refine F.ok scNumber (fun vs H Q E h => ?_) (fun cdv A outer s H vs Q E hr h => ?_)
  · obtain ⟨b, n, rfl, _⟩ := h
    rfl
  obtain ⟨b, n, rfl, hB, q⟩ := h
  refine ⟨_, (pss_cons (ps_set (i := 1) scNumber.nd rfl (Or.inl rfl) (pe_call TK.G (hr.mono (by omega)) (by rfl) TK.m TK.k TK.b .nil pass0 (pa_cons (pv 0) (pa_cons pe_int pa_nil))))
    (pss_cons (ps_if (pt_cmpR op_lt (pv 1) pe_int (nomark _))
      (pss_one (ps_ret (pe_call TK.G (hr.mono (by omega)) (by rfl) TK.m TK.k TK.b .nil pass0 (pa_cons (pv 0) (pa_cons (pe_ix ix_list (pe_lst (pa_cons pe_int (pa_cons pe_int pa_nil))) (pv 1) (fun _ _ => rfl)) pa_nil)))))
      pss_nil)
    (pss_cons (ps_set (i := 2) scNumber.nd rfl (Or.inl rfl) pe_int)
    (pss_cons (ps_for PassesOwn.never rfl (pi_range1 (by rfl) T.range (pa_cons (pe_ix ix_list (pe_lst (pa_cons pe_int (pa_cons pe_int pa_nil))) (pe_op op_sub (pv 1) pe_int) (fun _ _ => rfl)) pa_nil)) (pg_name (i := 3) scNumber.nd rfl (.inl rfl))
      (pss_one (ps_set (i := 2) scNumber.nd rfl (Or.inl rfl) (pe_op op_add (pe_op op_mul (pv 2) (pe_op op_pow pe_int pe_int)) (pe_call TK.G (hr.mono (by omega)) (by rfl) TK.m TK.k TK.b .nil pass0 (pa_cons (pv 0) (pa_cons (pe_op op_pow pe_int pe_int) pa_nil)))))))
    (pss_one (ps_ret (pv 2))))))), ?_⟩
  refine ⟨_, rfl, b, 4, n + 7, rfl, by decide, by decide, hB, fun d1 H1 a1 a2 B1 U1 => ?_⟩
  refine ⟨_, rfl, _, _, rfl, rfl, _, rfl, ?_⟩
  refine ite2 (fun c => ?_) (fun c => ?_)
  · have c' : d1 < 2 := of_decide_eq_true c
    obtain ⟨v, e, hv⟩ := menuI (ns := [4, 30]) a1 (by show d1 < 2; exact c')
    have hv' : v = 4 ∨ v = 30 := by simpa using hv
    refine ⟨_, rfl, (by show 2 ≤ sizeLine; decide), fun l hl => ?_⟩
    refine ⟨_, rfl, l, _, _, _, rfl, rfl, SqL.of upd_same, e, b, v, n + 6, rfl, by omega, by omega, B1.same (same_new hl _), fun d2 H2 b1 b2 B2 U2 => ?_⟩
    refine q _ _ b1 ?_ (B2.less (by omega)) (U1.trans ((But.new hl _).trans U2))
    have e : (1000000 : Int) ^ 5 = 1000000000000000000000000000000 := by decide
    rw [e]
    omega
  · have c' : ¬ d1 < 2 := of_decide_eq_false (Bool.eq_false_iff.mpr c)
    obtain ⟨v, e, hv⟩ := menuI (ns := [2, 5]) (i := d1 - 2) (by omega) (by show d1 - 2 < 2; omega)
    have hv' : v = 2 ∨ v = 5 := by simpa using hv
    refine ⟨(by show 2 ≤ sizeLine; decide), fun l hl => ?_⟩
    refine ⟨_, rfl, _, _, rfl, rfl, l, _, _, _, rfl, rfl, SqL.of upd_same, e, v, rfl, by omega, by omega, ?_⟩
    refine for_range (lo := 0) (n := v.toNat) (fun i σ H' => ∃ (c : Int) (y : Option V), σ = [some (.ref b), some (.int d1), some (.int c), y] ∧ 0 ≤ c ∧ c < 1000000 ^ i ∧ Bag H' b (n + 5 - i) ∧ But b H H') ?_ ?_ ?_
    · exact ⟨0, none, rfl, Int.le_refl _, by decide, (B1.same (same_new hl _)).less (by omega), U1.trans (But.new hl _)⟩
    · rintro i σ H2 hi ⟨c, y, rfl, c0, c1, B2, U2⟩
      refine ⟨_, rfl, _, _, rfl, rfl, ⟨by decide, by decide, by decide⟩, _, _, rfl, rfl, .inr ⟨by decide, by decide⟩, ?_⟩
      refine ⟨_, rfl, _, _, rfl, rfl, ⟨by decide, by decide, by decide⟩, b, _, n + 4 - i, rfl, by decide, by decide, B2.less (by omega), fun d2 H3 b1 b2 B3 U3 => ?_⟩
      refine ⟨_, _, rfl, rfl, _, _, rfl, ?_, ?_, B3.less (by omega), U2.trans U3⟩
      · show 0 ≤ c * 1000000 + d2
        omega
      · have b2' : d2 < 1000000 := b2
        show c * 1000000 + d2 < 1000000 ^ (i + 1)
        rw [Int.pow_succ]
        generalize (1000000 : Int) ^ i = X at c1 ⊢
        omega
    · rintro σ H2 ⟨c, y, rfl, c0, c1, B2, U2⟩
      refine ⟨_, rfl, q c H2 c0 ?_ (B2.less (by omega)) U2⟩
      rcases hv' with rfl | rfl
      · exact Int.lt_trans c1 (by decide)
      · exact c1
end
end SH

set_option Elab.async false
set_option linter.all false
set_option maxRecDepth 100000
namespace SH
open PySem L2
theorem signs_ok {l : List Str} (h1 : 1 ≤ l.length) (h8 : l.length ≤ 8) (h : ∀ s ∈ l, ∃ c, s = one c ∧ 97 ≤ c ∧ c ≤ 122) : nmOk (PySem.Txt.join (PySem.Str.ofString "") l) := by
  have e : ∀ l : List Str, (∀ s ∈ l, ∃ c, s = one c ∧ 97 ≤ c ∧ c ≤ 122) → ((l.map codes).flatten).length = l.length ∧ ∀ c ∈ (l.map codes).flatten, 97 ≤ c ∧ c ≤ 122 := by
    intro l
    induction l with
    | nil => intro _; exact ⟨rfl, fun c hc => by cases hc⟩
    | cons a r ih =>
      intro h
      obtain ⟨i1, i2⟩ := ih fun s hs => h s (List.mem_cons_of_mem _ hs)
      obtain ⟨c, rfl, c1, c2⟩ := h a List.mem_cons_self
      refine ⟨?_, ?_⟩
      · show (c :: (r.map codes).flatten).length = r.length + 1
        rw [List.length_cons, i1]
      · intro x hx
        rcases List.mem_cons.mp (show x ∈ c :: (r.map codes).flatten from hx) with rfl | hx
        · exact ⟨c1, c2⟩
        · exact i2 x hx
  obtain ⟨e1, e2⟩ := e l h
  refine ⟨?_, ?_, ?_⟩
  · rw [join_codes, e1]; exact h1
  · rw [join_codes, e1]; exact h8
  · rw [join_codes]; exact e2
theorem pre_ok {k s : Str} {n : Nat} (hk : k ∈ kept) (hs : nmOk s) (h1 : 1 ≤ n) (h8 : n ≤ 8) : nmOk (cutS (k ++ s) none (some (n : Int))) := by
  obtain ⟨k1, k2⟩ := kept_pos k hk
  obtain ⟨s1, s2, s3⟩ := hs
  refine ⟨?_, ?_, ?_⟩
  · rw [cutN, codes_app, List.length_take, List.length_append]; omega
  · rw [cutN, List.length_take]; omega
  · rw [cutN, codes_app]
    intro c hc
    rcases List.mem_append.mp (List.mem_of_mem_take hc) with h | h
    · exact kept_ok k hk c h
    · exact s3 c h
theorem ones_len : ∀ l : List Str, (∀ s ∈ l, ∃ c, s = one c ∧ 97 ≤ c ∧ c ≤ 122) → (l.map (·.length)).sum = l.length
  | [], _ => rfl
  | a :: r, h => by
    have ih := ones_len r fun s hs => h s (List.mem_cons_of_mem _ hs)
    obtain ⟨c, rfl, _⟩ := h a List.mem_cons_self
    show (one c).length + (r.map (·.length)).sum = r.length + 1
    rw [ih]
    show 1 + r.length = r.length + 1
    omega
theorem letter_at {i : Int} (h0 : 0 ≤ i) (h1 : i < 26) : ∃ c, atI letters.cps.toList i = some c ∧ 97 ≤ c ∧ c ≤ 122 := by
  have hl : (codes letters).length = 26 := by decide +kernel
  have hk : i.toNat < (codes letters).length := by omega
  refine ⟨(codes letters)[i.toNat], ?_, letters_ok _ (List.getElem_mem hk)⟩
  have q : atI (codes letters) ((i.toNat : Nat) : Int) = some (codes letters)[i.toNat] := atI_nat (List.getElem?_eq_getElem hk)
  rwa [show ((i.toNat : Nat) : Int) = i by omega] at q
theorem filt_snoc {l : List Str} {L : List Str} {i : Nat} {x : Str} (h : l[i]? = some x) : (l.take (i + 1)).filter (fun y => !decide (y ∈ L)) = (l.take i).filter (fun y => !decide (y ∈ L)) ++ (if (!decide (x ∈ L)) = true then [x] else []) := by
  rw [List.take_add_one, h, List.filter_append]
  congr 1
  show List.filter _ [x] = _
  rw [List.filter_cons, List.filter_nil]
theorem names_len {l : List Str} (h : NmsOk l) : True := trivial
section
variable {P : Program} {w : World} {K : PySem.W.Frag} {mg : Str → Option Value} {base : Heap}
theorem ok_names {f t k : Addr} {fd td kd : FuncData} (F : Fun K "_law_names" "_law_names" sNames f fd) (TK : Fk P w K mg base 1 "_law_take" t td ["_law_bag_here", "_law_many"] spTake) (KP : Fk P w K mg base 1 "_law_kept" k kd [] spKept) (T : Bi mg) :
    FnOk P w K mg base CX0 2 f fd ["_law_bag_here", "_law_many"] spNames := by
  refine F.ok scNames (fun vs H Q E h => ?_) (fun cdv A outer s H vs Q E hr h => ?_)
  · obtain ⟨b, m, n, rfl, _⟩ := h
    rfl
  obtain ⟨b, m, n, rfl, hm, hB, q⟩ := h
  refine ⟨_, (pss_cons (ps_set (i := 2) scNames.nd rfl (Or.inr rfl) pe_str)
    (pss_cons (ps_set (i := 3) scNames.nd rfl (Or.inr rfl) (pe_lst pa_nil))
    (pss_cons (ps_for PassesOwn.never rfl (pi_range1 (by rfl) T.range (pa_cons (pv 1) pa_nil)) (pg_name (i := 4) scNames.nd rfl (.inl rfl))
      (pss_cons (ps_set (i := 5) scNames.nd rfl (Or.inr rfl) (pe_join pe_str (pe_lc (own := [("_law_j", 8)]) (g := gName 8) (tt := tYes) (by rfl) scNames.nd (pi_range1 (by rfl) T.range (pa_cons (pe_ix ix_list (pe_lst (pa_cons pe_int (pa_cons pe_int (pa_cons pe_int (pa_cons pe_int pa_nil))))) (pe_call TK.G (hr.mono (by omega)) (by rfl) TK.m TK.k TK.b .nil pass0 (pa_cons (pv 0) (pa_cons pe_int pa_nil))) (fun _ _ => rfl)) pa_nil)) (blkOk_by (own := [("_law_j", 8)]) (N := ["_law_bag_here", "_law_many", "_law_letters", "_law_found", "_law_k", "_law_name", "_law_way", "_law_some", "_law_j", "_law_letter", "_law_one"]) (sc := defScope sNames) (by decide +kernel)) (fun _ _ _ _ _ => pg_name (i := 8) scNames.nd rfl (Or.inl rfl)) (fun _ _ _ _ _ => pts_nil) (fun _ _ _ _ _ => (pe_ix ix_str (pv 2) (pe_call TK.G (hr.mono (by omega)) (by rfl) TK.m TK.k TK.b .nil pass0 (pa_cons (pv 0) (pa_cons pe_int pa_nil))) (fun _ _ => rfl))))))
    (pss_cons (ps_set (i := 6) scNames.nd rfl (Or.inl rfl) (pe_call TK.G (hr.mono (by omega)) (by rfl) TK.m TK.k TK.b .nil pass0 (pa_cons (pv 0) (pa_cons pe_int pa_nil))))
    (C8.pss_cut (ps_if (pt_cmpR op_lt (pv 6) pe_int (nomark _))
      (pss_one (ps_set (i := 5) scNames.nd rfl (Or.inr rfl) (pe_slice sl_str (pe_op op_add_str (pe_ix ix_list (pe_call0 KP.G (hr.mono (by omega)) (by rfl) KP.m KP.k KP.b .nil pass0) (pe_call TK.G (hr.mono (by omega)) (by rfl) TK.m TK.k TK.b .nil pass0 (pa_cons (pv 0) (pa_cons pe_int pa_nil))) (fun _ _ => rfl)) (pv 5)) po_none (po_some (pe_ix ix_list (pe_lst (pa_cons pe_int (pa_cons pe_int pa_nil))) (pv 6) (fun _ _ => rfl))))))
      pss_nil)
    (pss_cons (ps_setLc (i := 7) (own := [("_law_letter", 9)]) (g := gName 9) (tt := tYes) (by rfl) scNames.nd rfl rfl (sw_true rfl rfl rfl (by decide +kernel)) (pi_str (pv 2)) (blkOk_by (own := [("_law_letter", 9)]) (N := ["_law_bag_here", "_law_many", "_law_letters", "_law_found", "_law_k", "_law_name", "_law_way", "_law_some", "_law_j", "_law_letter", "_law_one"]) (sc := defScope sNames) (by decide +kernel)) (fun _ _ _ _ _ => pg_name (i := 9) scNames.nd rfl (Or.inl rfl)) (fun _ _ _ _ _ => pts_nil) (fun _ _ _ _ _ => (pe_op op_add_str (pv 9) (pe_slice sl_str (pv 5) (po_some pe_int) po_none))))
    (C8.pss_cut (ps_if (pt_cmpR op_in_seq (pv 5) (pe_op op_cat (pv 3) (pe_call0 KP.G (hr.mono (by omega)) (by rfl) KP.m KP.k KP.b .nil pass0)) rfl)
      (pss_one (ps_set (i := 5) scNames.nd rfl (Or.inr rfl) (pe_ix ix_list (pe_lc (own := [("_law_one", 10)]) (g := gName 10) (tt := tTest (tOp (rIn K true) (tVar 10) (tOp rCat (tVar 3) (tCall spKept [] E0 tNil)))) (by rfl) scNames.nd (pi_list (pv 7)) (blkOk_by (own := [("_law_one", 10)]) (N := ["_law_bag_here", "_law_many", "_law_letters", "_law_found", "_law_k", "_law_name", "_law_way", "_law_some", "_law_j", "_law_letter", "_law_one"]) (sc := defScope sNames) (by decide +kernel)) (fun _ _ _ _ _ => pg_name (i := 10) scNames.nd rfl (Or.inl rfl)) (fun _ _ _ _ _ => (pts_one (pt_cmpR (op_notIn_seqK K) (pv 10) (pe_op op_cat (pv 3) (pe_call0 KP.G (hr.mono (by omega)) (by rfl) KP.m KP.k KP.b .nil pass0)) rfl))) (fun _ _ _ _ _ => (pv 10))) pe_int (fun _ _ => rfl))))
      pss_nil)
    (pss_one (ps_expr (pe_bm PySem.F.plainAttrs_list PySem.F.slot_list_append PySem.F.type_list_append mt_append (pv 3) (pa_cons (pv 5) pa_nil))))))))))
    (pss_one (ps_ret (pv 3)))))), ?_⟩
  have hs : sizeLine = 16777216 := by decide
  refine ⟨Nat.zero_le _, fun p hp => ?_⟩
  obtain ⟨ys0, hb0⟩ := hB.lst
  have npb : p ≠ b := fun e => by rw [e, hb0] at hp; cases hp
  refine ⟨_, rfl, m, rfl, by omega, by omega, ?_⟩
  refine for_range (lo := 0) (n := (m : Int).toNat) (fun i σ H' => ∃ (nm : List Str) (y4 y5 y6 y7 : Option V), σ = [some (.ref b), some (.int m), some (.str letters), some (.ref p), y4, y5, y6, y7, none, none, none] ∧
    H' p = some (.lst (nm.map V.str)) ∧ nm.length = i ∧ NmsOk nm ∧ Bag H' b (n + 16 * (m - i)) ∧ But b H H') ?_ ?_ ?_
  · exact ⟨[], none, none, none, none, rfl, upd_same, rfl, ⟨fun s h => (by cases h), List.nodup_nil⟩, hB.same (same_new hp _), But.new hp _⟩
  · rintro i σ H1 hi ⟨nm, y4, y5, y6, y7, rfl, hp1, hl, hN, B1, U1⟩
    have hi' : i < m := by omega
    -- the name by its letters
    refine ⟨⟨_, rfl⟩, (by show 4 ≤ sizeLine; decide), fun l1 hl1 => ?_⟩
    refine ⟨_, rfl, b, 4, n + 16 * (m - i) - 1, rfl, by decide, by decide, (B1.same (same_new hl1 _)).less (by omega), fun d1 H2 a1 a2 B2 U2 => ?_⟩
    have nb1 : l1 ≠ b := fun e => by obtain ⟨ys, hy⟩ := B1.lst; rw [e, hy] at hl1; cases hl1
    have hl2 : H2 l1 = some (.lst (([1, 2, 3, 8] : List Int).map V.int)) := U2 _ _ nb1 upd_same
    obtain ⟨v, ev, hv⟩ := menuI (ns := [1, 2, 3, 8]) a1 (by show d1 < 4; exact a2)
    have hv' : 1 ≤ v ∧ v ≤ 8 := by
      have : v = 1 ∨ v = 2 ∨ v = 3 ∨ v = 8 := by simpa using hv
      omega
    refine ⟨l1, _, _, _, rfl, rfl, SqL.of hl2, ev, v, rfl, by omega, by omega, ?_⟩
    intro D hD
    have hp2 : H2 p = some (.lst (nm.map V.str)) := U2 _ _ npb ((same_new hl1 _) _ _ hp1)
    have nDb : D ≠ b := fun e => by obtain ⟨ys, hy⟩ := B2.lst; rw [e, hy] at hD; cases hD
    have nDp : D ≠ p := fun e => by rw [e, hp2] at hD; cases hD
    have U12 : But b H1 H2 := (But.new hl1 _).trans U2
    refine lc_range (lo := 0) (n := v.toNat) (fun j H' => ∃ ss : List Str, H' D = some (.lst (ss.map V.str)) ∧ ss.length = j ∧ (∀ s ∈ ss, ∃ c, s = one c ∧ 97 ≤ c ∧ c ≤ 122) ∧ Bag H' b (n + 16 * (m - i) - 1 - j) ∧ (∀ a o, a ≠ b → a ≠ D → H2 a = some o → H' a = some o)) ?_ ?_ ?_
    · refine ⟨[], upd_same, rfl, fun s h => (by cases h), (B2.same (same_new hD _)).less (by omega), fun a o _ _ e => (same_new hD _) _ _ e⟩
    · rintro j H3 hj ⟨ss, hD3, hss, hone, B3, U3⟩
      refine ⟨rfl, ?_⟩
      refine ⟨_, rfl, _, rfl, b, 26, n + 16 * (m - i) - 2 - j, rfl, by decide, by decide, B3.less (by omega), fun d2 H4 b1 b2 B4 U4 => ?_⟩
      obtain ⟨c, ec, c1, c2⟩ := letter_at b1 b2
      refine ⟨letters, _, c, rfl, rfl, (by show letters.length ≤ sizeLine; decide +kernel), ec, ?_⟩
      refine ⟨_, U4 _ _ nDb hD3, by rw [List.length_map, hss]; omega, ss ++ [one c], ?_, by rw [List.length_append, hss]; rfl, ?_, ?_, ?_⟩
      · rw [upd_same, List.map_append]
        rfl
      · intro s hs'
        rcases List.mem_append.mp hs' with h | h
        · exact hone s h
        · exact ⟨c, List.mem_singleton.mp h, c1, c2⟩
      · have B5 : Bag (upd H4 D (.lst (ss.map V.str ++ [V.str (one c)]))) b (n + 16 * (m - i) - 2 - j) := by
          obtain ⟨x, y, z, e, r⟩ := B4
          exact ⟨x, y, z, by rw [upd_ne (Ne.symm nDb)]; exact e, r⟩
        exact B5.less (by omega)
      · intro a o na nd e
        rw [upd_ne nd]
        exact U4 _ _ na (U3 a o na nd e)
    · rintro H3 ⟨ss, hD3, hss, hone, B3, U3⟩
      have hp3 : H3 p = some (.lst (nm.map V.str)) := U3 _ _ npb (Ne.symm nDp) hp2
      have U13 : But b H1 H3 := fun a o na e => U3 a o na (ne_of_none (U12 a o na e) hD) (U12 a o na e)
      refine ⟨_, D, ss, rfl, rfl, .inl (SqL.of hD3), ?_, ?_⟩
      · rw [ones_len ss hone, hss]
        have z : (PySem.Str.ofString "").length = 0 := by decide
        rw [z]
        omega
      have nok : nmOk (PySem.Txt.join (PySem.Str.ofString "") ss) := signs_ok (by rw [hss]; omega) (by rw [hss]; omega) hone
      generalize PySem.Txt.join (PySem.Str.ofString "") ss = nme at nok
      -- its way
      refine ⟨_, rfl, b, 8, n + 16 * (m - i) - 10, rfl, by decide, by decide, B3.less (by omega), fun d3 H4 c1 c2 B4 U4 => ?_⟩
      have hp4 : H4 p = some (.lst (nm.map V.str)) := U4 _ _ npb hp3
      refine ⟨fun σ' H' => ∃ nme', nmOk nme' ∧ σ' = [some (.ref b), some (.int m), some (.str letters), some (.ref p), some (.int (0 + i)), some (.str nme'), some (.int d3), y7, none, none, none] ∧ H' p = some (.lst (nm.map V.str)) ∧ Bag H' b (n + 16 * (m - i) - 11) ∧ But b H1 H', ?_, ?_⟩
      · refine ⟨_, rfl, _, _, rfl, rfl, _, rfl, ?_⟩
        refine ite2 (fun c => ?_) (fun c => ?_)
        · have c' : d3 < 2 := of_decide_eq_true c
          refine ⟨rfl, fun kp hkp => ?_⟩
          have nkb : kp ≠ b := fun e => by obtain ⟨ys, hy⟩ := B4.lst; rw [e, hy] at hkp; cases hkp
          refine ⟨_, rfl, b, 10, n + 16 * (m - i) - 11, rfl, by decide, by decide, (B4.same (same_new hkp _)).less (by omega), fun d4 H5 e1 e2 B5 U5 => ?_⟩
          obtain ⟨kw, ek, hk⟩ := menuS (ns := kept) e1 (by show d4 < 10; exact e2)
          have hk5 : H5 kp = some (.lst (kept.map V.str)) := U5 _ _ nkb upd_same
          refine ⟨kp, _, _, _, rfl, rfl, SqL.of hk5, ek, _, rfl, kw, nme, rfl, rfl, ?_, ?_⟩
          · have k2 := (kept_pos kw hk).2
            have n2 := nok.2.1
            rw [codes_len] at k2 n2
            omega
          obtain ⟨lim, el, hlim⟩ := menuI (ns := [8, 5]) c1 (by show d3 < 2; exact c')
          have hlim' : lim = 8 ∨ lim = 5 := by simpa using hlim
          refine ⟨(by show 2 ≤ sizeLine; decide), fun l2 hl2' => ?_⟩
          refine ⟨_, rfl, l2, _, _, _, rfl, rfl, SqL.of upd_same, el, _, rfl, kw ++ nme, rfl, ?_, ?_⟩
          · have k2 := (kept_pos kw hk).2
            have n2 := nok.2.1
            rw [codes_len] at k2 n2
            rw [app_len]
            omega
          refine ⟨cutS (kw ++ nme) none (some lim), ?_, rfl, ?_, ?_, ?_⟩
          · rcases hlim' with rfl | rfl
            · exact pre_ok (n := 8) hk nok (by decide) (by decide)
            · exact pre_ok (n := 5) hk nok (by decide) (by decide)
          · exact (same_new hl2' _) _ _ (U5 _ _ npb ((same_new hkp _) _ _ hp4))
          · exact B5.same (same_new hl2' _)
          · exact U13.trans (U4.trans ((But.new hkp _).trans (U5.trans (But.new hl2' _))))
        · exact ⟨nme, nok, rfl, hp4, B4.less (by omega), U13.trans U4⟩
      · rintro σ' H5 ⟨nme', nok', rfl, hp5, B5, U5⟩
        -- the twenty-six others
        refine ⟨_, rfl, letters, rfl, ?_⟩
        intro D2 hD2
        have nD2b : D2 ≠ b := fun e => by obtain ⟨ys, hy⟩ := B5.lst; rw [e, hy] at hD2; cases hD2
        have sz : letters.cps.size = 26 := by decide +kernel
        refine lc_it walk_str (fun j H' => H' = upd H5 D2 (.lst (((some26 nme').take j).map V.str))) rfl (fun _ _ _ _ => trivial) ?_ ?_
        · rintro j x H6 H7 hj rfl ⟨rfl, c, hc, rfl⟩
          refine ⟨rfl, ?_⟩
          refine ⟨_, rfl, _, rfl, 1, rfl, nme', rfl, ?_, one c, _, rfl, rfl, ?_, ?_⟩
          · have := nok'.2.1
            rw [codes_len] at this
            omega
          · have := nok'.2.1
            have e1 := cut1 nme'
            have e2 := congrArg List.length e1
            rw [codes_len, List.length_drop] at e2
            have e3 : (one c).length = 1 := rfl
            omega
          · refine ⟨_, upd_same, ?_, ?_⟩
            · rw [List.length_map, List.length_take]
              omega
            · have hx : (some26 nme')[j]? = some (one c ++ cutS nme' (some 1) none) := by
                unfold some26
                rw [List.getElem?_map, show (codes letters)[j]? = some c from by unfold codes; rw [Array.getElem?_toList]; exact hc]
                rfl
              rw [List.take_add_one, hx, List.map_append]
              funext a
              by_cases ha : a = D2
              · subst ha
                rw [upd_same, upd_same]
                rfl
              · rw [upd_ne ha, upd_ne ha, upd_ne ha]
        · rintro H6 rfl
          have e26 : (some26 nme').take letters.cps.size = some26 nme' := List.take_of_length_le (by rw [some26_len, sz]; omega)
          rw [e26]
          have s6 : Same H5 (upd H5 D2 (.lst ((some26 nme').map V.str))) := same_new hD2 _
          have hD6 : (upd H5 D2 (.lst ((some26 nme').map V.str))) D2 = some (.lst ((some26 nme').map V.str)) := upd_same
          generalize upd H5 D2 (.lst ((some26 nme').map V.str)) = H6 at s6 hD6
          have hp6 := s6 _ _ hp5
          have B6 := B5.same s6
          have len12 : (nm ++ kept).length ≤ 22 := by
            rw [List.length_append]
            have : kept.length = 10 := rfl
            omega
          refine ⟨fun σ' H' => ∃ fin, nmOk fin ∧ fin ∉ nm ++ kept ∧ σ' = [some (.ref b), some (.int m), some (.str letters), some (.ref p), some (.int (0 + i)), some (.str fin), some (.int d3), some (.ref D2), none, none, none] ∧ Same H6 H', ?_, ?_⟩
          · refine ⟨_, rfl, _, rfl, rfl, fun kp hkp => ?_⟩
            have sk : Same H6 (upd H6 kp (.lst (kept.map V.str))) := same_new hkp _
            refine ⟨p, kp, _, _, rfl, rfl, sk _ _ hp6, upd_same, ?_, fun u hu => ?_⟩
            · rw [List.length_map, List.length_map]
              have : kept.length = 10 := rfl
              omega
            have su : Same _ _ := same_new hu (.lst (nm.map V.str ++ kept.map V.str))
            refine ⟨u, _, rfl, .inl (SqL.of upd_same), rfl, ?_, _, rfl, ?_⟩
            · rw [← List.map_append]; exact flat_strs _
            rw [← List.map_append] at su ⊢
            rw [if_neg Bool.false_ne_true, inV_str]
            refine ite2 (fun c => ?_) (fun c => ?_)
            · have su' := sk.trans su
              generalize upd (upd H6 kp (.lst (kept.map V.str))) u (.lst ((nm ++ kept).map V.str)) = H8 at su'
              -- [one for one in some if ..][0]
              refine ⟨_, rfl, D2, rfl, ⟨_, SqL.of (su' _ _ hD6)⟩, ?_⟩
              intro D3 hD3
              refine lc_list (K := K) (a := D2) (xs := (some26 nme').map V.str) (fun j H' => H' D3 = some (.lst ((((some26 nme').take j).filter (fun y => !decide (y ∈ nm ++ kept))).map V.str)) ∧ Same H8 H') ⟨upd_same, same_new hD3 _⟩ (fun j H' _ h => SqL.of (h.2 _ _ (su' _ _ hD6))) ?_ ?_
              · rintro j x H9 hx ⟨h9, s9⟩
                obtain ⟨x', hx', rfl⟩ : ∃ x', (some26 nme')[j]? = some x' ∧ V.str x' = x := by
                  rw [List.getElem?_map] at hx
                  obtain ⟨x', h1, h2⟩ := Option.map_eq_some_iff.mp hx
                  exact ⟨x', h1, h2⟩
                have hj26 : j < 26 := by
                  obtain ⟨h1, _⟩ := List.getElem?_eq_some_iff.mp hx'
                  rwa [some26_len] at h1
                refine ⟨rfl, ?_⟩
                refine ⟨_, rfl, _, rfl, rfl, fun kp2 hkp2 => ?_⟩
                have sk2 : Same H9 (upd H9 kp2 (.lst (kept.map V.str))) := same_new hkp2 _
                refine ⟨p, kp2, _, _, rfl, rfl, sk2 _ _ (s9 _ _ (su' _ _ hp6)), upd_same, ?_, fun u2 hu2 => ?_⟩
                · rw [List.length_map, List.length_map]
                  have : kept.length = 10 := rfl
                  omega
                have su2 : Same _ _ := same_new hu2 (.lst (nm.map V.str ++ kept.map V.str))
                refine ⟨u2, _, rfl, .inl (SqL.of upd_same), rfl, ?_, _, rfl, ?_⟩
                · rw [← List.map_append]; exact flat_strs _
                rw [← List.map_append] at su2 ⊢
                rw [if_pos rfl, inV_str]
                have s10 := sk2.trans su2
                generalize upd (upd H9 kp2 (.lst (kept.map V.str))) u2 (.lst ((nm ++ kept).map V.str)) = H10 at s10
                have fs := filt_snoc (L := nm ++ kept) hx'
                refine ite2 (fun c2 => ?_) (fun c2 => ?_)
                · refine ⟨_, rfl, _, s10 _ _ h9, ?_, ?_, ?_⟩
                  · rw [List.length_map]
                    have := List.length_filter_le (fun y => !decide (y ∈ nm ++ kept)) ((some26 nme').take j)
                    rw [List.length_take, some26_len] at this
                    omega
                  · rw [upd_same, fs, if_pos c2, List.map_append]
                    rfl
                  · intro a o e
                    rw [upd_ne (ne_of_none e hD3)]
                    exact s10 _ _ (s9 _ _ e)
                · refine ⟨?_, s9.trans s10⟩
                  rw [fs, if_neg c2, List.append_nil]
                  exact s10 _ _ h9
              · rintro H9 ⟨h9, s9⟩
                rw [List.length_map, List.take_length] at h9
                obtain ⟨x, hx, hxL⟩ := pig (some26 nme') (nm ++ kept) (some26_nd _) (by rw [some26_len]; omega)
                have hin : x ∈ (some26 nme').filter (fun y => !decide (y ∈ nm ++ kept)) := List.mem_filter.mpr ⟨hx, by rw [decide_eq_false hxL]; rfl⟩
                cases hf : (some26 nme').filter (fun y => !decide (y ∈ nm ++ kept)) with
                | nil => rw [hf] at hin; cases hin
                | cons z r =>
                  have hz : z ∈ (some26 nme').filter (fun y => !decide (y ∈ nm ++ kept)) := by rw [hf]; exact List.mem_cons_self
                  obtain ⟨z1, z2⟩ := List.mem_filter.mp hz
                  rw [hf] at h9
                  refine ⟨D3, _, 0, .str z, rfl, rfl, SqL.of h9, atI_nat (j := 0) rfl, z, some26_ok nok' z1, ?_, rfl, su'.trans s9⟩
                  intro q
                  rw [decide_eq_true q] at z2
                  cases z2
            · refine ⟨nme', nok', ?_, rfl, sk.trans su⟩
              exact of_decide_eq_false (Bool.eq_false_iff.mpr c)
          · rintro σ' H7 ⟨fin, fok, fno, rfl, s7⟩
            have hp7 := s7 _ _ hp6
            refine ⟨_, rfl, .inl ⟨rfl, _, SqL.of hp7⟩, _, rfl, p, _, _, rfl, rfl, hp7, ?_, ?_⟩
            · rw [List.length_map]
              omega
            · refine ⟨nm ++ [fin], _, _, _, _, rfl, ?_, ?_, hN.snoc fok fno, ?_, ?_⟩
              · rw [upd_same, List.map_append]
                rfl
              · rw [List.length_append, hl]
                rfl
              · obtain ⟨x, y, z, e, r1, r2, r3, r4, r5⟩ := B6.same s7
                exact ⟨x, y, z, by rw [upd_ne (Ne.symm npb)]; exact e, r1, r2, r3, r4, by omega⟩
              · intro a o na e
                have hap : a ≠ p := ne_of_none e hp
                rw [upd_ne hap]
                exact s7 _ _ (s6 _ _ (U5 _ _ na (U1 _ _ na e)))
  · rintro σ H1 ⟨nm, y4, y5, y6, y7, rfl, hp1, hl, hN, B1, U1⟩
    exact ⟨_, rfl, q p nm H1 hp hp1 (by omega) hN (B1.less (by omega)) U1⟩
end
end SH

set_option Elab.async false
set_option linter.all false
set_option maxRecDepth 100000
namespace SH
open PySem L2
abbrev sTree : Stmt := topS 62
theorem scTree : FnScope ["_law_bag_here", "_law_names_here", "_law_deep", "_law_way", "_law_sign"] ["_law_bag_here", "_law_names_here", "_law_deep"] (defScope sTree) := ⟨rfl, rfl, rfl, by decide +kernel, rfl, by decide +kernel, by decide +kernel⟩
/-- an expression at most n deep, of these names -/
def Ex.of (nm : List Str) : Nat → Ex → Prop
  | 0, _ => False
  | _ + 1, .num i => 0 ≤ i ∧ i < 1000000 ^ 5
  | _ + 1, .nam s => s ∈ nm
  | n + 1, .op _ l r => Ex.of nm n l ∧ Ex.of nm n r
theorem Ex.of_up {nm : List Str} : ∀ {n m : Nat} {e : Ex}, n ≤ m → Ex.of nm n e → Ex.of nm m e
  | 0, _, _, _, h => h.elim
  | n + 1, m + 1, .num _, _, h => h
  | n + 1, m + 1, .nam _, _, h => h
  | n + 1, m + 1, .op _ _ _, hm, h => ⟨Ex.of_up (by omega) h.1, Ex.of_up (by omega) h.2⟩
theorem Ex.of_ok {nm : List Str} (hn : ∀ s ∈ nm, nmOk s) : ∀ {n : Nat} {e : Ex}, Ex.of nm n e → Ex.ok n e
  | 0, _, h => h
  | n + 1, .num i, h => log_ok h.1 h.2
  | n + 1, .nam s, h => by
    have q := (hn s h).2.1
    rw [codes_len] at q
    show s.length ≤ 2000
    omega
  | n + 1, .op _ _ _, h => ⟨Ex.of_ok hn h.1, Ex.of_ok hn h.2⟩
def sgs : List Sg := [.add, .sub, .mul, .lt, .eq]
def tc : Nat → Nat
  | 0 => 0
  | n + 1 => 2 * tc n + 12
def spTree (n : Nat) : Sp := fun vs H Q _ => ∃ (b a : Addr) (nm : List Str) (k : Nat), vs = [.ref b, .ref a, .int n] ∧ H a = some (.lst (nm.map V.str)) ∧ a ≠ b ∧ nm.length ≤ 1000 ∧ (∀ s ∈ nm, nmOk s) ∧ 1 ≤ n ∧ Bag H b (k + tc n) ∧
  ∀ (v : V) (e : Ex) (H' : Hp), TrIn H' e v → Ex.of nm n e → Bag H' b k → But b H H' → Q v H'
theorem sgs_at {i : Int} (h0 : 0 ≤ i) (h1 : i < 5) : ∃ g : Sg, atI (sgs.map fun g => V.str g.txt) i = some (.str g.txt) := by
  obtain ⟨v, e, m⟩ := menu (xs := sgs.map fun g => V.str g.txt) h0 (by show i < 5; exact h1)
  obtain ⟨g, _, rfl⟩ := List.mem_map.mp m
  exact ⟨g, e⟩
theorem strOk_nm {s : Str} (h : nmOk s) : PyData.strOk s = true := by
  unfold PyData.strOk
  rw [Array.all_eq_true']
  intro x hx
  have := (h.2.2 x (Array.mem_toList_iff.mpr hx)).2
  exact decide_eq_true (by omega)
theorem dp_strs {K : PySem.W.Frag} {H : Hp} : ∀ l : List Str, DpAll K H (l.map V.str) (l.map PyData.str)
  | [] => .nil
  | _ :: r => .cons (.str _) (dp_strs r)
theorem lay_strs : ∀ {l : List Str}, (∀ s ∈ l, nmOk s) → PyData.canLayAll0 (l.map PyData.str) = true ∧ PyData.depthAll (l.map PyData.str) = 0
  | [], _ => ⟨rfl, rfl⟩
  | a :: r, h => by
    obtain ⟨h1, h2⟩ := lay_strs (l := r) fun s hs => h s (List.mem_cons_of_mem _ hs)
    refine ⟨?_, ?_⟩
    · show (PyData.strOk a && PyData.canLayAll0 (r.map PyData.str)) = true
      rw [strOk_nm (h a List.mem_cons_self), h1] <;> rfl
    · show max 0 (PyData.depthAll (r.map PyData.str)) = 0
      rw [h2] <;> rfl
theorem shaped_strs {l : List Str} (h : ∀ s ∈ l, nmOk s) : SeqAt.shaped (.list (l.map PyData.str)) = true := by
  obtain ⟨h1, h2⟩ := lay_strs h
  show (PyData.canLayAll0 (l.map PyData.str) && decide (PyData.depthAll (l.map PyData.str) + 1 ≤ 64)) = true
  rw [h1, h2] <;> rfl
theorem trNum {H : Hp} {p : Addr} {i : Int} (h : H p = some (.tup [.str "number", .int i])) : TrIn H (.num i) (.ref p) := ⟨p, rfl, h⟩
theorem trNam {H : Hp} {p : Addr} {i : Str} (h : H p = some (.tup [.str "name", .str i])) : TrIn H (.nam i) (.ref p) := ⟨p, rfl, h⟩
def spTrees (N : Nat) : Sp := fun vs H Q E => ∃ n, n ≤ N ∧ spTree n vs H Q E
section
variable {P : Program} {w : World} {K : PySem.W.Frag} {mg : Str → Option Value} {base : Heap}
theorem ok_tree {n : Nat} {f t u : Addr} {fd td ud : FuncData} (F : Fun K "_law_tree" "_law_tree" sTree f fd) (TK : Fk P w K mg base 1 "_law_take" t td ["_law_bag_here", "_law_many"] spTake) (NB : Fk P w K mg base 2 "_law_number" u ud ["_law_bag_here"] spNumber)
    (TR : Fk P w K mg base (n + 2) "_law_tree" f fd ["_law_bag_here", "_law_names_here", "_law_deep"] (spTree n)) (T : Bi mg) : FnOk P w K mg base CX0 (n + 3) f fd ["_law_bag_here", "_law_names_here", "_law_deep"] (spTree (n + 1)) := by
  refine F.ok scTree (fun vs H Q E h => ?_) (fun cdv A outer s H vs Q E hr h => ?_)
  · obtain ⟨b, a, nm, k, rfl, _⟩ := h
    rfl
  obtain ⟨b, a, nm, k, rfl, ha, nab, hnl, hnm, _, hB, q⟩ := h
  refine ⟨_, (pss_cons (ps_set (i := 3) scTree.nd rfl (Or.inl rfl) (pe_call TK.G (hr.mono (by omega)) (by rfl) TK.m TK.k TK.b .nil pass0 (pa_cons (pv 0) (pa_cons pe_int pa_nil))))
    (pss_cons (ps_if (PW.pt (pw_or (pt_cmpR op_eq (pv 2) pe_int (nomark _)) (pw_or1 (pt_cmpR op_eq (pv 3) pe_int (nomark _)))))
      (C8.pss_cut (ps_if (PW.pt (pw_and (pt_cmpR (op_neD hr.units) (pv 1) (pe_lst pa_nil) (nomark _)) (pw_and1 (pt_cmpR op_gt (pe_call TK.G (hr.mono (by omega)) (by rfl) TK.m TK.k TK.b .nil pass0 (pa_cons (pv 0) (pa_cons pe_int pa_nil))) pe_int (nomark _)))))
      (pss_one (ps_ret (pe_tup (pa_cons pe_str (pa_cons (pe_ix ix_list (pv 1) (pe_call TK.G (hr.mono (by omega)) (by rfl) TK.m TK.k TK.b .nil pass0 (pa_cons (pv 0) (pa_cons (pe_callB call_len_seq (by rfl) T.len (by decide +kernel) (pa_cons (pv 1) pa_nil)) pa_nil))) (fun _ _ => rfl)) pa_nil)))))
      pss_nil)
    (pss_one (ps_ret (pe_tup (pa_cons pe_str (pa_cons (pe_call NB.G (hr.mono (by omega)) (by rfl) NB.m NB.k NB.b .nil pass0 (pa_cons (pv 0) pa_nil)) pa_nil))))))
      pss_nil)
    (pss_cons (ps_set (i := 4) scTree.nd rfl (Or.inl rfl) (pe_ix ix_list (pe_lst (pa_cons pe_str (pa_cons pe_str (pa_cons pe_str (pa_cons pe_str (pa_cons pe_str pa_nil)))))) (pe_call TK.G (hr.mono (by omega)) (by rfl) TK.m TK.k TK.b .nil pass0 (pa_cons (pv 0) (pa_cons pe_int pa_nil))) (fun _ _ => rfl)))
    (pss_one (ps_ret (pe_tup (pa_cons (pv 4) (pa_cons (pe_call TR.G hr (by rfl) TR.m TR.k TR.b .nil pass0 (pa_cons (pv 0) (pa_cons (pv 1) (pa_cons (pe_op op_sub (pv 2) pe_int) pa_nil)))) (pa_cons (pe_call TR.G hr (by rfl) TR.m TR.k TR.b .nil pass0 (pa_cons (pv 0) (pa_cons (pv 1) (pa_cons (pe_op op_sub (pv 2) pe_int) pa_nil)))) pa_nil))))))))), ?_⟩
  have hs : sizeLine = 16777216 := by decide
  have htc : tc (n + 1) = 2 * tc n + 12 := rfl
  refine ⟨_, rfl, b, 5, k + 2 * tc n + 11, rfl, by decide, by decide, hB, fun d1 H1 a1 a2 B1 U1 => ?_⟩
  have ha1 := U1 _ _ nab ha
  refine ⟨_, rfl, rfl, _, rfl, ?_⟩
  refine ite2 (fun c => ?leafA) (fun c => ⟨_, rfl, rfl, _, rfl, ite2 (fun c2 => ?leafB) (fun c2 => ?rec)⟩)
  case rec =>
    have hn1 : 1 ≤ n := by
      have c' : ¬ (V.int ((n + 1 : Nat) : Int) = V.int 1) := of_decide_eq_false (Bool.eq_false_iff.mpr c)
      rcases Nat.eq_zero_or_pos n with z | z
      · exact absurd (by rw [z]; rfl) c'
      · exact z
    refine ⟨(by show 5 ≤ sizeLine; decide), fun l hl => ?_⟩
    refine ⟨_, rfl, b, 5, k + 2 * tc n + 10, rfl, by decide, by decide, B1.same (same_new hl _), fun d2 H2 b1 b2 B2 U2 => ?_⟩
    obtain ⟨g, eg⟩ := sgs_at b1 b2
    have nlb : l ≠ b := fun e => by obtain ⟨ys, hy⟩ := B1.lst; rw [e, hy] at hl; cases hl
    have hl2 : H2 l = some (.lst (sgs.map fun g => V.str g.txt)) := U2 _ _ nlb upd_same
    refine ⟨l, _, _, _, rfl, rfl, SqL.of hl2, eg, ?_⟩
    have U12 : But b H H2 := U1.trans ((But.new hl _).trans U2)
    have ha2 := U12 _ _ nab ha
    have en : ((n + 1 : Nat) : Int) - 1 = (n : Int) := by omega
    refine ⟨_, rfl, _, rfl, _, rfl, _, rfl, _, _, rfl, rfl, b, a, nm, k + tc n, (by show [V.ref b, V.ref a, V.int (((n + 1 : Nat) : Int) - 1)] = _; rw [en]), ha2, nab, hnl, hnm, hn1, B2.less (by omega), fun v1 e1 H3 t1 o1 B3 U3 => ?_⟩
    have ha3 := U3 _ _ nab ha2
    refine ⟨_, rfl, _, rfl, _, rfl, _, _, rfl, rfl, b, a, nm, k, (by show [V.ref b, V.ref a, V.int (((n + 1 : Nat) : Int) - 1)] = _; rw [en]), ha3, nab, hnl, hnm, hn1, B3, fun v2 e2 H4 t2 o2 B4 U4 => ?_⟩
    refine ⟨(by show 3 ≤ sizeLine; decide), fun p hp => ?_⟩
    obtain ⟨ys, hys⟩ := B3.lst
    have t1' : TrIn H4 e1 v1 := t1.but hys U4
    refine q (.ref p) (.op g e1 e2) _ ⟨p, v1, v2, rfl, upd_same, t1'.same (same_new hp _), t2.same (same_new hp _)⟩ ⟨o1, o2⟩ (B4.same (same_new hp _)) (U12.trans (U3.trans (U4.trans (But.new hp _))))
  all_goals
    refine ⟨fun σ' H' => σ' = [some (.ref b), some (.ref a), some (.int ((n + 1 : Nat) : Int)), some (.int d1), none] ∧ Bag H' b (k + 8) ∧ But b H H', ?_, ?_⟩
    · refine ⟨_, rfl, Nat.zero_le _, fun l hl => ?_⟩
      have sl := same_new hl (.lst [])
      refine ⟨.list (nm.map PyData.str), .list [], .lst (SqL.of (sl _ _ ha1)) (dp_strs nm), .lst (SqL.of upd_same) .nil, shaped_strs hnm, rfl, _, rfl, ?_⟩
      cases hnm' : nm with
      | nil => exact ⟨rfl, (B1.same sl).less (by omega), U1.trans (But.of sl)⟩
      | cons z r =>
        have el : (nm.length : Int) = (z :: r).length := by rw [hnm']
        refine ⟨_, rfl, b, 3, k + 2 * tc n + 10, rfl, by decide, by decide, B1.same sl, fun d2 H2 b1 b2 B2 U2 => ?_⟩
        have U12 : But b H H2 := U1.trans ((But.of sl).trans U2)
        have ha2 : H2 a = some (.lst (nm.map V.str)) := U12 _ _ nab ha
        refine ⟨_, _, rfl, rfl, _, rfl, ?_⟩
        refine ite2 (fun c3 => ?_) (fun c3 => ?_)
        · refine ⟨_, rfl, _, rfl, _, rfl, a, _, rfl, .inl (SqL.of ha2), b, _, k + 2 * tc n + 9, rfl, ?_, ?_, B2, fun d3 H3 e1 e2 B3 U3 => ?_⟩
          · rw [List.length_map, el, List.length_cons]; omega
          · rw [List.length_map]; omega
          · rw [List.length_map] at e2
            obtain ⟨x, ex, hx⟩ := menuS (ns := nm) e1 e2
            refine ⟨a, _, _, _, rfl, rfl, SqL.of (U3 _ _ nab ha2), ex, (by show 2 ≤ sizeLine; decide), fun p hp => ?_⟩
            exact q (.ref p) (.nam x) _ (trNam upd_same) hx ((B3.same (same_new hp _)).less (by omega)) (U12.trans (U3.trans (But.new hp _)))
        · exact ⟨rfl, B2.less (by omega), U12⟩
    · rintro σ' H2 ⟨rfl, B2, U2⟩
      refine ⟨_, rfl, b, k, rfl, B2, fun i H3 i0 i1 B3 U3 => ?_⟩
      refine ⟨(by show 2 ≤ sizeLine; decide), fun p hp => ?_⟩
      exact q (.ref p) (.num i) _ (trNum upd_same) ⟨i0, i1⟩ (B3.same (same_new hp _)) (U2.trans (U3.trans (But.new hp _)))
theorem tree_none {f : Addr} {fd : FuncData} : FnOk P w K mg base CX0 2 f fd ["_law_bag_here", "_law_names_here", "_law_deep"] (spTree 0) := by
  have no : ∀ vs H Q E, ¬ spTree 0 vs H Q E := fun vs H Q E h => by
    obtain ⟨_, _, _, _, _, _, _, _, _, h1, _⟩ := h
    omega
  exact ⟨fun vs H Q E h => absurd h (no vs H Q E), fun A outer s H args us vs Q E _ _ _ _ h => absurd h (no vs H Q E)⟩
theorem trees {f t u : Addr} {fd td ud : FuncData} (F : Fun K "_law_tree" "_law_tree" sTree f fd) (m : mg "_law_tree" = some (.ref f)) (bd : Binds K fd ["_law_bag_here", "_law_names_here", "_law_deep"] []) (TK : Fk P w K mg base 1 "_law_take" t td ["_law_bag_here", "_law_many"] spTake)
    (NB : Fk P w K mg base 2 "_law_number" u ud ["_law_bag_here"] spNumber) (T : Bi mg) : ∀ n : Nat, FnOk P w K mg base CX0 (n + 2) f fd ["_law_bag_here", "_law_names_here", "_law_deep"] (spTree n)
  | 0 => tree_none
  | n + 1 => ok_tree F TK NB ⟨trees F m bd TK NB T n, m, F.kp, bd⟩ T
theorem trees_all {f t u : Addr} {fd td ud : FuncData} (F : Fun K "_law_tree" "_law_tree" sTree f fd) (m : mg "_law_tree" = some (.ref f)) (bd : Binds K fd ["_law_bag_here", "_law_names_here", "_law_deep"] []) (TK : Fk P w K mg base 1 "_law_take" t td ["_law_bag_here", "_law_many"] spTake)
    (NB : Fk P w K mg base 2 "_law_number" u ud ["_law_bag_here"] spNumber) (T : Bi mg) (N : Nat) : FnOk P w K mg base CX0 (N + 2) f fd ["_law_bag_here", "_law_names_here", "_law_deep"] (spTrees N) := by
  refine ⟨fun vs H Q E h => ?_, fun A outer s H args us vs Q E hr he hb hv h => ?_⟩
  · obtain ⟨n, hn, h⟩ := h
    exact (trees (P := P) (w := w) (base := base) F m bd TK NB T n).len vs H Q E h
  · obtain ⟨n, hn, h⟩ := h
    exact (trees (P := P) (w := w) (base := base) F m bd TK NB T n).run A outer s H args us vs Q E (hr.mono (by omega)) he hb hv h
end
end SH

set_option Elab.async false
set_option linter.all false
set_option maxRecDepth 100000
namespace SH
open PySem L2
abbrev sText : Stmt := topS 66
theorem scText : FnScope ["_law_tree_here", "_law_level", "_law_one", "_law_first", "_law_other", "_law_second"] ["_law_tree_here"] (defScope sText) := ⟨rfl, rfl, rfl, by decide +kernel, rfl, by decide +kernel, by decide +kernel⟩
def spText (n : Nat) : Sp := fun vs H Q _ => ∃ (v : V) (e : Ex), vs = [v] ∧ TrIn H e v ∧ Ex.ok n e ∧
  ∀ (p : Addr) (H' : Hp), Same H H' → H p = none → H' p = some (.tup [.str e.txt, .int e.lw]) → Q (.ref p) H'
section
variable {P : Program} {w : World} {K : PySem.W.Frag} {mg : Str → Option Value} {base : Heap}
theorem lvs (g : Sg) : 1 ≤ g.lv ∧ g.lv ≤ 3 := by cases g <;> decide
theorem left_same (g : Sg) (l : Ex) : (decide (l.lw < g.lv) || decide (l.lw = 1)) = lB g l := by
  have := lvs g
  unfold lB
  cases l with
  | num i => show (decide ((9 : Int) < g.lv) || decide ((9 : Int) = 1)) = (decide ((4 : Int) < g.lv) || decide ((4 : Int) = 1)); rw [decide_eq_false (by omega : ¬ (9 : Int) < g.lv), decide_eq_false (by omega : ¬ (4 : Int) < g.lv)]; rfl
  | nam i => show (decide ((9 : Int) < g.lv) || decide ((9 : Int) = 1)) = (decide ((4 : Int) < g.lv) || decide ((4 : Int) = 1)); rw [decide_eq_false (by omega : ¬ (9 : Int) < g.lv), decide_eq_false (by omega : ¬ (4 : Int) < g.lv)]; rfl
  | op h a b => rfl
theorem right_same (g : Sg) (l : Ex) : (decide (l.lw ≤ g.lv) || decide (l.lw = 1)) = rB g l := by
  have := lvs g
  unfold rB
  cases l with
  | num i => show (decide ((9 : Int) ≤ g.lv) || decide ((9 : Int) = 1)) = decide ((4 : Int) ≤ g.lv); rw [decide_eq_false (by omega : ¬ (9 : Int) ≤ g.lv), decide_eq_false (by omega : ¬ (4 : Int) ≤ g.lv)]; rfl
  | nam i => show (decide ((9 : Int) ≤ g.lv) || decide ((9 : Int) = 1)) = decide ((4 : Int) ≤ g.lv); rw [decide_eq_false (by omega : ¬ (9 : Int) ≤ g.lv), decide_eq_false (by omega : ¬ (4 : Int) ≤ g.lv)]; rfl
  | op h a b =>
    show (decide (h.lv ≤ g.lv) || decide (h.lv = 1)) = decide (h.lv ≤ g.lv)
    by_cases e : h.lv = 1
    · rw [decide_eq_true (by omega : h.lv ≤ g.lv)]; rfl
    · rw [decide_eq_false e, Bool.or_false]
theorem or_ite {c d : Bool} {A B : Prop} (h1 : (c || d) = true → A) (h2 : (c || d) = false → B) : if c = true then A else (if d = true then A else B) := by
  cases c <;> cases d <;> simp_all
def lvD : List (Key × V) := [(.inr "*", .int 3), (.inr "+", .int 2), (.inr "-", .int 2), (.inr "<", .int 1), (.inr "==", .int 1)]
theorem lvD_at (g : Sg) : valV (mergeK [] lvD) (Sum.inr g.txt) = some (.int g.lv) := by cases g <;> decide +kernel
theorem ok_text {n k : Nat} {f : Addr} {fd : FuncData} (F : Fun K "_law_text" "_law_text" sText f fd) (TX : Fk P w K mg base k "_law_text" f fd ["_law_tree_here"] (spText n)) (T : Bi mg) (hn : lenB n ≤ 1000000) : FnOk P w K mg base CX0 (k + 1) f fd ["_law_tree_here"] (spText (n + 1)) := by
  refine F.ok scText (fun vs H Q E h => ?_) (fun cdv A outer s H vs Q E hr h => ?_)
  · obtain ⟨v, e, rfl, _⟩ := h
    rfl
  obtain ⟨v, e, rfl, hT, ho, q⟩ := h
  refine ⟨_, (pss_cons (ps_if (pt_cmpR op_in_seq (pe_ix ix_tup (pv 0) pe_int (fun _ _ => rfl)) (pe_lst (pa_cons pe_str (pa_cons pe_str pa_nil))) rfl)
      (pss_one (ps_ret (pe_tup (pa_cons (pe_callTy (CallR.or call_str_int SkE.call_str_str) (by rfl) T.str (by decide +kernel) (pa_cons (pe_ix ix_tup (pv 0) pe_int (fun _ _ => rfl)) pa_nil)) (pa_cons pe_int pa_nil)))))
      pss_nil)
    (pss_cons (ps_set (i := 1) scText.nd rfl (Or.inl rfl) (pe_dget (hu_of hr) (pe_disp (pps_cons pe_str pe_int (pps_cons pe_str pe_int (pps_cons pe_str pe_int (pps_cons pe_str pe_int (pps_cons pe_str pe_int pps_nil))))) (by rfl) (by rfl) (fun z => by cases z) (by decide)) (pe_ix ix_tup (pv 0) pe_int (fun _ _ => rfl)) (fun _ _ => rfl)))
    (pss_cons (ps_asg (pe_call TX.G hr (by rfl) TX.m TX.k TX.b .nil pass0 (pa_cons (pe_ix ix_tup (pv 0) pe_int (fun _ _ => rfl)) pa_nil)) (pg_tup rfl (pgs_cons (pg_name (i := 2) scText.nd rfl (.inl rfl)) (pgs_cons (pg_name (i := 3) scText.nd rfl (.inl rfl)) pgs_nil))))
    (pss_cons (ps_asg (pe_call TX.G hr (by rfl) TX.m TX.k TX.b .nil pass0 (pa_cons (pe_ix ix_tup (pv 0) pe_int (fun _ _ => rfl)) pa_nil)) (pg_tup rfl (pgs_cons (pg_name (i := 4) scText.nd rfl (.inl rfl)) (pgs_cons (pg_name (i := 5) scText.nd rfl (.inl rfl)) pgs_nil))))
    (C8.pss_cut (ps_if (PW.pt (pw_or (pt_cmpR op_lt (pv 3) (pv 1) (nomark _)) (pw_or1 (pt_cmpR op_eq (pv 3) pe_int (nomark _)))))
      (pss_one (ps_set (i := 2) scText.nd rfl (Or.inl rfl) (pe_op op_add_str (pe_op op_add_str pe_str (pv 2)) pe_str)))
      pss_nil)
    (C8.pss_cut (ps_if (PW.pt (pw_or (pt_cmpR op_le (pv 5) (pv 1) (nomark _)) (pw_or1 (pt_cmpR op_eq (pv 5) pe_int (nomark _)))))
      (pss_one (ps_set (i := 4) scText.nd rfl (Or.inl rfl) (pe_op op_add_str (pe_op op_add_str pe_str (pv 4)) pe_str)))
      pss_nil)
    (pss_one (ps_ret (pe_tup (pa_cons (pe_op op_add_str (pe_op op_add_str (pe_op op_add_str (pe_op op_add_str (pv 2) pe_str) (pe_ix ix_tup (pv 0) pe_int (fun _ _ => rfl))) pe_str) (pv 4)) (pa_cons (pv 1) pa_nil))))))))))), ?_⟩
  have hs : sizeLine = 16777216 := by decide
  cases e with
  | num i =>
    obtain ⟨a, rfl, ha⟩ := hT
    refine ⟨_, rfl, a, _, 0, _, rfl, rfl, SqT.of ha, atI_nat rfl, (by show 2 ≤ sizeLine; decide), fun l hl => ?_⟩
    have sl := same_new hl (.lst [.str "number", .str "name"])
    refine ⟨l, _, rfl, .inl (SqL.of upd_same), rfl, rfl, true, rfl, ?_⟩
    refine ⟨_, rfl, a, _, 1, _, rfl, rfl, SqT.of (sl _ _ ha), atI_nat (j := 1) rfl, .inl ⟨i, rfl, ho, ?_⟩⟩
    refine ⟨(by show 2 ≤ sizeLine; decide), fun p hp => ?_⟩
    exact q p _ (sl.trans (same_new hp _)) (sl.free hp) upd_same
  | nam z =>
    obtain ⟨a, rfl, ha⟩ := hT
    refine ⟨_, rfl, a, _, 0, _, rfl, rfl, SqT.of ha, atI_nat rfl, (by show 2 ≤ sizeLine; decide), fun l hl => ?_⟩
    have sl := same_new hl (.lst [.str "number", .str "name"])
    refine ⟨l, _, rfl, .inl (SqL.of upd_same), rfl, rfl, true, (by decide +kernel), ?_⟩
    refine ⟨_, rfl, a, _, 1, _, rfl, rfl, SqT.of (sl _ _ ha), atI_nat (j := 1) rfl, .inr ⟨z, rfl, ?_⟩⟩
    refine ⟨(by show 2 ≤ sizeLine; decide), fun p hp => ?_⟩
    exact q p _ (sl.trans (same_new hp _)) (sl.free hp) upd_same
  | op g l r =>
    obtain ⟨a, x, y, rfl, ha, hl, hr'⟩ := hT
    obtain ⟨o1, o2⟩ := ho
    have l1 := Ex.len n l o1
    have l2 := Ex.len n r o2
    have q1 := br_len (lB g l) l.txt
    have q2 := br_len (rB g r) r.txt
    have q3 := g.len
    have hb : (" " : Str).length = 1 := by decide +kernel
    have h1 : ("(" : Str).length = 1 := by decide +kernel
    have h2 : (")" : Str).length = 1 := by decide +kernel
    refine ⟨_, rfl, a, _, 0, _, rfl, rfl, SqT.of ha, atI_nat rfl, (by show 2 ≤ sizeLine; decide), fun l0 hl0 => ?_⟩
    have s0 := same_new hl0 (.lst [.str "number", .str "name"])
    have ein : inV (.str g.txt) [.str "number", .str "name"] = false := by cases g <;> decide +kernel
    refine ⟨l0, _, rfl, .inl (SqL.of upd_same), rfl, rfl, _, rfl, ?_⟩
    rw [if_neg Bool.false_ne_true, ein]
    refine iteF ?_
    generalize upd H l0 (.lst [.str "number", .str "name"]) = H0 at s0
    have ha0 := s0 _ _ ha
    -- the dict of levels
    refine fun d hd => ⟨upd_same, lvD, rfl, by decide, ?_⟩
    have e1 : upd (upd H0 d (.dK [])) d (.dK (mergeK [] lvD)) = upd H0 d (.dK (mergeK [] lvD)) := by
      funext b
      by_cases hb : b = d
      · subst hb; rw [upd_same, upd_same]
      · rw [upd_ne hb, upd_ne hb, upd_ne hb]
    rw [e1]
    have s1 := same_new hd (.dK (mergeK [] lvD))
    have hd1 : (upd H0 d (.dK (mergeK [] lvD))) d = some (.dK (mergeK [] lvD)) := upd_same
    generalize upd H0 d (.dK (mergeK [] lvD)) = H1 at s1 hd1
    have ha1 := s1 _ _ ha0
    have gt : DGet H1 d (.str g.txt) (some (.int g.lv)) := by
      have := DGet.k (k := Sum.inr g.txt) hd1
      rwa [lvD_at] at this
    refine ⟨_, rfl, a, _, 0, _, rfl, rfl, SqT.of ha1, atI_nat rfl, d, _, rfl, gt, ?_⟩
    have s01 := s0.trans s1
    refine ⟨_, rfl, a, _, 1, _, rfl, rfl, SqT.of ha1, atI_nat (j := 1) rfl, x, l, rfl, hl.same s01, o1, fun p1 H2 s2 np1 hp1 => ?_⟩
    refine ⟨p1, _, rfl, SqT.of hp1, rfl, _, _, rfl, _, _, rfl, rfl, ?_⟩
    have ha2 := s2 _ _ ha1
    refine ⟨_, rfl, a, _, 2, _, rfl, rfl, SqT.of ha2, atI_nat (j := 2) rfl, y, r, rfl, (hr'.same s01).same s2, o2, fun p2 H3 s3 np2 hp2 => ?_⟩
    refine ⟨p2, _, rfl, SqT.of hp2, rfl, _, _, rfl, _, _, rfl, rfl, ?_⟩
    have ha3 := s3 _ _ ha2
    have s03 := s01.trans (s2.trans s3)
    refine ⟨fun σ' H' => σ' = [some (.ref a), some (.int g.lv), some (.str (br (lB g l) l.txt)), some (.int l.lw), some (.str r.txt), some (.int r.lw)] ∧ H3 = H', ?_, ?_⟩
    · refine ⟨_, rfl, _, rfl, _, _, rfl, rfl, _, rfl, ?_⟩
      have ls := left_same g l
      have alt : ∀ X Y : Prop, True := fun _ _ => trivial
      refine ite2 (fun c => ⟨_, rfl, _, _, rfl, rfl, by omega, _, _, rfl, rfl, by rw [app_len]; omega, ?_, rfl⟩) (fun c => ⟨_, rfl, rfl, _, rfl, ite2 (fun c2 => ⟨_, rfl, _, _, rfl, rfl, by omega, _, _, rfl, rfl, by rw [app_len]; omega, ?_, rfl⟩) (fun c2 => ⟨?_, rfl⟩)⟩)
      · have eb : lB g l = true := by rw [← ls, c]; rfl
        rw [eb]; rfl
      · have c2' : l.lw = 1 := V.int.inj (of_decide_eq_true c2)
        have eb : lB g l = true := by rw [← ls, decide_eq_true c2', Bool.or_true]
        rw [eb]; rfl
      · have c2' : ¬ l.lw = 1 := fun z => (of_decide_eq_false (Bool.eq_false_iff.mpr c2)) (by rw [z])
        have eb : lB g l = false := by rw [← ls, Bool.eq_false_iff.mpr c, decide_eq_false c2']; rfl
        rw [eb]; rfl
    · rintro σ' H' ⟨rfl, rfl⟩
      refine ⟨fun σ' H' => σ' = [some (.ref a), some (.int g.lv), some (.str (br (lB g l) l.txt)), some (.int l.lw), some (.str (br (rB g r) r.txt)), some (.int r.lw)] ∧ H3 = H', ?_, ?_⟩
      · refine ⟨_, rfl, _, rfl, _, _, rfl, rfl, _, rfl, ?_⟩
        have ls := right_same g r
        refine ite2 (fun c => ⟨_, rfl, _, _, rfl, rfl, by omega, _, _, rfl, rfl, by rw [app_len]; omega, ?_, rfl⟩) (fun c => ⟨_, rfl, rfl, _, rfl, ite2 (fun c2 => ⟨_, rfl, _, _, rfl, rfl, by omega, _, _, rfl, rfl, by rw [app_len]; omega, ?_, rfl⟩) (fun c2 => ⟨?_, rfl⟩)⟩)
        · have eb : rB g r = true := by rw [← ls, c]; rfl
          rw [eb]; rfl
        · have c2' : r.lw = 1 := V.int.inj (of_decide_eq_true c2)
          have eb : rB g r = true := by rw [← ls, decide_eq_true c2', Bool.or_true]
          rw [eb]; rfl
        · have c2' : ¬ r.lw = 1 := fun z => (of_decide_eq_false (Bool.eq_false_iff.mpr c2)) (by rw [z])
          have eb : rB g r = false := by rw [← ls, Bool.eq_false_iff.mpr c, decide_eq_false c2']; rfl
          rw [eb]; rfl
      · rintro σ' H' ⟨rfl, rfl⟩
        refine ⟨_, rfl, _, _, rfl, rfl, by omega, _, rfl, a, _, 0, _, rfl, rfl, SqT.of ha3, atI_nat rfl, _, _, rfl, rfl, by rw [app_len]; omega, _, _, rfl, rfl, by rw [app_len, app_len]; omega, _, rfl, _, _, rfl, rfl, by rw [app_len, app_len, app_len]; omega, ?_⟩
        refine ⟨_, rfl, (by show 2 ≤ sizeLine; decide), fun p hp => ?_⟩
        exact q p _ (s03.trans (same_new hp _)) (s03.free hp) upd_same
theorem text_none {f : Addr} {fd : FuncData} : FnOk P w K mg base CX0 0 f fd ["_law_tree_here"] (spText 0) := by
  have no : ∀ vs H Q E, ¬ spText 0 vs H Q E := fun vs H Q E h => by
    obtain ⟨_, _, _, _, h1, _⟩ := h
    exact h1
  exact ⟨fun vs H Q E h => absurd h (no vs H Q E), fun A outer s H args us vs Q E _ _ _ _ h => absurd h (no vs H Q E)⟩
theorem texts {f : Addr} {fd : FuncData} (F : Fun K "_law_text" "_law_text" sText f fd) (m : mg "_law_text" = some (.ref f)) (bd : Binds K fd ["_law_tree_here"] []) (T : Bi mg) : ∀ n : Nat, n ≤ 7 → FnOk P w K mg base CX0 n f fd ["_law_tree_here"] (spText n)
  | 0, _ => text_none
  | n + 1, hn => ok_text F ⟨texts F m bd T n (by omega), m, F.kp, bd⟩ T (Nat.le_trans (lenB_le (m := 7) (by omega)) (by decide))
end
end SH

set_option Elab.async false
set_option linter.all false
set_option maxRecDepth 100000
namespace SH
open PySem L2
/-! ### rows and works -/
def NmOk (s : Str) : Prop := nmOk s ∧ s ∉ kept
def Ex.fine : Nat → Ex → Prop
  | 0, _ => False
  | _ + 1, .num i => 0 ≤ i ∧ i < 1000000 ^ 5
  | _ + 1, .nam s => NmOk s
  | n + 1, .op _ l r => Ex.fine n l ∧ Ex.fine n r
theorem Ex.fine_up : ∀ {n m : Nat} {e : Ex}, n ≤ m → Ex.fine n e → Ex.fine m e
  | 0, _, _, _, h => h.elim
  | n + 1, m + 1, .num _, _, h => h
  | n + 1, m + 1, .nam _, _, h => h
  | n + 1, m + 1, .op _ _ _, hm, h => ⟨Ex.fine_up (by omega) h.1, Ex.fine_up (by omega) h.2⟩
theorem Ex.of_fine {nm : List Str} (hn : ∀ s ∈ nm, NmOk s) : ∀ {n : Nat} {e : Ex}, Ex.of nm n e → Ex.fine n e
  | 0, _, h => h
  | n + 1, .num i, h => h
  | n + 1, .nam s, h => hn s h
  | n + 1, .op _ _ _, h => ⟨Ex.of_fine hn h.1, Ex.of_fine hn h.2⟩
theorem Ex.fine_ok : ∀ {n : Nat} {e : Ex}, Ex.fine n e → Ex.ok n e
  | 0, _, h => h
  | n + 1, .num i, h => log_ok h.1 h.2
  | n + 1, .nam s, h => by
    have q := h.1.2.1
    rw [codes_len] at q
    show s.length ≤ 2000
    omega
  | n + 1, .op _ _ _, h => ⟨Ex.fine_ok h.1, Ex.fine_ok h.2⟩
inductive Rs where
  | nil
  | put (x : Str) (e : Ex) (t : Rs)
  | go (w : Bool) (x f : Str) (es : List Ex) (t : Rs)
  | wait (x y : Str) (e : Option Ex) (t : Rs)
  | iff (e : Ex) (a b t : Rs)
  | give (w : Bool) (e : Ex) (t : Rs)
def goW : Bool → Str
  | false => "go"
  | true => "call"
def giveW : Bool → Str
  | false => "give"
  | true => "fail"
def TrsIn (H : Hp) : List Ex → List V → Prop
  | [], vs => vs = []
  | e :: es, vs => ∃ v r, vs = v :: r ∧ TrIn H e v ∧ TrsIn H es r
def OptIn (H : Hp) : Option Ex → V → Prop
  | none, v => v = .non
  | some e, v => TrIn H e v
def RsIn (H : Hp) : Rs → List V → Prop
  | .nil, vs => vs = []
  | .put x e t, vs => ∃ a v r, vs = .ref a :: r ∧ H a = some (.tup [.str "put", .str x, v]) ∧ TrIn H e v ∧ RsIn H t r
  | .go w x f es t, vs => ∃ a p ws r, vs = .ref a :: r ∧ H a = some (.tup [.str (goW w), .str x, .str f, .ref p]) ∧ H p = some (.tup ws) ∧ TrsIn H es ws ∧ RsIn H t r
  | .wait x y oe t, vs => ∃ a v r, vs = .ref a :: r ∧ H a = some (.tup [.str "wait", .str x, .str y, v]) ∧ OptIn H oe v ∧ RsIn H t r
  | .iff e A B t, vs => ∃ a v p xs p' ys r, vs = .ref a :: r ∧ H a = some (.tup [.str "if", v, .ref p, .ref p']) ∧ TrIn H e v ∧ H p = some (.tup xs) ∧ RsIn H A xs ∧ H p' = some (.tup ys) ∧ RsIn H B ys ∧ RsIn H t r
  | .give w e t, vs => ∃ a v r, vs = .ref a :: r ∧ H a = some (.tup [.str (giveW w), v]) ∧ TrIn H e v ∧ RsIn H t r
def Rs.count : Rs → Nat
  | .nil => 0
  | .put _ _ t => 1 + t.count
  | .go _ _ _ _ t => 1 + t.count
  | .wait _ _ _ t => 1 + t.count
  | .iff _ a b t => 1 + a.count + b.count + t.count
  | .give _ _ t => 1 + t.count
def Rs.rc : Rs → Nat
  | .nil => 0
  | .iff _ a b _ => 1 + a.count + b.count
  | _ => 1
def Rs.tl : Rs → Rs
  | .nil => .nil
  | .put _ _ t => t
  | .go _ _ _ _ t => t
  | .wait _ _ _ t => t
  | .iff _ _ _ t => t
  | .give _ _ t => t
theorem Rs.count_eq (r : Rs) : r.count = r.rc + r.tl.count := by cases r <;> rfl
/-- the goes and calls, from the first on -/
def Rs.starts : Rs → List (Str × Nat)
  | .nil => []
  | .put _ _ t => t.starts
  | .go _ _ f es t => (f, es.length) :: t.starts
  | .wait _ _ _ t => t.starts
  | .iff _ a b t => a.starts ++ b.starts ++ t.starts
  | .give _ _ t => t.starts
def Rs.ok : Nat → Rs → Prop
  | _, .nil => True
  | n, .put x e t => NmOk x ∧ Ex.fine 6 e ∧ Rs.ok n t
  | n, .go _ x f es t => NmOk x ∧ NmOk f ∧ es.length ≤ 4 ∧ (∀ e ∈ es, Ex.fine 6 e) ∧ Rs.ok n t
  | n, .wait x y oe t => NmOk x ∧ NmOk y ∧ (∀ e, oe = some e → Ex.fine 6 e) ∧ Rs.ok n t
  | n, .iff e a b t => 1 ≤ n ∧ Ex.fine 6 e ∧ Rs.ok (n - 1) a ∧ Rs.ok (n - 1) b ∧ Rs.ok n t
  | n, .give _ e t => Ex.fine 6 e ∧ Rs.ok n t
theorem Rs.ok_tl {n : Nat} : ∀ {r : Rs}, Rs.ok n r → Rs.ok n r.tl
  | .nil, _ => trivial
  | .put _ _ _, h => h.2.2
  | .go _ _ _ _ _, h => h.2.2.2.2
  | .wait _ _ _ _, h => h.2.2.2
  | .iff _ _ _ _, h => h.2.2.2.2
  | .give _ _ _, h => h.2
theorem RsIn.tl {H : Hp} : ∀ {r : Rs} {v : V} {vs : List V}, RsIn H r (v :: vs) → RsIn H r.tl vs
  | .nil, _, _, h => by cases h
  | .put _ _ _, _, _, ⟨a, v, r, e, _, _, h⟩ => by cases e; exact h
  | .go _ _ _ _ _, _, _, ⟨a, p, ws, r, e, _, _, _, h⟩ => by cases e; exact h
  | .wait _ _ _ _, _, _, ⟨a, v, r, e, _, _, h⟩ => by cases e; exact h
  | .iff _ _ _ _, _, _, ⟨a, v, p, xs, p', ys, r, e, _, _, _, _, _, _, h⟩ => by cases e; exact h
  | .give _ _ _, _, _, ⟨a, v, r, e, _, _, h⟩ => by cases e; exact h
theorem Rs.rc_pos {H : Hp} : ∀ {r : Rs} {v : V} {vs : List V}, RsIn H r (v :: vs) → 1 ≤ r.rc
  | .nil, _, _, h => by cases h
  | .put _ _ _, _, _, _ => Nat.le_refl _
  | .go _ _ _ _ _, _, _, _ => Nat.le_refl _
  | .wait _ _ _ _, _, _, _ => Nat.le_refl _
  | .iff _ a b _, _, _, _ => by show 1 ≤ 1 + a.count + b.count; omega
  | .give _ _ _, _, _, _ => Nat.le_refl _
/-! ### a name of the module that holds a number -/
def Gi (mg : Str → Option Value) (x : Str) (i : Int) : Prop := ∃ t, mg x = some (.int i t)
theorem pe_gi {X : Cx} {x : Str} {i : Int} {pos : Pos} (h : Gi X.mg x i) (hg : Gl X x := by rfl) (hd : (x == ("__debug__" : Str)) = false := by decide) : PE X (.Name x pos) (tC (.int i)) := by
  obtain ⟨t, h⟩ := h
  exact pe_glob hg h ⟨t, rfl⟩ hd
def signsL : List Str := ["+", "-", "*", "<", "=="]
structure Gf (K : PySem.W.Frag) (mg : Str → Option Value) : Prop where
  words : ∃ a, mg "WORDS" = some (.ref a) ∧ ∀ H, SqT K H a (kept.map V.str)
  signs : ∃ a, mg "SIGNS" = some (.ref a) ∧ ∀ H, SqT K H a (signsL.map V.str)
  letters : ∃ t, mg "LETTERS" = some (.str letters t)
  works : Gi mg "MOST_WORKS" 12
  rows : Gi mg "MOST_ROWS" 40
  names : Gi mg "MOST_NAMES" 4
  exprs : Gi mg "MOST_EXPRESSIONS" 4
  ifs : Gi mg "MOST_IFS" 3
  lets : Gi mg "MOST_LETTERS" 8
  room : Gi mg "MOST_ROOM" 1000
  num : Gi mg "MOST_NUMBER" (1000000 ^ 5 - 1)
  norows : Gi mg "NO_ROWS" (-1)
abbrev sTupOf : Stmt := topS 37
abbrev sWhole : Stmt := topS 38
abbrev sWithin : Stmt := topS 39
abbrev sIsName : Stmt := topS 40
abbrev sLeaf : Stmt := topS 43
abbrev sIsEx : Stmt := topS 42
theorem scTupOf : FnScope ["thing", "many"] ["thing", "many"] (defScope sTupOf) := ⟨rfl, rfl, rfl, by decide +kernel, rfl, by decide +kernel, by decide +kernel⟩
theorem scWhole : FnScope ["thing"] ["thing"] (defScope sWhole) := ⟨rfl, rfl, rfl, by decide +kernel, rfl, by decide +kernel, by decide +kernel⟩
theorem scWithin : FnScope ["thing", "most"] ["thing", "most"] (defScope sWithin) := ⟨rfl, rfl, rfl, by decide +kernel, rfl, by decide +kernel, by decide +kernel⟩
theorem scIsName : FnScope ["thing", "letter"] ["thing"] (defScope sIsName) := ⟨rfl, rfl, rfl, by decide +kernel, rfl, by decide +kernel, by decide +kernel⟩
theorem scLeaf : FnScope ["pair"] ["pair"] (defScope sLeaf) := ⟨rfl, rfl, rfl, by decide +kernel, rfl, by decide +kernel, by decide +kernel⟩
theorem scIsEx : FnScope ["thing", "deepest"] ["thing", "deepest"] (defScope sIsEx) := ⟨rfl, rfl, rfl, by decide +kernel, rfl, by decide +kernel, by decide +kernel⟩
def spTupOf : Sp := fun vs H Q _ => ∃ (a : Addr) (xs : List V) (n : Int), vs = [.ref a, .int n] ∧ H a = some (.tup xs) ∧ Q (.bl (decide (V.int (xs.length : Nat) = V.int n))) H
def spWhole : Sp := fun vs H Q _ => ∃ i : Int, vs = [.int i] ∧ Q (.bl true) H
def spWithin : Sp := fun vs H Q _ => ∃ i m : Int, vs = [.int i, .int m] ∧ 0 ≤ i ∧ i ≤ m ∧ Q (.bl true) H
def spIsName : Sp := fun vs H Q _ => ∃ s : Str, vs = [.str s] ∧ NmOk s ∧ ∀ H', Same H H' → Q (.bl true) H'
def Ex.isLeaf : Ex → Bool
  | .op _ _ _ => false
  | _ => true
def spLeaf : Sp := fun vs H Q _ => ∃ (v : V) (e : Ex), vs = [v] ∧ TrIn H e v ∧ e.isLeaf = true ∧ Ex.fine 1 e ∧ ∀ H', Same H H' → Q (.bl true) H'
def spIsEx (n : Nat) : Sp := fun vs H Q _ => ∃ (v : V) (e : Ex), vs = [v, .int n] ∧ TrIn H e v ∧ Ex.fine n e ∧ ∀ H', Same H H' → Q (.bl true) H'
section
variable {P : Program} {w : World} {K : PySem.W.Frag} {mg : Str → Option Value} {base : Heap}
/-- a def with defaults, no error leaves it -/
theorem ok0 {x qual : Str} {st : Stmt} {dvs : List V} {kws : List (Str × V)} {f : Addr} {fd : FuncData} {N ps : List Str} {k : Nat} {sp : Sp} (F : FunD K x qual (defArgs st) (defBody st) (defScope st) dvs kws f fd) (S : FnScope N ps (defScope st)) (len : ∀ vs H Q E, sp vs H Q E → vs.length = ps.length)
    (hb : ∀ (cdv : Value) (A : Around) (outer : List Env) (s : Shared) (H : Hp) (vs : List V) (Q : VK) (E : XK), Room k (A.deeper (PyProof.Rows.envOfC qual (defScope st) s.heap.objs.size f cdv)) → sp vs H Q E →
      ∃ t, PSs (cxOf CX0 P w K mg base N qual (defScope st) f cdv A outer s H E).nox (defBody st) t ∧ t { nx := fun _ H' => Q .non H', rt := Q } (L2.start N vs) H) : FnOk P w K mg base CX0 (k + 1) f fd ps sp :=
  F.ok S len fun cdv A outer s H vs Q E hr h => by
    obtain ⟨t, h1, h2⟩ := hb cdv A outer s H vs Q E hr h
    exact ⟨t, h1.nox, h2⟩
theorem ok_tupOf {f : Addr} {fd : FuncData} (F : Fun K "is_tuple_of" "is_tuple_of" sTupOf f fd) (T : Bi mg) (mt : mg "tuple" = none) : FnOk P w K mg base CX0 1 f fd ["thing", "many"] spTupOf := by
  refine F.ok scTupOf (fun vs H Q E h => ?_) (fun cdv A outer s H vs Q E hr h => ?_)
  · obtain ⟨a, xs, n, rfl, _⟩ := h
    rfl
  obtain ⟨a, xs, n, rfl, ha, q⟩ := h
  refine ⟨_, (pss_one (ps_ret (pe_and (pe_callB call_isi (by rfl) T.isinstance (by decide +kernel) (pa_cons (pv 0) (pa_cons (pe_bltn (v := .ty "tuple") (by rfl) mt (by decide +kernel) rfl) pa_nil))) (pe_one (pe_cmpR op_eq (pe_callB call_len_seq (by rfl) T.len (by decide +kernel) (pa_cons (pv 0) pa_nil)) (pv 1) (nomark _)))))), ?_⟩
  refine ⟨_, rfl, _, _, _, _, true, rfl, .ty "tuple", .base (.tup ha), kit_ty (by decide +kernel), _, rfl, ?_⟩
  exact ⟨_, rfl, a, _, rfl, .inr (SqT.of ha), _, rfl, rfl, q⟩
theorem ok_whole {f : Addr} {fd : FuncData} (F : Fun K "is_whole" "is_whole" sWhole f fd) (T : Bi mg) (mt : mg "bool" = none) : FnOk P w K mg base CX0 1 f fd ["thing"] spWhole := by
  refine F.ok scWhole (fun vs H Q E h => ?_) (fun cdv A outer s H vs Q E hr h => ?_)
  · obtain ⟨i, rfl, _⟩ := h
    rfl
  obtain ⟨i, rfl, q⟩ := h
  refine ⟨_, (pss_one (ps_ret (pe_and (pe_callB call_isi (by rfl) T.isinstance (by decide +kernel) (pa_cons (pv 0) (pa_cons (pe_bltn (v := .ty "int") (by rfl) T.int (by decide +kernel) rfl) pa_nil))) (pe_one (pe_not (pe_callB call_isi (by rfl) T.isinstance (by decide +kernel) (pa_cons (pv 0) (pa_cons (pe_bltn (v := .ty "bool") (by rfl) mt (by decide +kernel) rfl) pa_nil)))))))), ?_⟩
  refine ⟨_, rfl, _, _, _, _, true, rfl, .ty "int", .base (.int i), kit_ty (by decide +kernel), _, rfl, ?_⟩
  exact ⟨_, rfl, _, _, _, _, false, rfl, .ty "bool", .base (.int i), kit_ty (by decide +kernel), _, rfl, q⟩
theorem ok_within {f g : Addr} {fd gd : FuncData} (F : Fun K "is_whole_within" "is_whole_within" sWithin f fd) (WH : Fk P w K mg base 1 "is_whole" g gd ["thing"] spWhole) : FnOk P w K mg base CX0 2 f fd ["thing", "most"] spWithin := by
  refine F.ok scWithin (fun vs H Q E h => ?_) (fun cdv A outer s H vs Q E hr h => ?_)
  · obtain ⟨i, m, rfl, _⟩ := h
    rfl
  obtain ⟨i, m, rfl, h0, h1, q⟩ := h
  refine ⟨_, (pss_one (ps_ret (pe_and (pe_call WH.G (hr.mono (by omega)) (by rfl) WH.m WH.k WH.b .nil pass0 (pa_cons (pv 0) pa_nil)) (pe_one (pe_chain op_le op_le pe_int (pv 0) (pv 1)))))), ?_⟩
  refine ⟨_, rfl, i, rfl, _, rfl, ?_⟩
  refine ⟨_, rfl, _, _, rfl, rfl, _, rfl, ?_⟩
  rw [decide_eq_true h0]
  refine ⟨_, rfl, _, _, rfl, rfl, ?_⟩
  show Q (.bl (decide (i ≤ m))) H
  rw [decide_eq_true h1]
  exact q
theorem ok_isName {f : Addr} {fd : FuncData} (F : Fun K "is_name" "is_name" sIsName f fd) (T : Bi mg) (G : Gf K mg) : FnOk P w K mg base CX0 1 f fd ["thing"] spIsName := by
  refine F.ok scIsName (fun vs H Q E h => ?_) (fun cdv A outer s H vs Q E hr h => ?_)
  · obtain ⟨i, rfl, _⟩ := h
    rfl
  obtain ⟨z, rfl, ⟨⟨n1, n2, n3⟩, nk⟩, q⟩ := h
  obtain ⟨aW, gW, sW⟩ := G.words
  obtain ⟨tL, gLt⟩ := G.letters
  refine ⟨_, (pss_cons (ps_if (PW.pt (pw_or (pt_not (pt_val (pe_callB call_isi (by rfl) T.isinstance (by decide +kernel) (pa_cons (pv 0) (pa_cons (pe_bltn (v := .ty "str") (by rfl) T.str (by decide +kernel) rfl) pa_nil))))) (pw_or1 (pt_not (pt_chain op_le op_le pe_int (pe_callB call_len (by rfl) T.len (by decide +kernel) (pa_cons (pv 0) pa_nil)) (pe_gi G.lets))))))
      (pss_one (ps_ret pe_bl))
      pss_nil)
    (pss_one (ps_ret (pe_and (pe_cmpR op_notIn_seq (pv 0) (pe_glob (v := .ref aW) rfl gW rfl) rfl) (pe_one (pe_callB (cr_all rfl) (by rfl) T.all (by decide +kernel) (pa_cons (pe_lc (own := [("letter", 1)]) (g := gName 1) (tt := tYes) (by rfl) scIsName.nd (pi_str (pv 0)) (blkOk_by (own := [("letter", 1)]) (N := ["thing", "letter"]) (sc := defScope sIsName) (by decide +kernel)) (fun _ _ _ _ _ => pg_name (i := 1) scIsName.nd rfl (Or.inl rfl)) (fun _ _ _ _ _ => pts_nil) (fun _ _ _ _ _ => (pe_cmpR op_in_sign (pv 1) (pe_glob (v := .str letters) rfl gLt ⟨_, rfl⟩) rfl))) pa_nil))))))), ?_⟩
  rw [codes_len] at n1 n2
  have hs : sizeLine = 16777216 := by decide
  refine ⟨_, rfl, _, _, _, _, true, rfl, .ty "str", .base (.str z), kit_ty (by decide +kernel), _, rfl, ?_⟩
  refine ⟨_, rfl, _, z.length, rfl, ⟨by omega, rfl⟩, _, _, rfl, rfl, _, rfl, ?_⟩
  rw [decide_eq_true (by omega : (1 : Int) ≤ (z.length : Nat))]
  refine ⟨_, _, rfl, rfl, _, rfl, ?_⟩
  rw [decide_eq_true (by omega : ((z.length : Nat) : Int) ≤ 8)]
  refine ⟨_, rfl, aW, _, rfl, .inr (sW _), rfl, flat_strs kept, _, rfl, ?_⟩
  rw [if_pos rfl, inV_str, decide_eq_false nk]
  refine ⟨_, rfl, z, rfl, ?_⟩
  intro D hD
  refine lc_it walk_str (fun j H' => H' D = some (.lst ((List.replicate j true).map V.bl)) ∧ Same H H') ⟨upd_same, same_new hD _⟩ (fun _ _ _ _ => trivial) ?_ ?_
  · rintro j x H1 H2 hj ⟨hD1, s1⟩ ⟨rfl, c, hc, rfl⟩
    refine ⟨rfl, ?_⟩
    refine ⟨_, rfl, c, letters, rfl, rfl, ?_⟩
    have hc' : c ∈ letters.cps.toList := by
      have hm : c ∈ codes z := by
        unfold codes
        exact List.mem_of_getElem? (by rw [Array.getElem?_toList]; exact hc)
      have hr' := n3 c hm
      have all : ∀ c : Fin 123, 97 ≤ c.val → c.val ∈ letters.cps.toList := by decide +kernel
      exact all ⟨c, by omega⟩ hr'.1
    refine ⟨_, hD1, ?_, ?_, ?_⟩
    · rw [List.length_map, List.length_replicate]
      have : j < z.length := hj
      omega
    · rw [upd_same, decide_eq_true hc', List.replicate_succ', List.map_append]
      rfl
    · intro x o zz
      rw [upd_ne (ne_of_none zz hD)]
      exact s1 _ _ zz
  · rintro H1 ⟨hD1, s1⟩
    refine ⟨D, _, rfl, SqL.of hD1, ?_⟩
    have : (List.replicate z.cps.size true).all id = true := by
      rw [List.all_eq_true]
      intro x hx
      exact (List.mem_replicate.mp hx).2
    rw [this]
    exact q H1 s1
theorem ok_leaf {f g h : Addr} {fd gd hd : FuncData} (F : Fun K "is_leaf" "is_leaf" sLeaf f fd) (WI : Fk P w K mg base 2 "is_whole_within" g gd ["thing", "most"] spWithin) (IN : Fk P w K mg base 1 "is_name" h hd ["thing"] spIsName) (G : Gf K mg) : FnOk P w K mg base CX0 3 f fd ["pair"] spLeaf := by
  refine F.ok scLeaf (fun vs H Q E h => ?_) (fun cdv A outer s H vs Q E hr h => ?_)
  · obtain ⟨v, e, rfl, _⟩ := h
    rfl
  obtain ⟨v, e, rfl, hT, hlf, hf, q⟩ := h
  refine ⟨_, (pss_cons (ps_if (pt_cmpR op_eq (pe_ix ix_tup (pv 0) pe_int (fun _ _ => rfl)) pe_str (nomark _))
      (pss_one (ps_ret (pe_call WI.G (hr.mono (by omega)) (by rfl) WI.m WI.k WI.b .nil pass0 (pa_cons (pe_ix ix_tup (pv 0) pe_int (fun _ _ => rfl)) (pa_cons (pe_gi G.num) pa_nil)))))
      pss_nil)
    (pss_one (ps_ret (pe_and (pe_cmpR op_eq (pe_ix ix_tup (pv 0) pe_int (fun _ _ => rfl)) pe_str (nomark _)) (pe_one (pe_call IN.G (hr.mono (by omega)) (by rfl) IN.m IN.k IN.b .nil pass0 (pa_cons (pe_ix ix_tup (pv 0) pe_int (fun _ _ => rfl)) pa_nil))))))), ?_⟩
  cases e with
  | num i =>
    obtain ⟨a, rfl, ha⟩ := hT
    refine ⟨_, rfl, a, _, 0, _, rfl, rfl, SqT.of ha, atI_nat rfl, rfl, _, rfl, ?_⟩
    rw [decide_eq_true rfl]
    refine iteT ⟨_, rfl, a, _, 1, _, rfl, rfl, SqT.of ha, atI_nat (j := 1) rfl, i, _, rfl, hf.1, ?_, q H (Same.refl H)⟩
    have := hf.2
    omega
  | nam z =>
    obtain ⟨a, rfl, ha⟩ := hT
    refine ⟨_, rfl, a, _, 0, _, rfl, rfl, SqT.of ha, atI_nat rfl, rfl, _, rfl, ?_⟩
    rw [decide_eq_false (by intro z; have := V.str.inj z; revert this; decide +kernel)]
    refine iteF ?_
    refine ⟨_, rfl, a, _, 0, _, rfl, rfl, SqT.of ha, atI_nat rfl, rfl, _, rfl, ?_⟩
    rw [decide_eq_true rfl]
    refine iteT ⟨_, rfl, a, _, 1, _, rfl, rfl, SqT.of ha, atI_nat (j := 1) rfl, z, rfl, hf, q⟩
  | op g l r => cases hlf
theorem ok_isEx {n : Nat} {f t l : Addr} {fd td ld : FuncData} (F : FunD K "is_expression" "is_expression" (defArgs sIsEx) (defBody sIsEx) (defScope sIsEx) [.int 6] [] f fd) (TO : Fk P w K mg base 1 "is_tuple_of" t td ["thing", "many"] spTupOf) (LF : Fk P w K mg base 3 "is_leaf" l ld ["pair"] spLeaf)
    (IE : Fk P w K mg base (n + 3) "is_expression" f fd ["thing", "deepest"] (spIsEx n)) (G : Gf K mg) : FnOk P w K mg base CX0 (n + 4) f fd ["thing", "deepest"] (spIsEx (n + 1)) := by
  refine ok0 F scIsEx (fun vs H Q E h => ?_) (fun cdv A outer s H vs Q E hr h => ?_)
  · obtain ⟨v, e, rfl, _⟩ := h
    rfl
  obtain ⟨v, e, rfl, hT, hf, q⟩ := h
  obtain ⟨aS, gS, sS⟩ := G.signs
  refine ⟨_, (pss_cons (ps_if (pt_val (pe_call TO.G (hr.mono (by omega)) (by rfl) TO.m TO.k TO.b .nil pass0 (pa_cons (pv 0) (pa_cons pe_int pa_nil))))
      (pss_one (ps_ret (pe_call LF.G (hr.mono (by omega)) (by rfl) LF.m LF.k LF.b .nil pass0 (pa_cons (pv 0) pa_nil))))
      pss_nil)
    (pss_cons (ps_if (PW.pt (pw_or (pt_not (pt_val (pe_call TO.G (hr.mono (by omega)) (by rfl) TO.m TO.k TO.b .nil pass0 (pa_cons (pv 0) (pa_cons pe_int pa_nil))))) (pw_or1 (pt_cmpR op_notIn_seq (pe_ix ix_tup (pv 0) pe_int (fun _ _ => rfl)) (pe_glob (v := .ref aS) rfl gS rfl) rfl))))
      (pss_one (ps_ret pe_bl))
      pss_nil)
    (pss_one (ps_ret (pe_and (pe_cmpR op_gt (pv 1) pe_int (nomark _)) (pe_and (pe_call IE.G hr (by rfl) IE.m IE.k IE.b .nil pass0 (pa_cons (pe_ix ix_tup (pv 0) pe_int (fun _ _ => rfl)) (pa_cons (pe_op op_sub (pv 1) pe_int) pa_nil))) (pe_one (pe_call IE.G hr (by rfl) IE.m IE.k IE.b .nil pass0 (pa_cons (pe_ix ix_tup (pv 0) pe_int (fun _ _ => rfl)) (pa_cons (pe_op op_sub (pv 1) pe_int) pa_nil)))))))))), ?_⟩
  cases e with
  | num i =>
    have hT' := hT
    obtain ⟨a, rfl, ha⟩ := hT
    refine ⟨_, rfl, a, _, 2, rfl, ha, _, rfl, ?_⟩
    refine ⟨_, rfl, _, .num i, rfl, hT', rfl, hf, q⟩
  | nam z =>
    have hT' := hT
    obtain ⟨a, rfl, ha⟩ := hT
    refine ⟨_, rfl, a, _, 2, rfl, ha, _, rfl, ?_⟩
    refine ⟨_, rfl, _, .nam z, rfl, hT', rfl, hf, q⟩
  | op g x y =>
    obtain ⟨a, vx, vy, rfl, ha, tx, ty⟩ := hT
    refine ⟨_, rfl, a, _, 2, rfl, ha, _, rfl, ?_⟩
    refine ⟨_, rfl, a, _, 3, rfl, ha, _, rfl, ?_⟩
    refine ⟨_, rfl, a, _, 0, _, rfl, rfl, SqT.of ha, atI_nat rfl, aS, _, rfl, .inr (sS _), rfl, flat_strs signsL, _, rfl, ?_⟩
    have e1 : inV (.str g.txt) (signsL.map V.str) = true := by
      rw [inV_str]
      cases g <;> decide +kernel
    rw [if_pos rfl, e1]
    have hn : 1 ≤ n := by
      cases n with
      | zero => exact hf.1.elim
      | succ m => exact Nat.succ_le_succ (Nat.zero_le _)
    have en : ((n + 1 : Nat) : Int) - 1 = (n : Int) := by omega
    refine ⟨_, rfl, _, _, rfl, rfl, _, rfl, ?_⟩
    rw [decide_eq_true (by omega : (1 : Int) < ((n + 1 : Nat) : Int))]
    refine ⟨_, rfl, a, _, 1, _, rfl, rfl, SqT.of ha, atI_nat (j := 1) rfl, _, rfl, _, _, rfl, rfl, vx, x, (by show [vx, V.int (((n + 1 : Nat) : Int) - 1)] = _; rw [en]), tx, hf.1, fun H1 s1 => ?_⟩
    refine ⟨_, rfl, ?_⟩
    refine ⟨_, rfl, a, _, 2, _, rfl, rfl, SqT.of (s1 _ _ ha), atI_nat (j := 2) rfl, _, rfl, _, _, rfl, rfl, vy, y, (by show [vy, V.int (((n + 1 : Nat) : Int) - 1)] = _; rw [en]), ty.same s1, hf.2, fun H2 s2 => q H2 (s1.trans s2)⟩
theorem isEx_none {f : Addr} {fd : FuncData} : FnOk P w K mg base CX0 3 f fd ["thing", "deepest"] (spIsEx 0) := by
  have no : ∀ vs H Q E, ¬ spIsEx 0 vs H Q E := fun vs H Q E h => by
    obtain ⟨_, _, _, _, h1, _⟩ := h
    exact h1
  exact ⟨fun vs H Q E h => absurd h (no vs H Q E), fun A outer s H args us vs Q E _ _ _ _ h => absurd h (no vs H Q E)⟩
theorem isExs {f t l : Addr} {fd td ld : FuncData} (F : FunD K "is_expression" "is_expression" (defArgs sIsEx) (defBody sIsEx) (defScope sIsEx) [.int 6] [] f fd) (m : mg "is_expression" = some (.ref f)) (bd : Binds K fd ["thing", "deepest"] []) (TO : Fk P w K mg base 1 "is_tuple_of" t td ["thing", "many"] spTupOf) (LF : Fk P w K mg base 3 "is_leaf" l ld ["pair"] spLeaf) (G : Gf K mg) :
    ∀ n : Nat, FnOk P w K mg base CX0 (n + 3) f fd ["thing", "deepest"] (spIsEx n)
  | 0 => isEx_none
  | n + 1 => ok_isEx F TO LF ⟨isExs F m bd TO LF G n, m, F.kp, bd⟩ G
end
end SH

set_option Elab.async false
set_option linter.all false
set_option maxRecDepth 100000
namespace SH
open PySem L2
abbrev sAreNames : Stmt := topS 41
abbrev sAreEx : Stmt := topS 44
abbrev sIfHead : Stmt := topS 48
abbrev sPlain : Stmt := topS 49
abbrev sRowL : Stmt := topS 46
abbrev sBranL : Stmt := topS 47
abbrev sRowsL : Stmt := topS 45
abbrev sIsWork : Stmt := topS 36
abbrev sChkWork : Stmt := topS 35
theorem scAreNames : FnScope ["thing", "part"] ["thing"] (defScope sAreNames) := ⟨rfl, rfl, rfl, by decide +kernel, rfl, by decide +kernel, by decide +kernel⟩
theorem scAreEx : FnScope ["thing", "part"] ["thing"] (defScope sAreEx) := ⟨rfl, rfl, rfl, by decide +kernel, rfl, by decide +kernel, by decide +kernel⟩
theorem scIfHead : FnScope ["thing"] ["thing"] (defScope sIfHead) := ⟨rfl, rfl, rfl, by decide +kernel, rfl, by decide +kernel, by decide +kernel⟩
theorem scPlain : FnScope ["thing"] ["thing"] (defScope sPlain) := ⟨rfl, rfl, rfl, by decide +kernel, rfl, by decide +kernel, by decide +kernel⟩
theorem scRowL : FnScope ["thing", "ifs", "left"] ["thing", "ifs", "left"] (defScope sRowL) := ⟨rfl, rfl, rfl, by decide +kernel, rfl, by decide +kernel, by decide +kernel⟩
theorem scBranL : FnScope ["row", "ifs", "left"] ["row", "ifs", "left"] (defScope sBranL) := ⟨rfl, rfl, rfl, by decide +kernel, rfl, by decide +kernel, by decide +kernel⟩
theorem scRowsL : FnScope ["thing", "ifs", "left", "row"] ["thing", "ifs", "left"] (defScope sRowsL) := ⟨rfl, rfl, rfl, by decide +kernel, rfl, by decide +kernel, by decide +kernel⟩
theorem scIsWork : FnScope ["thing", "name", "names", "room", "rows"] ["thing"] (defScope sIsWork) := ⟨rfl, rfl, rfl, by decide +kernel, rfl, by decide +kernel, by decide +kernel⟩
theorem scChkWork : FnScope ["thing"] ["thing"] (defScope sChkWork) := ⟨rfl, rfl, rfl, by decide +kernel, rfl, by decide +kernel, by decide +kernel⟩
def spAreNames : Sp := fun vs H Q _ => ∃ (a : Addr) (nm : List Str), vs = [.ref a] ∧ H a = some (.tup (nm.map V.str)) ∧ nm.length ≤ 4 ∧ (∀ s ∈ nm, NmOk s) ∧ nm.Nodup ∧ ∀ H', Same H H' → Q (.bl true) H'
def spAreEx : Sp := fun vs H Q _ => ∃ (a : Addr) (es : List Ex) (ws : List V), vs = [.ref a] ∧ H a = some (.tup ws) ∧ TrsIn H es ws ∧ es.length ≤ 4 ∧ (∀ e ∈ es, Ex.fine 6 e) ∧ ∀ H', Same H H' → Q (.bl true) H'
def Rs.isIf : Rs → Bool
  | .iff _ _ _ _ => true
  | _ => false
def spIfHead (n : Nat) : Sp := fun vs H Q _ => ∃ (v : V) (rs : Rs) (r : List V), vs = [v] ∧ RsIn H rs (v :: r) ∧ Rs.ok n rs ∧ ∀ H', Same H H' → Q (.bl rs.isIf) H'
def spPlain (n : Nat) : Sp := fun vs H Q _ => ∃ (v : V) (rs : Rs) (r : List V), vs = [v] ∧ RsIn H rs (v :: r) ∧ Rs.ok n rs ∧ rs.isIf = false ∧ ∀ H', Same H H' → Q (.bl true) H'
def spRowL (n : Nat) : Sp := fun vs H Q _ => ∃ (v : V) (rs : Rs) (r : List V) (l : Nat), vs = [v, .int n, .int l] ∧ RsIn H rs (v :: r) ∧ Rs.ok n rs ∧ rs.rc ≤ l ∧ ∀ H', Same H H' → Q (.int ((l - rs.rc : Nat) : Int)) H'
def spRowsL (n : Nat) : Sp := fun vs H Q _ => ∃ (p : Addr) (rs : Rs) (xs : List V) (l : Nat), vs = [.ref p, .int n, .int l] ∧ H p = some (.tup xs) ∧ RsIn H rs xs ∧ Rs.ok n rs ∧ rs.count ≤ l ∧ ∀ H', Same H H' → Q (.int ((l - rs.count : Nat) : Int)) H'
def spBranL (n : Nat) : Sp := fun vs H Q _ => ∃ (a p p' : Addr) (v : V) (A B : Rs) (xs ys : List V) (l : Nat), vs = [.ref a, .int n, .int l] ∧ H a = some (.tup [.str "if", v, .ref p, .ref p']) ∧ H p = some (.tup xs) ∧ RsIn H A xs ∧ H p' = some (.tup ys) ∧ RsIn H B ys ∧ Rs.ok n A ∧ Rs.ok n B ∧ A.count + B.count ≤ l ∧
  ∀ H', Same H H' → Q (.int ((l - (A.count + B.count) : Nat) : Int)) H'
theorem TrsIn.same {H H' : Hp} (h : Same H H') : ∀ {es : List Ex} {vs : List V}, TrsIn H es vs → TrsIn H' es vs
  | [], _, q => q
  | _ :: _, _, ⟨v, r, e, t, q⟩ => ⟨v, r, e, t.same h, TrsIn.same h q⟩
theorem OptIn.same {H H' : Hp} (h : Same H H') : ∀ {e : Option Ex} {v : V}, OptIn H e v → OptIn H' e v
  | none, _, q => q
  | some _, _, q => TrIn.same h q
theorem RsIn.same {H H' : Hp} (h : Same H H') : ∀ {r : Rs} {vs : List V}, RsIn H r vs → RsIn H' r vs
  | .nil, _, q => q
  | .put _ _ _, _, ⟨a, v, r, e, k, t, q⟩ => ⟨a, v, r, e, h _ _ k, t.same h, RsIn.same h q⟩
  | .go _ _ _ _ _, _, ⟨a, p, ws, r, e, k, k2, t, q⟩ => ⟨a, p, ws, r, e, h _ _ k, h _ _ k2, t.same h, RsIn.same h q⟩
  | .wait _ _ _ _, _, ⟨a, v, r, e, k, t, q⟩ => ⟨a, v, r, e, h _ _ k, t.same h, RsIn.same h q⟩
  | .iff _ _ _ _, _, ⟨a, v, p, xs, p', ys, r, e, k, t, k1, q1, k2, q2, q⟩ => ⟨a, v, p, xs, p', ys, r, e, h _ _ k, t.same h, h _ _ k1, RsIn.same h q1, h _ _ k2, RsIn.same h q2, RsIn.same h q⟩
  | .give _ _ _, _, ⟨a, v, r, e, k, t, q⟩ => ⟨a, v, r, e, h _ _ k, t.same h, RsIn.same h q⟩
theorem TrIn.updl {H : Hp} {b : Addr} {ys zs : List V} (hb : H b = some (.lst ys)) {e : Ex} {v : V} (h : TrIn H e v) : TrIn (upd H b (.lst zs)) e v :=
  h.but hb fun a o na q => by rw [upd_ne na]; exact q
theorem TrsIn.updl {H : Hp} {b : Addr} {ys zs : List V} (hb : H b = some (.lst ys)) : ∀ {es : List Ex} {vs : List V}, TrsIn H es vs → TrsIn (upd H b (.lst zs)) es vs
  | [], _, q => q
  | _ :: _, _, ⟨v, r, e, t, q⟩ => ⟨v, r, e, t.updl hb, TrsIn.updl hb q⟩
theorem OptIn.updl {H : Hp} {b : Addr} {ys zs : List V} (hb : H b = some (.lst ys)) : ∀ {e : Option Ex} {v : V}, OptIn H e v → OptIn (upd H b (.lst zs)) e v
  | none, _, q => q
  | some _, _, q => TrIn.updl hb q
theorem tup_updl {H : Hp} {a b : Addr} {xs ys zs : List V} (hb : H b = some (.lst ys)) (h : H a = some (.tup xs)) : (upd H b (.lst zs)) a = some (.tup xs) := by
  rw [upd_ne (lst_ne h hb)]
  exact h
theorem RsIn.upd_lst {H : Hp} {b : Addr} {ys zs : List V} (hb : H b = some (.lst ys)) : ∀ {r : Rs} {vs : List V}, RsIn H r vs → RsIn (upd H b (.lst zs)) r vs
  | .nil, _, q => q
  | .put _ _ _, _, ⟨a, v, r, e, k, t, q⟩ => ⟨a, v, r, e, tup_updl hb k, t.updl hb, RsIn.upd_lst hb q⟩
  | .go _ _ _ _ _, _, ⟨a, p, ws, r, e, k, k2, t, q⟩ => ⟨a, p, ws, r, e, tup_updl hb k, tup_updl hb k2, t.updl hb, RsIn.upd_lst hb q⟩
  | .wait _ _ _ _, _, ⟨a, v, r, e, k, t, q⟩ => ⟨a, v, r, e, tup_updl hb k, t.updl hb, RsIn.upd_lst hb q⟩
  | .iff _ _ _ _, _, ⟨a, v, p, xs, p', ys', r, e, k, t, k1, q1, k2, q2, q⟩ => ⟨a, v, p, xs, p', ys', r, e, tup_updl hb k, t.updl hb, tup_updl hb k1, RsIn.upd_lst hb q1, tup_updl hb k2, RsIn.upd_lst hb q2, RsIn.upd_lst hb q⟩
  | .give _ _ _, _, ⟨a, v, r, e, k, t, q⟩ => ⟨a, v, r, e, tup_updl hb k, t.updl hb, RsIn.upd_lst hb q⟩
theorem TrsIn.snoc {H : Hp} {e : Ex} {v : V} (h : TrIn H e v) : ∀ {es : List Ex} {vs : List V}, TrsIn H es vs → TrsIn H (es ++ [e]) (vs ++ [v])
  | [], _, q => by cases q; exact ⟨v, [], rfl, h, rfl⟩
  | _ :: _, _, ⟨v', r, e', t, q⟩ => by cases e'; exact ⟨v', _, rfl, t, TrsIn.snoc h q⟩
theorem TrsIn.len {H : Hp} : ∀ {es : List Ex} {vs : List V}, TrsIn H es vs → vs.length = es.length
  | [], _, q => by cases q; rfl
  | _ :: _, _, ⟨v, r, e, t, q⟩ => by cases e; exact congrArg Nat.succ (TrsIn.len q)
theorem TrsIn.get_ {H : Hp} : ∀ {es : List Ex} {vs : List V} {i : Nat} {v : V}, TrsIn H es vs → vs[i]? = some v → ∃ e, es[i]? = some e ∧ TrIn H e v
  | [], _, i, v, q, h => by cases q; simp at h
  | _ :: _, _, 0, v, ⟨v', r, e, t, q⟩, h => by cases e; cases h; exact ⟨_, rfl, t⟩
  | _ :: _, _, i + 1, v, ⟨v', r, e, t, q⟩, h => by cases e; have z := TrsIn.get_ (i := i) q h; exact z
structure Wk where
  name : Str
  names : List Str
  room : Int
  rows : Rs
def WkIn (H : Hp) (W : Wk) (v : V) : Prop := ∃ (a pn pr : Addr) (xs : List V), v = .ref a ∧ H a = some (.tup [.str "work", .str W.name, .ref pn, .int W.room, .ref pr]) ∧ H pn = some (.tup (W.names.map V.str)) ∧ H pr = some (.tup xs) ∧ RsIn H W.rows xs
structure Wk.ok (W : Wk) : Prop where
  name : NmOk W.name
  few : W.names.length ≤ 4
  names : ∀ s ∈ W.names, NmOk s
  nd : W.names.Nodup
  room0 : 0 ≤ W.room
  room1 : W.room ≤ 1000
  rows : Rs.ok 3 W.rows
  count : W.rows.count ≤ 40
theorem WkIn.same {H H' : Hp} {W : Wk} {v : V} (h : Same H H') : WkIn H W v → WkIn H' W v
  | ⟨a, pn, pr, xs, e, k1, k2, k3, q⟩ => ⟨a, pn, pr, xs, e, h _ _ k1, h _ _ k2, h _ _ k3, q.same h⟩
def spIsWork : Sp := fun vs H Q _ => ∃ (v : V) (W : Wk), vs = [v] ∧ WkIn H W v ∧ W.ok ∧ ∀ H', Same H H' → Q (.bl true) H'
def spChkWork : Sp := fun vs H Q _ => ∃ (v : V) (W : Wk), vs = [v] ∧ WkIn H W v ∧ W.ok ∧ ∀ H', Same H H' → Q .non H'
theorem all_true (n : Nat) : (List.replicate n true).all id = true := by
  rw [List.all_eq_true]
  intro x hx
  exact (List.mem_replicate.mp hx).2
section
variable {P : Program} {w : World} {K : PySem.W.Frag} {mg : Str → Option Value} {base : Heap}
theorem ok_areNames {f i : Addr} {fd idd : FuncData} (F : Fun K "are_names" "are_names" sAreNames f fd) (IN : Fk P w K mg base 1 "is_name" i idd ["thing"] spIsName) (T : Bi mg) (G : Gf K mg) (mt : mg "tuple" = none) (msx : mg "set" = none) : FnOk P w K mg base CX0 2 f fd ["thing"] spAreNames := by
  refine F.ok scAreNames (fun vs H Q E h => ?_) (fun cdv A outer s H vs Q E hr h => ?_)
  · obtain ⟨a, nm, rfl, _⟩ := h
    rfl
  obtain ⟨a, nm, rfl, ha, h4, hok, hnd, q⟩ := h
  refine ⟨_, (pss_cons (ps_if (PW.pt (pw_or (pt_not (pt_val (pe_callB call_isi (by rfl) T.isinstance (by decide +kernel) (pa_cons (pv 0) (pa_cons (pe_bltn (v := .ty "tuple") (by rfl) mt (by decide +kernel) rfl) pa_nil))))) (pw_or1 (pt_cmpR op_gt (pe_callB call_len_seq (by rfl) T.len (by decide +kernel) (pa_cons (pv 0) pa_nil)) (pe_gi G.names) (nomark _)))))
      (pss_one (ps_ret pe_bl))
      pss_nil)
    (pss_one (ps_ret (pe_and (pe_callB (cr_all rfl) (by rfl) T.all (by decide +kernel) (pa_cons (pe_lc (own := [("part", 1)]) (g := gName 1) (tt := tYes) (by rfl) scAreNames.nd (pi_tup (pv 0)) (blkOk_by (own := [("part", 1)]) (N := ["thing", "part"]) (sc := defScope sAreNames) (by decide +kernel)) (fun _ _ _ _ _ => pg_name (i := 1) scAreNames.nd rfl (Or.inl rfl)) (fun _ _ _ _ _ => pts_nil) (fun _ _ _ _ _ => (pe_call IN.G (hr.mono (by omega)) (by rfl) IN.m IN.k IN.b .nil pass0 (pa_cons (pv 1) pa_nil)))) pa_nil)) (pe_one (pe_cmpR op_eq (pe_lenTxt (by rfl) T.len (by rfl) msx (pv 0)) (pe_callB call_len_seq (by rfl) T.len (by decide +kernel) (pa_cons (pv 0) pa_nil)) (nomark _))))))), ?_⟩
  have hs : sizeLine = 16777216 := by decide
  have hl : (nm.map V.str).length = nm.length := List.length_map _
  refine ⟨_, rfl, _, _, _, _, true, rfl, .ty "tuple", .base (.tup ha), kit_ty (by decide +kernel), _, rfl, ?_⟩
  refine ⟨_, rfl, a, _, rfl, .inr (SqT.of ha), _, _, rfl, rfl, _, rfl, ?_⟩
  rw [hl, decide_eq_false (by omega : ¬ (4 : Int) < (nm.length : Nat))]
  refine ⟨_, rfl, a, rfl, ⟨_, SqT.of ha⟩, ?_⟩
  intro D hD
  refine lc_tup (K := K) (a := a) (xs := nm.map V.str) (fun j H' => H' D = some (.lst ((List.replicate j true).map V.bl)) ∧ Same H H') ⟨upd_same, same_new hD _⟩ (fun j H' _ h => SqT.of (h.2 _ _ ha)) ?_ ?_
  · rintro j x H2 hx ⟨hD2, s2⟩
    obtain ⟨z, hz, rfl⟩ : ∃ z, nm[j]? = some z ∧ V.str z = x := by
      rw [List.getElem?_map] at hx
      obtain ⟨x', h1, h2⟩ := Option.map_eq_some_iff.mp hx
      exact ⟨x', h1, h2⟩
    have hj : j < nm.length := by
      obtain ⟨h1, _⟩ := List.getElem?_eq_some_iff.mp hz
      exact h1
    refine ⟨rfl, ?_⟩
    refine ⟨_, rfl, z, rfl, hok z (List.mem_of_getElem? hz), fun H3 s3 => ?_⟩
    refine ⟨_, s3 _ _ hD2, by rw [List.length_map, List.length_replicate]; omega, ?_, ?_⟩
    · rw [upd_same, List.replicate_succ', List.map_append]
      rfl
    · intro x o zz
      rw [upd_ne (ne_of_none zz hD)]
      exact s3 _ _ (s2 _ _ zz)
  · rintro H2 ⟨hD2, s2⟩
    refine ⟨D, _, rfl, SqL.of hD2, ?_⟩
    rw [all_true]
    refine ⟨_, rfl, ?_⟩
    refine ⟨_, rfl, a, nm, rfl, SqT.of (s2 _ _ ha), by omega, ?_⟩
    refine ⟨_, rfl, a, _, rfl, .inr (SqT.of (s2 _ _ ha)), rfl, ?_⟩
    rw [SHSet.dd_nd hnd, hl, decide_eq_true rfl]
    exact q H2 s2
theorem ok_areEx {f i : Addr} {fd idd : FuncData} {ds : List Value} (F : Fun K "are_expressions" "are_expressions" sAreEx f fd) (IE : Fk P w K mg base 9 "is_expression" i idd ["thing", "deepest"] (spIsEx 6)) (vE : Vals [V.int 6] ds) (bE : Binds K idd ["thing", "deepest"] ds) (T : Bi mg) (G : Gf K mg) (mt : mg "tuple" = none) :
    FnOk P w K mg base CX0 10 f fd ["thing"] spAreEx := by
  refine F.ok scAreEx (fun vs H Q E h => ?_) (fun cdv A outer s H vs Q E hr h => ?_)
  · obtain ⟨a, es, ws, rfl, _⟩ := h
    rfl
  obtain ⟨a, es, ws, rfl, ha, hT, h4, hok, q⟩ := h
  refine ⟨_, (pss_cons (ps_if (PW.pt (pw_or (pt_not (pt_val (pe_callB call_isi (by rfl) T.isinstance (by decide +kernel) (pa_cons (pv 0) (pa_cons (pe_bltn (v := .ty "tuple") (by rfl) mt (by decide +kernel) rfl) pa_nil))))) (pw_or1 (pt_cmpR op_gt (pe_callB call_len_seq (by rfl) T.len (by decide +kernel) (pa_cons (pv 0) pa_nil)) (pe_gi G.exprs) (nomark _)))))
      (pss_one (ps_ret pe_bl))
      pss_nil)
    (pss_one (ps_ret (pe_callB (cr_all rfl) (by rfl) T.all (by decide +kernel) (pa_cons (pe_lc (own := [("part", 1)]) (g := gName 1) (tt := tYes) (by rfl) scAreEx.nd (pi_tup (pv 0)) (blkOk_by (own := [("part", 1)]) (N := ["thing", "part"]) (sc := defScope sAreEx) (by decide +kernel)) (fun _ _ _ _ _ => pg_name (i := 1) scAreEx.nd rfl (Or.inl rfl)) (fun _ _ _ _ _ => pts_nil) (fun _ _ _ _ _ => (pe_call IE.G (hr.mono (by omega)) (by rfl) IE.m IE.k bE vE pass0 (pa_cons (pv 1) pa_nil)))) pa_nil))))), ?_⟩
  have hs : sizeLine = 16777216 := by decide
  have hl := hT.len
  refine ⟨_, rfl, _, _, _, _, true, rfl, .ty "tuple", .base (.tup ha), kit_ty (by decide +kernel), _, rfl, ?_⟩
  refine ⟨_, rfl, a, _, rfl, .inr (SqT.of ha), _, _, rfl, rfl, _, rfl, ?_⟩
  rw [hl, decide_eq_false (by omega : ¬ (4 : Int) < (es.length : Nat))]
  refine ⟨_, rfl, a, rfl, ⟨_, SqT.of ha⟩, ?_⟩
  intro D hD
  refine lc_tup (K := K) (a := a) (xs := ws) (fun j H' => H' D = some (.lst ((List.replicate j true).map V.bl)) ∧ Same H H') ⟨upd_same, same_new hD _⟩ (fun j H' _ h => SqT.of (h.2 _ _ ha)) ?_ ?_
  · rintro j x H2 hx ⟨hD2, s2⟩
    obtain ⟨e, he, te⟩ := hT.get_ hx
    have hj : j < es.length := by
      obtain ⟨h1, _⟩ := List.getElem?_eq_some_iff.mp he
      exact h1
    refine ⟨rfl, ?_⟩
    refine ⟨_, rfl, x, e, rfl, te.same s2, hok e (List.mem_of_getElem? he), fun H3 s3 => ?_⟩
    refine ⟨_, s3 _ _ hD2, by rw [List.length_map, List.length_replicate]; omega, ?_, ?_⟩
    · rw [upd_same, List.replicate_succ', List.map_append]
      rfl
    · intro x o zz
      rw [upd_ne (ne_of_none zz hD)]
      exact s3 _ _ (s2 _ _ zz)
  · rintro H2 ⟨hD2, s2⟩
    refine ⟨D, _, rfl, SqL.of hD2, ?_⟩
    rw [all_true]
    exact q H2 s2
theorem ok_ifHead {n : Nat} {f i t : Addr} {fd idd td : FuncData} {ds : List Value} (F : Fun K "is_if_head" "is_if_head" sIfHead f fd) (TO : Fk P w K mg base 1 "is_tuple_of" t td ["thing", "many"] spTupOf) (IE : Fk P w K mg base 9 "is_expression" i idd ["thing", "deepest"] (spIsEx 6)) (vE : Vals [V.int 6] ds) (bE : Binds K idd ["thing", "deepest"] ds) :
    FnOk P w K mg base CX0 10 f fd ["thing"] (spIfHead n) := by
  refine F.ok scIfHead (fun vs H Q E h => ?_) (fun cdv A outer s H vs Q E hr h => ?_)
  · obtain ⟨v, rs, r, rfl, _⟩ := h
    rfl
  obtain ⟨v, rs, r, rfl, hR, hok, q⟩ := h
  refine ⟨_, (pss_one (ps_ret (pe_and (pe_call TO.G (hr.mono (by omega)) (by rfl) TO.m TO.k TO.b .nil pass0 (pa_cons (pv 0) (pa_cons pe_int pa_nil))) (pe_and (pe_cmpR op_eq (pe_ix ix_tup (pv 0) pe_int (fun _ _ => rfl)) pe_str (nomark _)) (pe_one (pe_call IE.G (hr.mono (by omega)) (by rfl) IE.m IE.k bE vE pass0 (pa_cons (pe_ix ix_tup (pv 0) pe_int (fun _ _ => rfl)) pa_nil))))))), ?_⟩
  have q0 := q H (Same.refl H)
  cases rs with
  | nil => cases hR
  | put x e t =>
    obtain ⟨a, u, r', e1, ha, _⟩ := hR
    cases e1
    exact ⟨_, rfl, a, _, 4, rfl, ha, _, rfl, q0⟩
  | go b x g es t =>
    obtain ⟨a, p, ws, r', e1, ha, _⟩ := hR
    cases e1
    refine ⟨_, rfl, a, _, 4, rfl, ha, _, rfl, ?_⟩
    refine ⟨_, rfl, a, _, 0, _, rfl, rfl, SqT.of ha, atI_nat rfl, rfl, _, rfl, ?_⟩
    rw [decide_eq_false (by intro z; have := V.str.inj z; cases b <;> (revert this; decide +kernel))]
    exact q0
  | wait x y oe t =>
    obtain ⟨a, u, r', e1, ha, _⟩ := hR
    cases e1
    refine ⟨_, rfl, a, _, 4, rfl, ha, _, rfl, ?_⟩
    refine ⟨_, rfl, a, _, 0, _, rfl, rfl, SqT.of ha, atI_nat rfl, rfl, _, rfl, ?_⟩
    rw [decide_eq_false (by intro z; have := V.str.inj z; revert this; decide +kernel)]
    exact q0
  | iff e A B t =>
    obtain ⟨a, u, p, xs, p', ys, r', e1, ha, te, _⟩ := hR
    cases e1
    refine ⟨_, rfl, a, _, 4, rfl, ha, _, rfl, ?_⟩
    refine ⟨_, rfl, a, _, 0, _, rfl, rfl, SqT.of ha, atI_nat rfl, rfl, _, rfl, ?_⟩
    rw [decide_eq_true rfl]
    exact ⟨_, rfl, a, _, 1, _, rfl, rfl, SqT.of ha, atI_nat (j := 1) rfl, u, e, rfl, te, hok.2.1, q⟩
  | give b e t =>
    obtain ⟨a, u, r', e1, ha, _⟩ := hR
    cases e1
    exact ⟨_, rfl, a, _, 4, rfl, ha, _, rfl, q0⟩
theorem ok_plain {n : Nat} {f i t j k : Addr} {fd idd td jd kd : FuncData} {ds : List Value} (F : Fun K "is_plain_row" "is_plain_row" sPlain f fd) (TO : Fk P w K mg base 1 "is_tuple_of" t td ["thing", "many"] spTupOf) (IE : Fk P w K mg base 9 "is_expression" i idd ["thing", "deepest"] (spIsEx 6)) (vE : Vals [V.int 6] ds) (bE : Binds K idd ["thing", "deepest"] ds)
    (IN : Fk P w K mg base 1 "is_name" j jd ["thing"] spIsName) (AE : Fk P w K mg base 10 "are_expressions" k kd ["thing"] spAreEx) : FnOk P w K mg base CX0 11 f fd ["thing"] (spPlain n) := by
  refine F.ok scPlain (fun vs H Q E h => ?_) (fun cdv A outer s H vs Q E hr h => ?_)
  · obtain ⟨v, rs, r, rfl, _⟩ := h
    rfl
  obtain ⟨v, rs, r, rfl, hR, hok, hif, q⟩ := h
  refine ⟨_, (pss_cons (ps_if (pt_val (pe_call TO.G (hr.mono (by omega)) (by rfl) TO.m TO.k TO.b .nil pass0 (pa_cons (pv 0) (pa_cons pe_int pa_nil))))
      (pss_one (ps_ret (pe_and (pe_cmpR op_in_seq (pe_ix ix_tup (pv 0) pe_int (fun _ _ => rfl)) (pe_tup (pa_cons pe_str (pa_cons pe_str pa_nil))) rfl) (pe_one (pe_call IE.G (hr.mono (by omega)) (by rfl) IE.m IE.k bE vE pass0 (pa_cons (pe_ix ix_tup (pv 0) pe_int (fun _ _ => rfl)) pa_nil))))))
      pss_nil)
    (pss_cons (ps_if (pt_val (pe_call TO.G (hr.mono (by omega)) (by rfl) TO.m TO.k TO.b .nil pass0 (pa_cons (pv 0) (pa_cons pe_int pa_nil))))
      (pss_one (ps_ret (pe_and (pe_cmpR op_eq (pe_ix ix_tup (pv 0) pe_int (fun _ _ => rfl)) pe_str (nomark _)) (pe_and (pe_call IN.G (hr.mono (by omega)) (by rfl) IN.m IN.k IN.b .nil pass0 (pa_cons (pe_ix ix_tup (pv 0) pe_int (fun _ _ => rfl)) pa_nil)) (pe_one (pe_call IE.G (hr.mono (by omega)) (by rfl) IE.m IE.k bE vE pass0 (pa_cons (pe_ix ix_tup (pv 0) pe_int (fun _ _ => rfl)) pa_nil)))))))
      pss_nil)
    (pss_cons (ps_if (PW.pt (pw_or (pt_not (pt_val (pe_call TO.G (hr.mono (by omega)) (by rfl) TO.m TO.k TO.b .nil pass0 (pa_cons (pv 0) (pa_cons pe_int pa_nil))))) (pw_or (pt_not (pt_val (pe_call IN.G (hr.mono (by omega)) (by rfl) IN.m IN.k IN.b .nil pass0 (pa_cons (pe_ix ix_tup (pv 0) pe_int (fun _ _ => rfl)) pa_nil)))) (pw_or1 (pt_not (pt_val (pe_call IN.G (hr.mono (by omega)) (by rfl) IN.m IN.k IN.b .nil pass0 (pa_cons (pe_ix ix_tup (pv 0) pe_int (fun _ _ => rfl)) pa_nil))))))))
      (pss_one (ps_ret pe_bl))
      pss_nil)
    (pss_cons (ps_if (pt_cmpR op_eq (pe_ix ix_tup (pv 0) pe_int (fun _ _ => rfl)) pe_str (nomark _))
      (pss_one (ps_ret (pe_or (pe_cmpR op_isN (pe_ix ix_tup (pv 0) pe_int (fun _ _ => rfl)) pe_non (nomark _)) (pe_one (pe_call IE.G (hr.mono (by omega)) (by rfl) IE.m IE.k bE vE pass0 (pa_cons (pe_ix ix_tup (pv 0) pe_int (fun _ _ => rfl)) pa_nil))))))
      pss_nil)
    (pss_one (ps_ret (pe_and (pe_cmpR op_in_seq (pe_ix ix_tup (pv 0) pe_int (fun _ _ => rfl)) (pe_tup (pa_cons pe_str (pa_cons pe_str pa_nil))) rfl) (pe_one (pe_call AE.G (hr.mono (by omega)) (by rfl) AE.m AE.k AE.b .nil pass0 (pa_cons (pe_ix ix_tup (pv 0) pe_int (fun _ _ => rfl)) pa_nil)))))))))), ?_⟩
  cases rs with
  | nil => cases hR
  | put x e t =>
    obtain ⟨a, u, r', e1, ha, te, _⟩ := hR
    cases e1
    refine ⟨_, rfl, a, _, 2, rfl, ha, _, rfl, ?_⟩
    refine ⟨_, rfl, a, _, 3, rfl, ha, _, rfl, ?_⟩
    refine ⟨_, rfl, a, _, 0, _, rfl, rfl, SqT.of ha, atI_nat rfl, rfl, _, rfl, ?_⟩
    rw [decide_eq_true rfl]
    refine ⟨_, rfl, a, _, 1, _, rfl, rfl, SqT.of ha, atI_nat (j := 1) rfl, x, rfl, hok.1, fun H1 s1 => ⟨_, rfl, ?_⟩⟩
    exact ⟨_, rfl, a, _, 2, _, rfl, rfl, SqT.of (s1 _ _ ha), atI_nat (j := 2) rfl, u, e, rfl, te.same s1, hok.2.1, fun H2 s2 => q H2 (s1.trans s2)⟩
  | go b x g es t =>
    obtain ⟨a, p, ws, r', e1, ha, hp, ts, _⟩ := hR
    cases e1
    refine ⟨_, rfl, a, _, 2, rfl, ha, _, rfl, ?_⟩
    refine ⟨_, rfl, a, _, 3, rfl, ha, _, rfl, ?_⟩
    refine ⟨_, rfl, a, _, 4, rfl, ha, _, rfl, ?_⟩
    refine ⟨_, rfl, a, _, 1, _, rfl, rfl, SqT.of ha, atI_nat (j := 1) rfl, x, rfl, hok.1, fun H1 s1 => ⟨_, rfl, ?_⟩⟩
    refine ⟨_, rfl, a, _, 2, _, rfl, rfl, SqT.of (s1 _ _ ha), atI_nat (j := 2) rfl, g, rfl, hok.2.1, fun H2 s2 => ⟨_, rfl, ?_⟩⟩
    have s12 := s1.trans s2
    refine ⟨_, rfl, a, _, 0, _, rfl, rfl, SqT.of (s12 _ _ ha), atI_nat rfl, rfl, _, rfl, ?_⟩
    rw [decide_eq_false (by intro z; have := V.str.inj z; cases b <;> (revert this; decide +kernel))]
    refine iteF ?_
    refine ⟨_, rfl, a, _, 0, _, rfl, rfl, SqT.of (s12 _ _ ha), atI_nat rfl, (by show 2 ≤ sizeLine; decide), fun l hl => ?_⟩
    have s3 := same_new hl (.tup [.str "go", .str "call"])
    have ein : inV (.str (goW b)) [.str "go", .str "call"] = true := by cases b <;> decide +kernel
    refine ⟨l, _, rfl, .inr (SqT.of upd_same), rfl, rfl, _, rfl, ?_⟩
    rw [if_neg Bool.false_ne_true, ein]
    have s13 := s12.trans s3
    exact ⟨_, rfl, a, _, 3, _, rfl, rfl, SqT.of (s13 _ _ ha), atI_nat (j := 3) rfl, p, es, ws, rfl, s13 _ _ hp, ts.same s13, hok.2.2.1, hok.2.2.2.1, fun H4 s4 => q H4 (s13.trans s4)⟩
  | wait x y oe t =>
    obtain ⟨a, u, r', e1, ha, to, _⟩ := hR
    cases e1
    refine ⟨_, rfl, a, _, 2, rfl, ha, _, rfl, ?_⟩
    refine ⟨_, rfl, a, _, 3, rfl, ha, _, rfl, ?_⟩
    refine ⟨_, rfl, a, _, 4, rfl, ha, _, rfl, ?_⟩
    refine ⟨_, rfl, a, _, 1, _, rfl, rfl, SqT.of ha, atI_nat (j := 1) rfl, x, rfl, hok.1, fun H1 s1 => ⟨_, rfl, ?_⟩⟩
    refine ⟨_, rfl, a, _, 2, _, rfl, rfl, SqT.of (s1 _ _ ha), atI_nat (j := 2) rfl, y, rfl, hok.2.1, fun H2 s2 => ⟨_, rfl, ?_⟩⟩
    have s12 := s1.trans s2
    refine ⟨_, rfl, a, _, 0, _, rfl, rfl, SqT.of (s12 _ _ ha), atI_nat rfl, rfl, _, rfl, ?_⟩
    rw [decide_eq_true rfl]
    refine iteT ?_
    refine ⟨_, rfl, a, _, 3, _, rfl, rfl, SqT.of (s12 _ _ ha), atI_nat (j := 3) rfl, rfl, _, rfl, ?_⟩
    cases oe with
    | none =>
      cases to
      rw [decide_eq_true rfl]
      exact q H2 s12
    | some e =>
      have hne : ¬ u = V.non := fun z => by
        obtain ⟨a', xs', e', _⟩ := TrIn.tup to
        rw [z] at e'
        cases e'
      rw [decide_eq_false hne]
      exact ⟨_, rfl, a, _, 3, _, rfl, rfl, SqT.of (s12 _ _ ha), atI_nat (j := 3) rfl, u, e, rfl, TrIn.same s12 to, hok.2.2.1 e rfl, fun H3 s3 => q H3 (s12.trans s3)⟩
  | iff e A B t => cases hif
  | give b e t =>
    obtain ⟨a, u, r', e1, ha, te, _⟩ := hR
    cases e1
    refine ⟨_, rfl, a, _, 2, rfl, ha, _, rfl, ?_⟩
    refine ⟨_, rfl, a, _, 0, _, rfl, rfl, SqT.of ha, atI_nat rfl, (by show 2 ≤ sizeLine; decide), fun l hl => ?_⟩
    have s3 := same_new hl (.tup [.str "give", .str "fail"])
    have ein : inV (.str (giveW b)) [.str "give", .str "fail"] = true := by cases b <;> decide +kernel
    refine ⟨l, _, rfl, .inr (SqT.of upd_same), rfl, rfl, _, rfl, ?_⟩
    rw [if_neg Bool.false_ne_true, ein]
    exact ⟨_, rfl, a, _, 1, _, rfl, rfl, SqT.of (s3 _ _ ha), atI_nat (j := 1) rfl, u, e, rfl, te.same s3, hok.1, fun H4 s4 => q H4 (s3.trans s4)⟩
theorem ok_rowL {n k : Nat} {f i j b : Addr} {fd idd jd bd : FuncData} (hk : 11 ≤ k) (F : Fun K "row_left" "row_left" sRowL f fd) (IH : Fk P w K mg base 10 "is_if_head" i idd ["thing"] (spIfHead n)) (IP : Fk P w K mg base 11 "is_plain_row" j jd ["thing"] (spPlain n))
    (BL : 1 ≤ n → Fk P w K mg base k "branches_left" b bd ["row", "ifs", "left"] (spBranL (n - 1))) (mB : mg "branches_left" = some (.ref b)) (kB : PySem.W.keepIn K (.ref b) = true) (bB : Binds K bd ["row", "ifs", "left"] []) (G : Gf K mg) : FnOk P w K mg base CX0 (k + 1) f fd ["thing", "ifs", "left"] (spRowL n) := by
  refine F.ok scRowL (fun vs H Q E h => ?_) (fun cdv A outer s H vs Q E hr h => ?_)
  · obtain ⟨v, rs, r, l, rfl, _⟩ := h
    rfl
  obtain ⟨v, rs, r, l, rfl, hR, hok, hc, q⟩ := h
  have hpos := Rs.rc_pos hR
  have BG : ∃ sp, FnOk P w K mg base CX0 k b bd ["row", "ifs", "left"] sp ∧ (1 ≤ n → sp = spBranL (n - 1)) := by
    by_cases h1 : 1 ≤ n
    · exact ⟨_, (BL h1).G, fun _ => rfl⟩
    · refine ⟨fun _ _ _ _ => False, ⟨fun _ _ _ _ h => h.elim, fun _ _ _ _ _ _ _ _ _ _ _ _ _ h => h.elim⟩, fun z => absurd z h1⟩
  obtain ⟨spB, GB, eB⟩ := BG
  have BR : Fk P w K mg base k "branches_left" b bd ["row", "ifs", "left"] spB := ⟨GB, mB, kB, bB⟩
  refine ⟨_, (pss_cons (ps_if (pt_cmpR op_eq (pv 2) pe_int (nomark _))
      (pss_one (ps_ret (pe_gi G.norows)))
      pss_nil)
    (pss_cons (ps_if (pt_val (pe_call IH.G (hr.mono (by omega)) (by rfl) IH.m IH.k IH.b .nil pass0 (pa_cons (pv 0) pa_nil)))
      (pss_one (ps_ret (pe_ifExp (pt_cmpR op_eq (pv 1) pe_int (nomark _)) (pe_gi G.norows) (pe_call BR.G hr (by rfl) BR.m BR.k BR.b .nil pass0 (pa_cons (pv 0) (pa_cons (pe_op op_sub (pv 1) pe_int) (pa_cons (pe_op op_sub (pv 2) pe_int) pa_nil)))))))
      pss_nil)
    (pss_one (ps_ret (pe_ifExp (pt_val (pe_call IP.G (hr.mono (by omega)) (by rfl) IP.m IP.k IP.b .nil pass0 (pa_cons (pv 0) pa_nil))) (pe_op op_sub (pv 2) pe_int) (pe_gi G.norows)))))), ?_⟩
  refine ⟨_, rfl, rfl, _, rfl, ?_⟩
  rw [decide_eq_false (by intro z; have := V.int.inj z; omega)]
  refine iteF ?_
  refine ⟨_, rfl, v, rs, r, rfl, hR, hok, fun H1 s1 => ⟨_, rfl, ?_⟩⟩
  cases hi : rs.isIf with
  | false =>
    refine iteF ?_
    refine ⟨_, rfl, v, rs, r, rfl, hR.same s1, hok, hi, fun H2 s2 => ⟨_, rfl, ?_⟩⟩
    refine iteT ⟨_, rfl, _, _, rfl, rfl, ?_⟩
    have e1 : rs.rc = 1 := by
      cases rs with
      | nil => exact absurd hpos (by decide)
      | iff _ _ _ _ => cases hi
      | _ => rfl
    have e2 : (l : Int) - 1 = ((l - rs.rc : Nat) : Int) := by omega
    show Q (.int ((l : Int) - 1)) H2
    rw [e2]
    exact q H2 (s1.trans s2)
  | true =>
    refine iteT ?_
    cases rs with
    | iff e A B t =>
      obtain ⟨a, u, p, xs, p', ys, r', e1, ha, te, hp, hA, hp', hB, _⟩ := hR
      cases e1
      have hn : 1 ≤ n := hok.1
      have ec : (Rs.iff e A B t).rc = 1 + A.count + B.count := rfl
      refine ⟨_, rfl, rfl, _, rfl, ?_⟩
      rw [decide_eq_false (by intro z; have := V.int.inj z; omega)]
      refine iteF ?_
      have e2 : (l : Int) - 1 = ((l - 1 : Nat) : Int) := by omega
      have e3 : (n : Int) - 1 = ((n - 1 : Nat) : Int) := by omega
      refine ⟨_, rfl, _, rfl, _, _, rfl, rfl, _, rfl, _, _, rfl, rfl, ?_⟩
      rw [eB hn]
      refine ⟨a, p, p', u, A, B, xs, ys, l - 1, (by show [V.ref a, V.int ((n : Int) - 1), V.int ((l : Int) - 1)] = _; rw [e2, e3]), s1 _ _ ha, s1 _ _ hp, hA.same s1, s1 _ _ hp', hB.same s1, hok.2.2.1, hok.2.2.2.1, by omega, fun H2 s2 => ?_⟩
      have e4 : l - 1 - (A.count + B.count) = l - (Rs.iff e A B t).rc := by omega
      rw [e4]
      exact q H2 (s1.trans s2)
    | nil => cases hi
    | put _ _ _ => cases hi
    | go _ _ _ _ _ => cases hi
    | wait _ _ _ _ => cases hi
    | give _ _ _ => cases hi
theorem ok_branL {n k : Nat} {f r : Addr} {fd rd : FuncData} (F : Fun K "branches_left" "branches_left" sBranL f fd) (RL : Fk P w K mg base k "rows_left" r rd ["thing", "ifs", "left"] (spRowsL n)) (G : Gf K mg) : FnOk P w K mg base CX0 (k + 1) f fd ["row", "ifs", "left"] (spBranL n) := by
  refine F.ok scBranL (fun vs H Q E h => ?_) (fun cdv A outer s H vs Q E hr h => ?_)
  · obtain ⟨a, p, p', v, A, B, xs, ys, l, rfl, _⟩ := h
    rfl
  obtain ⟨a, p, p', v, A', B, xs, ys, l, rfl, ha, hp, hA, hp', hB, oA, oB, hc, q⟩ := h
  refine ⟨_, (pss_cons (ps_set (i := 2) scBranL.nd rfl (Or.inl rfl) (pe_call RL.G hr (by rfl) RL.m RL.k RL.b .nil pass0 (pa_cons (pe_ix ix_tup (pv 0) pe_int (fun _ _ => rfl)) (pa_cons (pv 1) (pa_cons (pv 2) pa_nil)))))
    (pss_one (ps_ret (pe_ifExp (pt_cmpR op_eq (pv 2) (pe_gi G.norows) (nomark _)) (pe_gi G.norows) (pe_call RL.G hr (by rfl) RL.m RL.k RL.b .nil pass0 (pa_cons (pe_ix ix_tup (pv 0) pe_int (fun _ _ => rfl)) (pa_cons (pv 1) (pa_cons (pv 2) pa_nil)))))))), ?_⟩
  refine ⟨_, rfl, a, _, 2, _, rfl, rfl, SqT.of ha, atI_nat (j := 2) rfl, _, rfl, _, rfl, p, A', xs, l, rfl, hp, hA, oA, by omega, fun H1 s1 => ?_⟩
  refine ⟨_, rfl, rfl, _, rfl, ?_⟩
  rw [decide_eq_false (by intro z; have := V.int.inj z; omega)]
  refine iteF ?_
  refine ⟨_, rfl, a, _, 3, _, rfl, rfl, SqT.of (s1 _ _ ha), atI_nat (j := 3) rfl, _, rfl, _, rfl, p', B, ys, l - A'.count, rfl, s1 _ _ hp', hB.same s1, oB, by omega, fun H2 s2 => ?_⟩
  have e4 : l - A'.count - B.count = l - (A'.count + B.count) := by omega
  rw [e4]
  exact q H2 (s1.trans s2)
theorem ok_rowsL {n k : Nat} {f r : Addr} {fd rd : FuncData} (F : Fun K "rows_left" "rows_left" sRowsL f fd) (RW : Fk P w K mg base k "row_left" r rd ["thing", "ifs", "left"] (spRowL n)) (T : Bi mg) (G : Gf K mg) (mt : mg "tuple" = none) : FnOk P w K mg base CX0 (k + 1) f fd ["thing", "ifs", "left"] (spRowsL n) := by
  refine F.ok scRowsL (fun vs H Q E h => ?_) (fun cdv A outer s H vs Q E hr h => ?_)
  · obtain ⟨p, rs, xs, l, rfl, _⟩ := h
    rfl
  obtain ⟨p, rs, xs, l, rfl, hp, hR, hok, hc, q⟩ := h
  refine ⟨_, (pss_cons (ps_if (pt_not (pt_val (pe_callB call_isi (by rfl) T.isinstance (by decide +kernel) (pa_cons (pv 0) (pa_cons (pe_bltn (v := .ty "tuple") (by rfl) mt (by decide +kernel) rfl) pa_nil)))))
      (pss_one (ps_ret (pe_gi G.norows)))
      pss_nil)
    (pss_cons (ps_for PassesOwn.never rfl (pi_tup (pv 0)) (pg_name (i := 3) scRowsL.nd rfl (.inl rfl))
      (pss_cons (ps_set (i := 2) scRowsL.nd rfl (Or.inl rfl) (pe_call RW.G hr (by rfl) RW.m RW.k RW.b .nil pass0 (pa_cons (pv 3) (pa_cons (pv 1) (pa_cons (pv 2) pa_nil)))))
    (pss_one (ps_if (pt_cmpR op_eq (pv 2) (pe_gi G.norows) (nomark _))
      (pss_one (ps_ret (pe_gi G.norows)))
      pss_nil))))
    (pss_one (ps_ret (pv 2))))), ?_⟩
  refine ⟨_, rfl, _, _, _, _, true, rfl, .ty "tuple", .base (.tup hp), kit_ty (by decide +kernel), _, rfl, ?_⟩
  refine ⟨_, rfl, p, rfl, ⟨_, SqT.of hp⟩, ?_⟩
  refine for_tup (K := K) (a := p) (xs := xs) (fun i σ H' => ∃ (rs' : Rs) (l' : Nat) (y : Option V), σ = [some (.ref p), some (.int n), some (.int l'), y] ∧ RsIn H' rs' (xs.drop i) ∧ Rs.ok n rs' ∧ rs'.count ≤ l' ∧ l' - rs'.count = l - rs.count ∧ Same H H') ?_ ?_ ?_ ?_
  · exact ⟨rs, l, none, rfl, hR, hok, hc, rfl, Same.refl H⟩
  · rintro i σ H' _ ⟨rs', l', y, _, _, _, _, _, s'⟩
    exact SqT.of (s' _ _ hp)
  · rintro i v σ H1 hv ⟨rs', l', y, rfl, hR', ok', hc', e', s1⟩
    have hd : xs.drop i = v :: xs.drop (i + 1) := by
      obtain ⟨hi, e⟩ := List.getElem?_eq_some_iff.mp hv
      rw [List.drop_eq_getElem_cons hi, e]
    rw [hd] at hR'
    have ce := rs'.count_eq
    refine ⟨_, rfl, _, rfl, _, rfl, v, rs', _, l', rfl, hR', ok', by omega, fun H2 s2 => ?_⟩
    refine ⟨_, rfl, rfl, _, rfl, ?_⟩
    rw [decide_eq_false (by intro z; have := V.int.inj z; omega)]
    refine iteF ?_
    exact ⟨rs'.tl, l' - rs'.rc, _, rfl, hR'.tl.same s2, Rs.ok_tl ok', by omega, by omega, s1.trans s2⟩
  · rintro σ H1 ⟨rs', l', y, rfl, hR', ok', hc', e', s1⟩
    rw [List.drop_length] at hR'
    have z : rs'.count = 0 := by
      cases rs' with
      | nil => rfl
      | put _ _ _ => obtain ⟨_, _, _, e, _⟩ := hR'; cases e
      | go _ _ _ _ _ => obtain ⟨_, _, _, _, e, _⟩ := hR'; cases e
      | wait _ _ _ _ => obtain ⟨_, _, _, e, _⟩ := hR'; cases e
      | iff _ _ _ _ => obtain ⟨_, _, _, _, _, _, _, e, _⟩ := hR'; cases e
      | give _ _ _ => obtain ⟨_, _, _, e, _⟩ := hR'; cases e
    refine ⟨_, rfl, ?_⟩
    rw [show l' = l - rs.count by omega]
    exact q H1 s1
theorem ok_isWork {f t i a v r : Addr} {fd td idd ad vd rd : FuncData} (F : Fun K "is_work" "is_work" sIsWork f fd) (TO : Fk P w K mg base 1 "is_tuple_of" t td ["thing", "many"] spTupOf) (IN : Fk P w K mg base 1 "is_name" i idd ["thing"] spIsName) (AN : Fk P w K mg base 2 "are_names" a ad ["thing"] spAreNames)
    (WI : Fk P w K mg base 2 "is_whole_within" v vd ["thing", "most"] spWithin) (RL : Fk P w K mg base 22 "rows_left" r rd ["thing", "ifs", "left"] (spRowsL 3)) (G : Gf K mg) : FnOk P w K mg base CX0 23 f fd ["thing"] spIsWork := by
  refine F.ok scIsWork (fun vs H Q E h => ?_) (fun cdv A outer s H vs Q E hr h => ?_)
  · obtain ⟨v, W, rfl, _⟩ := h
    rfl
  obtain ⟨v, W, rfl, ⟨a, pn, pr, xs, rfl, ha, hpn, hpr, hR⟩, ok, q⟩ := h
  refine ⟨_, (pss_cons (ps_if (PW.pt (pw_or (pt_not (pt_val (pe_call TO.G (hr.mono (by omega)) (by rfl) TO.m TO.k TO.b .nil pass0 (pa_cons (pv 0) (pa_cons pe_int pa_nil))))) (pw_or1 (pt_cmpR op_ne (pe_ix ix_tup (pv 0) pe_int (fun _ _ => rfl)) pe_str (nomark _)))))
      (pss_one (ps_ret pe_bl))
      pss_nil)
    (pss_cons (ps_asg (pe_slice sl_tup (pv 0) (po_some pe_int) po_none) (pg_tup rfl (pgs_cons (pg_name (i := 1) scIsWork.nd rfl (.inl rfl)) (pgs_cons (pg_name (i := 2) scIsWork.nd rfl (.inl rfl)) (pgs_cons (pg_name (i := 3) scIsWork.nd rfl (.inl rfl)) (pgs_cons (pg_name (i := 4) scIsWork.nd rfl (.inl rfl)) pgs_nil))))))
    (pss_cons (ps_if (PW.pt (pw_or (pt_not (pt_val (pe_call IN.G (hr.mono (by omega)) (by rfl) IN.m IN.k IN.b .nil pass0 (pa_cons (pv 1) pa_nil)))) (pw_or (pt_not (pt_val (pe_call AN.G (hr.mono (by omega)) (by rfl) AN.m AN.k AN.b .nil pass0 (pa_cons (pv 2) pa_nil)))) (pw_or1 (pt_not (pt_val (pe_call WI.G (hr.mono (by omega)) (by rfl) WI.m WI.k WI.b .nil pass0 (pa_cons (pv 3) (pa_cons (pe_gi G.room) pa_nil)))))))))
      (pss_one (ps_ret pe_bl))
      pss_nil)
    (pss_one (ps_ret (pe_cmpR op_ne (pe_call RL.G (hr.mono (by omega)) (by rfl) RL.m RL.k RL.b .nil pass0 (pa_cons (pv 4) (pa_cons (pe_gi G.ifs) (pa_cons (pe_gi G.rows) pa_nil)))) (pe_gi G.norows) (nomark _))))))), ?_⟩
  refine ⟨_, rfl, a, _, 5, rfl, ha, _, rfl, ?_⟩
  refine ⟨_, rfl, a, _, 0, _, rfl, rfl, SqT.of ha, atI_nat rfl, rfl, _, rfl, ?_⟩
  refine iteNS rfl ?_
  refine ⟨_, rfl, 1, rfl, a, _, rfl, SqT.of ha, (show ¬ (HT.sIx 5 0 (some 1) = 0 ∧ HT.sIx 5 5 none = 5) by decide), fun p hp => ?_⟩
  have s1 := same_new hp (.tup [.str W.name, .ref pn, .int W.room, .ref pr])
  refine ⟨p, _, rfl, SqT.of upd_same, rfl, _, _, rfl, _, _, rfl, _, _, rfl, _, _, rfl, rfl, ?_⟩
  refine ⟨_, rfl, W.name, rfl, ok.name, fun H2 s2 => ⟨_, rfl, ?_⟩⟩
  have s12 := s1.trans s2
  refine ⟨_, rfl, pn, W.names, rfl, s12 _ _ hpn, ok.few, ok.names, ok.nd, fun H3 s3 => ⟨_, rfl, ?_⟩⟩
  have s13 := s12.trans s3
  refine ⟨_, rfl, W.room, 1000, rfl, ok.room0, ok.room1, _, rfl, ?_⟩
  refine ⟨_, rfl, pr, W.rows, xs, 40, rfl, s13 _ _ hpr, hR.same s13, ok.rows, ok.count, fun H4 s4 => ⟨rfl, ?_⟩⟩
  rw [decide_eq_false (by intro z; have := V.int.inj z; omega)]
  exact q H4 (s13.trans s4)
theorem ok_chkWork {f i : Addr} {fd idd : FuncData} (F : Fun K "check_work" "check_work" sChkWork f fd) (IW : Fk P w K mg base 23 "is_work" i idd ["thing"] spIsWork) : FnOk P w K mg base CX0 24 f fd ["thing"] spChkWork := by
  refine F.ok scChkWork (fun vs H Q E h => ?_) (fun cdv A outer s H vs Q E hr h => ?_)
  · obtain ⟨v, W, rfl, _⟩ := h
    rfl
  obtain ⟨v, W, rfl, hW, ok, q⟩ := h
  refine ⟨_, (pss_one (ps_if (pt_not (pt_val (pe_call IW.G (hr.mono (by omega)) (by rfl) IW.m IW.k IW.b .nil pass0 (pa_cons (pv 0) pa_nil))))
      (pss_one ps_never)
      pss_nil)), ?_⟩
  exact ⟨_, rfl, v, W, rfl, hW, ok, fun H1 s1 => ⟨_, rfl, q H1 s1⟩⟩
end
end SH

set_option Elab.async false
set_option linter.all false
set_option maxRecDepth 100000
namespace SH
open PySem L2
abbrev sChkWorks : Stmt := topS 50
abbrev sStartsIn : Stmt := topS 54
abbrev sChkStarts : Stmt := topS 51
abbrev sHanded : Stmt := topS 52
abbrev sChkStart : Stmt := topS 53
abbrev sBookInit : Stmt := inClass (topS 55) 0
theorem scChkWorks : FnScope ["thing", "work"] ["thing"] (defScope sChkWorks) := ⟨rfl, rfl, rfl, by decide +kernel, rfl, by decide +kernel, by decide +kernel⟩
theorem scStartsIn : FnScope ["rows", "starts", "row"] ["rows"] (defScope sStartsIn) := ⟨rfl, rfl, rfl, by decide +kernel, rfl, by decide +kernel, by decide +kernel⟩
theorem scChkStarts : FnScope ["works", "handed", "work", "start"] ["works"] (defScope sChkStarts) := ⟨rfl, rfl, rfl, by decide +kernel, rfl, by decide +kernel, by decide +kernel⟩
theorem scHanded : FnScope ["works", "work"] ["works"] (defScope sHanded) := ⟨rfl, rfl, rfl, by decide +kernel, rfl, by decide +kernel, by decide +kernel⟩
theorem scChkStart : FnScope ["start", "handed"] ["start", "handed"] (defScope sChkStart) := ⟨rfl, rfl, rfl, by decide +kernel, rfl, by decide +kernel, by decide +kernel⟩
theorem scBookInit : FnScope ["self", "works"] ["self", "works"] (defScope sBookInit) := ⟨rfl, rfl, rfl, by decide +kernel, rfl, by decide +kernel, by decide +kernel⟩
/-- over a list that stays -/
theorem txc_list {Pr : Program} {w : World} {K : PySem.W.Frag} {a : Addr} {xs : List V} {g : TG} {te : TE} {vs : List Nat} {σ : St} {H1 : Hp} {D : Addr} {Qd : Hp → Prop} (Pv : Nat → Hp → Prop) (h0 : Pv 0 (upd H1 D (TxtO Pr w D []))) (hl : ∀ i H, i ≤ xs.length → Pv i H → SqL K H a xs)
    (hs : ∀ i x H, xs[i]? = some x → Pv i H → g x (wipe σ vs) H fun σ2 H2 => wipe σ2 vs = wipe σ vs ∧ te σ2 H2 fun y H4 => ∃ (z : Str) (l : List Str), y = .str z ∧ H4 D = some (TxtO Pr w D l) ∧ l.length + 1 < scanBound ∧ Pv (i + 1) (upd H4 D (TxtO Pr w D (SHSet.addT l z)))) (hd : ∀ H, Pv xs.length H → Qd H) :
    ∃ W : Nat → Nat → Hp → Prop, (∃ m, W 0 m (upd H1 D (TxtO Pr w D []))) ∧ ∀ i m H, W i m H → ((Itl K a).stop i H ∧ Qd H) ∨ ((Itl K a).go i H ∧ ∃ Nx : Hp → Prop, (∀ H', Nx H' → ∃ m', m' < m ∧ W (i + 1) m' H') ∧
      ∀ x H', (Itl K a).yld i H x H' → g x (wipe σ vs) H' fun σ2 H2 => wipe σ2 vs = wipe σ vs ∧ te σ2 H2 fun y H4 => ∃ (z : Str) (l : List Str), y = .str z ∧ H4 D = some (TxtO Pr w D l) ∧ l.length + 1 < scanBound ∧ Nx (upd H4 D (TxtO Pr w D (SHSet.addT l z)))) := by
  refine ⟨fun i m H => m + i = xs.length ∧ Pv i H, ⟨xs.length, Nat.add_zero _, h0⟩, ?_⟩
  rintro i m H ⟨e, p⟩
  have q := hl i H (by omega) p
  rcases Nat.eq_zero_or_pos m with z | z
  · exact .inl ⟨⟨xs, q, by omega⟩, hd H (by rw [show xs.length = i by omega]; exact p)⟩
  · have lt : i < xs.length := by omega
    exact .inr ⟨⟨xs, xs[i], q, List.getElem?_eq_getElem lt⟩, Pv (i + 1), fun H' p' => ⟨m - 1, by omega, by omega, p'⟩, fun x H' y => y.1 ▸ hs i x H (y.2 xs q) p⟩
theorem dc_list {K : PySem.W.Frag} {a : Addr} {xs : List V} {g : TG} {tk tv : TE} {vs : List Nat} {σ : St} {H1 : Hp} {D : Addr} {Qd : Hp → Prop} (Pv : Nat → Hp → Prop) (h0 : Pv 0 (upd H1 D (.dK []))) (hl : ∀ i H, i ≤ xs.length → Pv i H → SqL K H a xs)
    (hs : ∀ i x H, xs[i]? = some x → Pv i H → g x (wipe σ vs) H fun σ2 H2 => wipe σ2 vs = wipe σ vs ∧ tYes σ2 H2 fun b H3 => if b = true then tk σ2 H3 fun y H4 => tv σ2 H4 fun z H5 => ∃ kvs k, y = kV k ∧ H5 D = some (.dK kvs) ∧ kvs.length < sizeLine ∧ Pv (i + 1) (upd H5 D (.dK (putK kvs k z))) else Pv (i + 1) H3) (hd : ∀ H, Pv xs.length H → Qd H) :
    ∃ W : Nat → Nat → Hp → Prop, (∃ m, W 0 m (upd H1 D (.dK []))) ∧ ∀ i m H, W i m H → ((Itl K a).stop i H ∧ Qd H) ∨ ((Itl K a).go i H ∧ ∃ Nx : Hp → Prop, (∀ H', Nx H' → ∃ m', m' < m ∧ W (i + 1) m' H') ∧
      ∀ x H', (Itl K a).yld i H x H' → g x (wipe σ vs) H' fun σ2 H2 => wipe σ2 vs = wipe σ vs ∧ tYes σ2 H2 fun b H3 => if b = true then tk σ2 H3 fun y H4 => tv σ2 H4 fun z H5 => ∃ kvs k, y = kV k ∧ H5 D = some (.dK kvs) ∧ kvs.length < sizeLine ∧ Nx (upd H5 D (.dK (putK kvs k z))) else Nx H3) := by
  refine ⟨fun i m H => m + i = xs.length ∧ Pv i H, ⟨xs.length, Nat.add_zero _, h0⟩, ?_⟩
  rintro i m H ⟨e, p⟩
  have q := hl i H (by omega) p
  rcases Nat.eq_zero_or_pos m with z | z
  · exact .inl ⟨⟨xs, q, by omega⟩, hd H (by rw [show xs.length = i by omega]; exact p)⟩
  · have lt : i < xs.length := by omega
    exact .inr ⟨⟨xs, xs[i], q, List.getElem?_eq_getElem lt⟩, Pv (i + 1), fun H' p' => ⟨m - 1, by omega, by omega, p'⟩, fun x H' y => y.1 ▸ hs i x H (y.2 xs q) p⟩
/-! ### rows one behind another -/
def Rs.app : Rs → Rs → Rs
  | .nil, b => b
  | .put x e t, b => .put x e (t.app b)
  | .go w x f es t, b => .go w x f es (t.app b)
  | .wait x y e t, b => .wait x y e (t.app b)
  | .iff e p q t, b => .iff e p q (t.app b)
  | .give w e t, b => .give w e (t.app b)
theorem Rs.app_starts (b : Rs) : ∀ a : Rs, (a.app b).starts = a.starts ++ b.starts
  | .nil => rfl
  | .put _ _ t => Rs.app_starts b t
  | .go _ _ f es t => by show (f, es.length) :: (t.app b).starts = _; rw [Rs.app_starts b t]; rfl
  | .wait _ _ _ t => Rs.app_starts b t
  | .iff _ p q t => by show p.starts ++ q.starts ++ (t.app b).starts = p.starts ++ q.starts ++ t.starts ++ b.starts; rw [Rs.app_starts b t, List.append_assoc (p.starts ++ q.starts)]
  | .give _ _ t => Rs.app_starts b t
theorem Rs.app_ok {n : Nat} {b : Rs} (hb : Rs.ok n b) : ∀ {a : Rs}, Rs.ok n a → Rs.ok n (a.app b)
  | .nil, _ => hb
  | .put _ _ _, h => ⟨h.1, h.2.1, Rs.app_ok hb h.2.2⟩
  | .go _ _ _ _ _, h => ⟨h.1, h.2.1, h.2.2.1, h.2.2.2.1, Rs.app_ok hb h.2.2.2.2⟩
  | .wait _ _ _ _, h => ⟨h.1, h.2.1, h.2.2.1, Rs.app_ok hb h.2.2.2⟩
  | .iff _ _ _ _, h => ⟨h.1, h.2.1, h.2.2.1, h.2.2.2.1, Rs.app_ok hb h.2.2.2.2⟩
  | .give _ _ _, h => ⟨h.1, Rs.app_ok hb h.2⟩
theorem RsIn.app {H : Hp} {b : Rs} {ys : List V} (hb : RsIn H b ys) : ∀ {a : Rs} {xs : List V}, RsIn H a xs → RsIn H (a.app b) (xs ++ ys)
  | .nil, _, h => by cases h; exact hb
  | .put _ _ _, _, ⟨a, v, r, e, k, t, q⟩ => by cases e; exact ⟨a, v, _, rfl, k, t, RsIn.app hb q⟩
  | .go _ _ _ _ _, _, ⟨a, p, ws, r, e, k, k2, t, q⟩ => by cases e; exact ⟨a, p, ws, _, rfl, k, k2, t, RsIn.app hb q⟩
  | .wait _ _ _ _, _, ⟨a, v, r, e, k, t, q⟩ => by cases e; exact ⟨a, v, _, rfl, k, t, RsIn.app hb q⟩
  | .iff _ _ _ _, _, ⟨a, v, p, xs, p', ys, r, e, k, t, k1, q1, k2, q2, q⟩ => by cases e; exact ⟨a, v, p, xs, p', ys, _, rfl, k, t, k1, q1, k2, q2, RsIn.app hb q⟩
  | .give _ _ _, _, ⟨a, v, r, e, k, t, q⟩ => by cases e; exact ⟨a, v, _, rfl, k, t, RsIn.app hb q⟩
theorem RsIn.len {H : Hp} : ∀ {a : Rs} {xs : List V}, RsIn H a xs → xs.length ≤ a.count
  | .nil, _, h => by cases h; exact Nat.le_refl _
  | .put _ _ t, _, ⟨a, v, r, e, k, _, q⟩ => by cases e; have := RsIn.len q; show _ + 1 ≤ 1 + t.count; omega
  | .go _ _ _ _ t, _, ⟨a, p, ws, r, e, k, k2, _, q⟩ => by cases e; have := RsIn.len q; show _ + 1 ≤ 1 + t.count; omega
  | .wait _ _ _ t, _, ⟨a, v, r, e, k, _, q⟩ => by cases e; have := RsIn.len q; show _ + 1 ≤ 1 + t.count; omega
  | .iff _ A B t, _, ⟨a, v, p, xs, p', ys, r, e, k, _, k1, q1, k2, q2, q⟩ => by cases e; have := RsIn.len q; show _ + 1 ≤ 1 + A.count + B.count + t.count; omega
  | .give _ _ t, _, ⟨a, v, r, e, k, _, q⟩ => by cases e; have := RsIn.len q; show _ + 1 ≤ 1 + t.count; omega
theorem Rs.starts_le : ∀ a : Rs, a.starts.length ≤ a.count
  | .nil => Nat.le_refl _
  | .put _ _ t => by have := Rs.starts_le t; show t.starts.length ≤ 1 + t.count; omega
  | .go _ _ _ _ t => by have := Rs.starts_le t; show t.starts.length + 1 ≤ 1 + t.count; omega
  | .wait _ _ _ t => by have := Rs.starts_le t; show t.starts.length ≤ 1 + t.count; omega
  | .iff _ a b t => by
    have := Rs.starts_le t; have := Rs.starts_le a; have := Rs.starts_le b
    show (a.starts ++ b.starts ++ t.starts).length ≤ 1 + a.count + b.count + t.count
    rw [List.length_append, List.length_append]; omega
  | .give _ _ t => by have := Rs.starts_le t; show t.starts.length ≤ 1 + t.count; omega
theorem Rs.app_count (b : Rs) : ∀ a : Rs, (a.app b).count = a.count + b.count
  | .nil => (Nat.zero_add _).symm
  | .put _ _ t => by show 1 + (t.app b).count = 1 + t.count + b.count; rw [Rs.app_count b t]; omega
  | .go _ _ _ _ t => by show 1 + (t.app b).count = 1 + t.count + b.count; rw [Rs.app_count b t]; omega
  | .wait _ _ _ t => by show 1 + (t.app b).count = 1 + t.count + b.count; rw [Rs.app_count b t]; omega
  | .iff _ p q t => by show 1 + p.count + q.count + (t.app b).count = 1 + p.count + q.count + t.count + b.count; rw [Rs.app_count b t]; omega
  | .give _ _ t => by show 1 + (t.app b).count = 1 + t.count + b.count; rw [Rs.app_count b t]; omega
/-! ### goes and calls as they lie -/
def StAt (H : Hp) (st : Str × Nat) (v : V) : Prop := ∃ (a : Addr) (wd x : V) (p : Addr) (ws : List V), v = .ref a ∧ H a = some (.tup [wd, x, .str st.1, .ref p]) ∧ H p = some (.tup ws) ∧ ws.length = st.2
theorem StAt.same {H H' : Hp} {st : Str × Nat} {v : V} (h : Same H H') : StAt H st v → StAt H' st v
  | ⟨a, wd, x, p, ws, e, k1, k2, l⟩ => ⟨a, wd, x, p, ws, e, h _ _ k1, h _ _ k2, l⟩
def StsAt (H : Hp) (sts : List (Str × Nat)) (vs : List V) : Prop := vs.length = sts.length ∧ ∀ (i : Nat) (st : Str × Nat) (v : V), sts[i]? = some st → vs[i]? = some v → StAt H st v
theorem StsAt.same {H H' : Hp} {sts : List (Str × Nat)} {vs : List V} (h : Same H H') (q : StsAt H sts vs) : StsAt H' sts vs := ⟨q.1, fun i st v a b => (q.2 i st v a b).same h⟩
theorem StsAt.app {H : Hp} {s1 s2 : List (Str × Nat)} {v1 v2 : List V} (a : StsAt H s1 v1) (b : StsAt H s2 v2) : StsAt H (s1 ++ s2) (v1 ++ v2) := by
  refine ⟨by rw [List.length_append, List.length_append, a.1, b.1], fun i st v h1 h2 => ?_⟩
  by_cases hi : i < s1.length
  · rw [List.getElem?_append_left hi] at h1
    rw [List.getElem?_append_left (by rw [a.1]; exact hi)] at h2
    exact a.2 i st v h1 h2
  · rw [List.getElem?_append_right (by omega)] at h1
    rw [List.getElem?_append_right (by rw [a.1]; omega), a.1] at h2
    exact b.2 _ st v h1 h2
theorem StsAt.one {H : Hp} {st : Str × Nat} {v : V} (h : StAt H st v) : StsAt H [st] [v] := ⟨rfl, fun i st' v' h1 h2 => by
  cases i with
  | zero => cases h1; cases h2; exact h
  | succ i => simp at h1⟩
theorem StAt.upd_lst {H : Hp} {b : Addr} {ys zs : List V} (hb : H b = some (.lst ys)) {st : Str × Nat} {v : V} : StAt H st v → StAt (upd H b (.lst zs)) st v
  | ⟨a, wd, x, p, ws, e, k1, k2, l⟩ => ⟨a, wd, x, p, ws, e, by rw [upd_ne (lst_ne k1 hb)]; exact k1, by rw [upd_ne (lst_ne k2 hb)]; exact k2, l⟩
theorem StsAt.upd_lst {H : Hp} {b : Addr} {ys zs : List V} (hb : H b = some (.lst ys)) {sts : List (Str × Nat)} {vs : List V} (q : StsAt H sts vs) : StsAt (upd H b (.lst zs)) sts vs := ⟨q.1, fun i st v a c => (q.2 i st v a c).upd_lst hb⟩
def WksIn (H : Hp) (Ws : List Wk) (vs : List V) : Prop := vs.length = Ws.length ∧ ∀ (i : Nat) (v : V), vs[i]? = some v → ∃ W, Ws[i]? = some W ∧ WkIn H W v
theorem WksIn.same {H H' : Hp} {Ws : List Wk} {vs : List V} (h : Same H H') (q : WksIn H Ws vs) : WksIn H' Ws vs := ⟨q.1, fun i v e => by
  obtain ⟨W, a, b⟩ := q.2 i v e
  exact ⟨W, a, b.same h⟩⟩
structure WksOk (Ws : List Wk) : Prop where
  few : Ws.length ≤ 12
  each : ∀ W ∈ Ws, W.ok
  nd : (Ws.map Wk.name).Nodup
  starts : ∀ W ∈ Ws, ∀ st ∈ W.rows.starts, ∃ W' ∈ Ws, W'.name = st.1 ∧ W'.names.length = st.2
def spChkWorks : Sp := fun vs H Q _ => ∃ (l : Addr) (us : List V) (Ws : List Wk), vs = [.ref l] ∧ H l = some (.lst us) ∧ WksIn H Ws us ∧ WksOk Ws ∧ ∀ H', Same H H' → Q .non H'
def spStartsIn (n : Nat) : Sp := fun vs H Q _ => ∃ (p : Addr) (xs : List V) (rs : Rs), vs = [.ref p] ∧ H p = some (.tup xs) ∧ RsIn H rs xs ∧ Rs.ok n rs ∧ rs.count ≤ 1000 ∧
  ∀ (l : Addr) (ss : List V) (H' : Hp), Same H H' → H l = none → H' l = some (.lst ss) → StsAt H' rs.starts ss → Q (.ref l) H'
section
variable {P : Program} {w : World} {K : PySem.W.Frag} {mg : Str → Option Value} {base : Heap}
theorem ok_chkWorks {f c : Addr} {fd cd : FuncData} (F : Fun K "check_works" "check_works" sChkWorks f fd) (CW : Fk P w K mg base 24 "check_work" c cd ["thing"] spChkWork) (T : Bi mg) (G : Gf K mg) (mt : mg "list" = none) : FnOk P w K mg base CX0 25 f fd ["thing"] spChkWorks := by
  refine F.ok scChkWorks (fun vs H Q E h => ?_) (fun cdv A outer s H vs Q E hr h => ?_)
  · obtain ⟨l, us, Ws, rfl, _⟩ := h
    rfl
  obtain ⟨l, us, Ws, rfl, hl, hW, ok, q⟩ := h
  have h12 := ok.few
  refine ⟨_, (pss_cons (ps_if (PW.pt (pw_or (pt_not (pt_val (pe_callB call_isi (by rfl) T.isinstance (by decide +kernel) (pa_cons (pv 0) (pa_cons (pe_bltn (v := .ty "list") (by rfl) mt (by decide +kernel) rfl) pa_nil))))) (pw_or1 (pt_cmpR op_gt (pe_callB call_len_seq (by rfl) T.len (by decide +kernel) (pa_cons (pv 0) pa_nil)) (pe_gi G.works) (nomark _)))))
      (pss_one ps_never)
      pss_nil)
    (pss_cons (ps_for PassesOwn.never rfl (pi_list (pv 0)) (pg_name (i := 1) scChkWorks.nd rfl (.inl rfl))
      (pss_one (ps_expr (pe_call CW.G (hr.mono (by omega)) (by rfl) CW.m CW.k CW.b .nil pass0 (pa_cons (pv 1) pa_nil)))))
    (pss_one (ps_if (pt_cmpR op_lt (pe_callB call_lenTxt (by rfl) T.len (by decide +kernel) (pa_cons (pe_txc (own := [("work", 1)]) (g := gName 1) (by rfl) scChkWorks.nd (pi_list (pv 0)) (blkOk_by (own := [("work", 1)]) (N := ["thing", "work"]) (sc := defScope sChkWorks) (by decide +kernel)) (fun _ _ _ _ _ => pg_name (i := 1) scChkWorks.nd rfl (Or.inl rfl)) (fun _ _ _ _ _ => (pe_ix (ix_tupK K) (pv 1) pe_int (fun _ _ => rfl)))) pa_nil)) (pe_callB call_len_seq (by rfl) T.len (by decide +kernel) (pa_cons (pv 0) pa_nil)) (nomark _))
      (pss_one ps_never)
      pss_nil)))), ?_⟩
  refine ⟨_, rfl, _, _, _, _, true, rfl, .ty "list", .base (.lst hl), kit_ty (by decide +kernel), _, rfl, ?_⟩
  refine ⟨_, rfl, l, _, rfl, .inl (SqL.of hl), _, _, rfl, rfl, _, rfl, ?_⟩
  rw [decide_eq_false (by rw [hW.1]; omega : ¬ (12 : Int) < (us.length : Nat))]
  refine iteF ?_
  refine ⟨_, rfl, l, rfl, ⟨_, SqL.of hl⟩, ?_⟩
  refine for_list (K := K) (a := l) (xs := us) (fun i σ H' => ∃ y : Option V, σ = [some (.ref l), y] ∧ Same H H') ⟨none, rfl, Same.refl H⟩ (fun i σ H' _ ⟨_, _, s'⟩ => SqL.of (s' _ _ hl)) ?_ ?_
  · rintro i v σ H1 hv ⟨y, rfl, s1⟩
    obtain ⟨W, hWi, hin⟩ := hW.2 i v hv
    exact ⟨_, rfl, v, W, rfl, hin.same s1, ok.each W (List.mem_of_getElem? hWi), fun H2 s2 => ⟨_, rfl, s1.trans s2⟩⟩
  · rintro σ H1 ⟨y, rfl, s1⟩
    refine ⟨_, rfl, l, rfl, ⟨_, SqL.of (s1 _ _ hl)⟩, ?_⟩
    intro D hD
    refine txc_list (Pr := P) (w := w) (K := K) (a := l) (xs := us) (fun j H' => H' D = some (TxtO P w D ((Ws.map Wk.name).take j)) ∧ Same H1 H') ⟨upd_same, same_new hD _⟩ (fun j H' _ h => SqL.of (h.2 _ _ (s1 _ _ hl))) ?_ ?_
    · rintro j v H2 hv ⟨hD2, s2⟩
      obtain ⟨W, hWi, hin⟩ := hW.2 j v hv
      have hj : j < Ws.length := (List.getElem?_eq_some_iff.mp hWi).1
      obtain ⟨a, pn, pr, xs, rfl, ha, _⟩ := hin.same (s1.trans s2)
      refine ⟨rfl, ?_⟩
      refine ⟨_, rfl, a, _, 1, _, rfl, rfl, SqT.of ha, atI_nat (j := 1) rfl, W.name, _, rfl, hD2, ?_, ?_, ?_⟩
      · rw [List.length_take, List.length_map]
        unfold scanBound
        omega
      · have e : (Ws.map Wk.name)[j]? = some W.name := by rw [List.getElem?_map, hWi]; rfl
        have e2 : SHSet.addT ((Ws.map Wk.name).take j) W.name = (Ws.map Wk.name).take (j + 1) := by
          unfold SHSet.addT
          rw [List.take_add_one, e]
          refine if_neg fun m => ?_
          obtain ⟨i, hi, ei⟩ := List.mem_iff_getElem.mp m
          rw [List.length_take] at hi
          rw [List.getElem_take] at ei
          obtain ⟨h1, e1⟩ := List.getElem?_eq_some_iff.mp e
          have := (List.getElem_inj ok.nd).mp (ei.trans e1.symm)
          omega
        rw [upd_same, e2]
      · intro b o z
        rw [upd_ne (ne_of_none z hD)]
        exact s2 _ _ z
    · rintro H2 ⟨hD2, s2⟩
      have hle : us.length = (Ws.map Wk.name).length := by rw [hW.1, List.length_map]
      rw [hle, List.take_length] at hD2
      refine ⟨D, _, rfl, hD2, by rw [List.length_map]; omega, ?_⟩
      refine ⟨_, rfl, l, _, rfl, .inl (SqL.of (s2 _ _ (s1 _ _ hl))), _, _, rfl, rfl, _, rfl, ?_⟩
      rw [decide_eq_false (by rw [hle]; omega)]
      refine iteF ?_
      exact q H2 (s1.trans s2)
theorem ok_startsIn {n : Nat} {f : Addr} {fd : FuncData} (F : Fun K "starts_in" "starts_in" sStartsIn f fd) (SI : 1 ≤ n → FnOk P w K mg base CX0 n f fd ["rows"] (spStartsIn (n - 1))) (mS : mg "starts_in" = some (.ref f)) (bS : Binds K fd ["rows"] []) : FnOk P w K mg base CX0 (n + 1) f fd ["rows"] (spStartsIn n) := by
  refine F.ok scStartsIn (fun vs H Q E h => ?_) (fun cdv A outer s H vs Q E hr h => ?_)
  · obtain ⟨p, xs, rs, rfl, _⟩ := h
    rfl
  obtain ⟨p, xs, rs, rfl, hp, hR, hok, hc, q⟩ := h
  have BG : ∃ sp, FnOk P w K mg base CX0 n f fd ["rows"] sp ∧ (1 ≤ n → sp = spStartsIn (n - 1)) := by
    by_cases h1 : 1 ≤ n
    · exact ⟨_, SI h1, fun _ => rfl⟩
    · refine ⟨fun _ _ _ _ => False, ⟨fun _ _ _ _ h => h.elim, fun _ _ _ _ _ _ _ _ _ _ _ _ _ h => h.elim⟩, fun z => absurd z h1⟩
  obtain ⟨spB, GB, eB⟩ := BG
  have SR : Fk P w K mg base n "starts_in" f fd ["rows"] spB := ⟨GB, mS, F.kp, bS⟩
  refine ⟨_, (pss_cons (ps_set (i := 1) scStartsIn.nd rfl (Or.inl rfl) (pe_lst pa_nil))
    (pss_cons (ps_for PassesOwn.never rfl (pi_tup (pv 0)) (pg_name (i := 2) scStartsIn.nd rfl (.inl rfl))
      (pss_one (ps_if (pt_cmpR op_in_seq (pe_ix ix_tup (pv 2) pe_int (fun _ _ => rfl)) (pe_tup (pa_cons pe_str (pa_cons pe_str pa_nil))) rfl)
      (pss_one (ps_expr (pe_bm PySem.F.plainAttrs_list PySem.F.slot_list_append PySem.F.type_list_append mt_append (pv 1) (pa_cons (pv 2) pa_nil))))
      (pss_one (ps_if (pt_cmpR op_eq (pe_ix ix_tup (pv 2) pe_int (fun _ _ => rfl)) pe_str (nomark _))
      (pss_one (ps_expr (pe_bm PySem.F.plainAttrs_list PySem.F.slot_list_extend PySem.F.type_list_extend mt_extend (pv 1) (pa_cons (pe_call SR.G hr (by rfl) SR.m SR.k SR.b .nil pass0 (pa_cons (pe_op op_catA (pe_ix ix_tup (pv 2) pe_int (fun _ _ => rfl)) (pe_ix ix_tup (pv 2) pe_int (fun _ _ => rfl))) pa_nil)) pa_nil))))
      pss_nil)))))
    (pss_one (ps_ret (pv 1))))), ?_⟩
  have hs : sizeLine = 16777216 := by decide
  refine ⟨Nat.zero_le _, fun l hl => ?_⟩
  refine ⟨_, rfl, p, rfl, ⟨_, SqT.of ((same_new hl _) _ _ hp)⟩, ?_⟩
  have npl : p ≠ l := ne_of_none hp hl
  refine for_tup (K := K) (a := p) (xs := xs) (fun i σ H' => ∃ (rs' : Rs) (done : List (Str × Nat)) (ss : List V) (y : Option V), σ = [some (.ref p), some (.ref l), y] ∧ RsIn H' rs' (xs.drop i) ∧ Rs.ok n rs' ∧ done ++ rs'.starts = rs.starts ∧ done.length + rs'.count ≤ rs.count ∧ H' l = some (.lst ss) ∧ StsAt H' done ss ∧ Same H H') ?_ ?_ ?_ ?_
  · exact ⟨rs, [], [], none, rfl, hR.same (same_new hl _), hok, rfl, by show 0 + rs.count ≤ rs.count; omega, upd_same, ⟨rfl, fun i st v h1 _ => by simp at h1⟩, same_new hl _⟩
  · rintro i σ H' _ ⟨_, _, _, _, _, _, _, _, _, _, _, s'⟩
    exact SqT.of (s' _ _ hp)
  · rintro i v σ H1 hv ⟨rs', done, ss, y, rfl, hR', ok', hd', hc', hl1, hst, s1⟩
    have hdr : xs.drop i = v :: xs.drop (i + 1) := by
      obtain ⟨hi, e⟩ := List.getElem?_eq_some_iff.mp hv
      rw [List.drop_eq_getElem_cons hi, e]
    rw [hdr] at hR'
    have hcc := rs'.count_eq
    have pos := Rs.rc_pos hR'
    have htl := hR'.tl
    have ssl : ss.length = done.length := hst.1
    -- a row that is none of these
    have other : ∀ (H2 : Hp), Same H1 H2 → rs'.starts = rs'.tl.starts → ∃ (rs' : Rs) (done : List (Str × Nat)) (ss : List V) (y : Option V), [some (V.ref p), some (V.ref l), some v] = [some (.ref p), some (.ref l), y] ∧ RsIn H2 rs' (xs.drop (i + 1)) ∧ Rs.ok n rs' ∧ done ++ rs'.starts = rs.starts ∧ done.length + rs'.count ≤ rs.count ∧ H2 l = some (.lst ss) ∧ StsAt H2 done ss ∧ Same H H2 := fun H2 s2 e => ⟨rs'.tl, done, ss, _, rfl, htl.same s2, Rs.ok_tl ok', by rw [← e]; exact hd', by omega, s2 _ _ hl1, hst.same s2, s1.trans s2⟩
    have look : ∀ (z : Str) (us : List V) (a : Addr), v = .ref a → H1 a = some (.tup (.str z :: us)) → z ≠ "go" → z ≠ "call" → z ≠ "if" → rs'.starts = rs'.tl.starts → True := fun _ _ _ _ _ _ _ _ _ => trivial
    cases rs' with
    | nil => cases hR'
    | put x e t =>
      obtain ⟨a, u, r', e1, ha, _⟩ := hR'
      cases e1
      refine ⟨_, rfl, a, _, 0, _, rfl, rfl, SqT.of ha, atI_nat rfl, (by show 2 ≤ sizeLine; decide), fun b hb => ?_⟩
      have s2 := same_new hb (.tup [.str "go", .str "call"])
      refine ⟨b, _, rfl, .inr (SqT.of upd_same), rfl, rfl, false, (by decide +kernel), ?_⟩
      refine ⟨_, rfl, a, _, 0, _, rfl, rfl, SqT.of (s2 _ _ ha), atI_nat rfl, rfl, false, (by decide +kernel), ?_⟩
      exact other _ s2 rfl
    | wait x y' oe t =>
      obtain ⟨a, u, r', e1, ha, _⟩ := hR'
      cases e1
      refine ⟨_, rfl, a, _, 0, _, rfl, rfl, SqT.of ha, atI_nat rfl, (by show 2 ≤ sizeLine; decide), fun b hb => ?_⟩
      have s2 := same_new hb (.tup [.str "go", .str "call"])
      refine ⟨b, _, rfl, .inr (SqT.of upd_same), rfl, rfl, false, (by decide +kernel), ?_⟩
      refine ⟨_, rfl, a, _, 0, _, rfl, rfl, SqT.of (s2 _ _ ha), atI_nat rfl, rfl, false, (by decide +kernel), ?_⟩
      exact other _ s2 rfl
    | give wd e t =>
      obtain ⟨a, u, r', e1, ha, _⟩ := hR'
      cases e1
      refine ⟨_, rfl, a, _, 0, _, rfl, rfl, SqT.of ha, atI_nat rfl, (by show 2 ≤ sizeLine; decide), fun b hb => ?_⟩
      have s2 := same_new hb (.tup [.str "go", .str "call"])
      refine ⟨b, _, rfl, .inr (SqT.of upd_same), rfl, rfl, false, (by cases wd <;> decide +kernel), ?_⟩
      refine ⟨_, rfl, a, _, 0, _, rfl, rfl, SqT.of (s2 _ _ ha), atI_nat rfl, rfl, false, (by cases wd <;> decide +kernel), ?_⟩
      exact other _ s2 rfl
    | go wd x g es t =>
      obtain ⟨a, pp, ws, r', e1, ha, hpp, ts, _⟩ := hR'
      cases e1
      refine ⟨_, rfl, a, _, 0, _, rfl, rfl, SqT.of ha, atI_nat rfl, (by show 2 ≤ sizeLine; decide), fun b hb => ?_⟩
      have s2 := same_new hb (.tup [.str "go", .str "call"])
      refine ⟨b, _, rfl, .inr (SqT.of upd_same), rfl, rfl, true, (by cases wd <;> decide +kernel), ?_⟩
      have hl2 := s2 _ _ hl1
      refine ⟨_, rfl, .inl ⟨rfl, _, SqL.of hl2⟩, _, rfl, l, _, _, rfl, rfl, hl2, by omega, ?_⟩
      have htl2 : RsIn _ t (xs.drop (i + 1)) := htl.same s2
      have st : StAt _ (g, es.length) (.ref a) := ⟨a, _, _, pp, ws, rfl, s2 _ _ ha, s2 _ _ hpp, ts.len⟩
      have s3 : Same H (upd (upd H1 b (.tup [.str "go", .str "call"])) l (.lst (ss ++ [.ref a]))) := fun x o z => by rw [upd_ne (ne_of_none z hl)]; exact s2 _ _ (s1 _ _ z)
      refine ⟨t, done ++ [(g, es.length)], ss ++ [.ref a], _, rfl, ?_, Rs.ok_tl ok', ?_, ?_, upd_same, ((hst.same s2).upd_lst hl2).app (.one (st.upd_lst hl2)), s3⟩
      · exact RsIn.upd_lst hl2 htl2
      · rw [List.append_assoc]; exact hd'
      · rw [List.length_append, List.length_singleton]
        have : (Rs.go wd x g es t).tl.count = t.count := rfl
        omega
    | iff e A' B t =>
      obtain ⟨a, u, pA, xA, pB, xB, r', e1, ha, te, hpA, hA, hpB, hB, _⟩ := hR'
      cases e1
      have hn : 1 ≤ n := ok'.1
      refine ⟨_, rfl, a, _, 0, _, rfl, rfl, SqT.of ha, atI_nat rfl, (by show 2 ≤ sizeLine; decide), fun b hb => ?_⟩
      have s2 := same_new hb (.tup [.str "go", .str "call"])
      refine ⟨b, _, rfl, .inr (SqT.of upd_same), rfl, rfl, false, (by decide +kernel), ?_⟩
      refine ⟨_, rfl, a, _, 0, _, rfl, rfl, SqT.of (s2 _ _ ha), atI_nat rfl, rfl, true, (by decide +kernel), ?_⟩
      have hl2 := s2 _ _ hl1
      generalize upd H1 b (.tup [.str "go", .str "call"]) = H2 at s2 hl2
      refine ⟨_, rfl, .inl ⟨rfl, _, SqL.of hl2⟩, ?_⟩
      have ec : (Rs.iff e A' B t).count = 1 + A'.count + B.count + t.count := rfl
      have lA := hA.len
      have lB := hB.len
      have goOn : ∀ (pq : Addr) (H3 : Hp), Same H2 H3 → H3 pq = some (.tup (xA ++ xB)) → spB [.ref pq] H3 (fun v' H4 => ∃ (l' b' : Addr) (xs' zs : List V), V.ref l = .ref l' ∧ [v'] = [.ref b'] ∧ H4 l' = some (.lst xs') ∧ H4 b' = some (.lst zs) ∧ xs'.length + zs.length ≤ sizeLine ∧
          (∃ (rs' : Rs) (done : List (Str × Nat)) (ss : List V) (y : Option V), [some (V.ref p), some (V.ref l), some (V.ref a)] = [some (.ref p), some (.ref l), y] ∧ RsIn (upd H4 l' (.lst (xs' ++ zs))) rs' (xs.drop (i + 1)) ∧ Rs.ok n rs' ∧ done ++ rs'.starts = rs.starts ∧ done.length + rs'.count ≤ rs.count ∧ (upd H4 l' (.lst (xs' ++ zs))) l = some (.lst ss) ∧ StsAt (upd H4 l' (.lst (xs' ++ zs))) done ss ∧ Same H (upd H4 l' (.lst (xs' ++ zs))))) E0 := by
        intro pq H3 s3 hpq
        rw [eB hn]
        refine ⟨pq, _, A'.app B, rfl, hpq, RsIn.app ((hB.same s2).same s3) ((hA.same s2).same s3), Rs.app_ok ok'.2.2.2.1 ok'.2.2.1, by rw [Rs.app_count]; omega, fun l4 ss4 H4 s4 nl4 hl4 hs4 => ?_⟩
        have hl4' := s4 _ _ (s3 _ _ hl2)
        have le4 := Rs.starts_le (A'.app B)
        rw [Rs.app_count] at le4
        rw [Rs.app_starts] at hs4 le4
        rw [List.length_append] at le4
        have hle : ss4.length = (A'.starts ++ B.starts).length := hs4.1
        rw [List.length_append] at hle
        refine ⟨l, l4, ss, ss4, rfl, rfl, hl4', hl4, by omega, ?_⟩
        have s34 := s2.trans (s3.trans s4)
        refine ⟨t, done ++ (A'.starts ++ B.starts), ss ++ ss4, _, rfl, RsIn.upd_lst hl4' (htl.same s34), Rs.ok_tl ok', ?_, ?_, upd_same, ((hst.same s34).upd_lst hl4').app (hs4.upd_lst hl4'), ?_⟩
        · rw [List.append_assoc]; exact hd'
        · rw [List.length_append, List.length_append]
          have : (Rs.iff e A' B t).tl.count = t.count := rfl
          omega
        · intro x o z
          rw [upd_ne (ne_of_none z hl)]
          exact s34 _ _ (s1 _ _ z)
      refine ⟨_, rfl, a, _, 2, _, rfl, rfl, SqT.of (s2 _ _ ha), atI_nat (j := 2) rfl, _, rfl, a, _, 3, _, rfl, rfl, SqT.of (s2 _ _ ha), atI_nat (j := 3) rfl, ?_⟩
      refine ⟨pA, pB, xA, xB, rfl, rfl, SqT.of (s2 _ _ hpA), SqT.of (s2 _ _ hpB), by omega, fun z => ?_, fun _ z => ?_, fun _ _ pq hpq => ?_⟩
      · exact goOn pB H2 (Same.refl H2) (by rw [z]; exact s2 _ _ hpB)
      · exact goOn pA H2 (Same.refl H2) (by rw [z, List.append_nil]; exact s2 _ _ hpA)
      · exact goOn pq _ (same_new hpq _) upd_same
  · rintro σ H1 ⟨rs', done, ss, y, rfl, hR', ok', hd', hc', hl1, hst, s1⟩
    rw [List.drop_length] at hR'
    have z : rs' = .nil := by
      cases rs' with
      | nil => rfl
      | put _ _ _ => obtain ⟨_, _, _, e, _⟩ := hR'; cases e
      | go _ _ _ _ _ => obtain ⟨_, _, _, _, e, _⟩ := hR'; cases e
      | wait _ _ _ _ => obtain ⟨_, _, _, e, _⟩ := hR'; cases e
      | iff _ _ _ _ => obtain ⟨_, _, _, _, _, _, _, e, _⟩ := hR'; cases e
      | give _ _ _ => obtain ⟨_, _, _, e, _⟩ := hR'; cases e
    subst z
    have e : done = rs.starts := by rw [← hd']; exact (List.append_nil done).symm
    refine ⟨_, rfl, q l ss H1 s1 hl hl1 (e ▸ hst)⟩
end
end SH

set_option Elab.async false
set_option linter.all false
set_option maxRecDepth 100000
namespace SH
open PySem L2
def spChkStarts : Sp := fun vs H Q _ => ∃ (l : Addr) (us : List V) (Ws : List Wk), vs = [.ref l] ∧ H l = some (.lst us) ∧ WksIn H Ws us ∧ WksOk Ws ∧ ∀ H', Same H H' → Q .non H'
def spBookInit (C : Addr) : Sp := fun vs H Q _ => ∃ (x dx l : Addr) (us : List V) (Ws : List Wk), vs = [.ref x, .ref l] ∧ H x = some (.ins C dx []) ∧ H l = some (.lst us) ∧ WksIn H Ws us ∧ WksOk Ws ∧
  ∀ (p : Addr) (H' : Hp), (∀ b o, H b = some o → b ≠ x → H' b = some o) → H p = none → H' p = some (.tup us) → H' x = some (.ins C dx [("works", .ref p)]) → Q .non H'
/-- what the module says of Book -/
structure BkT (K : PySem.W.Frag) (mg : Str → Option Value) (C : Addr) : Prop where
  cl : Cls K C
  nW : PySem.W.findIn K (.ref C) "works" = some none
  mgC : mg "Book" = some (.ref C)
/-- a book of these works -/
def BkIn (H : Hp) (C x : Addr) (Ws : List Wk) : Prop := ∃ (dx p : Addr) (us : List V), H x = some (.ins C dx [("works", .ref p)]) ∧ H p = some (.tup us) ∧ WksIn H Ws us
theorem BkIn.same {H H' : Hp} {C x : Addr} {Ws : List Wk} (h : Same H H') : BkIn H C x Ws → BkIn H' C x Ws
  | ⟨dx, p, us, k1, k2, q⟩ => ⟨dx, p, us, h _ _ k1, h _ _ k2, q.same h⟩
/-- the dict of how many names each work is handed -/
def HandAt (H : Hp) (D : Addr) (Ws : List Wk) : Prop := ∃ kvs : List (Key × V), H D = some (.dK kvs) ∧ ∀ (i : Nat) (W : Wk), Ws[i]? = some W → valV kvs (Sum.inr W.name) = some (.int (W.names.length : Nat))
theorem HandAt.same {H H' : Hp} {D : Addr} {Ws : List Wk} (h : Same H H') : HandAt H D Ws → HandAt H' D Ws
  | ⟨kvs, a, b⟩ => ⟨kvs, h _ _ a, b⟩
def spHanded : Sp := fun vs H Q _ => ∃ (l : Addr) (us : List V) (Ws : List Wk), vs = [.ref l] ∧ H l = some (.lst us) ∧ WksIn H Ws us ∧ WksOk Ws ∧ ∀ D H', Same H H' → H D = none → HandAt H' D Ws → Q (.ref D) H'
def spChkStart : Sp := fun vs H Q _ => ∃ (u : V) (D : Addr) (Ws : List Wk) (st : Str × Nat), vs = [u, .ref D] ∧ HandAt H D Ws ∧ StAt H st u ∧ (∃ W' ∈ Ws, W'.name = st.1 ∧ W'.names.length = st.2) ∧ Q .non H
section
variable {P : Program} {w : World} {K : PySem.W.Frag} {mg : Str → Option Value} {base : Heap}
theorem ok_handed {f : Addr} {fd : FuncData} (F : Fun K "handed_counts" "handed_counts" sHanded f fd) (T : Bi mg) : FnOk P w K mg base CX0 1 f fd ["works"] spHanded := by
  refine F.ok scHanded (fun vs H Q E h => ?_) (fun cdv A outer s H vs Q E hr h => ?_)
  · obtain ⟨l, us, Ws, rfl, _⟩ := h
    rfl
  obtain ⟨l, us, Ws, rfl, hl, hW, ok, q⟩ := h
  have h12 := ok.few
  refine ⟨_, (pss_one (ps_ret (pe_dc (own := [("work", 1)]) (g := gName 1) (tt := tYes) (by rfl) scHanded.nd (pi_list (pv 0)) (blkOk_by (own := [("work", 1)]) (N := ["works", "work"]) (sc := defScope sHanded) (by decide +kernel)) (fun _ _ _ _ _ => pg_name (i := 1) scHanded.nd rfl (Or.inl rfl)) (fun _ _ _ _ _ => pts_nil) (fun _ _ _ _ _ => (pe_ix (ix_tupK K) (pv 1) pe_int (fun _ _ => rfl))) (fun _ _ _ _ _ => (pe_callB (call_len_seqK K) (by rfl) T.len (by decide +kernel) (pa_cons (pe_ix (ix_tupK K) (pv 1) pe_int (fun _ _ => rfl)) pa_nil)))))), ?_⟩
  have hs : sizeLine = 16777216 := by decide
  refine ⟨_, rfl, l, rfl, ⟨_, SqL.of hl⟩, ?_⟩
  intro D hD
  refine dc_list (K := K) (a := l) (xs := us) (fun j H' => ∃ kvs : List (Key × V), H' D = some (.dK kvs) ∧ kvs.length ≤ j ∧ (∀ (i : Nat) (W : Wk), i < j → Ws[i]? = some W → valV kvs (Sum.inr W.name) = some (.int (W.names.length : Nat))) ∧ Same H H') ⟨[], upd_same, Nat.le_refl _, fun i W hi _ => absurd hi (Nat.not_lt_zero _), same_new hD _⟩ (fun j H' _ ⟨_, _, _, _, s'⟩ => SqL.of (s' _ _ hl)) ?_ ?_
  · rintro j v H2 hv ⟨kvs, hD2, hk, hval, s2⟩
    obtain ⟨W, hWi, hin⟩ := hW.2 j v hv
    have hj : j < Ws.length := (List.getElem?_eq_some_iff.mp hWi).1
    obtain ⟨a, pn, pr, xs, rfl, ha, hpn, _⟩ := hin.same s2
    refine ⟨rfl, ?_⟩
    refine ⟨_, rfl, a, _, 1, _, rfl, rfl, SqT.of ha, atI_nat (j := 1) rfl, _, rfl, a, _, 2, _, rfl, rfl, SqT.of ha, atI_nat (j := 2) rfl, pn, _, rfl, .inr (SqT.of hpn), kvs, Sum.inr W.name, rfl, hD2, by omega, ?_⟩
    refine ⟨_, upd_same, Nat.le_trans (DSub.putK_len _ _ _) (by omega), fun i W' hi hWi' => ?_, ?_⟩
    · rw [valV_put]
      by_cases e : W'.name = W.name
      · have e1 : (Ws.map Wk.name)[i]? = some W'.name := by rw [List.getElem?_map, hWi']; rfl
        have e2 : (Ws.map Wk.name)[j]? = some W.name := by rw [List.getElem?_map, hWi]; rfl
        have ij : i = j := nd_ix ok.nd (e ▸ e1) e2
        subst ij
        have : W' = W := Option.some.inj (hWi'.symm.trans hWi)
        subst this
        rw [if_pos rfl, List.length_map]
      · rw [if_neg (fun z => e (Sum.inr.inj z))]
        have hne : i ≠ j := fun z => by
          subst z
          exact e (congrArg Wk.name (Option.some.inj (hWi'.symm.trans hWi)))
        exact hval i W' (by omega) hWi'
    · intro b o z
      rw [upd_ne (ne_of_none z hD)]
      exact s2 _ _ z
  · rintro H2 ⟨kvs, hD2, hk, hval, s2⟩
    exact q D H2 s2 hD ⟨kvs, hD2, fun i W e => hval i W (by rw [hW.1]; exact (List.getElem?_eq_some_iff.mp e).1) e⟩
theorem ok_chkStart {f : Addr} {fd : FuncData} (F : Fun K "check_start" "check_start" sChkStart f fd) (T : Bi mg) : FnOk P w K mg base CX0 1 f fd ["start", "handed"] spChkStart := by
  refine F.ok scChkStart (fun vs H Q E h => ?_) (fun cdv A outer s H vs Q E hr h => ?_)
  · obtain ⟨u, D, Ws, st, rfl, _⟩ := h
    rfl
  obtain ⟨u, D, Ws, st, rfl, ⟨kvs, hD5, hval⟩, ⟨b, wd, x, p, ws, rfl, hb, hp, hlen⟩, ⟨W', hW', en, el⟩, q⟩ := h
  refine ⟨_, (pss_cons (ps_if (pt_cmp (pc_dnotin (hu_of hr) (pe_ix ix_tup (pv 0) pe_int (fun _ _ => rfl)) (pv 1)))
      (pss_one ps_never)
      pss_nil)
    (pss_one (ps_if (pt_cmpR op_ne (pe_callB call_len_seq (by rfl) T.len (by decide +kernel) (pa_cons (pe_ix ix_tup (pv 0) pe_int (fun _ _ => rfl)) pa_nil)) (pe_dget (hu_of hr) (pv 1) (pe_ix ix_tup (pv 0) pe_int (fun _ _ => rfl)) (fun _ _ => rfl)) (nomark _))
      (pss_one ps_never)
      pss_nil))), ?_⟩
  obtain ⟨k, hk', ek⟩ := List.mem_iff_getElem.mp hW'
  have hv' := hval k W' (by rw [List.getElem?_eq_getElem hk', ek])
  rw [en, el] at hv'
  have gt : DGet H D (.str st.1) (some (.int (st.2 : Nat))) := by
    have := DGet.k (k := Sum.inr st.1) hD5
    rwa [hv'] at this
  refine ⟨_, rfl, b, _, 2, _, rfl, rfl, SqT.of hb, atI_nat (j := 2) rfl, _, rfl, D, _, rfl, gt, false, rfl, ?_⟩
  refine ⟨_, rfl, b, _, 3, _, rfl, rfl, SqT.of hb, atI_nat (j := 3) rfl, p, _, rfl, .inr (SqT.of hp), ?_⟩
  refine ⟨_, rfl, _, rfl, b, _, 2, _, rfl, rfl, SqT.of hb, atI_nat (j := 2) rfl, D, _, rfl, gt, rfl, _, rfl, ?_⟩
  rw [hlen]
  refine iteNS rfl ?_
  exact q
theorem ok_chkStarts {f c d e : Addr} {fd cd dd ed : FuncData} (F : Fun K "check_starts" "check_starts" sChkStarts f fd) (SI : Fk P w K mg base 4 "starts_in" c cd ["rows"] (spStartsIn 3)) (HC : Fk P w K mg base 1 "handed_counts" d dd ["works"] spHanded) (CH : Fk P w K mg base 1 "check_start" e ed ["start", "handed"] spChkStart) (T : Bi mg) : FnOk P w K mg base CX0 5 f fd ["works"] spChkStarts := by
  refine F.ok scChkStarts (fun vs H Q E h => ?_) (fun cdv A outer s H vs Q E hr h => ?_)
  · obtain ⟨l, us, Ws, rfl, _⟩ := h
    rfl
  obtain ⟨l, us, Ws, rfl, hl, hW, ok, q⟩ := h
  have h12 := ok.few
  refine ⟨_, (pss_cons (ps_set (i := 1) scChkStarts.nd rfl (Or.inl rfl) (pe_call HC.G (hr.mono (by omega)) (by rfl) HC.m HC.k HC.b .nil pass0 (pa_cons (pv 0) pa_nil)))
    (pss_one (ps_for PassesOwn.never rfl (pi_list (pv 0)) (pg_name (i := 2) scChkStarts.nd rfl (.inl rfl))
      (pss_one (ps_for PassesOwn.never rfl (pi_list (pe_call SI.G (hr.mono (by omega)) (by rfl) SI.m SI.k SI.b .nil pass0 (pa_cons (pe_ix ix_tup (pv 2) pe_int (fun _ _ => rfl)) pa_nil))) (pg_name (i := 3) scChkStarts.nd rfl (.inl rfl))
      (pss_one (ps_expr (pe_call CH.G (hr.mono (by omega)) (by rfl) CH.m CH.k CH.b .nil pass0 (pa_cons (pv 3) (pa_cons (pv 1) pa_nil)))))))))), ?_⟩
  refine ⟨_, rfl, l, us, Ws, rfl, hl, hW, ok, fun D H2 s2 hD hH => ?_⟩
  refine ⟨_, rfl, l, rfl, ⟨_, SqL.of (s2 _ _ hl)⟩, ?_⟩
  refine for_list (K := K) (a := l) (xs := us) (fun i σ H' => ∃ y3 y4 : Option V, σ = [some (.ref l), some (.ref D), y3, y4] ∧ Same H2 H') ⟨none, none, rfl, Same.refl _⟩ (fun i σ H' _ ⟨_, _, _, s'⟩ => SqL.of (s' _ _ (s2 _ _ hl))) ?_ ?_
  · rintro i v σ H3 hv ⟨y3, y4, rfl, s3⟩
    obtain ⟨W, hWi, hin⟩ := hW.2 i v hv
    have hWm := List.mem_of_getElem? hWi
    obtain ⟨a, pn, pr, xs, rfl, ha, hpn, hpr, hR⟩ := hin.same (s2.trans s3)
    have wok := ok.each W hWm
    have c40 := wok.count
    refine ⟨_, rfl, a, _, 4, _, rfl, rfl, SqT.of ha, atI_nat (j := 4) rfl, pr, xs, W.rows, rfl, hpr, hR, wok.rows, by omega, fun l4 ss H4 s4 nl4 hl4 hst => ?_⟩
    refine ⟨l4, rfl, ⟨_, SqL.of hl4⟩, ?_⟩
    refine for_list (K := K) (a := l4) (xs := ss) (fun i σ H' => ∃ y4 : Option V, σ = [some (.ref l), some (.ref D), some (.ref a), y4] ∧ H' = H4) ⟨y4, rfl, rfl⟩ (fun i σ H' _ ⟨_, _, e⟩ => by rw [e]; exact SqL.of hl4) ?_ ?_
    · rintro j u σ H5 hu ⟨y4, rfl, rfl⟩
      have hj : j < W.rows.starts.length := by
        rw [← hst.1]
        exact (List.getElem?_eq_some_iff.mp hu).1
      obtain ⟨st, hsj⟩ : ∃ st, W.rows.starts[j]? = some st := ⟨_, List.getElem?_eq_getElem hj⟩
      exact ⟨_, rfl, _, rfl, u, D, Ws, st, rfl, hH.same (s3.trans s4), hst.2 j st u hsj hu, ok.starts W hWm st (List.mem_of_getElem? hsj), _, rfl, rfl⟩
    · rintro σ H5 ⟨y4, rfl, rfl⟩
      exact ⟨_, _, rfl, s3.trans s4⟩
  · rintro σ H3 ⟨y3, y4, rfl, s3⟩
    exact q H3 (s2.trans s3)
theorem ok_bookInit {f c d C : Addr} {fd cd dd : FuncData} (F : Fun K "__init__" "Book.__init__" sBookInit f fd) (B : BkT K mg C) (CK : Fk P w K mg base 25 "check_works" c cd ["thing"] spChkWorks) (CS : Fk P w K mg base 5 "check_starts" d dd ["works"] spChkStarts) (mt : mg "tuple" = none) : FnOk P w K mg base CX0 26 f fd ["self", "works"] (spBookInit C) := by
  refine F.ok scBookInit (fun vs H Q E h => ?_) (fun cdv A outer s H vs Q E hr h => ?_)
  · obtain ⟨x, dx, l, us, Ws, rfl, _⟩ := h
    rfl
  obtain ⟨x, dx, l, us, Ws, rfl, hx, hl, hW, ok, q⟩ := h
  refine ⟨_, (pss_cons (ps_expr (pe_call CK.G (hr.mono (by omega)) (by rfl) CK.m CK.k CK.b .nil pass0 (pa_cons (pv 1) pa_nil)))
    (pss_cons (ps_expr (pe_call CS.G (hr.mono (by omega)) (by rfl) CS.m CS.k CS.b .nil pass0 (pa_cons (pv 1) pa_nil)))
    (pss_one (ps_fld (pv 0) (pe_callTy call_tuple_of (by rfl) mt (by decide +kernel) (pa_cons (pv 1) pa_nil)) rfl)))), ?_⟩
  refine ⟨_, rfl, l, us, Ws, rfl, hl, hW, ok, fun H1 s1 => ?_⟩
  refine ⟨_, rfl, l, us, Ws, rfl, s1 _ _ hl, hW.same s1, ok, fun H2 s2 => ?_⟩
  have s12 := s1.trans s2
  refine ⟨_, rfl, l, us, rfl, .inl ⟨SqL.of (s12 _ _ hl), fun p hp => ?_⟩⟩
  have hx2 : (upd H2 p (.tup us)) x = some (.ins C dx []) := (same_new hp _) _ _ (s12 _ _ hx)
  refine ⟨_, rfl, x, C, dx, _, rfl, hx2, B.cl, B.nW, (by show 0 < 1000; decide), ?_⟩
  have npx : p ≠ x := fun z => by rw [z, s12 _ _ hx] at hp; cases hp
  refine q p _ (fun b o e nb => ?_) (s12.free hp) (by rw [upd_ne npx, upd_same]) upd_same
  rw [upd_ne nb]
  exact (same_new hp _) _ _ (s12 _ _ e)
end
end SH

set_option Elab.async false
set_option linter.all false
set_option maxRecDepth 100000
namespace SH
open PySem L2
abbrev sRow : Stmt := topS 63
abbrev sRows : Stmt := topS 64
theorem scRow : FnScope ["_law_bag_here", "_law_state", "_law_nested", "_law_names_here", "_law_titles", "_law_one", "_law_other", "_law_way", "_law_title", "_law_many", "_law_trees", "_law_tree_here", "_law_k"] ["_law_bag_here", "_law_state", "_law_nested"] (defScope sRow) := ⟨rfl, rfl, rfl, by decide +kernel, rfl, by decide +kernel, by decide +kernel⟩
theorem scRows : FnScope ["_law_bag_here", "_law_state", "_law_nested", "_law_many", "_law_k"] ["_law_bag_here", "_law_state", "_law_nested"] (defScope sRows) := ⟨rfl, rfl, rfl, by decide +kernel, rfl, by decide +kernel, by decide +kernel⟩
/-! ### tuples stay -/
def KeepT (H H' : Hp) : Prop := ∀ a xs, H a = some (.tup xs) → H' a = some (.tup xs)
theorem KeepT.of {H H' : Hp} (h : Same H H') : KeepT H H' := fun a xs e => h a _ e
theorem KeepT.trans {H H1 H2 : Hp} (h : KeepT H H1) (k : KeepT H1 H2) : KeepT H H2 := fun a xs e => k a xs (h a xs e)
theorem TrIn.keep {H H' : Hp} (h : KeepT H H') : ∀ {e : Ex} {v : V}, TrIn H e v → TrIn H' e v
  | .num n, v, ⟨a, e, k⟩ => ⟨a, e, h _ _ k⟩
  | .nam n, v, ⟨a, e, k⟩ => ⟨a, e, h _ _ k⟩
  | .op g l r, v, ⟨a, x, y, e, k, p, q⟩ => ⟨a, x, y, e, h _ _ k, TrIn.keep h p, TrIn.keep h q⟩
theorem TrsIn.keep {H H' : Hp} (h : KeepT H H') : ∀ {es : List Ex} {vs : List V}, TrsIn H es vs → TrsIn H' es vs
  | [], _, q => q
  | _ :: _, _, ⟨v, r, e, t, q⟩ => ⟨v, r, e, t.keep h, TrsIn.keep h q⟩
theorem OptIn.keep {H H' : Hp} (h : KeepT H H') : ∀ {e : Option Ex} {v : V}, OptIn H e v → OptIn H' e v
  | none, _, q => q
  | some _, _, q => TrIn.keep h q
theorem RsIn.keep {H H' : Hp} (h : KeepT H H') : ∀ {r : Rs} {vs : List V}, RsIn H r vs → RsIn H' r vs
  | .nil, _, q => q
  | .put _ _ _, _, ⟨a, v, r, e, k, t, q⟩ => ⟨a, v, r, e, h _ _ k, t.keep h, RsIn.keep h q⟩
  | .go _ _ _ _ _, _, ⟨a, p, ws, r, e, k, k2, t, q⟩ => ⟨a, p, ws, r, e, h _ _ k, h _ _ k2, t.keep h, RsIn.keep h q⟩
  | .wait _ _ _ _, _, ⟨a, v, r, e, k, t, q⟩ => ⟨a, v, r, e, h _ _ k, t.keep h, RsIn.keep h q⟩
  | .iff _ _ _ _, _, ⟨a, v, p, xs, p', ys, r, e, k, t, k1, q1, k2, q2, q⟩ => ⟨a, v, p, xs, p', ys, r, e, h _ _ k, t.keep h, h _ _ k1, RsIn.keep h q1, h _ _ k2, RsIn.keep h q2, RsIn.keep h q⟩
  | .give _ _ _, _, ⟨a, v, r, e, k, t, q⟩ => ⟨a, v, r, e, h _ _ k, t.keep h, RsIn.keep h q⟩
theorem WkIn.keep {H H' : Hp} {W : Wk} {v : V} (h : KeepT H H') : WkIn H W v → WkIn H' W v
  | ⟨a, pn, pr, xs, e, k1, k2, k3, q⟩ => ⟨a, pn, pr, xs, e, h _ _ k1, h _ _ k2, h _ _ k3, q.keep h⟩
theorem WksIn.keep {H H' : Hp} {Ws : List Wk} {vs : List V} (h : KeepT H H') (q : WksIn H Ws vs) : WksIn H' Ws vs := ⟨q.1, fun i v e => by
  obtain ⟨W, a, b⟩ := q.2 i v e
  exact ⟨W, a, b.keep h⟩⟩
/-- all but what stands at b and d -/
def But2 (b d : Addr) (H H' : Hp) : Prop := ∀ a o, a ≠ b → a ≠ d → H a = some o → H' a = some o
theorem But2.of {b d : Addr} {H H' : Hp} (h : Same H H') : But2 b d H H' := fun a o _ _ e => h a o e
theorem But2.but {b d : Addr} {H H' : Hp} (h : But b H H') : But2 b d H H' := fun a o n _ e => h a o n e
theorem But2.trans {b d : Addr} {H H1 H2 : Hp} (h : But2 b d H H1) (k : But2 b d H1 H2) : But2 b d H H2 := fun a o n m e => k a o n m (h a o n m e)
theorem KeepT.but {b : Addr} {ys : List V} {H H' : Hp} (hb : H b = some (.lst ys)) (h : But b H H') : KeepT H H' := fun a xs e => h a _ (lst_ne e hb) e
theorem KeepT.but2 {b d : Addr} {ys : List V} {kvs : List (Key × V)} {H H' : Hp} (hb : H b = some (.lst ys)) (hd : H d = some (.dK kvs)) (h : But2 b d H H') : KeepT H H' := fun a xs e => h a _ (lst_ne e hb) (fun z => by rw [z, hd] at e; cases e) e
theorem KeepT.upd {H : Hp} {b : Addr} {o o' : HO} (hb : H b = some o) (ho : ∀ xs, o ≠ .tup xs) : KeepT H (upd H b o') := fun a xs e => by
  rw [upd_ne (fun z => by rw [z, hb] at e; exact ho xs (Option.some.inj e))]
  exact e
/-! ### what rows are drawn by -/
def TisIn (H : Hp) (ti : List (Str × Nat)) (vs : List V) : Prop := vs.length = ti.length ∧ ∀ (i : Nat) (v : V), vs[i]? = some v → ∃ t, ti[i]? = some t ∧ ∃ p, v = .ref p ∧ H p = some (.tup [.str t.1, .int (t.2 : Nat)])
structure RC (H : Hp) (b sd an at_ : Addr) (nm : List Str) (ti : List (Str × Nat)) : Prop where
  names : H an = some (.lst (nm.map V.str))
  titles : ∃ tvs, H at_ = some (.lst tvs) ∧ TisIn H ti tvs
  nb : an ≠ b
  tb : at_ ≠ b
  nm1 : 1 ≤ nm.length
  nm2 : nm.length ≤ 1000
  nmk : ∀ s ∈ nm, NmOk s
  ti1 : 1 ≤ ti.length
  ti2 : ti.length ≤ 1000
  tik : ∀ t ∈ ti, NmOk t.1 ∧ t.2 ≤ 4
def stK (an at_ : Addr) (L : Nat) : List (Key × V) := [(Sum.inr "names", .ref an), (Sum.inr "titles", .ref at_), (Sum.inr "left", .int (L : Nat))]
def StL (H : Hp) (sd an at_ : Addr) (L : Nat) : Prop := H sd = some (.dK (stK an at_ L))
theorem k_nl : ("names" : Str) ≠ "left" := by decide +kernel
theorem k_tl : ("titles" : Str) ≠ "left" := by decide +kernel
theorem k_nt : ("names" : Str) ≠ "titles" := by decide +kernel
theorem st_names (an at_ : Addr) (L : Nat) : valV (stK an at_ L) (Sum.inr "names") = some (.ref an) := valV_pos rfl
theorem st_titles (an at_ : Addr) (L : Nat) : valV (stK an at_ L) (Sum.inr "titles") = some (.ref at_) := by
  unfold stK
  rw [valV_neg (fun z => k_nt (Sum.inr.inj z))]
  exact valV_pos rfl
theorem st_left (an at_ : Addr) (L : Nat) : valV (stK an at_ L) (Sum.inr "left") = some (.int (L : Nat)) := by
  unfold stK
  have h1 : ¬ ((Sum.inr "names" : Key) = (Sum.inr "left" : Key)) := by
    intro z
    exact k_nl (Sum.inr.inj z)
  have h2 : ¬ ((Sum.inr "titles" : Key) = (Sum.inr "left" : Key)) := by
    intro z
    exact k_tl (Sum.inr.inj z)
  rw [valV_neg h1, valV_neg h2]
  exact valV_pos rfl
theorem st_put (an at_ : Addr) (L M : Nat) : putK (stK an at_ L) (Sum.inr "left") (.int (M : Nat)) = stK an at_ M := by
  unfold putK stK
  have h1 : ¬ ((Sum.inr "names" : Key) = (Sum.inr "left" : Key)) := by
    intro z
    exact k_nl (Sum.inr.inj z)
  have h2 : ¬ ((Sum.inr "titles" : Key) = (Sum.inr "left" : Key)) := by
    intro z
    exact k_tl (Sum.inr.inj z)
  simp [h1, h2, k_nl, k_tl]
theorem StL.get {H : Hp} {sd an at_ : Addr} {L : Nat} (h : StL H sd an at_ L) : DGet H sd (.str "names") (some (.ref an)) ∧ DGet H sd (.str "titles") (some (.ref at_)) ∧ DGet H sd (.str "left") (some (.int (L : Nat))) := by
  have k := fun x : Str => DGet.k (k := Sum.inr x) (show H sd = some (.dK (stK an at_ L)) from h)
  have k1 := k "names"
  have k2 := k "titles"
  have k3 := k "left"
  rw [st_names] at k1
  rw [st_titles] at k2
  rw [st_left] at k3
  exact ⟨k1, k2, k3⟩
theorem StL.same {H H' : Hp} {sd an at_ : Addr} {L : Nat} (s : Same H H') (h : StL H sd an at_ L) : StL H' sd an at_ L := s _ _ h
theorem StL.but {H H' : Hp} {b sd an at_ : Addr} {L : Nat} {ys : List V} (hb : H b = some (.lst ys)) (u : But b H H') (h : StL H sd an at_ L) : StL H' sd an at_ L := u _ _ (fun z => by unfold StL at h; rw [z, hb] at h; cases h) h
theorem RC.move {H H' : Hp} {b sd an at_ : Addr} {nm : List Str} {ti : List (Str × Nat)} {L : Nat} (r : RC H b sd an at_ nm ti) (hs : StL H sd an at_ L) (hb : ∃ ys, H b = some (.lst ys)) (u : But2 b sd H H') : RC H' b sd an at_ nm ti := by
  obtain ⟨ys, hb⟩ := hb
  have kt : KeepT H H' := .but2 hb hs u
  have ns : ∀ (a : Addr) (xs : List V), H a = some (.lst xs) → a ≠ sd := fun a xs e z => by
    unfold StL at hs
    rw [z, hs] at e
    cases e
  obtain ⟨tvs, h1, h2⟩ := r.titles
  refine ⟨u _ _ r.nb (ns _ _ r.names) r.names, ⟨tvs, u _ _ r.tb (ns _ _ h1) h1, h2.1, fun i v e => ?_⟩, r.nb, r.tb, r.nm1, r.nm2, r.nmk, r.ti1, r.ti2, r.tik⟩
  obtain ⟨t, e1, p, e2, e3⟩ := h2.2 i v e
  exact ⟨t, e1, p, e2, kt _ _ e3⟩
def mm : Nat → Nat
  | 0 => 2
  | 1 => 2
  | 2 => 3
  | _ => 11
def rcd : Nat → Nat
  | 0 => 800
  | d + 1 => 800 + 2 * (1 + mm d * rcd d)
theorem rcd_ge (d : Nat) : 800 ≤ rcd d := by
  cases d with
  | zero => exact Nat.le_refl _
  | succ d => show 800 ≤ 800 + 2 * (1 + mm d * rcd d); omega
def spRow (d : Nat) : Sp := fun vs H Q _ => ∃ (b sd an at_ : Addr) (nm : List Str) (ti : List (Str × Nat)) (L k : Nat), vs = [.ref b, .ref sd, .int ((3 - d : Nat) : Int)] ∧ d ≤ 3 ∧ RC H b sd an at_ nm ti ∧ StL H sd an at_ L ∧ Bag H b (k + rcd d) ∧
  ∀ (v : V) (rs : Rs) (H' : Hp), RsIn H' rs [v] → Rs.ok d rs → rs.count ≤ L + 1 → (∀ st ∈ rs.starts, st ∈ ti) → StL H' sd an at_ (L + 1 - rs.count) → Bag H' b k → But2 b sd H H' → Q v H'
def spRows (d : Nat) : Sp := fun vs H Q _ => ∃ (b sd an at_ : Addr) (nm : List Str) (ti : List (Str × Nat)) (L k : Nat), vs = [.ref b, .ref sd, .int ((3 - d : Nat) : Int)] ∧ d ≤ 3 ∧ RC H b sd an at_ nm ti ∧ StL H sd an at_ L ∧ Bag H b (k + (1 + mm d * rcd d)) ∧
  ∀ (p : Addr) (xs : List V) (rs : Rs) (H' : Hp), H' p = some (.tup xs) → RsIn H' rs xs → Rs.ok d rs → rs.count ≤ L → (∀ st ∈ rs.starts, st ∈ ti) → StL H' sd an at_ (L - rs.count) → Bag H' b k → But2 b sd H H' → Q (.ref p) H'
theorem Ex.of_fine6 {nm : List Str} (hn : ∀ s ∈ nm, NmOk s) {n : Nat} (h : n ≤ 6) {e : Ex} (o : Ex.of nm n e) : Ex.fine 6 e := Ex.fine_up h (Ex.of_fine hn o)
section
variable {P : Program} {w : World} {K : PySem.W.Frag} {mg : Str → Option Value} {base : Heap}
set_option maxHeartbeats 4000000 in
theorem ok_row {d : Nat} {f t u r : Addr} {fd td ud rd : FuncData} (F : Fun K "_law_row" "_law_row" sRow f fd) (TK : Fk P w K mg base 1 "_law_take" t td ["_law_bag_here", "_law_many"] spTake) (TR : Fk P w K mg base 8 "_law_tree" u ud ["_law_bag_here", "_law_names_here", "_law_deep"] (spTrees 6))
    (RS : 1 ≤ d → FnOk P w K mg base CX0 (8 + 2 * d) r rd ["_law_bag_here", "_law_state", "_law_nested"] (spRows (d - 1))) (mR : mg "_law_rows" = some (.ref r)) (kR : PySem.W.keepIn K (.ref r) = true) (bR : Binds K rd ["_law_bag_here", "_law_state", "_law_nested"] []) (T : Bi mg) (mt : mg "tuple" = none) :
    FnOk P w K mg base CX0 (9 + 2 * d) f fd ["_law_bag_here", "_law_state", "_law_nested"] (spRow d) := by
  have lvl : 9 + 2 * d = (8 + 2 * d) + 1 := by omega
  rw [lvl]
  refine F.ok scRow (fun vs H Q E h => ?_) (fun cdv A outer s H vs Q E hr h => ?_)
  · obtain ⟨b, sd, an, at_, nm, ti, L, k, rfl, _⟩ := h
    rfl
  obtain ⟨b, sd, an, at_, nm, ti, L, k, rfl, d3, rc, hst, hB, q⟩ := h
  have BG : ∃ sp, FnOk P w K mg base CX0 (8 + 2 * d) r rd ["_law_bag_here", "_law_state", "_law_nested"] sp ∧ (1 ≤ d → sp = spRows (d - 1)) := by
    by_cases h1 : 1 ≤ d
    · exact ⟨_, RS h1, fun _ => rfl⟩
    · refine ⟨fun _ _ _ _ => False, ⟨fun _ _ _ _ h => h.elim, fun _ _ _ _ _ _ _ _ _ _ _ _ _ h => h.elim⟩, fun z => absurd z h1⟩
  obtain ⟨spB, GB, eB⟩ := BG
  have RW : Fk P w K mg base (8 + 2 * d) "_law_rows" r rd ["_law_bag_here", "_law_state", "_law_nested"] spB := ⟨GB, mR, kR, bR⟩
  refine ⟨_, (pss_cons (ps_asg (pe_tup (pa_cons (pe_dget (hu_of hr) (pv 1) pe_str (fun _ _ => rfl)) (pa_cons (pe_dget (hu_of hr) (pv 1) pe_str (fun _ _ => rfl)) pa_nil))) (pg_tup rfl (pgs_cons (pg_name (i := 3) scRow.nd rfl (.inr rfl)) (pgs_cons (pg_name (i := 4) scRow.nd rfl (.inl rfl)) pgs_nil))))
    (pss_cons (ps_asg (pe_lc (own := [("_law_k", 12)]) (g := gName 12) (tt := tYes) (by rfl) scRow.nd (pi_range1 (by rfl) T.range (pa_cons pe_int pa_nil)) (blkOk_by (own := [("_law_k", 12)]) (N := ["_law_bag_here", "_law_state", "_law_nested", "_law_names_here", "_law_titles", "_law_one", "_law_other", "_law_way", "_law_title", "_law_many", "_law_trees", "_law_tree_here", "_law_k"]) (sc := defScope sRow) (by decide +kernel)) (fun _ _ _ _ _ => pg_name (i := 12) scRow.nd rfl (Or.inl rfl)) (fun _ _ _ _ _ => pts_nil) (fun _ _ _ _ _ => (pe_ix (ix_listK K) (pv 3) (pe_call TK.G (hr.mono (by omega)) (by rfl) TK.m TK.k TK.b .nil pass0 (pa_cons (pv 0) (pa_cons (pe_callB (call_len_seqK K) (by rfl) T.len (by decide +kernel) (pa_cons (pv 3) pa_nil)) pa_nil))) (fun _ _ => rfl)))) (pg_unl rfl (pgs_cons (pg_name (i := 5) scRow.nd rfl (.inl rfl)) (pgs_cons (pg_name (i := 6) scRow.nd rfl (.inl rfl)) pgs_nil))))
    (pss_cons (ps_set (i := 7) scRow.nd rfl (Or.inl rfl) (pe_call TK.G (hr.mono (by omega)) (by rfl) TK.m TK.k TK.b .nil pass0 (pa_cons (pv 0) (pa_cons pe_int pa_nil))))
    (pss_cons (ps_if (pt_cmpR op_lt (pv 7) pe_int (nomark _))
      (pss_cons (ps_asg (pe_ix ix_list (pv 4) (pe_call TK.G (hr.mono (by omega)) (by rfl) TK.m TK.k TK.b .nil pass0 (pa_cons (pv 0) (pa_cons (pe_callB call_len_seq (by rfl) T.len (by decide +kernel) (pa_cons (pv 4) pa_nil)) pa_nil))) (fun _ _ => rfl)) (pg_tup rfl (pgs_cons (pg_name (i := 8) scRow.nd rfl (.inl rfl)) (pgs_cons (pg_name (i := 9) scRow.nd rfl (.inl rfl)) pgs_nil))))
    (pss_cons (ps_setLc (i := 10) (own := [("_law_k", 12)]) (g := gName 12) (tt := tYes) (by rfl) scRow.nd rfl rfl (sw_true rfl rfl rfl (by decide +kernel)) (pi_range1 (by rfl) T.range (pa_cons (pv 9) pa_nil)) (blkOk_by (own := [("_law_k", 12)]) (N := ["_law_bag_here", "_law_state", "_law_nested", "_law_names_here", "_law_titles", "_law_one", "_law_other", "_law_way", "_law_title", "_law_many", "_law_trees", "_law_tree_here", "_law_k"]) (sc := defScope sRow) (by decide +kernel)) (fun _ _ _ _ _ => pg_name (i := 12) scRow.nd rfl (Or.inl rfl)) (fun _ _ _ _ _ => pts_nil) (fun _ _ _ _ _ => (pe_call TR.G (hr.mono (by omega)) (by rfl) TR.m TR.k TR.b .nil pass0 (pa_cons (pv 0) (pa_cons (pv 3) (pa_cons (pe_op op_add pe_int (pe_call TK.G (hr.mono (by omega)) (by rfl) TK.m TK.k TK.b .nil pass0 (pa_cons (pv 0) (pa_cons pe_int pa_nil)))) pa_nil))))))
    (pss_one (ps_ret (pe_tup (pa_cons (pe_ix ix_list (pe_lst (pa_cons pe_str (pa_cons pe_str (pa_cons pe_str pa_nil)))) (pv 7) (fun _ _ => rfl)) (pa_cons (pv 5) (pa_cons (pv 8) (pa_cons (pe_callTy call_tuple_of (by rfl) mt (by decide +kernel) (pa_cons (pv 10) pa_nil)) pa_nil)))))))))
      pss_nil)
    (pss_cons (ps_if (pt_cmpR op_eq (pv 7) pe_int (nomark _))
      (pss_one (ps_ret (pe_tup (pa_cons pe_str (pa_cons (pv 5) (pa_cons (pv 6) (pa_cons (pe_ix ix_list (pe_lst (pa_cons pe_non (pa_cons (pe_call TR.G (hr.mono (by omega)) (by rfl) TR.m TR.k TR.b .nil pass0 (pa_cons (pv 0) (pa_cons (pv 3) (pa_cons pe_int pa_nil)))) pa_nil))) (pe_call TK.G (hr.mono (by omega)) (by rfl) TK.m TK.k TK.b .nil pass0 (pa_cons (pv 0) (pa_cons pe_int pa_nil))) (fun _ _ => rfl)) pa_nil)))))))
      pss_nil)
    (C8.pss_cut (ps_if (PW.pt (pw_and (pt_cmpR op_eq (pv 7) pe_int (nomark _)) (pw_and1 (pt_cmpR op_lt (pv 2) pe_int (nomark _)))))
      (pss_cons (ps_set (i := 11) scRow.nd rfl (Or.inl rfl) (pe_call TR.G (hr.mono (by omega)) (by rfl) TR.m TR.k TR.b .nil pass0 (pa_cons (pv 0) (pa_cons (pv 3) (pa_cons pe_int pa_nil)))))
    (pss_one (ps_ret (pe_tup (pa_cons pe_str (pa_cons (pv 11) (pa_cons (pe_call RW.G hr (by rfl) RW.m RW.k RW.b .nil pass0 (pa_cons (pv 0) (pa_cons (pv 1) (pa_cons (pe_op op_add (pv 2) pe_int) pa_nil)))) (pa_cons (pe_call RW.G hr (by rfl) RW.m RW.k RW.b .nil pass0 (pa_cons (pv 0) (pa_cons (pv 1) (pa_cons (pe_op op_add (pv 2) pe_int) pa_nil)))) pa_nil))))))))
      pss_nil)
    (pss_cons (ps_if (pt_cmpR op_eq (pv 7) pe_int (nomark _))
      (pss_one (ps_ret (pe_tup (pa_cons (pe_ix ix_list (pe_lst (pa_cons pe_str (pa_cons pe_str pa_nil))) (pe_call TK.G (hr.mono (by omega)) (by rfl) TK.m TK.k TK.b .nil pass0 (pa_cons (pv 0) (pa_cons pe_int pa_nil))) (fun _ _ => rfl)) (pa_cons (pe_call TR.G (hr.mono (by omega)) (by rfl) TR.m TR.k TR.b .nil pass0 (pa_cons (pv 0) (pa_cons (pv 3) (pa_cons (pe_op op_add pe_int (pe_call TK.G (hr.mono (by omega)) (by rfl) TK.m TK.k TK.b .nil pass0 (pa_cons (pv 0) (pa_cons pe_int pa_nil)))) pa_nil)))) pa_nil)))))
      pss_nil)
    (pss_one (ps_ret (pe_tup (pa_cons pe_str (pa_cons (pv 5) (pa_cons (pe_call TR.G (hr.mono (by omega)) (by rfl) TR.m TR.k TR.b .nil pass0 (pa_cons (pv 0) (pa_cons (pv 3) (pa_cons (pe_op op_add pe_int (pe_call TK.G (hr.mono (by omega)) (by rfl) TK.m TK.k TK.b .nil pass0 (pa_cons (pv 0) (pa_cons pe_int pa_nil)))) pa_nil)))) pa_nil))))))))))))), ?_⟩
  have hs : sizeLine = 16777216 := by decide
  have hrc := rcd_ge d
  obtain ⟨g1, g2, g3⟩ := hst.get
  refine ⟨_, rfl, sd, _, rfl, g1, _, rfl, sd, _, rfl, g2, (by show 2 ≤ sizeLine; decide), fun t1 ht1 => ?_⟩
  have s1 := same_new ht1 (.tup [.ref an, .ref at_])
  refine ⟨t1, _, rfl, SqT.of upd_same, rfl, _, _, rfl, _, _, rfl, rfl, ?_⟩
  generalize upd H t1 (.tup [.ref an, .ref at_]) = H1 at s1
  have rc1 := rc.move hst hB.lst (.of s1)
  have st1 := hst.same s1
  have B1 := hB.same s1
  -- the two names
  refine ⟨2, rfl, by decide, by decide, ?_⟩
  intro D hD
  have nDb : D ≠ b := fun z => by obtain ⟨ys, hy⟩ := B1.lst; rw [z, hy] at hD; cases hD
  refine lc_range (lo := 0) (n := 2) (fun j H' => ∃ ss : List Str, H' D = some (.lst (ss.map V.str)) ∧ ss.length = j ∧ (∀ s ∈ ss, s ∈ nm) ∧ Bag H' b (k + rcd d - j) ∧ But b H1 H') ?_ ?_ ?_
  · exact ⟨[], upd_same, rfl, fun s h => (by cases h), (B1.same (same_new hD _)).less (by omega), But.new hD _⟩
  · rintro j H2 hj ⟨ss, hD2, hl, hin, B2, U2⟩
    refine ⟨rfl, ?_⟩
    have hn2 := U2 _ _ rc.nb rc1.names
    have hlm : (nm.map V.str).length = nm.length := List.length_map _
    have h1 := rc.nm1
    have h2 := rc.nm2
    refine ⟨_, rfl, _, rfl, _, rfl, an, _, rfl, .inl (SqL.of hn2), b, _, k + rcd d - j - 1, rfl, by rw [hlm]; omega, by rw [hlm]; omega, B2.less (by omega), fun d1 H3 a1 a2 B3 U3 => ?_⟩
    rw [hlm] at a2
    obtain ⟨x, ex, hx⟩ := menuS (ns := nm) a1 a2
    refine ⟨an, _, _, _, rfl, rfl, SqL.of (U3 _ _ rc.nb hn2), ex, ?_⟩
    refine ⟨_, U3 _ _ nDb hD2, by rw [List.length_map]; omega, ss ++ [x], ?_, by rw [List.length_append, hl]; rfl, ?_, ?_, ?_⟩
    · rw [upd_same, List.map_append]; rfl
    · intro s hs'
      rcases List.mem_append.mp hs' with h | h
      · exact hin s h
      · rw [List.mem_singleton.mp h]; exact hx
    · obtain ⟨x', y', z', e, rr⟩ := B3
      exact Bag.less ⟨x', y', z', by rw [upd_ne (Ne.symm nDb)]; exact e, rr⟩ (by omega)
    · intro a o na e
      rw [upd_ne (ne_of_none e hD)]
      exact U3 _ _ na (U2 _ _ na e)
  rintro H2 ⟨ss, hD2, hl, hin, B2, U2⟩
  obtain ⟨o1, o2, rfl⟩ : ∃ o1 o2, ss = [o1, o2] := by
    match ss, hl with
    | [a, b], _ => exact ⟨a, b, rfl⟩
  have ok1 := rc.nmk o1 (hin o1 (by simp))
  have ok2 := rc.nmk o2 (hin o2 (by simp))
  refine ⟨D, _, rfl, SqL.of hD2, rfl, _, _, rfl, _, _, rfl, rfl, ?_⟩
  -- its way
  refine ⟨_, rfl, b, 9, k + rcd d - 3, rfl, by decide, by decide, B2.less (by omega), fun way H3 w1 w2 B3 U3 => ?_⟩
  obtain ⟨ys1, hys1⟩ := B1.lst
  obtain ⟨ys2, hys2⟩ := B2.lst
  have U13 : But b H1 H3 := U2.trans U3
  have V3 : But2 b sd H H3 := (But2.of s1).trans (.but U13)
  have rc3 : RC H3 b sd an at_ nm ti := rc1.move st1 B1.lst (.but U13)
  have st3 : StL H3 sd an at_ L := st1.but hys1 U13
  have nmo : ∀ s ∈ nm, nmOk s := fun s h => (rc.nmk s h).1
  have tc6 : tc 6 = 756 := by decide
  -- a row that is no if: its end
  have fin : ∀ (v : V) (rs : Rs) (H' : Hp), RsIn H' rs [v] → Rs.ok d rs → rs.count = 1 → (∀ st ∈ rs.starts, st ∈ ti) → (∃ ys, H3 b = some (.lst ys)) → Bag H' b k → But b H3 H' → Q v H' := fun v rs H' a1 a2 a3 a4 ⟨ys, hy⟩ a5 a6 => q v rs H' a1 a2 (by omega) a4 (by rw [a3]; exact st3.but hy a6) a5 (V3.trans (.but a6))
  refine ⟨_, rfl, _, _, rfl, rfl, _, rfl, ?_⟩
  refine ite2 (fun c => ?_) (fun c => ?_)
  · -- go, call
    have c' : way < 3 := of_decide_eq_true c
    obtain ⟨tvs, ht, tin⟩ := rc3.titles
    have t1' := rc.ti1
    have t2' := rc.ti2
    refine ⟨_, rfl, _, rfl, _, rfl, at_, _, rfl, .inl (SqL.of ht), b, _, k + rcd d - 4, rfl, by rw [tin.1]; omega, by rw [tin.1]; omega, B3.less (by omega), fun d1 H4 a1 a2 B4 U4 => ?_⟩
    obtain ⟨v, ev, hv⟩ := menu (xs := tvs) a1 a2
    obtain ⟨i, hi, ei⟩ := List.mem_iff_getElem.mp hv
    obtain ⟨tt, htt, p, rfl, hp⟩ := tin.2 i v (by rw [List.getElem?_eq_getElem hi, ei])
    have tmem := List.mem_of_getElem? htt
    have tok := rc.tik tt tmem
    obtain ⟨ys3, hys3⟩ := B3.lst
    have kt34 : KeepT H3 H4 := .but hys3 U4
    refine ⟨at_, _, _, _, rfl, rfl, SqL.of (U4 _ _ rc.tb ht), ev, ?_⟩
    refine ⟨p, _, rfl, SqT.of (kt34 _ _ hp), rfl, _, _, rfl, _, _, rfl, rfl, ?_⟩
    have tlt := tok.2
    refine ⟨_, rfl, _, rfl, by omega, by omega, ?_⟩
    intro D2 hD2'
    have nD2b : D2 ≠ b := fun z => by obtain ⟨ys, hy⟩ := B4.lst; rw [z, hy] at hD2'; cases hD2'
    have B4' := B4.same (same_new hD2' (.lst []))
    refine lc_range (lo := 0) (n := ((tt.2 : Nat) : Int).toNat) (fun j H' => ∃ (es : List Ex) (ws : List V), H' D2 = some (.lst ws) ∧ TrsIn H' es ws ∧ es.length = j ∧ (∀ e ∈ es, Ex.fine 6 e) ∧ Bag H' b (k + rcd d - 4 - 100 * j) ∧ But b H4 H') ?_ ?_ ?_
    · exact ⟨[], [], upd_same, rfl, rfl, fun e h => (by cases h), B4'.less (by omega), But.new hD2' _⟩
    · rintro j H5 hj ⟨es, ws, hD5, ts, hl5, hf5, B5, U5⟩
      have hj4 : j < 4 := by omega
      refine ⟨rfl, ?_⟩
      obtain ⟨ys4, hys4⟩ := B4.lst
      obtain ⟨ys5, hys5⟩ := B5.lst
      have hn5 := U5 _ _ rc.nb (U4 _ _ rc.nb rc3.names)
      refine ⟨_, rfl, _, rfl, _, rfl, b, 3, k + rcd d - 5 - 100 * j, rfl, by decide, by decide, B5.less (by omega), fun d2 H6 b1 b2 B6 U6 => ?_⟩
      have ed : ((1 + d2).toNat : Int) = 1 + d2 := Int.toNat_of_nonneg (by omega)
      have tcs : tc (1 + d2).toNat ≤ 84 := by
        rcases (show d2 = 0 ∨ d2 = 1 ∨ d2 = 2 by omega) with rfl | rfl | rfl <;> decide
      refine ⟨_, _, rfl, rfl, (1 + d2).toNat, by omega, b, an, nm, k + rcd d - 5 - 100 * j - 84, (by show [V.ref b, V.ref an, V.int (1 + d2)] = _; rw [ed]), U6 _ _ rc.nb hn5, rc.nb, rc.nm2, nmo, by omega, B6.less (by omega), fun v' e' H7 t7 o7 B7 U7 => ?_⟩
      obtain ⟨ys6, hys6⟩ := B6.lst
      have kt57 : KeepT H5 H7 := (KeepT.but hys5 U6).trans (.but hys6 U7)
      have hD7 := U7 _ _ nD2b (U6 _ _ nD2b hD5)
      have kt8 : KeepT H7 (upd H7 D2 (.lst (ws ++ [v']))) := .upd hD7 (fun xs z => by cases z)
      refine ⟨_, hD7, by rw [ts.len]; omega, es ++ [e'], ws ++ [v'], upd_same, ?_, by rw [List.length_append, hl5]; rfl, ?_, ?_, ?_⟩
      · exact TrsIn.snoc (t7.keep kt8) ((ts.keep kt57).keep kt8)
      · intro e he
        rcases List.mem_append.mp he with h | h
        · exact hf5 e h
        · rw [List.mem_singleton.mp h]; exact Ex.of_fine6 rc.nmk (by omega) o7
      · obtain ⟨x', y', z', e, rr⟩ := B7
        exact Bag.less ⟨x', y', z', by rw [upd_ne (Ne.symm nD2b)]; exact e, rr⟩ (by omega)
      · intro a o na e
        rw [upd_ne (ne_of_none e hD2')]
        exact U7 _ _ na (U6 _ _ na (U5 _ _ na e))
    · rintro H5 ⟨es, ws, hD5, ts, hl5, hf5, B5, U5⟩
      refine ⟨(by show 3 ≤ sizeLine; decide), fun l hl' => ?_⟩
      have s6 := same_new hl' (.lst [.str "go", .str "call", .str "go"])
      have mw : ∃ wd : Bool, atI [V.str "go", V.str "call", V.str "go"] way = some (.str (goW wd)) := by
        rcases (show way = 0 ∨ way = 1 ∨ way = 2 by omega) with rfl | rfl | rfl
        · exact ⟨false, atI_nat (j := 0) rfl⟩
        · exact ⟨true, atI_nat (j := 1) rfl⟩
        · exact ⟨false, atI_nat (j := 2) rfl⟩
      obtain ⟨wd, ew⟩ := mw
      refine ⟨_, rfl, l, _, _, _, rfl, rfl, SqL.of upd_same, ew, _, rfl, _, rfl, _, rfl, D2, _, rfl, .inl ⟨SqL.of (s6 _ _ hD5), fun p2 hp2 => ?_⟩⟩
      have s7 := same_new hp2 (.tup ws)
      refine ⟨(by show 4 ≤ sizeLine; decide), fun p3 hp3 => ?_⟩
      have s8 := same_new hp3 (.tup [.str (goW wd), .str o1, .str tt.1, .ref p2])
      have s68 := s6.trans (s7.trans s8)
      refine fin (.ref p3) (.go wd o1 tt.1 es .nil) _ ⟨p3, p2, ws, [], rfl, upd_same, s8 _ _ upd_same, ts.same s68, rfl⟩ ⟨ok1, tok.1, by omega, hf5, trivial⟩ rfl ?_ B3.lst ((B5.same s68).less (by omega)) (U4.trans (U5.trans (.of s68)))
      intro st hst'
      have hst'' : st = (tt.1, es.length) := by simpa [Rs.starts] using hst'
      rw [hst'', hl5]
      have : ((tt.2 : Nat) : Int).toNat = tt.2 := Int.toNat_natCast _
      rw [this]
      exact tmem
  · have c' : ¬ way < 3 := of_decide_eq_false (Bool.eq_false_iff.mpr c)
    refine ⟨_, rfl, rfl, _, rfl, ?_⟩
    refine ite2 (fun c3 => ?_) (fun c3 => ?_)
    · -- wait
      refine ⟨_, rfl, _, rfl, _, rfl, _, rfl, 2, by decide, b, an, nm, k + rcd d - 3 - 36, rfl, rc3.names, rc.nb, rc.nm2, nmo, by decide, B3.less (by have h36 : tc 2 = 36 := (by decide); omega), fun v e H4 t4 o4 B4 U4 => ?_⟩
      refine ⟨(by show 2 ≤ sizeLine; decide), fun l hl' => ?_⟩
      have s5 := same_new hl' (.lst [.non, v])
      refine ⟨_, rfl, b, 2, k + rcd d - 4 - 36, rfl, by decide, by decide, (B4.same s5).less (by omega), fun d2 H6 b1 b2 B6 U6 => ?_⟩
      have nlb : l ≠ b := fun z => by obtain ⟨ys, hy⟩ := B4.lst; rw [z, hy] at hl'; cases hl'
      have hl6 : H6 l = some (.lst [.non, v]) := U6 _ _ nlb upd_same
      obtain ⟨ys5, hys5⟩ := (B4.same s5).lst
      have t6 : TrIn H6 e v := (t4.same s5).keep (.but hys5 U6)
      have mo : ∃ (oe : Option Ex) (v' : V), atI [V.non, v] d2 = some v' ∧ OptIn H6 oe v' ∧ ∀ e', oe = some e' → Ex.fine 6 e' := by
        rcases (show d2 = 0 ∨ d2 = 1 by omega) with rfl | rfl
        · exact ⟨none, .non, atI_nat (j := 0) rfl, rfl, fun e' z => (by cases z)⟩
        · exact ⟨some e, v, atI_nat (j := 1) rfl, t6, fun e' z => (by cases z; exact Ex.of_fine6 rc.nmk (by omega) o4)⟩
      obtain ⟨oe, v', ev, ov, of6⟩ := mo
      refine ⟨l, _, _, _, rfl, rfl, SqL.of hl6, ev, (by show 4 ≤ sizeLine; decide), fun p hp => ?_⟩
      have s7 := same_new hp (.tup [.str "wait", .str o1, .str o2, v'])
      exact fin (.ref p) (.wait o1 o2 oe .nil) _ ⟨p, v', [], rfl, upd_same, ov.same s7, rfl⟩ ⟨ok1, ok2, of6, trivial⟩ rfl (fun st h => (by cases h)) B3.lst ((B6.same s7).less (by omega)) (U4.trans ((But.of s5).trans (U6.trans (.of s7))))
    · -- an if?
      have goOn : ∀ (cc : Bool), True := fun _ => trivial
      refine ⟨fun σ' H' => (σ' = [some (.ref b), some (.ref sd), some (.int ((3 - d : Nat) : Int)), some (.ref an), some (.ref at_), some (.str o1), some (.str o2), some (.int way), none, none, none, none, none]) ∧ H' = H3, ?_, ?_⟩
      · refine ⟨_, rfl, rfl, _, rfl, ?_⟩
        refine ite2 (fun c4 => ⟨_, rfl, _, _, rfl, rfl, _, rfl, ite2 (fun c5 => ?_) (fun c5 => ⟨rfl, rfl⟩)⟩) (fun c4 => ⟨rfl, rfl⟩)
        have c5' : ((3 - d : Nat) : Int) < 3 := of_decide_eq_true c5
        have hd1 : 1 ≤ d := by omega
        obtain ⟨dd, rfl⟩ : ∃ dd, d = dd + 1 := ⟨d - 1, by omega⟩
        have erc : rcd (dd + 1) = 800 + 2 * (1 + mm dd * rcd dd) := rfl
        have en : ((3 - (dd + 1) : Nat) : Int) + 1 = ((3 - dd : Nat) : Int) := by omega
        refine ⟨_, rfl, _, rfl, 2, by decide, b, an, nm, k + 2 * (1 + mm dd * rcd dd) + 700, rfl, rc3.names, rc.nb, rc.nm2, nmo, by decide, B3.less (by have h36 : tc 2 = 36 := (by decide); omega), fun v e H4 t4 o4 B4 U4 => ?_⟩
        obtain ⟨ys3, hys3⟩ := B3.lst
        have rc4 := rc3.move st3 ⟨_, hys3⟩ (.but U4)
        have st4 := st3.but hys3 U4
        refine ⟨_, rfl, _, rfl, _, rfl, _, rfl, _, _, rfl, rfl, ?_⟩
        rw [eB hd1]
        refine ⟨b, sd, an, at_, nm, ti, L, k + (1 + mm dd * rcd dd), (by show [V.ref b, V.ref sd, V.int (((3 - (dd + 1) : Nat) : Int) + 1)] = _; rw [en]; rfl), by omega, rc4, st4, B4.less (by show k + (1 + mm dd * rcd dd) + (1 + mm dd * rcd dd) ≤ _; omega), fun p xs rs H5 hp hR ok hc' hst5 st5 B5 U5 => ?_⟩
        obtain ⟨ys4, hys4⟩ := B4.lst
        have rc5 := rc4.move st4 ⟨_, hys4⟩ U5
        have kt45 : KeepT H4 H5 := .but2 hys4 st4 U5
        refine ⟨_, rfl, _, rfl, _, rfl, _, _, rfl, rfl, ?_⟩
        refine ⟨b, sd, an, at_, nm, ti, L - rs.count, k, (by show [V.ref b, V.ref sd, V.int (((3 - (dd + 1) : Nat) : Int) + 1)] = _; rw [en]; rfl), by omega, rc5, st5, B5, fun p' xs' rs' H6 hp' hR' ok' hc6 hst6 st6 B6 U6 => ?_⟩
        obtain ⟨ys5, hys5⟩ := B5.lst
        have kt56 : KeepT H5 H6 := .but2 hys5 st5 U6
        refine ⟨(by show 4 ≤ sizeLine; decide), fun p7 hp7 => ?_⟩
        have s7 := same_new hp7 (.tup [.str "if", v, .ref p, .ref p'])
        have ec : (Rs.iff e rs rs' .nil).count = 1 + rs.count + rs'.count + 0 := rfl
        refine q (.ref p7) (.iff e rs rs' .nil) _ ⟨p7, v, p, xs, p', xs', [], rfl, upd_same, ((t4.keep kt45).keep kt56).same s7, s7 _ _ (kt56 _ _ hp), (hR.keep kt56).same s7, s7 _ _ hp', hR'.same s7, rfl⟩ ⟨by omega, Ex.of_fine6 rc.nmk (by omega) o4, ok, ok', trivial⟩ (by omega) ?_ ?_ (B6.same s7) (V3.trans ((But2.but U4).trans (U5.trans (U6.trans (.of s7)))))
        · intro st h
          have h' : st ∈ rs.starts ∨ st ∈ rs'.starts := by simpa [Rs.starts] using h
          rcases h' with h | h
          · exact hst5 st h
          · exact hst6 st h
        · have e7 : L + 1 - (Rs.iff e rs rs' .nil).count = L - rs.count - rs'.count := by omega
          rw [e7]
          exact st6.same s7
      · rintro σ' H' ⟨rfl, rfl⟩
        refine ⟨_, rfl, rfl, _, rfl, ?_⟩
        refine ite2 (fun c5 => ?_) (fun c5 => ?_)
        · -- give, fail
          refine ⟨(by show 2 ≤ sizeLine; decide), fun l hl' => ?_⟩
          have s4 := same_new hl' (.lst [.str "give", .str "fail"])
          have nlb : l ≠ b := fun z => by obtain ⟨ys, hy⟩ := B3.lst; rw [z, hy] at hl'; cases hl'
          refine ⟨_, rfl, b, 2, k + rcd d - 4, rfl, by decide, by decide, (B3.same s4).less (by omega), fun d1 H5 a1 a2 B5 U5 => ?_⟩
          have hl5 : H5 l = some (.lst [.str "give", .str "fail"]) := U5 _ _ nlb upd_same
          have mw : ∃ wd : Bool, atI [V.str "give", V.str "fail"] d1 = some (.str (giveW wd)) := by
            rcases (show d1 = 0 ∨ d1 = 1 by omega) with rfl | rfl
            · exact ⟨false, atI_nat (j := 0) rfl⟩
            · exact ⟨true, atI_nat (j := 1) rfl⟩
          obtain ⟨wd, ew⟩ := mw
          refine ⟨l, _, _, _, rfl, rfl, SqL.of hl5, ew, ?_⟩
          refine ⟨_, rfl, _, rfl, _, rfl, b, 4, k + rcd d - 5, rfl, by decide, by decide, B5.less (by omega), fun d2 H6 b1 b2 B6 U6 => ?_⟩
          have ed : ((1 + d2).toNat : Int) = 1 + d2 := Int.toNat_of_nonneg (by omega)
          have tcs : tc (1 + d2).toNat ≤ 180 := by
            rcases (show d2 = 0 ∨ d2 = 1 ∨ d2 = 2 ∨ d2 = 3 by omega) with rfl | rfl | rfl | rfl <;> decide
          have hn6 := U6 _ _ rc.nb (U5 _ _ rc.nb (s4 _ _ rc3.names))
          refine ⟨_, _, rfl, rfl, (1 + d2).toNat, by omega, b, an, nm, k + rcd d - 5 - 180, (by show [V.ref b, V.ref an, V.int (1 + d2)] = _; rw [ed]), hn6, rc.nb, rc.nm2, nmo, by omega, B6.less (by omega), fun v' e' H7 t7 o7 B7 U7 => ?_⟩
          refine ⟨(by show 2 ≤ sizeLine; decide), fun p hp => ?_⟩
          have s8 := same_new hp (.tup [.str (giveW wd), v'])
          exact fin (.ref p) (.give wd e' .nil) _ ⟨p, v', [], rfl, upd_same, t7.same s8, rfl⟩ ⟨Ex.of_fine6 rc.nmk (by omega) o7, trivial⟩ rfl (fun st h => (by cases h)) B3.lst ((B7.same s8).less (by omega)) ((But.of s4).trans (U5.trans (U6.trans (U7.trans (.of s8)))))
        · -- put
          refine ⟨_, rfl, _, rfl, _, rfl, _, rfl, b, 6, k + rcd d - 4, rfl, by decide, by decide, B3.less (by omega), fun d2 H6 b1 b2 B6 U6 => ?_⟩
          have ed : ((1 + d2).toNat : Int) = 1 + d2 := Int.toNat_of_nonneg (by omega)
          have tcs : tc (1 + d2).toNat ≤ 756 := by
            rcases (show d2 = 0 ∨ d2 = 1 ∨ d2 = 2 ∨ d2 = 3 ∨ d2 = 4 ∨ d2 = 5 by omega) with rfl | rfl | rfl | rfl | rfl | rfl <;> decide
          refine ⟨_, _, rfl, rfl, (1 + d2).toNat, by omega, b, an, nm, k, (by show [V.ref b, V.ref an, V.int (1 + d2)] = _; rw [ed]), U6 _ _ rc.nb rc3.names, rc.nb, rc.nm2, nmo, by omega, B6.less (by omega), fun v' e' H7 t7 o7 B7 U7 => ?_⟩
          refine ⟨(by show 3 ≤ sizeLine; decide), fun p hp => ?_⟩
          have s8 := same_new hp (.tup [.str "put", .str o1, v'])
          exact fin (.ref p) (.put o1 e' .nil) _ ⟨p, v', [], rfl, upd_same, t7.same s8, rfl⟩ ⟨ok1, Ex.of_fine6 rc.nmk (by omega) o7, trivial⟩ rfl (fun st h => (by cases h)) B3.lst (B7.same s8) (U6.trans (U7.trans (.of s8)))
end
end SH

set_option Elab.async false
set_option linter.all false
set_option maxRecDepth 100000
namespace SH
open PySem L2
abbrev sWorks : Stmt := topS 65
theorem scWorks : FnScope ["_law_bag_here", "_law_most", "_law_titles", "_law_names_here", "_law_some", "_law_found", "_law_title", "_law_many", "_law_at", "_law_handed", "_law_room", "_law_rows_here"] ["_law_bag_here", "_law_most"] (defScope sWorks) := ⟨rfl, rfl, rfl, by decide +kernel, rfl, by decide +kernel, by decide +kernel⟩
theorem mm_at {d : Nat} (h : d ≤ 3) : atI (([12, 4, 3, 3] : List Int).map V.int) ((3 - d : Nat) : Int) = some (.int ((mm d : Nat) + 1 : Int)) := by
  match d, h with
  | 0, _ => exact atI_nat (j := 3) rfl
  | 1, _ => exact atI_nat (j := 2) rfl
  | 2, _ => exact atI_nat (j := 1) rfl
  | 3, _ => exact atI_nat (j := 0) rfl
theorem mm_le {d : Nat} (h : d ≤ 3) : mm d ≤ 11 := by
  match d, h with
  | 0, _ => decide
  | 1, _ => decide
  | 2, _ => decide
  | 3, _ => decide
theorem RC.same {H H' : Hp} {b sd an at_ : Addr} {nm : List Str} {ti : List (Str × Nat)} (r : RC H b sd an at_ nm ti) (h : Same H H') : RC H' b sd an at_ nm ti := by
  obtain ⟨tvs, h1, h2⟩ := r.titles
  refine ⟨h _ _ r.names, ⟨tvs, h _ _ h1, h2.1, fun i v e => ?_⟩, r.nb, r.tb, r.nm1, r.nm2, r.nmk, r.ti1, r.ti2, r.tik⟩
  obtain ⟨t, e1, p, e2, e3⟩ := h2.2 i v e
  exact ⟨t, e1, p, e2, h _ _ e3⟩
section
variable {P : Program} {w : World} {K : PySem.W.Frag} {mg : Str → Option Value} {base : Heap}
theorem ok_rows {d : Nat} {f t r : Addr} {fd td rd : FuncData} (F : Fun K "_law_rows" "_law_rows" sRows f fd) (TK : Fk P w K mg base 1 "_law_take" t td ["_law_bag_here", "_law_many"] spTake) (RO : Fk P w K mg base (9 + 2 * d) "_law_row" r rd ["_law_bag_here", "_law_state", "_law_nested"] (spRow d)) (T : Bi mg) (mt : mg "tuple" = none) :
    FnOk P w K mg base CX0 (9 + 2 * d + 1) f fd ["_law_bag_here", "_law_state", "_law_nested"] (spRows d) := by
  refine F.ok scRows (fun vs H Q E h => ?_) (fun cdv A outer s H vs Q E hr h => ?_)
  · obtain ⟨b, sd, an, at_, nm, ti, L, k, rfl, _⟩ := h
    rfl
  obtain ⟨b, sd, an, at_, nm, ti, L, k, rfl, d3, rc, hst, hB, q⟩ := h
  refine ⟨_, (pss_cons (ps_set (i := 3) scRows.nd rfl (Or.inl rfl) (pe_callB (call_min2 rfl) (by rfl) T.min (by decide +kernel) (pa_cons (pe_call TK.G (hr.mono (by omega)) (by rfl) TK.m TK.k TK.b .nil pass0 (pa_cons (pv 0) (pa_cons (pe_ix ix_list (pe_lst (pa_cons pe_int (pa_cons pe_int (pa_cons pe_int (pa_cons pe_int pa_nil))))) (pv 2) (fun _ _ => rfl)) pa_nil))) (pa_cons (pe_dget (hu_of hr) (pv 1) pe_str (fun _ _ => rfl)) pa_nil))))
    (pss_cons (ps_dput (hu_of hr) (pv 1) pe_str (pe_op op_sub (pe_dget (hu_of hr) (pv 1) pe_str (fun _ _ => rfl)) (pv 3)) rfl)
    (pss_one (ps_ret (pe_callTy call_tuple_of (by rfl) mt (by decide +kernel) (pa_cons (pe_lc (own := [("_law_k", 4)]) (g := gName 4) (tt := tYes) (by rfl) scRows.nd (pi_range1 (by rfl) T.range (pa_cons (pv 3) pa_nil)) (blkOk_by (own := [("_law_k", 4)]) (N := ["_law_bag_here", "_law_state", "_law_nested", "_law_many", "_law_k"]) (sc := defScope sRows) (by decide +kernel)) (fun _ _ _ _ _ => pg_name (i := 4) scRows.nd rfl (Or.inl rfl)) (fun _ _ _ _ _ => pts_nil) (fun _ _ _ _ _ => (pe_call RO.G hr (by rfl) RO.m RO.k RO.b .nil pass0 (pa_cons (pv 0) (pa_cons (pv 1) (pa_cons (pv 2) pa_nil)))))) pa_nil)))))), ?_⟩
  have hs : sizeLine = 16777216 := by decide
  have hmm := mm_le d3
  obtain ⟨ys0, hys0⟩ := hB.lst
  refine ⟨_, rfl, (by show 4 ≤ sizeLine; decide), fun l hl => ?_⟩
  have s1 := same_new hl (.lst (([12, 4, 3, 3] : List Int).map V.int))
  refine ⟨_, rfl, l, _, _, _, rfl, rfl, SqL.of upd_same, mm_at d3, b, _, k + mm d * rcd d, rfl, by omega, by omega, (hB.same s1).less (by omega), fun d1 H1 a1 a2 B1 U1 => ?_⟩
  have U01 : But b H H1 := (But.of s1).trans U1
  have st1 := hst.but hys0 U01
  have rc1 := rc.move hst ⟨_, hys0⟩ (.but U01)
  obtain ⟨g1, g2, g3⟩ := st1.get
  obtain ⟨M, eM, hM1, hM2⟩ : ∃ M : Nat, (if ((L : Nat) : Int) < d1 then ((L : Nat) : Int) else d1) = ((M : Nat) : Int) ∧ M ≤ L ∧ M ≤ mm d := by
    split
    · exact ⟨L, rfl, Nat.le_refl _, by omega⟩
    · exact ⟨d1.toNat, by omega, by omega, by omega⟩
  refine ⟨_, rfl, sd, _, rfl, g3, _, _, rfl, ?_⟩
  rw [eM]
  have eL : ((L : Nat) : Int) - ((M : Nat) : Int) = ((L - M : Nat) : Int) := by omega
  have eP : putK (stK an at_ L) (Sum.inr "left") (.int (((L : Nat) : Int) - ((M : Nat) : Int))) = stK an at_ (L - M) := by rw [eL, st_put]
  have dput := DPut.k (k := Sum.inr "left") (v := .int (((L : Nat) : Int) - ((M : Nat) : Int))) (show H1 sd = some (.dK (stK an at_ L)) from st1) (by show 3 < sizeLine; decide)
  rw [eP] at dput
  refine ⟨_, rfl, sd, _, rfl, g3, _, rfl, _, _, rfl, rfl, _, rfl, sd, _, rfl, dput, ?_⟩
  have nsb : b ≠ sd := fun z => by unfold StL at st1; obtain ⟨ys, hy⟩ := B1.lst; rw [z, st1] at hy; cases hy
  have st2 : StL (upd H1 sd (.dK (stK an at_ (L - M)))) sd an at_ (L - M) := upd_same
  have U12 : But2 b sd H1 (upd H1 sd (.dK (stK an at_ (L - M)))) := fun a o _ nd e => by rw [upd_ne nd]; exact e
  have B2 : Bag (upd H1 sd (.dK (stK an at_ (L - M)))) b (k + mm d * rcd d) := by
    obtain ⟨x, y, z, e, rr⟩ := B1
    exact ⟨x, y, z, by rw [upd_ne nsb]; exact e, rr⟩
  have rc2 := rc1.move st1 B1.lst U12
  have V2 : But2 b sd H (upd H1 sd (.dK (stK an at_ (L - M)))) := (But2.but U01).trans U12
  generalize upd H1 sd (.dK (stK an at_ (L - M))) = H2 at st2 U12 B2 rc2 V2
  refine ⟨_, rfl, _, rfl, by omega, by omega, ?_⟩
  intro D hD
  have nDb : D ≠ b := fun z => by obtain ⟨ys, hy⟩ := B2.lst; rw [z, hy] at hD; cases hD
  have nDs : D ≠ sd := fun z => by unfold StL at st2; rw [z, st2] at hD; cases hD
  have sD := same_new hD (.lst [])
  refine lc_range (lo := 0) (n := ((M : Nat) : Int).toNat) (fun j H' => ∃ (rs : Rs) (vs : List V), H' D = some (.lst vs) ∧ RsIn H' rs vs ∧ vs.length = j ∧ Rs.ok d rs ∧ j ≤ rs.count ∧ rs.count - j ≤ L - M ∧ (∀ st ∈ rs.starts, st ∈ ti) ∧ StL H' sd an at_ (L - M - (rs.count - j)) ∧ Bag H' b (k + (mm d - j) * rcd d) ∧ But2 b sd H2 H') ?_ ?_ ?_
  · exact ⟨.nil, [], upd_same, rfl, rfl, trivial, Nat.le_refl _, Nat.zero_le _, fun st h => (by cases h), st2.same sD, B2.same sD, .of sD⟩
  · rintro j H3 hj ⟨rs, vs, hD3, hR, hl3, ok3, c1, c2, hs3, st3, B3, U3⟩
    have hjM : j < M := by omega
    refine ⟨rfl, ?_⟩
    have rc3 := rc2.move st2 B2.lst U3
    have eB : k + (mm d - j) * rcd d = k + (mm d - (j + 1)) * rcd d + rcd d := by
      rw [show mm d - j = (mm d - (j + 1)) + 1 by omega, Nat.succ_mul]
      omega
    rw [eB] at B3
    refine ⟨_, rfl, _, rfl, _, rfl, b, sd, an, at_, nm, ti, _, _, rfl, d3, rc3, st3, B3, fun v r1 H4 hR1 ok1 k1 hs1 st4 B4 U4 => ?_⟩
    obtain ⟨ys3, hys3⟩ := B3.lst
    have kt : KeepT H3 H4 := .but2 hys3 st3 U4
    have hD4 := U4 _ _ nDb nDs hD3
    have k5 : KeepT H4 (upd H4 D (.lst (vs ++ [v]))) := .upd hD4 (fun xs z => by cases z)
    have r1c : 1 ≤ r1.count := by
      have := r1.count_eq
      have := Rs.rc_pos hR1
      omega
    refine ⟨_, hD4, by omega, rs.app r1, vs ++ [v], upd_same, RsIn.app (hR1.keep k5) ((hR.keep kt).keep k5), by rw [List.length_append, hl3]; rfl, Rs.app_ok ok1 ok3, by rw [Rs.app_count]; omega, by rw [Rs.app_count]; omega, ?_, ?_, ?_, ?_⟩
    · intro st h
      rw [Rs.app_starts] at h
      rcases List.mem_append.mp h with h | h
      · exact hs3 st h
      · exact hs1 st h
    · have e : L - M - ((rs.app r1).count - (j + 1)) = L - M - (rs.count - j) + 1 - r1.count := by rw [Rs.app_count]; omega
      rw [e]
      unfold StL
      rw [upd_ne (Ne.symm nDs)]
      exact st4
    · obtain ⟨x', y', z', e, rr⟩ := B4
      exact ⟨x', y', z', by rw [upd_ne (Ne.symm nDb)]; exact e, rr⟩
    · intro a o na nd e
      rw [upd_ne (ne_of_none e hD)]
      exact U4 _ _ na nd (U3 _ _ na nd e)
  · rintro H3 ⟨rs, vs, hD3, hR, hl3, ok3, c1, c2, hs3, st3, B3, U3⟩
    have eM' : ((M : Nat) : Int).toNat = M := Int.toNat_natCast M
    rw [eM'] at c1 c2 st3
    refine ⟨D, vs, rfl, .inl ⟨SqL.of hD3, fun p hp => ?_⟩⟩
    have s4 := same_new hp (.tup vs)
    refine q p vs rs _ upd_same (hR.same s4) ok3 (by omega) hs3 ?_ ((B3.same s4).less (by omega)) (V2.trans (U3.trans (.of s4)))
    rw [show L - rs.count = L - M - (rs.count - M) by omega]
    exact st3.same s4
end
end SH

set_option Elab.async false
set_option linter.all false
set_option maxRecDepth 100000
namespace SH
open PySem L2
theorem cutV_from {xs : List V} {n : Nat} (h : n ≤ xs.length) : cutV xs (some (n : Int)) none = xs.drop n := by
  unfold cutV
  rw [HT.sIx_nat, HT.sIx_none, Nat.min_eq_left h]
  exact List.take_of_length_le (by rw [List.length_drop]; exact Nat.le_refl _)
theorem cutV_to {xs : List V} {n : Nat} (h : n ≤ xs.length) : cutV xs none (some (n : Int)) = xs.take n := by
  unfold cutV
  rw [HT.sIx_nat, HT.sIx_none, Nat.min_eq_left h]
  show (xs.drop 0).take (n - 0) = _
  rw [List.drop_zero, Nat.sub_zero]
/-- the names from a place on and round, so many -/
def rot (nm : List Str) (a m : Nat) : List Str := (nm.drop a ++ nm.take a).take m
theorem rot_len {nm : List Str} {a m : Nat} (ha : a ≤ nm.length) (h : m ≤ nm.length) : (rot nm a m).length = m := by
  unfold rot
  rw [List.length_take, List.length_append, List.length_drop, List.length_take]
  omega
theorem rot_nd {nm : List Str} {a m : Nat} (h : nm.Nodup) : (rot nm a m).Nodup := by
  unfold rot
  have e : (nm.take a ++ nm.drop a).Nodup := by rw [List.take_append_drop]; exact h
  have e2 : (nm.drop a ++ nm.take a).Nodup := (List.perm_append_comm.nodup_iff).mp e
  exact e2.sublist (List.take_sublist _ _)
theorem rot_mem {nm : List Str} {a m : Nat} {s : Str} (h : s ∈ rot nm a m) : s ∈ nm := by
  unfold rot at h
  rcases List.mem_append.mp (List.mem_of_mem_take h) with h | h
  · exact List.mem_of_mem_drop h
  · exact List.mem_of_mem_take h
def spWorks : Sp := fun vs H Q _ => ∃ (b : Addr) (M k : Nat), vs = [.ref b, .int (M : Nat)] ∧ 1 ≤ M ∧ M ≤ 12 ∧ Bag H b (k + M * 1200000 + 1000) ∧
  ∀ (l : Addr) (us : List V) (Ws : List Wk) (H' : Hp), H l = none → H' l = some (.lst us) → WksIn H' Ws us → WksOk Ws → 1 ≤ Ws.length → Ws.length ≤ M → Bag H' b k → But b H H' → Q (.ref l) H'
section
variable {P : Program} {w : World} {K : PySem.W.Frag} {mg : Str → Option Value} {base : Heap}
theorem rowsAll {f t u r : Addr} {fd td ud rd : FuncData} (F : Fun K "_law_row" "_law_row" sRow f fd) (mF : mg "_law_row" = some (.ref f)) (bF : Binds K fd ["_law_bag_here", "_law_state", "_law_nested"] []) (FR : Fun K "_law_rows" "_law_rows" sRows r rd) (mR : mg "_law_rows" = some (.ref r)) (bR : Binds K rd ["_law_bag_here", "_law_state", "_law_nested"] [])
    (TK : Fk P w K mg base 1 "_law_take" t td ["_law_bag_here", "_law_many"] spTake) (TR : Fk P w K mg base 8 "_law_tree" u ud ["_law_bag_here", "_law_names_here", "_law_deep"] (spTrees 6)) (T : Bi mg) (mt : mg "tuple" = none) : ∀ d : Nat, FnOk P w K mg base CX0 (9 + 2 * d + 1) r rd ["_law_bag_here", "_law_state", "_law_nested"] (spRows d)
  | 0 => ok_rows (d := 0) FR TK ⟨ok_row (d := 0) F TK TR (fun h => absurd h (by decide)) mR FR.kp bR T mt, mF, F.kp, bF⟩ T mt
  | d + 1 => ok_rows (d := d + 1) FR TK ⟨ok_row (d := d + 1) F TK TR (fun _ => by
      have z := rowsAll F mF bF FR mR bR TK TR T mt d
      rw [show 8 + 2 * (d + 1) = 9 + 2 * d + 1 by omega]
      exact z) mR FR.kp bR T mt, mF, F.kp, bF⟩ T mt
set_option maxHeartbeats 4000000 in
theorem ok_works {f t n r : Addr} {fd td nd rd : FuncData} (F : Fun K "_law_works" "_law_works" sWorks f fd) (TK : Fk P w K mg base 1 "_law_take" t td ["_law_bag_here", "_law_many"] spTake) (NM : Fk P w K mg base 2 "_law_names" n nd ["_law_bag_here", "_law_many"] spNames) (RW : Fk P w K mg base 16 "_law_rows" r rd ["_law_bag_here", "_law_state", "_law_nested"] (spRows 3)) (T : Bi mg) (mt : mg "tuple" = none) :
    FnOk P w K mg base CX0 17 f fd ["_law_bag_here", "_law_most"] spWorks := by
  refine F.ok scWorks (fun vs H Q E h => ?_) (fun cdv A outer s H vs Q E hr h => ?_)
  · obtain ⟨b, M, k, rfl, _⟩ := h
    rfl
  obtain ⟨b, M, k, rfl, m1, m12, hB, q⟩ := h
  refine ⟨_, (pss_cons (ps_set (i := 2) scWorks.nd rfl (Or.inl rfl) (pe_call NM.G (hr.mono (by omega)) (by rfl) NM.m NM.k NM.b .nil pass0 (pa_cons (pv 0) (pa_cons (pe_op op_add pe_int (pe_call TK.G (hr.mono (by omega)) (by rfl) TK.m TK.k TK.b .nil pass0 (pa_cons (pv 0) (pa_cons (pv 1) pa_nil)))) pa_nil))))
    (pss_cons (ps_set (i := 3) scWorks.nd rfl (Or.inl rfl) (pe_call NM.G (hr.mono (by omega)) (by rfl) NM.m NM.k NM.b .nil pass0 (pa_cons (pv 0) (pa_cons pe_int pa_nil))))
    (pss_cons (ps_setLc (i := 4) (own := [("_law_title", 6)]) (g := gName 6) (tt := tYes) (by rfl) scWorks.nd rfl rfl (sw_true rfl rfl rfl (by decide +kernel)) (pi_list (pv 2)) (blkOk_by (own := [("_law_title", 6)]) (N := ["_law_bag_here", "_law_most", "_law_titles", "_law_names_here", "_law_some", "_law_found", "_law_title", "_law_many", "_law_at", "_law_handed", "_law_room", "_law_rows_here"]) (sc := defScope sWorks) (by decide +kernel)) (fun _ _ _ _ _ => pg_name (i := 6) scWorks.nd rfl (Or.inl rfl)) (fun _ _ _ _ _ => pts_nil) (fun _ _ _ _ _ => (pe_tup (pa_cons (pv 6) (pa_cons (pe_call TK.G (hr.mono (by omega)) (by rfl) TK.m TK.k TK.b .nil pass0 (pa_cons (pv 0) (pa_cons pe_int pa_nil))) pa_nil)))))
    (pss_cons (ps_set (i := 5) scWorks.nd rfl (Or.inl rfl) (pe_lst pa_nil))
    (pss_cons (ps_for PassesOwn.never rfl (pi_list (pv 4)) (pg_tup rfl (pgs_cons (pg_name (i := 6) scWorks.nd rfl (.inl rfl)) (pgs_cons (pg_name (i := 7) scWorks.nd rfl (.inl rfl)) pgs_nil)))
      (pss_cons (ps_set (i := 8) scWorks.nd rfl (Or.inl rfl) (pe_call TK.G (hr.mono (by omega)) (by rfl) TK.m TK.k TK.b .nil pass0 (pa_cons (pv 0) (pa_cons pe_int pa_nil))))
    (pss_cons (ps_set (i := 9) scWorks.nd rfl (Or.inl rfl) (pe_callTy call_tuple_of (by rfl) mt (by decide +kernel) (pa_cons (pe_slice sl_list (pe_op op_cat (pe_slice sl_list (pv 3) (po_some (pv 8)) po_none) (pe_slice sl_list (pv 3) po_none (po_some (pv 8)))) po_none (po_some (pv 7))) pa_nil)))
    (pss_cons (ps_set (i := 10) scWorks.nd rfl (Or.inl rfl) (pe_ix ix_list (pe_lst (pa_cons pe_int (pa_cons pe_int (pa_cons (pe_call TK.G (hr.mono (by omega)) (by rfl) TK.m TK.k TK.b .nil pass0 (pa_cons (pv 0) (pa_cons pe_int pa_nil))) (pa_cons (pe_call TK.G (hr.mono (by omega)) (by rfl) TK.m TK.k TK.b .nil pass0 (pa_cons (pv 0) (pa_cons pe_int pa_nil))) pa_nil))))) (pe_call TK.G (hr.mono (by omega)) (by rfl) TK.m TK.k TK.b .nil pass0 (pa_cons (pv 0) (pa_cons pe_int pa_nil))) (fun _ _ => rfl)))
    (pss_cons (ps_set (i := 11) scWorks.nd rfl (Or.inl rfl) (pe_call RW.G hr (by rfl) RW.m RW.k RW.b .nil pass0 (pa_cons (pv 0) (pa_cons (pe_disp (pps_cons pe_str (pv 3) (pps_cons pe_str (pv 4) (pps_cons pe_str pe_int pps_nil))) (by rfl) (by rfl) (fun z => by cases z) (by decide)) (pa_cons pe_int pa_nil)))))
    (pss_one (ps_expr (pe_bm PySem.F.plainAttrs_list PySem.F.slot_list_append PySem.F.type_list_append mt_append (pv 5) (pa_cons (pe_tup (pa_cons pe_str (pa_cons (pv 6) (pa_cons (pv 9) (pa_cons (pv 10) (pa_cons (pv 11) pa_nil)))))) pa_nil)))))))))
    (pss_one (ps_ret (pv 5)))))))), ?_⟩
  have hs : sizeLine = 16777216 := by decide
  have rw3 : 1 + mm 3 * rcd 3 = 1118283 := by decide
  -- titles
  refine ⟨_, rfl, _, rfl, _, rfl, b, _, k + M * 1200000 + 999, rfl, by omega, by omega, hB.less (by omega), fun d1 H1 a1 a2 B1 U1 => ?_⟩
  have ed : ((1 + d1).toNat : Int) = 1 + d1 := Int.toNat_of_nonneg (by omega)
  refine ⟨_, _, rfl, rfl, b, (1 + d1).toNat, k + M * 1200000 + 799, (by show [V.ref b, V.int (1 + d1)] = _; rw [ed]), by omega, B1.less (by omega), fun pt tl H2 npt hpt ltl okt B2 U2 => ?_⟩
  have ntb : pt ≠ b := fun z => by obtain ⟨ys, hy⟩ := B1.lst; rw [z, hy] at npt; cases npt
  -- names
  refine ⟨_, rfl, b, 5, k + M * 1200000 + 700, rfl, by decide, B2.less (by omega), fun pn nm H3 npn hpn lnm okn B3 U3 => ?_⟩
  have nnb : pn ≠ b := fun z => by obtain ⟨ys, hy⟩ := B2.lst; rw [z, hy] at npn; cases npn
  have hpt3 := U3 _ _ ntb hpt
  -- some
  refine ⟨_, rfl, pt, rfl, ⟨_, SqL.of hpt3⟩, ?_⟩
  intro D hD
  have nDb : D ≠ b := fun z => by obtain ⟨ys, hy⟩ := B3.lst; rw [z, hy] at hD; cases hD
  refine lc_list (K := K) (a := pt) (xs := tl.map V.str) (fun j H' => ∃ (ti : List (Str × Nat)) (vs : List V), H' D = some (.lst vs) ∧ TisIn H' ti vs ∧ ti.map Prod.fst = tl.take j ∧ (∀ x ∈ ti, x.2 ≤ 4) ∧ Bag H' b (k + M * 1200000 + 700 - j) ∧ But b H3 H') ?_ ?_ ?_ ?_
  · exact ⟨[], [], upd_same, ⟨rfl, fun i v e => (by simp at e)⟩, rfl, fun x h => (by cases h), B3.same (same_new hD _), But.new hD _⟩
  · rintro j H' _ ⟨_, _, _, _, _, _, _, U⟩
    exact SqL.of (U _ _ ntb hpt3)
  · rintro j x H4 hx ⟨ti, vs, hD4, tin, etl, h4, B4, U4⟩
    obtain ⟨z, hz, rfl⟩ : ∃ z, tl[j]? = some z ∧ V.str z = x := by
      rw [List.getElem?_map] at hx
      obtain ⟨x', h1, h2⟩ := Option.map_eq_some_iff.mp hx
      exact ⟨x', h1, h2⟩
    have hj : j < tl.length := (List.getElem?_eq_some_iff.mp hz).1
    have lti : ti.length = j := by
      have := congrArg List.length etl
      rw [List.length_map, List.length_take] at this
      omega
    refine ⟨rfl, ?_⟩
    refine ⟨_, rfl, _, rfl, b, 5, k + M * 1200000 + 699 - j, rfl, by decide, by decide, B4.less (by omega), fun d2 H5 b1 b2 B5 U5 => ?_⟩
    refine ⟨(by show 2 ≤ sizeLine; decide), fun p hp => ?_⟩
    have s6 := same_new hp (.tup [.str z, .int d2])
    have hD5 := U5 _ _ nDb hD4
    have e2 : ((d2.toNat : Nat) : Int) = d2 := Int.toNat_of_nonneg b1
    obtain ⟨ys4, hys4⟩ := B4.lst
    have kt : KeepT H4 (upd H5 p (.tup [.str z, .int d2])) := (KeepT.but hys4 U5).trans (.of s6)
    have hD6 := s6 _ _ hD5
    have k7 : KeepT (upd H5 p (.tup [.str z, .int d2])) (upd (upd H5 p (.tup [.str z, .int d2])) D (.lst (vs ++ [.ref p]))) := .upd hD6 (fun xs z => by cases z)
    have vl : vs.length = j := by rw [tin.1, lti]
    refine ⟨_, hD6, by omega, ti ++ [(z, d2.toNat)], vs ++ [.ref p], upd_same, ⟨by rw [List.length_append, List.length_append, tin.1]; rfl, fun i v e => ?_⟩, ?_, ?_, ?_, ?_⟩
    · by_cases hi : i < vs.length
      · rw [List.getElem?_append_left hi] at e
        obtain ⟨t', e1, p', e3, e4⟩ := tin.2 i v e
        refine ⟨t', ?_, p', e3, k7 _ _ (kt _ _ e4)⟩
        rw [List.getElem?_append_left (by rw [← tin.1]; exact hi)]
        exact e1
      · rw [List.getElem?_append_right (by omega)] at e
        have hi0 : i - vs.length = 0 := by
          rcases Nat.eq_zero_or_pos (i - vs.length) with z | z
          · exact z
          · rw [List.getElem?_eq_none (by show 1 ≤ _; omega)] at e
            cases e
        rw [hi0] at e
        cases e
        refine ⟨(z, d2.toNat), ?_, p, rfl, k7 _ _ ?_⟩
        · rw [List.getElem?_append_right (by rw [← tin.1]; omega), ← tin.1, hi0]
          rfl
        · show (upd H5 p (.tup [.str z, .int d2])) p = some (.tup [.str z, .int ((d2.toNat : Nat) : Int)])
          rw [e2]
          exact upd_same
    · rw [List.map_append, etl, List.take_add_one, hz]
      rfl
    · intro x hx'
      rcases List.mem_append.mp hx' with h | h
      · exact h4 x h
      · rw [List.mem_singleton.mp h]
        show d2.toNat ≤ 4
        omega
    · obtain ⟨x', y', z', e, rr⟩ := B5.same s6
      exact Bag.less ⟨x', y', z', by rw [upd_ne (Ne.symm nDb)]; exact e, rr⟩ (by omega)
    · intro a o na e
      rw [upd_ne (ne_of_none e hD)]
      exact s6 _ _ (U5 _ _ na (U4 _ _ na e))
  rintro H4 ⟨ti, tvs, hD4, tin, etl, h4, B4, U4⟩
  rw [List.length_map, List.take_length] at etl
  have hpn4 := U4 _ _ nnb hpn
  have lti : ti.length = tl.length := by rw [← etl, List.length_map]
  rw [List.length_map] at B4
  have tik : ∀ x ∈ ti, NmOk x.1 ∧ x.2 ≤ 4 := fun x hx => ⟨by
    have : x.1 ∈ tl := by rw [← etl]; exact List.mem_map_of_mem hx
    exact okt.each _ this, h4 x hx⟩
  have tnd : (ti.map Prod.fst).Nodup := by rw [etl]; exact okt.nd
  -- found
  refine ⟨Nat.zero_le _, fun l hl => ?_⟩
  have s5 := same_new hl (.lst [])
  have nlb : l ≠ b := fun z => by obtain ⟨ys, hy⟩ := B4.lst; rw [z, hy] at hl; cases hl
  have nlD : l ≠ D := fun z => by rw [z, hD4] at hl; cases hl
  have nlp : l ≠ pn := fun z => by rw [z, hpn4] at hl; cases hl
  refine ⟨_, rfl, D, rfl, ⟨_, SqL.of (s5 _ _ hD4)⟩, ?_⟩
  refine for_list (K := K) (a := D) (xs := tvs) (fun i σ H' => ∃ (us : List V) (Ws : List Wk) (y6 y7 y8 y9 y10 y11 : Option V), σ = [some (.ref b), some (.int (M : Nat)), some (.ref pt), some (.ref pn), some (.ref D), some (.ref l), y6, y7, y8, y9, y10, y11] ∧ H' l = some (.lst us) ∧ WksIn H' Ws us ∧ (∀ W ∈ Ws, W.ok ∧ ∀ st ∈ W.rows.starts, st ∈ ti) ∧ Ws.map (fun W => (W.name, W.names.length)) = ti.take i ∧
    Bag H' b (k + (M - i) * 1200000 + 600) ∧ But b H4 H') ?_ ?_ ?_ ?_
  · exact ⟨[], [], none, none, none, none, none, none, rfl, upd_same, ⟨rfl, fun i v e => (by simp at e)⟩, fun W h => (by cases h), rfl, (B4.same s5).less (by omega), .of s5⟩
  · rintro i σ H' _ ⟨_, _, _, _, _, _, _, _, _, _, _, _, _, _, U⟩
    exact SqL.of (U _ _ nDb hD4)
  · rintro i v σ H5 hv ⟨us, Ws, y6, y7, y8, y9, y10, y11, rfl, hl5, hW, hok, eti, B5, U5⟩
    obtain ⟨tt, htt, p, rfl, hp⟩ := tin.2 i v hv
    have hi : i < ti.length := (List.getElem?_eq_some_iff.mp htt).1
    have hiM : i < M := by omega
    have tm := tik tt (List.mem_of_getElem? htt)
    obtain ⟨ys4, hys4⟩ := B4.lst
    obtain ⟨ys5, hys5⟩ := B5.lst
    have kt45 : KeepT H4 H5 := .but hys4 U5
    have eB : k + (M - i) * 1200000 + 600 = k + (M - (i + 1)) * 1200000 + 600 + 1200000 := by
      rw [show M - i = (M - (i + 1)) + 1 by omega, Nat.succ_mul]
      omega
    rw [eB] at B5
    generalize hKK : k + (M - (i + 1)) * 1200000 + 600 = KK at B5
    refine ⟨p, _, rfl, SqT.of (kt45 _ _ hp), rfl, _, _, rfl, _, _, rfl, rfl, ?_⟩
    have hpn5 := U5 _ _ nnb hpn4
    -- at, handed
    refine ⟨_, rfl, b, 5, KK + 1190000, rfl, by decide, by decide, B5.less (by omega), fun at1 H6 a1' a2' B6 U6 => ?_⟩
    have ea : ((at1.toNat : Nat) : Int) = at1 := Int.toNat_of_nonneg a1'
    have hpn6 := U6 _ _ nnb hpn5
    have lnm' : (nm.map V.str).length = 5 := by rw [List.length_map, lnm]
    refine ⟨_, rfl, _, rfl, at1, rfl, pn, _, rfl, SqL.of hpn6, fun c1 hc1 => ?_⟩
    have ec1 : cutV (nm.map V.str) (some at1) none = (nm.drop at1.toNat).map V.str := by
      have := cutV_from (xs := nm.map V.str) (n := at1.toNat) (by rw [lnm']; omega)
      rw [ea] at this
      rw [this, List.map_drop]
    rw [ec1]
    have s7 := same_new hc1 (.lst ((nm.drop at1.toNat).map V.str))
    have h7 : (upd H6 c1 (.lst ((nm.drop at1.toNat).map V.str))) c1 = some (.lst ((nm.drop at1.toNat).map V.str)) := upd_same
    generalize upd H6 c1 (.lst ((nm.drop at1.toNat).map V.str)) = H7 at s7 h7
    refine ⟨_, rfl, _, rfl, at1, rfl, pn, _, rfl, SqL.of (s7 _ _ hpn6), fun c2 hc2 => ?_⟩
    have ec2 : cutV (nm.map V.str) none (some at1) = (nm.take at1.toNat).map V.str := by
      have := cutV_to (xs := nm.map V.str) (n := at1.toNat) (by rw [lnm']; omega)
      rw [ea] at this
      rw [this, List.map_take]
    rw [ec2]
    have s8 := same_new hc2 (.lst ((nm.take at1.toNat).map V.str))
    have h8 : (upd H7 c2 (.lst ((nm.take at1.toNat).map V.str))) c2 = some (.lst ((nm.take at1.toNat).map V.str)) := upd_same
    generalize upd H7 c2 (.lst ((nm.take at1.toNat).map V.str)) = H8 at s8 h8
    refine ⟨c1, c2, _, _, rfl, rfl, s8 _ _ h7, h8, ?_, fun c3 hc3 => ?_⟩
    · rw [List.length_map, List.length_map, List.length_drop, List.length_take]; omega
    rw [← List.map_append]
    have s9 := same_new hc3 (.lst ((nm.drop at1.toNat ++ nm.take at1.toNat).map V.str))
    have h9 : (upd H8 c3 (.lst ((nm.drop at1.toNat ++ nm.take at1.toNat).map V.str))) c3 = some (.lst ((nm.drop at1.toNat ++ nm.take at1.toNat).map V.str)) := upd_same
    generalize upd H8 c3 (.lst ((nm.drop at1.toNat ++ nm.take at1.toNat).map V.str)) = H9 at s9 h9
    have l5 : (nm.drop at1.toNat ++ nm.take at1.toNat).length = 5 := by rw [List.length_append, List.length_drop, List.length_take]; omega
    refine ⟨_, rfl, _, rfl, c3, _, rfl, SqL.of h9, fun c4 hc4 => ?_⟩
    have ec4 : cutV ((nm.drop at1.toNat ++ nm.take at1.toNat).map V.str) none (some ((tt.2 : Nat) : Int)) = (rot nm at1.toNat tt.2).map V.str := by
      rw [cutV_to (by rw [List.length_map, l5]; omega)]
      unfold rot
      rw [List.map_take]
    rw [ec4]
    have s10 := same_new hc4 (.lst ((rot nm at1.toNat tt.2).map V.str))
    refine ⟨c4, _, rfl, .inl ⟨SqL.of upd_same, fun pH hpH => ?_⟩⟩
    have s11 := same_new hpH (.tup ((rot nm at1.toNat tt.2).map V.str))
    have hH : (upd (upd H9 c4 (.lst ((rot nm at1.toNat tt.2).map V.str))) pH (.tup ((rot nm at1.toNat tt.2).map V.str))) pH = some (.tup ((rot nm at1.toNat tt.2).map V.str)) := upd_same
    have sA := s7.trans (s8.trans (s9.trans (s10.trans s11)))
    generalize upd (upd H9 c4 (.lst ((rot nm at1.toNat tt.2).map V.str))) pH (.tup ((rot nm at1.toNat tt.2).map V.str)) = HA at sA hH
    have BA := B6.same sA
    have UA : But b H5 HA := U6.trans (.of sA)
    obtain ⟨ysA, hysA⟩ := BA.lst
    -- room
    refine ⟨_, rfl, b, 10, KK + 1180000, rfl, by decide, by decide, BA.less (by omega), fun r1 HB c1' c2' BB UB => ?_⟩
    refine ⟨_, rfl, b, 1001, KK + 1170000, rfl, by decide, by decide, BB.less (by omega), fun r2 HC c3' c4' BC UC => ?_⟩
    refine ⟨(by show 4 ≤ sizeLine; decide), fun pl hpl => ?_⟩
    have sD := same_new hpl (.lst [.int 0, .int 1, .int r1, .int r2])
    have nplb : pl ≠ b := fun z => by obtain ⟨ys, hy⟩ := BC.lst; rw [z, hy] at hpl; cases hpl
    refine ⟨_, rfl, b, 4, KK + 1160000, rfl, by decide, by decide, (BC.same sD).less (by omega), fun r3 HE c5' c6' BE UE => ?_⟩
    have hpl' : HE pl = some (.lst [.int 0, .int 1, .int r1, .int r2]) := UE _ _ nplb upd_same
    have mr : ∃ room : Int, atI [V.int 0, V.int 1, V.int r1, V.int r2] r3 = some (.int room) ∧ 0 ≤ room ∧ room ≤ 1000 := by
      rcases (show r3 = 0 ∨ r3 = 1 ∨ r3 = 2 ∨ r3 = 3 by omega) with rfl | rfl | rfl | rfl
      · exact ⟨0, atI_nat (j := 0) rfl, by decide, by decide⟩
      · exact ⟨1, atI_nat (j := 1) rfl, by decide, by decide⟩
      · exact ⟨r1, atI_nat (j := 2) rfl, c1', by omega⟩
      · exact ⟨r2, atI_nat (j := 3) rfl, c3', by omega⟩
    obtain ⟨room, er, room0, room1⟩ := mr
    refine ⟨pl, _, _, _, rfl, rfl, SqL.of hpl', er, ?_⟩
    have UAE : But b HA HE := UB.trans (UC.trans ((But.of sD).trans UE))
    have U5E : But b H5 HE := UA.trans UAE
    have hpnE := U5E _ _ nnb hpn5
    have hDE := U5E _ _ nDb (U5 _ _ nDb hD4)
    have kt5E : KeepT H5 HE := .but hys5 U5E
    -- rows
    refine ⟨_, rfl, ?_⟩
    refine fun sd hsd => ?_
    have sE := same_new hsd (.dK [])
    refine ⟨_, rfl, _, rfl, upd_same, stK pn D 40, rfl, by show 3 ≤ 15; decide, ?_⟩
    have eM : mergeK [] (stK pn D 40) = stK pn D 40 := by
      unfold mergeK stK
      simp [putK, k_nl, k_tl, k_nt]
    have eU : upd (upd HE sd (.dK [])) sd (.dK (mergeK [] (stK pn D 40))) = upd HE sd (.dK (stK pn D 40)) := by
      rw [eM]
      funext a
      by_cases ha : a = sd
      · subst ha; rw [upd_same, upd_same]
      · rw [upd_ne ha, upd_ne ha, upd_ne ha]
    rw [eU]
    have sF := same_new hsd (.dK (stK pn D 40))
    have stF : StL (upd HE sd (.dK (stK pn D 40))) sd pn D 40 := upd_same
    generalize upd HE sd (.dK (stK pn D 40)) = HF at sF stF
    have rcF : RC HF b sd pn D nm ti := ⟨sF _ _ hpnE, ⟨tvs, sF _ _ hDE, tin.1, fun i v e => by
      obtain ⟨t', e1, p', e3, e4⟩ := tin.2 i v e
      exact ⟨t', e1, p', e3, sF _ _ (kt5E _ _ (kt45 _ _ e4))⟩⟩, nnb, nDb, by omega, by omega, fun s h => okn.each s h, by omega, by omega, tik⟩
    refine ⟨b, sd, pn, D, nm, ti, 40, KK, rfl, by decide, rcF, stF, (BE.same sF).less (by rw [rw3]; omega), fun pr xs rs HG hpr hR okR cR stR stG BG UG => ?_⟩
    obtain ⟨ysF, hysF⟩ := (BE.same sF).lst
    have ktFG : KeepT HF HG := .but2 hysF stF UG
    have UEG : But b HE HG := fun a o na e => UG a o na (ne_of_none e hsd) (sF _ _ e)
    have UAG : But b HA HG := UAE.trans UEG
    have U5G : But b H5 HG := U5E.trans UEG
    have hl' : HG l = some (.lst us) := U5G _ _ nlb hl5
    refine ⟨_, rfl, .inl ⟨rfl, _, SqL.of hl'⟩, ?_⟩
    refine ⟨_, rfl, _, rfl, _, rfl, _, rfl, (by show 5 ≤ sizeLine; decide), fun pw hpw => ?_⟩
    have sH := same_new hpw (.tup [.str "work", .str tt.1, .ref pH, .int room, .ref pr])
    have hlH := sH _ _ hl'
    have lW : Ws.length = i := by
      have := congrArg List.length eti
      rw [List.length_map, List.length_take] at this
      omega
    refine ⟨l, _, _, rfl, rfl, hlH, by rw [hW.1]; omega, ?_⟩
    have kI : KeepT (upd HG pw (.tup [.str "work", .str tt.1, .ref pH, .int room, .ref pr])) (upd (upd HG pw (.tup [.str "work", .str tt.1, .ref pH, .int room, .ref pr])) l (.lst (us ++ [.ref pw]))) := .upd hlH (fun xs z => by cases z)
    have ktAG : KeepT HA HG := .but hysA UAG
    have kt5G : KeepT H5 HG := .but hys5 U5G
    have W1 : WkIn (upd (upd HG pw (.tup [.str "work", .str tt.1, .ref pH, .int room, .ref pr])) l (.lst (us ++ [.ref pw]))) ⟨tt.1, rot nm at1.toNat tt.2, room, rs⟩ (.ref pw) :=
      ⟨pw, pH, pr, xs, rfl, kI _ _ upd_same, kI _ _ (sH _ _ (ktAG _ _ hH)), kI _ _ (sH _ _ hpr), (hR.same sH).keep kI⟩
    have rl : (rot nm at1.toNat tt.2).length = tt.2 := rot_len (by omega) (by omega)
    have W1ok : Wk.ok ⟨tt.1, rot nm at1.toNat tt.2, room, rs⟩ := ⟨tm.1, by rw [rl]; omega, fun s h => okn.each s (rot_mem h), rot_nd okn.nd, room0, room1, okR, cR⟩
    refine ⟨us ++ [.ref pw], Ws ++ [⟨tt.1, rot nm at1.toNat tt.2, room, rs⟩], _, _, _, _, _, _, rfl, upd_same, ⟨by rw [List.length_append, List.length_append, hW.1]; rfl, fun j v e => ?_⟩, ?_, ?_, ?_, ?_⟩
    · by_cases hj : j < us.length
      · rw [List.getElem?_append_left hj] at e
        obtain ⟨W, e1, e2⟩ := hW.2 j v e
        refine ⟨W, ?_, ((e2.keep kt5G).same sH).keep kI⟩
        rw [List.getElem?_append_left (by rw [← hW.1]; exact hj)]
        exact e1
      · rw [List.getElem?_append_right (by omega)] at e
        have hi0 : j - us.length = 0 := by
          rcases Nat.eq_zero_or_pos (j - us.length) with z | z
          · exact z
          · rw [List.getElem?_eq_none (by show 1 ≤ _; omega)] at e
            cases e
        rw [hi0] at e
        cases e
        refine ⟨_, ?_, W1⟩
        rw [List.getElem?_append_right (by rw [← hW.1]; omega), ← hW.1, hi0]
        rfl
    · intro W hW'
      rcases List.mem_append.mp hW' with h | h
      · exact hok W h
      · rw [List.mem_singleton.mp h]
        exact ⟨W1ok, stR⟩
    · rw [List.map_append, eti, List.take_add_one, htt]
      show ti.take i ++ [(tt.1, (rot nm at1.toNat tt.2).length)] = _
      rw [rl]
      rfl
    · obtain ⟨x', y', z', e, rr⟩ := BG.same sH
      exact ⟨x', y', z', by rw [upd_ne (Ne.symm nlb)]; exact e, rr⟩
    · intro a o na e
      have hal : a ≠ l := ne_of_none e hl
      rw [upd_ne hal]
      exact sH _ _ (U5G _ _ na (U5 _ _ na e))
  · rintro σ H5 ⟨us, Ws, y6, y7, y8, y9, y10, y11, rfl, hl5, hW, hok, eti, B5, U5⟩
    have eall : ti.take tvs.length = ti := List.take_of_length_le (by rw [tin.1]; exact Nat.le_refl _)
    rw [eall] at eti
    have lW : Ws.length = ti.length := by rw [← eti, List.length_map]
    have nmW : Ws.map Wk.name = ti.map Prod.fst := by rw [← eti, List.map_map]; rfl
    refine ⟨_, rfl, q l us Ws H5 ?_ hl5 hW ⟨by omega, fun W h => (hok W h).1, by rw [nmW]; exact tnd, fun W h st hst => ?_⟩ (by omega) (by omega) (B5.less (by omega)) (U1.trans (U2.trans (U3.trans (U4.trans U5))))⟩
    · cases z : H l with
      | none => rfl
      | some o =>
        have := U4 _ _ nlb (U3 _ _ nlb (U2 _ _ nlb (U1 _ _ nlb z)))
        rw [this] at hl
        cases hl
    · have hm := (hok W h).2 st hst
      rw [← eti] at hm
      obtain ⟨W', hW', e⟩ := List.mem_map.mp hm
      exact ⟨W', hW', by rw [← e], by rw [← e]⟩
end
end SH

set_option Elab.async false
set_option linter.all false
set_option maxRecDepth 100000
namespace SH
open PySem L2
/-! ### texts -/
theorem app_as (a b c : Str) : a ++ b ++ c = a ++ (b ++ c) := codes_inj (by rw [codes_app, codes_app, codes_app, codes_app, List.append_assoc])
theorem app_emp (a : Str) : a ++ ("" : Str) = a := codes_inj (by
  rw [codes_app]
  have : codes ("" : Str) = [] := by decide +kernel
  rw [this, List.append_nil])
/-- so many times two blanks -/
def ind : Nat → Str
  | 0 => ""
  | n + 1 => ind n ++ "  "
theorem ind_mul : ∀ n : Fin 41, PySem.Txt.mul "  " (n.val : Int) = ind n.val := by decide +kernel
theorem ind_ok : ∀ n : Fin 41, MulOk "  " (n.val : Int) := by
  unfold MulOk
  decide +kernel
theorem ind_len : ∀ n : Nat, (ind n).length = 2 * n
  | 0 => by decide +kernel
  | n + 1 => by
    show (ind n ++ "  ").length = _
    have : ("  " : Str).length = 2 := by decide +kernel
    rw [app_len, ind_len n, this]
    omega
theorem op_mulS {X : Cx} : OpR X (binaryOp .Mult) (fun x y H Q => ∃ n : Nat, x = .str "  " ∧ y = .int (n : Int) ∧ n ≤ 40 ∧ Q (.str (ind n)) H) := by
  intro pins s σ H x y v u Q I rx ry h
  obtain ⟨n, rfl, rfl, h40, q⟩ := h
  obtain ⟨t, rfl⟩ := (show ∃ t, v = Value.str "  " t from rx)
  obtain ⟨t', rfl⟩ := (show ∃ t, u = Value.int n t from ry)
  refine SB.mul (ind_ok ⟨n, by omega⟩) fun tk k => ?_
  rw [ind_mul ⟨n, by omega⟩]
  exact ⟨.str (ind n), H, I.tok k, ⟨tk, rfl⟩, q⟩
def lenF : Nat → Nat
  | 0 => 40
  | n + 1 => 2 * lenF n + 10
theorem lenF_6 : lenF 6 = 3190 := by decide
theorem num_len {i : Int} (h : i < 1000000 ^ 5) (h0 : 0 ≤ i) : (PySem.Str.ofString (toString i)).length ≤ 31 := by
  have e : (1000000 : Int) ^ 5 = 10 ^ 30 := by decide
  rw [e] at h
  exact Nat.le_succ_of_le (PyProof.Rows.toString_length_le h0 (by decide) h)
theorem Ex.lenf : ∀ (n : Nat) (e : Ex), Ex.fine n e → e.txt.length ≤ lenF n
  | 0, _, h => h.elim
  | n + 1, .num i, h => by
    have q := num_len h.2 h.1
    show (PySem.Str.ofString (toString i)).length ≤ 2 * lenF n + 10
    have : 40 ≤ lenF n := by
      cases n with
      | zero => exact Nat.le_refl _
      | succ m => show 40 ≤ 2 * lenF m + 10; exact lenF_ge m
    omega
  | n + 1, .nam s, h => by
    show s.length ≤ 2 * lenF n + 10
    have q := h.1.2.1
    rw [codes_len] at q
    omega
  | n + 1, .op g l r, h => by
    have h1 := Ex.lenf n l h.1
    have h2 := Ex.lenf n r h.2
    have q1 := br_len (lB g l) l.txt
    have q2 := br_len (rB g r) r.txt
    have q3 := g.len
    have hb : (" " : Str).length = 1 := by decide +kernel
    show (br (lB g l) l.txt ++ (" " : Str) ++ g.txt ++ (" " : Str) ++ br (rB g r) r.txt).length ≤ 2 * lenF n + 10
    rw [app_len, app_len, app_len, app_len]
    omega
where
  lenF_ge : ∀ m : Nat, 40 ≤ 2 * lenF m + 10
    | 0 => by decide
    | m + 1 => by
      have := lenF_ge m
      show 40 ≤ 2 * (2 * lenF m + 10) + 10
      omega
theorem Ex.len6 {e : Ex} (h : Ex.fine 6 e) : e.txt.length ≤ 3190 := by
  have := Ex.lenf 6 e h
  rwa [lenF_6] at this
theorem sum_le {B : Nat} : ∀ {l : List Str}, (∀ y ∈ l, y.length ≤ B) → (l.map (·.length)).sum ≤ l.length * B
  | [], _ => Nat.zero_le _
  | a :: r, h => by
    have h1 := h a List.mem_cons_self
    have h2 := sum_le (l := r) fun y hy => h y (List.mem_cons_of_mem _ hy)
    show a.length + (r.map (·.length)).sum ≤ (r.length + 1) * B
    rw [Nat.succ_mul]
    omega
theorem join_len (a : Str) : ∀ l : List Str, (PySem.Txt.join a l).length ≤ (l.map (·.length)).sum + l.length * a.length := by
  have step : ∀ l : List Str, (PySem.Str.join a l).length ≤ (l.map (·.length)).sum + l.length * a.length := by
    intro l
    induction l with
    | nil => exact Nat.zero_le _
    | cons x r ih =>
      cases r with
      | nil =>
        show x.length ≤ x.length + 0 + 1 * a.length
        omega
      | cons y t =>
        show (x ++ a ++ PySem.Str.join a (y :: t)).length ≤ x.length + ((y :: t).map (·.length)).sum + ((y :: t).length + 1) * a.length
        rw [app_len, app_len, Nat.succ_mul]
        omega
  intro l
  show (Builtin.Str.glued a l).length ≤ _
  rw [StrLaws.glued_eq_join]
  exact step l
def goT (w : Bool) (x f : Str) (es : List Ex) : Str := goW w ++ " " ++ x ++ " " ++ f ++ "(" ++ PySem.Txt.join ", " (es.map Ex.txt) ++ ")"
def waitT (x y : Str) : Option Ex → Str
  | none => ("wait " : Str) ++ x ++ " " ++ y ++ ""
  | some e => ("wait " : Str) ++ x ++ " " ++ y ++ ((" else " : Str) ++ e.txt)
/-- the first row's text -/
def Rs.rowT : Rs → Str
  | .nil => ""
  | .put x e _ => x ++ " = " ++ e.txt
  | .go w x f es _ => goT w x f es
  | .wait x y oe _ => waitT x y oe
  | .iff _ _ _ _ => ""
  | .give w e _ => giveW w ++ " " ++ e.txt
def Rs.isNil : Rs → Bool
  | .nil => true
  | _ => false
def Rs.lines : Nat → Rs → List Str
  | _, .nil => []
  | n, .put x e t => (ind n ++ (x ++ " = " ++ e.txt)) :: Rs.lines n t
  | n, .go w x f es t => (ind n ++ goT w x f es) :: Rs.lines n t
  | n, .wait x y oe t => (ind n ++ waitT x y oe) :: Rs.lines n t
  | n, .iff e a b t => ((ind n ++ "if " ++ e.txt) :: (Rs.lines (n + 1) a ++ (if b.isNil = true then [] else (ind n ++ "else") :: Rs.lines (n + 1) b) ++ [ind n ++ "end"])) ++ Rs.lines n t
  | n, .give w e t => (ind n ++ (giveW w ++ " " ++ e.txt)) :: Rs.lines n t
/-- the first row's lines -/
def Rs.hdL (n : Nat) : Rs → List Str
  | .nil => []
  | .iff e a b _ => (ind n ++ "if " ++ e.txt) :: (Rs.lines (n + 1) a ++ (if b.isNil = true then [] else (ind n ++ "else") :: Rs.lines (n + 1) b) ++ [ind n ++ "end"])
  | r => [ind n ++ r.rowT]
theorem Rs.lines_eq (n : Nat) (r : Rs) : Rs.lines n r = r.hdL n ++ Rs.lines n r.tl := by cases r <;> rfl
theorem nm8 {s : Str} (h : NmOk s) : s.length ≤ 8 := by
  have := h.1.2.1
  rwa [codes_len] at this
theorem goT_len {w : Bool} {x f : Str} {es : List Ex} (hx : NmOk x) (hf : NmOk f) (h4 : es.length ≤ 4) (he : ∀ e ∈ es, Ex.fine 6 e) : (goT w x f es).length ≤ 12900 ∧ (PySem.Txt.join ", " (es.map Ex.txt)).length ≤ 12780 ∧ ((es.map Ex.txt).map (·.length)).sum + (es.map Ex.txt).length * (", " : Str).length ≤ 12780 := by
  have a1 : (" " : Str).length = 1 := by decide +kernel
  have a2 : ("(" : Str).length = 1 := by decide +kernel
  have a3 : (")" : Str).length = 1 := by decide +kernel
  have a4 : (", " : Str).length = 2 := by decide +kernel
  have a5 : (goW w).length ≤ 4 := by cases w <;> decide +kernel
  have h1 := nm8 hx
  have h2 := nm8 hf
  have hs : ((es.map Ex.txt).map (·.length)).sum ≤ (es.map Ex.txt).length * 3190 := sum_le fun y hy => by
    obtain ⟨e, he', rfl⟩ := List.mem_map.mp hy
    exact Ex.len6 (he e he')
  have hj := join_len ", " (es.map Ex.txt)
  have hl : (es.map Ex.txt).length = es.length := List.length_map _
  rw [a4, hl] at hj
  rw [hl] at hs
  have b1 : es.length * 3190 ≤ 4 * 3190 := Nat.mul_le_mul_right _ h4
  refine ⟨?_, by omega, by rw [a4, hl]; omega⟩
  unfold goT
  rw [app_len, app_len, app_len, app_len, app_len, app_len, app_len]
  omega
theorem waitT_len {x y : Str} {oe : Option Ex} (hx : NmOk x) (hy : NmOk y) (he : ∀ e, oe = some e → Ex.fine 6 e) : (waitT x y oe).length ≤ 3300 := by
  have a1 : (" " : Str).length = 1 := by decide +kernel
  have a2 : ("wait " : Str).length = 5 := by decide +kernel
  have a3 : ("" : Str).length = 0 := by decide +kernel
  have a4 : (" else " : Str).length = 6 := by decide +kernel
  have h1 := nm8 hx
  have h2 := nm8 hy
  cases oe with
  | none =>
    show (("wait " : Str) ++ x ++ " " ++ y ++ "").length ≤ 3300
    rw [app_len, app_len, app_len, app_len]
    omega
  | some e =>
    have := Ex.len6 (he e rfl)
    show (("wait " : Str) ++ x ++ " " ++ y ++ ((" else " : Str) ++ e.txt)).length ≤ 3300
    rw [app_len, app_len, app_len, app_len, app_len]
    omega
theorem rowT_len {n : Nat} {r : Rs} (h : Rs.ok n r) : r.rowT.length ≤ 12900 := by
  have a1 : (" " : Str).length = 1 := by decide +kernel
  have a2 : (" = " : Str).length = 3 := by decide +kernel
  cases r with
  | nil => show ("" : Str).length ≤ 12900; decide +kernel
  | put x e t =>
    have := Ex.len6 h.2.1
    have := nm8 h.1
    show (x ++ " = " ++ e.txt).length ≤ 12900
    rw [app_len, app_len]
    omega
  | go w x f es t => exact (goT_len h.1 h.2.1 h.2.2.1 h.2.2.2.1).1
  | wait x y oe t => exact Nat.le_trans (waitT_len h.1 h.2.1 h.2.2.1) (by decide)
  | iff e a b t => show ("" : Str).length ≤ 12900; decide +kernel
  | give w e t =>
    have := Ex.len6 h.1
    have a5 : (giveW w).length = 4 := by cases w <;> decide +kernel
    show (giveW w ++ " " ++ e.txt).length ≤ 12900
    rw [app_len, app_len]
    omega
theorem lines_ok : ∀ (n m : Nat) (r : Rs), Rs.ok m r → n + m ≤ 40 → (∀ y ∈ Rs.lines n r, y.length ≤ 13000) ∧ (Rs.lines n r).length ≤ 3 * r.count
  | n, m, .nil, _, _ => ⟨fun y h => (by cases h), Nat.le_refl _⟩
  | n, m, .put x e t, h, hn => by
    have ih := lines_ok n m t h.2.2 hn
    have hr : (x ++ " = " ++ e.txt).length ≤ 12900 := rowT_len (r := .put x e t) h
    refine ⟨fun y hy => ?_, ?_⟩
    · rcases List.mem_cons.mp hy with rfl | hy
      · rw [app_len, ind_len]; omega
      · exact ih.1 y hy
    · show (Rs.lines n t).length + 1 ≤ 3 * (1 + t.count); omega
  | n, m, .go w x f es t, h, hn => by
    have ih := lines_ok n m t h.2.2.2.2 hn
    have hr : (goT w x f es).length ≤ 12900 := rowT_len (r := .go w x f es t) h
    refine ⟨fun y hy => ?_, ?_⟩
    · rcases List.mem_cons.mp hy with rfl | hy
      · rw [app_len, ind_len]; omega
      · exact ih.1 y hy
    · show (Rs.lines n t).length + 1 ≤ 3 * (1 + t.count); omega
  | n, m, .wait x y' oe t, h, hn => by
    have ih := lines_ok n m t h.2.2.2 hn
    have hr : (waitT x y' oe).length ≤ 12900 := rowT_len (r := .wait x y' oe t) h
    refine ⟨fun y hy => ?_, ?_⟩
    · rcases List.mem_cons.mp hy with rfl | hy
      · rw [app_len, ind_len]; omega
      · exact ih.1 y hy
    · show (Rs.lines n t).length + 1 ≤ 3 * (1 + t.count); omega
  | n, m, .give w e t, h, hn => by
    have ih := lines_ok n m t h.2 hn
    have hr : (giveW w ++ " " ++ e.txt).length ≤ 12900 := rowT_len (r := .give w e t) h
    refine ⟨fun y hy => ?_, ?_⟩
    · rcases List.mem_cons.mp hy with rfl | hy
      · rw [app_len, ind_len]; omega
      · exact ih.1 y hy
    · show (Rs.lines n t).length + 1 ≤ 3 * (1 + t.count); omega
  | n, m, .iff e a b t, h, hn => by
    have ih := lines_ok n m t h.2.2.2.2 hn
    have h1 := h.1
    have ia := lines_ok (n + 1) (m - 1) a h.2.2.1 (by omega)
    have ib := lines_ok (n + 1) (m - 1) b h.2.2.2.1 (by omega)
    have he := Ex.len6 h.2.1
    have b1 : ("if " : Str).length = 3 := by decide +kernel
    have b2 : ("else" : Str).length = 4 := by decide +kernel
    have b3 : ("end" : Str).length = 3 := by decide +kernel
    refine ⟨fun y hy => ?_, ?_⟩
    · rcases List.mem_append.mp hy with hy | hy
      · rcases List.mem_cons.mp hy with rfl | hy
        · rw [app_len, app_len, ind_len]; omega
        · rcases List.mem_append.mp hy with hy | hy
          · rcases List.mem_append.mp hy with hy | hy
            · exact ia.1 y hy
            · split at hy
              · cases hy
              · rcases List.mem_cons.mp hy with rfl | hy
                · rw [app_len, ind_len]; omega
                · exact ib.1 y hy
          · rw [List.mem_singleton.mp hy, app_len, ind_len]; omega
      · exact ih.1 y hy
    · show (((ind n ++ "if " ++ e.txt) :: (Rs.lines (n + 1) a ++ (if b.isNil = true then [] else (ind n ++ "else") :: Rs.lines (n + 1) b) ++ [ind n ++ "end"])) ++ Rs.lines n t).length ≤ 3 * (1 + a.count + b.count + t.count)
      rw [List.length_append, List.length_cons, List.length_append, List.length_append, List.length_singleton]
      have : (if b.isNil = true then ([] : List Str) else (ind n ++ "else") :: Rs.lines (n + 1) b).length ≤ 3 * b.count + 1 := by
        split
        · exact Nat.zero_le _
        · rw [List.length_cons]; omega
      omega
def headT (n : Nat) (W : Wk) : Str := ind n ++ "work " ++ W.name ++ "(" ++ PySem.Txt.join ", " W.names ++ ") room " ++ (PySem.Str.ofString (toString W.room))
def Wk.txt (n : Nat) (W : Wk) : Str := PySem.Txt.join "\n" (headT n W :: Rs.lines (n + 1) W.rows)
theorem headT_len {n : Nat} {W : Wk} (h : W.ok) (hn : n ≤ 40) : (headT n W).length ≤ 300 ∧ (PySem.Txt.join ", " W.names).length ≤ 40 ∧ (W.names.map (·.length)).sum + W.names.length * (", " : Str).length ≤ 40 ∧ (PySem.Str.ofString (toString W.room)).length ≤ 31 := by
  have a1 : ("work " : Str).length = 5 := by decide +kernel
  have a2 : ("(" : Str).length = 1 := by decide +kernel
  have a3 : (") room " : Str).length = 7 := by decide +kernel
  have a4 : (", " : Str).length = 2 := by decide +kernel
  have h1 := nm8 h.name
  have hs : (W.names.map (·.length)).sum ≤ W.names.length * 8 := sum_le fun y hy => nm8 (h.names y hy)
  have hj := join_len ", " W.names
  have h4 := h.few
  have hrl : W.room < 1000000 ^ 5 := by
    have h2 := h.room1
    have e : (1000000 : Int) ^ 5 = 1000000000000000000000000000000 := by decide
    rw [e]
    omega
  have hr : (PySem.Str.ofString (toString W.room)).length ≤ 31 := num_len hrl h.room0
  rw [a4] at hj
  refine ⟨?_, by omega, by rw [a4]; omega, hr⟩
  unfold headT
  rw [app_len, app_len, app_len, app_len, app_len, app_len, ind_len]
  omega
theorem txt_sum {n : Nat} {W : Wk} (h : W.ok) (hn : n ≤ 30) : (((headT n W :: Rs.lines (n + 1) W.rows)).map (·.length)).sum + (headT n W :: Rs.lines (n + 1) W.rows).length * ("\n" : Str).length ≤ 1600000 ∧ (W.txt n).length ≤ 1600000 ∧ (Rs.lines (n + 1) W.rows).length ≤ 120 := by
  have a1 : ("\n" : Str).length = 1 := by decide +kernel
  have hl := lines_ok (n + 1) 3 W.rows h.rows (by omega)
  have hc := h.count
  have hh := (headT_len h (show n ≤ 40 by omega)).1
  have hs : ((headT n W :: Rs.lines (n + 1) W.rows).map (·.length)).sum ≤ (headT n W :: Rs.lines (n + 1) W.rows).length * 13000 := sum_le fun y hy => by
    rcases List.mem_cons.mp hy with rfl | hy
    · omega
    · exact hl.1 y hy
  have hj := join_len "\n" (headT n W :: Rs.lines (n + 1) W.rows)
  rw [List.length_cons] at hs
  have e : ((Rs.lines (n + 1) W.rows).length + 1) * 13000 ≤ 121 * 13000 := Nat.mul_le_mul_right _ (by omega)
  rw [a1, List.length_cons] at hj
  refine ⟨by rw [a1, List.length_cons]; omega, ?_, by omega⟩
  unfold Wk.txt
  omega
end SH

set_option Elab.async false
set_option linter.all false
set_option maxRecDepth 100000
namespace SH
open PySem L2
abbrev sShStart : Stmt := topS 16
abbrev sShWait : Stmt := topS 15
abbrev sShRow : Stmt := topS 14
abbrev sRowLn : Stmt := topS 12
abbrev sIfLn : Stmt := topS 13
abbrev sRowsLn : Stmt := topS 11
abbrev sShWork : Stmt := topS 10
theorem scShStart : FnScope ["row", "word", "name", "work_name", "expressions", "texts", "expression"] ["row"] (defScope sShStart) := ⟨rfl, rfl, rfl, by decide +kernel, rfl, by decide +kernel, by decide +kernel⟩
theorem scShWait : FnScope ["row", "word", "name", "waited", "otherwise", "text"] ["row"] (defScope sShWait) := ⟨rfl, rfl, rfl, by decide +kernel, rfl, by decide +kernel, by decide +kernel⟩
theorem scShRow : FnScope ["row", "word"] ["row"] (defScope sShRow) := ⟨rfl, rfl, rfl, by decide +kernel, rfl, by decide +kernel, by decide +kernel⟩
theorem scRowLn : FnScope ["row", "depth"] ["row", "depth"] (defScope sRowLn) := ⟨rfl, rfl, rfl, by decide +kernel, rfl, by decide +kernel, by decide +kernel⟩
theorem scIfLn : FnScope ["row", "depth", "word", "condition", "first", "second", "indent", "lines"] ["row", "depth"] (defScope sIfLn) := ⟨rfl, rfl, rfl, by decide +kernel, rfl, by decide +kernel, by decide +kernel⟩
theorem scRowsLn : FnScope ["rows", "depth", "lines", "row"] ["rows", "depth"] (defScope sRowsLn) := ⟨rfl, rfl, rfl, by decide +kernel, rfl, by decide +kernel, by decide +kernel⟩
theorem scShWork : FnScope ["work", "depth", "word", "name", "names", "room", "rows", "head"] ["work", "depth"] (defScope sShWork) := ⟨rfl, rfl, rfl, by decide +kernel, rfl, by decide +kernel, by decide +kernel⟩
def Rs.isGo : Rs → Bool
  | .go _ _ _ _ _ => true
  | _ => false
def Rs.isWait : Rs → Bool
  | .wait _ _ _ _ => true
  | _ => false
def spShStart : Sp := fun vs H Q _ => ∃ (v : V) (rs : Rs) (r : List V) (n : Nat), vs = [v] ∧ RsIn H rs (v :: r) ∧ Rs.ok n rs ∧ rs.isGo = true ∧ ∀ H', Same H H' → Q (.str rs.rowT) H'
def spShWait : Sp := fun vs H Q _ => ∃ (v : V) (rs : Rs) (r : List V) (n : Nat), vs = [v] ∧ RsIn H rs (v :: r) ∧ Rs.ok n rs ∧ rs.isWait = true ∧ ∀ H', Same H H' → Q (.str rs.rowT) H'
def spShRow : Sp := fun vs H Q _ => ∃ (v : V) (rs : Rs) (r : List V) (n : Nat), vs = [v] ∧ RsIn H rs (v :: r) ∧ Rs.ok n rs ∧ rs.isIf = false ∧ ∀ H', Same H H' → Q (.str rs.rowT) H'
def spRowLn (n : Nat) : Sp := fun vs H Q _ => ∃ (v : V) (rs : Rs) (r : List V) (dp : Nat), vs = [v, .int dp] ∧ RsIn H rs (v :: r) ∧ Rs.ok n rs ∧ rs.count ≤ 40 ∧ dp + n ≤ 30 ∧ ∀ (l : Addr) (H' : Hp), Same H H' → H l = none → H' l = some (.lst ((rs.hdL dp).map V.str)) → Q (.ref l) H'
def spIfLn (n : Nat) : Sp := fun vs H Q _ => ∃ (v : V) (rs : Rs) (r : List V) (dp : Nat), vs = [v, .int dp] ∧ RsIn H rs (v :: r) ∧ Rs.ok n rs ∧ rs.isIf = true ∧ rs.count ≤ 40 ∧ dp + n ≤ 30 ∧ ∀ (l : Addr) (H' : Hp), Same H H' → H l = none → H' l = some (.lst ((rs.hdL dp).map V.str)) → Q (.ref l) H'
def spRowsLn (n : Nat) : Sp := fun vs H Q _ => ∃ (p : Addr) (xs : List V) (rs : Rs) (dp : Nat), vs = [.ref p, .int dp] ∧ H p = some (.tup xs) ∧ RsIn H rs xs ∧ Rs.ok n rs ∧ rs.count ≤ 40 ∧ dp + n ≤ 30 ∧ ∀ (l : Addr) (H' : Hp), Same H H' → H l = none → H' l = some (.lst ((Rs.lines dp rs).map V.str)) → Q (.ref l) H'
def spShWork : Sp := fun vs H Q _ => ∃ (v : V) (W : Wk) (dp : Nat), vs = [v, .int dp] ∧ WkIn H W v ∧ W.ok ∧ dp ≤ 20 ∧ ∀ H', Same H H' → Q (.str (W.txt dp)) H'
theorem hdL_len {n m : Nat} {r : Rs} (h : Rs.ok m r) (hn : n + m ≤ 40) : (r.hdL n).length ≤ 3 * r.count := by
  have e := Rs.lines_eq n r
  have l1 := (lines_ok n m r h hn).2
  rw [e, List.length_append] at l1
  omega
theorem nil_iff {H : Hp} : ∀ {r : Rs} {xs : List V}, RsIn H r xs → (r.isNil = true ↔ xs = [])
  | .nil, _, h => by cases h; exact ⟨fun _ => rfl, fun _ => rfl⟩
  | .put _ _ _, _, ⟨a, v, r, e, _⟩ => by cases e; exact ⟨fun z => (by cases z), fun z => (by cases z)⟩
  | .go _ _ _ _ _, _, ⟨a, p, ws, r, e, _⟩ => by cases e; exact ⟨fun z => (by cases z), fun z => (by cases z)⟩
  | .wait _ _ _ _, _, ⟨a, v, r, e, _⟩ => by cases e; exact ⟨fun z => (by cases z), fun z => (by cases z)⟩
  | .iff _ _ _ _, _, ⟨a, v, p, xs, p', ys, r, e, _⟩ => by cases e; exact ⟨fun z => (by cases z), fun z => (by cases z)⟩
  | .give _ _ _, _, ⟨a, v, r, e, _⟩ => by cases e; exact ⟨fun z => (by cases z), fun z => (by cases z)⟩
section
variable {P : Program} {w : World} {K : PySem.W.Frag} {mg : Str → Option Value} {base : Heap}
theorem ok_shStart {f g : Addr} {fd gd : FuncData} (F : Fun K "show_start" "show_start" sShStart f fd) (SE : Fk P w K mg base 18 "show_expression" g gd ["tree"] (spShow 6)) : FnOk P w K mg base CX0 19 f fd ["row"] spShStart := by
  refine F.ok scShStart (fun vs H Q E h => ?_) (fun cdv A outer s H vs Q E hr h => ?_)
  · obtain ⟨v, rs, r, n, rfl, _⟩ := h
    rfl
  obtain ⟨v, rs, r, n, rfl, hR, hok, hg, q⟩ := h
  refine ⟨_, (pss_cons (ps_asg (pv 0) (pg_tup rfl (pgs_cons (pg_name (i := 1) scShStart.nd rfl (.inl rfl)) (pgs_cons (pg_name (i := 2) scShStart.nd rfl (.inl rfl)) (pgs_cons (pg_name (i := 3) scShStart.nd rfl (.inl rfl)) (pgs_cons (pg_name (i := 4) scShStart.nd rfl (.inl rfl)) pgs_nil))))))
    (pss_cons (ps_setLc (i := 5) (own := [("expression", 6)]) (g := gName 6) (tt := tYes) (by rfl) scShStart.nd rfl rfl (sw_true rfl rfl rfl (by decide +kernel)) (pi_tup (pv 4)) (blkOk_by (own := [("expression", 6)]) (N := ["row", "word", "name", "work_name", "expressions", "texts", "expression"]) (sc := defScope sShStart) (by decide +kernel)) (fun _ _ _ _ _ => pg_name (i := 6) scShStart.nd rfl (Or.inl rfl)) (fun _ _ _ _ _ => pts_nil) (fun _ _ _ _ _ => (pe_call SE.G (hr.mono (by omega)) (by rfl) SE.m SE.k SE.b .nil pass0 (pa_cons (pv 6) pa_nil))))
    (pss_one (ps_ret (pe_joined (.cons (pe_fmt (pv 1)) (.cons pe_str (.cons (pe_fmt (pv 2)) (.cons pe_str (.cons (pe_fmt (pv 3)) (.cons pe_str (.cons (pe_fmt (pe_join pe_str (pv 5))) (.cons pe_str .nil))))))))))))), ?_⟩
  have hs : sizeLine = 16777216 := by decide
  cases rs with
  | go wd x g es t =>
    obtain ⟨a, p, ws, r', e1, ha, hp, ts, _⟩ := hR
    cases e1
    obtain ⟨k1, k2, k3⟩ := goT_len (w := wd) hok.1 hok.2.1 hok.2.2.1 hok.2.2.2.1
    have h4 := hok.2.2.1
    have n1 := nm8 hok.1
    have n2 := nm8 hok.2.1
    have a1 : (" " : Str).length = 1 := by decide +kernel
    have a2 : ("(" : Str).length = 1 := by decide +kernel
    have a3 : (")" : Str).length = 1 := by decide +kernel
    have a5 : (goW wd).length ≤ 4 := by cases wd <;> decide +kernel
    refine ⟨_, rfl, a, _, rfl, SqT.of ha, rfl, _, _, rfl, _, _, rfl, _, _, rfl, _, _, rfl, rfl, ?_⟩
    refine ⟨_, rfl, p, rfl, ⟨_, SqT.of hp⟩, ?_⟩
    intro D hD
    refine lc_tup (K := K) (a := p) (xs := ws) (fun j H' => H' D = some (.lst (((es.take j).map Ex.txt).map V.str)) ∧ Same H H') ⟨upd_same, same_new hD _⟩ (fun j H' _ h => SqT.of (h.2 _ _ hp)) ?_ ?_
    · rintro j u H1 hu ⟨hD1, s1⟩
      obtain ⟨e, he, te⟩ := ts.get_ hu
      have hj : j < es.length := (List.getElem?_eq_some_iff.mp he).1
      refine ⟨rfl, ?_⟩
      refine ⟨_, rfl, u, e, rfl, te.same s1, Ex.fine_ok (hok.2.2.2.1 e (List.mem_of_getElem? he)), ?_⟩
      refine ⟨_, hD1, by rw [List.length_map, List.length_map, List.length_take]; omega, ?_, ?_⟩
      · rw [upd_same, List.take_add_one, he, List.map_append, List.map_append]
        rfl
      · intro x o z
        rw [upd_ne (ne_of_none z hD)]
        exact s1 _ _ z
    · rintro H1 ⟨hD1, s1⟩
      rw [ts.len, List.take_length] at hD1
      refine ⟨_, rfl, .inl ⟨_, rfl, by omega, _, rfl, ?_, _, rfl, ?_, ?_⟩⟩
      · rw [emp_app]; omega
      · rw [emp_app, app_len]; omega
      rw [emp_app]
      refine ⟨_, rfl, .inl ⟨_, rfl, by omega, _, rfl, by rw [app_len, app_len]; omega, _, rfl, by rw [app_len, app_len, app_len]; omega, ?_⟩⟩
      refine ⟨_, rfl, .inl ⟨_, rfl, by omega, _, rfl, by rw [app_len, app_len, app_len, app_len]; omega, _, rfl, by rw [app_len, app_len, app_len, app_len, app_len]; omega, ?_⟩⟩
      refine ⟨⟨_, rfl⟩, _, rfl, _, D, es.map Ex.txt, rfl, rfl, .inl (SqL.of hD1), by omega, .inl ⟨_, rfl, by omega, _, rfl, by rw [app_len, app_len, app_len, app_len, app_len, app_len]; omega, _, rfl, by rw [app_len, app_len, app_len, app_len, app_len, app_len, app_len]; omega, ?_⟩⟩
      exact q H1 s1
  | nil => cases hg
  | put _ _ _ => cases hg
  | wait _ _ _ _ => cases hg
  | iff _ _ _ _ => cases hg
  | give _ _ _ => cases hg
theorem ok_shWait {f g : Addr} {fd gd : FuncData} (F : Fun K "show_wait" "show_wait" sShWait f fd) (SE : Fk P w K mg base 18 "show_expression" g gd ["tree"] (spShow 6)) : FnOk P w K mg base CX0 19 f fd ["row"] spShWait := by
  refine F.ok scShWait (fun vs H Q E h => ?_) (fun cdv A outer s H vs Q E hr h => ?_)
  · obtain ⟨v, rs, r, n, rfl, _⟩ := h
    rfl
  obtain ⟨v, rs, r, n, rfl, hR, hok, hg, q⟩ := h
  refine ⟨_, (pss_cons (ps_asg (pv 0) (pg_tup rfl (pgs_cons (pg_name (i := 1) scShWait.nd rfl (.inl rfl)) (pgs_cons (pg_name (i := 2) scShWait.nd rfl (.inl rfl)) (pgs_cons (pg_name (i := 3) scShWait.nd rfl (.inl rfl)) (pgs_cons (pg_name (i := 4) scShWait.nd rfl (.inl rfl)) pgs_nil))))))
    (pss_cons (ps_set (i := 5) scShWait.nd rfl (Or.inl rfl) (pe_joined (.cons (pe_fmt (pv 1)) (.cons pe_str (.cons (pe_fmt (pv 2)) (.cons pe_str (.cons (pe_fmt (pv 3)) .nil)))))))
    (pss_one (ps_ret (pe_ifExp (pt_cmpR op_isN (pv 4) pe_non (nomark _)) (pv 5) (pe_joined (.cons (pe_fmt (pv 5)) (.cons pe_str (.cons (pe_fmt (pe_call SE.G (hr.mono (by omega)) (by rfl) SE.m SE.k SE.b .nil pass0 (pa_cons (pv 4) pa_nil))) .nil))))))))), ?_⟩
  have hs : sizeLine = 16777216 := by decide
  cases rs with
  | wait x y oe t =>
    obtain ⟨a, u, r', e1, ha, to, _⟩ := hR
    cases e1
    have n1 := nm8 hok.1
    have n2 := nm8 hok.2.1
    have a1 : (" " : Str).length = 1 := by decide +kernel
    have a2 : ("wait" : Str).length = 4 := by decide +kernel
    have a3 : (" else " : Str).length = 6 := by decide +kernel
    have aw : ("wait" : Str) ++ (" " : Str) = "wait " := by decide +kernel
    have a4 : ("wait " : Str).length = 5 := by decide +kernel
    refine ⟨_, rfl, a, _, rfl, SqT.of ha, rfl, _, _, rfl, _, _, rfl, _, _, rfl, _, _, rfl, rfl, ?_⟩
    refine ⟨_, rfl, .inl ⟨_, rfl, by omega, _, rfl, by rw [emp_app]; omega, _, rfl, by rw [emp_app, app_len]; omega, ?_⟩⟩
    rw [emp_app, aw]
    refine ⟨_, rfl, .inl ⟨_, rfl, by omega, _, rfl, by rw [app_len]; omega, _, rfl, by rw [app_len, app_len]; omega, ?_⟩⟩
    refine ⟨_, rfl, .inl ⟨_, rfl, by omega, _, rfl, by rw [app_len, app_len, app_len]; omega, ?_⟩⟩
    refine ⟨_, rfl, rfl, _, rfl, ?_⟩
    have q0 := q H (Same.refl H)
    cases oe with
    | none =>
      cases to
      rw [decide_eq_true rfl]
      refine iteT ⟨_, rfl, ?_⟩
      have e : Rs.rowT (.wait x y none t) = ("wait " : Str) ++ x ++ " " ++ y := app_emp _
      rw [e] at q0
      exact q0
    | some e =>
      have hne : ¬ u = V.non := fun z => by
        obtain ⟨a', xs', e', _⟩ := TrIn.tup to
        rw [z] at e'
        cases e'
      rw [decide_eq_false hne]
      have fe := hok.2.2.1 e rfl
      have le := Ex.len6 fe
      refine iteF ⟨_, rfl, .inl ⟨_, rfl, by rw [app_len, app_len, app_len]; omega, _, rfl, by rw [emp_app, app_len, app_len, app_len]; omega, _, rfl, by rw [emp_app, app_len, app_len, app_len, app_len]; omega, ?_⟩⟩
      rw [emp_app]
      refine ⟨_, rfl, u, e, rfl, to, Ex.fine_ok fe, .inl ⟨_, rfl, by omega, _, rfl, by rw [app_len, app_len, app_len, app_len, app_len]; omega, ?_⟩⟩
      have e2 : Rs.rowT (.wait x y (some e) t) = ("wait " : Str) ++ x ++ " " ++ y ++ " else " ++ e.txt := (app_as _ _ _).symm
      rw [e2] at q0
      exact q0
  | nil => cases hg
  | put _ _ _ => cases hg
  | go _ _ _ _ _ => cases hg
  | iff _ _ _ _ => cases hg
  | give _ _ _ => cases hg
theorem ok_shRow {f g i j : Addr} {fd gd idd jd : FuncData} (F : Fun K "show_row" "show_row" sShRow f fd) (SE : Fk P w K mg base 18 "show_expression" g gd ["tree"] (spShow 6)) (SS : Fk P w K mg base 19 "show_start" i idd ["row"] spShStart) (SW : Fk P w K mg base 19 "show_wait" j jd ["row"] spShWait) : FnOk P w K mg base CX0 20 f fd ["row"] spShRow := by
  refine F.ok scShRow (fun vs H Q E h => ?_) (fun cdv A outer s H vs Q E hr h => ?_)
  · obtain ⟨v, rs, r, n, rfl, _⟩ := h
    rfl
  obtain ⟨v, rs, r, n, rfl, hR, hok, hg, q⟩ := h
  refine ⟨_, (pss_cons (ps_set (i := 1) scShRow.nd rfl (Or.inl rfl) (pe_ix ix_tup (pv 0) pe_int (fun _ _ => rfl)))
    (pss_cons (ps_if (pt_cmpR op_eq (pv 1) pe_str (nomark _))
      (pss_one (ps_ret (pe_joined (.cons (pe_fmt (pe_ix ix_tup (pv 0) pe_int (fun _ _ => rfl))) (.cons pe_str (.cons (pe_fmt (pe_call SE.G (hr.mono (by omega)) (by rfl) SE.m SE.k SE.b .nil pass0 (pa_cons (pe_ix ix_tup (pv 0) pe_int (fun _ _ => rfl)) pa_nil))) .nil))))))
      pss_nil)
    (pss_cons (ps_if (pt_cmpR op_eq (pv 1) pe_str (nomark _))
      (pss_one (ps_ret (pe_call SW.G (hr.mono (by omega)) (by rfl) SW.m SW.k SW.b .nil pass0 (pa_cons (pv 0) pa_nil))))
      pss_nil)
    (pss_cons (ps_if (pt_cmpR op_in_seq (pv 1) (pe_tup (pa_cons pe_str (pa_cons pe_str pa_nil))) rfl)
      (pss_one (ps_ret (pe_call SS.G (hr.mono (by omega)) (by rfl) SS.m SS.k SS.b .nil pass0 (pa_cons (pv 0) pa_nil))))
      pss_nil)
    (pss_one (ps_ret (pe_joined (.cons (pe_fmt (pv 1)) (.cons pe_str (.cons (pe_fmt (pe_call SE.G (hr.mono (by omega)) (by rfl) SE.m SE.k SE.b .nil pass0 (pa_cons (pe_ix ix_tup (pv 0) pe_int (fun _ _ => rfl)) pa_nil))) .nil)))))))))), ?_⟩
  have hs : sizeLine = 16777216 := by decide
  have a1 : (" " : Str).length = 1 := by decide +kernel
  have a2 : (" = " : Str).length = 3 := by decide +kernel
  have hR0 := hR
  cases rs with
  | nil => cases hR
  | put x e t =>
    obtain ⟨a, u, r', e1, ha, te, _⟩ := hR
    cases e1
    have n1 := nm8 hok.1
    have le := Ex.len6 hok.2.1
    refine ⟨_, rfl, a, _, 0, _, rfl, rfl, SqT.of ha, atI_nat rfl, ?_⟩
    refine ⟨_, rfl, rfl, true, (by decide +kernel), ?_⟩
    refine ⟨_, rfl, a, _, 1, _, rfl, rfl, SqT.of ha, atI_nat (j := 1) rfl, .inl ⟨_, rfl, by omega, _, rfl, by rw [emp_app]; omega, _, rfl, by rw [emp_app, app_len]; omega, ?_⟩⟩
    rw [emp_app]
    refine ⟨_, rfl, a, _, 2, _, rfl, rfl, SqT.of ha, atI_nat (j := 2) rfl, u, e, rfl, te, Ex.fine_ok hok.2.1, .inl ⟨_, rfl, by omega, _, rfl, by rw [app_len, app_len]; omega, ?_⟩⟩
    exact q H (Same.refl H)
  | wait x y oe t =>
    obtain ⟨a, u, r', e1, ha, to, _⟩ := hR
    cases e1
    refine ⟨_, rfl, a, _, 0, _, rfl, rfl, SqT.of ha, atI_nat rfl, ?_⟩
    refine ⟨_, rfl, rfl, false, (by decide +kernel), ?_⟩
    refine ⟨_, rfl, rfl, true, (by decide +kernel), ?_⟩
    exact ⟨_, rfl, _, _, _, n, rfl, hR0, hok, rfl, q⟩
  | go wd x g es t =>
    obtain ⟨a, p, ws, r', e1, ha, hp, ts, _⟩ := hR
    cases e1
    refine ⟨_, rfl, a, _, 0, _, rfl, rfl, SqT.of ha, atI_nat rfl, ?_⟩
    refine ⟨_, rfl, rfl, false, (by cases wd <;> decide +kernel), ?_⟩
    refine ⟨_, rfl, rfl, false, (by cases wd <;> decide +kernel), ?_⟩
    refine ⟨_, rfl, (by show 2 ≤ sizeLine; decide), fun b hb => ?_⟩
    have s2 := same_new hb (.tup [.str "go", .str "call"])
    refine ⟨b, _, rfl, .inr (SqT.of upd_same), rfl, rfl, true, (by cases wd <;> decide +kernel), ?_⟩
    exact ⟨_, rfl, _, _, _, n, rfl, hR0.same s2, hok, rfl, fun H' s' => q H' (s2.trans s')⟩
  | iff e A B t => cases hg
  | give wd e t =>
    obtain ⟨a, u, r', e1, ha, te, _⟩ := hR
    cases e1
    have le := Ex.len6 hok.1
    have a5 : (giveW wd).length = 4 := by cases wd <;> decide +kernel
    refine ⟨_, rfl, a, _, 0, _, rfl, rfl, SqT.of ha, atI_nat rfl, ?_⟩
    refine ⟨_, rfl, rfl, false, (by cases wd <;> decide +kernel), ?_⟩
    refine ⟨_, rfl, rfl, false, (by cases wd <;> decide +kernel), ?_⟩
    refine ⟨_, rfl, (by show 2 ≤ sizeLine; decide), fun b hb => ?_⟩
    have s2 := same_new hb (.tup [.str "go", .str "call"])
    refine ⟨b, _, rfl, .inr (SqT.of upd_same), rfl, rfl, false, (by cases wd <;> decide +kernel), ?_⟩
    refine ⟨_, rfl, .inl ⟨_, rfl, by omega, _, rfl, by rw [emp_app]; omega, _, rfl, by rw [emp_app, app_len]; omega, ?_⟩⟩
    rw [emp_app]
    refine ⟨_, rfl, a, _, 1, _, rfl, rfl, SqT.of (s2 _ _ ha), atI_nat (j := 1) rfl, u, e, rfl, te.same s2, Ex.fine_ok hok.1, .inl ⟨_, rfl, by omega, _, rfl, by rw [app_len, app_len]; omega, ?_⟩⟩
    exact q _ s2
end
end SH

set_option Elab.async false
set_option linter.all false
set_option maxRecDepth 100000
namespace SH
open PySem L2
abbrev sBookStr : Stmt := inClass (topS 55) 5
theorem scBookStr : FnScope ["self", "work"] ["self"] (defScope sBookStr) := ⟨rfl, rfl, rfl, by decide +kernel, rfl, by decide +kernel, by decide +kernel⟩
def bookT (Ws : List Wk) : Str := PySem.Txt.join "\n" (Ws.map (Wk.txt 0))
def spBookStr (C : Addr) : Sp := fun vs H Q _ => ∃ (x : Addr) (Ws : List Wk), vs = [.ref x] ∧ BkIn H C x Ws ∧ WksOk Ws ∧ Ws.length ≤ 10 ∧ ∀ H', Same H H' → Q (.str (bookT Ws)) H'
theorem if_sp : ("if" : Str) ++ (" " : Str) = "if " := by decide +kernel
theorem work_sp : ("work" : Str) ++ (" " : Str) = "work " := by decide +kernel
section
variable {P : Program} {w : World} {K : PySem.W.Frag} {mg : Str → Option Value} {base : Heap}
theorem ok_rowLn {n : Nat} {f i j : Addr} {fd idd jd : FuncData} {tB : Tok} (F : Fun K "row_lines" "row_lines" sRowLn f fd) (IL : Fk P w K mg base (20 + 3 * n) "if_lines" i idd ["row", "depth"] (spIfLn n)) (SR : Fk P w K mg base 20 "show_row" j jd ["row"] spShRow) (gBl : mg "BLANKS" = some (.str "  " tB)) : FnOk P w K mg base CX0 (20 + 3 * n + 1) f fd ["row", "depth"] (spRowLn n) := by
  refine F.ok scRowLn (fun vs H Q E h => ?_) (fun cdv A outer s H vs Q E hr h => ?_)
  · obtain ⟨v, rs, r, dp, rfl, _⟩ := h
    rfl
  obtain ⟨v, rs, r, dp, rfl, hR, hok, hc, hdp, q⟩ := h
  refine ⟨_, (pss_cons (ps_if (pt_cmpR op_eq (pe_ix ix_tup (pv 0) pe_int (fun _ _ => rfl)) pe_str (nomark _))
      (pss_one (ps_ret (pe_call IL.G hr (by rfl) IL.m IL.k IL.b .nil pass0 (pa_cons (pv 0) (pa_cons (pv 1) pa_nil)))))
      pss_nil)
    (pss_one (ps_ret (pe_lst (pa_cons (pe_op op_add_str (pe_op op_mulS (pe_glob (v := .str "  ") rfl gBl ⟨_, rfl⟩) (pv 1)) (pe_call SR.G (hr.mono (by omega)) (by rfl) SR.m SR.k SR.b .nil pass0 (pa_cons (pv 0) pa_nil))) pa_nil))))), ?_⟩
  have hs : sizeLine = 16777216 := by decide
  have hl := rowT_len hok
  have hi := ind_len dp
  have plain : ∀ (z : Str) (us : List V) (a : Addr), v = .ref a → H a = some (.tup (.str z :: us)) → z ≠ "if" → rs.isIf = false → rs.hdL dp = [ind dp ++ rs.rowT] → ∃ (v' : V), (some v : Option V) = some v' ∧ (∃ p xs i u, v' = .ref p ∧ V.int 0 = .int i ∧ SqT K H p xs ∧ atI xs i = some u ∧ scal u (.str "if") = true ∧ u = .str z) := fun z us a e ha _ _ _ => ⟨v, rfl, a, _, 0, _, e, rfl, SqT.of ha, atI_nat (j := 0) rfl, rfl, rfl⟩
  have hR0 := hR
  have fin : ∀ (hif : rs.isIf = false) (hh : rs.hdL dp = [ind dp ++ rs.rowT]), ∃ v', [some v, some (V.int dp)][1]? = some (some v') ∧ True := fun _ _ => ⟨_, rfl, trivial⟩
  cases rs with
  | nil => cases hR
  | iff e A B t =>
    obtain ⟨a, u, p, xs, p', ys, r', e1, ha, _⟩ := hR
    cases e1
    refine ⟨_, rfl, a, _, 0, _, rfl, rfl, SqT.of ha, atI_nat rfl, rfl, true, (by decide +kernel), ?_⟩
    exact ⟨_, rfl, _, rfl, _, _, _, dp, rfl, hR0, hok, rfl, hc, hdp, q⟩
  | put x e t =>
    obtain ⟨a, u, r', e1, ha, _⟩ := hR
    cases e1
    refine ⟨_, rfl, a, _, 0, _, rfl, rfl, SqT.of ha, atI_nat rfl, rfl, false, (by decide +kernel), ?_⟩
    refine ⟨_, rfl, dp, rfl, rfl, by omega, _, rfl, _, _, _, n, rfl, hR0, hok, rfl, fun H1 s1 => ?_⟩
    refine ⟨_, _, rfl, rfl, by omega, (by show 1 ≤ sizeLine; decide), fun l hl' => ?_⟩
    exact q l _ (s1.trans (same_new hl' _)) (s1.free hl') upd_same
  | wait x y oe t =>
    obtain ⟨a, u, r', e1, ha, _⟩ := hR
    cases e1
    refine ⟨_, rfl, a, _, 0, _, rfl, rfl, SqT.of ha, atI_nat rfl, rfl, false, (by decide +kernel), ?_⟩
    refine ⟨_, rfl, dp, rfl, rfl, by omega, _, rfl, _, _, _, n, rfl, hR0, hok, rfl, fun H1 s1 => ?_⟩
    refine ⟨_, _, rfl, rfl, by omega, (by show 1 ≤ sizeLine; decide), fun l hl' => ?_⟩
    exact q l _ (s1.trans (same_new hl' _)) (s1.free hl') upd_same
  | go wd x g es t =>
    obtain ⟨a, p, ws, r', e1, ha, _⟩ := hR
    cases e1
    refine ⟨_, rfl, a, _, 0, _, rfl, rfl, SqT.of ha, atI_nat rfl, rfl, false, (by cases wd <;> decide +kernel), ?_⟩
    refine ⟨_, rfl, dp, rfl, rfl, by omega, _, rfl, _, _, _, n, rfl, hR0, hok, rfl, fun H1 s1 => ?_⟩
    refine ⟨_, _, rfl, rfl, by omega, (by show 1 ≤ sizeLine; decide), fun l hl' => ?_⟩
    exact q l _ (s1.trans (same_new hl' _)) (s1.free hl') upd_same
  | give wd e t =>
    obtain ⟨a, u, r', e1, ha, _⟩ := hR
    cases e1
    refine ⟨_, rfl, a, _, 0, _, rfl, rfl, SqT.of ha, atI_nat rfl, rfl, false, (by cases wd <;> decide +kernel), ?_⟩
    refine ⟨_, rfl, dp, rfl, rfl, by omega, _, rfl, _, _, _, n, rfl, hR0, hok, rfl, fun H1 s1 => ?_⟩
    refine ⟨_, _, rfl, rfl, by omega, (by show 1 ≤ sizeLine; decide), fun l hl' => ?_⟩
    exact q l _ (s1.trans (same_new hl' _)) (s1.free hl') upd_same
theorem ok_ifLn {n : Nat} {f i j : Addr} {fd idd jd : FuncData} {tB : Tok} (F : Fun K "if_lines" "if_lines" sIfLn f fd) (RLs : 1 ≤ n → FnOk P w K mg base CX0 (19 + 3 * n) i idd ["rows", "depth"] (spRowsLn (n - 1))) (mR : mg "rows_lines" = some (.ref i)) (kR : PySem.W.keepIn K (.ref i) = true) (bR : Binds K idd ["rows", "depth"] []) (SE : Fk P w K mg base 18 "show_expression" j jd ["tree"] (spShow 6)) (gBl : mg "BLANKS" = some (.str "  " tB)) :
    FnOk P w K mg base CX0 (19 + 3 * n + 1) f fd ["row", "depth"] (spIfLn n) := by
  refine F.ok scIfLn (fun vs H Q E h => ?_) (fun cdv A outer s H vs Q E hr h => ?_)
  · obtain ⟨v, rs, r, dp, rfl, _⟩ := h
    rfl
  obtain ⟨v, rs, r, dp, rfl, hR, hok, hif, hc, hdp, q⟩ := h
  cases rs with
  | iff e A' B t =>
    have hn : 1 ≤ n := hok.1
    have RL : Fk P w K mg base (19 + 3 * n) "rows_lines" i idd ["rows", "depth"] (spRowsLn (n - 1)) := ⟨RLs hn, mR, kR, bR⟩
    refine ⟨_, (pss_cons (ps_asg (pv 0) (pg_tup rfl (pgs_cons (pg_name (i := 2) scIfLn.nd rfl (.inl rfl)) (pgs_cons (pg_name (i := 3) scIfLn.nd rfl (.inl rfl)) (pgs_cons (pg_name (i := 4) scIfLn.nd rfl (.inl rfl)) (pgs_cons (pg_name (i := 5) scIfLn.nd rfl (.inl rfl)) pgs_nil))))))
    (pss_cons (ps_set (i := 6) scIfLn.nd rfl (Or.inl rfl) (pe_op op_mulS (pe_glob (v := .str "  ") rfl gBl ⟨_, rfl⟩) (pv 1)))
    (pss_cons (ps_set (i := 7) scIfLn.nd rfl (Or.inl rfl) (pe_lst (pa_cons (pe_joined (.cons (pe_fmt (pv 6)) (.cons (pe_fmt (pv 2)) (.cons pe_str (.cons (pe_fmt (pe_call SE.G (hr.mono (by omega)) (by rfl) SE.m SE.k SE.b .nil pass0 (pa_cons (pv 3) pa_nil))) .nil))))) pa_nil)))
    (pss_cons (ps_expr (pe_bm PySem.F.plainAttrs_list PySem.F.slot_list_extend PySem.F.type_list_extend mt_extend (pv 7) (pa_cons (pe_call RL.G hr (by rfl) RL.m RL.k RL.b .nil pass0 (pa_cons (pv 4) (pa_cons (pe_op op_add (pv 1) pe_int) pa_nil))) pa_nil)))
    (C8.pss_cut (ps_if (pt_truth (pv 5) (fun _ => rfl))
      (pss_cons (ps_expr (pe_bm PySem.F.plainAttrs_list PySem.F.slot_list_append PySem.F.type_list_append mt_append (pv 7) (pa_cons (pe_joined (.cons (pe_fmt (pv 6)) (.cons pe_str .nil))) pa_nil)))
    (pss_one (ps_expr (pe_bm PySem.F.plainAttrs_list PySem.F.slot_list_extend PySem.F.type_list_extend mt_extend (pv 7) (pa_cons (pe_call RL.G hr (by rfl) RL.m RL.k RL.b .nil pass0 (pa_cons (pv 5) (pa_cons (pe_op op_add (pv 1) pe_int) pa_nil))) pa_nil)))))
      pss_nil)
    (pss_cons (ps_expr (pe_bm PySem.F.plainAttrs_list PySem.F.slot_list_append PySem.F.type_list_append mt_append (pv 7) (pa_cons (pe_joined (.cons (pe_fmt (pv 6)) (.cons pe_str .nil))) pa_nil)))
    (pss_one (ps_ret (pv 7))))))))), ?_⟩
    have hs : sizeLine = 16777216 := by decide
    obtain ⟨a, u, p, xs, p', ys, r', e1, ha, te, hp, hA, hp', hB, _⟩ := hR
    cases e1
    have hi := ind_len dp
    have le := Ex.len6 hok.2.1
    have a1 : (" " : Str).length = 1 := by decide +kernel
    have a2 : ("if" : Str).length = 2 := by decide +kernel
    have a3 : ("else" : Str).length = 4 := by decide +kernel
    have a4 : ("end" : Str).length = 3 := by decide +kernel
    have a5 : ("if " : Str).length = 3 := by decide +kernel
    have ec : (Rs.iff e A' B t).count = 1 + A'.count + B.count + t.count := rfl
    refine ⟨_, rfl, a, _, rfl, SqT.of ha, rfl, _, _, rfl, _, _, rfl, _, _, rfl, _, _, rfl, rfl, ?_⟩
    refine ⟨_, rfl, dp, rfl, rfl, by omega, ?_⟩
    refine ⟨_, rfl, .inl ⟨_, rfl, by omega, _, rfl, by rw [emp_app]; omega, ?_⟩⟩
    rw [emp_app]
    refine ⟨_, rfl, .inl ⟨_, rfl, by omega, _, rfl, by rw [app_len]; omega, _, rfl, by rw [app_len, app_len]; omega, ?_⟩⟩
    rw [app_as, if_sp]
    refine ⟨_, rfl, u, e, rfl, te, Ex.fine_ok hok.2.1, .inl ⟨_, rfl, by omega, _, rfl, by rw [app_len, app_len]; omega, ?_⟩⟩
    refine ⟨(by show 1 ≤ sizeLine; decide), fun l hl => ?_⟩
    have s1 := same_new hl (.lst [.str (ind dp ++ "if " ++ e.txt)])
    have h1 : (upd H l (.lst [.str (ind dp ++ "if " ++ e.txt)])) l = some (.lst [.str (ind dp ++ "if " ++ e.txt)]) := upd_same
    generalize upd H l (.lst [.str (ind dp ++ "if " ++ e.txt)]) = H1 at s1 h1
    have ed : (dp : Int) + 1 = ((dp + 1 : Nat) : Int) := by omega
    have lA := (lines_ok (dp + 1) (n - 1) A' hok.2.2.1 (by omega)).2
    have lB' := (lines_ok (dp + 1) (n - 1) B hok.2.2.2.1 (by omega)).2
    refine ⟨_, rfl, .inl ⟨rfl, _, SqL.of h1⟩, _, rfl, _, rfl, _, _, rfl, rfl, p, xs, A', dp + 1, (by show [V.ref p, V.int ((dp : Int) + 1)] = _; rw [ed]), s1 _ _ hp, hA.same s1, hok.2.2.1, by omega, by omega, fun l2 H2 s2 nl2 h2 => ?_⟩
    have h12 := s2 _ _ h1
    refine ⟨l, l2, _, _, rfl, rfl, h12, h2, by rw [List.length_map]; show 1 + _ ≤ sizeLine; omega, ?_⟩
    have s12 := s1.trans s2
    have e2 : ([V.str (ind dp ++ "if " ++ e.txt)] ++ (Rs.lines (dp + 1) A').map V.str) = ((ind dp ++ "if " ++ e.txt) :: Rs.lines (dp + 1) A').map V.str := rfl
    rw [e2]
    have s3 : Same H (upd H2 l (.lst (((ind dp ++ "if " ++ e.txt) :: Rs.lines (dp + 1) A').map V.str))) := fun x o z => by rw [upd_ne (ne_of_none z hl)]; exact s12 _ _ z
    have h3 : (upd H2 l (.lst (((ind dp ++ "if " ++ e.txt) :: Rs.lines (dp + 1) A').map V.str))) l = some (.lst (((ind dp ++ "if " ++ e.txt) :: Rs.lines (dp + 1) A').map V.str)) := upd_same
    generalize upd H2 l (.lst (((ind dp ++ "if " ++ e.txt) :: Rs.lines (dp + 1) A').map V.str)) = H3 at s3 h3
    refine ⟨fun σ' H' => σ' = [some (.ref a), some (.int dp), some (.str "if"), some u, some (.ref p), some (.ref p'), some (.str (ind dp)), some (.ref l)] ∧ Same H H' ∧ H' l = some (.lst (((ind dp ++ "if " ++ e.txt) :: (Rs.lines (dp + 1) A' ++ (if B.isNil = true then [] else (ind dp ++ "else") :: Rs.lines (dp + 1) B))).map V.str)), ?_, ?_⟩
    · refine ⟨_, rfl, !ys.isEmpty, .inr (.inl ⟨ys, SqT.of (s3 _ _ hp'), rfl⟩), ?_⟩
      have ni := nil_iff hB
      cases hy : ys with
      | nil =>
        have hb := ni.mpr hy
        refine ⟨rfl, s3, ?_⟩
        rw [if_pos hb, List.append_nil]
        exact h3
      | cons z r0 =>
        have hb : ¬ B.isNil = true := fun q => by have := ni.mp q; rw [hy] at this; cases this
        refine ⟨_, rfl, .inl ⟨rfl, _, SqL.of h3⟩, _, rfl, .inl ⟨_, rfl, by omega, _, rfl, by rw [emp_app]; omega, _, rfl, by rw [emp_app, app_len]; omega, ?_⟩⟩
        rw [emp_app]
        refine ⟨l, _, _, rfl, rfl, h3, by rw [List.length_map, List.length_cons]; omega, ?_⟩
        have s4 : Same H (upd H3 l (.lst (((ind dp ++ "if " ++ e.txt) :: Rs.lines (dp + 1) A').map V.str ++ [.str (ind dp ++ "else")]))) := fun x o z => by rw [upd_ne (ne_of_none z hl)]; exact s3 _ _ z
        have h4 : (upd H3 l (.lst (((ind dp ++ "if " ++ e.txt) :: Rs.lines (dp + 1) A').map V.str ++ [.str (ind dp ++ "else")]))) l = some (.lst (((ind dp ++ "if " ++ e.txt) :: Rs.lines (dp + 1) A').map V.str ++ [.str (ind dp ++ "else")])) := upd_same
        generalize upd H3 l (.lst (((ind dp ++ "if " ++ e.txt) :: Rs.lines (dp + 1) A').map V.str ++ [.str (ind dp ++ "else")])) = H4 at s4 h4
        refine ⟨_, rfl, .inl ⟨rfl, _, SqL.of h4⟩, _, rfl, _, rfl, _, _, rfl, rfl, p', ys, B, dp + 1, (by show [V.ref p', V.int ((dp : Int) + 1)] = _; rw [ed]), s4 _ _ hp', hB.same s4, hok.2.2.2.1, by omega, by omega, fun l5 H5 s5 nl5 h5 => ?_⟩
        have h45 := s5 _ _ h4
        refine ⟨l, l5, _, _, rfl, rfl, h45, h5, ?_, rfl, ?_, ?_⟩
        · rw [List.length_append, List.length_map, List.length_map, List.length_cons]
          show _ + 1 + 1 + _ ≤ sizeLine
          omega
        · intro x o zz
          rw [upd_ne (ne_of_none zz hl)]
          exact s5 _ _ (s4 _ _ zz)
        · rw [upd_same, if_neg hb]
          simp [List.map_append]
    · rintro σ' H5 ⟨rfl, s5, h5⟩
      have lel : (if B.isNil = true then ([] : List Str) else (ind dp ++ "else") :: Rs.lines (dp + 1) B).length ≤ 3 * B.count + 1 := by
        split
        · exact Nat.zero_le _
        · rw [List.length_cons]; omega
      refine ⟨_, rfl, .inl ⟨rfl, _, SqL.of h5⟩, _, rfl, .inl ⟨_, rfl, by omega, _, rfl, by rw [emp_app]; omega, _, rfl, by rw [emp_app, app_len]; omega, ?_⟩⟩
      rw [emp_app]
      refine ⟨l, _, _, rfl, rfl, h5, by rw [List.length_map, List.length_cons, List.length_append]; omega, ?_⟩
      refine ⟨_, rfl, q l _ (fun x o z => ?_) hl ?_⟩
      · rw [upd_ne (ne_of_none z hl)]
        exact s5 _ _ z
      · rw [upd_same]
        show some (HO.lst _) = some (HO.lst (((ind dp ++ "if " ++ e.txt) :: (Rs.lines (dp + 1) A' ++ (if B.isNil = true then [] else (ind dp ++ "else") :: Rs.lines (dp + 1) B) ++ [ind dp ++ "end"])).map V.str))
        simp [List.map_append]
  | nil => cases hif
  | put _ _ _ => cases hif
  | go _ _ _ _ _ => cases hif
  | wait _ _ _ _ => cases hif
  | give _ _ _ => cases hif
theorem ok_rowsLn {n : Nat} {f i : Addr} {fd idd : FuncData} (F : Fun K "rows_lines" "rows_lines" sRowsLn f fd) (RO : Fk P w K mg base (21 + 3 * n) "row_lines" i idd ["row", "depth"] (spRowLn n)) : FnOk P w K mg base CX0 (21 + 3 * n + 1) f fd ["rows", "depth"] (spRowsLn n) := by
  refine F.ok scRowsLn (fun vs H Q E h => ?_) (fun cdv A outer s H vs Q E hr h => ?_)
  · obtain ⟨p, xs, rs, dp, rfl, _⟩ := h
    rfl
  obtain ⟨p, xs, rs, dp, rfl, hp, hR, hok, hc, hdp, q⟩ := h
  refine ⟨_, (pss_cons (ps_set (i := 2) scRowsLn.nd rfl (Or.inl rfl) (pe_lst pa_nil))
    (pss_cons (ps_for PassesOwn.never rfl (pi_tup (pv 0)) (pg_name (i := 3) scRowsLn.nd rfl (.inl rfl))
      (pss_one (ps_expr (pe_bm PySem.F.plainAttrs_list PySem.F.slot_list_extend PySem.F.type_list_extend mt_extend (pv 2) (pa_cons (pe_call RO.G hr (by rfl) RO.m RO.k RO.b .nil pass0 (pa_cons (pv 3) (pa_cons (pv 1) pa_nil))) pa_nil)))))
    (pss_one (ps_ret (pv 2))))), ?_⟩
  have hs : sizeLine = 16777216 := by decide
  refine ⟨Nat.zero_le _, fun l hl => ?_⟩
  refine ⟨_, rfl, p, rfl, ⟨_, SqT.of ((same_new hl _) _ _ hp)⟩, ?_⟩
  refine for_tup (K := K) (a := p) (xs := xs) (fun i σ H' => ∃ (rs' : Rs) (done : List Str) (y : Option V), σ = [some (.ref p), some (.int dp), some (.ref l), y] ∧ RsIn H' rs' (xs.drop i) ∧ Rs.ok n rs' ∧ rs'.count ≤ 40 ∧ done ++ Rs.lines dp rs' = Rs.lines dp rs ∧ H' l = some (.lst (done.map V.str)) ∧ Same H H') ?_ ?_ ?_ ?_
  · exact ⟨rs, [], none, rfl, hR.same (same_new hl _), hok, hc, rfl, upd_same, same_new hl _⟩
  · rintro i σ H' _ ⟨_, _, _, _, _, _, _, _, _, s'⟩
    exact SqT.of (s' _ _ hp)
  · rintro i v σ H1 hv ⟨rs', done, y, rfl, hR', ok', hc', hd', hl1, s1⟩
    have hdr : xs.drop i = v :: xs.drop (i + 1) := by
      obtain ⟨hi, e⟩ := List.getElem?_eq_some_iff.mp hv
      rw [List.drop_eq_getElem_cons hi, e]
    rw [hdr] at hR'
    have ce := rs'.count_eq
    have tot := (lines_ok dp n rs hok (by omega)).2
    rw [← hd', List.length_append] at tot
    have hh := hdL_len (n := dp) ok' (by omega)
    refine ⟨_, rfl, .inl ⟨rfl, _, SqL.of hl1⟩, _, rfl, _, rfl, v, rs', _, dp, rfl, hR', ok', hc', hdp, fun l2 H2 s2 nl2 h2 => ?_⟩
    have hl2 := s2 _ _ hl1
    refine ⟨l, l2, _, _, rfl, rfl, hl2, h2, by rw [List.length_map, List.length_map]; omega, ?_⟩
    refine ⟨rs'.tl, done ++ rs'.hdL dp, _, rfl, RsIn.upd_lst hl2 (hR'.tl.same s2), Rs.ok_tl ok', by omega, ?_, ?_, ?_⟩
    · rw [List.append_assoc, ← Rs.lines_eq]; exact hd'
    · rw [upd_same, List.map_append]
    · intro x o z
      rw [upd_ne (ne_of_none z hl)]
      exact s2 _ _ (s1 _ _ z)
  · rintro σ H1 ⟨rs', done, y, rfl, hR', ok', hc', hd', hl1, s1⟩
    rw [List.drop_length] at hR'
    have z := (nil_iff hR').mpr rfl
    have z' : rs' = .nil := by cases rs' <;> first | rfl | cases z
    subst z'
    have e : done = Rs.lines dp rs := by rw [← hd']; exact (List.append_nil done).symm
    exact ⟨_, rfl, q l H1 s1 hl (e ▸ hl1)⟩
theorem linesAll {fr fi fo fj fe : Addr} {dr di do_ dj de : FuncData} {tB : Tok} (FR : Fun K "rows_lines" "rows_lines" sRowsLn fr dr) (mR : mg "rows_lines" = some (.ref fr)) (bR : Binds K dr ["rows", "depth"] []) (FO : Fun K "row_lines" "row_lines" sRowLn fo do_) (mO : mg "row_lines" = some (.ref fo)) (bO : Binds K do_ ["row", "depth"] [])
    (FI : Fun K "if_lines" "if_lines" sIfLn fi di) (mI : mg "if_lines" = some (.ref fi)) (bI : Binds K di ["row", "depth"] []) (SR : Fk P w K mg base 20 "show_row" fj dj ["row"] spShRow) (SE : Fk P w K mg base 18 "show_expression" fe de ["tree"] (spShow 6)) (gBl : mg "BLANKS" = some (.str "  " tB)) :
    ∀ n : Nat, FnOk P w K mg base CX0 (21 + 3 * n + 1) fr dr ["rows", "depth"] (spRowsLn n)
  | 0 => ok_rowsLn (n := 0) FR ⟨ok_rowLn (n := 0) FO ⟨ok_ifLn (n := 0) FI (fun h => absurd h (by decide)) mR FR.kp bR SE gBl, mI, FI.kp, bI⟩ SR gBl, mO, FO.kp, bO⟩
  | n + 1 => by
    have ih := linesAll FR mR bR FO mO bO FI mI bI SR SE gBl n
    have il : FnOk P w K mg base CX0 (20 + 3 * (n + 1)) fi di ["row", "depth"] (spIfLn (n + 1)) := by
      have := ok_ifLn (n := n + 1) FI (fun _ => by rw [show 19 + 3 * (n + 1) = 21 + 3 * n + 1 by omega]; exact ih) mR FR.kp bR SE gBl
      rw [show 19 + 3 * (n + 1) + 1 = 20 + 3 * (n + 1) by omega] at this
      exact this
    have rl : FnOk P w K mg base CX0 (21 + 3 * (n + 1)) fo do_ ["row", "depth"] (spRowLn (n + 1)) := by
      have := ok_rowLn (n := n + 1) FO ⟨il, mI, FI.kp, bI⟩ SR gBl
      rw [show 20 + 3 * (n + 1) + 1 = 21 + 3 * (n + 1) by omega] at this
      exact this
    exact ok_rowsLn (n := n + 1) FR ⟨rl, mO, FO.kp, bO⟩
theorem ok_shWork {f i : Addr} {fd idd : FuncData} {tB : Tok} (F : Fun K "show_work" "show_work" sShWork f fd) (RL : Fk P w K mg base 31 "rows_lines" i idd ["rows", "depth"] (spRowsLn 3)) (gBl : mg "BLANKS" = some (.str "  " tB)) : FnOk P w K mg base CX0 32 f fd ["work", "depth"] spShWork := by
  refine F.ok scShWork (fun vs H Q E h => ?_) (fun cdv A outer s H vs Q E hr h => ?_)
  · obtain ⟨v, W, dp, rfl, _⟩ := h
    rfl
  obtain ⟨v, W, dp, rfl, ⟨a, pn, pr, xs, rfl, ha, hpn, hpr, hR⟩, ok, hdp, q⟩ := h
  refine ⟨_, (pss_cons (ps_asg (pv 0) (pg_tup rfl (pgs_cons (pg_name (i := 2) scShWork.nd rfl (.inl rfl)) (pgs_cons (pg_name (i := 3) scShWork.nd rfl (.inl rfl)) (pgs_cons (pg_name (i := 4) scShWork.nd rfl (.inl rfl)) (pgs_cons (pg_name (i := 5) scShWork.nd rfl (.inl rfl)) (pgs_cons (pg_name (i := 6) scShWork.nd rfl (.inl rfl)) pgs_nil)))))))
    (pss_cons (ps_set (i := 7) scShWork.nd rfl (Or.inl rfl) (pe_joined (.cons (pe_fmt (pe_op op_mulS (pe_glob (v := .str "  ") rfl gBl ⟨_, rfl⟩) (pv 1))) (.cons (pe_fmt (pv 2)) (.cons pe_str (.cons (pe_fmt (pv 3)) (.cons pe_str (.cons (pe_fmt (pe_join pe_str (pv 4))) (.cons pe_str (.cons (pe_fmt (pv 5)) .nil))))))))))
    (pss_one (ps_ret (pe_join pe_str (pe_op op_cat (pe_lst (pa_cons (pv 7) pa_nil)) (pe_call RL.G (hr.mono (by omega)) (by rfl) RL.m RL.k RL.b .nil pass0 (pa_cons (pv 6) (pa_cons (pe_op op_add (pv 1) pe_int) pa_nil))))))))), ?_⟩
  have hs : sizeLine = 16777216 := by decide
  have hi := ind_len dp
  obtain ⟨k1, k2, k3, k4⟩ := headT_len ok (show dp ≤ 40 by omega)
  obtain ⟨t1, t2, t3⟩ := txt_sum ok (show dp ≤ 30 by omega)
  have n1 := nm8 ok.name
  have a1 : (" " : Str).length = 1 := by decide +kernel
  have a2 : ("work" : Str).length = 4 := by decide +kernel
  have a3 : ("(" : Str).length = 1 := by decide +kernel
  have a4 : (") room " : Str).length = 7 := by decide +kernel
  have a5 : ("work " : Str).length = 5 := by decide +kernel
  have rlog : W.room.natAbs.log2 < 1920 := log_ok ok.room0 (by
    have h2 := ok.room1
    have e : (1000000 : Int) ^ 5 = 1000000000000000000000000000000 := by decide
    rw [e]
    omega)
  refine ⟨_, rfl, a, _, rfl, SqT.of ha, rfl, _, _, rfl, _, _, rfl, _, _, rfl, _, _, rfl, _, _, rfl, rfl, ?_⟩
  refine ⟨_, rfl, dp, rfl, rfl, by omega, .inl ⟨_, rfl, by omega, _, rfl, by rw [emp_app]; omega, ?_⟩⟩
  rw [emp_app]
  refine ⟨_, rfl, .inl ⟨_, rfl, by omega, _, rfl, by rw [app_len]; omega, _, rfl, by rw [app_len, app_len]; omega, ?_⟩⟩
  rw [app_as, work_sp]
  refine ⟨_, rfl, .inl ⟨_, rfl, by omega, _, rfl, by rw [app_len, app_len]; omega, _, rfl, by rw [app_len, app_len, app_len]; omega, ?_⟩⟩
  refine ⟨⟨_, rfl⟩, _, rfl, _, pn, W.names, rfl, rfl, .inr (SqT.of hpn), by omega, .inl ⟨_, rfl, by omega, _, rfl, by rw [app_len, app_len, app_len, app_len]; omega, _, rfl, by rw [app_len, app_len, app_len, app_len, app_len]; omega, ?_⟩⟩
  refine ⟨_, rfl, .inr ⟨_, rfl, rlog, _, rfl, by rw [app_len, app_len, app_len, app_len, app_len, app_len]; omega, ?_⟩⟩
  have ed : (dp : Int) + 1 = ((dp + 1 : Nat) : Int) := by omega
  refine ⟨⟨_, rfl⟩, _, rfl, (by show 1 ≤ sizeLine; decide), fun l hl => ?_⟩
  have s1 := same_new hl (.lst [.str (headT dp W)])
  refine ⟨_, rfl, _, rfl, _, _, rfl, rfl, pr, xs, W.rows, dp + 1, (by show [V.ref pr, V.int ((dp : Int) + 1)] = _; rw [ed]), s1 _ _ hpr, hR.same s1, ok.rows, ok.count, by omega, fun l2 H2 s2 nl2 h2 => ?_⟩
  refine ⟨l, l2, [.str (headT dp W)], _, rfl, rfl, s2 _ _ upd_same, h2, by rw [List.length_map]; show 1 + _ ≤ sizeLine; omega, fun l3 hl3 => ?_⟩
  have s3 := same_new hl3 (.lst ([V.str (headT dp W)] ++ (Rs.lines (dp + 1) W.rows).map V.str))
  refine ⟨_, l3, headT dp W :: Rs.lines (dp + 1) W.rows, rfl, rfl, .inl (SqL.of upd_same), by omega, ?_⟩
  exact q _ (s1.trans (s2.trans s3))
/-- as Fk, for a def that wants a word -/
structure FkK (P : Program) (w : World) (K : PySem.W.Frag) (mg : Str → Option Value) (base : Heap) (lv : Nat) (x : Str) (f : Addr) (fd : FuncData) (ps : List Str) (sp : Sp) : Prop where
  G : FnOk P w K mg base CX0 lv f fd ps sp
  m : mg x = some (.ref f)
  k : PySem.W.keepIn K (.ref f) = true
theorem ok_bookStr {f g C : Addr} {fd gd : FuncData} {gg : List Value → List Value → List Value} (F : Fun K "__str__" "Book.__str__" sBookStr f fd) (B : BkT K mg C) (SK : FkK P w K mg base 32 "show_work" g gd ["work", "depth"] spShWork) (kb0 : KBn K gd ["work", "depth"] 1 [] gg (fun vs _ => vs ++ [V.int 0])) : FnOk P w K mg base CX0 33 f fd ["self"] (spBookStr C) := by
  refine F.ok scBookStr (fun vs H Q E h => ?_) (fun cdv A outer s H vs Q E hr h => ?_)
  · obtain ⟨x, Ws, rfl, _⟩ := h
    rfl
  obtain ⟨x, Ws, rfl, ⟨dx, p, us, hx, hp, hW⟩, ok, h10, q⟩ := h
  refine ⟨_, (pss_one (ps_ret (pe_join pe_str (pe_lc (own := [("work", 1)]) (g := gName 1) (tt := tYes) (by rfl) scBookStr.nd (pi_tup (pe_fld (pv 0) rfl)) (blkOk_by (own := [("work", 1)]) (N := ["self", "work"]) (sc := defScope sBookStr) (by decide +kernel)) (fun _ _ _ _ _ => pg_name (i := 1) scBookStr.nd rfl (Or.inl rfl)) (fun _ _ _ _ _ => pts_nil) (fun _ _ _ _ _ => pe_callN SK.G hr (by rfl) SK.m SK.k kb0 pass0 (pa_cons (pv 1) pa_nil) pk_nil))))), ?_⟩
  have hs : sizeLine = 16777216 := by decide
  refine ⟨⟨_, rfl⟩, _, rfl, x, C, dx, _, _, rfl, hx, B.cl, B.nW, rfl, p, rfl, ⟨_, SqT.of hp⟩, ?_⟩
  intro D hD
  refine lc_tup (K := K) (a := p) (xs := us) (fun j H' => H' D = some (.lst (((Ws.take j).map (Wk.txt 0)).map V.str)) ∧ Same H H') ⟨upd_same, same_new hD _⟩ (fun j H' _ h => SqT.of (h.2 _ _ hp)) ?_ ?_
  · rintro j v H1 hv ⟨hD1, s1⟩
    obtain ⟨W, hWi, hin⟩ := hW.2 j v hv
    have hj : j < Ws.length := (List.getElem?_eq_some_iff.mp hWi).1
    refine ⟨rfl, ?_⟩
    refine ⟨_, rfl, rfl, rfl, v, W, 0, rfl, hin.same s1, ok.each W (List.mem_of_getElem? hWi), by decide, fun H2 s2 => ?_⟩
    refine ⟨_, s2 _ _ hD1, by rw [List.length_map, List.length_map, List.length_take]; omega, ?_, ?_⟩
    · rw [upd_same, List.take_add_one, hWi, List.map_append, List.map_append]
      rfl
    · intro y o z
      rw [upd_ne (ne_of_none z hD)]
      exact s2 _ _ (s1 _ _ z)
  · rintro H1 ⟨hD1, s1⟩
    rw [hW.1, List.take_length] at hD1
    have sm : ((Ws.map (Wk.txt 0)).map (·.length)).sum ≤ (Ws.map (Wk.txt 0)).length * 1600000 := sum_le fun y hy => by
      obtain ⟨W, hW', rfl⟩ := List.mem_map.mp hy
      exact (txt_sum (ok.each W hW') (by decide)).2.1
    have a1 : ("\n" : Str).length = 1 := by decide +kernel
    refine ⟨_, D, Ws.map (Wk.txt 0), rfl, rfl, .inl (SqL.of hD1), ?_, ?_⟩
    · rw [a1]
      rw [List.length_map] at sm ⊢
      have : Ws.length * 1600000 ≤ 10 * 1600000 := Nat.mul_le_mul_right _ h10
      omega
    · exact q H1 s1
end
end SH

set_option Elab.async false
set_option linter.all false
set_option maxRecDepth 100000
namespace SH
open PySem L2
abbrev sRowTx : Stmt := topS 67
abbrev sLinesTx : Stmt := topS 68
abbrev sWorkTx : Stmt := topS 69
theorem scRowTx : FnScope ["_law_row_here", "_law_word", "_law_trees", "_law_more", "_law_tree_here"] ["_law_row_here"] (defScope sRowTx) := ⟨rfl, rfl, rfl, by decide +kernel, rfl, by decide +kernel, by decide +kernel⟩
theorem scLinesTx : FnScope ["_law_rows_here", "_law_ahead", "_law_found", "_law_row_here"] ["_law_rows_here", "_law_ahead"] (defScope sLinesTx) := ⟨rfl, rfl, rfl, by decide +kernel, rfl, by decide +kernel, by decide +kernel⟩
theorem scWorkTx : FnScope ["_law_work", "_law_ahead", "_law_head"] ["_law_work", "_law_ahead"] (defScope sWorkTx) := ⟨rfl, rfl, rfl, by decide +kernel, rfl, by decide +kernel, by decide +kernel⟩
/-! ### rows as data -/
def Ex.data : Ex → PyData
  | .num n => .tuple [.str "number", .int n]
  | .nam s => .tuple [.str "name", .str s]
  | .op g l r => .tuple [.str g.txt, l.data, r.data]
def Rs.data : Rs → List PyData
  | .nil => []
  | .put x e t => .tuple [.str "put", .str x, e.data] :: t.data
  | .go w x f es t => .tuple [.str (goW w), .str x, .str f, .tuple (es.map Ex.data)] :: t.data
  | .wait x y oe t => .tuple [.str "wait", .str x, .str y, (match oe with | none => .none | some e => e.data)] :: t.data
  | .iff e a b t => .tuple [.str "if", e.data, .tuple a.data, .tuple b.data] :: t.data
  | .give w e t => .tuple [.str (giveW w), e.data] :: t.data
theorem TrIn.dp {K : PySem.W.Frag} {H : Hp} : ∀ {e : Ex} {v : V}, TrIn H e v → Dp K H v e.data
  | .num n, _, ⟨a, rfl, h⟩ => .tup (SqT.of h) (.cons (.str _) (.cons (.int _) .nil))
  | .nam n, _, ⟨a, rfl, h⟩ => .tup (SqT.of h) (.cons (.str _) (.cons (.str _) .nil))
  | .op g l r, _, ⟨a, x, y, rfl, h, p, q⟩ => .tup (SqT.of h) (.cons (.str _) (.cons (TrIn.dp p) (.cons (TrIn.dp q) .nil)))
theorem TrsIn.dp {K : PySem.W.Frag} {H : Hp} : ∀ {es : List Ex} {vs : List V}, TrsIn H es vs → DpAll K H vs (es.map Ex.data)
  | [], _, q => by cases q; exact .nil
  | _ :: _, _, ⟨v, r, e, t, q⟩ => by cases e; exact .cons t.dp (TrsIn.dp q)
theorem RsIn.dp {K : PySem.W.Frag} {H : Hp} : ∀ {r : Rs} {vs : List V}, RsIn H r vs → DpAll K H vs r.data
  | .nil, _, q => by cases q; exact .nil
  | .put _ _ _, _, ⟨a, v, r, e, k, t, q⟩ => by cases e; exact .cons (.tup (SqT.of k) (.cons (.str _) (.cons (.str _) (.cons t.dp .nil)))) (RsIn.dp q)
  | .go _ _ _ _ _, _, ⟨a, p, ws, r, e, k, k2, t, q⟩ => by cases e; exact .cons (.tup (SqT.of k) (.cons (.str _) (.cons (.str _) (.cons (.str _) (.cons (.tup (SqT.of k2) t.dp) .nil))))) (RsIn.dp q)
  | .wait _ _ none _, _, ⟨a, v, r, e, k, t, q⟩ => by cases e; cases t; exact .cons (.tup (SqT.of k) (.cons (.str _) (.cons (.str _) (.cons (.str _) (.cons .non .nil))))) (RsIn.dp q)
  | .wait _ _ (some e') _, _, ⟨a, v, r, e, k, t, q⟩ => by cases e; exact .cons (.tup (SqT.of k) (.cons (.str _) (.cons (.str _) (.cons (.str _) (.cons (TrIn.dp t) .nil))))) (RsIn.dp q)
  | .iff _ _ _ _, _, ⟨a, v, p, xs, p', ys, r, e, k, t, k1, q1, k2, q2, q⟩ => by cases e; exact .cons (.tup (SqT.of k) (.cons (.str _) (.cons t.dp (.cons (.tup (SqT.of k1) (RsIn.dp q1)) (.cons (.tup (SqT.of k2) (RsIn.dp q2)) .nil))))) (RsIn.dp q)
  | .give _ _ _, _, ⟨a, v, r, e, k, t, q⟩ => by cases e; exact .cons (.tup (SqT.of k) (.cons (.str _) (.cons t.dp .nil))) (RsIn.dp q)
theorem lay_tup (ds : List PyData) : (PyData.tuple ds).canLay0 = PyData.canLayAll0 ds := by rw [PyData.canLay0]
theorem lay_cons (d : PyData) (ds : List PyData) : PyData.canLayAll0 (d :: ds) = (d.canLay0 && PyData.canLayAll0 ds) := by rw [PyData.canLayAll0]
theorem lay_nil : PyData.canLayAll0 [] = true := by rw [PyData.canLayAll0]
theorem lay_str (s : Str) : (PyData.str s).canLay0 = PyData.strOk s := by rw [PyData.canLay0]
theorem lay_int (i : Int) : (PyData.int i).canLay0 = true := by rw [PyData.canLay0]
theorem lay_none : PyData.none.canLay0 = true := by rw [PyData.canLay0]
theorem dep_tup (ds : List PyData) : (PyData.tuple ds).depth = PyData.depthAll ds + 1 := by rw [PyData.depth]
theorem dep_cons (d : PyData) (ds : List PyData) : PyData.depthAll (d :: ds) = max d.depth (PyData.depthAll ds) := by rw [PyData.depthAll]
theorem dep_nil : PyData.depthAll [] = 0 := by rw [PyData.depthAll]
theorem dep_str (s : Str) : (PyData.str s).depth = 0 := by rw [PyData.depth]
theorem dep_int (i : Int) : (PyData.int i).depth = 0 := by rw [PyData.depth]
theorem dep_none : PyData.none.depth = 0 := by rw [PyData.depth]
theorem sok_nm {s : Str} (h : NmOk s) : PyData.strOk s = true := strOk_nm h.1
theorem sok_sg (g : Sg) : PyData.strOk g.txt = true := by cases g <;> decide +kernel
theorem sok_l : PyData.strOk "number" = true ∧ PyData.strOk "name" = true ∧ PyData.strOk "put" = true ∧ PyData.strOk "wait" = true ∧ PyData.strOk "if" = true := by decide +kernel
theorem sok_go (w : Bool) : PyData.strOk (goW w) = true := by cases w <;> decide +kernel
theorem sok_gi (w : Bool) : PyData.strOk (giveW w) = true := by cases w <;> decide +kernel
theorem Ex.shape : ∀ {n : Nat} {e : Ex}, Ex.fine n e → e.data.canLay0 = true ∧ e.data.depth ≤ n
  | 0, _, h => h.elim
  | n + 1, .num i, h => by
    refine ⟨?_, ?_⟩
    · unfold Ex.data
      rw [lay_tup, lay_cons, lay_cons, lay_nil, lay_str, lay_int, sok_l.1]
      rfl
    · unfold Ex.data
      rw [dep_tup, dep_cons, dep_cons, dep_nil, dep_str, dep_int]
      simp
  | n + 1, .nam s, h => by
    refine ⟨?_, ?_⟩
    · unfold Ex.data
      rw [lay_tup, lay_cons, lay_cons, lay_nil, lay_str, lay_str, sok_l.2.1, sok_nm h]
      rfl
    · unfold Ex.data
      rw [dep_tup, dep_cons, dep_cons, dep_nil, dep_str, dep_str]
      simp
  | n + 1, .op g l r, h => by
    obtain ⟨l1, l2⟩ := Ex.shape h.1
    obtain ⟨r1, r2⟩ := Ex.shape h.2
    refine ⟨?_, ?_⟩
    · unfold Ex.data
      rw [lay_tup, lay_cons, lay_cons, lay_cons, lay_nil, lay_str, sok_sg, l1, r1]
      rfl
    · unfold Ex.data
      rw [dep_tup, dep_cons, dep_cons, dep_cons, dep_nil, dep_str]
      omega
theorem exs_shape : ∀ {es : List Ex}, (∀ e ∈ es, Ex.fine 6 e) → PyData.canLayAll0 (es.map Ex.data) = true ∧ PyData.depthAll (es.map Ex.data) ≤ 6
  | [], _ => ⟨lay_nil, by show PyData.depthAll [] ≤ 6; rw [dep_nil]; decide⟩
  | e :: r, h => by
    obtain ⟨a1, a2⟩ := exs_shape (es := r) fun x hx => h x (List.mem_cons_of_mem _ hx)
    obtain ⟨b1, b2⟩ := Ex.shape (h e List.mem_cons_self)
    refine ⟨?_, ?_⟩
    · show PyData.canLayAll0 (e.data :: r.map Ex.data) = true
      rw [lay_cons, a1, b1]; rfl
    · show PyData.depthAll (e.data :: r.map Ex.data) ≤ 6
      rw [dep_cons]; omega
theorem Rs.shape : ∀ {n : Nat} {r : Rs}, Rs.ok n r → PyData.canLayAll0 r.data = true ∧ PyData.depthAll r.data ≤ 8 + 2 * n
  | n, .nil, _ => ⟨lay_nil, by show PyData.depthAll [] ≤ _; rw [dep_nil]; omega⟩
  | n, .put x e t, h => by
    obtain ⟨a1, a2⟩ := Rs.shape (r := t) h.2.2
    obtain ⟨b1, b2⟩ := Ex.shape h.2.1
    refine ⟨?_, ?_⟩
    · unfold Rs.data
      rw [lay_cons, lay_tup, lay_cons, lay_cons, lay_cons, lay_nil, lay_str, lay_str, sok_l.2.2.1, sok_nm h.1, a1, b1]; rfl
    · unfold Rs.data
      rw [dep_cons, dep_tup, dep_cons, dep_cons, dep_cons, dep_nil, dep_str, dep_str]; omega
  | n, .go w x f es t, h => by
    obtain ⟨a1, a2⟩ := Rs.shape (r := t) h.2.2.2.2
    obtain ⟨b1, b2⟩ := exs_shape h.2.2.2.1
    refine ⟨?_, ?_⟩
    · unfold Rs.data
      rw [lay_cons, lay_tup, lay_cons, lay_cons, lay_cons, lay_cons, lay_nil, lay_str, lay_str, lay_str, lay_tup, sok_go, sok_nm h.1, sok_nm h.2.1, a1, b1]; rfl
    · unfold Rs.data
      rw [dep_cons, dep_tup, dep_cons, dep_cons, dep_cons, dep_cons, dep_nil, dep_str, dep_str, dep_str, dep_tup]; omega
  | n, .wait x y none t, h => by
    obtain ⟨a1, a2⟩ := Rs.shape (r := t) h.2.2.2
    refine ⟨?_, ?_⟩
    · unfold Rs.data
      rw [lay_cons, lay_tup, lay_cons, lay_cons, lay_cons, lay_cons, lay_nil, lay_str, lay_str, lay_str, sok_l.2.2.2.1, sok_nm h.1, sok_nm h.2.1, a1]
      show (true && (true && (true && (PyData.none.canLay0 && true)))  && true) = true
      rw [lay_none]; rfl
    · unfold Rs.data
      rw [dep_cons, dep_tup, dep_cons, dep_cons, dep_cons, dep_cons, dep_nil, dep_str, dep_str, dep_str]
      show max (max 0 (max 0 (max 0 (max PyData.none.depth 0))) + 1) _ ≤ _
      rw [dep_none]; omega
  | n, .wait x y (some e) t, h => by
    obtain ⟨a1, a2⟩ := Rs.shape (r := t) h.2.2.2
    obtain ⟨b1, b2⟩ := Ex.shape (h.2.2.1 e rfl)
    refine ⟨?_, ?_⟩
    · unfold Rs.data
      rw [lay_cons, lay_tup, lay_cons, lay_cons, lay_cons, lay_cons, lay_nil, lay_str, lay_str, lay_str, sok_l.2.2.2.1, sok_nm h.1, sok_nm h.2.1, a1]
      show (true && (true && (true && (e.data.canLay0 && true)))  && true) = true
      rw [b1]; rfl
    · unfold Rs.data
      rw [dep_cons, dep_tup, dep_cons, dep_cons, dep_cons, dep_cons, dep_nil, dep_str, dep_str, dep_str]
      show max (max 0 (max 0 (max 0 (max e.data.depth 0))) + 1) _ ≤ _
      omega
  | n, .iff e a b t, h => by
    obtain ⟨a1, a2⟩ := Rs.shape (r := t) h.2.2.2.2
    obtain ⟨b1, b2⟩ := Ex.shape h.2.1
    obtain ⟨c1, c2⟩ := Rs.shape (r := a) h.2.2.1
    obtain ⟨d1, d2⟩ := Rs.shape (r := b) h.2.2.2.1
    have h1 := h.1
    refine ⟨?_, ?_⟩
    · unfold Rs.data
      rw [lay_cons, lay_tup, lay_cons, lay_cons, lay_cons, lay_cons, lay_nil, lay_str, lay_tup, lay_tup, sok_l.2.2.2.2, a1, b1, c1, d1]; rfl
    · unfold Rs.data
      rw [dep_cons, dep_tup, dep_cons, dep_cons, dep_cons, dep_cons, dep_nil, dep_str, dep_tup, dep_tup]; omega
  | n, .give w e t, h => by
    obtain ⟨a1, a2⟩ := Rs.shape (r := t) h.2
    obtain ⟨b1, b2⟩ := Ex.shape h.1
    refine ⟨?_, ?_⟩
    · unfold Rs.data
      rw [lay_cons, lay_tup, lay_cons, lay_cons, lay_nil, lay_str, sok_gi, a1, b1]; rfl
    · unfold Rs.data
      rw [dep_cons, dep_tup, dep_cons, dep_cons, dep_nil, dep_str]; omega
theorem Rs.shaped {n : Nat} {r : Rs} (h : Rs.ok n r) (hn : n ≤ 20) : SeqAt.shaped (.tuple r.data) = true := by
  obtain ⟨a1, a2⟩ := Rs.shape h
  unfold SeqAt.shaped
  rw [lay_tup, dep_tup, a1, decide_eq_true (by omega)]
  rfl
theorem rows_ne (r : Rs) : PyData.eqv (.tuple r.data) (.tuple []) = r.isNil := by
  rw [PyData.eqv]
  cases r <;> (unfold Rs.data; rw [PyData.eqvAll]; rfl)
def spRowTx : Sp := fun vs H Q _ => ∃ (v : V) (rs : Rs) (r : List V) (n : Nat), vs = [v] ∧ RsIn H rs (v :: r) ∧ Rs.ok n rs ∧ rs.isIf = false ∧ ∀ H', Same H H' → Q (.str rs.rowT) H'
def spLinesTx (n : Nat) : Sp := fun vs H Q _ => ∃ (p : Addr) (xs : List V) (rs : Rs) (dp : Nat), vs = [.ref p, .str (ind dp)] ∧ H p = some (.tup xs) ∧ RsIn H rs xs ∧ Rs.ok n rs ∧ rs.count ≤ 40 ∧ dp + n ≤ 30 ∧ ∀ (l : Addr) (H' : Hp), Same H H' → H l = none → H' l = some (.lst ((Rs.lines dp rs).map V.str)) → Q (.ref l) H'
def spWorkTx : Sp := fun vs H Q _ => ∃ (v : V) (W : Wk) (dp : Nat), vs = [v, .str (ind dp)] ∧ WkIn H W v ∧ W.ok ∧ dp ≤ 20 ∧ ∀ H', Same H H' → Q (.str (W.txt dp)) H'
section
variable {P : Program} {w : World} {K : PySem.W.Frag} {mg : Str → Option Value} {base : Heap}
theorem ok_rowTx {f g : Addr} {fd gd : FuncData} (F : Fun K "_law_row_text" "_law_row_text" sRowTx f fd) (TX : Fk P w K mg base 6 "_law_text" g gd ["_law_tree_here"] (spText 6)) : FnOk P w K mg base CX0 7 f fd ["_law_row_here"] spRowTx := by
  refine F.ok scRowTx (fun vs H Q E h => ?_) (fun cdv A outer s H vs Q E hr h => ?_)
  · obtain ⟨v, rs, r, n, rfl, _⟩ := h
    rfl
  obtain ⟨v, rs, r, n, rfl, hR, hok, hg, q⟩ := h
  refine ⟨_, (pss_cons (ps_set (i := 1) scRowTx.nd rfl (Or.inl rfl) (pe_ix ix_tup (pv 0) pe_int (fun _ _ => rfl)))
    (pss_cons (ps_if (pt_cmpR op_eq (pv 1) pe_str (nomark _))
      (pss_one (ps_ret (pe_op op_add_str (pe_op op_add_str (pe_ix ix_tup (pv 0) pe_int (fun _ _ => rfl)) pe_str) (pe_ix ix_tup (pe_call TX.G (hr.mono (by omega)) (by rfl) TX.m TX.k TX.b .nil pass0 (pa_cons (pe_ix ix_tup (pv 0) pe_int (fun _ _ => rfl)) pa_nil)) pe_int (fun _ _ => rfl)))))
      pss_nil)
    (pss_cons (ps_if (pt_cmpR op_in_seq (pv 1) (pe_lst (pa_cons pe_str (pa_cons pe_str pa_nil))) rfl)
      (pss_cons (ps_set (i := 2) scRowTx.nd rfl (Or.inl rfl) (pe_join pe_str (pe_lc (own := [("_law_tree_here", 4)]) (g := gName 4) (tt := tYes) (by rfl) scRowTx.nd (pi_tup (pe_ix ix_tup (pv 0) pe_int (fun _ _ => rfl))) (blkOk_by (own := [("_law_tree_here", 4)]) (N := ["_law_row_here", "_law_word", "_law_trees", "_law_more", "_law_tree_here"]) (sc := defScope sRowTx) (by decide +kernel)) (fun _ _ _ _ _ => pg_name (i := 4) scRowTx.nd rfl (Or.inl rfl)) (fun _ _ _ _ _ => pts_nil) (fun _ _ _ _ _ => (pe_ix (ix_tupK K) (pe_call TX.G (hr.mono (by omega)) (by rfl) TX.m TX.k TX.b .nil pass0 (pa_cons (pv 4) pa_nil)) pe_int (fun _ _ => rfl))))))
    (pss_one (ps_ret (pe_op op_add_str (pe_op op_add_str (pe_op op_add_str (pe_op op_add_str (pe_op op_add_str (pe_op op_add_str (pe_op op_add_str (pv 1) pe_str) (pe_ix ix_tup (pv 0) pe_int (fun _ _ => rfl))) pe_str) (pe_ix ix_tup (pv 0) pe_int (fun _ _ => rfl))) pe_str) (pv 2)) pe_str))))
      pss_nil)
    (pss_cons (ps_if (pt_cmpR op_eq (pv 1) pe_str (nomark _))
      (pss_cons (ps_set (i := 3) scRowTx.nd rfl (Or.inl rfl) (pe_ifExp (pt_cmpR op_isN (pe_ix ix_tup (pv 0) pe_int (fun _ _ => rfl)) pe_non (nomark _)) pe_str (pe_op op_add_str pe_str (pe_ix ix_tup (pe_call TX.G (hr.mono (by omega)) (by rfl) TX.m TX.k TX.b .nil pass0 (pa_cons (pe_ix ix_tup (pv 0) pe_int (fun _ _ => rfl)) pa_nil)) pe_int (fun _ _ => rfl)))))
    (pss_one (ps_ret (pe_op op_add_str (pe_op op_add_str (pe_op op_add_str (pe_op op_add_str pe_str (pe_ix ix_tup (pv 0) pe_int (fun _ _ => rfl))) pe_str) (pe_ix ix_tup (pv 0) pe_int (fun _ _ => rfl))) (pv 3)))))
      pss_nil)
    (pss_one (ps_ret (pe_op op_add_str (pe_op op_add_str (pv 1) pe_str) (pe_ix ix_tup (pe_call TX.G (hr.mono (by omega)) (by rfl) TX.m TX.k TX.b .nil pass0 (pa_cons (pe_ix ix_tup (pv 0) pe_int (fun _ _ => rfl)) pa_nil)) pe_int (fun _ _ => rfl))))))))), ?_⟩
  have hs : sizeLine = 16777216 := by decide
  have a1 : (" " : Str).length = 1 := by decide +kernel
  have a2 : (" = " : Str).length = 3 := by decide +kernel
  have a6 : ("(" : Str).length = 1 := by decide +kernel
  have a7 : (")" : Str).length = 1 := by decide +kernel
  have a8 : ("wait " : Str).length = 5 := by decide +kernel
  have a9 : (" else " : Str).length = 6 := by decide +kernel
  have a0 : ("" : Str).length = 0 := by decide +kernel
  cases rs with
  | nil => cases hR
  | put x e t =>
    obtain ⟨a, u, r', e1, ha, te, _⟩ := hR
    cases e1
    have n1 := nm8 hok.1
    have le := Ex.len6 hok.2.1
    refine ⟨_, rfl, a, _, 0, _, rfl, rfl, SqT.of ha, atI_nat rfl, ?_⟩
    refine ⟨_, rfl, rfl, true, (by decide +kernel), ?_⟩
    refine ⟨_, rfl, a, _, 1, _, rfl, rfl, SqT.of ha, atI_nat (j := 1) rfl, _, _, rfl, rfl, by omega, ?_⟩
    refine ⟨_, rfl, a, _, 2, _, rfl, rfl, SqT.of ha, atI_nat (j := 2) rfl, u, e, rfl, te, Ex.fine_ok hok.2.1, fun p H1 s1 np hp => ?_⟩
    refine ⟨p, _, 0, _, rfl, rfl, SqT.of hp, atI_nat rfl, _, _, rfl, rfl, by rw [app_len]; omega, ?_⟩
    exact q H1 s1
  | go wd x g es t =>
    obtain ⟨a, p, ws, r', e1, ha, hp, ts, _⟩ := hR
    cases e1
    obtain ⟨k1, k2, k3⟩ := goT_len (w := wd) hok.1 hok.2.1 hok.2.2.1 hok.2.2.2.1
    have h4 := hok.2.2.1
    have n1 := nm8 hok.1
    have n2 := nm8 hok.2.1
    have a5 : (goW wd).length ≤ 4 := by cases wd <;> decide +kernel
    refine ⟨_, rfl, a, _, 0, _, rfl, rfl, SqT.of ha, atI_nat rfl, ?_⟩
    refine ⟨_, rfl, rfl, false, (by cases wd <;> decide +kernel), ?_⟩
    refine ⟨_, rfl, (by show 2 ≤ sizeLine; decide), fun b hb => ?_⟩
    have s0 := same_new hb (.lst [.str "go", .str "call"])
    refine ⟨b, _, rfl, .inl (SqL.of upd_same), rfl, rfl, true, (by cases wd <;> decide +kernel), ?_⟩
    generalize upd H b (.lst [.str "go", .str "call"]) = H0 at s0
    have ha0 := s0 _ _ ha
    refine ⟨⟨_, rfl⟩, _, rfl, a, _, 3, _, rfl, rfl, SqT.of ha0, atI_nat (j := 3) rfl, p, rfl, ⟨_, SqT.of (s0 _ _ hp)⟩, ?_⟩
    intro D hD
    refine lc_tup (K := K) (a := p) (xs := ws) (fun j H' => H' D = some (.lst (((es.take j).map Ex.txt).map V.str)) ∧ Same H0 H') ⟨upd_same, same_new hD _⟩ (fun j H' _ h => SqT.of (h.2 _ _ (s0 _ _ hp))) ?_ ?_
    · rintro j u H1 hu ⟨hD1, s1⟩
      obtain ⟨e, he, te⟩ := ts.get_ hu
      have hj : j < es.length := (List.getElem?_eq_some_iff.mp he).1
      refine ⟨rfl, ?_⟩
      refine ⟨_, rfl, u, e, rfl, (te.same s0).same s1, Ex.fine_ok (hok.2.2.2.1 e (List.mem_of_getElem? he)), fun p2 H2 s2 np2 hp2 => ?_⟩
      refine ⟨p2, _, 0, _, rfl, rfl, SqT.of hp2, atI_nat rfl, ?_⟩
      refine ⟨_, s2 _ _ hD1, by rw [List.length_map, List.length_map, List.length_take]; omega, ?_, ?_⟩
      · rw [upd_same, List.take_add_one, he, List.map_append, List.map_append]
        rfl
      · intro x o z
        rw [upd_ne (ne_of_none z hD)]
        exact s2 _ _ (s1 _ _ z)
    · rintro H1 ⟨hD1, s1⟩
      rw [ts.len, List.take_length] at hD1
      have ha1 := s1 _ _ ha0
      refine ⟨_, D, es.map Ex.txt, rfl, rfl, .inl (SqL.of hD1), by omega, ?_⟩
      refine ⟨_, rfl, _, _, rfl, rfl, by omega, _, rfl, a, _, 1, _, rfl, rfl, SqT.of ha1, atI_nat (j := 1) rfl, _, _, rfl, rfl, by rw [app_len]; omega, _, _, rfl, rfl, by rw [app_len, app_len]; omega, ?_⟩
      refine ⟨_, rfl, a, _, 2, _, rfl, rfl, SqT.of ha1, atI_nat (j := 2) rfl, _, _, rfl, rfl, by rw [app_len, app_len, app_len]; omega, _, _, rfl, rfl, by rw [app_len, app_len, app_len, app_len]; omega, ?_⟩
      refine ⟨_, rfl, _, _, rfl, rfl, by rw [app_len, app_len, app_len, app_len, app_len]; omega, _, _, rfl, rfl, by rw [app_len, app_len, app_len, app_len, app_len, app_len]; omega, ?_⟩
      exact q H1 (s0.trans s1)
  | wait x y oe t =>
    obtain ⟨a, u, r', e1, ha, to, _⟩ := hR
    cases e1
    have n1 := nm8 hok.1
    have n2 := nm8 hok.2.1
    refine ⟨_, rfl, a, _, 0, _, rfl, rfl, SqT.of ha, atI_nat rfl, ?_⟩
    refine ⟨_, rfl, rfl, false, (by decide +kernel), ?_⟩
    refine ⟨_, rfl, (by show 2 ≤ sizeLine; decide), fun b hb => ?_⟩
    have s0 := same_new hb (.lst [.str "go", .str "call"])
    refine ⟨b, _, rfl, .inl (SqL.of upd_same), rfl, rfl, false, (by decide +kernel), ?_⟩
    refine ⟨_, rfl, rfl, true, (by decide +kernel), ?_⟩
    generalize upd H b (.lst [.str "go", .str "call"]) = H0 at s0
    have ha0 := s0 _ _ ha
    refine ⟨_, rfl, a, _, 3, _, rfl, rfl, SqT.of ha0, atI_nat (j := 3) rfl, rfl, _, rfl, ?_⟩
    cases oe with
    | none =>
      cases to
      rw [decide_eq_true rfl]
      refine iteT ?_
      refine ⟨_, rfl, a, _, 1, _, rfl, rfl, SqT.of ha0, atI_nat (j := 1) rfl, _, _, rfl, rfl, by omega, _, _, rfl, rfl, by rw [app_len]; omega, ?_⟩
      refine ⟨_, rfl, a, _, 2, _, rfl, rfl, SqT.of ha0, atI_nat (j := 2) rfl, _, _, rfl, rfl, by rw [app_len, app_len]; omega, _, rfl, _, _, rfl, rfl, by rw [app_len, app_len, app_len]; omega, ?_⟩
      exact q H0 s0
    | some e =>
      have hne : ¬ u = V.non := fun z => by
        obtain ⟨a', xs', e', _⟩ := TrIn.tup to
        rw [z] at e'
        cases e'
      rw [decide_eq_false hne]
      have fe := hok.2.2.1 e rfl
      have le := Ex.len6 fe
      refine iteF ?_
      refine ⟨_, rfl, a, _, 3, _, rfl, rfl, SqT.of ha0, atI_nat (j := 3) rfl, u, e, rfl, TrIn.same s0 to, Ex.fine_ok fe, fun p2 H2 s2 np2 hp2 => ?_⟩
      refine ⟨p2, _, 0, _, rfl, rfl, SqT.of hp2, atI_nat rfl, _, _, rfl, rfl, by omega, ?_⟩
      have ha2 := s2 _ _ ha0
      refine ⟨_, rfl, a, _, 1, _, rfl, rfl, SqT.of ha2, atI_nat (j := 1) rfl, _, _, rfl, rfl, by omega, _, _, rfl, rfl, by rw [app_len]; omega, ?_⟩
      refine ⟨_, rfl, a, _, 2, _, rfl, rfl, SqT.of ha2, atI_nat (j := 2) rfl, _, _, rfl, rfl, by rw [app_len, app_len]; omega, _, rfl, _, _, rfl, rfl, by rw [app_len, app_len, app_len, app_len]; omega, ?_⟩
      exact q H2 (s0.trans s2)
  | iff e A B t => cases hg
  | give wd e t =>
    obtain ⟨a, u, r', e1, ha, te, _⟩ := hR
    cases e1
    have le := Ex.len6 hok.1
    have a5 : (giveW wd).length = 4 := by cases wd <;> decide +kernel
    refine ⟨_, rfl, a, _, 0, _, rfl, rfl, SqT.of ha, atI_nat rfl, ?_⟩
    refine ⟨_, rfl, rfl, false, (by cases wd <;> decide +kernel), ?_⟩
    refine ⟨_, rfl, (by show 2 ≤ sizeLine; decide), fun b hb => ?_⟩
    have s0 := same_new hb (.lst [.str "go", .str "call"])
    refine ⟨b, _, rfl, .inl (SqL.of upd_same), rfl, rfl, false, (by cases wd <;> decide +kernel), ?_⟩
    refine ⟨_, rfl, rfl, false, (by cases wd <;> decide +kernel), ?_⟩
    refine ⟨_, rfl, _, _, rfl, rfl, by omega, _, rfl, a, _, 1, _, rfl, rfl, SqT.of (s0 _ _ ha), atI_nat (j := 1) rfl, u, e, rfl, te.same s0, Ex.fine_ok hok.1, fun p2 H2 s2 np2 hp2 => ?_⟩
    refine ⟨p2, _, 0, _, rfl, rfl, SqT.of hp2, atI_nat rfl, _, _, rfl, rfl, by rw [app_len]; omega, ?_⟩
    exact q H2 (s0.trans s2)
theorem ok_linesTx {n : Nat} {f g i : Addr} {fd gd idd : FuncData} (n10 : n ≤ 10) (F : Fun K "_law_lines" "_law_lines" sLinesTx f fd) (LNs : 1 ≤ n → FnOk P w K mg base CX0 (7 + n) f fd ["_law_rows_here", "_law_ahead"] (spLinesTx (n - 1))) (mL : mg "_law_lines" = some (.ref f)) (bL : Binds K fd ["_law_rows_here", "_law_ahead"] [])
    (TX : Fk P w K mg base 6 "_law_text" g gd ["_law_tree_here"] (spText 6)) (RT : Fk P w K mg base 7 "_law_row_text" i idd ["_law_row_here"] spRowTx) : FnOk P w K mg base CX0 (7 + n + 1) f fd ["_law_rows_here", "_law_ahead"] (spLinesTx n) := by
  refine F.ok scLinesTx (fun vs H Q E h => ?_) (fun cdv A outer s H vs Q E hr h => ?_)
  · obtain ⟨p, xs, rs, dp, rfl, _⟩ := h
    rfl
  obtain ⟨p, xs, rs, dp, rfl, hp, hR, hok, hc, hdp, q⟩ := h
  have BG : ∃ sp, FnOk P w K mg base CX0 (7 + n) f fd ["_law_rows_here", "_law_ahead"] sp ∧ (1 ≤ n → sp = spLinesTx (n - 1)) := by
    by_cases h1 : 1 ≤ n
    · exact ⟨_, LNs h1, fun _ => rfl⟩
    · refine ⟨fun _ _ _ _ => False, ⟨fun _ _ _ _ h => h.elim, fun _ _ _ _ _ _ _ _ _ _ _ _ _ h => h.elim⟩, fun z => absurd z h1⟩
  obtain ⟨spB, GB, eB⟩ := BG
  have LN : Fk P w K mg base (7 + n) "_law_lines" f fd ["_law_rows_here", "_law_ahead"] spB := ⟨GB, mL, F.kp, bL⟩
  refine ⟨_, (pss_cons (ps_set (i := 2) scLinesTx.nd rfl (Or.inl rfl) (pe_lst pa_nil))
    (pss_cons (ps_for PassesOwn.never rfl (pi_tup (pv 0)) (pg_name (i := 3) scLinesTx.nd rfl (.inl rfl))
      (pss_one (ps_if (pt_cmpR op_eq (pe_ix ix_tup (pv 3) pe_int (fun _ _ => rfl)) pe_str (nomark _))
      (pss_cons (ps_expr (pe_bm PySem.F.plainAttrs_list PySem.F.slot_list_append PySem.F.type_list_append mt_append (pv 2) (pa_cons (pe_op op_add_str (pe_op op_add_str (pv 1) pe_str) (pe_ix ix_tup (pe_call TX.G (hr.mono (by omega)) (by rfl) TX.m TX.k TX.b .nil pass0 (pa_cons (pe_ix ix_tup (pv 3) pe_int (fun _ _ => rfl)) pa_nil)) pe_int (fun _ _ => rfl))) pa_nil)))
    (pss_cons (ps_expr (pe_bm PySem.F.plainAttrs_list PySem.F.slot_list_extend PySem.F.type_list_extend mt_extend (pv 2) (pa_cons (pe_call LN.G hr (by rfl) LN.m LN.k LN.b .nil pass0 (pa_cons (pe_ix ix_tup (pv 3) pe_int (fun _ _ => rfl)) (pa_cons (pe_op op_add_str (pv 1) pe_str) pa_nil))) pa_nil)))
    (C8.pss_cut (ps_if (pt_cmpR (op_neD hr.units) (pe_ix ix_tup (pv 3) pe_int (fun _ _ => rfl)) (pe_tup pa_nil) (nomark _))
      (pss_cons (ps_expr (pe_bm PySem.F.plainAttrs_list PySem.F.slot_list_append PySem.F.type_list_append mt_append (pv 2) (pa_cons (pe_op op_add_str (pv 1) pe_str) pa_nil)))
    (pss_one (ps_expr (pe_bm PySem.F.plainAttrs_list PySem.F.slot_list_extend PySem.F.type_list_extend mt_extend (pv 2) (pa_cons (pe_call LN.G hr (by rfl) LN.m LN.k LN.b .nil pass0 (pa_cons (pe_ix ix_tup (pv 3) pe_int (fun _ _ => rfl)) (pa_cons (pe_op op_add_str (pv 1) pe_str) pa_nil))) pa_nil)))))
      pss_nil)
    (pss_one (ps_expr (pe_bm PySem.F.plainAttrs_list PySem.F.slot_list_append PySem.F.type_list_append mt_append (pv 2) (pa_cons (pe_op op_add_str (pv 1) pe_str) pa_nil)))))))
      (pss_one (ps_expr (pe_bm PySem.F.plainAttrs_list PySem.F.slot_list_append PySem.F.type_list_append mt_append (pv 2) (pa_cons (pe_op op_add_str (pv 1) (pe_call RT.G (hr.mono (by omega)) (by rfl) RT.m RT.k RT.b .nil pass0 (pa_cons (pv 3) pa_nil))) pa_nil)))))))
    (pss_one (ps_ret (pv 2))))), ?_⟩
  have hs : sizeLine = 16777216 := by decide
  have hi := ind_len dp
  refine ⟨Nat.zero_le _, fun l hl => ?_⟩
  refine ⟨_, rfl, p, rfl, ⟨_, SqT.of ((same_new hl _) _ _ hp)⟩, ?_⟩
  refine for_tup (K := K) (a := p) (xs := xs) (fun i σ H' => ∃ (rs' : Rs) (done : List Str) (y : Option V), σ = [some (.ref p), some (.str (ind dp)), some (.ref l), y] ∧ RsIn H' rs' (xs.drop i) ∧ Rs.ok n rs' ∧ rs'.count ≤ 40 ∧ done ++ Rs.lines dp rs' = Rs.lines dp rs ∧ H' l = some (.lst (done.map V.str)) ∧ Same H H') ?_ ?_ ?_ ?_
  · exact ⟨rs, [], none, rfl, hR.same (same_new hl _), hok, hc, rfl, upd_same, same_new hl _⟩
  · rintro i σ H' _ ⟨_, _, _, _, _, _, _, _, _, s'⟩
    exact SqT.of (s' _ _ hp)
  · rintro i v σ H1 hv ⟨rs', done, y, rfl, hR', ok', hc', hd', hl1, s1⟩
    have hdr : xs.drop i = v :: xs.drop (i + 1) := by
      obtain ⟨hi, e⟩ := List.getElem?_eq_some_iff.mp hv
      rw [List.drop_eq_getElem_cons hi, e]
    rw [hdr] at hR'
    have ce := rs'.count_eq
    have tot := (lines_ok dp n rs hok (by omega)).2
    rw [← hd', List.length_append] at tot
    have hh := hdL_len (n := dp) ok' (by omega)
    have hrl := rowT_len ok'
    -- the turn's end
    have fin : ∀ (H2 : Hp) (ls : List Str), ls = done ++ rs'.hdL dp → (∀ b o, H b = some o → H2 b = some o) → RsIn H2 rs'.tl (xs.drop (i + 1)) → H2 l = some (.lst (ls.map V.str)) → ∃ (rs' : Rs) (done : List Str) (y : Option V), [some (V.ref p), some (V.str (ind dp)), some (V.ref l), some v] = [some (.ref p), some (.str (ind dp)), some (.ref l), y] ∧ RsIn H2 rs' (xs.drop (i + 1)) ∧ Rs.ok n rs' ∧ rs'.count ≤ 40 ∧ done ++ Rs.lines dp rs' = Rs.lines dp rs ∧ H2 l = some (.lst (done.map V.str)) ∧ Same H H2 := fun H2 ls e s2 hr2 h2 => ⟨rs'.tl, ls, _, rfl, hr2, Rs.ok_tl ok', by omega, by rw [e, List.append_assoc, ← Rs.lines_eq]; exact hd', h2, s2⟩
    have plain : rs'.isIf = false → rs'.hdL dp = [ind dp ++ rs'.rowT] → ∀ (H2 : Hp), Same H1 H2 → ∃ v', some v = some v' ∧ True := fun _ _ _ _ => ⟨v, rfl, trivial⟩
    have hR0 := hR'
    have htl := hR'.tl
    cases rs' with
    | nil => cases hR'
    | iff e A' B t =>
      obtain ⟨a, u, pA, xA, pB, xB, r', e1, ha, te, hpA, hA, hpB, hB, _⟩ := hR'
      cases e1
      have hn : 1 ≤ n := ok'.1
      have le := Ex.len6 ok'.2.1
      have a3 : ("else" : Str).length = 4 := by decide +kernel
      have a4 : ("end" : Str).length = 3 := by decide +kernel
      have a5 : ("if " : Str).length = 3 := by decide +kernel
      have a6 : ("  " : Str).length = 2 := by decide +kernel
      have ec : (Rs.iff e A' B t).count = 1 + A'.count + B.count + t.count := rfl
      have lA := (lines_ok (dp + 1) (n - 1) A' ok'.2.2.1 (by omega)).2
      have lB' := (lines_ok (dp + 1) (n - 1) B ok'.2.2.2.1 (by omega)).2
      refine ⟨_, rfl, a, _, 0, _, rfl, rfl, SqT.of ha, atI_nat rfl, rfl, true, (by decide +kernel), ?_⟩
      refine ⟨_, rfl, .inl ⟨rfl, _, SqL.of hl1⟩, _, rfl, _, _, rfl, rfl, by omega, _, rfl, a, _, 1, _, rfl, rfl, SqT.of ha, atI_nat (j := 1) rfl, u, e, rfl, te, Ex.fine_ok ok'.2.1, fun p2 H2 s2 np2 hp2 => ?_⟩
      refine ⟨p2, _, 0, _, rfl, rfl, SqT.of hp2, atI_nat rfl, _, _, rfl, rfl, by rw [app_len]; omega, ?_⟩
      have hl2 := s2 _ _ hl1
      refine ⟨l, _, _, rfl, rfl, hl2, by rw [List.length_map]; omega, ?_⟩
      have s3 : Same H (upd H2 l (.lst (done.map V.str ++ [.str (ind dp ++ "if " ++ e.txt)]))) := fun x o z => by rw [upd_ne (ne_of_none z hl)]; exact s2 _ _ (s1 _ _ z)
      have k3 : KeepT H1 (upd H2 l (.lst (done.map V.str ++ [.str (ind dp ++ "if " ++ e.txt)]))) := (KeepT.of s2).trans (.upd hl2 (fun xs z => by cases z))
      have h3 : (upd H2 l (.lst (done.map V.str ++ [.str (ind dp ++ "if " ++ e.txt)]))) l = some (.lst ((done ++ [ind dp ++ "if " ++ e.txt]).map V.str)) := by rw [upd_same, List.map_append]; rfl
      generalize upd H2 l (.lst (done.map V.str ++ [.str (ind dp ++ "if " ++ e.txt)])) = H3 at s3 k3 h3
      refine ⟨_, rfl, .inl ⟨rfl, _, SqL.of h3⟩, _, rfl, a, _, 2, _, rfl, rfl, SqT.of (k3 _ _ ha), atI_nat (j := 2) rfl, _, rfl, _, _, rfl, rfl, by omega, ?_⟩
      rw [eB hn]
      refine ⟨pA, xA, A', dp + 1, rfl, k3 _ _ hpA, hA.keep k3, ok'.2.2.1, by omega, by omega, fun l4 H4 s4 nl4 h4 => ?_⟩
      have h34 := s4 _ _ h3
      refine ⟨l, l4, _, _, rfl, rfl, h34, h4, by rw [List.length_map, List.length_map, List.length_append, List.length_singleton]; omega, ?_⟩
      have s5 : Same H (upd H4 l (.lst ((done ++ [ind dp ++ "if " ++ e.txt]).map V.str ++ (Rs.lines (dp + 1) A').map V.str))) := fun x o z => by rw [upd_ne (ne_of_none z hl)]; exact s4 _ _ (s3 _ _ z)
      have k5 : KeepT H1 (upd H4 l (.lst ((done ++ [ind dp ++ "if " ++ e.txt]).map V.str ++ (Rs.lines (dp + 1) A').map V.str))) := k3.trans ((KeepT.of s4).trans (.upd h34 (fun xs z => by cases z)))
      have h5 : (upd H4 l (.lst ((done ++ [ind dp ++ "if " ++ e.txt]).map V.str ++ (Rs.lines (dp + 1) A').map V.str))) l = some (.lst ((done ++ [ind dp ++ "if " ++ e.txt] ++ Rs.lines (dp + 1) A').map V.str)) := by rw [upd_same, List.map_append (l₂ := Rs.lines (dp + 1) A')]
      generalize upd H4 l (.lst ((done ++ [ind dp ++ "if " ++ e.txt]).map V.str ++ (Rs.lines (dp + 1) A').map V.str)) = H5 at s5 k5 h5
      refine ⟨fun σ' H' => σ' = [some (.ref p), some (.str (ind dp)), some (.ref l), some (.ref a)] ∧ Same H H' ∧ KeepT H1 H' ∧ H' l = some (.lst ((done ++ [ind dp ++ "if " ++ e.txt] ++ Rs.lines (dp + 1) A' ++ (if B.isNil = true then [] else (ind dp ++ "else") :: Rs.lines (dp + 1) B)).map V.str)), ?_, ?_⟩
      · refine ⟨_, rfl, a, _, 3, _, rfl, rfl, SqT.of (k5 _ _ ha), atI_nat (j := 3) rfl, Nat.zero_le _, fun pe hpe => ?_⟩
        have s6 := same_new hpe (.tup [])
        refine ⟨.tuple B.data, .tuple [], .tup (SqT.of (s6 _ _ (k5 _ _ hpB))) ((hB.keep k5).same s6).dp, .tup (SqT.of upd_same) .nil, Rs.shaped ok'.2.2.2.1 (by omega), rfl, _, rfl, ?_⟩
        rw [rows_ne]
        have h6 := s6 _ _ h5
        have k6 : KeepT H1 _ := k5.trans (.of s6)
        have s06 := s5.trans s6
        generalize upd H5 pe (.tup []) = H6 at s6 h6 k6 s06
        cases hbn : B.isNil with
        | true =>
          refine ⟨rfl, s06, k6, ?_⟩
          rw [if_pos rfl, List.append_nil]
          exact h6
        | false =>
          refine ⟨_, rfl, .inl ⟨rfl, _, SqL.of h6⟩, _, rfl, _, _, rfl, rfl, by omega, ?_⟩
          refine ⟨l, _, _, rfl, rfl, h6, by rw [List.length_map, List.length_append, List.length_append, List.length_singleton]; omega, ?_⟩
          generalize hLL : done ++ [ind dp ++ "if " ++ e.txt] ++ Rs.lines (dp + 1) A' = LL at h6
          have lLL : LL.length ≤ 1000 := by
            rw [← hLL, List.length_append, List.length_append, List.length_singleton]; omega
          have s7 : Same H (upd H6 l (.lst (LL.map V.str ++ [.str (ind dp ++ "else")]))) := fun x o z => by rw [upd_ne (ne_of_none z hl)]; exact s06 _ _ z
          have k7 : KeepT H1 (upd H6 l (.lst (LL.map V.str ++ [.str (ind dp ++ "else")]))) := k6.trans (.upd h6 (fun xs z => by cases z))
          have h7 : (upd H6 l (.lst (LL.map V.str ++ [.str (ind dp ++ "else")]))) l = some (.lst (LL.map V.str ++ [.str (ind dp ++ "else")])) := upd_same
          generalize upd H6 l (.lst (LL.map V.str ++ [.str (ind dp ++ "else")])) = H7 at s7 k7 h7
          refine ⟨_, rfl, .inl ⟨rfl, _, SqL.of h7⟩, _, rfl, a, _, 3, _, rfl, rfl, SqT.of (k7 _ _ ha), atI_nat (j := 3) rfl, _, rfl, _, _, rfl, rfl, by omega, ?_⟩
          refine ⟨pB, xB, B, dp + 1, rfl, k7 _ _ hpB, hB.keep k7, ok'.2.2.2.1, by omega, by omega, fun l8 H8 s8 nl8 h8 => ?_⟩
          have h78 := s8 _ _ h7
          refine ⟨l, l8, _, _, rfl, rfl, h78, h8, ?_, rfl, ?_, ?_, ?_⟩
          · rw [List.length_append, List.length_map, List.length_map]
            show _ + 1 + _ ≤ sizeLine
            omega
          · intro x o z
            rw [upd_ne (ne_of_none z hl)]
            exact s8 _ _ (s7 _ _ z)
          · exact k7.trans ((KeepT.of s8).trans (.upd h78 (fun xs z => by cases z)))
          · rw [upd_same, if_neg Bool.false_ne_true]
            simp [List.map_append]
      · rintro σ' H6 ⟨rfl, s6, k6, h6⟩
        generalize hLL : done ++ [ind dp ++ "if " ++ e.txt] ++ Rs.lines (dp + 1) A' ++ (if B.isNil = true then [] else (ind dp ++ "else") :: Rs.lines (dp + 1) B) = LL at h6
        have lel : (if B.isNil = true then ([] : List Str) else (ind dp ++ "else") :: Rs.lines (dp + 1) B).length ≤ 3 * B.count + 1 := by
          split
          · exact Nat.zero_le _
          · rw [List.length_cons]; omega
        have lLL : LL.length ≤ 2000 := by
          rw [← hLL, List.length_append, List.length_append, List.length_append, List.length_singleton]; omega
        refine ⟨_, rfl, .inl ⟨rfl, _, SqL.of h6⟩, _, rfl, _, _, rfl, rfl, by omega, ?_⟩
        refine ⟨l, _, _, rfl, rfl, h6, by rw [List.length_map]; omega, ?_⟩
        refine fin _ (LL ++ [ind dp ++ "end"]) ?_ (fun x o z => ?_) ((htl.keep k6).keep (.upd h6 (fun xs z => by cases z))) (by rw [upd_same, List.map_append]; rfl)
        · rw [← hLL]
          show _ = done ++ ((ind dp ++ "if " ++ e.txt) :: (Rs.lines (dp + 1) A' ++ (if B.isNil = true then [] else (ind dp ++ "else") :: Rs.lines (dp + 1) B) ++ [ind dp ++ "end"]))
          simp [List.append_assoc]
        · rw [upd_ne (ne_of_none z hl)]
          exact s6 _ _ z
    | put x e t =>
      obtain ⟨a, u, r', e1, ha, _⟩ := hR'
      cases e1
      refine ⟨_, rfl, a, _, 0, _, rfl, rfl, SqT.of ha, atI_nat rfl, rfl, false, (by decide +kernel), ?_⟩
      refine ⟨_, rfl, .inl ⟨rfl, _, SqL.of hl1⟩, _, rfl, _, rfl, _, _, _, n, rfl, hR0, ok', rfl, fun H2 s2 => ?_⟩
      have hl2 := s2 _ _ hl1
      refine ⟨_, _, rfl, rfl, by omega, l, _, _, rfl, rfl, hl2, by rw [List.length_map]; omega, ?_⟩
      exact fin _ (done ++ [ind dp ++ Rs.rowT (.put x e t)]) rfl (fun x o z => by rw [upd_ne (ne_of_none z hl)]; exact s2 _ _ (s1 _ _ z)) (RsIn.upd_lst hl2 (htl.same s2)) (by rw [upd_same, List.map_append]; rfl)
    | wait x y' oe t =>
      obtain ⟨a, u, r', e1, ha, _⟩ := hR'
      cases e1
      refine ⟨_, rfl, a, _, 0, _, rfl, rfl, SqT.of ha, atI_nat rfl, rfl, false, (by decide +kernel), ?_⟩
      refine ⟨_, rfl, .inl ⟨rfl, _, SqL.of hl1⟩, _, rfl, _, rfl, _, _, _, n, rfl, hR0, ok', rfl, fun H2 s2 => ?_⟩
      have hl2 := s2 _ _ hl1
      refine ⟨_, _, rfl, rfl, by omega, l, _, _, rfl, rfl, hl2, by rw [List.length_map]; omega, ?_⟩
      exact fin _ (done ++ [ind dp ++ Rs.rowT (.wait x y' oe t)]) rfl (fun x o z => by rw [upd_ne (ne_of_none z hl)]; exact s2 _ _ (s1 _ _ z)) (RsIn.upd_lst hl2 (htl.same s2)) (by rw [upd_same, List.map_append]; rfl)
    | go wd x g es t =>
      obtain ⟨a, pp, ws, r', e1, ha, _⟩ := hR'
      cases e1
      refine ⟨_, rfl, a, _, 0, _, rfl, rfl, SqT.of ha, atI_nat rfl, rfl, false, (by cases wd <;> decide +kernel), ?_⟩
      refine ⟨_, rfl, .inl ⟨rfl, _, SqL.of hl1⟩, _, rfl, _, rfl, _, _, _, n, rfl, hR0, ok', rfl, fun H2 s2 => ?_⟩
      have hl2 := s2 _ _ hl1
      refine ⟨_, _, rfl, rfl, by omega, l, _, _, rfl, rfl, hl2, by rw [List.length_map]; omega, ?_⟩
      exact fin _ (done ++ [ind dp ++ Rs.rowT (.go wd x g es t)]) rfl (fun x o z => by rw [upd_ne (ne_of_none z hl)]; exact s2 _ _ (s1 _ _ z)) (RsIn.upd_lst hl2 (htl.same s2)) (by rw [upd_same, List.map_append]; rfl)
    | give wd e t =>
      obtain ⟨a, u, r', e1, ha, _⟩ := hR'
      cases e1
      refine ⟨_, rfl, a, _, 0, _, rfl, rfl, SqT.of ha, atI_nat rfl, rfl, false, (by cases wd <;> decide +kernel), ?_⟩
      refine ⟨_, rfl, .inl ⟨rfl, _, SqL.of hl1⟩, _, rfl, _, rfl, _, _, _, n, rfl, hR0, ok', rfl, fun H2 s2 => ?_⟩
      have hl2 := s2 _ _ hl1
      refine ⟨_, _, rfl, rfl, by omega, l, _, _, rfl, rfl, hl2, by rw [List.length_map]; omega, ?_⟩
      exact fin _ (done ++ [ind dp ++ Rs.rowT (.give wd e t)]) rfl (fun x o z => by rw [upd_ne (ne_of_none z hl)]; exact s2 _ _ (s1 _ _ z)) (RsIn.upd_lst hl2 (htl.same s2)) (by rw [upd_same, List.map_append]; rfl)
  · rintro σ H1 ⟨rs', done, y, rfl, hR', ok', hc', hd', hl1, s1⟩
    rw [List.drop_length] at hR'
    have z := (nil_iff hR').mpr rfl
    have z' : rs' = .nil := by cases rs' <;> first | rfl | cases z
    subst z'
    have e : done = Rs.lines dp rs := by rw [← hd']; exact (List.append_nil done).symm
    exact ⟨_, rfl, q l H1 s1 hl (e ▸ hl1)⟩
theorem linesTxAll {f g i : Addr} {fd gd idd : FuncData} (F : Fun K "_law_lines" "_law_lines" sLinesTx f fd) (mL : mg "_law_lines" = some (.ref f)) (bL : Binds K fd ["_law_rows_here", "_law_ahead"] []) (TX : Fk P w K mg base 6 "_law_text" g gd ["_law_tree_here"] (spText 6)) (RT : Fk P w K mg base 7 "_law_row_text" i idd ["_law_row_here"] spRowTx) :
    ∀ n : Nat, n ≤ 10 → FnOk P w K mg base CX0 (7 + n + 1) f fd ["_law_rows_here", "_law_ahead"] (spLinesTx n)
  | 0, _ => ok_linesTx (n := 0) (by decide) F (fun h => absurd h (by decide)) mL bL TX RT
  | n + 1, h => ok_linesTx (n := n + 1) h F (fun _ => linesTxAll F mL bL TX RT n (by omega)) mL bL TX RT
theorem ok_workTx {f i : Addr} {fd idd : FuncData} (F : Fun K "_law_work_text" "_law_work_text" sWorkTx f fd) (LN : Fk P w K mg base 11 "_law_lines" i idd ["_law_rows_here", "_law_ahead"] (spLinesTx 3)) (T : Bi mg) : FnOk P w K mg base CX0 12 f fd ["_law_work", "_law_ahead"] spWorkTx := by
  refine F.ok scWorkTx (fun vs H Q E h => ?_) (fun cdv A outer s H vs Q E hr h => ?_)
  · obtain ⟨v, W, dp, rfl, _⟩ := h
    rfl
  obtain ⟨v, W, dp, rfl, ⟨a, pn, pr, xs, rfl, ha, hpn, hpr, hR⟩, ok, hdp, q⟩ := h
  refine ⟨_, (pss_cons (ps_set (i := 2) scWorkTx.nd rfl (Or.inl rfl) (pe_op op_add_str (pe_op op_add_str (pe_op op_add_str (pe_op op_add_str (pe_op op_add_str (pe_op op_add_str (pv 1) pe_str) (pe_ix ix_tup (pv 0) pe_int (fun _ _ => rfl))) pe_str) (pe_join pe_str (pe_ix ix_tup (pv 0) pe_int (fun _ _ => rfl)))) pe_str) (pe_callTy call_str_int (by rfl) T.str (by decide +kernel) (pa_cons (pe_ix ix_tup (pv 0) pe_int (fun _ _ => rfl)) pa_nil))))
    (pss_one (ps_ret (pe_join pe_str (pe_op op_cat (pe_lst (pa_cons (pv 2) pa_nil)) (pe_call LN.G hr (by rfl) LN.m LN.k LN.b .nil pass0 (pa_cons (pe_ix ix_tup (pv 0) pe_int (fun _ _ => rfl)) (pa_cons (pe_op op_add_str (pv 1) pe_str) pa_nil)))))))), ?_⟩
  have hs : sizeLine = 16777216 := by decide
  have hi := ind_len dp
  obtain ⟨k1, k2, k3, k4⟩ := headT_len ok (show dp ≤ 40 by omega)
  obtain ⟨t1, t2, t3⟩ := txt_sum ok (show dp ≤ 30 by omega)
  have n1 := nm8 ok.name
  have a3 : ("(" : Str).length = 1 := by decide +kernel
  have a4 : (") room " : Str).length = 7 := by decide +kernel
  have a5 : ("work " : Str).length = 5 := by decide +kernel
  have a6 : ("  " : Str).length = 2 := by decide +kernel
  have rlog : W.room.natAbs.log2 < 1920 := log_ok ok.room0 (by
    have h2 := ok.room1
    have e : (1000000 : Int) ^ 5 = 1000000000000000000000000000000 := by decide
    rw [e]
    omega)
  refine ⟨_, rfl, _, _, rfl, rfl, by omega, _, rfl, a, _, 1, _, rfl, rfl, SqT.of ha, atI_nat (j := 1) rfl, _, _, rfl, rfl, by rw [app_len]; omega, _, _, rfl, rfl, by rw [app_len, app_len]; omega, ?_⟩
  refine ⟨⟨_, rfl⟩, _, rfl, a, _, 2, _, rfl, rfl, SqT.of ha, atI_nat (j := 2) rfl, _, pn, W.names, rfl, rfl, .inr (SqT.of hpn), by omega, _, _, rfl, rfl, by rw [app_len, app_len, app_len]; omega, _, _, rfl, rfl, by rw [app_len, app_len, app_len, app_len]; omega, ?_⟩
  refine ⟨_, rfl, a, _, 3, _, rfl, rfl, SqT.of ha, atI_nat (j := 3) rfl, _, rfl, rlog, _, _, rfl, rfl, by rw [app_len, app_len, app_len, app_len, app_len]; omega, ?_⟩
  refine ⟨⟨_, rfl⟩, _, rfl, (by show 1 ≤ sizeLine; decide), fun l hl => ?_⟩
  have s1 := same_new hl (.lst [.str (headT dp W)])
  refine ⟨_, rfl, a, _, 4, _, rfl, rfl, SqT.of (s1 _ _ ha), atI_nat (j := 4) rfl, _, rfl, _, _, rfl, rfl, by omega, pr, xs, W.rows, dp + 1, rfl, s1 _ _ hpr, hR.same s1, ok.rows, ok.count, by omega, fun l2 H2 s2 nl2 h2 => ?_⟩
  refine ⟨l, l2, [.str (headT dp W)], _, rfl, rfl, s2 _ _ upd_same, h2, by rw [List.length_map]; show 1 + _ ≤ sizeLine; omega, fun l3 hl3 => ?_⟩
  have s3 := same_new hl3 (.lst ([V.str (headT dp W)] ++ (Rs.lines (dp + 1) W.rows).map V.str))
  refine ⟨_, l3, headT dp W :: Rs.lines (dp + 1) W.rows, rfl, rfl, .inl (SqL.of upd_same), by omega, ?_⟩
  exact q _ (s1.trans (s2.trans s3))
end
end SH

set_option Elab.async false
set_option linter.all false
set_option maxRecDepth 100000
namespace SH
open PySem L2
abbrev sIsRight : Stmt := topS 70
abbrev sLaw : Stmt := topS 71
theorem scIsRight : FnScope ["_law_works_here", "_law_book", "_law_texts", "_law_told", "_law_work"] ["_law_works_here", "_law_book"] (defScope sIsRight) := ⟨rfl, rfl, rfl, by decide +kernel, rfl, by decide +kernel, by decide +kernel⟩
theorem scLaw : FnScope ["_law_script", "_law_seen", "_law_k", "_law_bag_here", "_law_works_here", "_law_work", "_law_far", "_law_told", "_law_due", "_law_book", "_law_many", "_law_text_here", "_law_some", "_law_one"] ["_law_script"] (defScope sLaw) := ⟨rfl, rfl, rfl, by decide +kernel, rfl, by decide +kernel, by decide +kernel⟩
theorem call_isi_at {X : Cx} (K : PySem.W.Frag) (h : X.K = K := by rfl) : CallR X (.builtin "isinstance") (rIsi K) := h ▸ call_isi
/-! ### signs -/
def asc (s : Str) : Prop := ∀ c ∈ codes s, c < 1114112
theorem asc_app {a b : Str} (h : asc a) (k : asc b) : asc (a ++ b) := fun c hc => by
  rw [codes_app] at hc
  exact (List.mem_append.mp hc).elim (h c) (k c)
theorem asc_lit (t : String) : asc (PySem.Str.ofString t) := fun c hc => by
  have e : codes (PySem.Str.ofString t) = t.toList.map Char.toNat := by rw [PySem.Str.ofString_eq_toList]; unfold codes; rw [List.toList_toArray]
  rw [e] at hc
  obtain ⟨ch, _, rfl⟩ := List.mem_map.mp hc
  have v : ch.val.toNat < 0xd800 ∨ (0xdfff < ch.val.toNat ∧ ch.val.toNat < 0x110000) := ch.valid
  show ch.val.toNat < 1114112
  omega
theorem asc_nm {s : Str} (h : NmOk s) : asc s := fun c hc => by
  have := (h.1.2.2 c hc).2
  omega
theorem asc_join {a : Str} (ha : asc a) : ∀ {l : List Str}, (∀ y ∈ l, asc y) → asc (PySem.Txt.join a l) := by
  have step : ∀ l : List Str, (∀ y ∈ l, asc y) → asc (PySem.Str.join a l) := by
    intro l
    induction l with
    | nil => intro _ c hc; cases hc
    | cons x r ih =>
      intro h
      cases r with
      | nil => exact h x List.mem_cons_self
      | cons y t => exact asc_app (asc_app (h x List.mem_cons_self) ha) (ih fun z hz => h z (List.mem_cons_of_mem _ hz))
  intro l h
  show asc (Builtin.Str.glued a l)
  rw [StrLaws.glued_eq_join]
  exact step l h
theorem asc_br {b : Bool} {t : Str} (h : asc t) : asc (br b t) := by
  unfold br
  split
  · exact asc_app (asc_app (asc_lit _) h) (asc_lit _)
  · exact h
theorem asc_sg (g : Sg) : asc g.txt := by cases g <;> exact asc_lit _
theorem Ex.asc : ∀ {n : Nat} {e : Ex}, Ex.fine n e → SH.asc e.txt
  | 0, _, h => h.elim
  | n + 1, .num i, h => asc_lit _
  | n + 1, .nam s, h => asc_nm h
  | n + 1, .op g l r, h => asc_app (asc_app (asc_app (asc_app (asc_br (Ex.asc h.1)) (asc_lit _)) (asc_sg g)) (asc_lit _)) (asc_br (Ex.asc h.2))
theorem asc_ind : ∀ n : Nat, asc (ind n)
  | 0 => asc_lit _
  | n + 1 => asc_app (asc_ind n) (asc_lit _)
theorem asc_go {w : Bool} {x f : Str} {es : List Ex} (hx : NmOk x) (hf : NmOk f) (he : ∀ e ∈ es, Ex.fine 6 e) : asc (goT w x f es) := by
  have a : asc (goW w) := by cases w <;> exact asc_lit _
  refine asc_app (asc_app (asc_app (asc_app (asc_app (asc_app (asc_app a (asc_lit _)) (asc_nm hx)) (asc_lit _)) (asc_nm hf)) (asc_lit _)) (asc_join (asc_lit _) fun y hy => ?_)) (asc_lit _)
  obtain ⟨e, he', rfl⟩ := List.mem_map.mp hy
  exact Ex.asc (he e he')
theorem asc_wait {x y : Str} {oe : Option Ex} (hx : NmOk x) (hy : NmOk y) (he : ∀ e, oe = some e → Ex.fine 6 e) : asc (waitT x y oe) := by
  cases oe with
  | none => exact asc_app (asc_app (asc_app (asc_app (asc_lit _) (asc_nm hx)) (asc_lit _)) (asc_nm hy)) (asc_lit _)
  | some e => exact asc_app (asc_app (asc_app (asc_app (asc_lit _) (asc_nm hx)) (asc_lit _)) (asc_nm hy)) (asc_app (asc_lit _) (Ex.asc (he e rfl)))
theorem asc_lines : ∀ (n m : Nat) (r : Rs), Rs.ok m r → ∀ y ∈ Rs.lines n r, asc y
  | n, m, .nil, _ => fun y h => by cases h
  | n, m, .put x e t, h => fun y hy => by
    rcases List.mem_cons.mp hy with rfl | hy
    · exact asc_app (asc_ind n) (asc_app (asc_app (asc_nm h.1) (asc_lit _)) (Ex.asc h.2.1))
    · exact asc_lines n m t h.2.2 y hy
  | n, m, .go w x f es t, h => fun y hy => by
    rcases List.mem_cons.mp hy with rfl | hy
    · exact asc_app (asc_ind n) (asc_go h.1 h.2.1 h.2.2.2.1)
    · exact asc_lines n m t h.2.2.2.2 y hy
  | n, m, .wait x y' oe t, h => fun y hy => by
    rcases List.mem_cons.mp hy with rfl | hy
    · exact asc_app (asc_ind n) (asc_wait h.1 h.2.1 h.2.2.1)
    · exact asc_lines n m t h.2.2.2 y hy
  | n, m, .give w e t, h => fun y hy => by
    rcases List.mem_cons.mp hy with rfl | hy
    · have a : asc (giveW w) := by cases w <;> exact asc_lit _
      exact asc_app (asc_ind n) (asc_app (asc_app a (asc_lit _)) (Ex.asc h.1))
    · exact asc_lines n m t h.2 y hy
  | n, m, .iff e a b t, h => fun y hy => by
    rcases List.mem_append.mp hy with hy | hy
    · rcases List.mem_cons.mp hy with rfl | hy
      · exact asc_app (asc_app (asc_ind n) (asc_lit _)) (Ex.asc h.2.1)
      · rcases List.mem_append.mp hy with hy | hy
        · rcases List.mem_append.mp hy with hy | hy
          · exact asc_lines (n + 1) (m - 1) a h.2.2.1 y hy
          · split at hy
            · cases hy
            · rcases List.mem_cons.mp hy with rfl | hy
              · exact asc_app (asc_ind n) (asc_lit _)
              · exact asc_lines (n + 1) (m - 1) b h.2.2.2.1 y hy
        · rw [List.mem_singleton.mp hy]
          exact asc_app (asc_ind n) (asc_lit _)
    · exact asc_lines n m t h.2.2.2.2 y hy
theorem Wk.asc {n : Nat} {W : Wk} (h : W.ok) : SH.asc (W.txt n) := by
  refine asc_join (asc_lit _) fun y hy => ?_
  rcases List.mem_cons.mp hy with rfl | hy
  · exact asc_app (asc_app (asc_app (asc_app (asc_app (asc_app (asc_ind n) (asc_lit _)) (asc_nm h.name)) (asc_lit _)) (asc_join (asc_lit _) fun y hy => asc_nm (h.names y hy))) (asc_lit _)) (asc_lit _)
  · exact asc_lines (n + 1) 3 W.rows h.rows y hy
theorem sok_asc {s : Str} (h : asc s) : PyData.strOk s = true := by
  unfold PyData.strOk
  rw [Array.all_eq_true']
  intro x hx
  exact decide_eq_true (h x (Array.mem_toList_iff.mpr hx))
theorem lay_ascs : ∀ {l : List Str}, (∀ s ∈ l, asc s) → PyData.canLayAll0 (l.map PyData.str) = true ∧ PyData.depthAll (l.map PyData.str) = 0
  | [], _ => ⟨lay_nil, dep_nil⟩
  | a :: r, h => by
    obtain ⟨h1, h2⟩ := lay_ascs (l := r) fun s hs => h s (List.mem_cons_of_mem _ hs)
    refine ⟨?_, ?_⟩
    · show PyData.canLayAll0 (.str a :: r.map PyData.str) = true
      rw [lay_cons, lay_str, sok_asc (h a List.mem_cons_self), h1]; rfl
    · show PyData.depthAll (.str a :: r.map PyData.str) = 0
      rw [dep_cons, dep_str, h2]; rfl
theorem shaped_asc {l : List Str} (h : ∀ s ∈ l, asc s) : SeqAt.shaped (.list (l.map PyData.str)) = true ∧ PyData.eqv (.list (l.map PyData.str)) (.list (l.map PyData.str)) = true := by
  obtain ⟨h1, h2⟩ := lay_ascs h
  have hc : (PyData.list (l.map PyData.str)).canLay0 = true := by rw [PyData.canLay0]; exact h1
  refine ⟨?_, SeqAt.eqv_refl _ hc⟩
  unfold SeqAt.shaped
  have hd : (PyData.list (l.map PyData.str)).depth = 1 := by rw [PyData.depth, h2]
  rw [hc, hd]
  rfl
def spIsRight (C : Addr) : Sp := fun vs H Q _ => ∃ (l x : Addr) (us : List V) (Ws : List Wk), vs = [.ref l, .ref x] ∧ H l = some (.lst us) ∧ WksIn H Ws us ∧ WksOk Ws ∧ Ws.length ≤ 10 ∧ BkIn H C x Ws ∧ ∀ H', Same H H' → Q (.bl true) H'
def spLaw (K : PySem.W.Frag) : Sp := fun vs H Q _ => ∃ (a : Addr) (ns : List Int), vs = [.ref a] ∧ SqL K H a (ns.map V.int) ∧ ns.length ≤ 63 ∧ ∀ H', Q (.bl true) H'
/-- what was seen: lists of works with their books -/
def SeenB (C ps : Addr) (H : Hp) (vs : List V) : Prop := ∀ v ∈ vs, ∃ (p l x : Addr) (us : List V) (Ws : List Wk), v = .ref p ∧ H p = some (.tup [.ref l, .ref x]) ∧ l ≠ ps ∧ H l = some (.lst us) ∧ WksIn H Ws us ∧ WksOk Ws ∧ Ws.length ≤ 10 ∧ BkIn H C x Ws
theorem SeenB.same {C ps : Addr} {H H' : Hp} {vs : List V} (h : SeenB C ps H vs) (s : Same H H') : SeenB C ps H' vs := fun v hv => by
  obtain ⟨p, l, x, us, Ws, e, h1, h2, h3, h4, h5, h6, h7⟩ := h v hv
  exact ⟨p, l, x, us, Ws, e, s _ _ h1, h2, s _ _ h3, h4.same s, h5, h6, h7.same s⟩
theorem BkIn.upd_lst {H : Hp} {C x b : Addr} {ys zs : List V} {Ws : List Wk} (hb : H b = some (.lst ys)) : BkIn H C x Ws → BkIn (upd H b (.lst zs)) C x Ws
  | ⟨dx, p, us, k1, k2, q⟩ => ⟨dx, p, us, by rw [upd_ne (fun z => by rw [z, hb] at k1; cases k1)]; exact k1, tup_updl hb k2, q.keep (.upd hb (fun xs z => by cases z))⟩
theorem SeenB.upd {C ps : Addr} {H : Hp} {ys zs vs : List V} (hb : H ps = some (.lst ys)) (h : SeenB C ps H vs) : SeenB C ps (upd H ps (.lst zs)) vs := fun v hv => by
  obtain ⟨p, l, x, us, Ws, e, h1, h2, h3, h4, h5, h6, h7⟩ := h v hv
  exact ⟨p, l, x, us, Ws, e, tup_updl hb h1, h2, by rw [upd_ne h2]; exact h3, h4.keep (.upd hb (fun xs z => by cases z)), h5, h6, h7.upd_lst hb⟩
theorem fresh_but {b : Addr} {H0 H1 H2 : Hp} (s : Same H0 H1) (hb : H0 b = none) (u : But b H1 H2) : Same H0 H2 := fun a o e => u a o (ne_of_none e hb) (s a o e)
section
variable {P : Program} {w : World} {K : PySem.W.Frag} {mg : Str → Option Value} {base : Heap}
theorem ok_isRight {f g i C : Addr} {fd gd idd : FuncData} (F : Fun K "_law_is_right" "_law_is_right" sIsRight f fd) (WT : Fk P w K mg base 12 "_law_work_text" g gd ["_law_work", "_law_ahead"] spWorkTx) (hS : PySem.W.findIn K (.ref C) "__str__" = some (some (.ref i))) (fS : PySem.W.isFn K (.ref i) = true) (GS : FnOk P w K mg base CX0 33 i idd ["self"] (spBookStr C)) (bS : Binds K idd ["self"] []) (T : Bi mg) :
    FnOk P w K mg base CX0 36 f fd ["_law_works_here", "_law_book"] (spIsRight C) := by
  refine F.ok scIsRight (fun vs H Q E h => ?_) (fun cdv A outer s H vs Q E hr h => ?_)
  · obtain ⟨l, x, us, Ws, rfl, _⟩ := h
    rfl
  obtain ⟨l, x, us, Ws, rfl, hl, hW, ok, h10, hB, q⟩ := h
  refine ⟨_, (pss_cons (ps_setLc (i := 2) (own := [("_law_work", 4)]) (g := gName 4) (tt := tYes) (by rfl) scIsRight.nd rfl rfl (sw_true rfl rfl rfl (by decide +kernel)) (pi_list (pv 0)) (blkOk_by (own := [("_law_work", 4)]) (N := ["_law_works_here", "_law_book", "_law_texts", "_law_told", "_law_work"]) (sc := defScope sIsRight) (by decide +kernel)) (fun _ _ _ _ _ => pg_name (i := 4) scIsRight.nd rfl (Or.inl rfl)) (fun _ _ _ _ _ => pts_nil) (fun _ _ _ _ _ => (pe_call WT.G (hr.mono (by omega)) (by rfl) WT.m WT.k WT.b .nil pass0 (pa_cons (pv 4) (pa_cons pe_str pa_nil)))))
    (pss_cons (ps_set (i := 3) scIsRight.nd rfl (Or.inl rfl) (pe_callTy (call_strOwn hS fS GS bS (hr.mono (by omega))) (by rfl) T.str (by decide +kernel) (pa_cons (pv 1) pa_nil)))
    (pss_one (ps_ret (pe_and (pe_callB call_isi (by rfl) T.isinstance (by decide +kernel) (pa_cons (pv 3) (pa_cons (pe_bltn (v := .ty "str") (by rfl) T.str (by decide +kernel) rfl) pa_nil))) (pe_one (pe_cmpR op_eq (pv 3) (pe_join pe_str (pv 2)) (nomark _)))))))), ?_⟩
  have hs : sizeLine = 16777216 := by decide
  refine ⟨_, rfl, l, rfl, ⟨_, SqL.of hl⟩, ?_⟩
  intro D hD
  refine lc_list (K := K) (a := l) (xs := us) (fun j H' => H' D = some (.lst (((Ws.take j).map (Wk.txt 0)).map V.str)) ∧ Same H H') ⟨upd_same, same_new hD _⟩ (fun j H' _ h => SqL.of (h.2 _ _ hl)) ?_ ?_
  · rintro j v H1 hv ⟨hD1, s1⟩
    obtain ⟨W, hWi, hin⟩ := hW.2 j v hv
    have hj : j < Ws.length := (List.getElem?_eq_some_iff.mp hWi).1
    refine ⟨rfl, ?_⟩
    refine ⟨_, rfl, v, W, 0, rfl, hin.same s1, ok.each W (List.mem_of_getElem? hWi), by decide, fun H2 s2 => ?_⟩
    refine ⟨_, s2 _ _ hD1, by rw [List.length_map, List.length_map, List.length_take]; omega, ?_, ?_⟩
    · rw [upd_same, List.take_add_one, hWi, List.map_append, List.map_append]
      rfl
    · intro y o z
      rw [upd_ne (ne_of_none z hD)]
      exact s2 _ _ (s1 _ _ z)
  · rintro H1 ⟨hD1, s1⟩
    rw [hW.1, List.take_length] at hD1
    have sm : ((Ws.map (Wk.txt 0)).map (·.length)).sum ≤ (Ws.map (Wk.txt 0)).length * 1600000 := sum_le fun y hy => by
      obtain ⟨W, hW', rfl⟩ := List.mem_map.mp hy
      exact (txt_sum (ok.each W hW') (by decide)).2.1
    have a1 : ("\n" : Str).length = 1 := by decide +kernel
    obtain ⟨dx, p, us', hx, hp, hW'⟩ := hB.same s1
    refine ⟨_, rfl, x, dx, _, rfl, hx, x, Ws, rfl, ⟨dx, p, us', hx, hp, hW'⟩, ok, h10, fun H2 s2 => ⟨_, rfl, ?_⟩⟩
    refine ⟨_, rfl, _, _, _, _, true, rfl, .ty "str", .base (.str _), kit_ty (by decide +kernel), _, rfl, ?_⟩
    refine ⟨_, rfl, ⟨_, rfl⟩, _, rfl, _, D, Ws.map (Wk.txt 0), rfl, rfl, .inl (SqL.of (s2 _ _ hD1)), ?_, rfl, ?_⟩
    · rw [a1]
      rw [List.length_map] at sm ⊢
      have : Ws.length * 1600000 ≤ 10 * 1600000 := Nat.mul_le_mul_right _ h10
      omega
    · show Q (.bl (decide (V.str (bookT Ws) = V.str (bookT Ws)))) H2
      rw [decide_eq_true rfl]
      exact q H2 (s1.trans s2)
set_option maxHeartbeats 4000000 in
theorem ok_law {f fB fW fT fK fX fR fI fS C : Addr} {fd dB dW dT dK dX dR dI dS : FuncData} {g0 g1 : List Value → List Value → List Value} (F : Fun K "law" "law" sLaw f fd) (BG : Fk P w K mg base 1 "_law_bag" fB dB ["_law_script", "_law_k"] (spBag K)) (WS : Fk P w K mg base 17 "_law_works" fW dW ["_law_bag_here", "_law_most"] spWorks)
    (TK : Fk P w K mg base 1 "_law_take" fT dT ["_law_bag_here", "_law_many"] spTake) (SK : FkK P w K mg base 32 "show_work" fK dK ["work", "depth"] spShWork) (kb0 : KBn K dK ["work", "depth"] 1 [] g0 (fun vs _ => vs ++ [V.int 0])) (kb1 : KBn K dK ["work", "depth"] 1 ["depth"] g1 (fun vs zs => vs ++ zs)) (WT : Fk P w K mg base 12 "_law_work_text" fX dX ["_law_work", "_law_ahead"] spWorkTx)
    (IR : Fk P w K mg base 36 "_law_is_right" fR dR ["_law_works_here", "_law_book"] (spIsRight C)) (BK : BkT K mg C) (MK : Mk K C fI) (GI : FnOk P w K mg base CX0 26 fI dI ["self", "works"] (spBookInit C)) (bI : Binds K dI ["self", "works"] []) (hS : PySem.W.findIn K (.ref C) "__str__" = some (some (.ref fS))) (fnS : PySem.W.isFn K (.ref fS) = true) (GS : FnOk P w K mg base CX0 33 fS dS ["self"] (spBookStr C)) (bS : Binds K dS ["self"] []) (T : Bi mg) :
    FnOk P w K mg base CX0 38 f fd ["_law_script"] (spLaw K) := by
  refine F.ok scLaw (fun vs H Q E h => ?_) (fun cdv A outer s H vs Q E hr h => ?_)
  · obtain ⟨a, ns, rfl, _⟩ := h
    rfl
  obtain ⟨a, ns, rfl, hSc, h63, q⟩ := h
  refine ⟨_, (pss_cons (ps_set (i := 1) scLaw.nd rfl (Or.inl rfl) (pe_lst pa_nil))
    (pss_cons (ps_for PassesOwn.never rfl (pi_range1 (by rfl) T.range (pa_cons (pe_callB (call_max2 rfl) (by rfl) T.max (by decide +kernel) (pa_cons pe_int (pa_cons (pe_callB (call_min2 rfl) (by rfl) T.min (by decide +kernel) (pa_cons pe_int (pa_cons (pe_callB call_len_seq (by rfl) T.len (by decide +kernel) (pa_cons (pv 0) pa_nil)) pa_nil))) pa_nil))) pa_nil)) (pg_name (i := 2) scLaw.nd rfl (.inl rfl))
      (pss_cons (ps_set (i := 3) scLaw.nd rfl (Or.inl rfl) (pe_call BG.G (hr.mono (by omega)) (by rfl) BG.m BG.k BG.b .nil pass0 (pa_cons (pv 0) (pa_cons (pv 2) pa_nil))))
    (pss_cons (ps_set (i := 4) scLaw.nd rfl (Or.inl rfl) (pe_call WS.G (hr.mono (by omega)) (by rfl) WS.m WS.k WS.b .nil pass0 (pa_cons (pv 3) (pa_cons pe_int pa_nil))))
    (pss_cons (ps_for PassesOwn.never rfl (pi_list (pv 4)) (pg_name (i := 5) scLaw.nd rfl (.inr rfl))
      (pss_cons (ps_set (i := 6) scLaw.nd rfl (Or.inl rfl) (pe_call TK.G (hr.mono (by omega)) (by rfl) TK.m TK.k TK.b .nil pass0 (pa_cons (pv 3) (pa_cons pe_int pa_nil))))
    (pss_cons (ps_set (i := 7) scLaw.nd rfl (Or.inl rfl) (pe_lst (pa_cons (pe_callN SK.G (hr.mono (by omega)) (by rfl) SK.m SK.k kb0 pass0 (pa_cons (pv 5) pa_nil) pk_nil) (pa_cons (pe_callN SK.G (hr.mono (by omega)) (by rfl) SK.m SK.k kb1 pass0 (pa_cons (pv 5) pa_nil) (pk_cons (pv 6) pk_nil)) (pa_cons (pe_callN SK.G (hr.mono (by omega)) (by rfl) SK.m SK.k kb1 pass0 (pa_cons (pv 5) pa_nil) (pk_cons pe_int pk_nil)) pa_nil)))))
    (pss_cons (ps_setLc (i := 8) (own := [("_law_many", 10)]) (g := gName 10) (tt := tYes) (by rfl) scLaw.nd rfl rfl (sw_true rfl rfl rfl (by decide +kernel)) (pi_list (pe_lst (pa_cons pe_int (pa_cons (pv 6) (pa_cons pe_int pa_nil))))) (blkOk_by (own := [("_law_many", 10)]) (N := ["_law_script", "_law_seen", "_law_k", "_law_bag_here", "_law_works_here", "_law_work", "_law_far", "_law_told", "_law_due", "_law_book", "_law_many", "_law_text_here", "_law_some", "_law_one"]) (sc := defScope sLaw) (by decide +kernel)) (fun _ _ _ _ _ => pg_name (i := 10) scLaw.nd rfl (Or.inl rfl)) (fun _ _ _ _ _ => pts_nil) (fun _ _ _ _ _ => (pe_call WT.G (hr.mono (by omega)) (by rfl) WT.m WT.k WT.b .nil pass0 (pa_cons (pv 5) (pa_cons (pe_op op_mulS pe_str (pv 10)) pa_nil)))))
    (pss_one (ps_if (PW.pt (pw_or (pt_cmpR (op_neD hr.units) (pv 7) (pv 8) (nomark _)) (pw_or1 (pt_not (pt_val (pe_callB (cr_all rfl) (by rfl) T.all (by decide +kernel) (pa_cons (pe_lc (own := [("_law_text_here", 11)]) (g := gName 11) (tt := tYes) (by rfl) scLaw.nd (pi_list (pv 7)) (blkOk_by (own := [("_law_text_here", 11)]) (N := ["_law_script", "_law_seen", "_law_k", "_law_bag_here", "_law_works_here", "_law_work", "_law_far", "_law_told", "_law_due", "_law_book", "_law_many", "_law_text_here", "_law_some", "_law_one"]) (sc := defScope sLaw) (by decide +kernel)) (fun _ _ _ _ _ => pg_name (i := 11) scLaw.nd rfl (Or.inl rfl)) (fun _ _ _ _ _ => pts_nil) (fun _ _ _ _ _ => (pe_callB (call_isi_at K) (by rfl) T.isinstance (by decide +kernel) (pa_cons (pv 11) (pa_cons (pe_bltn (v := .ty "str") (by rfl) T.str (by decide +kernel) rfl) pa_nil))))) pa_nil)))))))
      (pss_one (ps_ret pe_bl))
      pss_nil))))))
    (pss_cons (ps_set (i := 9) scLaw.nd rfl (Or.inl rfl) (pe_make MK GI (hr.mono (by omega)) (by rfl) BK.mgC bI .nil pass0 (pa_cons (pv 4) pa_nil)))
    (pss_cons (ps_expr (pe_bm PySem.F.plainAttrs_list PySem.F.slot_list_append PySem.F.type_list_append mt_append (pv 1) (pa_cons (pe_tup (pa_cons (pv 4) (pa_cons (pv 9) pa_nil))) pa_nil)))
    (pss_one (ps_if (pt_not (pt_val (pe_callB (cr_all rfl) (by rfl) T.all (by decide +kernel) (pa_cons (pe_lc (own := [("_law_some", 12), ("_law_one", 13)]) (g := gTup K 2 (gCons (gName 12) (gCons (gName 13) gNil))) (tt := tYes) (by rfl) scLaw.nd (pi_list (pv 1)) (blkOk_by (own := [("_law_some", 12), ("_law_one", 13)]) (N := ["_law_script", "_law_seen", "_law_k", "_law_bag_here", "_law_works_here", "_law_work", "_law_far", "_law_told", "_law_due", "_law_book", "_law_many", "_law_text_here", "_law_some", "_law_one"]) (sc := defScope sLaw) (by decide +kernel)) (fun _ _ _ _ _ => pg_tup rfl (pgs_cons (pg_name (i := 12) scLaw.nd rfl (Or.inl rfl)) (pgs_cons (pg_name (i := 13) scLaw.nd rfl (Or.inl rfl)) pgs_nil))) (fun _ _ _ _ _ => pts_nil) (fun _ _ _ _ _ => (pe_call IR.G (hr.mono (by omega)) (by rfl) IR.m IR.k IR.b .nil pass0 (pa_cons (pv 12) (pa_cons (pv 13) pa_nil))))) pa_nil))))
      (pss_one (ps_ret pe_bl))
      pss_nil))))))))
    (pss_one (ps_ret (pe_cmpR op_eq (pe_callTy (call_strOwn hS fnS GS bS (hr.mono (by omega))) (by rfl) T.str (by decide +kernel) (pa_cons (pe_make MK GI (hr.mono (by omega)) (by rfl) BK.mgC bI .nil pass0 (pa_cons (pe_lst pa_nil) pa_nil)) pa_nil)) pe_str (nomark _)))))), ?_⟩
  have hs : sizeLine = 16777216 := by decide
  refine ⟨Nat.zero_le _, fun ps hps => ?_⟩
  have s1 := same_new hps (.lst [])
  have hnum : ∃ N : Int, N = (if (if ((ns.map V.int).length : Int) < 4 then ((ns.map V.int).length : Int) else 4) > 2 then (if ((ns.map V.int).length : Int) < 4 then ((ns.map V.int).length : Int) else 4) else 2) ∧ 0 ≤ N ∧ N ≤ 4 := by
    refine ⟨_, rfl, ?_, ?_⟩ <;> (split <;> (try split) <;> omega)
  obtain ⟨N, eN, N0, N4⟩ := hnum
  refine ⟨_, rfl, a, _, rfl, .inl (s1.seq hSc), _, _, rfl, _, _, rfl, N, (by rw [eN]), by omega, by omega, ?_⟩
  refine for_range (lo := 0) (n := N.toNat) (fun i σ H' => ∃ (vs : List V) (y2 y3 y4 y5 y6 y7 y8 y9 : Option V), σ = [some (.ref a), some (.ref ps), y2, y3, y4, y5, y6, y7, y8, y9, none, none, none, none] ∧ H' ps = some (.lst vs) ∧ vs.length ≤ i ∧ SeenB C ps H' vs ∧ Same H H') ?_ ?_ ?_
  · exact ⟨[], none, none, none, none, none, none, none, none, rfl, upd_same, Nat.le_refl _, fun v hv => (by cases hv), s1⟩
  · rintro i σ H1 hi ⟨vs, y2, y3, y4, y5, y6, y7, y8, y9, rfl, hps1, hvl, hse, sH⟩
    have hi5 : i < 4 := by omega
    refine ⟨_, rfl, _, rfl, a, ns, 0 + (i : Int), rfl, sH.seq hSc, by omega, by omega, fun b H2 s2 nb B2 => ?_⟩
    refine ⟨_, rfl, b, 4, 1000000, rfl, by decide, by decide, B2.less (by decide), fun l us Ws H3 nl hl hW ok l1 l4 B3 U3 => ?_⟩
    have s3 : Same H1 H3 := fresh_but s2 nb U3
    have nlb : l ≠ b := fun z => by obtain ⟨ys, hy⟩ := B2.lst; rw [z, hy] at nl; cases nl
    have nlp : l ≠ ps := fun z => by
      have := s2 _ _ hps1
      rw [z, this] at nl
      cases nl
    obtain ⟨ys3, hys3⟩ := B3.lst
    -- each work's texts
    refine ⟨_, rfl, l, rfl, ⟨_, SqL.of hl⟩, ?_⟩
    refine for_list (K := K) (a := l) (xs := us) (fun j σ H' => ∃ (y5 y6 y7 y8 : Option V), σ = [some (.ref a), some (.ref ps), some (.int (0 + (i : Int))), some (.ref b), some (.ref l), y5, y6, y7, y8, y9, none, none, none, none] ∧ Bag H' b (1000000 - j) ∧ But b H3 H') ?_ ?_ ?_ ?_
    · exact ⟨_, _, _, _, rfl, B3, .of (Same.refl _)⟩
    · rintro j σ' H' _ ⟨_, _, _, _, _, _, U⟩
      exact SqL.of (U _ _ nlb hl)
    · rintro j v σ' H4 hv ⟨y5, y6, y7, y8, rfl, B4, U4⟩
      obtain ⟨W, hWi, hin⟩ := hW.2 j v hv
      have hj : j < Ws.length := (List.getElem?_eq_some_iff.mp hWi).1
      have wok := ok.each W (List.mem_of_getElem? hWi)
      have k4 : KeepT H3 H4 := .but hys3 U4
      refine ⟨_, rfl, b, 21, 1000000 - (j + 1), rfl, by decide, by decide, B4.less (by omega), fun far H5 f1 f2 B5 U5 => ?_⟩
      obtain ⟨ys4, hys4⟩ := B4.lst
      have hin5 : WkIn H5 W v := (hin.keep k4).keep (.but hys4 U5)
      have ef : ((far.toNat : Nat) : Int) = far := Int.toNat_of_nonneg f1
      -- told
      refine ⟨_, rfl, rfl, rfl, v, W, 0, rfl, hin5, wok, by decide, fun H6 s6 => ?_⟩
      refine ⟨_, rfl, _, rfl, rfl, rfl, v, W, far.toNat, (by show [v, V.int far] = [v, V.int ((far.toNat : Nat) : Int)]; rw [ef]), hin5.same s6, wok, by omega, fun H7 s7 => ?_⟩
      refine ⟨_, rfl, rfl, rfl, v, W, 0, rfl, (hin5.same s6).same s7, wok, by decide, fun H8 s8 => ?_⟩
      refine ⟨(by show 3 ≤ sizeLine; decide), fun lt hlt => ?_⟩
      have s58 := s6.trans (s7.trans s8)
      have s9 := same_new hlt (.lst (([W.txt 0, W.txt far.toNat, W.txt 0] : List Str).map V.str))
      have h9 : (upd H8 lt (.lst (([W.txt 0, W.txt far.toNat, W.txt 0] : List Str).map V.str))) lt = some (.lst (([W.txt 0, W.txt far.toNat, W.txt 0] : List Str).map V.str)) := upd_same
      have s59 := s58.trans s9
      refine ⟨_, rfl, (by show 3 ≤ sizeLine; decide), fun lm hlm => ?_⟩
      have s10 := same_new hlm (.lst (([0, far, 0] : List Int).map V.int))
      have h10 : (upd (upd H8 lt (.lst (([W.txt 0, W.txt far.toNat, W.txt 0] : List Str).map V.str))) lm (.lst (([0, far, 0] : List Int).map V.int))) lm = some (.lst (([0, far, 0] : List Int).map V.int)) := upd_same
      have h9' := s10 _ _ h9
      have s5A := s59.trans s10
      have h9f := h9'
      refine ⟨lm, rfl, ⟨_, SqL.of upd_same⟩, ?_⟩
      intro D hD
      have nDl : lt ≠ D := ne_of_none h9f hD
      have nDm : lm ≠ D := ne_of_none h10 hD
      refine lc_list (K := K) (a := lm) (xs := ([0, far, 0] : List Int).map V.int) (fun m H' => H' D = some (.lst ((([W.txt 0, W.txt far.toNat, W.txt 0] : List Str).take m).map V.str)) ∧ Same H5 H' ∧ H' lm = some (.lst (([0, far, 0] : List Int).map V.int)) ∧ H' lt = some (.lst (([W.txt 0, W.txt far.toNat, W.txt 0] : List Str).map V.str))) ⟨upd_same, s5A.trans (same_new hD _), (same_new hD _) _ _ h10, (same_new hD _) _ _ h9f⟩ (fun m H' _ h => SqL.of h.2.2.1) ?_ ?_
      · rintro m x HA hx ⟨hDA, sA, hlmA, hltA⟩
        refine ⟨rfl, ?_⟩
        obtain ⟨n, hn20, rfl, em, hm3⟩ : ∃ n : Nat, n ≤ 20 ∧ x = V.int (n : Int) ∧ (([W.txt 0, W.txt far.toNat, W.txt 0] : List Str)[m]? = some (W.txt n)) ∧ m < 3 := by
          match m, hx with
          | 0, hx => exact ⟨0, by decide, (Option.some.inj hx).symm, rfl, by decide⟩
          | 1, hx => exact ⟨far.toNat, by omega, by rw [ef]; exact (Option.some.inj hx).symm, rfl, by decide⟩
          | 2, hx => exact ⟨0, by decide, (Option.some.inj hx).symm, rfl, by decide⟩
          | m + 3, hx => simp at hx
        refine ⟨_, rfl, _, rfl, n, rfl, rfl, by omega, v, W, n, rfl, hin5.same sA, wok, hn20, fun HB sB => ?_⟩
        refine ⟨_, sB _ _ hDA, ?_, ?_, ?_, ?_, ?_⟩
        · rw [List.length_map, List.length_take]
          show min m 3 < sizeLine
          omega
        · rw [upd_same, List.take_add_one, em, List.map_append]
          rfl
        · intro y o z
          rw [upd_ne (ne_of_none (s5A _ _ z) hD)]
          exact sB _ _ (sA _ _ z)
        · rw [upd_ne nDm]
          exact sB _ _ hlmA
        · rw [upd_ne nDl]
          exact sB _ _ hltA
      · rintro HA ⟨hDA, sA, hlmA, hltA⟩
        have e3 : ([W.txt 0, W.txt far.toNat, W.txt 0] : List Str).take (([0, far, 0] : List Int).map V.int).length = [W.txt 0, W.txt far.toNat, W.txt 0] := rfl
        rw [e3] at hDA
        have hasc : ∀ s ∈ ([W.txt 0, W.txt far.toNat, W.txt 0] : List Str), asc s := fun s hs' => by
          have : s = W.txt 0 ∨ s = W.txt far.toNat ∨ s = W.txt 0 := by simpa using hs'
          rcases this with rfl | rfl | rfl <;> exact Wk.asc wok
        obtain ⟨sh, ev⟩ := shaped_asc hasc
        refine ⟨_, rfl, _, rfl, .list (([W.txt 0, W.txt far.toNat, W.txt 0] : List Str).map PyData.str), .list (([W.txt 0, W.txt far.toNat, W.txt 0] : List Str).map PyData.str), .lst (SqL.of hltA) (dp_strs _), .lst (SqL.of hDA) (dp_strs _), sh, sh, _, rfl, ?_⟩
        rw [ev]
        refine ⟨_, rfl, lt, rfl, ⟨_, SqL.of hltA⟩, ?_⟩
        intro D2 hD2
        refine lc_list (K := K) (a := lt) (xs := ([W.txt 0, W.txt far.toNat, W.txt 0] : List Str).map V.str) (fun m H' => H' D2 = some (.lst ((List.replicate m true).map V.bl)) ∧ Same HA H') ⟨upd_same, same_new hD2 _⟩ (fun m H' _ h => SqL.of (h.2 _ _ hltA)) ?_ ?_
        · rintro m x HB hx ⟨hDB, sB⟩
          obtain ⟨z, hz, rfl⟩ : ∃ z, ([W.txt 0, W.txt far.toNat, W.txt 0] : List Str)[m]? = some z ∧ V.str z = x := by
            rw [List.getElem?_map] at hx
            obtain ⟨x', h1, h2⟩ := Option.map_eq_some_iff.mp hx
            exact ⟨x', h1, h2⟩
          have hm : m < 3 := (List.getElem?_eq_some_iff.mp hz).1
          refine ⟨rfl, ?_⟩
          refine ⟨_, rfl, _, _, _, _, true, rfl, .ty "str", .base (.str _), kit_ty (by decide +kernel), ?_⟩
          refine ⟨_, hDB, by rw [List.length_map, List.length_replicate]; omega, ?_, ?_⟩
          · rw [upd_same, List.replicate_succ', List.map_append]
            rfl
          · intro y o zz
            rw [upd_ne (ne_of_none zz hD2)]
            exact sB _ _ zz
        · rintro HB ⟨hDB, sB⟩
          refine ⟨D2, _, rfl, SqL.of hDB, ?_⟩
          rw [all_true]
          refine ⟨_, rfl, ?_⟩
          have s5B := sA.trans sB
          exact ⟨_, _, _, _, rfl, (B5.same s5B).less (by omega), U4.trans (U5.trans (.of s5B))⟩
    · rintro σ' H4 ⟨y5, y6, y7, y8, rfl, B4, U4⟩
      have s4 : Same H1 H4 := fresh_but s3 nb U4
      have k4 : KeepT H3 H4 := .but hys3 U4
      have hl4 := U4 _ _ nlb hl
      have hW4 := hW.keep k4
      -- the book
      refine ⟨_, rfl, fun x dx nx ndx nex => ?_⟩
      have sM : Same H4 (upd (upd H4 dx (.own x)) x (.ins C dx [])) := fun y o z => by rw [upd_ne (ne_of_none z nx), upd_ne (ne_of_none z ndx)]; exact z
      refine ⟨x, dx, l, us, Ws, rfl, upd_same, sM _ _ hl4, hW4.same sM, ok, fun p H5 kp np hp hx => ⟨rfl, ?_⟩⟩
      have s5 : Same H4 H5 := fun y o z => kp y o (sM _ _ z) (ne_of_none z nx)
      have bk : BkIn H5 C x Ws := ⟨dx, p, us, hx, hp, hW4.same s5⟩
      refine ⟨_, rfl, .inl ⟨rfl, _, SqL.of (s5 _ _ (s4 _ _ hps1))⟩, _, rfl, _, rfl, (by show 2 ≤ sizeLine; decide), fun pt hpt => ?_⟩
      have s6 := same_new hpt (.tup [.ref l, .ref x])
      have hps6 := s6 _ _ (s5 _ _ (s4 _ _ hps1))
      refine ⟨ps, _, _, rfl, rfl, hps6, by omega, ?_⟩
      have se7 : SeenB C ps (upd (upd H5 pt (.tup [.ref l, .ref x])) ps (.lst (vs ++ [.ref pt]))) (vs ++ [.ref pt]) := fun v hv => by
        rcases List.mem_append.mp hv with hv | hv
        · exact (((hse.same s4).same s5).same s6).upd hps6 v hv
        · have z : SeenB C ps (upd H5 pt (.tup [.ref l, .ref x])) [.ref pt] := fun v hv => ⟨pt, l, x, us, Ws, List.mem_singleton.mp hv, upd_same, nlp, s6 _ _ (s5 _ _ hl4), (hW4.same s5).same s6, ok, by omega, bk.same s6⟩
          exact z.upd hps6 v hv
      have s7 : Same H (upd (upd H5 pt (.tup [.ref l, .ref x])) ps (.lst (vs ++ [.ref pt]))) := fun y o z => by rw [upd_ne (ne_of_none z hps)]; exact s6 _ _ (s5 _ _ (s4 _ _ (sH _ _ z)))
      have h7 : (upd (upd H5 pt (.tup [.ref l, .ref x])) ps (.lst (vs ++ [.ref pt]))) ps = some (.lst (vs ++ [.ref pt])) := upd_same
      generalize upd (upd H5 pt (.tup [.ref l, .ref x])) ps (.lst (vs ++ [.ref pt])) = H7 at se7 s7 h7
      refine ⟨_, rfl, ps, rfl, ⟨_, SqL.of h7⟩, ?_⟩
      intro D hD
      refine lc_list (K := K) (a := ps) (xs := vs ++ [.ref pt]) (fun m H' => H' D = some (.lst ((List.replicate m true).map V.bl)) ∧ Same H7 H') ⟨upd_same, same_new hD _⟩ (fun m H' _ h => SqL.of (h.2 _ _ h7)) ?_ ?_
      · rintro m v H8 hv ⟨hD8, s8⟩
        have hm : m < 5 := by
          have := (List.getElem?_eq_some_iff.mp hv).1
          rw [List.length_append, List.length_singleton] at this
          omega
        obtain ⟨p', l', x', us', Ws', rfl, e1, e2, e3, e4, e5, e6, e7⟩ := (se7.same s8) v (List.mem_of_getElem? hv)
        refine ⟨p', _, rfl, SqT.of e1, rfl, _, _, rfl, _, _, rfl, rfl, rfl, ?_⟩
        refine ⟨_, rfl, _, rfl, l', x', us', Ws', rfl, e3, e4, e5, e6, e7, fun H9 s9 => ?_⟩
        refine ⟨_, s9 _ _ hD8, by rw [List.length_map, List.length_replicate]; omega, ?_, ?_⟩
        · rw [upd_same, List.replicate_succ', List.map_append]
          rfl
        · intro y o zz
          rw [upd_ne (ne_of_none zz hD)]
          exact s9 _ _ (s8 _ _ zz)
      · rintro H8 ⟨hD8, s8⟩
        refine ⟨D, _, rfl, SqL.of hD8, ?_⟩
        rw [all_true]
        refine ⟨_, rfl, ?_⟩
        exact ⟨vs ++ [.ref pt], _, _, _, _, _, _, _, _, rfl, s8 _ _ h7, by rw [List.length_append, List.length_singleton]; omega, se7.same s8, s7.trans s8⟩
  · rintro σ H1 ⟨vs, y2, y3, y4, y5, y6, y7, y8, y9, rfl, hps1, hvl, hse, sH⟩
    refine ⟨Nat.zero_le _, fun l hl => ?_⟩
    have s2 := same_new hl (.lst [])
    have h2 : (upd H1 l (.lst [])) l = some (.lst []) := upd_same
    generalize upd H1 l (.lst []) = H2 at s2 h2
    refine fun x dx nx ndx nex => ?_
    have sM : Same H2 (upd (upd H2 dx (.own x)) x (.ins C dx [])) := fun y o z => by rw [upd_ne (ne_of_none z nx), upd_ne (ne_of_none z ndx)]; exact z
    have w0 : ∀ H' : Hp, WksIn H' [] [] := fun H' => ⟨rfl, fun i v e => (by simp at e)⟩
    have o0 : WksOk [] := ⟨by decide, fun W h => (by cases h), List.nodup_nil, fun W h => (by cases h)⟩
    refine ⟨x, dx, l, [], [], rfl, upd_same, sM _ _ h2, w0 _, o0, fun p H5 kp np hp hx => ⟨rfl, ?_⟩⟩
    refine ⟨x, dx, _, rfl, hx, x, [], rfl, ⟨dx, p, [], hx, hp, w0 _⟩, o0, by decide, fun H6 s6 => ⟨_, rfl, rfl, ?_⟩⟩
    have e : bookT [] = ("" : Str) := by decide +kernel
    rw [e, decide_eq_true rfl]
    exact q H6
end
end SH

set_option Elab.async false
set_option linter.all false
set_option maxRecDepth 100000
namespace SH
open PySem L2
section
variable {K : PySem.W.Frag} {f : Addr} {fd : FuncData}
/-- is_expression(x): the default fills up -/
theorem isEx_dflt (F : FunD K "is_expression" "is_expression" (defArgs sIsEx) (defBody sIsEx) (defScope sIsEx) [.int 6] [] f fd) : (∃ ds, Vals [V.int 6] ds ∧ Binds K fd ["thing", "deepest"] ds) ∧ Binds K fd ["thing", "deepest"] [] := by
  have one := F.binds1 (ps := ["thing", "deepest"]) 1 0 (by simp) rfl fun T kV doc pm an cdv ct us its h1 h2 => match us, its, h1, h2 with | [_], [_], _, _ => ⟨_, rfl, rfl⟩
  obtain ⟨ds, v, b⟩ := F.binds1 (ps := ["thing", "deepest"]) 2 1 (by simp) rfl fun T kV doc pm an cdv ct us its h1 h2 => match us, its, h1, h2 with | [_, _], [_], _, _ => ⟨_, rfl, rfl⟩
  have e : ds = [] := by
    cases v
    rfl
  exact ⟨one, e ▸ b⟩
/-- show_work(w), show_work(w, depth=d) -/
theorem shWork_kw {oc : Value} {od an : Option Addr} {osl : Array (Option Value)} {doc pm cdv ct : Value} {D : Addr} {u : Tok} (l : K.lookup f = some ⟨oc, od, .func (PySem.W.fnOf "show_work" "show_work" (defArgs sShWork) (defBody sShWork) (defScope sShWork) .none (.ref D) doc pm an cdv ct), osl⟩) (c : PySem.W.codeIn K cdv "show_work" = true) (k : PySem.W.keepIn K (.ref f) = true) (dd : PySem.W.nsIn K D "depth" = some (some (.int 0 u))) :
    (∃ g0, KBn K (PySem.W.fnOf "show_work" "show_work" (defArgs sShWork) (defBody sShWork) (defScope sShWork) .none (.ref D) doc pm an cdv ct) ["work", "depth"] 1 [] g0 (fun vs _ => vs ++ [V.int 0])) ∧
    ∃ g1, KBn K (PySem.W.fnOf "show_work" "show_work" (defArgs sShWork) (defBody sShWork) (defScope sShWork) .none (.ref D) doc pm an cdv ct) ["work", "depth"] 1 ["depth"] g1 (fun vs zs => vs ++ zs) := by
  refine ⟨⟨fun us _ => us ++ [.int 0 u], ⟨fun s us ws X h1 h2 => BindsTo.of_looks fun M => ?_, fun r _ => r.append (.cons ⟨u, rfl⟩ .nil)⟩⟩, ⟨fun us ws => us ++ ws, ⟨fun s us ws X h1 h2 => ?_, fun r1 r2 => r1.append r2⟩⟩⟩
  · match us, ws, h1, h2 with
    | [x], [], _, _ =>
      refine KwChain.looks (D := D) (l := [("depth", .int 0 u)]) X (fun q hq => ?_) ?_
      · rw [List.mem_singleton.mp hq]
        exact dd
      · exact ⟨_, _, _, _, _, _, rfl, rfl, rfl⟩
  · match us, ws, h1, h2 with
    | [x], [y], _, _ => exact BindsTo.of_eq rfl
end
end SH

set_option Elab.async false
set_option linter.all false
set_option maxRecDepth 100000
namespace SH
open PySem L2
set_option maxHeartbeats 8000000
theorem all_mk {l : PySem.W.OpenLaw} {w : World} {K : PySem.W.Frag} {h : Heap} {mg : Str → Option Value} {fa f_show_expression f_binding_of f_show_left f_show_right f_show_part f_show_work f_rows_lines f_row_lines f_if_lines f_show_row f_show_wait f_show_start f_check_work f_is_work f_is_tuple_of f_is_whole f_is_whole_within f_is_name f_are_names f_is_expression f_is_leaf f_are_expressions f_rows_left f_row_left f_branches_left f_is_if_head f_is_plain_row f_check_works f_check_starts f_handed_counts f_check_start f_starts_in f___init__ f___str__ f_Lbag f_Ltake f_Lkept f_Lnames f_Lnumber f_Ltree f_Lrow f_Lrows f_Lworks f_Ltext f_Lrow_text f_Llines f_Lwork_text f_Lis_right f_law : Addr} (X : K.In h) (G : h.Ns mainGlobals mg) (hfa : mg "law" = some (.ref fa))
    {od_show_expression od_binding_of od_show_left od_show_right od_show_part od_show_work od_rows_lines od_row_lines od_if_lines od_show_row od_show_wait od_show_start od_check_work od_is_work od_is_tuple_of od_is_whole od_is_whole_within od_is_name od_are_names od_is_expression od_is_leaf od_are_expressions od_rows_left od_row_left od_branches_left od_is_if_head od_is_plain_row od_check_works od_check_starts od_handed_counts od_check_start od_starts_in od___init__ od___str__ od_Lbag od_Ltake od_Lkept od_Lnames od_Lnumber od_Ltree od_Lrow od_Lrows od_Lworks od_Ltext od_Lrow_text od_Llines od_Lwork_text od_Lis_right od_law an_show_expression an_binding_of an_show_left an_show_right an_show_part an_show_work an_rows_lines an_row_lines an_if_lines an_show_row an_show_wait an_show_start an_check_work an_is_work an_is_tuple_of an_is_whole an_is_whole_within an_is_name an_are_names an_is_expression an_is_leaf an_are_expressions an_rows_left an_row_left an_branches_left an_is_if_head an_is_plain_row an_check_works an_check_starts an_handed_counts an_check_start an_starts_in an___init__ an___str__ an_Lbag an_Ltake an_Lkept an_Lnames an_Lnumber an_Ltree an_Lrow an_Lrows an_Lworks an_Ltext an_Lrow_text an_Llines an_Lwork_text an_Lis_right an_law : Option Addr} {sl_show_expression sl_binding_of sl_show_left sl_show_right sl_show_part sl_show_work sl_rows_lines sl_row_lines sl_if_lines sl_show_row sl_show_wait sl_show_start sl_check_work sl_is_work sl_is_tuple_of sl_is_whole sl_is_whole_within sl_is_name sl_are_names sl_is_expression sl_is_leaf sl_are_expressions sl_rows_left sl_row_left sl_branches_left sl_is_if_head sl_is_plain_row sl_check_works sl_check_starts sl_handed_counts sl_check_start sl_starts_in sl___init__ sl___str__ sl_Lbag sl_Ltake sl_Lkept sl_Lnames sl_Lnumber sl_Ltree sl_Lrow sl_Lrows sl_Lworks sl_Ltext sl_Lrow_text sl_Llines sl_Lwork_text sl_Lis_right sl_law : Array (Option Value)} {oc_show_expression oc_binding_of oc_show_left oc_show_right oc_show_part oc_show_work oc_rows_lines oc_row_lines oc_if_lines oc_show_row oc_show_wait oc_show_start oc_check_work oc_is_work oc_is_tuple_of oc_is_whole oc_is_whole_within oc_is_name oc_are_names oc_is_expression oc_is_leaf oc_are_expressions oc_rows_left oc_row_left oc_branches_left oc_is_if_head oc_is_plain_row oc_check_works oc_check_starts oc_handed_counts oc_check_start oc_starts_in oc___init__ oc___str__ oc_Lbag oc_Ltake oc_Lkept oc_Lnames oc_Lnumber oc_Ltree oc_Lrow oc_Lrows oc_Lworks oc_Ltext oc_Lrow_text oc_Llines oc_Lwork_text oc_Lis_right oc_law kV_show_expression kV_binding_of kV_show_left kV_show_right kV_show_part kV_rows_lines kV_row_lines kV_if_lines kV_show_row kV_show_wait kV_show_start kV_check_work kV_is_work kV_is_tuple_of kV_is_whole kV_is_whole_within kV_is_name kV_are_names kV_is_expression kV_is_leaf kV_are_expressions kV_rows_left kV_row_left kV_branches_left kV_is_if_head kV_is_plain_row kV_check_works kV_check_starts kV_handed_counts kV_check_start kV_starts_in kV___init__ kV___str__ kV_Lbag kV_Ltake kV_Lkept kV_Lnames kV_Lnumber kV_Ltree kV_Lrow kV_Lrows kV_Lworks kV_Ltext kV_Lrow_text kV_Llines kV_Lwork_text kV_Lis_right kV_law dc_show_expression dc_binding_of dc_show_left dc_show_right dc_show_part dc_show_work dc_rows_lines dc_row_lines dc_if_lines dc_show_row dc_show_wait dc_show_start dc_check_work dc_is_work dc_is_tuple_of dc_is_whole dc_is_whole_within dc_is_name dc_are_names dc_is_expression dc_is_leaf dc_are_expressions dc_rows_left dc_row_left dc_branches_left dc_is_if_head dc_is_plain_row dc_check_works dc_check_starts dc_handed_counts dc_check_start dc_starts_in dc___init__ dc___str__ dc_Lbag dc_Ltake dc_Lkept dc_Lnames dc_Lnumber dc_Ltree dc_Lrow dc_Lrows dc_Lworks dc_Ltext dc_Lrow_text dc_Llines dc_Lwork_text dc_Lis_right dc_law pm_show_expression pm_binding_of pm_show_left pm_show_right pm_show_part pm_show_work pm_rows_lines pm_row_lines pm_if_lines pm_show_row pm_show_wait pm_show_start pm_check_work pm_is_work pm_is_tuple_of pm_is_whole pm_is_whole_within pm_is_name pm_are_names pm_is_expression pm_is_leaf pm_are_expressions pm_rows_left pm_row_left pm_branches_left pm_is_if_head pm_is_plain_row pm_check_works pm_check_starts pm_handed_counts pm_check_start pm_starts_in pm___init__ pm___str__ pm_Lbag pm_Ltake pm_Lkept pm_Lnames pm_Lnumber pm_Ltree pm_Lrow pm_Lrows pm_Lworks pm_Ltext pm_Lrow_text pm_Llines pm_Lwork_text pm_Lis_right pm_law cd_show_expression cd_binding_of cd_show_left cd_show_right cd_show_part cd_show_work cd_rows_lines cd_row_lines cd_if_lines cd_show_row cd_show_wait cd_show_start cd_check_work cd_is_work cd_is_tuple_of cd_is_whole cd_is_whole_within cd_is_name cd_are_names cd_is_expression cd_is_leaf cd_are_expressions cd_rows_left cd_row_left cd_branches_left cd_is_if_head cd_is_plain_row cd_check_works cd_check_starts cd_handed_counts cd_check_start cd_starts_in cd___init__ cd___str__ cd_Lbag cd_Ltake cd_Lkept cd_Lnames cd_Lnumber cd_Ltree cd_Lrow cd_Lrows cd_Lworks cd_Ltext cd_Lrow_text cd_Llines cd_Lwork_text cd_Lis_right cd_law ct_show_expression ct_binding_of ct_show_left ct_show_right ct_show_part ct_show_work ct_rows_lines ct_row_lines ct_if_lines ct_show_row ct_show_wait ct_show_start ct_check_work ct_is_work ct_is_tuple_of ct_is_whole ct_is_whole_within ct_is_name ct_are_names ct_is_expression ct_is_leaf ct_are_expressions ct_rows_left ct_row_left ct_branches_left ct_is_if_head ct_is_plain_row ct_check_works ct_check_starts ct_handed_counts ct_check_start ct_starts_in ct___init__ ct___str__ ct_Lbag ct_Ltake ct_Lkept ct_Lnames ct_Lnumber ct_Ltree ct_Lrow ct_Lrows ct_Lworks ct_Ltext ct_Lrow_text ct_Llines ct_Lwork_text ct_Lis_right ct_law : Value}
    {TD DK : Addr} {oTD : Obj} {iTD : List Value} {nTD : Nat} {uDK : Tok}
    {C : Addr} (aC : PySem.W.nsIn K mainGlobals "Book" = some (some (.ref C)))
    (a_show_expression : PySem.W.nsIn K mainGlobals "show_expression" = some (some (.ref f_show_expression))) (l_show_expression : K.lookup f_show_expression = some ⟨oc_show_expression, od_show_expression, .func (PySem.W.fnOf "show_expression" "show_expression" (defArgs sShow) (defBody sShow) (defScope sShow) .none kV_show_expression dc_show_expression pm_show_expression an_show_expression cd_show_expression ct_show_expression), sl_show_expression⟩) (c_show_expression : PySem.W.codeIn K cd_show_expression "show_expression" = true) (k_show_expression : PySem.W.keepIn K (.ref f_show_expression) = true)
    (a_binding_of : PySem.W.nsIn K mainGlobals "binding_of" = some (some (.ref f_binding_of))) (l_binding_of : K.lookup f_binding_of = some ⟨oc_binding_of, od_binding_of, .func (PySem.W.fnOf "binding_of" "binding_of" (defArgs sBind) (defBody sBind) (defScope sBind) .none kV_binding_of dc_binding_of pm_binding_of an_binding_of cd_binding_of ct_binding_of), sl_binding_of⟩) (c_binding_of : PySem.W.codeIn K cd_binding_of "binding_of" = true) (k_binding_of : PySem.W.keepIn K (.ref f_binding_of) = true)
    (a_show_left : PySem.W.nsIn K mainGlobals "show_left" = some (some (.ref f_show_left))) (l_show_left : K.lookup f_show_left = some ⟨oc_show_left, od_show_left, .func (PySem.W.fnOf "show_left" "show_left" (defArgs sLeft) (defBody sLeft) (defScope sLeft) .none kV_show_left dc_show_left pm_show_left an_show_left cd_show_left ct_show_left), sl_show_left⟩) (c_show_left : PySem.W.codeIn K cd_show_left "show_left" = true) (k_show_left : PySem.W.keepIn K (.ref f_show_left) = true)
    (a_show_right : PySem.W.nsIn K mainGlobals "show_right" = some (some (.ref f_show_right))) (l_show_right : K.lookup f_show_right = some ⟨oc_show_right, od_show_right, .func (PySem.W.fnOf "show_right" "show_right" (defArgs sRight) (defBody sRight) (defScope sRight) .none kV_show_right dc_show_right pm_show_right an_show_right cd_show_right ct_show_right), sl_show_right⟩) (c_show_right : PySem.W.codeIn K cd_show_right "show_right" = true) (k_show_right : PySem.W.keepIn K (.ref f_show_right) = true)
    (a_show_part : PySem.W.nsIn K mainGlobals "show_part" = some (some (.ref f_show_part))) (l_show_part : K.lookup f_show_part = some ⟨oc_show_part, od_show_part, .func (PySem.W.fnOf "show_part" "show_part" (defArgs sPart) (defBody sPart) (defScope sPart) .none kV_show_part dc_show_part pm_show_part an_show_part cd_show_part ct_show_part), sl_show_part⟩) (c_show_part : PySem.W.codeIn K cd_show_part "show_part" = true) (k_show_part : PySem.W.keepIn K (.ref f_show_part) = true)
    (a_show_work : PySem.W.nsIn K mainGlobals "show_work" = some (some (.ref f_show_work))) (l_show_work : K.lookup f_show_work = some ⟨oc_show_work, od_show_work, .func (PySem.W.fnOf "show_work" "show_work" (defArgs sShWork) (defBody sShWork) (defScope sShWork) .none (.ref DK) dc_show_work pm_show_work an_show_work cd_show_work ct_show_work), sl_show_work⟩) (c_show_work : PySem.W.codeIn K cd_show_work "show_work" = true) (k_show_work : PySem.W.keepIn K (.ref f_show_work) = true)
    (a_rows_lines : PySem.W.nsIn K mainGlobals "rows_lines" = some (some (.ref f_rows_lines))) (l_rows_lines : K.lookup f_rows_lines = some ⟨oc_rows_lines, od_rows_lines, .func (PySem.W.fnOf "rows_lines" "rows_lines" (defArgs sRowsLn) (defBody sRowsLn) (defScope sRowsLn) .none kV_rows_lines dc_rows_lines pm_rows_lines an_rows_lines cd_rows_lines ct_rows_lines), sl_rows_lines⟩) (c_rows_lines : PySem.W.codeIn K cd_rows_lines "rows_lines" = true) (k_rows_lines : PySem.W.keepIn K (.ref f_rows_lines) = true)
    (a_row_lines : PySem.W.nsIn K mainGlobals "row_lines" = some (some (.ref f_row_lines))) (l_row_lines : K.lookup f_row_lines = some ⟨oc_row_lines, od_row_lines, .func (PySem.W.fnOf "row_lines" "row_lines" (defArgs sRowLn) (defBody sRowLn) (defScope sRowLn) .none kV_row_lines dc_row_lines pm_row_lines an_row_lines cd_row_lines ct_row_lines), sl_row_lines⟩) (c_row_lines : PySem.W.codeIn K cd_row_lines "row_lines" = true) (k_row_lines : PySem.W.keepIn K (.ref f_row_lines) = true)
    (a_if_lines : PySem.W.nsIn K mainGlobals "if_lines" = some (some (.ref f_if_lines))) (l_if_lines : K.lookup f_if_lines = some ⟨oc_if_lines, od_if_lines, .func (PySem.W.fnOf "if_lines" "if_lines" (defArgs sIfLn) (defBody sIfLn) (defScope sIfLn) .none kV_if_lines dc_if_lines pm_if_lines an_if_lines cd_if_lines ct_if_lines), sl_if_lines⟩) (c_if_lines : PySem.W.codeIn K cd_if_lines "if_lines" = true) (k_if_lines : PySem.W.keepIn K (.ref f_if_lines) = true)
    (a_show_row : PySem.W.nsIn K mainGlobals "show_row" = some (some (.ref f_show_row))) (l_show_row : K.lookup f_show_row = some ⟨oc_show_row, od_show_row, .func (PySem.W.fnOf "show_row" "show_row" (defArgs sShRow) (defBody sShRow) (defScope sShRow) .none kV_show_row dc_show_row pm_show_row an_show_row cd_show_row ct_show_row), sl_show_row⟩) (c_show_row : PySem.W.codeIn K cd_show_row "show_row" = true) (k_show_row : PySem.W.keepIn K (.ref f_show_row) = true)
    (a_show_wait : PySem.W.nsIn K mainGlobals "show_wait" = some (some (.ref f_show_wait))) (l_show_wait : K.lookup f_show_wait = some ⟨oc_show_wait, od_show_wait, .func (PySem.W.fnOf "show_wait" "show_wait" (defArgs sShWait) (defBody sShWait) (defScope sShWait) .none kV_show_wait dc_show_wait pm_show_wait an_show_wait cd_show_wait ct_show_wait), sl_show_wait⟩) (c_show_wait : PySem.W.codeIn K cd_show_wait "show_wait" = true) (k_show_wait : PySem.W.keepIn K (.ref f_show_wait) = true)
    (a_show_start : PySem.W.nsIn K mainGlobals "show_start" = some (some (.ref f_show_start))) (l_show_start : K.lookup f_show_start = some ⟨oc_show_start, od_show_start, .func (PySem.W.fnOf "show_start" "show_start" (defArgs sShStart) (defBody sShStart) (defScope sShStart) .none kV_show_start dc_show_start pm_show_start an_show_start cd_show_start ct_show_start), sl_show_start⟩) (c_show_start : PySem.W.codeIn K cd_show_start "show_start" = true) (k_show_start : PySem.W.keepIn K (.ref f_show_start) = true)
    (a_check_work : PySem.W.nsIn K mainGlobals "check_work" = some (some (.ref f_check_work))) (l_check_work : K.lookup f_check_work = some ⟨oc_check_work, od_check_work, .func (PySem.W.fnOf "check_work" "check_work" (defArgs sChkWork) (defBody sChkWork) (defScope sChkWork) .none kV_check_work dc_check_work pm_check_work an_check_work cd_check_work ct_check_work), sl_check_work⟩) (c_check_work : PySem.W.codeIn K cd_check_work "check_work" = true) (k_check_work : PySem.W.keepIn K (.ref f_check_work) = true)
    (a_is_work : PySem.W.nsIn K mainGlobals "is_work" = some (some (.ref f_is_work))) (l_is_work : K.lookup f_is_work = some ⟨oc_is_work, od_is_work, .func (PySem.W.fnOf "is_work" "is_work" (defArgs sIsWork) (defBody sIsWork) (defScope sIsWork) .none kV_is_work dc_is_work pm_is_work an_is_work cd_is_work ct_is_work), sl_is_work⟩) (c_is_work : PySem.W.codeIn K cd_is_work "is_work" = true) (k_is_work : PySem.W.keepIn K (.ref f_is_work) = true)
    (a_is_tuple_of : PySem.W.nsIn K mainGlobals "is_tuple_of" = some (some (.ref f_is_tuple_of))) (l_is_tuple_of : K.lookup f_is_tuple_of = some ⟨oc_is_tuple_of, od_is_tuple_of, .func (PySem.W.fnOf "is_tuple_of" "is_tuple_of" (defArgs sTupOf) (defBody sTupOf) (defScope sTupOf) .none kV_is_tuple_of dc_is_tuple_of pm_is_tuple_of an_is_tuple_of cd_is_tuple_of ct_is_tuple_of), sl_is_tuple_of⟩) (c_is_tuple_of : PySem.W.codeIn K cd_is_tuple_of "is_tuple_of" = true) (k_is_tuple_of : PySem.W.keepIn K (.ref f_is_tuple_of) = true)
    (a_is_whole : PySem.W.nsIn K mainGlobals "is_whole" = some (some (.ref f_is_whole))) (l_is_whole : K.lookup f_is_whole = some ⟨oc_is_whole, od_is_whole, .func (PySem.W.fnOf "is_whole" "is_whole" (defArgs sWhole) (defBody sWhole) (defScope sWhole) .none kV_is_whole dc_is_whole pm_is_whole an_is_whole cd_is_whole ct_is_whole), sl_is_whole⟩) (c_is_whole : PySem.W.codeIn K cd_is_whole "is_whole" = true) (k_is_whole : PySem.W.keepIn K (.ref f_is_whole) = true)
    (a_is_whole_within : PySem.W.nsIn K mainGlobals "is_whole_within" = some (some (.ref f_is_whole_within))) (l_is_whole_within : K.lookup f_is_whole_within = some ⟨oc_is_whole_within, od_is_whole_within, .func (PySem.W.fnOf "is_whole_within" "is_whole_within" (defArgs sWithin) (defBody sWithin) (defScope sWithin) .none kV_is_whole_within dc_is_whole_within pm_is_whole_within an_is_whole_within cd_is_whole_within ct_is_whole_within), sl_is_whole_within⟩) (c_is_whole_within : PySem.W.codeIn K cd_is_whole_within "is_whole_within" = true) (k_is_whole_within : PySem.W.keepIn K (.ref f_is_whole_within) = true)
    (a_is_name : PySem.W.nsIn K mainGlobals "is_name" = some (some (.ref f_is_name))) (l_is_name : K.lookup f_is_name = some ⟨oc_is_name, od_is_name, .func (PySem.W.fnOf "is_name" "is_name" (defArgs sIsName) (defBody sIsName) (defScope sIsName) .none kV_is_name dc_is_name pm_is_name an_is_name cd_is_name ct_is_name), sl_is_name⟩) (c_is_name : PySem.W.codeIn K cd_is_name "is_name" = true) (k_is_name : PySem.W.keepIn K (.ref f_is_name) = true)
    (a_are_names : PySem.W.nsIn K mainGlobals "are_names" = some (some (.ref f_are_names))) (l_are_names : K.lookup f_are_names = some ⟨oc_are_names, od_are_names, .func (PySem.W.fnOf "are_names" "are_names" (defArgs sAreNames) (defBody sAreNames) (defScope sAreNames) .none kV_are_names dc_are_names pm_are_names an_are_names cd_are_names ct_are_names), sl_are_names⟩) (c_are_names : PySem.W.codeIn K cd_are_names "are_names" = true) (k_are_names : PySem.W.keepIn K (.ref f_are_names) = true)
    (a_is_expression : PySem.W.nsIn K mainGlobals "is_expression" = some (some (.ref f_is_expression))) (l_is_expression : K.lookup f_is_expression = some ⟨oc_is_expression, od_is_expression, .func (PySem.W.fnOf "is_expression" "is_expression" (defArgs sIsEx) (defBody sIsEx) (defScope sIsEx) (.ref TD) kV_is_expression dc_is_expression pm_is_expression an_is_expression cd_is_expression ct_is_expression), sl_is_expression⟩) (c_is_expression : PySem.W.codeIn K cd_is_expression "is_expression" = true) (k_is_expression : PySem.W.keepIn K (.ref f_is_expression) = true)
    (a_is_leaf : PySem.W.nsIn K mainGlobals "is_leaf" = some (some (.ref f_is_leaf))) (l_is_leaf : K.lookup f_is_leaf = some ⟨oc_is_leaf, od_is_leaf, .func (PySem.W.fnOf "is_leaf" "is_leaf" (defArgs sLeaf) (defBody sLeaf) (defScope sLeaf) .none kV_is_leaf dc_is_leaf pm_is_leaf an_is_leaf cd_is_leaf ct_is_leaf), sl_is_leaf⟩) (c_is_leaf : PySem.W.codeIn K cd_is_leaf "is_leaf" = true) (k_is_leaf : PySem.W.keepIn K (.ref f_is_leaf) = true)
    (a_are_expressions : PySem.W.nsIn K mainGlobals "are_expressions" = some (some (.ref f_are_expressions))) (l_are_expressions : K.lookup f_are_expressions = some ⟨oc_are_expressions, od_are_expressions, .func (PySem.W.fnOf "are_expressions" "are_expressions" (defArgs sAreEx) (defBody sAreEx) (defScope sAreEx) .none kV_are_expressions dc_are_expressions pm_are_expressions an_are_expressions cd_are_expressions ct_are_expressions), sl_are_expressions⟩) (c_are_expressions : PySem.W.codeIn K cd_are_expressions "are_expressions" = true) (k_are_expressions : PySem.W.keepIn K (.ref f_are_expressions) = true)
    (a_rows_left : PySem.W.nsIn K mainGlobals "rows_left" = some (some (.ref f_rows_left))) (l_rows_left : K.lookup f_rows_left = some ⟨oc_rows_left, od_rows_left, .func (PySem.W.fnOf "rows_left" "rows_left" (defArgs sRowsL) (defBody sRowsL) (defScope sRowsL) .none kV_rows_left dc_rows_left pm_rows_left an_rows_left cd_rows_left ct_rows_left), sl_rows_left⟩) (c_rows_left : PySem.W.codeIn K cd_rows_left "rows_left" = true) (k_rows_left : PySem.W.keepIn K (.ref f_rows_left) = true)
    (a_row_left : PySem.W.nsIn K mainGlobals "row_left" = some (some (.ref f_row_left))) (l_row_left : K.lookup f_row_left = some ⟨oc_row_left, od_row_left, .func (PySem.W.fnOf "row_left" "row_left" (defArgs sRowL) (defBody sRowL) (defScope sRowL) .none kV_row_left dc_row_left pm_row_left an_row_left cd_row_left ct_row_left), sl_row_left⟩) (c_row_left : PySem.W.codeIn K cd_row_left "row_left" = true) (k_row_left : PySem.W.keepIn K (.ref f_row_left) = true)
    (a_branches_left : PySem.W.nsIn K mainGlobals "branches_left" = some (some (.ref f_branches_left))) (l_branches_left : K.lookup f_branches_left = some ⟨oc_branches_left, od_branches_left, .func (PySem.W.fnOf "branches_left" "branches_left" (defArgs sBranL) (defBody sBranL) (defScope sBranL) .none kV_branches_left dc_branches_left pm_branches_left an_branches_left cd_branches_left ct_branches_left), sl_branches_left⟩) (c_branches_left : PySem.W.codeIn K cd_branches_left "branches_left" = true) (k_branches_left : PySem.W.keepIn K (.ref f_branches_left) = true)
    (a_is_if_head : PySem.W.nsIn K mainGlobals "is_if_head" = some (some (.ref f_is_if_head))) (l_is_if_head : K.lookup f_is_if_head = some ⟨oc_is_if_head, od_is_if_head, .func (PySem.W.fnOf "is_if_head" "is_if_head" (defArgs sIfHead) (defBody sIfHead) (defScope sIfHead) .none kV_is_if_head dc_is_if_head pm_is_if_head an_is_if_head cd_is_if_head ct_is_if_head), sl_is_if_head⟩) (c_is_if_head : PySem.W.codeIn K cd_is_if_head "is_if_head" = true) (k_is_if_head : PySem.W.keepIn K (.ref f_is_if_head) = true)
    (a_is_plain_row : PySem.W.nsIn K mainGlobals "is_plain_row" = some (some (.ref f_is_plain_row))) (l_is_plain_row : K.lookup f_is_plain_row = some ⟨oc_is_plain_row, od_is_plain_row, .func (PySem.W.fnOf "is_plain_row" "is_plain_row" (defArgs sPlain) (defBody sPlain) (defScope sPlain) .none kV_is_plain_row dc_is_plain_row pm_is_plain_row an_is_plain_row cd_is_plain_row ct_is_plain_row), sl_is_plain_row⟩) (c_is_plain_row : PySem.W.codeIn K cd_is_plain_row "is_plain_row" = true) (k_is_plain_row : PySem.W.keepIn K (.ref f_is_plain_row) = true)
    (a_check_works : PySem.W.nsIn K mainGlobals "check_works" = some (some (.ref f_check_works))) (l_check_works : K.lookup f_check_works = some ⟨oc_check_works, od_check_works, .func (PySem.W.fnOf "check_works" "check_works" (defArgs sChkWorks) (defBody sChkWorks) (defScope sChkWorks) .none kV_check_works dc_check_works pm_check_works an_check_works cd_check_works ct_check_works), sl_check_works⟩) (c_check_works : PySem.W.codeIn K cd_check_works "check_works" = true) (k_check_works : PySem.W.keepIn K (.ref f_check_works) = true)
    (a_check_starts : PySem.W.nsIn K mainGlobals "check_starts" = some (some (.ref f_check_starts))) (l_check_starts : K.lookup f_check_starts = some ⟨oc_check_starts, od_check_starts, .func (PySem.W.fnOf "check_starts" "check_starts" (defArgs sChkStarts) (defBody sChkStarts) (defScope sChkStarts) .none kV_check_starts dc_check_starts pm_check_starts an_check_starts cd_check_starts ct_check_starts), sl_check_starts⟩) (c_check_starts : PySem.W.codeIn K cd_check_starts "check_starts" = true) (k_check_starts : PySem.W.keepIn K (.ref f_check_starts) = true)
    (a_handed_counts : PySem.W.nsIn K mainGlobals "handed_counts" = some (some (.ref f_handed_counts))) (l_handed_counts : K.lookup f_handed_counts = some ⟨oc_handed_counts, od_handed_counts, .func (PySem.W.fnOf "handed_counts" "handed_counts" (defArgs sHanded) (defBody sHanded) (defScope sHanded) .none kV_handed_counts dc_handed_counts pm_handed_counts an_handed_counts cd_handed_counts ct_handed_counts), sl_handed_counts⟩) (c_handed_counts : PySem.W.codeIn K cd_handed_counts "handed_counts" = true) (k_handed_counts : PySem.W.keepIn K (.ref f_handed_counts) = true)
    (a_check_start : PySem.W.nsIn K mainGlobals "check_start" = some (some (.ref f_check_start))) (l_check_start : K.lookup f_check_start = some ⟨oc_check_start, od_check_start, .func (PySem.W.fnOf "check_start" "check_start" (defArgs sChkStart) (defBody sChkStart) (defScope sChkStart) .none kV_check_start dc_check_start pm_check_start an_check_start cd_check_start ct_check_start), sl_check_start⟩) (c_check_start : PySem.W.codeIn K cd_check_start "check_start" = true) (k_check_start : PySem.W.keepIn K (.ref f_check_start) = true)
    (a_starts_in : PySem.W.nsIn K mainGlobals "starts_in" = some (some (.ref f_starts_in))) (l_starts_in : K.lookup f_starts_in = some ⟨oc_starts_in, od_starts_in, .func (PySem.W.fnOf "starts_in" "starts_in" (defArgs sStartsIn) (defBody sStartsIn) (defScope sStartsIn) .none kV_starts_in dc_starts_in pm_starts_in an_starts_in cd_starts_in ct_starts_in), sl_starts_in⟩) (c_starts_in : PySem.W.codeIn K cd_starts_in "starts_in" = true) (k_starts_in : PySem.W.keepIn K (.ref f_starts_in) = true)
    (a___init__ : PySem.W.findIn K (.ref C) "__init__" = some (some (.ref f___init__))) (l___init__ : K.lookup f___init__ = some ⟨oc___init__, od___init__, .func (PySem.W.fnOf "__init__" "Book.__init__" (defArgs sBookInit) (defBody sBookInit) (defScope sBookInit) .none kV___init__ dc___init__ pm___init__ an___init__ cd___init__ ct___init__), sl___init__⟩) (c___init__ : PySem.W.codeIn K cd___init__ "Book.__init__" = true) (k___init__ : PySem.W.keepIn K (.ref f___init__) = true)
    (i___init__ : PySem.W.isFn K (.ref f___init__) = true)
    (a___str__ : PySem.W.findIn K (.ref C) "__str__" = some (some (.ref f___str__))) (l___str__ : K.lookup f___str__ = some ⟨oc___str__, od___str__, .func (PySem.W.fnOf "__str__" "Book.__str__" (defArgs sBookStr) (defBody sBookStr) (defScope sBookStr) .none kV___str__ dc___str__ pm___str__ an___str__ cd___str__ ct___str__), sl___str__⟩) (c___str__ : PySem.W.codeIn K cd___str__ "Book.__str__" = true) (k___str__ : PySem.W.keepIn K (.ref f___str__) = true)
    (i___str__ : PySem.W.isFn K (.ref f___str__) = true)
    (a_Lbag : PySem.W.nsIn K mainGlobals "_law_bag" = some (some (.ref f_Lbag))) (l_Lbag : K.lookup f_Lbag = some ⟨oc_Lbag, od_Lbag, .func (PySem.W.fnOf "_law_bag" "_law_bag" (defArgs sBag) (defBody sBag) (defScope sBag) .none kV_Lbag dc_Lbag pm_Lbag an_Lbag cd_Lbag ct_Lbag), sl_Lbag⟩) (c_Lbag : PySem.W.codeIn K cd_Lbag "_law_bag" = true) (k_Lbag : PySem.W.keepIn K (.ref f_Lbag) = true)
    (a_Ltake : PySem.W.nsIn K mainGlobals "_law_take" = some (some (.ref f_Ltake))) (l_Ltake : K.lookup f_Ltake = some ⟨oc_Ltake, od_Ltake, .func (PySem.W.fnOf "_law_take" "_law_take" (defArgs sTake) (defBody sTake) (defScope sTake) .none kV_Ltake dc_Ltake pm_Ltake an_Ltake cd_Ltake ct_Ltake), sl_Ltake⟩) (c_Ltake : PySem.W.codeIn K cd_Ltake "_law_take" = true) (k_Ltake : PySem.W.keepIn K (.ref f_Ltake) = true)
    (a_Lkept : PySem.W.nsIn K mainGlobals "_law_kept" = some (some (.ref f_Lkept))) (l_Lkept : K.lookup f_Lkept = some ⟨oc_Lkept, od_Lkept, .func (PySem.W.fnOf "_law_kept" "_law_kept" (defArgs sKept) (defBody sKept) (defScope sKept) .none kV_Lkept dc_Lkept pm_Lkept an_Lkept cd_Lkept ct_Lkept), sl_Lkept⟩) (c_Lkept : PySem.W.codeIn K cd_Lkept "_law_kept" = true) (k_Lkept : PySem.W.keepIn K (.ref f_Lkept) = true)
    (a_Lnames : PySem.W.nsIn K mainGlobals "_law_names" = some (some (.ref f_Lnames))) (l_Lnames : K.lookup f_Lnames = some ⟨oc_Lnames, od_Lnames, .func (PySem.W.fnOf "_law_names" "_law_names" (defArgs sNames) (defBody sNames) (defScope sNames) .none kV_Lnames dc_Lnames pm_Lnames an_Lnames cd_Lnames ct_Lnames), sl_Lnames⟩) (c_Lnames : PySem.W.codeIn K cd_Lnames "_law_names" = true) (k_Lnames : PySem.W.keepIn K (.ref f_Lnames) = true)
    (a_Lnumber : PySem.W.nsIn K mainGlobals "_law_number" = some (some (.ref f_Lnumber))) (l_Lnumber : K.lookup f_Lnumber = some ⟨oc_Lnumber, od_Lnumber, .func (PySem.W.fnOf "_law_number" "_law_number" (defArgs sNumber) (defBody sNumber) (defScope sNumber) .none kV_Lnumber dc_Lnumber pm_Lnumber an_Lnumber cd_Lnumber ct_Lnumber), sl_Lnumber⟩) (c_Lnumber : PySem.W.codeIn K cd_Lnumber "_law_number" = true) (k_Lnumber : PySem.W.keepIn K (.ref f_Lnumber) = true)
    (a_Ltree : PySem.W.nsIn K mainGlobals "_law_tree" = some (some (.ref f_Ltree))) (l_Ltree : K.lookup f_Ltree = some ⟨oc_Ltree, od_Ltree, .func (PySem.W.fnOf "_law_tree" "_law_tree" (defArgs sTree) (defBody sTree) (defScope sTree) .none kV_Ltree dc_Ltree pm_Ltree an_Ltree cd_Ltree ct_Ltree), sl_Ltree⟩) (c_Ltree : PySem.W.codeIn K cd_Ltree "_law_tree" = true) (k_Ltree : PySem.W.keepIn K (.ref f_Ltree) = true)
    (a_Lrow : PySem.W.nsIn K mainGlobals "_law_row" = some (some (.ref f_Lrow))) (l_Lrow : K.lookup f_Lrow = some ⟨oc_Lrow, od_Lrow, .func (PySem.W.fnOf "_law_row" "_law_row" (defArgs sRow) (defBody sRow) (defScope sRow) .none kV_Lrow dc_Lrow pm_Lrow an_Lrow cd_Lrow ct_Lrow), sl_Lrow⟩) (c_Lrow : PySem.W.codeIn K cd_Lrow "_law_row" = true) (k_Lrow : PySem.W.keepIn K (.ref f_Lrow) = true)
    (a_Lrows : PySem.W.nsIn K mainGlobals "_law_rows" = some (some (.ref f_Lrows))) (l_Lrows : K.lookup f_Lrows = some ⟨oc_Lrows, od_Lrows, .func (PySem.W.fnOf "_law_rows" "_law_rows" (defArgs sRows) (defBody sRows) (defScope sRows) .none kV_Lrows dc_Lrows pm_Lrows an_Lrows cd_Lrows ct_Lrows), sl_Lrows⟩) (c_Lrows : PySem.W.codeIn K cd_Lrows "_law_rows" = true) (k_Lrows : PySem.W.keepIn K (.ref f_Lrows) = true)
    (a_Lworks : PySem.W.nsIn K mainGlobals "_law_works" = some (some (.ref f_Lworks))) (l_Lworks : K.lookup f_Lworks = some ⟨oc_Lworks, od_Lworks, .func (PySem.W.fnOf "_law_works" "_law_works" (defArgs sWorks) (defBody sWorks) (defScope sWorks) .none kV_Lworks dc_Lworks pm_Lworks an_Lworks cd_Lworks ct_Lworks), sl_Lworks⟩) (c_Lworks : PySem.W.codeIn K cd_Lworks "_law_works" = true) (k_Lworks : PySem.W.keepIn K (.ref f_Lworks) = true)
    (a_Ltext : PySem.W.nsIn K mainGlobals "_law_text" = some (some (.ref f_Ltext))) (l_Ltext : K.lookup f_Ltext = some ⟨oc_Ltext, od_Ltext, .func (PySem.W.fnOf "_law_text" "_law_text" (defArgs sText) (defBody sText) (defScope sText) .none kV_Ltext dc_Ltext pm_Ltext an_Ltext cd_Ltext ct_Ltext), sl_Ltext⟩) (c_Ltext : PySem.W.codeIn K cd_Ltext "_law_text" = true) (k_Ltext : PySem.W.keepIn K (.ref f_Ltext) = true)
    (a_Lrow_text : PySem.W.nsIn K mainGlobals "_law_row_text" = some (some (.ref f_Lrow_text))) (l_Lrow_text : K.lookup f_Lrow_text = some ⟨oc_Lrow_text, od_Lrow_text, .func (PySem.W.fnOf "_law_row_text" "_law_row_text" (defArgs sRowTx) (defBody sRowTx) (defScope sRowTx) .none kV_Lrow_text dc_Lrow_text pm_Lrow_text an_Lrow_text cd_Lrow_text ct_Lrow_text), sl_Lrow_text⟩) (c_Lrow_text : PySem.W.codeIn K cd_Lrow_text "_law_row_text" = true) (k_Lrow_text : PySem.W.keepIn K (.ref f_Lrow_text) = true)
    (a_Llines : PySem.W.nsIn K mainGlobals "_law_lines" = some (some (.ref f_Llines))) (l_Llines : K.lookup f_Llines = some ⟨oc_Llines, od_Llines, .func (PySem.W.fnOf "_law_lines" "_law_lines" (defArgs sLinesTx) (defBody sLinesTx) (defScope sLinesTx) .none kV_Llines dc_Llines pm_Llines an_Llines cd_Llines ct_Llines), sl_Llines⟩) (c_Llines : PySem.W.codeIn K cd_Llines "_law_lines" = true) (k_Llines : PySem.W.keepIn K (.ref f_Llines) = true)
    (a_Lwork_text : PySem.W.nsIn K mainGlobals "_law_work_text" = some (some (.ref f_Lwork_text))) (l_Lwork_text : K.lookup f_Lwork_text = some ⟨oc_Lwork_text, od_Lwork_text, .func (PySem.W.fnOf "_law_work_text" "_law_work_text" (defArgs sWorkTx) (defBody sWorkTx) (defScope sWorkTx) .none kV_Lwork_text dc_Lwork_text pm_Lwork_text an_Lwork_text cd_Lwork_text ct_Lwork_text), sl_Lwork_text⟩) (c_Lwork_text : PySem.W.codeIn K cd_Lwork_text "_law_work_text" = true) (k_Lwork_text : PySem.W.keepIn K (.ref f_Lwork_text) = true)
    (a_Lis_right : PySem.W.nsIn K mainGlobals "_law_is_right" = some (some (.ref f_Lis_right))) (l_Lis_right : K.lookup f_Lis_right = some ⟨oc_Lis_right, od_Lis_right, .func (PySem.W.fnOf "_law_is_right" "_law_is_right" (defArgs sIsRight) (defBody sIsRight) (defScope sIsRight) .none kV_Lis_right dc_Lis_right pm_Lis_right an_Lis_right cd_Lis_right ct_Lis_right), sl_Lis_right⟩) (c_Lis_right : PySem.W.codeIn K cd_Lis_right "_law_is_right" = true) (k_Lis_right : PySem.W.keepIn K (.ref f_Lis_right) = true)
    (a_law : PySem.W.nsIn K mainGlobals "law" = some (some (.ref f_law))) (l_law : K.lookup f_law = some ⟨oc_law, od_law, .func (PySem.W.fnOf "law" "law" (defArgs sLaw) (defBody sLaw) (defScope sLaw) .none kV_law dc_law pm_law an_law cd_law ct_law), sl_law⟩) (c_law : PySem.W.codeIn K cd_law "law" = true) (k_law : PySem.W.keepIn K (.ref f_law) = true)
    (z_len : PySem.W.nsIn K mainGlobals "len" = some none)
    (z_abs : PySem.W.nsIn K mainGlobals "abs" = some none)
    (z_int : PySem.W.nsIn K mainGlobals "int" = some none)
    (z_str : PySem.W.nsIn K mainGlobals "str" = some none)
    (z_range : PySem.W.nsIn K mainGlobals "range" = some none)
    (z_max : PySem.W.nsIn K mainGlobals "max" = some none)
    (z_min : PySem.W.nsIn K mainGlobals "min" = some none)
    (z_isinstance : PySem.W.nsIn K mainGlobals "isinstance" = some none)
    (z_all : PySem.W.nsIn K mainGlobals "all" = some none)
    (z_tuple : PySem.W.nsIn K mainGlobals "tuple" = some none)
    (z_bool : PySem.W.nsIn K mainGlobals "bool" = some none)
    (z_set : PySem.W.nsIn K mainGlobals "set" = some none)
    (z_list : PySem.W.nsIn K mainGlobals "list" = some none)
    {aB : Addr} {tC tL : Tok} {esB : Array DictEntry} {nB : Nat} {u1 u2 u3 u4 u5 : Tok} (gB : PySem.W.nsIn K mainGlobals "BINDING" = some (some (.ref aB))) (gC : PySem.W.nsIn K mainGlobals "COMPARISON_BINDING" = some (some (.int 1 tC))) (gL : PySem.W.nsIn K mainGlobals "LEAF_BINDING" = some (some (.int 4 tL)))
    (lB0 : K.lookup aB = some ⟨.type "dict", none, .dict esB nB, #[]⟩) (kB0 : PySem.W.KeysLit w.params esB.toList) (low0 : (aB == sysModules) = false)
    (n1 : PySem.W.nsIn K aB "+" = some (some (.int 2 u1))) (n2 : PySem.W.nsIn K aB "-" = some (some (.int 2 u2))) (n3 : PySem.W.nsIn K aB "*" = some (some (.int 3 u3))) (n4 : PySem.W.nsIn K aB "<" = some (some (.int 1 u4))) (n5 : PySem.W.nsIn K aB "==" = some (some (.int 1 u5)))
    (n6 : PySem.W.nsIn K aB "number" = some none) (n7 : PySem.W.nsIn K aB "name" = some none)
    {tBl tLt : Tok} (gBl : PySem.W.nsIn K mainGlobals "BLANKS" = some (some (.str "  " tBl))) (gLt : PySem.W.nsIn K mainGlobals "LETTERS" = some (some (.str "abcdefghijklmnopqrstuvwxyz" tLt)))
    {t_MOST_WORKS t_MOST_ROWS t_MOST_NAMES t_MOST_EXPRESSIONS t_MOST_IFS t_MOST_LETTERS t_MOST_ROOM t_MOST_NUMBER t_NO_ROWS : Tok} (g_MOST_WORKS : PySem.W.nsIn K mainGlobals "MOST_WORKS" = some (some (.int 12 t_MOST_WORKS))) (g_MOST_ROWS : PySem.W.nsIn K mainGlobals "MOST_ROWS" = some (some (.int 40 t_MOST_ROWS))) (g_MOST_NAMES : PySem.W.nsIn K mainGlobals "MOST_NAMES" = some (some (.int 4 t_MOST_NAMES))) (g_MOST_EXPRESSIONS : PySem.W.nsIn K mainGlobals "MOST_EXPRESSIONS" = some (some (.int 4 t_MOST_EXPRESSIONS))) (g_MOST_IFS : PySem.W.nsIn K mainGlobals "MOST_IFS" = some (some (.int 3 t_MOST_IFS))) (g_MOST_LETTERS : PySem.W.nsIn K mainGlobals "MOST_LETTERS" = some (some (.int 8 t_MOST_LETTERS))) (g_MOST_ROOM : PySem.W.nsIn K mainGlobals "MOST_ROOM" = some (some (.int 1000 t_MOST_ROOM))) (g_MOST_NUMBER : PySem.W.nsIn K mainGlobals "MOST_NUMBER" = some (some (.int 999999999999999999999999999999 t_MOST_NUMBER))) (g_NO_ROWS : PySem.W.nsIn K mainGlobals "NO_ROWS" = some (some (.int (-1) t_NO_ROWS)))
    {aW aS : Addr} {dW dS : Option Addr} {iW iS : List Value} {nW nS : Nat} {sW sS : Array (Option Value)} (gW : PySem.W.nsIn K mainGlobals "WORDS" = some (some (.ref aW))) (lW : K.lookup aW = some ⟨.type "tuple", dW, .seq iW.toArray nW, sW⟩) (vW : Vals (kept.map V.str) iW)
    (gS : PySem.W.nsIn K mainGlobals "SIGNS" = some (some (.ref aS))) (lS : K.lookup aS = some ⟨.type "tuple", dS, .seq iS.toArray nS, sS⟩) (vS : Vals (signsL.map V.str) iS)
    (lTD : K.lookup TD = some oTD) (oTD0 : oTD.data = .seq iTD.toArray nTD) (vTD : Vals [V.int 6] iTD) (gDK : PySem.W.nsIn K DK "depth" = some (some (.int 0 uDK)))
    (pg : PySem.W.plainGet K C Str.empty = true) (hd : PySem.W.hasDictIn K C = true) (po : PySem.W.plainOver K C = true) (sa : PySem.W.findIn K (.ref C) "__setattr__" = some (some (.builtin "object.__setattr__"))) (mk : PySem.W.makesIn K C = true) (kc : PySem.W.keepIn K (.ref C) = true) (nWk : PySem.W.findIn K (.ref C) "works" = some none)
    : ∃ fd : FuncData, (∀ (s : Shared) (v : Value), BindsTo s fd ⟨[v], []⟩ [("_law_script", v)]) ∧ ∀ base : Heap, K.In base → base.Ns mainGlobals mg → FnOk l.prog w K mg base CX0 38 fa fd ["_law_script"] (spLaw K) := by
  have e := hfa.symm.trans (PySem.W.mg_of X G a_law)
  cases e
  have F_show_expression := fun_mk (st := sShow) l_show_expression c_show_expression k_show_expression
  have b_show_expression := F_show_expression.binds (ps := ["tree"]) fun _ _ _ _ _ _ us hl => match us, hl with | [_], _ => rfl
  have m_show_expression := PySem.W.mg_of X G a_show_expression
  have F_binding_of := fun_mk (st := sBind) l_binding_of c_binding_of k_binding_of
  have b_binding_of := F_binding_of.binds (ps := ["tree"]) fun _ _ _ _ _ _ us hl => match us, hl with | [_], _ => rfl
  have m_binding_of := PySem.W.mg_of X G a_binding_of
  have F_show_left := fun_mk (st := sLeft) l_show_left c_show_left k_show_left
  have b_show_left := F_show_left.binds (ps := ["part", "sign"]) fun _ _ _ _ _ _ us hl => match us, hl with | [_, _], _ => rfl
  have m_show_left := PySem.W.mg_of X G a_show_left
  have F_show_right := fun_mk (st := sRight) l_show_right c_show_right k_show_right
  have b_show_right := F_show_right.binds (ps := ["part", "sign"]) fun _ _ _ _ _ _ us hl => match us, hl with | [_, _], _ => rfl
  have m_show_right := PySem.W.mg_of X G a_show_right
  have F_show_part := fun_mk (st := sPart) l_show_part c_show_part k_show_part
  have b_show_part := F_show_part.binds (ps := ["part", "in_brackets"]) fun _ _ _ _ _ _ us hl => match us, hl with | [_, _], _ => rfl
  have m_show_part := PySem.W.mg_of X G a_show_part
  have F_show_work := fun_mk (st := sShWork) l_show_work c_show_work k_show_work
  have m_show_work := PySem.W.mg_of X G a_show_work
  have F_rows_lines := fun_mk (st := sRowsLn) l_rows_lines c_rows_lines k_rows_lines
  have b_rows_lines := F_rows_lines.binds (ps := ["rows", "depth"]) fun _ _ _ _ _ _ us hl => match us, hl with | [_, _], _ => rfl
  have m_rows_lines := PySem.W.mg_of X G a_rows_lines
  have F_row_lines := fun_mk (st := sRowLn) l_row_lines c_row_lines k_row_lines
  have b_row_lines := F_row_lines.binds (ps := ["row", "depth"]) fun _ _ _ _ _ _ us hl => match us, hl with | [_, _], _ => rfl
  have m_row_lines := PySem.W.mg_of X G a_row_lines
  have F_if_lines := fun_mk (st := sIfLn) l_if_lines c_if_lines k_if_lines
  have b_if_lines := F_if_lines.binds (ps := ["row", "depth"]) fun _ _ _ _ _ _ us hl => match us, hl with | [_, _], _ => rfl
  have m_if_lines := PySem.W.mg_of X G a_if_lines
  have F_show_row := fun_mk (st := sShRow) l_show_row c_show_row k_show_row
  have b_show_row := F_show_row.binds (ps := ["row"]) fun _ _ _ _ _ _ us hl => match us, hl with | [_], _ => rfl
  have m_show_row := PySem.W.mg_of X G a_show_row
  have F_show_wait := fun_mk (st := sShWait) l_show_wait c_show_wait k_show_wait
  have b_show_wait := F_show_wait.binds (ps := ["row"]) fun _ _ _ _ _ _ us hl => match us, hl with | [_], _ => rfl
  have m_show_wait := PySem.W.mg_of X G a_show_wait
  have F_show_start := fun_mk (st := sShStart) l_show_start c_show_start k_show_start
  have b_show_start := F_show_start.binds (ps := ["row"]) fun _ _ _ _ _ _ us hl => match us, hl with | [_], _ => rfl
  have m_show_start := PySem.W.mg_of X G a_show_start
  have F_check_work := fun_mk (st := sChkWork) l_check_work c_check_work k_check_work
  have b_check_work := F_check_work.binds (ps := ["thing"]) fun _ _ _ _ _ _ us hl => match us, hl with | [_], _ => rfl
  have m_check_work := PySem.W.mg_of X G a_check_work
  have F_is_work := fun_mk (st := sIsWork) l_is_work c_is_work k_is_work
  have b_is_work := F_is_work.binds (ps := ["thing"]) fun _ _ _ _ _ _ us hl => match us, hl with | [_], _ => rfl
  have m_is_work := PySem.W.mg_of X G a_is_work
  have F_is_tuple_of := fun_mk (st := sTupOf) l_is_tuple_of c_is_tuple_of k_is_tuple_of
  have b_is_tuple_of := F_is_tuple_of.binds (ps := ["thing", "many"]) fun _ _ _ _ _ _ us hl => match us, hl with | [_, _], _ => rfl
  have m_is_tuple_of := PySem.W.mg_of X G a_is_tuple_of
  have F_is_whole := fun_mk (st := sWhole) l_is_whole c_is_whole k_is_whole
  have b_is_whole := F_is_whole.binds (ps := ["thing"]) fun _ _ _ _ _ _ us hl => match us, hl with | [_], _ => rfl
  have m_is_whole := PySem.W.mg_of X G a_is_whole
  have F_is_whole_within := fun_mk (st := sWithin) l_is_whole_within c_is_whole_within k_is_whole_within
  have b_is_whole_within := F_is_whole_within.binds (ps := ["thing", "most"]) fun _ _ _ _ _ _ us hl => match us, hl with | [_, _], _ => rfl
  have m_is_whole_within := PySem.W.mg_of X G a_is_whole_within
  have F_is_name := fun_mk (st := sIsName) l_is_name c_is_name k_is_name
  have b_is_name := F_is_name.binds (ps := ["thing"]) fun _ _ _ _ _ _ us hl => match us, hl with | [_], _ => rfl
  have m_is_name := PySem.W.mg_of X G a_is_name
  have F_are_names := fun_mk (st := sAreNames) l_are_names c_are_names k_are_names
  have b_are_names := F_are_names.binds (ps := ["thing"]) fun _ _ _ _ _ _ us hl => match us, hl with | [_], _ => rfl
  have m_are_names := PySem.W.mg_of X G a_are_names
  have m_is_expression := PySem.W.mg_of X G a_is_expression
  have F_is_leaf := fun_mk (st := sLeaf) l_is_leaf c_is_leaf k_is_leaf
  have b_is_leaf := F_is_leaf.binds (ps := ["pair"]) fun _ _ _ _ _ _ us hl => match us, hl with | [_], _ => rfl
  have m_is_leaf := PySem.W.mg_of X G a_is_leaf
  have F_are_expressions := fun_mk (st := sAreEx) l_are_expressions c_are_expressions k_are_expressions
  have b_are_expressions := F_are_expressions.binds (ps := ["thing"]) fun _ _ _ _ _ _ us hl => match us, hl with | [_], _ => rfl
  have m_are_expressions := PySem.W.mg_of X G a_are_expressions
  have F_rows_left := fun_mk (st := sRowsL) l_rows_left c_rows_left k_rows_left
  have b_rows_left := F_rows_left.binds (ps := ["thing", "ifs", "left"]) fun _ _ _ _ _ _ us hl => match us, hl with | [_, _, _], _ => rfl
  have m_rows_left := PySem.W.mg_of X G a_rows_left
  have F_row_left := fun_mk (st := sRowL) l_row_left c_row_left k_row_left
  have b_row_left := F_row_left.binds (ps := ["thing", "ifs", "left"]) fun _ _ _ _ _ _ us hl => match us, hl with | [_, _, _], _ => rfl
  have m_row_left := PySem.W.mg_of X G a_row_left
  have F_branches_left := fun_mk (st := sBranL) l_branches_left c_branches_left k_branches_left
  have b_branches_left := F_branches_left.binds (ps := ["row", "ifs", "left"]) fun _ _ _ _ _ _ us hl => match us, hl with | [_, _, _], _ => rfl
  have m_branches_left := PySem.W.mg_of X G a_branches_left
  have F_is_if_head := fun_mk (st := sIfHead) l_is_if_head c_is_if_head k_is_if_head
  have b_is_if_head := F_is_if_head.binds (ps := ["thing"]) fun _ _ _ _ _ _ us hl => match us, hl with | [_], _ => rfl
  have m_is_if_head := PySem.W.mg_of X G a_is_if_head
  have F_is_plain_row := fun_mk (st := sPlain) l_is_plain_row c_is_plain_row k_is_plain_row
  have b_is_plain_row := F_is_plain_row.binds (ps := ["thing"]) fun _ _ _ _ _ _ us hl => match us, hl with | [_], _ => rfl
  have m_is_plain_row := PySem.W.mg_of X G a_is_plain_row
  have F_check_works := fun_mk (st := sChkWorks) l_check_works c_check_works k_check_works
  have b_check_works := F_check_works.binds (ps := ["thing"]) fun _ _ _ _ _ _ us hl => match us, hl with | [_], _ => rfl
  have m_check_works := PySem.W.mg_of X G a_check_works
  have F_check_starts := fun_mk (st := sChkStarts) l_check_starts c_check_starts k_check_starts
  have b_check_starts := F_check_starts.binds (ps := ["works"]) fun _ _ _ _ _ _ us hl => match us, hl with | [_], _ => rfl
  have m_check_starts := PySem.W.mg_of X G a_check_starts
  have F_handed_counts := fun_mk (st := sHanded) l_handed_counts c_handed_counts k_handed_counts
  have b_handed_counts := F_handed_counts.binds (ps := ["works"]) fun _ _ _ _ _ _ us hl => match us, hl with | [_], _ => rfl
  have m_handed_counts := PySem.W.mg_of X G a_handed_counts
  have F_check_start := fun_mk (st := sChkStart) l_check_start c_check_start k_check_start
  have b_check_start := F_check_start.binds (ps := ["start", "handed"]) fun _ _ _ _ _ _ us hl => match us, hl with | [_, _], _ => rfl
  have m_check_start := PySem.W.mg_of X G a_check_start
  have F_starts_in := fun_mk (st := sStartsIn) l_starts_in c_starts_in k_starts_in
  have b_starts_in := F_starts_in.binds (ps := ["rows"]) fun _ _ _ _ _ _ us hl => match us, hl with | [_], _ => rfl
  have m_starts_in := PySem.W.mg_of X G a_starts_in
  have F___init__ := fun_mk (st := sBookInit) l___init__ c___init__ k___init__
  have b___init__ := F___init__.binds (ps := ["self", "works"]) fun _ _ _ _ _ _ us hl => match us, hl with | [_, _], _ => rfl
  have F___str__ := fun_mk (st := sBookStr) l___str__ c___str__ k___str__
  have b___str__ := F___str__.binds (ps := ["self"]) fun _ _ _ _ _ _ us hl => match us, hl with | [_], _ => rfl
  have F_Lbag := fun_mk (st := sBag) l_Lbag c_Lbag k_Lbag
  have b_Lbag := F_Lbag.binds (ps := ["_law_script", "_law_k"]) fun _ _ _ _ _ _ us hl => match us, hl with | [_, _], _ => rfl
  have m_Lbag := PySem.W.mg_of X G a_Lbag
  have F_Ltake := fun_mk (st := sTake) l_Ltake c_Ltake k_Ltake
  have b_Ltake := F_Ltake.binds (ps := ["_law_bag_here", "_law_many"]) fun _ _ _ _ _ _ us hl => match us, hl with | [_, _], _ => rfl
  have m_Ltake := PySem.W.mg_of X G a_Ltake
  have F_Lkept := fun_mk (st := sKept) l_Lkept c_Lkept k_Lkept
  have b_Lkept := F_Lkept.binds (ps := []) fun _ _ _ _ _ _ us hl => match us, hl with | [], _ => rfl
  have m_Lkept := PySem.W.mg_of X G a_Lkept
  have F_Lnames := fun_mk (st := sNames) l_Lnames c_Lnames k_Lnames
  have b_Lnames := F_Lnames.binds (ps := ["_law_bag_here", "_law_many"]) fun _ _ _ _ _ _ us hl => match us, hl with | [_, _], _ => rfl
  have m_Lnames := PySem.W.mg_of X G a_Lnames
  have F_Lnumber := fun_mk (st := sNumber) l_Lnumber c_Lnumber k_Lnumber
  have b_Lnumber := F_Lnumber.binds (ps := ["_law_bag_here"]) fun _ _ _ _ _ _ us hl => match us, hl with | [_], _ => rfl
  have m_Lnumber := PySem.W.mg_of X G a_Lnumber
  have F_Ltree := fun_mk (st := sTree) l_Ltree c_Ltree k_Ltree
  have b_Ltree := F_Ltree.binds (ps := ["_law_bag_here", "_law_names_here", "_law_deep"]) fun _ _ _ _ _ _ us hl => match us, hl with | [_, _, _], _ => rfl
  have m_Ltree := PySem.W.mg_of X G a_Ltree
  have F_Lrow := fun_mk (st := sRow) l_Lrow c_Lrow k_Lrow
  have b_Lrow := F_Lrow.binds (ps := ["_law_bag_here", "_law_state", "_law_nested"]) fun _ _ _ _ _ _ us hl => match us, hl with | [_, _, _], _ => rfl
  have m_Lrow := PySem.W.mg_of X G a_Lrow
  have F_Lrows := fun_mk (st := sRows) l_Lrows c_Lrows k_Lrows
  have b_Lrows := F_Lrows.binds (ps := ["_law_bag_here", "_law_state", "_law_nested"]) fun _ _ _ _ _ _ us hl => match us, hl with | [_, _, _], _ => rfl
  have m_Lrows := PySem.W.mg_of X G a_Lrows
  have F_Lworks := fun_mk (st := sWorks) l_Lworks c_Lworks k_Lworks
  have b_Lworks := F_Lworks.binds (ps := ["_law_bag_here", "_law_most"]) fun _ _ _ _ _ _ us hl => match us, hl with | [_, _], _ => rfl
  have m_Lworks := PySem.W.mg_of X G a_Lworks
  have F_Ltext := fun_mk (st := sText) l_Ltext c_Ltext k_Ltext
  have b_Ltext := F_Ltext.binds (ps := ["_law_tree_here"]) fun _ _ _ _ _ _ us hl => match us, hl with | [_], _ => rfl
  have m_Ltext := PySem.W.mg_of X G a_Ltext
  have F_Lrow_text := fun_mk (st := sRowTx) l_Lrow_text c_Lrow_text k_Lrow_text
  have b_Lrow_text := F_Lrow_text.binds (ps := ["_law_row_here"]) fun _ _ _ _ _ _ us hl => match us, hl with | [_], _ => rfl
  have m_Lrow_text := PySem.W.mg_of X G a_Lrow_text
  have F_Llines := fun_mk (st := sLinesTx) l_Llines c_Llines k_Llines
  have b_Llines := F_Llines.binds (ps := ["_law_rows_here", "_law_ahead"]) fun _ _ _ _ _ _ us hl => match us, hl with | [_, _], _ => rfl
  have m_Llines := PySem.W.mg_of X G a_Llines
  have F_Lwork_text := fun_mk (st := sWorkTx) l_Lwork_text c_Lwork_text k_Lwork_text
  have b_Lwork_text := F_Lwork_text.binds (ps := ["_law_work", "_law_ahead"]) fun _ _ _ _ _ _ us hl => match us, hl with | [_, _], _ => rfl
  have m_Lwork_text := PySem.W.mg_of X G a_Lwork_text
  have F_Lis_right := fun_mk (st := sIsRight) l_Lis_right c_Lis_right k_Lis_right
  have b_Lis_right := F_Lis_right.binds (ps := ["_law_works_here", "_law_book"]) fun _ _ _ _ _ _ us hl => match us, hl with | [_, _], _ => rfl
  have m_Lis_right := PySem.W.mg_of X G a_Lis_right
  have F_law := fun_mk (st := sLaw) l_law c_law k_law
  have m_law := PySem.W.mg_of X G a_law
  have T : Bi mg := ⟨PySem.W.mg_none_of X G z_len, PySem.W.mg_none_of X G z_abs, PySem.W.mg_none_of X G z_int, PySem.W.mg_none_of X G z_str, PySem.W.mg_none_of X G z_range, PySem.W.mg_none_of X G z_max, PySem.W.mg_none_of X G z_min, PySem.W.mg_none_of X G z_isinstance, PySem.W.mg_none_of X G z_all⟩
  have q_tuple := PySem.W.mg_none_of X G z_tuple
  have q_bool := PySem.W.mg_none_of X G z_bool
  have q_set := PySem.W.mg_none_of X G z_set
  have q_list := PySem.W.mg_none_of X G z_list
  refine ⟨PySem.W.fnOf "law" "law" (defArgs sLaw) (defBody sLaw) (defScope sLaw) .none kV_law dc_law pm_law an_law cd_law ct_law, fun s v => .of_eq rfl, fun base _ _ => ?_⟩
  have B : BindD K w aB := ⟨⟨esB, nB, lB0, kB0⟩, low0, fun g => by
    cases g
    · exact ⟨_, n1, ⟨_, rfl⟩⟩
    · exact ⟨_, n2, ⟨_, rfl⟩⟩
    · exact ⟨_, n3, ⟨_, rfl⟩⟩
    · exact ⟨_, n4, ⟨_, rfl⟩⟩
    · exact ⟨_, n5, ⟨_, rfl⟩⟩, n6, n7⟩
  have hW10 : iW.toArray.size ≤ sizeLine := by
    have := vW.length
    rw [List.size_toArray, ← this]
    decide
  have hS5 : iS.toArray.size ≤ sizeLine := by
    have := vS.length
    rw [List.size_toArray, ← this]
    decide
  have e30 : (1000000 : Int) ^ 5 - 1 = 999999999999999999999999999999 := by decide
  have GF : Gf K mg := ⟨⟨aW, PySem.W.mg_of X G gW, fun H => .inr ⟨_, iW.toArray, nW, lW, rfl, rfl, hW10, by rw [List.toList_toArray]; exact vW⟩⟩, ⟨aS, PySem.W.mg_of X G gS, fun H => .inr ⟨_, iS.toArray, nS, lS, rfl, rfl, hS5, by rw [List.toList_toArray]; exact vS⟩⟩, ⟨tLt, PySem.W.mg_of X G gLt⟩,
    ⟨_, PySem.W.mg_of X G g_MOST_WORKS⟩, ⟨_, PySem.W.mg_of X G g_MOST_ROWS⟩, ⟨_, PySem.W.mg_of X G g_MOST_NAMES⟩, ⟨_, PySem.W.mg_of X G g_MOST_EXPRESSIONS⟩, ⟨_, PySem.W.mg_of X G g_MOST_IFS⟩, ⟨_, PySem.W.mg_of X G g_MOST_LETTERS⟩, ⟨_, PySem.W.mg_of X G g_MOST_ROOM⟩, ⟨_, by rw [e30]; exact PySem.W.mg_of X G g_MOST_NUMBER⟩, ⟨_, PySem.W.mg_of X G g_NO_ROWS⟩⟩
  have BKT : BkT K mg C := ⟨⟨pg, hd, po, sa⟩, nWk, PySem.W.mg_of X G aC⟩
  have FE : FunD K "is_expression" "is_expression" (defArgs sIsEx) (defBody sIsEx) (defScope sIsEx) [.int 6] [] f_is_expression _ := ⟨⟨_, _, _, _, _, _, _, _, _, _, rfl, l_is_expression, c_is_expression, .inr ⟨by simp, TD, oTD, iTD, nTD, rfl, lTD, oTD0, vTD⟩, .inl rfl⟩, k_is_expression⟩
  obtain ⟨⟨dsE, vE, bE⟩, bE0⟩ := isEx_dflt FE
  obtain ⟨⟨g0, kb0⟩, ⟨g1, kb1⟩⟩ := shWork_kw l_show_work c_show_work k_show_work gDK
  have mBl := PySem.W.mg_of X G gBl
  -- the program's forms
  have TO : Fk l.prog w K mg base 1 "is_tuple_of" f_is_tuple_of _ ["thing", "many"] spTupOf := ⟨ok_tupOf F_is_tuple_of T q_tuple, m_is_tuple_of, k_is_tuple_of, b_is_tuple_of⟩
  have WH : Fk l.prog w K mg base 1 "is_whole" f_is_whole _ ["thing"] spWhole := ⟨ok_whole F_is_whole T q_bool, m_is_whole, k_is_whole, b_is_whole⟩
  have WI : Fk l.prog w K mg base 2 "is_whole_within" f_is_whole_within _ ["thing", "most"] spWithin := ⟨ok_within F_is_whole_within WH, m_is_whole_within, k_is_whole_within, b_is_whole_within⟩
  have IN : Fk l.prog w K mg base 1 "is_name" f_is_name _ ["thing"] spIsName := ⟨ok_isName F_is_name T GF, m_is_name, k_is_name, b_is_name⟩
  have LF : Fk l.prog w K mg base 3 "is_leaf" f_is_leaf _ ["pair"] spLeaf := ⟨ok_leaf F_is_leaf WI IN GF, m_is_leaf, k_is_leaf, b_is_leaf⟩
  have mE := PySem.W.mg_of X G a_is_expression
  have IE : Fk l.prog w K mg base 9 "is_expression" f_is_expression _ ["thing", "deepest"] (spIsEx 6) := ⟨isExs FE mE bE0 TO LF GF 6, mE, k_is_expression, bE0⟩
  have AN : Fk l.prog w K mg base 2 "are_names" f_are_names _ ["thing"] spAreNames := ⟨ok_areNames F_are_names IN T GF q_tuple q_set, m_are_names, k_are_names, b_are_names⟩
  have AE : Fk l.prog w K mg base 10 "are_expressions" f_are_expressions _ ["thing"] spAreEx := ⟨ok_areEx F_are_expressions IE vE bE T GF q_tuple, m_are_expressions, k_are_expressions, b_are_expressions⟩
  have IH : ∀ n, Fk l.prog w K mg base 10 "is_if_head" f_is_if_head _ ["thing"] (spIfHead n) := fun n => ⟨ok_ifHead F_is_if_head TO IE vE bE, m_is_if_head, k_is_if_head, b_is_if_head⟩
  have IP : ∀ n, Fk l.prog w K mg base 11 "is_plain_row" f_is_plain_row _ ["thing"] (spPlain n) := fun n => ⟨ok_plain F_is_plain_row TO IE vE bE IN AE, m_is_plain_row, k_is_plain_row, b_is_plain_row⟩
  have RLs : ∀ n, FnOk l.prog w K mg base CX0 (13 + 3 * n) f_rows_left (PySem.W.fnOf "rows_left" "rows_left" (defArgs sRowsL) (defBody sRowsL) (defScope sRowsL) .none kV_rows_left dc_rows_left pm_rows_left an_rows_left cd_rows_left ct_rows_left) ["thing", "ifs", "left"] (spRowsL n) := by
    intro n
    induction n with
    | zero => exact ok_rowsL (k := 12) F_rows_left ⟨ok_rowL (k := 11) (by decide) F_row_left (IH 0) (IP 0) (fun h => absurd h (by decide)) m_branches_left k_branches_left b_branches_left GF, m_row_left, k_row_left, b_row_left⟩ T GF q_tuple
    | succ n ih =>
      have br := ok_branL (k := 13 + 3 * n) F_branches_left ⟨ih, m_rows_left, k_rows_left, b_rows_left⟩ GF
      have rl := ok_rowL (n := n + 1) (k := 13 + 3 * n + 1) (by omega) F_row_left (IH (n + 1)) (IP (n + 1)) (fun _ => ⟨br, m_branches_left, k_branches_left, b_branches_left⟩) m_branches_left k_branches_left b_branches_left GF
      have rs := ok_rowsL F_rows_left ⟨rl, m_row_left, k_row_left, b_row_left⟩ T GF q_tuple
      rw [show 13 + 3 * (n + 1) = 13 + 3 * n + 1 + 1 + 1 by omega]
      exact rs
  have IW : Fk l.prog w K mg base 23 "is_work" f_is_work _ ["thing"] spIsWork := ⟨ok_isWork F_is_work TO IN AN WI ⟨RLs 3, m_rows_left, k_rows_left, b_rows_left⟩ GF, m_is_work, k_is_work, b_is_work⟩
  have CW : Fk l.prog w K mg base 24 "check_work" f_check_work _ ["thing"] spChkWork := ⟨ok_chkWork F_check_work IW, m_check_work, k_check_work, b_check_work⟩
  have CK : Fk l.prog w K mg base 25 "check_works" f_check_works _ ["thing"] spChkWorks := ⟨ok_chkWorks F_check_works CW T GF q_list, m_check_works, k_check_works, b_check_works⟩
  have SIs : ∀ n, FnOk l.prog w K mg base CX0 (n + 1) f_starts_in (PySem.W.fnOf "starts_in" "starts_in" (defArgs sStartsIn) (defBody sStartsIn) (defScope sStartsIn) .none kV_starts_in dc_starts_in pm_starts_in an_starts_in cd_starts_in ct_starts_in) ["rows"] (spStartsIn n) := by
    intro n
    induction n with
    | zero => exact ok_startsIn (n := 0) F_starts_in (fun h => absurd h (by decide)) m_starts_in b_starts_in
    | succ n ih => exact ok_startsIn (n := n + 1) F_starts_in (fun _ => ih) m_starts_in b_starts_in
  have CS : Fk l.prog w K mg base 5 "check_starts" f_check_starts _ ["works"] spChkStarts := ⟨ok_chkStarts F_check_starts ⟨SIs 3, m_starts_in, k_starts_in, b_starts_in⟩ ⟨ok_handed F_handed_counts T, m_handed_counts, k_handed_counts, b_handed_counts⟩ ⟨ok_chkStart F_check_start T, m_check_start, k_check_start, b_check_start⟩ T, m_check_starts, k_check_starts, b_check_starts⟩
  have GI := ok_bookInit F___init__ BKT CK CS q_tuple
  -- its writing
  have SE0 := shows (P := l.prog) (w := w) (base := base) F_show_expression F_binding_of F_show_left F_show_right F_show_part m_show_expression m_binding_of m_show_left m_show_right m_show_part b_show_expression b_binding_of b_show_left b_show_right b_show_part (PySem.W.mg_of X G gB) B (PySem.W.mg_of X G gC) (PySem.W.mg_of X G gL) T.str 6 (by decide)
  have SE : Fk l.prog w K mg base 18 "show_expression" f_show_expression _ ["tree"] (spShow 6) := ⟨SE0, m_show_expression, k_show_expression, b_show_expression⟩
  have SS : Fk l.prog w K mg base 19 "show_start" f_show_start _ ["row"] spShStart := ⟨ok_shStart F_show_start SE, m_show_start, k_show_start, b_show_start⟩
  have SW : Fk l.prog w K mg base 19 "show_wait" f_show_wait _ ["row"] spShWait := ⟨ok_shWait F_show_wait SE, m_show_wait, k_show_wait, b_show_wait⟩
  have SR : Fk l.prog w K mg base 20 "show_row" f_show_row _ ["row"] spShRow := ⟨ok_shRow F_show_row SE SS SW, m_show_row, k_show_row, b_show_row⟩
  have RLn : Fk l.prog w K mg base 31 "rows_lines" f_rows_lines _ ["rows", "depth"] (spRowsLn 3) := ⟨linesAll F_rows_lines m_rows_lines b_rows_lines F_row_lines m_row_lines b_row_lines F_if_lines m_if_lines b_if_lines SR SE mBl 3, m_rows_lines, k_rows_lines, b_rows_lines⟩
  have SK : FkK l.prog w K mg base 32 "show_work" f_show_work _ ["work", "depth"] spShWork := ⟨ok_shWork F_show_work RLn mBl, m_show_work, k_show_work⟩
  have GSt := ok_bookStr F___str__ BKT SK kb0
  -- the law's own
  have TK : Fk l.prog w K mg base 1 "_law_take" f_Ltake _ ["_law_bag_here", "_law_many"] spTake := ⟨ok_take F_Ltake, m_Ltake, k_Ltake, b_Ltake⟩
  have KP : Fk l.prog w K mg base 1 "_law_kept" f_Lkept _ [] spKept := ⟨ok_kept F_Lkept, m_Lkept, k_Lkept, b_Lkept⟩
  have NB : Fk l.prog w K mg base 2 "_law_number" f_Lnumber _ ["_law_bag_here"] spNumber := ⟨ok_number F_Lnumber TK T, m_Lnumber, k_Lnumber, b_Lnumber⟩
  have NM : Fk l.prog w K mg base 2 "_law_names" f_Lnames _ ["_law_bag_here", "_law_many"] spNames := ⟨ok_names F_Lnames TK KP T, m_Lnames, k_Lnames, b_Lnames⟩
  have BG : Fk l.prog w K mg base 1 "_law_bag" f_Lbag _ ["_law_script", "_law_k"] (spBag K) := ⟨ok_bag F_Lbag T, m_Lbag, k_Lbag, b_Lbag⟩
  have TR : Fk l.prog w K mg base 8 "_law_tree" f_Ltree _ ["_law_bag_here", "_law_names_here", "_law_deep"] (spTrees 6) := ⟨trees_all F_Ltree m_Ltree b_Ltree TK NB T 6, m_Ltree, k_Ltree, b_Ltree⟩
  have RW16 : Fk l.prog w K mg base 16 "_law_rows" f_Lrows _ ["_law_bag_here", "_law_state", "_law_nested"] (spRows 3) := ⟨rowsAll F_Lrow m_Lrow b_Lrow F_Lrows m_Lrows b_Lrows TK TR T q_tuple 3, m_Lrows, k_Lrows, b_Lrows⟩
  have WS : Fk l.prog w K mg base 17 "_law_works" f_Lworks _ ["_law_bag_here", "_law_most"] spWorks := ⟨ok_works F_Lworks TK NM RW16 T q_tuple, m_Lworks, k_Lworks, b_Lworks⟩
  have TX : Fk l.prog w K mg base 6 "_law_text" f_Ltext _ ["_law_tree_here"] (spText 6) := ⟨texts F_Ltext m_Ltext b_Ltext T 6 (by decide), m_Ltext, k_Ltext, b_Ltext⟩
  have RT : Fk l.prog w K mg base 7 "_law_row_text" f_Lrow_text _ ["_law_row_here"] spRowTx := ⟨ok_rowTx F_Lrow_text TX, m_Lrow_text, k_Lrow_text, b_Lrow_text⟩
  have LN : Fk l.prog w K mg base 11 "_law_lines" f_Llines _ ["_law_rows_here", "_law_ahead"] (spLinesTx 3) := ⟨linesTxAll F_Llines m_Llines b_Llines TX RT 3 (by decide), m_Llines, k_Llines, b_Llines⟩
  have WT : Fk l.prog w K mg base 12 "_law_work_text" f_Lwork_text _ ["_law_work", "_law_ahead"] spWorkTx := ⟨ok_workTx F_Lwork_text LN T, m_Lwork_text, k_Lwork_text, b_Lwork_text⟩
  have IR : Fk l.prog w K mg base 36 "_law_is_right" f_Lis_right _ ["_law_works_here", "_law_book"] (spIsRight C) := ⟨ok_isRight F_Lis_right WT a___str__ i___str__ GSt b___str__ T, m_Lis_right, k_Lis_right, b_Lis_right⟩
  exact ok_law F_law BG WS TK SK kb0 kb1 WT IR BKT ⟨mk, a___init__, i___init__, kc⟩ GI b___init__ a___str__ i___str__ GSt b___str__ T
theorem walk {l : PySem.W.OpenLaw} {q : Program} {loose : List Str} {XP : (Str → Option Value) → Heap → Prop} {YP : World → Heap → Prop} {d : DefRec} {K : Params → PySem.W.Frag} (hn : l.most = some 63) (hdf : d.params.defaults = [])
    (hY : ∀ (w : World) (h : Heap), YP w h → (K w.params).In h)
    (F : ∀ (w : World) (mg : Str → Option Value) (fa : Addr) (h : Heap), (K w.params).In h → h.Ns mainGlobals mg → mg d.name = some (.ref fa) →
      ∃ fd : FuncData, (∀ (s : Shared) (u : Value), BindsTo s fd ⟨[u], []⟩ [("_law_script", u)]) ∧ ∀ base : Heap, (K w.params).In base → base.Ns mainGlobals mg → FnOk l.prog w (K w.params) mg base CX0 38 fa fd ["_law_script"] (spLaw (K w.params))) :
    PySem.W.WalkO q loose XP YP l.row.toRowW d [] (fun f vs => PySem.call f vs) :=
  L2.walk_of (n := 63) (k := 38) (x := "_law_script") (CX := fun _ => CX0) (sp := fun w => spLaw (K w.params)) hn (by decide) hdf ⟨rfl, by decide, by decide⟩ hY F (fun _ _ a ns hl _ hS => ⟨a, ns, rfl, hS, hl, fun _ => rfl⟩) fun _ _ _ _ _ z => z
end SH
open PySem PySem.W PyProof.Rows
set_option maxRecDepth 100000 in
set_option maxHeartbeats 0 in
theorem PySem.Challenge.cw_stealhall_k07_works_written_holds : PySem.Challenge.rw_stealhall_k07_works_written.Holds := by
  w_on; o_law; k_head; (case hw => w_witness2)
  k_fill
  refine SH.walk (l := PySem.Challenge.rw_stealhall_k07_works_written) rfl rfl (fun w h Y => PySem.W.kIn_of Y) ?F
  case F =>
    intro w mg fa h KX G hmg
    refine' SH.all_mk KX G hmg ?aC ?a_show_expression ?l_show_expression ?c_show_expression ?k_show_expression ?a_binding_of ?l_binding_of ?c_binding_of ?k_binding_of ?a_show_left ?l_show_left ?c_show_left ?k_show_left ?a_show_right ?l_show_right ?c_show_right ?k_show_right ?a_show_part ?l_show_part ?c_show_part ?k_show_part ?a_show_work ?l_show_work ?c_show_work ?k_show_work ?a_rows_lines ?l_rows_lines ?c_rows_lines ?k_rows_lines ?a_row_lines ?l_row_lines ?c_row_lines ?k_row_lines ?a_if_lines ?l_if_lines ?c_if_lines ?k_if_lines ?a_show_row ?l_show_row ?c_show_row ?k_show_row ?a_show_wait ?l_show_wait ?c_show_wait ?k_show_wait ?a_show_start ?l_show_start ?c_show_start ?k_show_start ?a_check_work ?l_check_work ?c_check_work ?k_check_work ?a_is_work ?l_is_work ?c_is_work ?k_is_work ?a_is_tuple_of ?l_is_tuple_of ?c_is_tuple_of ?k_is_tuple_of ?a_is_whole ?l_is_whole ?c_is_whole ?k_is_whole ?a_is_whole_within ?l_is_whole_within ?c_is_whole_within ?k_is_whole_within ?a_is_name ?l_is_name ?c_is_name ?k_is_name ?a_are_names ?l_are_names ?c_are_names ?k_are_names ?a_is_expression ?l_is_expression ?c_is_expression ?k_is_expression ?a_is_leaf ?l_is_leaf ?c_is_leaf ?k_is_leaf ?a_are_expressions ?l_are_expressions ?c_are_expressions ?k_are_expressions ?a_rows_left ?l_rows_left ?c_rows_left ?k_rows_left ?a_row_left ?l_row_left ?c_row_left ?k_row_left ?a_branches_left ?l_branches_left ?c_branches_left ?k_branches_left ?a_is_if_head ?l_is_if_head ?c_is_if_head ?k_is_if_head ?a_is_plain_row ?l_is_plain_row ?c_is_plain_row ?k_is_plain_row ?a_check_works ?l_check_works ?c_check_works ?k_check_works ?a_check_starts ?l_check_starts ?c_check_starts ?k_check_starts ?a_handed_counts ?l_handed_counts ?c_handed_counts ?k_handed_counts ?a_check_start ?l_check_start ?c_check_start ?k_check_start ?a_starts_in ?l_starts_in ?c_starts_in ?k_starts_in ?a___init__ ?l___init__ ?c___init__ ?k___init__ ?i___init__ ?a___str__ ?l___str__ ?c___str__ ?k___str__ ?i___str__ ?a_Lbag ?l_Lbag ?c_Lbag ?k_Lbag ?a_Ltake ?l_Ltake ?c_Ltake ?k_Ltake ?a_Lkept ?l_Lkept ?c_Lkept ?k_Lkept ?a_Lnames ?l_Lnames ?c_Lnames ?k_Lnames ?a_Lnumber ?l_Lnumber ?c_Lnumber ?k_Lnumber ?a_Ltree ?l_Ltree ?c_Ltree ?k_Ltree ?a_Lrow ?l_Lrow ?c_Lrow ?k_Lrow ?a_Lrows ?l_Lrows ?c_Lrows ?k_Lrows ?a_Lworks ?l_Lworks ?c_Lworks ?k_Lworks ?a_Ltext ?l_Ltext ?c_Ltext ?k_Ltext ?a_Lrow_text ?l_Lrow_text ?c_Lrow_text ?k_Lrow_text ?a_Llines ?l_Llines ?c_Llines ?k_Llines ?a_Lwork_text ?l_Lwork_text ?c_Lwork_text ?k_Lwork_text ?a_Lis_right ?l_Lis_right ?c_Lis_right ?k_Lis_right ?a_law ?l_law ?c_law ?k_law ?z_len ?z_abs ?z_int ?z_str ?z_range ?z_max ?z_min ?z_isinstance ?z_all ?z_tuple ?z_bool ?z_set ?z_list ?gB ?gC ?gL ?lB0 ?kB0 ?low0 ?n1 ?n2 ?n3 ?n4 ?n5 ?n6 ?n7 ?gBl ?gLt ?g_MOST_WORKS ?g_MOST_ROWS ?g_MOST_NAMES ?g_MOST_EXPRESSIONS ?g_MOST_IFS ?g_MOST_LETTERS ?g_MOST_ROOM ?g_MOST_NUMBER ?g_NO_ROWS ?gW ?lW ?vW ?gS ?lS ?vS ?lTD ?oTD0 ?vTD ?gDK ?pg ?hd ?po ?sa ?mk ?kc ?nWk
    (case aC => k_is)
    (case a_show_expression => k_is)
    (case l_show_expression => k_is)
    (case c_show_expression => k_is)
    (case k_show_expression => k_is)
    (case a_binding_of => k_is)
    (case l_binding_of => k_is)
    (case c_binding_of => k_is)
    (case k_binding_of => k_is)
    (case a_show_left => k_is)
    (case l_show_left => k_is)
    (case c_show_left => k_is)
    (case k_show_left => k_is)
    (case a_show_right => k_is)
    (case l_show_right => k_is)
    (case c_show_right => k_is)
    (case k_show_right => k_is)
    (case a_show_part => k_is)
    (case l_show_part => k_is)
    (case c_show_part => k_is)
    (case k_show_part => k_is)
    (case a_show_work => k_is)
    (case l_show_work => k_is)
    (case c_show_work => k_is)
    (case k_show_work => k_is)
    (case a_rows_lines => k_is)
    (case l_rows_lines => k_is)
    (case c_rows_lines => k_is)
    (case k_rows_lines => k_is)
    (case a_row_lines => k_is)
    (case l_row_lines => k_is)
    (case c_row_lines => k_is)
    (case k_row_lines => k_is)
    (case a_if_lines => k_is)
    (case l_if_lines => k_is)
    (case c_if_lines => k_is)
    (case k_if_lines => k_is)
    (case a_show_row => k_is)
    (case l_show_row => k_is)
    (case c_show_row => k_is)
    (case k_show_row => k_is)
    (case a_show_wait => k_is)
    (case l_show_wait => k_is)
    (case c_show_wait => k_is)
    (case k_show_wait => k_is)
    (case a_show_start => k_is)
    (case l_show_start => k_is)
    (case c_show_start => k_is)
    (case k_show_start => k_is)
    (case a_check_work => k_is)
    (case l_check_work => k_is)
    (case c_check_work => k_is)
    (case k_check_work => k_is)
    (case a_is_work => k_is)
    (case l_is_work => k_is)
    (case c_is_work => k_is)
    (case k_is_work => k_is)
    (case a_is_tuple_of => k_is)
    (case l_is_tuple_of => k_is)
    (case c_is_tuple_of => k_is)
    (case k_is_tuple_of => k_is)
    (case a_is_whole => k_is)
    (case l_is_whole => k_is)
    (case c_is_whole => k_is)
    (case k_is_whole => k_is)
    (case a_is_whole_within => k_is)
    (case l_is_whole_within => k_is)
    (case c_is_whole_within => k_is)
    (case k_is_whole_within => k_is)
    (case a_is_name => k_is)
    (case l_is_name => k_is)
    (case c_is_name => k_is)
    (case k_is_name => k_is)
    (case a_are_names => k_is)
    (case l_are_names => k_is)
    (case c_are_names => k_is)
    (case k_are_names => k_is)
    (case a_is_expression => k_is)
    (case l_is_expression => k_is)
    (case c_is_expression => k_is)
    (case k_is_expression => k_is)
    (case a_is_leaf => k_is)
    (case l_is_leaf => k_is)
    (case c_is_leaf => k_is)
    (case k_is_leaf => k_is)
    (case a_are_expressions => k_is)
    (case l_are_expressions => k_is)
    (case c_are_expressions => k_is)
    (case k_are_expressions => k_is)
    (case a_rows_left => k_is)
    (case l_rows_left => k_is)
    (case c_rows_left => k_is)
    (case k_rows_left => k_is)
    (case a_row_left => k_is)
    (case l_row_left => k_is)
    (case c_row_left => k_is)
    (case k_row_left => k_is)
    (case a_branches_left => k_is)
    (case l_branches_left => k_is)
    (case c_branches_left => k_is)
    (case k_branches_left => k_is)
    (case a_is_if_head => k_is)
    (case l_is_if_head => k_is)
    (case c_is_if_head => k_is)
    (case k_is_if_head => k_is)
    (case a_is_plain_row => k_is)
    (case l_is_plain_row => k_is)
    (case c_is_plain_row => k_is)
    (case k_is_plain_row => k_is)
    (case a_check_works => k_is)
    (case l_check_works => k_is)
    (case c_check_works => k_is)
    (case k_check_works => k_is)
    (case a_check_starts => k_is)
    (case l_check_starts => k_is)
    (case c_check_starts => k_is)
    (case k_check_starts => k_is)
    (case a_handed_counts => k_is)
    (case l_handed_counts => k_is)
    (case c_handed_counts => k_is)
    (case k_handed_counts => k_is)
    (case a_check_start => k_is)
    (case l_check_start => k_is)
    (case c_check_start => k_is)
    (case k_check_start => k_is)
    (case a_starts_in => k_is)
    (case l_starts_in => k_is)
    (case c_starts_in => k_is)
    (case k_starts_in => k_is)
    (case a___init__ => k_is)
    (case l___init__ => k_is)
    (case c___init__ => k_is)
    (case k___init__ => k_is)
    (case i___init__ => k_is)
    (case a___str__ => k_is)
    (case l___str__ => k_is)
    (case c___str__ => k_is)
    (case k___str__ => k_is)
    (case i___str__ => k_is)
    (case a_Lbag => k_is)
    (case l_Lbag => k_is)
    (case c_Lbag => k_is)
    (case k_Lbag => k_is)
    (case a_Ltake => k_is)
    (case l_Ltake => k_is)
    (case c_Ltake => k_is)
    (case k_Ltake => k_is)
    (case a_Lkept => k_is)
    (case l_Lkept => k_is)
    (case c_Lkept => k_is)
    (case k_Lkept => k_is)
    (case a_Lnames => k_is)
    (case l_Lnames => k_is)
    (case c_Lnames => k_is)
    (case k_Lnames => k_is)
    (case a_Lnumber => k_is)
    (case l_Lnumber => k_is)
    (case c_Lnumber => k_is)
    (case k_Lnumber => k_is)
    (case a_Ltree => k_is)
    (case l_Ltree => k_is)
    (case c_Ltree => k_is)
    (case k_Ltree => k_is)
    (case a_Lrow => k_is)
    (case l_Lrow => k_is)
    (case c_Lrow => k_is)
    (case k_Lrow => k_is)
    (case a_Lrows => k_is)
    (case l_Lrows => k_is)
    (case c_Lrows => k_is)
    (case k_Lrows => k_is)
    (case a_Lworks => k_is)
    (case l_Lworks => k_is)
    (case c_Lworks => k_is)
    (case k_Lworks => k_is)
    (case a_Ltext => k_is)
    (case l_Ltext => k_is)
    (case c_Ltext => k_is)
    (case k_Ltext => k_is)
    (case a_Lrow_text => k_is)
    (case l_Lrow_text => k_is)
    (case c_Lrow_text => k_is)
    (case k_Lrow_text => k_is)
    (case a_Llines => k_is)
    (case l_Llines => k_is)
    (case c_Llines => k_is)
    (case k_Llines => k_is)
    (case a_Lwork_text => k_is)
    (case l_Lwork_text => k_is)
    (case c_Lwork_text => k_is)
    (case k_Lwork_text => k_is)
    (case a_Lis_right => k_is)
    (case l_Lis_right => k_is)
    (case c_Lis_right => k_is)
    (case k_Lis_right => k_is)
    (case a_law => k_is)
    (case l_law => k_is)
    (case c_law => k_is)
    (case k_law => k_is)
    (case z_len => k_is)
    (case z_abs => k_is)
    (case z_int => k_is)
    (case z_str => k_is)
    (case z_range => k_is)
    (case z_max => k_is)
    (case z_min => k_is)
    (case z_isinstance => k_is)
    (case z_all => k_is)
    (case z_tuple => k_is)
    (case z_bool => k_is)
    (case z_set => k_is)
    (case z_list => k_is)
    (case gB => k_is)
    (case gC => k_is)
    (case gL => k_is)
    (case lB0 => k_is)
    (case kB0 => (repeat (first | exact trivial | refine ⟨⟨_, _, rfl, rfl⟩, ?_⟩)))
    (case low0 => (first | rfl | decide | k_is))
    (case n1 => k_is)
    (case n2 => k_is)
    (case n3 => k_is)
    (case n4 => k_is)
    (case n5 => k_is)
    (case n6 => k_is)
    (case n7 => k_is)
    (case gBl => k_is)
    (case gLt => k_is)
    (case g_MOST_WORKS => k_is)
    (case g_MOST_ROWS => k_is)
    (case g_MOST_NAMES => k_is)
    (case g_MOST_EXPRESSIONS => k_is)
    (case g_MOST_IFS => k_is)
    (case g_MOST_LETTERS => k_is)
    (case g_MOST_ROOM => k_is)
    (case g_MOST_NUMBER => k_is)
    (case g_NO_ROWS => k_is)
    (case gW => k_is)
    (case lW => k_is)
    (case vW => (repeat (first | exact Paired.nil | refine Paired.cons ⟨_, rfl⟩ ?_)))
    (case gS => k_is)
    (case lS => k_is)
    (case vS => (repeat (first | exact Paired.nil | refine Paired.cons ⟨_, rfl⟩ ?_)))
    (case lTD => k_is)
    (case oTD0 => (first | rfl | k_is))
    (case vTD => (repeat (first | exact Paired.nil | refine Paired.cons ⟨_, rfl⟩ ?_)))
    (case gDK => k_is)
    (case pg => k_is)
    (case hd => k_is)
    (case po => k_is)
    (case sa => k_is)
    (case mk => k_is)
    (case kc => k_is)
    (case nWk => k_is)
