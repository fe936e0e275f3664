import PyProof.Rows.All
import Wide.All
import OpenK.AllK
import Wide.FinOn
import PyProof.TypeEq
import PyProof.InstEq
import HandS.ForMost
import HandS.More
import HandS.Style
import HandS.IsInst
import HandS.Codes
import HandS.TupAny
import HandS.Zip
import HandS.Walk
import PyProof.Rows.MatchSeqLen
import PySem.Challenge.RW_groupmarks_k04_where_a_state_leads
set_option Elab.async false
set_option linter.all false
set_option maxRecDepth 100000
set_option maxHeartbeats 4000000
namespace Gm
open PySem PySem.Spec PyProof.Rows L2

/-! ### `type(x) != tuple`, of two built-in types -/
theorem slot_type_ne : Slot "type" (cmpInfo .NotEq).2.1 "object.__ne__" :=
  .of (owner := "object") (n := "__ne__") (by rw [typeLookup_type, builtinLookup_eq_fast]; kernel_rfl) (by decide +kernel) (by decide +kernel) (by decide +kernel)
    (by first | exact .inl (by decide +kernel) | exact .inr (by decide +kernel)) (by rw [isSubtype_type]; kernel_rfl)
theorem slot_type_ne_refl : Slot "type" (cmpInfo .NotEq).2.2 "object.__ne__" :=
  .of (owner := "object") (n := "__ne__") (by rw [typeLookup_type, builtinLookup_eq_fast]; kernel_rfl) (by decide +kernel) (by decide +kernel) (by decide +kernel)
    (by first | exact .inl (by decide +kernel) | exact .inr (by decide +kernel)) (by rw [isSubtype_type]; kernel_rfl)
section
variable {prog : Program} {w : World} {A : Around} {E : Value → Shared → Prop} {s : Shared}
theorem ne_entry_same {X : String} (hX : ∀ s' : Shared, s'.TypeIs (.type X) "type") {Q : Fin → Shared → Prop} (hq : Q (.done (.ret (.bool false))) s) :
    wpAny (model prog w) A (Builtin.«object.__ne__» ⟨[.type X, .type X], []⟩) Q E s := by
  unfold Builtin.«object.__ne__»
  repeat (first
    | with_reducible refine wpAny_cRoomFor_or (.inl rfl) ?_
    | (refine wpAny_bind (m := callSpecialIfBound? (.type X) (Str.ofString "__eq__") [.type X]) (wpAny_callSpecialIfBound?_slot (hX _) TypeEq.slot_type_eq
        (call_gives TypeEq.slot_type_eq (hX _) F.entry_object_eq (F.args_object_eq_2 _ _) (TypeEq.object_eq_same rfl (by simp)) ?_)))
    | wp_step)
  refine show wpAny (model prog w) A (truthy (.bool true) >>= fun b => ret (Value.bool !b)) Q E s from ?_
  exact wpAny_bind (wpAny_truthy_bool (wpAny_pure hq))
theorem ne_type_same {X : String} (hX : ∀ s' : Shared, s'.TypeIs (.type X) "type") {Q : Value → Shared → Prop} (h : Q (.bool false) s) : wpAny (model prog w) A (compareOp .NotEq (.type X) (.type X)) Q E s := by
  show wpAny _ A (richCompare .NotEq _ _) Q E s
  refine wpAny_richCompare_same (T := "type") (hX s) (hX s) slot_type_ne ?_
  exact wpAny_call (codeAny_call_builtin slot_type_ne.plain F.cmpEntry_ne (slot_type_ne.check _ _ _ _ _ _ _ _ (hX s) (F.cmpArgs_ne _ _) (ne_entry_same hX ⟨(by intro e; cases e), h⟩)))
end

section
variable {X : Cx}
theorem op_neTy {T : String} (hX : ∀ s' : Shared, s'.TypeIs (.type T) "type") : OpR X (compareOp .NotEq) (fun x y H Q => x = .ty T ∧ y = .ty T ∧ Q (.bl false) H) := by
  intro pins s σ H x y v u Q I rx ry h
  obtain ⟨rfl, rfl, q⟩ := h
  cases (show v = Value.type T from rx)
  cases (show u = Value.type T from ry)
  exact ne_type_same hX (fin_bl I q rfl)
theorem op_eqTy {T : String} (hX : ∀ s' : Shared, s'.TypeIs (.type T) "type") : OpR X (compareOp .Eq) (fun x y H Q => x = .ty T ∧ y = .ty T ∧ Q (.bl true) H) := by
  intro pins s σ H x y v u Q I rx ry h
  obtain ⟨rfl, rfl, q⟩ := h
  cases (show v = Value.type T from rx)
  cases (show u = Value.type T from ry)
  exact TypeEq.eq_type_same hX (fin_bl I q rfl)
end

/-! ### `D.get(k)`, D a dict of the module with text keys -/
def KGet (K : PySem.W.Frag) (w : World) (a : Addr) (x : Str) (o : Option V) : Prop :=
  ∃ es n u, K.lookup a = some ⟨.type "dict", none, .dict es n, #[]⟩ ∧ PySem.W.KeysLit w.params es.toList ∧ PySem.W.nsIn K a x = some u ∧ RelO o u
def tKGet (K : PySem.W.Frag) (w : World) (td ty : TE) : TE := fun σ H Q => td σ H fun x H1 => ∃ a, x = .ref a ∧ (∃ es n, K.lookup a = some ⟨.type "dict", none, .dict es n, #[]⟩ ∧ PySem.W.KeysLit w.params es.toList) ∧ (a == sysModules) = false ∧ ty σ H1 fun y H2 => ∃ z o, y = .str z ∧ KGet K w a z o ∧ Q (o.getD .non) H2
section
variable {X : Cx} {o e : Expr} {apos cpos : Pos} {td ty : TE}
theorem pe_kget (ho : PE X o td) (he : PE X e ty) (m : M1 X o "get" apos e cpos) : PE X (.Call (.Attribute o "get" apos) [e] [] cpos) (tKGet X.K X.w td ty) := by
  refine ⟨fun pins s σ H Q I h => ?_⟩
  refine wpAny_Call_method m.base m.few m.line PySem.F.plainAttrs_dict PySem.F.slot_dict_get PySem.F.type_dict_get (thn (ho.run pins s σ H _ I h) fun u s1 ⟨x, H1, I1, rx, a, ex, ⟨es, n, hl, hk⟩, hd, q1⟩ => ?_)
  subst ex
  obtain rfl : u = Value.ref a := rx
  have hm := PySem.W.mapOf_K (prog := X.prog) (w := X.w) I1.kIn hl hk
  refine ⟨hm.typeIs, fun b q => ?_, ?_⟩
  · cases q
    exact ⟨_, I1.kIn a _ hl, rfl⟩
  rw [m.trees]
  refine Calls.callWith_builtin rfl (Calls.evalArgs_plain (Calls.spliced_cons (thn (he.run pins s1 σ H1 _ I1 q1) fun iv s2 ⟨y, H2, I2, ry, z, ov, ey, g, q2⟩ => Calls.spliced_nil ?_)))
  subst ey
  obtain ⟨t, rfl⟩ := ry
  obtain ⟨es', n', u', hl', hk', e', r'⟩ := g
  have hm2 := PySem.W.mapOf_K (prog := X.prog) (w := X.w) I2.kIn hl' hk'
  refine call_meetsIn PySem.F.slot_dict_get hm2.typeIs PySem.F.entry_dict_get (PySem.F.args_dict_get_2 _ _) (meets_dict_get (strKind X.prog X.w) a (strKind_is X.prog X.w z t) hd) ⟨_, hm2, ?_⟩
  rw [PySem.W.find_K hl' e']
  exact ⟨ov.getD .non, H2, I2.tok _, r'.getD rfl, q2⟩
end
/-! ### len(set(xs)) of whole numbers, whichever -/
def tLenSetG (K : PySem.W.Frag) (ta : TE) : TE := fun σ H Q => ta σ H fun x H1 => ∃ (l : Addr) (ns : List Int), x = .ref l ∧ SqL K H1 l (ns.map V.int) ∧ ns.length ≤ 4000 ∧ Q (.int ((firstMet (fun i => ns.getD i 0) ns.length).length : Nat)) H1
theorem pe_lenSetG {X : Cx} {a : Expr} {ta : TE} {p p2 q pos : Pos} (hg : Gl X "len") (hm : X.mg "len" = none) (hg2 : Gl X "set") (hm2 : X.mg "set" = none) (ha : PE X a ta) (hc : X.calm = true := by rfl)
    (na : starEach [a] X.env = (false, eval a X.env) :: starEach [] X.env := by rfl) : PE X (.Call (.Name "len" p) [.Call (.Name "set" p2) [a] [] q] [] pos) (tLenSetG X.K ta) := by
  refine ⟨fun pins s σ H Q I h => ?_⟩
  refine Call_ (ld_blt I hg hm boot_len ?_)
  refine PyProof.Rows.callWith_builtin1 (PyProof.Rows.args_cons ?_ rfl) rfl rfl
  refine Call_ (ld_blt I hg2 hm2 boot_set ?_)
  refine PyProof.Rows.callWith_type1 (PyProof.Rows.args_cons (thn (ha.run pins s σ H _ I h) fun v s1 ⟨x, H1, I1, r1, q1⟩ => PyProof.Rows.args_nil ?_) na) na rfl
  obtain ⟨l, ns, rfl, hq, hl, q1⟩ := q1
  cases r1
  obtain ⟨its, r, pl, hz⟩ := I1.list hq
  have hlen : its.toArray.size = ns.length := by rw [List.size_toArray, ← r.length, List.length_map]
  refine call_set_list (I1.ok.hd hc) pl.isList (by simpa using RZ.intsAre_vals r) (by rw [hlen]; unfold scanBound; omega) fun h' tk hS hk => ?_
  refine PyProof.Rows.args_nil ?_
  rw [hlen] at hS
  obtain ⟨o, es, ep, t, ho, hex, hd, _, _, _, hf, hn⟩ := hS
  have I2 : Inv X pins σ H1 { s1 with heap := h', toks := tk } := I1.kept fun b o e => hk b o (Heap.lt_size e) e
  have hle := firstMet_length_le (fun i => ns.getD i 0) ns.length
  exact call_len_set ho hex hd hf (by rw [hn] <;> omega) ⟨.int ((firstMet (fun i => ns.getD i 0) ns.length).length : Nat), H1, I2.tok _, ⟨_, by rw [hn]⟩, q1⟩
end Gm

set_option maxRecDepth 100000
set_option maxHeartbeats 4000000
namespace Gm
open PySem PySem.Spec PyProof.Rows L2

/-! ### patterns -/
inductive Pat where
  | sign (c : Nat) | any | none | row (p q : Pat) | or (p q : Pat) | more (p : Pat) | less (p : Pat) | group (n : Int) (p : Pat)
def nul : Pat → Bool
  | .sign _ => false
  | .any => false
  | .none => true
  | .row p q => nul p && nul q
  | .or p q => nul p || nul q
  | .more _ => true
  | .less _ => true
  | .group _ p => nul p
def kids : Pat → List Pat
  | .row p q => [p, q]
  | .or p q => [p, q]
  | .more p => [p]
  | .less p => [p]
  | .group _ p => [p]
  | _ => []
def subs : Pat → List Pat
  | .row p q => .row p q :: (subs p ++ subs q)
  | .or p q => .or p q :: (subs p ++ subs q)
  | .more p => .more p :: subs p
  | .less p => .less p :: subs p
  | .group n p => .group n p :: subs p
  | p => [p]
def subsL (W : List Pat) : List Pat := W.flatMap subs
theorem subsL_nil : subsL [] = [] := rfl
theorem subsL_cons (p : Pat) (W : List Pat) : subsL (p :: W) = subs p ++ subsL W := by
  unfold subsL
  rw [List.flatMap_cons]
theorem subsL_app (V W : List Pat) : subsL (V ++ W) = subsL V ++ subsL W := by
  unfold subsL
  rw [List.flatMap_append]
theorem subs_eq (p : Pat) : subs p = p :: subsL (kids p) := by
  cases p <;> simp [subs, kids, subsL]
def siz (p : Pat) : Nat := (subs p).length
theorem siz_pos (p : Pat) : 0 < siz p := by
  unfold siz
  rw [subs_eq]
  exact Nat.succ_pos _
theorem subsL_pos (W : List Pat) : W.length ≤ (subsL W).length := by
  induction W with
  | nil => exact Nat.le_refl _
  | cons p W ih =>
    rw [subsL_cons, List.length_append, List.length_cons]
    have := siz_pos p
    unfold siz at this
    omega
def nm : Pat → Str
  | .sign _ => "sign"
  | .any => "any"
  | .none => "none"
  | .row _ _ => "row"
  | .or _ _ => "or"
  | .more _ => "more"
  | .less _ => "less"
  | .group _ _ => "group"

/-! ### what the answers of the inner ones give -/
def mtn (z : Str) (bs : List Bool) : Bool :=
  if z = "none" ∨ z = "more" ∨ z = "less" then true else if z = "row" ∨ z = "group" then bs.all id else bs.any id
theorem mtn_row (bs : List Bool) : mtn "row" bs = bs.all id := by
  unfold mtn
  rw [if_neg (by decide +kernel), if_pos (by decide +kernel)]
theorem mtn_group (bs : List Bool) : mtn "group" bs = bs.all id := by
  unfold mtn
  rw [if_neg (by decide +kernel), if_pos (by decide +kernel)]
theorem mtn_or (bs : List Bool) : mtn "or" bs = bs.any id := by
  unfold mtn
  rw [if_neg (by decide +kernel), if_neg (by decide +kernel)]
theorem mtn_more (bs : List Bool) : mtn "more" bs = true := by
  unfold mtn
  rw [if_pos (by decide +kernel)]
theorem mtn_less (bs : List Bool) : mtn "less" bs = true := by
  unfold mtn
  rw [if_pos (by decide +kernel)]
def stk : List Pat → List Bool
  | [] => []
  | x :: L => mtn (nm x) ((stk L).take (kids x).length) :: (stk L).drop (kids x).length
def tk : List Pat → List Bool
  | [] => []
  | x :: L => mtn (nm x) ((stk L).take (kids x).length) :: tk L
def okL : List Pat → Prop
  | [] => True
  | x :: L => (kids x).length ≤ (stk L).length ∧ okL L
theorem okL_drop : ∀ (k : Nat) {L : List Pat}, okL L → okL (L.drop k)
  | 0, _, h => h
  | _ + 1, [], _ => trivial
  | k + 1, _ :: L, h => okL_drop k (L := L) h.2
theorem tk_length : ∀ L : List Pat, (tk L).length = L.length
  | [] => rfl
  | x :: L => by
    show (tk L).length + 1 = L.length + 1
    rw [tk_length L]
theorem stk_le : ∀ L : List Pat, (stk L).length ≤ L.length
  | [] => Nat.le_refl _
  | x :: L => by
    show ((stk L).drop _).length + 1 ≤ L.length + 1
    have := stk_le L
    rw [List.length_drop]
    omega
theorem stk_subs : ∀ (p : Pat) (L : List Pat), stk (subs p ++ L) = nul p :: stk L ∧ tk (subs p ++ L) = (subs p).map nul ++ tk L ∧ (okL L → okL (subs p ++ L))
  | .sign c, L => ⟨rfl, rfl, fun h => ⟨Nat.zero_le _, h⟩⟩
  | .any, L => ⟨rfl, rfl, fun h => ⟨Nat.zero_le _, h⟩⟩
  | .none, L => ⟨rfl, rfl, fun h => ⟨Nat.zero_le _, h⟩⟩
  | .row p q, L => by
    obtain ⟨q1, q2, q3⟩ := stk_subs q L
    obtain ⟨p1, p2, p3⟩ := stk_subs p (subs q ++ L)
    have e : subs (.row p q) ++ L = .row p q :: (subs p ++ (subs q ++ L)) := by
      show (_ :: (subs p ++ subs q)) ++ L = _
      rw [List.cons_append, List.append_assoc]
    rw [e]
    refine ⟨?_, ?_, fun h => ⟨?_, p3 (q3 h)⟩⟩
    · show mtn "row" ((stk (subs p ++ (subs q ++ L))).take 2) :: (stk (subs p ++ (subs q ++ L))).drop 2 = _
      rw [p1, q1]
      simp [mtn_row, mtn_or, mtn_more, mtn_less, mtn_group, nul]
    · show mtn "row" ((stk (subs p ++ (subs q ++ L))).take 2) :: tk (subs p ++ (subs q ++ L)) = _
      rw [p1, q1, p2, q2]
      simp [mtn_row, mtn_or, mtn_more, mtn_less, mtn_group, nul, subs]
    · rw [p1, q1]
      show 2 ≤ _
      simp
  | .or p q, L => by
    obtain ⟨q1, q2, q3⟩ := stk_subs q L
    obtain ⟨p1, p2, p3⟩ := stk_subs p (subs q ++ L)
    have e : subs (.or p q) ++ L = .or p q :: (subs p ++ (subs q ++ L)) := by
      show (_ :: (subs p ++ subs q)) ++ L = _
      rw [List.cons_append, List.append_assoc]
    rw [e]
    refine ⟨?_, ?_, fun h => ⟨?_, p3 (q3 h)⟩⟩
    · show mtn "or" ((stk (subs p ++ (subs q ++ L))).take 2) :: (stk (subs p ++ (subs q ++ L))).drop 2 = _
      rw [p1, q1]
      simp [mtn_row, mtn_or, mtn_more, mtn_less, mtn_group, nul]
    · show mtn "or" ((stk (subs p ++ (subs q ++ L))).take 2) :: tk (subs p ++ (subs q ++ L)) = _
      rw [p1, q1, p2, q2]
      simp [mtn_row, mtn_or, mtn_more, mtn_less, mtn_group, nul, subs]
    · rw [p1, q1]
      show 2 ≤ _
      simp
  | .more p, L => by
    obtain ⟨p1, p2, p3⟩ := stk_subs p L
    refine ⟨?_, ?_, fun h => ⟨?_, p3 h⟩⟩
    · show mtn "more" ((stk (subs p ++ L)).take 1) :: (stk (subs p ++ L)).drop 1 = _
      rw [p1]
      simp [mtn_row, mtn_or, mtn_more, mtn_less, mtn_group, nul]
    · show mtn "more" ((stk (subs p ++ L)).take 1) :: tk (subs p ++ L) = _
      rw [p1, p2]
      simp [mtn_row, mtn_or, mtn_more, mtn_less, mtn_group, nul, subs]
    · show 1 ≤ (stk (subs p ++ L)).length
      rw [p1]
      simp
  | .less p, L => by
    obtain ⟨p1, p2, p3⟩ := stk_subs p L
    refine ⟨?_, ?_, fun h => ⟨?_, p3 h⟩⟩
    · show mtn "less" ((stk (subs p ++ L)).take 1) :: (stk (subs p ++ L)).drop 1 = _
      rw [p1]
      simp [mtn_row, mtn_or, mtn_more, mtn_less, mtn_group, nul]
    · show mtn "less" ((stk (subs p ++ L)).take 1) :: tk (subs p ++ L) = _
      rw [p1, p2]
      simp [mtn_row, mtn_or, mtn_more, mtn_less, mtn_group, nul, subs]
    · show 1 ≤ (stk (subs p ++ L)).length
      rw [p1]
      simp
  | .group n p, L => by
    obtain ⟨p1, p2, p3⟩ := stk_subs p L
    refine ⟨?_, ?_, fun h => ⟨?_, p3 h⟩⟩
    · show mtn "group" ((stk (subs p ++ L)).take 1) :: (stk (subs p ++ L)).drop 1 = _
      rw [p1]
      simp [mtn_row, mtn_or, mtn_more, mtn_less, mtn_group, nul]
    · show mtn "group" ((stk (subs p ++ L)).take 1) :: tk (subs p ++ L) = _
      rw [p1, p2]
      simp [mtn_row, mtn_or, mtn_more, mtn_less, mtn_group, nul, subs]
    · show 1 ≤ (stk (subs p ++ L)).length
      rw [p1]
      simp

/-! ### a pattern in memory -/
section
variable {K : PySem.W.Frag}
/-- tuples stay -/
def TS (K : PySem.W.Frag) (H H' : Hp) : Prop := ∀ a xs, SqT K H a xs → SqT K H' a xs
theorem TS.refl {H : Hp} : TS K H H := fun _ _ h => h
theorem TS.trans {H H1 H2 : Hp} (a : TS K H H1) (b : TS K H1 H2) : TS K H H2 := fun x o h => b x o (a x o h)
theorem TS.of {H H' : Hp} (e : Same H H') : TS K H H' := fun a xs h => by
  rcases h with (h | ⟨o, h⟩) | h
  · exact .inl (.inl (e _ _ h))
  · exact .inl (.inr ⟨o, e _ _ h⟩)
  · exact .inr h
theorem same_new {H : Hp} {p : Addr} {o : HO} (h : H p = none) : Same H (upd H p o) := fun b u q => by
  rw [upd_ne (ne_of_none q h)]
  exact q
theorem TS.new {H : Hp} {p : Addr} {o : HO} (h : H p = none) : TS K H (upd H p o) := TS.of (same_new h)
/-- a list that changes -/
theorem TS.lst {H : Hp} {l : Addr} {xs ys : List V} (h : H l = some (.lst xs)) : TS K H (upd H l (.lst ys)) := fun a zs q => by
  have n : ∀ {o : HO}, H a = some o → o ≠ .lst xs → a ≠ l := fun e d z => by
    rw [z, h] at e
    exact d (Option.some.inj e).symm
  rcases q with (q | ⟨o, q⟩) | q
  · exact .inl (.inl (by rw [upd_ne (n q (fun z => nomatch z))]; exact q))
  · exact .inl (.inr ⟨o, by rw [upd_ne (n q (fun z => nomatch z))]; exact q⟩)
  · exact .inr q
/-- an object that H does not know may change -/
theorem Same.mut {H H' : Hp} {p : Addr} {o : HO} (e : Same H H') (h : H p = none) : Same H (upd H' p o) := fun a u ha => by
  rw [upd_ne (ne_of_none ha h)]
  exact e a u ha

def PAt (K : PySem.W.Frag) (H : Hp) : Pat → V → Prop
  | .sign c, v => ∃ a, v = .ref a ∧ c < 0x110000 ∧ SqT K H a [.str "sign", .str ⟨#[c]⟩]
  | .any, v => ∃ a, v = .ref a ∧ SqT K H a [.str "any"]
  | .none, v => ∃ a, v = .ref a ∧ SqT K H a [.str "none"]
  | .row p q, v => ∃ a x y, v = .ref a ∧ SqT K H a [.str "row", x, y] ∧ PAt K H p x ∧ PAt K H q y
  | .or p q, v => ∃ a x y, v = .ref a ∧ SqT K H a [.str "or", x, y] ∧ PAt K H p x ∧ PAt K H q y
  | .more p, v => ∃ a x, v = .ref a ∧ SqT K H a [.str "more", x] ∧ PAt K H p x
  | .less p, v => ∃ a x, v = .ref a ∧ SqT K H a [.str "less", x] ∧ PAt K H p x
  | .group n p, v => ∃ a x, v = .ref a ∧ 1 ≤ n ∧ SqT K H a [.str "group", .int n, x] ∧ PAt K H p x
theorem PAt.mono {H H' : Hp} (e : TS K H H') : ∀ {p : Pat} {v : V}, PAt K H p v → PAt K H' p v
  | .sign _, _, ⟨a, h, c, t⟩ => ⟨a, h, c, e _ _ t⟩
  | .any, _, ⟨a, h, t⟩ => ⟨a, h, e _ _ t⟩
  | .none, _, ⟨a, h, t⟩ => ⟨a, h, e _ _ t⟩
  | .row _ _, _, ⟨a, x, y, h, t, u, w⟩ => ⟨a, x, y, h, e _ _ t, PAt.mono e u, PAt.mono e w⟩
  | .or _ _, _, ⟨a, x, y, h, t, u, w⟩ => ⟨a, x, y, h, e _ _ t, PAt.mono e u, PAt.mono e w⟩
  | .more _, _, ⟨a, x, h, t, u⟩ => ⟨a, x, h, e _ _ t, PAt.mono e u⟩
  | .less _, _, ⟨a, x, h, t, u⟩ => ⟨a, x, h, e _ _ t, PAt.mono e u⟩
  | .group _ _, _, ⟨a, x, h, n, t, u⟩ => ⟨a, x, h, n, e _ _ t, PAt.mono e u⟩
def PAts (K : PySem.W.Frag) (H : Hp) : List Pat → List V → Prop := Paired (PAt K H)
theorem PAts.mono {H H' : Hp} (e : TS K H H') {L : List Pat} {vs : List V} (h : PAts K H L vs) : PAts K H' L vs := Paired.mapP h fun _ _ z => z.mono e
/-- what stands between the name and the inner patterns -/
def mid : Pat → List V
  | .sign c => [.str ⟨#[c]⟩]
  | .group n _ => [.int n]
  | _ => []
theorem PAt.node {H : Hp} {p : Pat} {v : V} (h : PAt K H p v) : ∃ a ws, v = .ref a ∧ SqT K H a (.str (nm p) :: (mid p ++ ws)) ∧ PAts K H (kids p) ws := by
  cases p with
  | sign c => obtain ⟨a, h, _, t⟩ := h; exact ⟨a, [], h, t, .nil⟩
  | any => obtain ⟨a, h, t⟩ := h; exact ⟨a, [], h, t, .nil⟩
  | none => obtain ⟨a, h, t⟩ := h; exact ⟨a, [], h, t, .nil⟩
  | row p q => obtain ⟨a, x, y, h, t, u, w⟩ := h; exact ⟨a, [x, y], h, t, .cons u (.cons w .nil)⟩
  | or p q => obtain ⟨a, x, y, h, t, u, w⟩ := h; exact ⟨a, [x, y], h, t, .cons u (.cons w .nil)⟩
  | more p => obtain ⟨a, x, h, t, u⟩ := h; exact ⟨a, [x], h, t, .cons u .nil⟩
  | less p => obtain ⟨a, x, h, t, u⟩ := h; exact ⟨a, [x], h, t, .cons u .nil⟩
  | group n p => obtain ⟨a, x, h, _, t, u⟩ := h; exact ⟨a, [x], h, t, .cons u .nil⟩
theorem PAt.num {H : Hp} {n : Int} {p : Pat} {v : V} (h : PAt K H (.group n p) v) : 1 ≤ n := by
  obtain ⟨_, _, _, h, _⟩ := h
  exact h
theorem Paired.app {α β : Type} {F : α → β → Prop} : ∀ {l₁ : List α} {l₂ : List β} {m₁ : List α} {m₂ : List β}, Paired F l₁ l₂ → Paired F m₁ m₂ → Paired F (l₁ ++ m₁) (l₂ ++ m₂)
  | _, _, _, _, .nil, h => h
  | _, _, _, _, .cons a t, h => .cons a (Paired.app t h)
theorem Paired.rev {α β : Type} {F : α → β → Prop} : ∀ {l₁ : List α} {l₂ : List β}, Paired F l₁ l₂ → Paired F l₁.reverse l₂.reverse
  | _, _, .nil => .nil
  | _, _, .cons a t => by
    rw [List.reverse_cons, List.reverse_cons]
    exact Paired.snoc (Paired.rev t) a
theorem Paired.at {α β : Type} {F : α → β → Prop} : ∀ {l₁ : List α} {l₂ : List β} {i : Nat} {y : β}, Paired F l₁ l₂ → l₂[i]? = some y → ∃ x, l₁[i]? = some x ∧ F x y
  | _, _, _, _, .nil, h => by simp at h
  | _, _, 0, y, .cons a _, h => ⟨_, rfl, by rw [← Option.some.inj h]; exact a⟩
  | _, _, i + 1, y, .cons _ t, h => Paired.at (i := i) t h
/-- the last one -/
theorem Paired.last {α β : Type} {F : α → β → Prop} {ps : List α} {vs : List β} (h : Paired F ps vs) (n : 0 < ps.length) : ∃ ps' p vs' v, ps = ps' ++ [p] ∧ vs = vs' ++ [v] ∧ Paired F ps' vs' ∧ F p v := by
  have r := Paired.rev h
  have e1 : ps.reverse.reverse = ps := List.reverse_reverse ps
  have e2 : vs.reverse.reverse = vs := List.reverse_reverse vs
  generalize ps.reverse = ps' at r e1
  generalize vs.reverse = vs' at r e2
  cases r with
  | nil =>
    rw [← e1] at n
    exact absurd n (Nat.lt_irrefl 0)
  | @cons a b l m f t =>
    rw [List.reverse_cons] at e1 e2
    exact ⟨l.reverse, a, m.reverse, b, e1.symm, e2.symm, Paired.rev t, f⟩

/-! ### the law's pieces -/
def cellAt (ns : List Int) (k : Nat) : Int := ns.getD k 0
def tabS : Str := (" !\"#$&'()*+,-./0123456789:;<=>?@ABCDEFGHIJKLMNOPQRSTUVWXYZ[\\]^_`" : Str) ++ ("abcdefghijklmnopqrstuvwxyz{|}~\n" : Str)
theorem tab_len : tabS.length = 95 := by decide +kernel
theorem tab_len' : tabS.cps.toList.length = 95 := by decide +kernel
def lsg (c : Int) : Nat := tabS.cps.toList.getD (c % 95).toNat 0
theorem lsg_at (c : Int) : atI tabS.cps.toList (c % 95) = some (lsg c) := by
  have h0 : 0 ≤ c % 95 := Int.emod_nonneg _ (by decide)
  have h1 : c % 95 < 95 := Int.emod_lt_of_pos _ (by decide)
  have hk : (c % 95).toNat < tabS.cps.toList.length := by
    rw [tab_len']
    omega
  have e : c % 95 = (((c % 95).toNat : Nat) : Int) := by omega
  have q : tabS.cps.toList[(c % 95).toNat]? = some (lsg c) := by
    unfold lsg
    rw [List.getD_eq_getElem?_getD, List.getElem?_eq_getElem hk]
    rfl
  rw [e]
  exact atI_nat q
theorem tab_small : tabS.cps.toList.all (fun c => decide (c < 0x110000)) = true := by decide +kernel
theorem lsg_lt (c : Int) : lsg c < 0x110000 := by
  have h := lsg_at c
  have h0 : 0 ≤ c % 95 := Int.emod_nonneg _ (by decide)
  have h1 : c % 95 < 95 := Int.emod_lt_of_pos _ (by decide)
  unfold lsg
  rw [List.getD_eq_getElem?_getD]
  cases e : tabS.cps.toList[(c % 95).toNat]? with
  | none => exact (by decide : (0 : Nat) < 0x110000)
  | some k =>
    have hm := List.mem_of_getElem? e
    exact of_decide_eq_true (List.all_eq_true.mp tab_small k hm)
/-! ### readings in short -/
theorem or2 {t u : TT} {σ : L2.St} {H : Hp} {b1 b2 : Bool} {Q : Bool → Hp → Prop} (h1 : ∀ Q : Bool → Hp → Prop, Q b1 H → t σ H Q) (h2 : ∀ Q : Bool → Hp → Prop, Q b2 H → u σ H Q) (q : Q (b1 || b2) H) : tOr t u σ H Q := by
  refine h1 _ ?_
  cases b1
  · exact iteF (h2 Q q)
  · exact iteT q
theorem and2 {t u : TT} {σ : L2.St} {H : Hp} {b1 b2 : Bool} {Q : Bool → Hp → Prop} (h1 : ∀ Q : Bool → Hp → Prop, Q b1 H → t σ H Q) (h2 : ∀ Q : Bool → Hp → Prop, Q b2 H → u σ H Q) (q : Q (b1 && b2) H) : tAnd t u σ H Q := by
  refine h1 _ ?_
  cases b1
  · exact iteF q
  · exact iteT (h2 Q q)
theorem g_nx {i : Nat} {v : V} {σ : L2.St} {H : Hp} {a : L2.St → Hp → Prop} {b : VK} {c d : L2.St → Hp → Prop} (h : a (σ.set i (some v)) H) : gName i v σ H (L2.Ends.mk a b c d).nx := h
theorem e_nx {σ : L2.St} {H : Hp} {a : L2.St → Hp → Prop} {b : VK} {c d : L2.St → Hp → Prop} (h : a σ H) : (L2.Ends.mk a b c d).nx σ H := h
theorem g_name {i : Nat} {v : V} {σ : L2.St} {H : Hp} {Q : L2.St → Hp → Prop} (h : Q (σ.set i (some v)) H) : gName i v σ H Q := h
/-- a test that leaves all as it is -/
def Tst (t : TT) (σ : L2.St) (H : Hp) (b : Bool) : Prop := ∀ Q : Bool → Hp → Prop, Q b H → t σ H Q
theorem if_tst {c : TT} {x y : L2.TS} {D : L2.Ends} {σ : L2.St} {H : Hp} {b : Bool} (h : Tst c σ H b) (q1 : b = true → x D σ H) (q2 : b = false → y D σ H) : tIfS c x y D σ H := by
  refine h _ ?_
  cases b
  · exact iteF (q2 rfl)
  · exact iteT (q1 rfl)
theorem tst_or {t u : TT} {σ : L2.St} {H : Hp} {b1 b2 : Bool} (h1 : Tst t σ H b1) (h2 : Tst u σ H b2) : Tst (tOr t u) σ H (b1 || b2) := fun Q q => or2 h1 h2 q
theorem tst_and {t u : TT} {σ : L2.St} {H : Hp} {b1 b2 : Bool} (h1 : Tst t σ H b1) (h2 : Tst u σ H b2) : Tst (tAnd t u) σ H (b1 && b2) := fun Q q => and2 h1 h2 q
theorem yes_if {A B : Hp → Prop} {σ : L2.St} {H : Hp} (h : A H) : tYes σ H (fun b H3 => if b = true then A H3 else B H3) := by
  show if true = true then A H else B H
  rw [if_pos rfl]
  exact h
theorem at0 {α : Type} {xs : List α} {v : α} (h : xs[0]? = some v) : atI xs 0 = some v := atI_nat (j := 0) h
theorem at1 {α : Type} {xs : List α} {v : α} (h : xs[1]? = some v) : atI xs 1 = some v := atI_nat (j := 1) h
theorem at2 {α : Type} {xs : List α} {v : α} (h : xs[2]? = some v) : atI xs 2 = some v := atI_nat (j := 2) h
theorem last_get {α : Type} (xs : List α) (y : α) : (xs ++ [y])[(xs ++ [y]).length - 1]? = some y := by simp
theorem r_pop {H : Hp} {l : Addr} {xs : List V} {y : V} {Q : VK} (h : H l = some (.lst (xs ++ [y]))) (q : Q y (upd H l (.lst xs))) : rPop (.ref l) [] H Q := by
  refine ⟨l, xs ++ [y], y, rfl, rfl, h, by simp, ?_⟩
  rw [List.dropLast_concat]
  exact q
theorem r_ixT {H : Hp} {a : Addr} {xs : List V} {v : V} {Q : VK} (i : Nat) (h : SqT K H a xs) (e : xs[i]? = some v) (q : Q v H) : rIxT K (.ref a) (.int (i : Int)) H Q := ⟨a, xs, i, v, rfl, rfl, h, atI_nat e, q⟩
theorem r_ixL {H : Hp} {a : Addr} {xs : List V} {v : V} {Q : VK} (i : Nat) (h : SqL K H a xs) (e : xs[i]? = some v) (q : Q v H) : rIxL K (.ref a) (.int (i : Int)) H Q := ⟨a, xs, i, v, rfl, rfl, h, atI_nat e, q⟩
theorem sz {n : Nat} (h : n ≤ 10000) : n ≤ sizeLine := Nat.le_trans h (by decide)
theorem szl {n : Nat} (h : n ≤ 10000) : n < sizeLine := Nat.lt_of_le_of_lt h (by decide)
theorem inV3 (z a b c : Str) : inV (.str z) [.str a, .str b, .str c] = decide (z = a ∨ z = b ∨ z = c) := by
  rw [Bool.eq_iff_iff]
  show ((a == z) || ((b == z) || ((c == z) || false))) = true ↔ _
  simp only [Bool.or_eq_true, beq_iff_eq, Bool.or_false, decide_eq_true_eq]
  constructor
  · rintro (h | h | h)
    · exact .inl h.symm
    · exact .inr (.inl h.symm)
    · exact .inr (.inr h.symm)
  · rintro (h | h | h)
    · exact .inl h.symm
    · exact .inr (.inl h.symm)
    · exact .inr (.inr h.symm)
theorem inV2 (z a b : Str) : inV (.str z) [.str a, .str b] = decide (z = a ∨ z = b) := by
  rw [Bool.eq_iff_iff]
  show ((a == z) || ((b == z) || false)) = true ↔ _
  simp only [Bool.or_eq_true, beq_iff_eq, Bool.or_false, decide_eq_true_eq]
  constructor
  · rintro (h | h)
    · exact .inl h.symm
    · exact .inr h.symm
  · rintro (h | h)
    · exact .inl h.symm
    · exact .inr h.symm
/-- x in (a, b, ..), texts -/
theorem r_inT {H : Hp} {x : Str} {p : Addr} {xs : List V} {Q : VK} (h : SqT K H p xs) (f : xs.all flatV = true) (q : Q (.bl (inV (.str x) xs)) H) : rIn K false (.str x) (.ref p) H Q := ⟨p, xs, rfl, .inr h, rfl, f, q⟩
def tot (ps : List Pat) : Nat := (ps.map siz).sum
theorem tot_snoc (ps : List Pat) (p : Pat) : tot (ps ++ [p]) = tot ps + siz p := by
  unfold tot
  simp
theorem tot_nil : tot [] = 0 := rfl
theorem len_tot : ∀ ps : List Pat, ps.length ≤ tot ps
  | [] => Nat.le_refl _
  | p :: ps => by
    have h := len_tot ps
    have := siz_pos p
    show ps.length + 1 ≤ (siz p :: ps.map siz).sum
    rw [List.sum_cons]
    unfold tot at h
    omega
/-- one on the pile: the pattern, and whether it may take nothing -/
def Ent (K : PySem.W.Frag) (H : Hp) (p : Pat) (v : V) : Prop := ∃ t x, v = .ref t ∧ SqT K H t [x, .bl (nul p)] ∧ PAt K H p x
theorem Ent.mono {H H' : Hp} (e : TS K H H') {p : Pat} {v : V} : Ent K H p v → Ent K H' p v
  | ⟨t, x, h, q, u⟩ => ⟨t, x, h, e _ _ q, u.mono e⟩
theorem Ent.mk {H : Hp} {p : Pat} {t : Addr} {x : V} {b : Bool} (n : H t = none) (u : PAt K H p x) (e : nul p = b) : Ent K (upd H t (.tup [x, .bl b])) p (.ref t) := by
  subst e
  exact ⟨t, x, rfl, SqT.of upd_same, u.mono (TS.new n)⟩
end

/-! ### depths, data -/
def dep : Pat → Nat
  | .row p q => 1 + max (dep p) (dep q)
  | .or p q => 1 + max (dep p) (dep q)
  | .more p => 1 + dep p
  | .less p => 1 + dep p
  | .group _ p => 1 + dep p
  | _ => 1
theorem dep_pos (p : Pat) : 0 < dep p := by cases p <;> simp only [dep] <;> omega
def pd : Pat → PyData
  | .sign c => .tuple [.str "sign", .str ⟨#[c]⟩]
  | .any => .tuple [.str "any"]
  | .none => .tuple [.str "none"]
  | .row p q => .tuple [.str "row", pd p, pd q]
  | .or p q => .tuple [.str "or", pd p, pd q]
  | .more p => .tuple [.str "more", pd p]
  | .less p => .tuple [.str "less", pd p]
  | .group n p => .tuple [.str "group", .int n, pd p]
section
variable {K : PySem.W.Frag} {H : Hp}
theorem PAt.dp : ∀ {p : Pat} {v : V}, PAt K H p v → Dp K H v (pd p)
  | .sign _, _, ⟨_, h, _, t⟩ => by rw [h]; exact .tup t (.cons (.str _) (.cons (.str _) .nil))
  | .any, _, ⟨_, h, t⟩ => by rw [h]; exact .tup t (.cons (.str _) .nil)
  | .none, _, ⟨_, h, t⟩ => by rw [h]; exact .tup t (.cons (.str _) .nil)
  | .row _ _, _, ⟨_, _, _, h, t, u, w⟩ => by rw [h]; exact .tup t (.cons (.str _) (.cons (PAt.dp u) (.cons (PAt.dp w) .nil)))
  | .or _ _, _, ⟨_, _, _, h, t, u, w⟩ => by rw [h]; exact .tup t (.cons (.str _) (.cons (PAt.dp u) (.cons (PAt.dp w) .nil)))
  | .more _, _, ⟨_, _, h, t, u⟩ => by rw [h]; exact .tup t (.cons (.str _) (.cons (PAt.dp u) .nil))
  | .less _, _, ⟨_, _, h, t, u⟩ => by rw [h]; exact .tup t (.cons (.str _) (.cons (PAt.dp u) .nil))
  | .group _ _, _, ⟨_, _, h, _, t, u⟩ => by rw [h]; exact .tup t (.cons (.str _) (.cons (.int _) (.cons (PAt.dp u) .nil)))
theorem PAts.dp : ∀ {L : List Pat} {vs : List V}, PAts K H L vs → DpAll K H vs (L.map pd)
  | _, _, .nil => .nil
  | _, _, .cons h t => .cons h.dp (PAts.dp t)
theorem lay_cons {x : PyData} {xs : List PyData} (h : x.canLay0 = true) (t : PyData.canLayAll0 xs = true) : PyData.canLayAll0 (x :: xs) = true := by
  rw [PyData.canLayAll0, h, t]
  rfl
theorem lay_nil : PyData.canLayAll0 [] = true := by rw [PyData.canLayAll0]
theorem lay_tup {xs : List PyData} (h : PyData.canLayAll0 xs = true) : (PyData.tuple xs).canLay0 = true := by
  rw [PyData.canLay0]
  exact h
theorem lay_list {xs : List PyData} (h : PyData.canLayAll0 xs = true) : (PyData.list xs).canLay0 = true := by
  rw [PyData.canLay0]
  exact h
theorem lay_str {x : Str} (h : PyData.strOk x = true) : (PyData.str x).canLay0 = true := by
  rw [PyData.canLay0]
  exact h
theorem lay_int (i : Int) : (PyData.int i).canLay0 = true := by rw [PyData.canLay0]
theorem ok_chr {c : Nat} (h : c < 0x110000) : PyData.strOk ⟨#[c]⟩ = true := by
  unfold PyData.strOk
  simp [h]
theorem PAt.lay : ∀ {p : Pat} {v : V}, PAt K H p v → (pd p).canLay0 = true
  | .sign _, _, ⟨_, _, c, _⟩ => lay_tup (lay_cons (lay_str (by decide +kernel)) (lay_cons (lay_str (ok_chr c)) lay_nil))
  | .any, _, _ => lay_tup (lay_cons (lay_str (by decide +kernel)) lay_nil)
  | .none, _, _ => lay_tup (lay_cons (lay_str (by decide +kernel)) lay_nil)
  | .row _ _, _, ⟨_, _, _, _, _, u, w⟩ => lay_tup (lay_cons (lay_str (by decide +kernel)) (lay_cons (PAt.lay u) (lay_cons (PAt.lay w) lay_nil)))
  | .or _ _, _, ⟨_, _, _, _, _, u, w⟩ => lay_tup (lay_cons (lay_str (by decide +kernel)) (lay_cons (PAt.lay u) (lay_cons (PAt.lay w) lay_nil)))
  | .more _, _, ⟨_, _, _, _, u⟩ => lay_tup (lay_cons (lay_str (by decide +kernel)) (lay_cons (PAt.lay u) lay_nil))
  | .less _, _, ⟨_, _, _, _, u⟩ => lay_tup (lay_cons (lay_str (by decide +kernel)) (lay_cons (PAt.lay u) lay_nil))
  | .group _ _, _, ⟨_, _, _, _, _, u⟩ => lay_tup (lay_cons (lay_str (by decide +kernel)) (lay_cons (lay_int _) (lay_cons (PAt.lay u) lay_nil)))
theorem PAts.lay : ∀ {L : List Pat} {vs : List V}, PAts K H L vs → PyData.canLayAll0 (L.map pd) = true
  | _, _, .nil => lay_nil
  | _, _, .cons h t => lay_cons h.lay (PAts.lay t)
theorem pd_depth : ∀ p : Pat, (pd p).depth ≤ dep p
  | .sign _ => by simp [pd, dep, PyData.depth, PyData.depthAll]
  | .any => by simp [pd, dep, PyData.depth, PyData.depthAll]
  | .none => by simp [pd, dep, PyData.depth, PyData.depthAll]
  | .row p q => by
    have h1 := pd_depth p
    have h2 := pd_depth q
    simp only [pd, dep, PyData.depth, PyData.depthAll]
    omega
  | .or p q => by
    have h1 := pd_depth p
    have h2 := pd_depth q
    simp only [pd, dep, PyData.depth, PyData.depthAll]
    omega
  | .more p => by
    have h1 := pd_depth p
    simp only [pd, dep, PyData.depth, PyData.depthAll]
    omega
  | .less p => by
    have h1 := pd_depth p
    simp only [pd, dep, PyData.depth, PyData.depthAll]
    omega
  | .group n p => by
    have h1 := pd_depth p
    simp only [pd, dep, PyData.depth, PyData.depthAll]
    omega
theorem depthAll_app : ∀ xs ys : List PyData, PyData.depthAll (xs ++ ys) = max (PyData.depthAll xs) (PyData.depthAll ys)
  | [], ys => by simp [PyData.depthAll]
  | x :: xs, ys => by
    have h := depthAll_app xs ys
    simp only [List.cons_append, PyData.depthAll, h]
    omega
theorem subs_depth : ∀ p : Pat, PyData.depthAll ((subs p).map pd) ≤ dep p
  | .sign c => by
    have h := pd_depth (.sign c)
    simp only [subs, List.map, PyData.depthAll]
    omega
  | .any => by
    have h := pd_depth .any
    simp only [subs, List.map, PyData.depthAll]
    omega
  | .none => by
    have h := pd_depth .none
    simp only [subs, List.map, PyData.depthAll]
    omega
  | .row p q => by
    have h := pd_depth (.row p q)
    have h1 := subs_depth p
    have h2 := subs_depth q
    simp only [subs, List.map_cons, List.map_append, PyData.depthAll, depthAll_app]
    simp only [dep] at *
    omega
  | .or p q => by
    have h := pd_depth (.or p q)
    have h1 := subs_depth p
    have h2 := subs_depth q
    simp only [subs, List.map_cons, List.map_append, PyData.depthAll, depthAll_app]
    simp only [dep] at *
    omega
  | .more p => by
    have h := pd_depth (.more p)
    have h1 := subs_depth p
    simp only [subs, List.map_cons, PyData.depthAll]
    simp only [dep] at *
    omega
  | .less p => by
    have h := pd_depth (.less p)
    have h1 := subs_depth p
    simp only [subs, List.map_cons, PyData.depthAll]
    simp only [dep] at *
    omega
  | .group n p => by
    have h := pd_depth (.group n p)
    have h1 := subs_depth p
    simp only [subs, List.map_cons, PyData.depthAll]
    simp only [dep] at *
    omega
theorem shaped_of {d : PyData} (h : d.canLay0 = true) (z : d.depth ≤ 64) : SeqAt.shaped d = true := by
  unfold SeqAt.shaped
  rw [h, decide_eq_true z]
  rfl
theorem list_depth {xs : List PyData} {n : Nat} (h : PyData.depthAll xs ≤ n) : (PyData.list xs).depth ≤ 1 + n := by
  simp only [PyData.depth]
  omega
theorem ints_dp : ∀ ns : List Int, DpAll K H (ns.map V.int) (ns.map PyData.int)
  | [] => .nil
  | _ :: r => .cons (.int _) (ints_dp r)
theorem ints_lay : ∀ ns : List Int, PyData.canLayAll0 (ns.map PyData.int) = true
  | [] => lay_nil
  | _ :: r => lay_cons (lay_int _) (ints_lay r)
theorem ints_depth : ∀ ns : List Int, PyData.depthAll (ns.map PyData.int) = 0
  | [] => by simp [PyData.depthAll]
  | _ :: r => by simp [PyData.depthAll, PyData.depth, ints_depth r]
end
/-- the numbers of the groups among some parts -/
def nums (L : List Pat) : List Int := L.filterMap fun p => match p with
  | .group n _ => some n
  | _ => none
theorem siz_row (p q : Pat) : siz (.row p q) = 1 + siz p + siz q := by
  show (_ :: (subs p ++ subs q)).length = _
  rw [List.length_cons, List.length_append]
  unfold siz
  omega
theorem siz_or (p q : Pat) : siz (.or p q) = 1 + siz p + siz q := siz_row p q
theorem siz_more (p : Pat) : siz (.more p) = 1 + siz p := by
  show (_ :: subs p).length = _
  rw [List.length_cons]
  unfold siz
  omega
theorem siz_less (p : Pat) : siz (.less p) = 1 + siz p := siz_more p
theorem siz_group (n : Int) (p : Pat) : siz (.group n p) = 1 + siz p := siz_more p
/-! ### twins, empty rounds -/
theorem firstMet_full {ns : List Int} : ∀ {i : Nat}, i ≤ ns.length → (firstMet (fun i => ns.getD i 0) i).length = i → firstMet (fun i => ns.getD i 0) i = ns.take i ∧ (ns.take i).Nodup
  | 0, _, _ => ⟨rfl, by rw [List.take_zero]; exact List.nodup_nil⟩
  | i + 1, hi, h => by
    have hlt : i < ns.length := hi
    have hle := firstMet_length_le (fun i => ns.getD i 0) i
    have e1 : ns.getD i 0 = ns[i] := by
      rw [List.getD_eq_getElem?_getD, List.getElem?_eq_getElem hlt] <;> rfl
    have e2 : ns.take (i + 1) = ns.take i ++ [ns[i]] := by
      rw [List.take_add_one, List.getElem?_eq_getElem hlt] <;> rfl
    rw [firstMet_succ] at h ⊢
    unfold step_dedup at h ⊢
    by_cases c : (firstMet (fun i => ns.getD i 0) i).any (· == ns.getD i 0) = true
    · rw [if_pos c] at h
      omega
    · rw [if_neg c] at h ⊢
      rw [List.length_append, List.length_singleton] at h
      obtain ⟨q1, q2⟩ := firstMet_full (ns := ns) (i := i) (by omega) (by omega)
      rw [q1] at c ⊢
      rw [e1] at c ⊢
      rw [e2]
      refine ⟨rfl, ?_⟩
      rw [List.nodup_append]
      refine ⟨q2, by simp, fun a ha b hb => ?_⟩
      obtain rfl := List.mem_singleton.mp hb
      intro e
      exact c (List.any_eq_true.mpr ⟨a, ha, by rw [e]; exact beq_self_eq_true _⟩)
theorem twins_iff (ns : List Int) : ((firstMet (fun i => ns.getD i 0) ns.length).length : Int) < (ns.length : Int) ↔ ¬ ns.Nodup := by
  have hle := firstMet_length_le (fun i => ns.getD i 0) ns.length
  constructor
  · intro h hn
    rw [RZ.firstMet_nodup hn ns.length (Nat.le_refl _), List.take_length] at h
    omega
  · intro h
    by_cases e : (firstMet (fun i => ns.getD i 0) ns.length).length = ns.length
    · have := (firstMet_full (Nat.le_refl _) e).2
      rw [List.take_length] at this
      exact absurd this h
    · omega
/-- for each more and less: whether its p may take nothing -/
def erl (L : List Pat) : List Bool := L.filterMap fun x => match x with
  | .more q => some (nul q)
  | .less q => some (nul q)
  | _ => none
theorem next_part : ∀ (p : Pat) (R : List Pat) (i : Nat) (q : Pat), i < siz p → ((subs p ++ R)[i]? = some (.more q) ∨ (subs p ++ R)[i]? = some (.less q)) → (subs p ++ R)[i + 1]? = some q
  | .sign c, R, i, q, hi, h => by
    obtain rfl : i = 0 := by have : i < 1 := hi; omega
    rcases h with h | h <;> exact nomatch Option.some.inj h
  | .any, R, i, q, hi, h => by
    obtain rfl : i = 0 := by have : i < 1 := hi; omega
    rcases h with h | h <;> exact nomatch Option.some.inj h
  | .none, R, i, q, hi, h => by
    obtain rfl : i = 0 := by have : i < 1 := hi; omega
    rcases h with h | h <;> exact nomatch Option.some.inj h
  | .row p1 p2, R, i, q, hi, h => by
    rw [siz_row] at hi
    have e : subs (.row p1 p2) ++ R = .row p1 p2 :: (subs p1 ++ (subs p2 ++ R)) := by
      show (_ :: (subs p1 ++ subs p2)) ++ R = _
      rw [List.cons_append, List.append_assoc]
    rw [e] at h ⊢
    cases i with
    | zero => rcases h with h | h <;> exact nomatch Option.some.inj h
    | succ j =>
      rw [List.getElem?_cons_succ] at h ⊢
      by_cases hj : j < siz p1
      · exact next_part p1 _ j q hj h
      · have hl : (subs p1).length = siz p1 := rfl
        rw [List.getElem?_append_right (by omega)] at h ⊢
        have e2 : j + 1 - (subs p1).length = (j - (subs p1).length) + 1 := by omega
        rw [e2]
        exact next_part p2 R _ q (by omega) h
  | .or p1 p2, R, i, q, hi, h => by
    rw [siz_or] at hi
    have e : subs (.or p1 p2) ++ R = .or p1 p2 :: (subs p1 ++ (subs p2 ++ R)) := by
      show (_ :: (subs p1 ++ subs p2)) ++ R = _
      rw [List.cons_append, List.append_assoc]
    rw [e] at h ⊢
    cases i with
    | zero => rcases h with h | h <;> exact nomatch Option.some.inj h
    | succ j =>
      rw [List.getElem?_cons_succ] at h ⊢
      by_cases hj : j < siz p1
      · exact next_part p1 _ j q hj h
      · have hl : (subs p1).length = siz p1 := rfl
        rw [List.getElem?_append_right (by omega)] at h ⊢
        have e2 : j + 1 - (subs p1).length = (j - (subs p1).length) + 1 := by omega
        rw [e2]
        exact next_part p2 R _ q (by omega) h
  | .more p, R, i, q, hi, h => by
    rw [siz_more] at hi
    have e : subs (.more p) ++ R = .more p :: (subs p ++ R) := rfl
    rw [e] at h ⊢
    cases i with
    | zero =>
      rcases h with h | h
      · cases Option.some.inj h
        rw [subs_eq]
        rfl
      · exact nomatch Option.some.inj h
    | succ j =>
      rw [List.getElem?_cons_succ] at h ⊢
      exact next_part p R j q (by omega) h
  | .less p, R, i, q, hi, h => by
    rw [siz_less] at hi
    have e : subs (.less p) ++ R = .less p :: (subs p ++ R) := rfl
    rw [e] at h ⊢
    cases i with
    | zero =>
      rcases h with h | h
      · exact nomatch Option.some.inj h
      · cases Option.some.inj h
        rw [subs_eq]
        rfl
    | succ j =>
      rw [List.getElem?_cons_succ] at h ⊢
      exact next_part p R j q (by omega) h
  | .group n p, R, i, q, hi, h => by
    rw [siz_group] at hi
    have e : subs (.group n p) ++ R = .group n p :: (subs p ++ R) := rfl
    rw [e] at h ⊢
    cases i with
    | zero => rcases h with h | h <;> exact nomatch Option.some.inj h
    | succ j =>
      rw [List.getElem?_cons_succ] at h ⊢
      exact next_part p R j q (by omega) h
theorem next_part' {p q : Pat} {i : Nat} (h : (subs p)[i]? = some (.more q) ∨ (subs p)[i]? = some (.less q)) : (subs p)[i + 1]? = some q := by
  have hi : i < siz p := by
    rcases h with h | h
    · exact (List.getElem?_eq_some_iff.mp h).1
    · exact (List.getElem?_eq_some_iff.mp h).1
  have q' := next_part p [] i q hi
  rw [List.append_nil] at q'
  exact q' h
/-- a pattern that is not refused -/
def goodP (p : Pat) : Prop := (nums (subs p)).Nodup ∧ (erl (subs p)).any id = false
end Gm

set_option maxRecDepth 100000
set_option maxHeartbeats 4000000
namespace Gm
open PySem PySem.Spec PyProof.Rows L2
/-! ### match: cases (text, name ..) of a tuple, and _ -/
structure PM (X : Cx) (cases : List MatchCase) (t : V → L2.TS) : Prop where
  run : ∀ (pins : List (Addr × Obj)) (s : Shared) (σ : L2.St) (H : Hp) (D : L2.Ends) (x : V) (v : Value) (first : Bool), Inv X pins σ H s → RelV x v → t x D σ H → wpAny (model X.prog X.w) X.A (matchCases cases X.env v first) (SP X pins D) X.xe s
def tMatch (te : TE) (tm : V → L2.TS) : L2.TS := fun D σ H => te σ H fun x H1 => tm x D σ H1
/-- a case of n things: the text z, then names at the slots js -/
def tCase (K : PySem.W.Frag) (z : Str) (n : Nat) (tb : List V → L2.TS) (tr : V → L2.TS) : V → L2.TS := fun x D σ H =>
  ∃ p y ys, x = .ref p ∧ SqT K H p (.str y :: ys) ∧ ((y = z ∧ ys.length = n ∧ tb ys D σ H) ∨ ((y ≠ z ∨ ys.length ≠ n) ∧ tr x D σ H))
def set1 (i : Nat) (tb : L2.TS) : List V → L2.TS := fun ys D σ H => ∃ v, ys = [v] ∧ tb D (σ.set i (some v)) H
def set2 (i j : Nat) (tb : L2.TS) : List V → L2.TS := fun ys D σ H => ∃ v u, ys = [v, u] ∧ tb D ((σ.set i (some v)).set j (some u)) H
section
variable {X : Cx}
theorem ps_match {e : Expr} {cases : List MatchCase} {pos : Pos} {te : TE} {tm : V → L2.TS} (he : PE X e te) (hm : PM X cases tm) : PS X (.Match e cases pos) (tMatch te tm) := by
  refine ⟨fun pins s σ H D I h => ?_⟩
  exact wpAny_Match (thn (he.run pins s σ H _ I h) fun v s1 ⟨x, H1, I1, r1, q⟩ => hm.run pins s1 σ H1 D x v true I1 r1 q)
theorem pm_wild {body : List Stmt} {rest : List MatchCase} {pos : Pos} {tb : L2.TS} (hb : PSs X body tb) : PM X (⟨.MatchAs none none pos, none, body⟩ :: rest) (fun _ => tb) := by
  refine ⟨fun pins s σ H D x v first I r h => ?_⟩
  refine wpAny_matchCases_cons (wpAny_matchPattern_Capture ?_)
  exact wpAny_assignInOrder_none (hb.run pins s σ H D I h)
theorem fits63 {its : List Value} (h : its.length ≤ sizeLine) : ((its.toArray.size : Nat) : Int) < 2 ^ 63 := by
  rw [List.size_toArray]
  have := line63
  omega
/-- the literal against the tuple's first -/
theorem lit_eq {pins : List (Addr × Obj)} {s : Shared} {σ : L2.St} {H : Hp} {y z : Str} {u : Value} {k : Nat} {p1 p2 : Pos} {Q : Option (List (Str × Value)) → Shared → Prop} (I : Inv X pins σ H s) (r : RelV (.str y) u)
    (h1 : y = z → ∀ s', Inv X pins σ H s' → Q (some []) s') (h2 : y ≠ z → ∀ s', Inv X pins σ H s' → Q none s') :
    wpAny (model X.prog X.w) X.A (matchPattern (.MatchValue (.Constant (.str z) k p1) p2) X.env u) Q X.xe s := by
  refine wpAny_matchPattern_Value (thn ((pe_str (x := z) (j := k) (pos := p1)).run pins s σ H (fun x H' => x = .str z ∧ H' = H) I ⟨rfl, rfl⟩) fun v s1 ⟨x, H1, I1, rx, e1, e2⟩ => ?_)
  subst e1
  subst e2
  refine thn (op_eq pins s1 σ H1 (.str y) (.str z) u v (fun w H' => w = .bl (decide (V.str y = V.str z)) ∧ H' = H1) I1 r rx ⟨rfl, rfl, rfl⟩) fun c s2 ⟨w, H2, I2, rw', e3, e4⟩ => ?_
  subst e3
  subst e4
  cases (show c = Value.bool (decide (V.str y = V.str z)) from rw')
  refine wpAny_truthy_bool ?_
  by_cases e : y = z
  · rw [decide_eq_true (by rw [e])]
    exact h1 e s2 I2
  · rw [decide_eq_false (fun q => e (V.str.inj q))]
    exact h2 e s2 I2
theorem pm_case1 {z a : Str} {k i : Nat} {p1 p2 p3 p4 : Pos} {body : List Stmt} {rest : List MatchCase} {tb : L2.TS} {tr : V → L2.TS} (hc : X.calm = true) (hN : X.N.Nodup) (hi : X.N[i]? = some a) (hl : X.env.scope.names.lookup a = some .local)
    (hb : PSs X body tb) (hr : PM X rest tr) : PM X (⟨.MatchSequence [.MatchValue (.Constant (.str z) k p1) p2, .MatchAs none (some a) p3] p4, none, body⟩ :: rest) (tCase X.K z 1 (set1 i tb) tr) := by
  refine ⟨fun pins s σ H D x v first I r h => ?_⟩
  obtain ⟨p, y, ys, rfl, hq, h⟩ := h
  obtain rfl : v = Value.ref p := r
  obtain ⟨its, rv, p', hz⟩ := I.tuple hq
  have hlen := rv.length
  have hz' : its.length ≤ sizeLine := by rw [← hlen]; exact hz
  by_cases hn : its.toArray.size = 2
  · refine wpAny_matchCases_cons (matchSeq_tuple_hit p' (fits63 hz') hn ?_)
    show wpAny _ _ (unpackItems (.ref p) 2 none) _ _ _
    rw [← hn]
    refine unpackItems_tuple (I.ok.hd hc) p' fun h' hx' => ?_
    have I2 : Inv X pins σ H { s with toks := s.toks + 1 + 1, heap := h' } := I.kept (h' := h') (t' := s.toks + 1 + 1) fun b o e => hx' b o (Nat.ne_of_lt (Heap.lt_size e)) e
    have hn' : ys.length = 1 := by
      rw [List.size_toArray, ← hlen, List.length_cons] at hn
      omega
    cases rv with
    | @cons _ u0 _ us r0 rs =>
      obtain ⟨v1, rfl⟩ : ∃ v1, ys = [v1] := List.length_eq_one_iff.mp hn'
      cases rs with
      | @cons _ u1 _ us' r1 rs' =>
        cases rs'
        refine wpAny_matchEach_cons (lit_eq I2 r0 (fun e s3 I3 => ?_) (fun e s3 I3 => ?_))
        · refine wpAny_matchEach_cons (wpAny_matchPattern_Capture (wpAny_matchEach_nil ?_))
          rcases h with ⟨_, _, v', e', hb'⟩ | ⟨hne, _⟩
          · cases e'
            refine wpAny_assignInOrder_more (wpAny_bindName (store_ok I3 hN hi (.inl hl) r1 (fun s4 I4 => ?_) (.inr hl)))
            exact wpAny_assignInOrder_none (hb.run pins s4 _ H D I4 hb')
          · rcases hne with h1 | h1
            · exact absurd e h1
            · exact absurd rfl h1
        · rcases h with ⟨e', _⟩ | ⟨_, ht⟩
          · exact absurd e' e
          · exact hr.run pins s3 σ H D (.ref p) (Value.ref p) false I3 rfl ht
  · refine wpAny_matchCases_cons (matchSeq_tuple_miss p' (fits63 hz') hn ?_)
    rcases h with ⟨_, hl', _⟩ | ⟨_, ht⟩
    · refine absurd ?_ hn
      rw [List.size_toArray, ← hlen, List.length_cons, hl']
    · exact hr.run pins _ σ H D (.ref p) (Value.ref p) false (I.tok _) rfl ht
theorem pm_case2 {z a b : Str} {k i j : Nat} {p1 p2 p3 p4 p5 : Pos} {body : List Stmt} {rest : List MatchCase} {tb : L2.TS} {tr : V → L2.TS} (hc : X.calm = true) (hN : X.N.Nodup) (hi : X.N[i]? = some a) (hl : X.env.scope.names.lookup a = some .local) (hj : X.N[j]? = some b) (hl2 : X.env.scope.names.lookup b = some .local)
    (hb : PSs X body tb) (hr : PM X rest tr) : PM X (⟨.MatchSequence [.MatchValue (.Constant (.str z) k p1) p2, .MatchAs none (some a) p3, .MatchAs none (some b) p5] p4, none, body⟩ :: rest) (tCase X.K z 2 (set2 i j tb) tr) := by
  refine ⟨fun pins s σ H D x v first I r h => ?_⟩
  obtain ⟨p, y, ys, rfl, hq, h⟩ := h
  obtain rfl : v = Value.ref p := r
  obtain ⟨its, rv, p', hz⟩ := I.tuple hq
  have hlen := rv.length
  have hz' : its.length ≤ sizeLine := by rw [← hlen]; exact hz
  by_cases hn : its.toArray.size = 3
  · refine wpAny_matchCases_cons (matchSeq_tuple_hit p' (fits63 hz') hn ?_)
    show wpAny _ _ (unpackItems (.ref p) 3 none) _ _ _
    rw [← hn]
    refine unpackItems_tuple (I.ok.hd hc) p' fun h' hx' => ?_
    have I2 : Inv X pins σ H { s with toks := s.toks + 1 + 1, heap := h' } := I.kept (h' := h') (t' := s.toks + 1 + 1) fun b o e => hx' b o (Nat.ne_of_lt (Heap.lt_size e)) e
    have hn' : ys.length = 2 := by
      rw [List.size_toArray, ← hlen, List.length_cons] at hn
      omega
    cases rv with
    | @cons _ u0 _ us r0 rs =>
      obtain ⟨v1, v2, rfl⟩ : ∃ v1 v2, ys = [v1, v2] := match ys, hn' with | [v1, v2], _ => ⟨v1, v2, rfl⟩
      cases rs with
      | @cons _ u1 _ us' r1 rs' =>
        cases rs' with
        | @cons _ u2 _ us2 r2 rs2 =>
          cases rs2
          refine wpAny_matchEach_cons (lit_eq I2 r0 (fun e s3 I3 => ?_) (fun e s3 I3 => ?_))
          · refine wpAny_matchEach_cons (wpAny_matchPattern_Capture (wpAny_matchEach_cons (wpAny_matchPattern_Capture (wpAny_matchEach_nil ?_))))
            rcases h with ⟨_, _, v', w', e', hb'⟩ | ⟨hne, _⟩
            · cases e'
              refine wpAny_assignInOrder_more (wpAny_bindName (store_ok I3 hN hi (.inl hl) r1 (fun s4 I4 => ?_) (.inr hl)))
              refine wpAny_assignInOrder_more (wpAny_bindName (store_ok I4 hN hj (.inl hl2) r2 (fun s5 I5 => ?_) (.inr hl2)))
              exact wpAny_assignInOrder_none (hb.run pins s5 _ H D I5 hb')
            · rcases hne with h1 | h1
              · exact absurd e h1
              · exact absurd rfl h1
          · rcases h with ⟨e', _⟩ | ⟨_, ht⟩
            · exact absurd e' e
            · exact hr.run pins s3 σ H D (.ref p) (Value.ref p) false I3 rfl ht
  · refine wpAny_matchCases_cons (matchSeq_tuple_miss p' (fits63 hz') hn ?_)
    rcases h with ⟨_, hl', _⟩ | ⟨_, ht⟩
    · refine absurd ?_ hn
      rw [List.size_toArray, ← hlen, List.length_cons, hl']
    · exact hr.run pins _ σ H D (.ref p) (Value.ref p) false (I.tok _) rfl ht
end
end Gm

set_option maxRecDepth 100000
set_option maxHeartbeats 4000000
namespace Gm
open PySem PySem.Spec PyProof.Rows L2
/-! ### states -/
inductive Th where
  | pat (p : Pat) | close (n : Int)
abbrev Sta := List Th × Nat
def tnm : Th → Str
  | .pat p => nm p
  | .close _ => "close"
def tdep : Th → Nat
  | .pat p => dep p
  | .close _ => 1
def tpd : Th → PyData
  | .pat p => pd p
  | .close n => .tuple [.str "close", .int n]
def spd (s : Sta) : PyData := .tuple [.tuple (s.1.map tpd), .int (s.2 : Int)]
/-- no deeper than n -/
def gd (n : Nat) (r : List Th) : Prop := ∀ t ∈ r, tdep t ≤ n
def unf : Th → List (List Th)
  | .pat (.row p q) => [[.pat p, .pat q]]
  | .pat (.or p q) => [[.pat p], [.pat q]]
  | .pat (.more p) => [[.pat p, .pat (.more p)], []]
  | .pat (.less p) => [[], [.pat p, .pat (.less p)]]
  | .pat (.group n p) => [[.pat p, .close n]]
  | _ => [[]]
def step (z : List Nat) : Sta → List Sta
  | ([], _) => []
  | (.pat (.sign c) :: r, k) => if z[k]? = some c then [(r, k + 1)] else []
  | (.pat .any :: r, k) => if k < z.length then [(r, k + 1)] else []
  | (t :: r, k) => (unf t).map fun a => (a ++ r, k)
theorem unf_gd {n : Nat} {t : Th} (h : tdep t ≤ n) : ∀ a ∈ unf t, gd n a ∧ a.length ≤ 2 := by
  intro a ha
  have one : ∀ {m : Nat}, 1 + m ≤ n → 1 ≤ n := fun h => by omega
  cases t with
  | close m =>
    obtain rfl := List.mem_singleton.mp ha
    exact ⟨fun t ht => absurd ht List.not_mem_nil, Nat.zero_le _⟩
  | pat p =>
    cases p with
    | row p q =>
      obtain rfl := List.mem_singleton.mp ha
      have h' : 1 + max (dep p) (dep q) ≤ n := h
      refine ⟨fun t ht => ?_, by show 2 ≤ 2; decide⟩
      rcases List.mem_cons.mp ht with rfl | ht
      · show dep p ≤ n
        omega
      · obtain rfl := List.mem_singleton.mp ht
        show dep q ≤ n
        omega
    | or p q =>
      have h' : 1 + max (dep p) (dep q) ≤ n := h
      rcases List.mem_cons.mp ha with rfl | ha
      · refine ⟨fun t ht => ?_, by show 1 ≤ 2; decide⟩
        obtain rfl := List.mem_singleton.mp ht
        show dep p ≤ n
        omega
      · obtain rfl := List.mem_singleton.mp ha
        refine ⟨fun t ht => ?_, by show 1 ≤ 2; decide⟩
        obtain rfl := List.mem_singleton.mp ht
        show dep q ≤ n
        omega
    | more p =>
      have h' : 1 + dep p ≤ n := h
      rcases List.mem_cons.mp ha with rfl | ha
      · refine ⟨fun t ht => ?_, by show 2 ≤ 2; decide⟩
        rcases List.mem_cons.mp ht with rfl | ht
        · show dep p ≤ n
          omega
        · obtain rfl := List.mem_singleton.mp ht
          exact h
      · obtain rfl := List.mem_singleton.mp ha
        exact ⟨fun t ht => absurd ht List.not_mem_nil, Nat.zero_le _⟩
    | less p =>
      have h' : 1 + dep p ≤ n := h
      rcases List.mem_cons.mp ha with rfl | ha
      · exact ⟨fun t ht => absurd ht List.not_mem_nil, Nat.zero_le _⟩
      · obtain rfl := List.mem_singleton.mp ha
        refine ⟨fun t ht => ?_, by show 2 ≤ 2; decide⟩
        rcases List.mem_cons.mp ht with rfl | ht
        · show dep p ≤ n
          omega
        · obtain rfl := List.mem_singleton.mp ht
          exact h
    | group m p =>
      have h' : 1 + dep p ≤ n := h
      obtain rfl := List.mem_singleton.mp ha
      refine ⟨fun t ht => ?_, by show 2 ≤ 2; decide⟩
      rcases List.mem_cons.mp ht with rfl | ht
      · show dep p ≤ n
        omega
      · obtain rfl := List.mem_singleton.mp ht
        show 1 ≤ n
        omega
    | _ =>
      obtain rfl := List.mem_singleton.mp ha
      exact ⟨fun t ht => absurd ht List.not_mem_nil, Nat.zero_le _⟩
/-- a step keeps within the text, within the depth, and adds no more than one thing -/
theorem step_map {z : List Nat} {n m : Nat} {t : Th} {r : List Th} {k : Nat} (hg : gd n (t :: r)) (hm : (t :: r).length ≤ m) (hk : k ≤ z.length) : ∀ s ∈ (unf t).map (fun a => ((a ++ r, k) : Sta)), gd n s.1 ∧ s.1.length ≤ m + 1 ∧ s.2 ≤ z.length := by
  intro s hs
  obtain ⟨a, ha, rfl⟩ := List.mem_map.mp hs
  obtain ⟨g1, g2⟩ := unf_gd (hg t List.mem_cons_self) a ha
  refine ⟨fun u hu => ?_, ?_, hk⟩
  · rcases List.mem_append.mp hu with hu | hu
    · exact g1 u hu
    · exact hg u (List.mem_cons_of_mem _ hu)
  · show (a ++ r).length ≤ m + 1
    rw [List.length_append]
    rw [List.length_cons] at hm
    omega
theorem step_gd {z : List Nat} {n m : Nat} : ∀ {s : Sta}, gd n s.1 → s.1.length ≤ m → s.2 ≤ z.length → ∀ s' ∈ step z s, gd n s'.1 ∧ s'.1.length ≤ m + 1 ∧ s'.2 ≤ z.length
  | ([], _), _, _, _, s', h => absurd h List.not_mem_nil
  | (.pat (.sign c) :: r, k), hg, hm, hk, s', h => by
    have h : s' ∈ (if z[k]? = some c then [(r, k + 1)] else [] : List Sta) := h
    split at h
    · rename_i hc
      obtain rfl := List.mem_singleton.mp h
      refine ⟨fun u hu => hg u (List.mem_cons_of_mem _ hu), ?_, ?_⟩
      · rw [List.length_cons] at hm
        show r.length ≤ _
        omega
      · exact (List.getElem?_eq_some_iff.mp hc).1
    · exact absurd h List.not_mem_nil
  | (.pat .any :: r, k), hg, hm, hk, s', h => by
    have h : s' ∈ (if k < z.length then [(r, k + 1)] else [] : List Sta) := h
    split at h
    · rename_i hc
      obtain rfl := List.mem_singleton.mp h
      refine ⟨fun u hu => hg u (List.mem_cons_of_mem _ hu), ?_, hc⟩
      rw [List.length_cons] at hm
      show r.length ≤ _
      omega
    · exact absurd h List.not_mem_nil
  | (.pat .none :: r, k), hg, hm, hk, s', h => step_map hg hm hk s' h
  | (.pat (.row _ _) :: r, k), hg, hm, hk, s', h => step_map hg hm hk s' h
  | (.pat (.or _ _) :: r, k), hg, hm, hk, s', h => step_map hg hm hk s' h
  | (.pat (.more _) :: r, k), hg, hm, hk, s', h => step_map hg hm hk s' h
  | (.pat (.less _) :: r, k), hg, hm, hk, s', h => step_map hg hm hk s' h
  | (.pat (.group _ _) :: r, k), hg, hm, hk, s', h => step_map hg hm hk s' h
  | (.close _ :: r, k), hg, hm, hk, s', h => step_map hg hm hk s' h

section
variable {K : PySem.W.Frag}
def TAt (K : PySem.W.Frag) (H : Hp) : Th → V → Prop
  | .pat p, v => PAt K H p v
  | .close n, v => ∃ a, v = .ref a ∧ SqT K H a [.str "close", .int n]
theorem TAt.mono {H H' : Hp} (e : TS K H H') : ∀ {t : Th} {v : V}, TAt K H t v → TAt K H' t v
  | .pat _, _, h => PAt.mono e h
  | .close _, _, ⟨a, h, t⟩ => ⟨a, h, e _ _ t⟩
def TAts (K : PySem.W.Frag) (H : Hp) : List Th → List V → Prop := Paired (TAt K H)
theorem TAts.mono {H H' : Hp} (e : TS K H H') {L : List Th} {vs : List V} (h : TAts K H L vs) : TAts K H' L vs := Paired.mapP h fun _ _ z => z.mono e
theorem TAt.node {H : Hp} {t : Th} {v : V} (h : TAt K H t v) : ∃ a ws, v = .ref a ∧ SqT K H a (.str (tnm t) :: ws) := by
  cases t with
  | pat p =>
    obtain ⟨a, ws, e, q, _⟩ := PAt.node h
    exact ⟨a, _, e, q⟩
  | close n =>
    obtain ⟨a, e, q⟩ := h
    exact ⟨a, _, e, q⟩
/-- a tuple of things -/
def RAt (K : PySem.W.Frag) (H : Hp) (r : List Th) (v : V) : Prop := ∃ b vs, v = .ref b ∧ SqT K H b vs ∧ TAts K H r vs
theorem RAt.mono {H H' : Hp} (e : TS K H H') {r : List Th} {v : V} : RAt K H r v → RAt K H' r v
  | ⟨b, vs, h, q, t⟩ => ⟨b, vs, h, e _ _ q, t.mono e⟩
def SAt (K : PySem.W.Frag) (H : Hp) (s : Sta) (v : V) : Prop := ∃ a x, v = .ref a ∧ SqT K H a [x, .int (s.2 : Int)] ∧ RAt K H s.1 x
theorem SAt.mono {H H' : Hp} (e : TS K H H') {s : Sta} {v : V} : SAt K H s v → SAt K H' s v
  | ⟨a, x, h, q, t⟩ => ⟨a, x, h, e _ _ q, t.mono e⟩
def SAts (K : PySem.W.Frag) (H : Hp) : List Sta → List V → Prop := Paired (SAt K H)
theorem SAts.mono {H H' : Hp} (e : TS K H H') {L : List Sta} {vs : List V} (h : SAts K H L vs) : SAts K H' L vs := Paired.mapP h fun _ _ z => z.mono e

/-! ### as data -/
variable {H : Hp}
theorem TAt.dp : ∀ {t : Th} {v : V}, TAt K H t v → Dp K H v (tpd t)
  | .pat _, _, h => PAt.dp h
  | .close _, _, ⟨_, h, q⟩ => by rw [h]; exact .tup q (.cons (.str _) (.cons (.int _) .nil))
theorem TAts.dp : ∀ {L : List Th} {vs : List V}, TAts K H L vs → DpAll K H vs (L.map tpd)
  | _, _, .nil => .nil
  | _, _, .cons h t => .cons h.dp (TAts.dp t)
theorem TAt.lay : ∀ {t : Th} {v : V}, TAt K H t v → (tpd t).canLay0 = true
  | .pat _, _, h => PAt.lay h
  | .close _, _, _ => lay_tup (lay_cons (lay_str (by decide +kernel)) (lay_cons (lay_int _) lay_nil))
theorem TAts.lay : ∀ {L : List Th} {vs : List V}, TAts K H L vs → PyData.canLayAll0 (L.map tpd) = true
  | _, _, .nil => lay_nil
  | _, _, .cons h t => lay_cons h.lay (TAts.lay t)
theorem tpd_depth (t : Th) : (tpd t).depth ≤ tdep t := by
  cases t with
  | pat p => exact pd_depth p
  | close n => simp [tpd, tdep, PyData.depth, PyData.depthAll]
theorem tpds_depth {n : Nat} : ∀ {L : List Th}, gd n L → PyData.depthAll (L.map tpd) ≤ n
  | [], _ => by simp [PyData.depthAll]
  | t :: L, h => by
    have h1 := Nat.le_trans (tpd_depth t) (h t List.mem_cons_self)
    have h2 := tpds_depth (L := L) fun u hu => h u (List.mem_cons_of_mem _ hu)
    simp only [List.map_cons, PyData.depthAll]
    omega
theorem RAt.dp {r : List Th} {v : V} (h : RAt K H r v) : Dp K H v (.tuple (r.map tpd)) := by
  obtain ⟨b, vs, rfl, q, t⟩ := h
  exact .tup q t.dp
theorem SAt.dp {s : Sta} {v : V} (h : SAt K H s v) : Dp K H v (spd s) := by
  obtain ⟨a, x, rfl, q, t⟩ := h
  exact .tup q (.cons t.dp (.cons (.int _) .nil))
theorem SAt.lay {s : Sta} {v : V} (h : SAt K H s v) : (spd s).canLay0 = true := by
  obtain ⟨a, x, rfl, q, ⟨b, vs, rfl, q2, t⟩⟩ := h
  exact lay_tup (lay_cons (lay_tup t.lay) (lay_cons (lay_int _) lay_nil))
theorem spd_depth {n : Nat} {s : Sta} (h : gd n s.1) : (spd s).depth ≤ 2 + n := by
  have h1 := tpds_depth h
  simp only [spd, PyData.depth, PyData.depthAll]
  omega
theorem SAts.dp : ∀ {L : List Sta} {vs : List V}, SAts K H L vs → DpAll K H vs (L.map spd)
  | _, _, .nil => .nil
  | _, _, .cons h t => .cons h.dp (SAts.dp t)
theorem SAts.lay : ∀ {L : List Sta} {vs : List V}, SAts K H L vs → PyData.canLayAll0 (L.map spd) = true
  | _, _, .nil => lay_nil
  | _, _, .cons h t => lay_cons h.lay (SAts.lay t)
theorem spds_depth {n : Nat} : ∀ {L : List Sta}, (∀ s ∈ L, gd n s.1) → PyData.depthAll (L.map spd) ≤ 2 + n
  | [], _ => by simp [PyData.depthAll]
  | s :: L, h => by
    have h1 := spd_depth (h s List.mem_cons_self)
    have h2 := spds_depth (L := L) fun u hu => h u (List.mem_cons_of_mem _ hu)
    simp only [List.map_cons, PyData.depthAll]
    omega
/-- the end of the text -/
def isEnd (z : Str) (s : Sta) : Bool := s.1.isEmpty && decide ((s.2 : Int) = (z.length : Int))
theorem eqv_end (s : Sta) (n : Int) : PyData.eqv (spd s) (.tuple [.tuple [], .int n]) = (s.1.isEmpty && decide ((s.2 : Int) = n)) := by
  obtain ⟨r, k⟩ := s
  cases r with
  | nil =>
    simp [spd, PyData.eqv, PyData.eqvAll]
    rw [Bool.eq_iff_iff]
    simp
  | cons t r => simp [spd, PyData.eqv, PyData.eqvAll]
/-! ### t + u, t[1:], s[k:k + 1] -/
theorem r_catA {a b : Addr} {xs ys : List V} {Q : VK} (ha : SqT K H a xs) (hb : SqT K H b ys) (hz : xs.length + ys.length ≤ sizeLine) (q : ∀ c H', Same H H' → SqT K H' c (xs ++ ys) → Q (.ref c) H') : rCatA K (.ref a) (.ref b) H Q := by
  refine ⟨a, b, xs, ys, rfl, rfl, ha, hb, hz, fun e => q b H (Same.refl _) ?_, fun _ e => q a H (Same.refl _) ?_, fun _ _ p np => q p _ (same_new np) (SqT.of upd_same)⟩
  · rw [e, List.nil_append]
    exact hb
  · rw [e, List.append_nil]
    exact ha
theorem cut_tail (v : V) (vs : List V) : cutV (v :: vs) (some 1) none = vs := by
  unfold cutV
  rw [show HT.sIx (v :: vs).length 0 (some 1) = min 1 (v :: vs).length from HT.sIx_nat _ 0 1, HT.sIx_none, List.length_cons]
  rw [show min 1 (vs.length + 1) = 1 by omega]
  show List.take (vs.length + 1 - 1) vs = vs
  rw [Nat.add_sub_cancel]
  exact List.take_length
theorem not_whole (v : V) (vs : List V) : ¬ (HT.sIx (v :: vs).length 0 (some 1) = 0 ∧ HT.sIx (v :: vs).length (v :: vs).length none = (v :: vs).length) := fun ⟨h, _⟩ => by
  rw [show HT.sIx (v :: vs).length 0 (some 1) = min 1 (v :: vs).length from HT.sIx_nat _ 0 1, List.length_cons] at h
  omega
theorem cut_one (z : Str) (k : Nat) : cutS z (some (k : Int)) (some ((k : Int) + 1)) = ⟨((z.cps.toList[k]?).toList).toArray⟩ := by
  have e1 : ((k : Int) + 1) = ((k + 1 : Nat) : Int) := by omega
  have el : z.cps.toList.length = z.length := by simp [Str.length]
  unfold cutS
  rw [e1, HT.sIx_nat, HT.sIx_nat]
  congr 2
  by_cases h : k < z.length
  · have h' : k < z.cps.toList.length := by omega
    rw [show min k z.length = k by omega, show min (k + 1) z.length - k = 1 by omega, List.getElem?_eq_getElem h', List.drop_eq_getElem_cons h']
    rfl
  · rw [show min (k + 1) z.length - min k z.length = 0 by omega, List.take_zero, List.getElem?_eq_none (by omega)]
    rfl
end
end Gm

set_option maxRecDepth 100000
set_option maxHeartbeats 4000000
namespace G1
open PySem PySem.Spec PyProof.Rows L2 Gm
def top (i : Nat) : Stmt := PySem.Challenge.pw_groupmarks_k04_where_a_state_leads.main.body.getD i (.Pass ⟨0, 0, 0, 0⟩)
abbrev s_first_state : Stmt := top 1
abbrev N_first_state : List Str := ["pattern"]
theorem sc_first_state : FnScope N_first_state ["pattern"] (defScope s_first_state) := ⟨rfl, rfl, rfl, by decide +kernel, rfl, by decide +kernel, by decide +kernel⟩

abbrev s_is_end : Stmt := top 2
abbrev N_is_end : List Str := ["state", "text"]
theorem sc_is_end : FnScope N_is_end ["state", "text"] (defScope s_is_end) := ⟨rfl, rfl, rfl, by decide +kernel, rfl, by decide +kernel, by decide +kernel⟩

abbrev s_onward : Stmt := top 3
abbrev N_onward : List Str := ["state", "text", "rest", "place", "thing", "behind", "ahead"]
theorem sc_onward : FnScope N_onward ["state", "text"] (defScope s_onward) := ⟨rfl, rfl, rfl, by decide +kernel, rfl, by decide +kernel, by decide +kernel⟩

abbrev s__takes : Stmt := top 4
abbrev N__takes : List Str := ["thing", "sign"]
theorem sc__takes : FnScope N__takes ["thing", "sign"] (defScope s__takes) := ⟨rfl, rfl, rfl, by decide +kernel, rfl, by decide +kernel, by decide +kernel⟩

abbrev s__unfolded : Stmt := top 5
abbrev N__unfolded : List Str := ["thing", "p", "q", "n"]
theorem sc__unfolded : FnScope N__unfolded ["thing"] (defScope s__unfolded) := ⟨rfl, rfl, rfl, by decide +kernel, rfl, by decide +kernel, by decide +kernel⟩

abbrev s__law_cell_at : Stmt := top 7
abbrev N__law_cell_at : List Str := ["_law_script", "_law_k"]
theorem sc__law_cell_at : FnScope N__law_cell_at ["_law_script", "_law_k"] (defScope s__law_cell_at) := ⟨rfl, rfl, rfl, by decide +kernel, rfl, by decide +kernel, by decide +kernel⟩

abbrev s__law_sign : Stmt := top 8
abbrev N__law_sign : List Str := ["_law_cell", "_law_some"]
theorem sc__law_sign : FnScope N__law_sign ["_law_cell"] (defScope s__law_sign) := ⟨rfl, rfl, rfl, by decide +kernel, rfl, by decide +kernel, by decide +kernel⟩

abbrev s__law_leaf : Stmt := top 9
abbrev N__law_leaf : List Str := ["_law_cell", "_law_head"]
theorem sc__law_leaf : FnScope N__law_leaf ["_law_cell", "_law_head"] (defScope s__law_leaf) := ⟨rfl, rfl, rfl, by decide +kernel, rfl, by decide +kernel, by decide +kernel⟩

abbrev s__law_two : Stmt := top 10
abbrev N__law_two : List Str := ["_law_cell", "_law_left", "_law_right"]
theorem sc__law_two : FnScope N__law_two ["_law_cell", "_law_left", "_law_right"] (defScope s__law_two) := ⟨rfl, rfl, rfl, by decide +kernel, rfl, by decide +kernel, by decide +kernel⟩

abbrev s__law_round : Stmt := top 11
abbrev N__law_round : List Str := ["_law_cell", "_law_part", "_law_head", "_law_inside"]
theorem sc__law_round : FnScope N__law_round ["_law_cell", "_law_part", "_law_head"] (defScope s__law_round) := ⟨rfl, rfl, rfl, by decide +kernel, rfl, by decide +kernel, by decide +kernel⟩

abbrev s__law_made : Stmt := top 12
abbrev N__law_made : List Str := ["_law_cells", "_law_head", "_law_pile", "_law_step", "_law_number", "_law_cell", "_law_kind", "_law_right", "_law_part"]
theorem sc__law_made : FnScope N__law_made ["_law_cells", "_law_head"] (defScope s__law_made) := ⟨rfl, rfl, rfl, by decide +kernel, rfl, by decide +kernel, by decide +kernel⟩

abbrev s__law_due : Stmt := top 13
abbrev N__law_due : List Str := ["_law_rest", "_law_place", "_law_text", "_law_thing", "_law_behind"]
theorem sc__law_due : FnScope N__law_due ["_law_rest", "_law_place", "_law_text"] (defScope s__law_due) := ⟨rfl, rfl, rfl, by decide +kernel, rfl, by decide +kernel, by decide +kernel⟩

abbrev s__law_bits : Stmt := top 14
abbrev N__law_bits : List Str := ["_law_script", "_law_bits_here", "_law_k", "_law_cell", "_law_turn"]
theorem sc__law_bits : FnScope N__law_bits ["_law_script"] (defScope s__law_bits) := ⟨rfl, rfl, rfl, by decide +kernel, rfl, by decide +kernel, by decide +kernel⟩

abbrev s__law_is_state : Stmt := top 15
abbrev N__law_is_state : List Str := ["_law_found"]
theorem sc__law_is_state : FnScope N__law_is_state ["_law_found"] (defScope s__law_is_state) := ⟨rfl, rfl, rfl, by decide +kernel, rfl, by decide +kernel, by decide +kernel⟩

abbrev s_law : Stmt := top 16
abbrev N_law : List Str := ["_law_script", "_law_head", "_law_pattern", "_law_turns", "_law_text", "_law_cell", "_law_k", "_law_bits_here", "_law_state", "_law_bit", "_law_due_here", "_law_found", "_law_last", "_law_one"]
theorem sc_law : FnScope N_law ["_law_script"] (defScope s_law) := ⟨rfl, rfl, rfl, by decide +kernel, rfl, by decide +kernel, by decide +kernel⟩

structure Txt (w : World) (K : PySem.W.Frag) (mg : Str → Option Value) where
  f_first_state : Addr
  fd_first_state : FuncData
  F_first_state : Fun K "first_state" "first_state" s_first_state f_first_state fd_first_state
  m_first_state : mg "first_state" = some (.ref f_first_state)
  b_first_state : Binds K fd_first_state ["pattern"] []
  f_is_end : Addr
  fd_is_end : FuncData
  F_is_end : Fun K "is_end" "is_end" s_is_end f_is_end fd_is_end
  m_is_end : mg "is_end" = some (.ref f_is_end)
  b_is_end : Binds K fd_is_end ["state", "text"] []
  f_onward : Addr
  fd_onward : FuncData
  F_onward : Fun K "onward" "onward" s_onward f_onward fd_onward
  m_onward : mg "onward" = some (.ref f_onward)
  b_onward : Binds K fd_onward ["state", "text"] []
  f__takes : Addr
  fd__takes : FuncData
  F__takes : Fun K "_takes" "_takes" s__takes f__takes fd__takes
  m__takes : mg "_takes" = some (.ref f__takes)
  b__takes : Binds K fd__takes ["thing", "sign"] []
  f__unfolded : Addr
  fd__unfolded : FuncData
  F__unfolded : Fun K "_unfolded" "_unfolded" s__unfolded f__unfolded fd__unfolded
  m__unfolded : mg "_unfolded" = some (.ref f__unfolded)
  b__unfolded : Binds K fd__unfolded ["thing"] []
  f__law_cell_at : Addr
  fd__law_cell_at : FuncData
  F__law_cell_at : Fun K "_law_cell_at" "_law_cell_at" s__law_cell_at f__law_cell_at fd__law_cell_at
  m__law_cell_at : mg "_law_cell_at" = some (.ref f__law_cell_at)
  b__law_cell_at : Binds K fd__law_cell_at ["_law_script", "_law_k"] []
  f__law_sign : Addr
  fd__law_sign : FuncData
  F__law_sign : Fun K "_law_sign" "_law_sign" s__law_sign f__law_sign fd__law_sign
  m__law_sign : mg "_law_sign" = some (.ref f__law_sign)
  b__law_sign : Binds K fd__law_sign ["_law_cell"] []
  f__law_leaf : Addr
  fd__law_leaf : FuncData
  F__law_leaf : Fun K "_law_leaf" "_law_leaf" s__law_leaf f__law_leaf fd__law_leaf
  m__law_leaf : mg "_law_leaf" = some (.ref f__law_leaf)
  b__law_leaf : Binds K fd__law_leaf ["_law_cell", "_law_head"] []
  f__law_two : Addr
  fd__law_two : FuncData
  F__law_two : Fun K "_law_two" "_law_two" s__law_two f__law_two fd__law_two
  m__law_two : mg "_law_two" = some (.ref f__law_two)
  b__law_two : Binds K fd__law_two ["_law_cell", "_law_left", "_law_right"] []
  f__law_round : Addr
  fd__law_round : FuncData
  F__law_round : Fun K "_law_round" "_law_round" s__law_round f__law_round fd__law_round
  m__law_round : mg "_law_round" = some (.ref f__law_round)
  b__law_round : Binds K fd__law_round ["_law_cell", "_law_part", "_law_head"] []
  f__law_made : Addr
  fd__law_made : FuncData
  F__law_made : Fun K "_law_made" "_law_made" s__law_made f__law_made fd__law_made
  m__law_made : mg "_law_made" = some (.ref f__law_made)
  b__law_made : Binds K fd__law_made ["_law_cells", "_law_head"] []
  f__law_due : Addr
  fd__law_due : FuncData
  F__law_due : Fun K "_law_due" "_law_due" s__law_due f__law_due fd__law_due
  m__law_due : mg "_law_due" = some (.ref f__law_due)
  b__law_due : Binds K fd__law_due ["_law_rest", "_law_place", "_law_text"] []
  f__law_bits : Addr
  fd__law_bits : FuncData
  F__law_bits : Fun K "_law_bits" "_law_bits" s__law_bits f__law_bits fd__law_bits
  m__law_bits : mg "_law_bits" = some (.ref f__law_bits)
  b__law_bits : Binds K fd__law_bits ["_law_script"] []
  f__law_is_state : Addr
  fd__law_is_state : FuncData
  F__law_is_state : Fun K "_law_is_state" "_law_is_state" s__law_is_state f__law_is_state fd__law_is_state
  m__law_is_state : mg "_law_is_state" = some (.ref f__law_is_state)
  b__law_is_state : Binds K fd__law_is_state ["_law_found"] []
  f_law : Addr
  fd_law : FuncData
  F_law : Fun K "law" "law" s_law f_law fd_law
  m_law : mg "law" = some (.ref f_law)
  b_law : Binds K fd_law ["_law_script"] []
  n_bool : mg "bool" = none
  n_int : mg "int" = none
  n_isinstance : mg "isinstance" = none
  n_len : mg "len" = none
  n_list : mg "list" = none
  n_range : mg "range" = none
  n_tuple : mg "tuple" = none
end G1

set_option maxRecDepth 100000
set_option maxHeartbeats 4000000
namespace G1
open PySem PySem.Spec PyProof.Rows L2 Gm
section
variable {P : Program} {w : World} {K : PySem.W.Frag} {mg : Str → Option Value} {base : Heap}
def sp_cell_at (K : PySem.W.Frag) : Sp := fun vs H Q _ => ∃ (a : Addr) (ns : List Int) (k : Nat), vs = [.ref a, .int (k : Int)] ∧ SqL K H a (ns.map V.int) ∧ Q (.int (cellAt ns k)) H
theorem ok__law_cell_at (T : Txt w K mg) : FnOk P w K mg base CX0 1 T.f__law_cell_at T.fd__law_cell_at ["_law_script", "_law_k"] (sp_cell_at K) := by
  refine T.F__law_cell_at.ok sc__law_cell_at (fun vs H Q E h => ?_) (fun cdv A outer s H vs Q E hr h => ?_)
  · obtain ⟨a, ns, k, rfl, _⟩ := h
    rfl
  obtain ⟨a, ns, k, rfl, ha, q⟩ := h
  refine ⟨_, (pss_cons (ps_if (pt_cmpR op_lt (pv 1) (pe_callB call_len_seq (by rfl) T.n_len PySem.boot_len (pa_cons (pv 0) pa_nil)) (nomark _))
    (pss_one (ps_ret (pe_ix ix_list (pv 0) (pv 1) (fun _ _ => rfl))))
    pss_nil)
  (pss_one (ps_ret pe_int))), ?_⟩
  refine ⟨_, rfl, _, rfl, a, _, rfl, .inl ha, _, _, rfl, rfl, _, rfl, ?_⟩
  refine ite2 (fun c => ?_) (fun c => ?_)
  · have c' : (k : Int) < (((ns.map V.int).length : Nat) : Int) := of_decide_eq_true c
    rw [List.length_map] at c'
    have hk : k < ns.length := by omega
    refine ⟨_, rfl, _, rfl, a, _, _, .int (cellAt ns k), rfl, rfl, ha, atI_nat ?_, q⟩
    rw [List.getElem?_map, List.getElem?_eq_getElem hk]
    unfold cellAt
    rw [List.getD_eq_getElem?_getD, List.getElem?_eq_getElem hk]
    rfl
  · have c' : ¬ (k : Int) < (((ns.map V.int).length : Nat) : Int) := of_decide_eq_false (Bool.eq_false_iff.mpr c)
    rw [List.length_map] at c'
    have e : cellAt ns k = 0 := by
      unfold cellAt
      rw [List.getD_eq_getElem?_getD, List.getElem?_eq_none (by omega)]
      rfl
    rw [e] at q
    exact q
def sp_sign : Sp := fun vs H Q _ => ∃ c : Int, vs = [.int c] ∧ Q (.str ⟨#[lsg c]⟩) H
theorem ok__law_sign (T : Txt w K mg) : FnOk P w K mg base CX0 1 T.f__law_sign T.fd__law_sign ["_law_cell"] sp_sign := by
  refine T.F__law_sign.ok sc__law_sign (fun vs H Q E h => ?_) (fun cdv A outer s H vs Q E hr h => ?_)
  · obtain ⟨c, rfl, _⟩ := h
    rfl
  obtain ⟨c, rfl, q⟩ := h
  refine ⟨_, (pss_cons (ps_set (i := 1) sc__law_sign.nd rfl (.inl rfl) pe_str)
  (pss_cons (ps_set (i := 1) sc__law_sign.nd rfl (.inl rfl) (pe_op op_add_str (pv 1) pe_str))
  (pss_one (ps_ret (pe_ix ix_str (pv 1) (pe_op op_mod (pv 0) pe_int) (fun _ _ => rfl)))))), ?_⟩
  refine ⟨_, rfl, _, _, rfl, rfl, sz (by decide +kernel), ?_⟩
  refine ⟨_, rfl, _, rfl, _, _, rfl, rfl, (by show (0 : Int) < 95; decide), tabS, _, lsg c, rfl, rfl, sz (by rw [tab_len]; decide), lsg_at c, q⟩

end
end G1

set_option maxRecDepth 100000
set_option maxHeartbeats 4000000
namespace G1
open PySem PySem.Spec PyProof.Rows L2 Gm
section
variable {P : Program} {w : World} {K : PySem.W.Frag} {mg : Str → Option Value} {base : Heap}
def sp_leaf (K : PySem.W.Frag) : Sp := fun vs H Q _ => ∃ (c h : Int), vs = [.int c, .int h] ∧
  ∀ (t : Addr) (p : Pat) (H' : Hp), Same H H' → Ent K H' p (.ref t) → siz p = 1 → dep p = 1 → Q (.ref t) H'
theorem ok__law_leaf (T : Txt w K mg) : FnOk P w K mg base CX0 2 T.f__law_leaf T.fd__law_leaf ["_law_cell", "_law_head"] (sp_leaf K) := by
  refine T.F__law_leaf.ok sc__law_leaf (fun vs H Q E h => ?_) (fun cdv A outer s H vs Q E hr h => ?_)
  · obtain ⟨c, h, rfl, _⟩ := h
    rfl
  obtain ⟨c, h, rfl, q⟩ := h
  refine ⟨_, (pss_cons (ps_if (PW.pt (pw_and (pt_cmpR op_eq (pe_op op_mod (pv 0) pe_int) pe_int (nomark _)) (pw_and1 (pt_cmpR op_eq (pe_op op_mod (pe_op op_fdiv (pv 0) pe_int) pe_int) pe_int (nomark _)))))
    (pss_one (ps_ret (pe_tup (pa_cons (pe_tup (pa_cons pe_str pa_nil)) (pa_cons pe_bl pa_nil)))))
    pss_nil)
  (pss_cons (ps_if (pt_cmpR op_eq (pe_op op_mod (pv 0) pe_int) pe_int (nomark _))
    (pss_one (ps_ret (pe_tup (pa_cons (pe_tup (pa_cons pe_str pa_nil)) (pa_cons pe_bl pa_nil)))))
    pss_nil)
  (pss_cons (ps_if (pt_cmpR op_eq (pe_op op_mod (pv 0) pe_int) pe_int (nomark _))
    (pss_one (ps_ret (pe_tup (pa_cons (pe_tup (pa_cons pe_str (pa_cons (pe_call (ok__law_sign T) (hr.mono (by decide)) (by rfl) T.m__law_sign T.F__law_sign.kp T.b__law_sign .nil pass0 (pa_cons (pe_op op_fdiv (pv 0) pe_int) pa_nil)) pa_nil))) (pa_cons pe_bl pa_nil)))))
    pss_nil)
  (pss_one (ps_ret (pe_tup (pa_cons (pe_tup (pa_cons pe_str (pa_cons (pe_call (ok__law_sign T) (hr.mono (by decide)) (by rfl) T.m__law_sign T.F__law_sign.kp T.b__law_sign .nil pass0 (pa_cons (pe_ix ix_list (pe_lst (pa_cons (pv 1) (pa_cons (pe_op op_fdiv (pv 1) pe_int) pa_nil))) (pe_callTy call_int1 (by rfl) T.n_int (by decide +kernel) (pa_cons (pe_cmpR op_eq (pe_op op_mod (pv 0) pe_int) pe_int (nomark _)) pa_nil)) (fun _ _ => rfl)) pa_nil)) pa_nil))) (pa_cons pe_bl pa_nil)))))))), ?_⟩
  refine ⟨_, rfl, _, _, rfl, rfl, (by show (0 : Int) < 6; decide), rfl, _, rfl, ?_⟩
  refine ite2 (fun c1 => ?_) (fun c1 => ?_)
  · refine ⟨_, rfl, _, _, rfl, rfl, ⟨by decide, by decide⟩, _, _, rfl, rfl, (by show (0 : Int) < 3; decide), rfl, _, rfl, ?_⟩
    refine ite2 (fun c2 => ?_) (fun c2 => ?_)
    · refine ⟨sz (by show 1 ≤ 10000; decide), fun t1 n1 => ⟨sz (by show 2 ≤ 10000; decide), fun t2 n2 => ?_⟩⟩
      exact q t2 .none _ ((same_new n1).trans (same_new n2)) (Ent.mk n2 ⟨t1, rfl, SqT.of upd_same⟩ rfl) rfl rfl
    · refine ⟨_, rfl, _, _, rfl, rfl, (by show (0 : Int) < 6; decide), rfl, _, rfl, ?_⟩
      refine ite2 (fun c3 => ?_) (fun c3 => absurd c1 c3)
      refine ⟨sz (by show 1 ≤ 10000; decide), fun t1 n1 => ⟨sz (by show 2 ≤ 10000; decide), fun t2 n2 => ?_⟩⟩
      exact q t2 .any _ ((same_new n1).trans (same_new n2)) (Ent.mk n2 ⟨t1, rfl, SqT.of upd_same⟩ rfl) rfl rfl
  refine iteF ?_
  refine ⟨_, rfl, _, _, rfl, rfl, (by show (0 : Int) < 6; decide), rfl, _, rfl, ?_⟩
  refine ite2 (fun c3 => absurd c3 c1) (fun c3 => ?_)
  refine ⟨_, rfl, _, _, rfl, rfl, (by show (0 : Int) < 6; decide), rfl, _, rfl, ?_⟩
  refine ite2 (fun c4 => ?_) (fun c4 => ?_)
  · refine ⟨_, rfl, _, _, rfl, rfl, ⟨by decide, by decide⟩, _, rfl, ?_⟩
    refine ⟨sz (by show 2 ≤ 10000; decide), fun t1 n1 => ⟨sz (by show 2 ≤ 10000; decide), fun t2 n2 => ?_⟩⟩
    exact q t2 (.sign _) _ ((same_new n1).trans (same_new n2)) (Ent.mk n2 ⟨t1, rfl, lsg_lt _, SqT.of upd_same⟩ rfl) rfl rfl
  have pick : ∃ e : Int, atI [V.int h, V.int (h / 95)] (if decide (V.int (c % 6) = V.int 3) = true then 1 else 0) = some (.int e) := by
    split
    · exact ⟨_, at1 rfl⟩
    · exact ⟨_, at0 rfl⟩
  obtain ⟨e, he⟩ := pick
  refine ⟨_, rfl, _, rfl, _, _, rfl, rfl, ⟨by decide, by decide⟩, sz (by show 2 ≤ 10000; decide), fun l nl => ?_⟩
  have sl := same_new (o := .lst [.int h, .int (h / 95)]) nl
  refine ⟨_, rfl, _, _, rfl, rfl, (by show (0 : Int) < 6; decide), rfl, .inr ⟨_, rfl, l, _, _, .int e, rfl, rfl, SqL.of upd_same, he, _, rfl, ?_⟩⟩
  refine ⟨sz (by show 2 ≤ 10000; decide), fun t1 n1 => ⟨sz (by show 2 ≤ 10000; decide), fun t2 n2 => ?_⟩⟩
  exact q t2 (.sign _) _ (sl.trans ((same_new n1).trans (same_new n2))) (Ent.mk n2 ⟨t1, rfl, lsg_lt _, SqT.of upd_same⟩ rfl) rfl rfl

end
end G1

set_option maxRecDepth 100000
set_option maxHeartbeats 4000000
namespace G1
open PySem PySem.Spec PyProof.Rows L2 Gm
section
variable {P : Program} {w : World} {K : PySem.W.Frag} {mg : Str → Option Value} {base : Heap}
def sp_two (K : PySem.W.Frag) : Sp := fun vs H Q _ => ∃ (c : Int) (l r : V) (p1 p2 : Pat), vs = [.int c, l, r] ∧ Ent K H p1 l ∧ Ent K H p2 r ∧
  ∀ (t : Addr) (p : Pat) (H' : Hp), Same H H' → Ent K H' p (.ref t) → siz p = 1 + siz p1 + siz p2 → dep p = 1 + max (dep p1) (dep p2) → Q (.ref t) H'
theorem ok__law_two (T : Txt w K mg) : FnOk P w K mg base CX0 1 T.f__law_two T.fd__law_two ["_law_cell", "_law_left", "_law_right"] (sp_two K) := by
  refine T.F__law_two.ok sc__law_two (fun vs H Q E h => ?_) (fun cdv A outer s H vs Q E hr h => ?_)
  · obtain ⟨c, l, r, p1, p2, rfl, _⟩ := h
    rfl
  obtain ⟨c, l, r, p1, p2, rfl, ⟨a1, x1, rfl, h1, u1⟩, ⟨a2, x2, rfl, h2, u2⟩, q⟩ := h
  refine ⟨_, (pss_cons (ps_if (pt_cmpR op_eq (pe_op op_mod (pv 0) pe_int) pe_int (nomark _))
    (pss_one (ps_ret (pe_tup (pa_cons (pe_tup (pa_cons pe_str (pa_cons (pe_ix ix_tup (pv 1) pe_int (fun _ _ => rfl)) (pa_cons (pe_ix ix_tup (pv 2) pe_int (fun _ _ => rfl)) pa_nil)))) (pa_cons (pe_and (pe_ix ix_tup (pv 1) pe_int (fun _ _ => rfl)) (pe_one (pe_ix ix_tup (pv 2) pe_int (fun _ _ => rfl)))) pa_nil)))))
    pss_nil)
  (pss_one (ps_ret (pe_tup (pa_cons (pe_tup (pa_cons pe_str (pa_cons (pe_ix ix_tup (pv 1) pe_int (fun _ _ => rfl)) (pa_cons (pe_ix ix_tup (pv 2) pe_int (fun _ _ => rfl)) pa_nil)))) (pa_cons (pe_or (pe_ix ix_tup (pv 1) pe_int (fun _ _ => rfl)) (pe_one (pe_ix ix_tup (pv 2) pe_int (fun _ _ => rfl)))) pa_nil)))))), ?_⟩
  refine ⟨_, rfl, _, _, rfl, rfl, (by show (0 : Int) < 2; decide), rfl, _, rfl, ?_⟩
  refine ite2 (fun _ => ?_) (fun _ => ?_)
  · refine ⟨_, rfl, _, _, _, _, rfl, rfl, h1, at0 rfl, _, rfl, _, _, _, _, rfl, rfl, h2, at0 rfl, sz (by show 3 ≤ 10000; decide), fun t1 n1 => ?_⟩
    have s1 := same_new (o := .tup [.str "row", x1, x2]) n1
    have h1' := TS.of (K := K) s1 _ _ h1
    have h2' := TS.of (K := K) s1 _ _ h2
    have fin : ∀ {b : Bool}, nul p1 = true ∧ b = nul p2 ∨ nul p1 = false ∧ b = false → ([V.ref t1, V.bl b] : List V).length ≤ sizeLine ∧ ∀ t2, upd H t1 (.tup [.str "row", x1, x2]) t2 = none → Q (.ref t2) (upd (upd H t1 (.tup [.str "row", x1, x2])) t2 (.tup [.ref t1, .bl b])) := fun {b} hb => ⟨sz (by show 2 ≤ 10000; decide), fun t2 n2 =>
      q t2 (.row p1 p2) _ (s1.trans (same_new n2)) (Ent.mk n2 ⟨t1, x1, x2, rfl, SqT.of upd_same, u1.mono (TS.of s1), u2.mono (TS.of s1)⟩ (by rcases hb with ⟨e, f⟩ | ⟨e, f⟩ <;> simp [nul, e, f])) (siz_row _ _) rfl⟩
    refine ⟨_, rfl, _, _, _, _, rfl, rfl, h1', at1 rfl, _, rfl, ?_⟩
    refine ite2 (fun c1 => ?_) (fun c1 => ?_)
    · exact ⟨_, rfl, _, _, _, _, rfl, rfl, h2', at1 rfl, fin (.inl ⟨c1, rfl⟩)⟩
    · exact fin (.inr ⟨Bool.eq_false_iff.mpr c1, rfl⟩)
  · refine ⟨_, rfl, _, _, _, _, rfl, rfl, h1, at0 rfl, _, rfl, _, _, _, _, rfl, rfl, h2, at0 rfl, sz (by show 3 ≤ 10000; decide), fun t1 n1 => ?_⟩
    have s1 := same_new (o := .tup [.str "or", x1, x2]) n1
    have h1' := TS.of (K := K) s1 _ _ h1
    have h2' := TS.of (K := K) s1 _ _ h2
    have fin : ∀ {b : Bool}, nul p1 = false ∧ b = nul p2 ∨ nul p1 = true ∧ b = true → ([V.ref t1, V.bl b] : List V).length ≤ sizeLine ∧ ∀ t2, upd H t1 (.tup [.str "or", x1, x2]) t2 = none → Q (.ref t2) (upd (upd H t1 (.tup [.str "or", x1, x2])) t2 (.tup [.ref t1, .bl b])) := fun {b} hb => ⟨sz (by show 2 ≤ 10000; decide), fun t2 n2 =>
      q t2 (.or p1 p2) _ (s1.trans (same_new n2)) (Ent.mk n2 ⟨t1, x1, x2, rfl, SqT.of upd_same, u1.mono (TS.of s1), u2.mono (TS.of s1)⟩ (by rcases hb with ⟨e, f⟩ | ⟨e, f⟩ <;> simp [nul, e, f])) (siz_or _ _) rfl⟩
    refine ⟨_, rfl, _, _, _, _, rfl, rfl, h1', at1 rfl, _, rfl, ?_⟩
    refine ite2 (fun c1 => ?_) (fun c1 => ?_)
    · exact fin (.inr ⟨c1, rfl⟩)
    · exact ⟨_, rfl, _, _, _, _, rfl, rfl, h2', at1 rfl, fin (.inl ⟨Bool.eq_false_iff.mpr c1, rfl⟩)⟩
def sp_round (K : PySem.W.Frag) : Sp := fun vs H Q _ => ∃ (c : Int) (l : V) (h : Int) (p1 : Pat), vs = [.int c, l, .int h] ∧ Ent K H p1 l ∧
  ∀ (t : Addr) (p : Pat) (H' : Hp), Same H H' → Ent K H' p (.ref t) → siz p ≤ 3 + siz p1 → dep p ≤ 2 + dep p1 → Q (.ref t) H'
theorem ok__law_round (T : Txt w K mg) : FnOk P w K mg base CX0 2 T.f__law_round T.fd__law_round ["_law_cell", "_law_part", "_law_head"] (sp_round K) := by
  refine T.F__law_round.ok sc__law_round (fun vs H Q E h => ?_) (fun cdv A outer s H vs Q E hr h => ?_)
  · obtain ⟨c, l, h, p1, rfl, _⟩ := h
    rfl
  obtain ⟨c, l, h, p1, rfl, ⟨a1, x1, rfl, h1, u1⟩, q⟩ := h
  refine ⟨_, (pss_cons (ps_set (i := 3) sc__law_round.nd rfl (.inl rfl) (pe_ix ix_tup (pv 1) pe_int (fun _ _ => rfl)))
  (C8.pss_cut (ps_if (pt_val (pe_ix ix_tup (pv 1) pe_int (fun _ _ => rfl)))
    (pss_one (ps_set (i := 3) sc__law_round.nd rfl (.inl rfl) (pe_tup (pa_cons pe_str (pa_cons (pe_tup (pa_cons pe_str (pa_cons (pe_call (ok__law_sign T) (hr.mono (by decide)) (by rfl) T.m__law_sign T.F__law_sign.kp T.b__law_sign .nil pass0 (pa_cons (pv 2) pa_nil)) pa_nil))) (pa_cons (pv 3) pa_nil))))))
    pss_nil)
  (pss_one (ps_ret (pe_tup (pa_cons (pe_ix ix_list (pe_lst (pa_cons (pe_tup (pa_cons pe_str (pa_cons (pv 3) pa_nil))) (pa_cons (pe_tup (pa_cons pe_str (pa_cons (pv 3) pa_nil))) pa_nil))) (pe_op op_mod (pv 0) pe_int) (fun _ _ => rfl)) (pa_cons pe_bl pa_nil))))))), ?_⟩
  refine ⟨_, rfl, _, _, _, _, rfl, rfl, h1, at0 rfl, ?_⟩
  refine ⟨fun σ' H' => ∃ (p2 : Pat) (x2 : V), σ' = [some (.int c), some (.ref a1), some (.int h), some x2] ∧ Same H H' ∧ PAt K H' p2 x2 ∧ siz p2 ≤ 2 + siz p1 ∧ dep p2 ≤ 1 + dep p1, ?_, ?_⟩
  · refine ⟨_, rfl, _, _, _, _, rfl, rfl, h1, at1 rfl, _, rfl, ?_⟩
    refine ite2 (fun c1 => ?_) (fun c1 => ?_)
    · refine ⟨_, rfl, _, rfl, sz (by show 2 ≤ 10000; decide), fun t1 n1 => ?_⟩
      refine ⟨_, rfl, sz (by show 3 ≤ 10000; decide), fun t2 n2 => ?_⟩
      have s2 := (same_new (o := .tup [.str "sign", .str ⟨#[lsg h]⟩]) n1).trans (same_new (o := .tup [.str "row", .ref t1, x1]) n2)
      refine ⟨.row (.sign (lsg h)) p1, .ref t2, rfl, s2, ⟨t2, .ref t1, x1, rfl, SqT.of upd_same, ⟨t1, rfl, lsg_lt h, TS.new n2 _ _ (SqT.of upd_same)⟩, u1.mono (TS.of s2)⟩, ?_, ?_⟩
      · rw [siz_row, show siz (.sign (lsg h)) = 1 from rfl]
        omega
      · have := dep_pos p1
        show 1 + max 1 (dep p1) ≤ _
        omega
    · exact ⟨p1, x1, rfl, Same.refl _, u1, by omega, by omega⟩
  · rintro σ' H1 ⟨p2, x2, rfl, s1, u2, z2, d2⟩
    refine ⟨_, rfl, sz (by show 2 ≤ 10000; decide), fun t1 n1 => ?_⟩
    refine ⟨_, rfl, sz (by show 2 ≤ 10000; decide), fun t2 n2 => ⟨sz (by show 2 ≤ 10000; decide), fun t3 n3 => ?_⟩⟩
    have s2 := same_new (o := .tup [.str "more", x2]) n1
    have s3 := s2.trans (same_new (o := .tup [.str "less", x2]) n2)
    have s4 := s3.trans (same_new (o := .lst [.ref t1, .ref t2]) n3)
    have e2 : ∃ (v : V) (p3 : Pat), atI [V.ref t1, V.ref t2] (c % 2) = some v ∧ PAt K (upd (upd (upd H1 t1 (.tup [.str "more", x2])) t2 (.tup [.str "less", x2])) t3 (.lst [.ref t1, .ref t2])) p3 v ∧ nul p3 = true ∧ siz p3 ≤ 3 + siz p1 ∧ dep p3 ≤ 2 + dep p1 := by
      have k0 := Int.emod_nonneg c (show (2 : Int) ≠ 0 by decide)
      have k1 := Int.emod_lt_of_pos c (show (0 : Int) < 2 by decide)
      by_cases k : c % 2 = 0
      · rw [k]
        refine ⟨.ref t1, .more p2, at0 rfl, ⟨t1, x2, rfl, TS.of ((same_new n2).trans (same_new n3)) _ _ (SqT.of upd_same), u2.mono (TS.of s4)⟩, rfl, ?_, show 1 + dep p2 ≤ _ by omega⟩
        rw [siz_more]
        omega
      · have k' : c % 2 = 1 := by omega
        rw [k']
        refine ⟨.ref t2, .less p2, at1 rfl, ⟨t2, x2, rfl, TS.of (same_new n3) _ _ (SqT.of upd_same), u2.mono (TS.of s4)⟩, rfl, ?_, show 1 + dep p2 ≤ _ by omega⟩
        rw [siz_less]
        omega
    obtain ⟨v, p3, ev, u3, nu3, z3, d3⟩ := e2
    refine ⟨_, rfl, _, _, rfl, rfl, (by show (0 : Int) < 2; decide), t3, _, _, v, rfl, rfl, SqL.of upd_same, ev, ?_⟩
    refine ⟨sz (by show 2 ≤ 10000; decide), fun t4 n4 => ?_⟩
    exact q t4 p3 _ ((s1.trans s4).trans (same_new n4)) (Ent.mk n4 u3 nu3) z3 d3

end
end G1

set_option maxRecDepth 100000
set_option maxHeartbeats 4000000
namespace G1
open PySem PySem.Spec PyProof.Rows L2 Gm
section
variable {P : Program} {w : World} {K : PySem.W.Frag} {mg : Str → Option Value} {base : Heap}
def sp_made (K : PySem.W.Frag) : Sp := fun vs H Q _ => ∃ (a : Addr) (ns : List Int) (h : Int), vs = [.ref a, .int h] ∧ SqL K H a (ns.map V.int) ∧ ns.length ≤ 16 ∧
  ∀ (v : V) (p : Pat) (H' : Hp), Same H H' → PAt K H' p v → siz p ≤ 1000 → dep p ≤ 1 + 2 * ns.length → Q v H'
def dtot (ps : List Pat) : Nat := (ps.map dep).sum
theorem dtot_snoc (ps : List Pat) (p : Pat) : dtot (ps ++ [p]) = dtot ps + dep p := by
  unfold dtot
  simp
def mInv (K : PySem.W.Frag) (H : Hp) (a lp : Addr) (h step : Int) (n m : Nat) (σ : L2.St) (H' : Hp) : Prop :=
  ∃ (num : Int) (ps : List Pat) (vs : List V) (x5 x6 x7 x8 : Option V), σ = [some (.ref a), some (.int h), some (.ref lp), some (.int step), some (.int num), x5, x6, x7, x8] ∧ Same H H' ∧
    H' lp = some (.lst vs) ∧ Paired (Ent K H') ps vs ∧ 0 ≤ num ∧ tot ps + ps.length ≤ n ∧ dtot ps ≤ m
/-- a new one laid on the pile -/
theorem pile_push {H' H2 : Hp} {lp : Addr} {ps : List Pat} {vs : List V} {p : Pat} {v : V} (h : H2 lp = some (.lst vs)) (hp : Paired (Ent K H2) ps vs) (u : Ent K H2 p v) :
    Paired (Ent K (upd H2 lp (.lst (vs ++ [v])))) (ps ++ [p]) (vs ++ [v]) :=
  Paired.snoc (Paired.mapP hp fun _ _ z => z.mono (TS.lst h)) (u.mono (TS.lst h))
theorem ok__law_made (T : Txt w K mg) : FnOk P w K mg base CX0 3 T.f__law_made T.fd__law_made ["_law_cells", "_law_head"] (sp_made K) := by
  refine T.F__law_made.ok sc__law_made (fun vs H Q E h => ?_) (fun cdv A outer s H vs Q E hr h => ?_)
  · obtain ⟨a, ns, h, rfl, _⟩ := h
    rfl
  obtain ⟨a, ns, h, rfl, ha, h16, q⟩ := h
  refine ⟨_, (pss_cons (ps_set (i := 2) sc__law_made.nd rfl (.inl rfl) (pe_lst pa_nil))
  (pss_cons (ps_set (i := 3) sc__law_made.nd rfl (.inl rfl) (pe_op op_add pe_int (pe_op op_mod (pe_op op_fdiv (pv 1) pe_int) pe_int)))
  (pss_cons (ps_set (i := 4) sc__law_made.nd rfl (.inl rfl) (pe_op op_mod (pv 1) (pv 3)))
  (pss_cons (ps_for PassesOwn.never rfl (pi_list (pv 0)) (pg_name (i := 5) sc__law_made.nd rfl (.inl rfl))
   (pss_cons (ps_set (i := 6) sc__law_made.nd rfl (.inl rfl) (pe_op op_mod (pv 5) pe_int))
  (pss_one (ps_if (PW.pt (pw_or (pt_cmpR op_lt (pv 6) pe_int (nomark _)) (pw_or (pt_cmpR op_eq (pe_callB call_len_seq (by rfl) T.n_len PySem.boot_len (pa_cons (pv 2) pa_nil)) pe_int (nomark _)) (pw_or1 (PW.pt (pw_and (pt_cmpR op_lt (pv 6) pe_int (nomark _)) (pw_and1 (pt_cmpR op_lt (pe_callB call_len_seq (by rfl) T.n_len PySem.boot_len (pa_cons (pv 2) pa_nil)) pe_int (nomark _)))))))))
    (pss_one (ps_expr (pe_bm PySem.F.plainAttrs_list PySem.F.slot_list_append PySem.F.type_list_append mt_append (pv 2) (pa_cons (pe_call (ok__law_leaf T) (hr.mono (by decide)) (by rfl) T.m__law_leaf T.F__law_leaf.kp T.b__law_leaf .nil pass0 (pa_cons (pe_op op_fdiv (pv 5) pe_int) (pa_cons (pv 1) pa_nil))) pa_nil))))
    (pss_one (ps_if (pt_cmpR op_lt (pv 6) pe_int (nomark _))
    (pss_cons (ps_set (i := 7) sc__law_made.nd rfl (.inl rfl) (pe_bm0 PySem.F.plainAttrs_list PySem.F.slot_list_pop PySem.F.type_list_pop mt_pop (pv 2)))
  (pss_one (ps_expr (pe_bm PySem.F.plainAttrs_list PySem.F.slot_list_append PySem.F.type_list_append mt_append (pv 2) (pa_cons (pe_call (ok__law_two T) (hr.mono (by decide)) (by rfl) T.m__law_two T.F__law_two.kp T.b__law_two .nil pass0 (pa_cons (pe_op op_fdiv (pv 5) pe_int) (pa_cons (pe_bm0 PySem.F.plainAttrs_list PySem.F.slot_list_pop PySem.F.type_list_pop mt_pop (pv 2)) (pa_cons (pv 7) pa_nil)))) pa_nil)))))
    (pss_one (ps_if (pt_cmpR op_lt (pv 6) pe_int (nomark _))
    (pss_one (ps_expr (pe_bm PySem.F.plainAttrs_list PySem.F.slot_list_append PySem.F.type_list_append mt_append (pv 2) (pa_cons (pe_call (ok__law_round T) (hr.mono (by decide)) (by rfl) T.m__law_round T.F__law_round.kp T.b__law_round .nil pass0 (pa_cons (pe_op op_fdiv (pv 5) pe_int) (pa_cons (pe_bm0 PySem.F.plainAttrs_list PySem.F.slot_list_pop PySem.F.type_list_pop mt_pop (pv 2)) (pa_cons (pv 1) pa_nil)))) pa_nil))))
    (pss_cons (ps_set (i := 4) sc__law_made.nd rfl (.inl rfl) (pe_op op_add (pv 4) (pv 3)))
  (pss_cons (ps_set (i := 8) sc__law_made.nd rfl (.inl rfl) (pe_bm0 PySem.F.plainAttrs_list PySem.F.slot_list_pop PySem.F.type_list_pop mt_pop (pv 2)))
  (pss_one (ps_expr (pe_bm PySem.F.plainAttrs_list PySem.F.slot_list_append PySem.F.type_list_append mt_append (pv 2) (pa_cons (pe_tup (pa_cons (pe_tup (pa_cons pe_str (pa_cons (pv 4) (pa_cons (pe_ix ix_tup (pv 8) pe_int (fun _ _ => rfl)) pa_nil)))) (pa_cons (pe_ix ix_tup (pv 8) pe_int (fun _ _ => rfl)) pa_nil))) pa_nil))))))))))))))
  (pss_cons (ps_while PassesOwn.never (pt_cmpR op_gt (pe_callB call_len_seq (by rfl) T.n_len PySem.boot_len (pa_cons (pv 2) pa_nil)) pe_int (nomark _))
   (pss_cons (ps_set (i := 7) sc__law_made.nd rfl (.inl rfl) (pe_bm0 PySem.F.plainAttrs_list PySem.F.slot_list_pop PySem.F.type_list_pop mt_pop (pv 2)))
  (pss_one (ps_expr (pe_bm PySem.F.plainAttrs_list PySem.F.slot_list_append PySem.F.type_list_append mt_append (pv 2) (pa_cons (pe_call (ok__law_two T) (hr.mono (by decide)) (by rfl) T.m__law_two T.F__law_two.kp T.b__law_two .nil pass0 (pa_cons pe_int (pa_cons (pe_bm0 PySem.F.plainAttrs_list PySem.F.slot_list_pop PySem.F.type_list_pop mt_pop (pv 2)) (pa_cons (pv 7) pa_nil)))) pa_nil))))))
  (pss_cons (ps_if (pt_cmpR op_eq (pe_callB call_len_seq (by rfl) T.n_len PySem.boot_len (pa_cons (pv 2) pa_nil)) pe_int (nomark _))
    (pss_one (ps_ret (pe_tup (pa_cons pe_str pa_nil))))
    pss_nil)
  (pss_one (ps_ret (pe_ix ix_tup (pe_ix ix_list (pv 2) pe_int (fun _ _ => rfl)) pe_int (fun _ _ => rfl)))))))))), ?_⟩
  refine ⟨Nat.zero_le _, fun lp np => ?_⟩
  have k0 := Int.emod_nonneg (h / 7) (show (900 : Int) ≠ 0 by decide)
  refine ⟨_, rfl, _, _, rfl, rfl, ⟨by decide, by decide⟩, _, _, rfl, rfl, (by show (0 : Int) < 900; decide), _, _, rfl, rfl, ?_⟩
  have kstep : (0 : Int) < 1 + h / 7 % 900 := by omega
  refine ⟨_, rfl, _, rfl, _, _, rfl, rfl, kstep, ?_⟩
  have kn := Int.emod_nonneg h (show (1 + h / 7 % 900 : Int) ≠ 0 by omega)
  refine ⟨_, rfl, a, rfl, ⟨_, (same_new np).seq ha⟩, for_list (K := K) (a := a) (xs := ns.map V.int) (fun i => mInv K H a lp h (1 + h / 7 % 900) (5 * i) (2 * i))
    ⟨h % (1 + h / 7 % 900), [], [], none, none, none, none, rfl, same_new np, upd_same, .nil, kn, Nat.le_refl _, Nat.le_refl _⟩ (fun i σ H' _ hI => ?_) ?_ ?_⟩
  · obtain ⟨_, _, _, _, _, _, _, _, s1, _⟩ := hI
    exact s1.seq ha
  · rintro i y σ H1 hi ⟨num, ps, vs, x5, x6, x7, x8, rfl, s1, hp, pv, kn, kt, kd⟩
    have hi16 : i < 16 := by
      have q1 := (List.getElem?_eq_some_iff.mp hi).1
      rw [List.length_map] at q1
      omega
    obtain ⟨c, rfl⟩ : ∃ c, y = V.int c := by
      rw [List.getElem?_map] at hi
      cases e : ns[i]? with
      | none =>
        rw [e] at hi
        cases hi
      | some u =>
        rw [e] at hi
        exact ⟨u, (Option.some.inj hi).symm⟩
    have lpv : ps.length = vs.length := Paired.length pv
    refine ⟨_, rfl, _, _, rfl, rfl, (by show (0 : Int) < 10; decide), ?_⟩
    refine g_nx ?_
    refine if_tst (b := decide (c % 10 < 3) || (decide (V.int ((vs.length : Nat) : Int) = V.int 0) || (decide (c % 10 < 6) && decide (((vs.length : Nat) : Int) < 2)))) (tst_or (fun Q q => ⟨_, rfl, _, _, rfl, rfl, _, rfl, q⟩) (tst_or (fun Q q => ⟨_, rfl, lp, _, rfl, .inl (SqL.of hp), rfl, _, rfl, q⟩)
      (tst_and (fun Q q => ⟨_, rfl, _, _, rfl, rfl, _, rfl, q⟩) (fun Q q => ⟨_, rfl, lp, _, rfl, .inl (SqL.of hp), _, _, rfl, rfl, _, rfl, q⟩)))) (fun c1 => ?_) (fun c1 => ?_)
    · -- a leaf
      refine ⟨_, rfl, .inl ⟨rfl, _, SqL.of hp⟩, _, rfl, _, _, rfl, rfl, ⟨by decide, by decide⟩, _, rfl, _, _, rfl, fun t p H2 s2 u z d => ?_⟩
      have hp2 := s2 _ _ hp
      have pv2 := Paired.mapP pv fun _ _ (z : Ent K H1 _ _) => z.mono (TS.of s2)
      refine ⟨lp, vs, .ref t, rfl, rfl, hp2, szl (by have := len_tot ps; omega), ?_⟩
      refine ⟨num, ps ++ [p], vs ++ [.ref t], _, _, _, _, rfl, Same.mut (s1.trans s2) np, upd_same, pile_push (H' := H2) hp2 pv2 u, kn, ?_, ?_⟩
      · rw [tot_snoc, List.length_append, List.length_singleton, z]
        omega
      · rw [dtot_snoc, d]
        omega
    rw [Bool.or_eq_false_iff, Bool.or_eq_false_iff] at c1
    obtain ⟨ca, cb, cc⟩ := c1
    have n0 : vs.length ≠ 0 := fun z => of_decide_eq_false cb (by rw [z]; rfl)
    refine ⟨_, rfl, _, _, rfl, rfl, _, rfl, ?_⟩
    refine ite2 (fun c2 => ?_) (fun c2 => ?_)
    · -- two together
      have n2 : 2 ≤ vs.length := by
        rw [c2, Bool.true_and] at cc
        have := of_decide_eq_false cc
        omega
      obtain ⟨psA, pR, vsA, vR, rfl, rfl, pvA, uR⟩ := Paired.last pv (by omega)
      have lA : psA.length = vsA.length := Paired.length pvA
      rw [List.length_append, List.length_singleton] at n2
      obtain ⟨psB, pL, vsB, vL, rfl, rfl, pvB, uL⟩ := Paired.last pvA (by omega)
      refine ⟨_, rfl, .inl ⟨rfl, _, SqL.of hp⟩, lp, _, vR, rfl, rfl, hp, last_get _ _, ?_⟩
      rw [List.dropLast_concat]
      have hp1 : upd H1 lp (.lst (vsB ++ [vL])) lp = some (.lst (vsB ++ [vL])) := upd_same
      have t1 : TS K H1 (upd H1 lp (.lst (vsB ++ [vL]))) := TS.lst hp
      have t2 := t1.trans (TS.lst (K := K) (ys := vsB) hp1)
      refine ⟨_, rfl, .inl ⟨rfl, _, SqL.of hp1⟩, _, rfl, _, _, rfl, rfl, ⟨by decide, by decide⟩, _, rfl, .inl ⟨rfl, _, SqL.of hp1⟩, lp, _, vL, rfl, rfl, hp1, last_get _ _, ?_⟩
      rw [List.dropLast_concat]
      refine ⟨_, rfl, _, vL, vR, pL, pR, rfl, uL.mono t2, uR.mono t2, fun t p H2 s2 u z d => ?_⟩
      have hp2 := s2 _ _ (upd_same (H := upd H1 lp (.lst (vsB ++ [vL]))) (a := lp) (o := .lst vsB))
      have pv2 := Paired.mapP pvB fun _ _ (z : Ent K H1 _ _) => z.mono (t2.trans (TS.of s2))
      rw [tot_snoc, tot_snoc] at kt
      rw [dtot_snoc, dtot_snoc] at kd
      simp only [List.length_append, List.length_singleton] at kt lpv lA n2
      refine ⟨lp, vsB, .ref t, rfl, rfl, hp2, szl (by have := len_tot psB; omega), ?_⟩
      refine ⟨num, psB ++ [p], vsB ++ [.ref t], _, _, _, _, rfl, Same.mut ((Same.mut (Same.mut s1 np) np).trans s2) np, upd_same, pile_push (H' := H2) hp2 pv2 u, kn, ?_, ?_⟩
      · rw [tot_snoc, List.length_append, List.length_singleton, z]
        omega
      · have d1 := dep_pos pL
        have d2 := dep_pos pR
        rw [dtot_snoc, d]
        omega
    refine ⟨_, rfl, _, _, rfl, rfl, _, rfl, ?_⟩
    obtain ⟨psA, pR, vsA, vR, rfl, rfl, pvA, uR⟩ := Paired.last pv (by omega)
    have t1 : TS K H1 (upd H1 lp (.lst vsA)) := TS.lst hp
    have hp1 : upd H1 lp (.lst vsA) lp = some (.lst vsA) := upd_same
    rw [tot_snoc] at kt
    rw [dtot_snoc] at kd
    simp only [List.length_append, List.length_singleton] at kt lpv
    refine ite2 (fun c3 => ?_) (fun c3 => ?_)
    · -- a round
      refine ⟨_, rfl, .inl ⟨rfl, _, SqL.of hp⟩, _, rfl, _, _, rfl, rfl, ⟨by decide, by decide⟩, _, rfl, .inl ⟨rfl, _, SqL.of hp⟩, lp, _, vR, rfl, rfl, hp, last_get _ _, ?_⟩
      rw [List.dropLast_concat]
      refine ⟨_, rfl, _, vR, h, pR, rfl, uR.mono t1, fun t p H2 s2 u z d => ?_⟩
      have hp2 := s2 _ _ hp1
      have pv2 := Paired.mapP pvA fun _ _ (z : Ent K H1 _ _) => z.mono (t1.trans (TS.of s2))
      refine ⟨lp, vsA, .ref t, rfl, rfl, hp2, szl (by have := len_tot psA; omega), ?_⟩
      refine ⟨num, psA ++ [p], vsA ++ [.ref t], _, _, _, _, rfl, Same.mut ((Same.mut s1 np).trans s2) np, upd_same, pile_push (H' := H2) hp2 pv2 u, kn, ?_, ?_⟩
      · rw [tot_snoc, List.length_append, List.length_singleton]
        omega
      · rw [dtot_snoc]
        omega
    · -- a group
      refine ⟨_, rfl, _, rfl, _, _, rfl, rfl, ?_⟩
      refine ⟨_, rfl, .inl ⟨rfl, _, SqL.of hp⟩, lp, _, vR, rfl, rfl, hp, last_get _ _, ?_⟩
      rw [List.dropLast_concat]
      obtain ⟨aR, xR, rfl, hR, uX⟩ := uR
      have hR1 := t1 _ _ hR
      refine ⟨_, rfl, .inl ⟨rfl, _, SqL.of hp1⟩, _, rfl, _, rfl, _, _, _, _, rfl, rfl, hR1, at0 rfl, sz (by show 3 ≤ 10000; decide), fun t2 n2 => ?_⟩
      have s2 := same_new (o := .tup [.str "group", .int (num + (1 + h / 7 % 900)), xR]) n2
      have hR2 := TS.of (K := K) s2 _ _ hR1
      refine ⟨_, rfl, _, _, _, _, rfl, rfl, hR2, at1 rfl, sz (by show 2 ≤ 10000; decide), fun t3 n3 => ?_⟩
      have s3 := s2.trans (same_new (o := .tup [.ref t2, .bl (nul pR)]) n3)
      have u : Ent K (upd (upd (upd H1 lp (.lst vsA)) t2 (.tup [.str "group", .int (num + (1 + h / 7 % 900)), xR])) t3 (.tup [.ref t2, .bl (nul pR)])) (.group (num + (1 + h / 7 % 900)) pR) (.ref t3) :=
        Ent.mk n3 ⟨t2, xR, rfl, by omega, SqT.of upd_same, uX.mono (t1.trans (TS.of s2))⟩ rfl
      have hp2 := s3 _ _ hp1
      have pv2 := Paired.mapP pvA fun _ _ (z : Ent K H1 _ _) => z.mono (t1.trans (TS.of s3))
      refine ⟨lp, vsA, .ref t3, rfl, rfl, hp2, szl (by have := len_tot psA; omega), ?_⟩
      refine ⟨num + (1 + h / 7 % 900), psA ++ [.group (num + (1 + h / 7 % 900)) pR], vsA ++ [.ref t3], _, _, _, _, rfl, Same.mut ((Same.mut s1 np).trans s3) np, upd_same, pile_push (H' := H1) hp2 pv2 u, by omega, ?_, ?_⟩
      · rw [tot_snoc, List.length_append, List.length_singleton, siz_group]
        omega
      · rw [dtot_snoc]
        show dtot psA + (1 + dep pR) ≤ _
        omega
  -- what is left on the pile
  rintro σ H1 ⟨num, ps, vs, x5, x6, x7, x8, rfl, s1, hp, pv, kn, kt, kd⟩
  rw [List.length_map] at kt kd
  refine ⟨fun m σ' H' => ∃ (ps : List Pat) (vs : List V) (x7 : Option V), σ' = [some (.ref a), some (.int h), some (.ref lp), some (.int (1 + h / 7 % 900)), some (.int num), x5, x6, x7, x8] ∧ Same H H' ∧
    H' lp = some (.lst vs) ∧ Paired (Ent K H') ps vs ∧ tot ps + ps.length ≤ 5 * ns.length ∧ dtot ps ≤ 2 * ns.length ∧ m = vs.length, ⟨_, ps, vs, x7, rfl, s1, hp, pv, kt, kd, rfl⟩, ?_⟩
  clear hp pv kt kd s1 ps vs
  rintro m σ' H2 ⟨ps, vs, x7', rfl, s1, hp, pv, kt, kd, rfl⟩
  have lpv : ps.length = vs.length := Paired.length pv
  refine ⟨_, rfl, lp, _, rfl, .inl (SqL.of hp), _, _, rfl, rfl, _, rfl, ?_⟩
  refine ite2 (fun c1 => ?_) (fun c1 => ?_)
  · have n2 : 1 < vs.length := by
      have : (1 : Int) < ((vs.length : Nat) : Int) := of_decide_eq_true c1
      omega
    obtain ⟨psA, pR, vsA, vR, rfl, rfl, pvA, uR⟩ := Paired.last pv (by omega)
    have lA : psA.length = vsA.length := Paired.length pvA
    rw [List.length_append, List.length_singleton] at n2
    obtain ⟨psB, pL, vsB, vL, rfl, rfl, pvB, uL⟩ := Paired.last pvA (by omega)
    refine ⟨fun σ' H' => ∃ (ps : List Pat) (vs : List V) (x7 : Option V), σ' = [some (.ref a), some (.int h), some (.ref lp), some (.int (1 + h / 7 % 900)), some (.int num), x5, x6, x7, x8] ∧ Same H H' ∧
      H' lp = some (.lst vs) ∧ Paired (Ent K H') ps vs ∧ tot ps + ps.length ≤ 5 * ns.length ∧ dtot ps ≤ 2 * ns.length ∧ vs.length = vsB.length + 1, fun σ' H' ⟨ps, vs, x7, e1, e2, e3, e4, e5, e6, e7⟩ => ⟨vs.length, ?_, ps, vs, x7, e1, e2, e3, e4, e5, e6, rfl⟩, ?_⟩
    · simp only [List.length_append, List.length_singleton]
      omega
    refine ⟨_, rfl, .inl ⟨rfl, _, SqL.of hp⟩, lp, _, vR, rfl, rfl, hp, last_get _ _, ?_⟩
    rw [List.dropLast_concat]
    have hp1 : upd H2 lp (.lst (vsB ++ [vL])) lp = some (.lst (vsB ++ [vL])) := upd_same
    have t1 : TS K H2 (upd H2 lp (.lst (vsB ++ [vL]))) := TS.lst hp
    have t2 := t1.trans (TS.lst (K := K) (ys := vsB) hp1)
    refine ⟨_, rfl, .inl ⟨rfl, _, SqL.of hp1⟩, _, rfl, .inl ⟨rfl, _, SqL.of hp1⟩, lp, _, vL, rfl, rfl, hp1, last_get _ _, ?_⟩
    rw [List.dropLast_concat]
    refine ⟨_, rfl, _, vL, vR, pL, pR, rfl, uL.mono t2, uR.mono t2, fun t p H3 s2 u z d => ?_⟩
    have hp2 := s2 _ _ (upd_same (H := upd H2 lp (.lst (vsB ++ [vL]))) (a := lp) (o := .lst vsB))
    have pv2 := Paired.mapP pvB fun _ _ (z : Ent K H2 _ _) => z.mono (t2.trans (TS.of s2))
    rw [tot_snoc, tot_snoc] at kt
    rw [dtot_snoc, dtot_snoc] at kd
    simp only [List.length_append, List.length_singleton] at kt lpv lA n2
    refine ⟨lp, vsB, .ref t, rfl, rfl, hp2, szl (by have := len_tot psB; omega), ?_⟩
    refine ⟨psB ++ [p], vsB ++ [.ref t], _, rfl, Same.mut ((Same.mut (Same.mut s1 np) np).trans s2) np, upd_same, pile_push (H' := H2) hp2 pv2 u, ?_, ?_, by rw [List.length_append, List.length_singleton]⟩
    · rw [tot_snoc, List.length_append, List.length_singleton, z]
      omega
    · have d1 := dep_pos pL
      have d2 := dep_pos pR
      rw [dtot_snoc, d]
      omega
  refine ⟨_, rfl, lp, _, rfl, .inl (SqL.of hp), rfl, _, rfl, ?_⟩
  refine ite2 (fun c2 => ?_) (fun c2 => ?_)
  · refine ⟨sz (by show 1 ≤ 10000; decide), fun t1 n1 => ?_⟩
    exact q (.ref t1) .none _ (s1.trans (same_new n1)) ⟨t1, rfl, SqT.of upd_same⟩ (show 1 ≤ 1000 by decide) (show 1 ≤ 1 + _ by omega)
  · have n1 : vs.length = 1 := by
      have h1 : ¬ (1 : Int) < ((vs.length : Nat) : Int) := of_decide_eq_false (Bool.eq_false_iff.mpr c1)
      have h2 : vs.length ≠ 0 := fun z => c2 (by rw [z]; rfl)
      omega
    obtain ⟨ps', p, vs', v, rfl, rfl, pv', u⟩ := Paired.last pv (by omega)
    rw [List.length_append, List.length_singleton] at n1
    have e' : vs' = [] := List.length_eq_zero_iff.mp (by omega)
    subst e'
    rw [List.nil_append] at hp
    obtain ⟨t, x, rfl, ht, hx⟩ := u
    refine ⟨_, rfl, lp, _, _, _, rfl, rfl, SqL.of hp, at0 rfl, _, _, _, _, rfl, rfl, ht, at0 rfl, ?_⟩
    rw [tot_snoc] at kt
    rw [dtot_snoc] at kd
    exact q x p H2 s1 hx (by omega) (by omega)

end
end G1

set_option maxRecDepth 100000
set_option maxHeartbeats 4000000
namespace G1
open PySem PySem.Spec PyProof.Rows L2 Gm
section
variable {P : Program} {w : World} {K : PySem.W.Frag} {mg : Str → Option Value} {base : Heap}
def sp_first_state (K : PySem.W.Frag) : Sp := fun vs H Q _ => ∃ (p : Pat) (v : V), vs = [v] ∧ PAt K H p v ∧ ∀ (t : Addr) (H' : Hp), Same H H' → SAt K H' ([.pat p], 0) (.ref t) → Q (.ref t) H'
theorem ok_first_state (T : Txt w K mg) : FnOk P w K mg base CX0 1 T.f_first_state T.fd_first_state ["pattern"] (sp_first_state K) := by
  refine T.F_first_state.ok sc_first_state (fun vs H Q E h => ?_) (fun cdv A outer s H vs Q E hr h => ?_)
  · obtain ⟨p, v, rfl, _⟩ := h
    rfl
  obtain ⟨p, v, rfl, hp, q⟩ := h
  refine ⟨_, (pss_one (ps_ret (pe_tup (pa_cons (pe_tup (pa_cons (pv 0) pa_nil)) (pa_cons pe_int pa_nil))))), ?_⟩
  refine ⟨_, rfl, sz (by show 1 ≤ 10000; decide), fun t1 n1 => ⟨sz (by show 2 ≤ 10000; decide), fun t2 n2 => ?_⟩⟩
  have s2 := (same_new (o := .tup [v]) n1).trans (same_new (o := .tup [.ref t1, .int 0]) n2)
  exact q t2 _ s2 ⟨t2, .ref t1, rfl, SqT.of upd_same, t1, [v], rfl, TS.of (K := K) (same_new n2) _ _ (SqT.of upd_same), .cons (hp.mono (TS.of s2)) .nil⟩
def sp_is_end (K : PySem.W.Frag) : Sp := fun vs H Q _ => ∃ (x : Sta) (v : V) (z : Str), vs = [v, .str z] ∧ SAt K H x v ∧ gd 50 x.1 ∧ z.length ≤ 1000 ∧ ∀ H', Same H H' → Q (.bl (isEnd z x)) H'
theorem ok_is_end (T : Txt w K mg) : FnOk P w K mg base CX0 1 T.f_is_end T.fd_is_end ["state", "text"] (sp_is_end K) := by
  refine T.F_is_end.ok sc_is_end (fun vs H Q E h => ?_) (fun cdv A outer s H vs Q E hr h => ?_)
  · obtain ⟨x, v, z, rfl, _⟩ := h
    rfl
  obtain ⟨x, v, z, rfl, hx, hg, hz, q⟩ := h
  refine ⟨_, (pss_one (ps_ret (pe_cmpR (op_eqD hr.units) (pv 0) (pe_tup (pa_cons (pe_tup pa_nil) (pa_cons (pe_callB call_len (by rfl) T.n_len PySem.boot_len (pa_cons (pv 1) pa_nil)) pa_nil))) (nomark _)))), ?_⟩
  refine ⟨_, rfl, Nat.zero_le _, fun t1 n1 => ?_⟩
  refine ⟨_, rfl, _, _, rfl, ⟨sz (by omega), rfl⟩, sz (by show 2 ≤ 10000; decide), fun t2 n2 => ?_⟩
  have s2 := (same_new (o := .tup []) n1).trans (same_new (o := .tup [.ref t1, .int ((z.length : Nat) : Int)]) n2)
  have de : Dp K (upd (upd H t1 (.tup [])) t2 (.tup [.ref t1, .int ((z.length : Nat) : Int)])) (.ref t2) (.tuple [.tuple [], .int ((z.length : Nat) : Int)]) :=
    .tup (SqT.of upd_same) (.cons (.tup (TS.of (K := K) (same_new n2) _ _ (SqT.of upd_same)) .nil) (.cons (.int _) .nil))
  have hx2 := hx.mono (TS.of (K := K) s2)
  refine ⟨spd x, _, hx2.dp, de, shaped_of hx2.lay (Nat.le_trans (spd_depth hg) (by decide)), shaped_of (lay_tup (lay_cons (lay_tup lay_nil) (lay_cons (lay_int _) lay_nil))) (by simp [PyData.depth, PyData.depthAll]), ?_⟩
  rw [eqv_end]
  exact q _ s2
/-- whether a sign or an any takes the text y -/
def takes (p : Pat) (y : Str) : Bool := match p with
  | .sign c => decide (V.str y = V.str ⟨#[c]⟩)
  | _ => !decide (V.str y = V.str "")
def sp_takes (K : PySem.W.Frag) : Sp := fun vs H Q _ => ∃ (p : Pat) (v : V) (y : Str), vs = [v, .str y] ∧ PAt K H p v ∧ (p = .any ∨ ∃ c, p = .sign c) ∧ Q (.bl (takes p y)) H
theorem ok__takes (T : Txt w K mg) : FnOk P w K mg base CX0 1 T.f__takes T.fd__takes ["thing", "sign"] (sp_takes K) := by
  refine T.F__takes.ok sc__takes (fun vs H Q E h => ?_) (fun cdv A outer s H vs Q E hr h => ?_)
  · obtain ⟨p, v, y, rfl, _⟩ := h
    rfl
  obtain ⟨p, v, y, rfl, hp, hs, q⟩ := h
  obtain ⟨a, ws, rfl, ht, _⟩ := hp.node
  refine ⟨_, (pss_cons (ps_if (pt_cmpR op_eq (pe_ix ix_tup (pv 0) pe_int (fun _ _ => rfl)) pe_str (nomark _))
    (pss_one (ps_ret (pe_cmpR op_ne (pv 1) pe_str (nomark _))))
    pss_nil)
  (pss_one (ps_ret (pe_cmpR op_eq (pv 1) (pe_ix ix_tup (pv 0) pe_int (fun _ _ => rfl)) (nomark _))))), ?_⟩
  refine ⟨_, rfl, _, _, _, _, rfl, rfl, ht, at0 rfl, rfl, _, rfl, ?_⟩
  rcases hs with rfl | ⟨c, rfl⟩
  · refine iteT ?_
    exact ⟨_, rfl, rfl, q⟩
  · refine iteF ?_
    exact ⟨_, rfl, _, rfl, _, _, _, _, rfl, rfl, ht, at1 rfl, rfl, q⟩
def sp_unfolded (K : PySem.W.Frag) : Sp := fun vs H Q _ => ∃ (t : Th) (v : V), vs = [v] ∧ TAt K H t v ∧
  ∀ (r : Addr) (ws : List V) (H' : Hp), Same H H' → H r = none → H' r = some (.lst ws) → Paired (RAt K H') (unf t) ws → Q (.ref r) H'
theorem ok__unfolded (T : Txt w K mg) : FnOk P w K mg base CX0 1 T.f__unfolded T.fd__unfolded ["thing"] (sp_unfolded K) := by
  refine T.F__unfolded.ok sc__unfolded (fun vs H Q E h => ?_) (fun cdv A outer s H vs Q E hr h => ?_)
  · obtain ⟨t, v, rfl, _⟩ := h
    rfl
  obtain ⟨t, v, rfl, hv, q⟩ := h
  refine ⟨_, (pss_one (ps_match (pv 0)
   (pm_case2 (i := 1) (j := 2) rfl sc__unfolded.nd rfl rfl rfl rfl (pss_one (ps_ret (pe_lst (pa_cons (pe_tup (pa_cons (pv 1) (pa_cons (pv 2) pa_nil))) pa_nil))))
   (pm_case2 (i := 1) (j := 2) rfl sc__unfolded.nd rfl rfl rfl rfl (pss_one (ps_ret (pe_lst (pa_cons (pe_tup (pa_cons (pv 1) pa_nil)) (pa_cons (pe_tup (pa_cons (pv 2) pa_nil)) pa_nil)))))
   (pm_case1 (i := 1) rfl sc__unfolded.nd rfl rfl (pss_one (ps_ret (pe_lst (pa_cons (pe_tup (pa_cons (pv 1) (pa_cons (pv 0) pa_nil))) (pa_cons (pe_tup pa_nil) pa_nil)))))
   (pm_case1 (i := 1) rfl sc__unfolded.nd rfl rfl (pss_one (ps_ret (pe_lst (pa_cons (pe_tup pa_nil) (pa_cons (pe_tup (pa_cons (pv 1) (pa_cons (pv 0) pa_nil))) pa_nil)))))
   (pm_case2 (i := 3) (j := 1) rfl sc__unfolded.nd rfl rfl rfl rfl (pss_one (ps_ret (pe_lst (pa_cons (pe_tup (pa_cons (pv 1) (pa_cons (pe_tup (pa_cons pe_str (pa_cons (pv 3) pa_nil))) pa_nil))) pa_nil))))
   (pm_wild (pss_one (ps_ret (pe_lst (pa_cons (pe_tup pa_nil) pa_nil)))))))))))), ?_⟩
  cases t with
  | close n =>
    obtain ⟨a, rfl, ht⟩ := hv
    refine ⟨_, rfl, a, _, _, rfl, ht, .inr ⟨.inl (by decide +kernel), a, _, _, rfl, ht, .inr ⟨.inl (by decide +kernel), a, _, _, rfl, ht, .inr ⟨.inl (by decide +kernel), a, _, _, rfl, ht, .inr ⟨.inl (by decide +kernel), a, _, _, rfl, ht, .inr ⟨.inl (by decide +kernel), ?_⟩⟩⟩⟩⟩⟩
    refine ⟨Nat.zero_le _, fun t1 n1 => ⟨sz (by show 1 ≤ 10000; decide), fun r nr => ?_⟩⟩
    exact q r _ _ ((same_new n1).trans (same_new nr)) ((same_new n1).free nr) upd_same (.cons ⟨t1, [], rfl, TS.of (K := K) (same_new nr) _ _ (SqT.of upd_same), .nil⟩ .nil)
  | pat p =>
    cases p with
    | row p1 p2 =>
      obtain ⟨a, x, y, rfl, ht, u1, u2⟩ := hv
      refine ⟨_, rfl, a, _, _, rfl, ht, .inl ⟨rfl, rfl, x, y, rfl, ?_⟩⟩
      refine ⟨_, rfl, _, rfl, sz (by show 2 ≤ 10000; decide), fun t1 n1 => ⟨sz (by show 1 ≤ 10000; decide), fun r nr => ?_⟩⟩
      have s2 := (same_new (o := .tup [x, y]) n1).trans (same_new (o := .lst [.ref t1]) nr)
      exact q r _ _ s2 ((same_new n1).free nr) upd_same (.cons ⟨t1, _, rfl, TS.of (K := K) (same_new nr) _ _ (SqT.of upd_same), .cons (u1.mono (TS.of s2)) (.cons (u2.mono (TS.of s2)) .nil)⟩ .nil)
    | or p1 p2 =>
      obtain ⟨a, x, y, rfl, ht, u1, u2⟩ := hv
      refine ⟨_, rfl, a, _, _, rfl, ht, .inr ⟨.inl (by decide +kernel), a, _, _, rfl, ht, .inl ⟨rfl, rfl, x, y, rfl, ?_⟩⟩⟩
      refine ⟨_, rfl, sz (by show 1 ≤ 10000; decide), fun t1 n1 => ⟨_, rfl, sz (by show 1 ≤ 10000; decide), fun t2 n2 => ⟨sz (by show 2 ≤ 10000; decide), fun r nr => ?_⟩⟩⟩
      have s2 := (same_new (o := .tup [y]) n2).trans (same_new (o := .lst [.ref t1, .ref t2]) nr)
      have s3 := (same_new (o := .tup [x]) n1).trans s2
      exact q r _ _ s3 (((same_new n1).trans (same_new n2)).free nr) upd_same (.cons ⟨t1, _, rfl, TS.of (K := K) s2 _ _ (SqT.of upd_same), .cons (u1.mono (TS.of s3)) .nil⟩ (.cons ⟨t2, _, rfl, TS.of (K := K) (same_new nr) _ _ (SqT.of upd_same), .cons (u2.mono (TS.of s3)) .nil⟩ .nil))
    | more p1 =>
      have hv' : PAt K H (.more p1) v := hv
      obtain ⟨a, x, rfl, ht, u1⟩ := hv
      refine ⟨_, rfl, a, _, _, rfl, ht, .inr ⟨.inl (by decide +kernel), a, _, _, rfl, ht, .inr ⟨.inl (by decide +kernel), a, _, _, rfl, ht, .inl ⟨rfl, rfl, x, rfl, ?_⟩⟩⟩⟩
      refine ⟨_, rfl, _, rfl, sz (by show 2 ≤ 10000; decide), fun t1 n1 => ⟨Nat.zero_le _, fun t2 n2 => ⟨sz (by show 2 ≤ 10000; decide), fun r nr => ?_⟩⟩⟩
      have s2 := (same_new (o := .tup []) n2).trans (same_new (o := .lst [.ref t1, .ref t2]) nr)
      have s3 := (same_new (o := .tup [x, .ref a]) n1).trans s2
      exact q r _ _ s3 (((same_new n1).trans (same_new n2)).free nr) upd_same (.cons ⟨t1, _, rfl, TS.of (K := K) s2 _ _ (SqT.of upd_same), .cons (u1.mono (TS.of s3)) (.cons (hv'.mono (TS.of s3)) .nil)⟩ (.cons ⟨t2, _, rfl, TS.of (K := K) (same_new nr) _ _ (SqT.of upd_same), .nil⟩ .nil))
    | less p1 =>
      have hv' : PAt K H (.less p1) v := hv
      obtain ⟨a, x, rfl, ht, u1⟩ := hv
      refine ⟨_, rfl, a, _, _, rfl, ht, .inr ⟨.inl (by decide +kernel), a, _, _, rfl, ht, .inr ⟨.inl (by decide +kernel), a, _, _, rfl, ht, .inr ⟨.inl (by decide +kernel), a, _, _, rfl, ht, .inl ⟨rfl, rfl, x, rfl, ?_⟩⟩⟩⟩⟩
      refine ⟨Nat.zero_le _, fun t1 n1 => ⟨_, rfl, _, rfl, sz (by show 2 ≤ 10000; decide), fun t2 n2 => ⟨sz (by show 2 ≤ 10000; decide), fun r nr => ?_⟩⟩⟩
      have s2 := (same_new (o := .tup [x, .ref a]) n2).trans (same_new (o := .lst [.ref t1, .ref t2]) nr)
      have s3 := (same_new (o := .tup []) n1).trans s2
      exact q r _ _ s3 (((same_new n1).trans (same_new n2)).free nr) upd_same (.cons ⟨t1, _, rfl, TS.of (K := K) s2 _ _ (SqT.of upd_same), .nil⟩ (.cons ⟨t2, _, rfl, TS.of (K := K) (same_new nr) _ _ (SqT.of upd_same), .cons (u1.mono (TS.of s3)) (.cons (hv'.mono (TS.of s3)) .nil)⟩ .nil))
    | group n p1 =>
      obtain ⟨a, x, rfl, hn, ht, u1⟩ := hv
      refine ⟨_, rfl, a, _, _, rfl, ht, .inr ⟨.inl (by decide +kernel), a, _, _, rfl, ht, .inr ⟨.inl (by decide +kernel), a, _, _, rfl, ht, .inr ⟨.inl (by decide +kernel), a, _, _, rfl, ht, .inr ⟨.inl (by decide +kernel), a, _, _, rfl, ht, .inl ⟨rfl, rfl, .int n, x, rfl, ?_⟩⟩⟩⟩⟩⟩
      refine ⟨_, rfl, _, rfl, sz (by show 2 ≤ 10000; decide), fun t1 n1 => ⟨sz (by show 2 ≤ 10000; decide), fun t2 n2 => ⟨sz (by show 1 ≤ 10000; decide), fun r nr => ?_⟩⟩⟩
      have s2 := (same_new (o := .tup [x, .ref t1]) n2).trans (same_new (o := .lst [.ref t2]) nr)
      have s3 := (same_new (o := .tup [.str "close", .int n]) n1).trans s2
      exact q r _ _ s3 (((same_new n1).trans (same_new n2)).free nr) upd_same (.cons ⟨t2, _, rfl, TS.of (K := K) (same_new nr) _ _ (SqT.of upd_same), .cons (u1.mono (TS.of s3)) (.cons ⟨t1, rfl, TS.of (K := K) s2 _ _ (SqT.of upd_same)⟩ .nil)⟩ .nil)
    | sign c =>
      obtain ⟨a, ws, rfl, ht, _⟩ := PAt.node hv
      refine ⟨_, rfl, a, _, _, rfl, ht, .inr ⟨.inl (show ("sign" : Str) ≠ "row" by decide +kernel), a, _, _, rfl, ht, .inr ⟨.inl (show ("sign" : Str) ≠ "or" by decide +kernel), a, _, _, rfl, ht, .inr ⟨.inl (show ("sign" : Str) ≠ "more" by decide +kernel), a, _, _, rfl, ht, .inr ⟨.inl (show ("sign" : Str) ≠ "less" by decide +kernel), a, _, _, rfl, ht, .inr ⟨.inl (show ("sign" : Str) ≠ "group" by decide +kernel), ?_⟩⟩⟩⟩⟩⟩
      refine ⟨Nat.zero_le _, fun t1 n1 => ⟨sz (by show 1 ≤ 10000; decide), fun r nr => ?_⟩⟩
      exact q r _ _ ((same_new n1).trans (same_new nr)) ((same_new n1).free nr) upd_same (.cons ⟨t1, [], rfl, TS.of (K := K) (same_new nr) _ _ (SqT.of upd_same), .nil⟩ .nil)
    | _ =>
      obtain ⟨a, ws, rfl, ht, _⟩ := PAt.node hv
      refine ⟨_, rfl, a, _, _, rfl, ht, .inr ⟨.inl (by decide +kernel), a, _, _, rfl, ht, .inr ⟨.inl (by decide +kernel), a, _, _, rfl, ht, .inr ⟨.inl (by decide +kernel), a, _, _, rfl, ht, .inr ⟨.inl (by decide +kernel), a, _, _, rfl, ht, .inr ⟨.inl (by decide +kernel), ?_⟩⟩⟩⟩⟩⟩
      refine ⟨Nat.zero_le _, fun t1 n1 => ⟨sz (by show 1 ≤ 10000; decide), fun r nr => ?_⟩⟩
      exact q r _ _ ((same_new n1).trans (same_new nr)) ((same_new n1).free nr) upd_same (.cons ⟨t1, [], rfl, TS.of (K := K) (same_new nr) _ _ (SqT.of upd_same), .nil⟩ .nil)

end
end G1

set_option maxRecDepth 100000
set_option maxHeartbeats 4000000
namespace G1
open PySem PySem.Spec PyProof.Rows L2 Gm
section
variable {P : Program} {w : World} {K : PySem.W.Frag} {mg : Str → Option Value} {base : Heap}
def sp_onward (K : PySem.W.Frag) : Sp := fun vs H Q _ => ∃ (x : Sta) (v : V) (z : Str), vs = [v, .str z] ∧ SAt K H x v ∧ x.1.length ≤ 1000 ∧ x.2 ≤ z.length ∧ z.length ≤ 1000 ∧
  ∀ (r : Addr) (ws : List V) (H' : Hp), Same H H' → H r = none → H' r = some (.lst ws) → SAts K H' (step z.cps.toList x) ws → Q (.ref r) H'
theorem str_len (z : Str) : z.cps.toList.length = z.length := by simp [Str.length]
theorem step_unf {z : List Nat} {t : Th} {r : List Th} {k : Nat} (h1 : ∀ c, t ≠ .pat (.sign c)) (h2 : t ≠ .pat .any) : step z (t :: r, k) = (unf t).map fun a => (a ++ r, k) := by
  cases t with
  | close n => rfl
  | pat p =>
    cases p with
    | sign c => exact absurd rfl (h1 c)
    | any => exact absurd rfl h2
    | _ => rfl
theorem take_map {α β : Type} {L : List α} {f : α → β} {i : Nat} {x : α} (h : L[i]? = some x) : (L.take (i + 1)).map f = (L.take i).map f ++ [f x] := by
  obtain ⟨h1, h2⟩ := List.getElem?_eq_some_iff.mp h
  rw [← List.take_append_getElem h1, h2, List.map_append]
  rfl
theorem ok_onward (T : Txt w K mg) : FnOk P w K mg base CX0 2 T.f_onward T.fd_onward ["state", "text"] (sp_onward K) := by
  refine T.F_onward.ok sc_onward (fun vs H Q E h => ?_) (fun cdv A outer s H vs Q E hr h => ?_)
  · obtain ⟨x, v, z, rfl, _⟩ := h
    rfl
  obtain ⟨⟨rs, k⟩, v, z, rfl, ⟨a, y, rfl, hs, ⟨b, ts, rfl, hb, pts⟩⟩, hl, hk, hz, q⟩ := h
  refine ⟨_, (pss_cons (ps_asg (pv 0) (pg_tup rfl (pgs_cons (pg_name (i := 2) sc_onward.nd rfl (.inl rfl)) (pgs_cons (pg_name (i := 3) sc_onward.nd rfl (.inr rfl)) pgs_nil))))
  (pss_cons (ps_if (pt_not (pt_truth (pv 2) (by intro _; rfl)))
    (pss_one (ps_ret (pe_lst pa_nil)))
    pss_nil)
  (pss_cons (ps_asg (pe_tup (pa_cons (pe_ix ix_tup (pv 2) pe_int (fun _ _ => rfl)) (pa_cons (pe_slice sl_tupA (pv 2) (po_some pe_int) po_none) pa_nil))) (pg_tup rfl (pgs_cons (pg_name (i := 4) sc_onward.nd rfl (.inl rfl)) (pgs_cons (pg_name (i := 5) sc_onward.nd rfl (.inr rfl)) pgs_nil))))
  (pss_cons (ps_if (pt_cmpR op_in_seq (pe_ix ix_tup (pv 4) pe_int (fun _ _ => rfl)) (pe_tup (pa_cons pe_str (pa_cons pe_str pa_nil))) (by rfl))
    (pss_one (ps_ret (pe_ifExp (pt_val (pe_call (ok__takes T) (hr.mono (by decide)) (by rfl) T.m__takes T.F__takes.kp T.b__takes .nil pass0 (pa_cons (pv 4) (pa_cons (pe_slice sl_str (pv 1) (po_some (pv 3)) (po_some (pe_op op_add (pv 3) pe_int))) pa_nil)))) (pe_lst (pa_cons (pe_tup (pa_cons (pv 5) (pa_cons (pe_op op_add (pv 3) pe_int) pa_nil))) pa_nil)) (pe_lst pa_nil))))
    pss_nil)
  (pss_one (ps_ret (pe_lc (own := [("ahead", 6)]) (g := gName 6) (te := tTup (tCons (tOp (rCatA K) (tVar 6) (tVar 5)) (tCons (tVar 3) tNil))) rfl sc_onward.nd (pi_list (pe_call (ok__unfolded T) (hr.mono (by decide)) (by rfl) T.m__unfolded T.F__unfolded.kp T.b__unfolded .nil pass0 (pa_cons (pv 4) pa_nil))) (blkOk_by (own := [("ahead", 6)]) (N := N_onward) (sc := defScope s_onward) (by decide +kernel)) (fun _ _ _ _ _ => by exact (pg_name (i := 6) sc_onward.nd rfl (.inl rfl))) (fun _ _ _ _ _ => by exact pts_nil) (fun _ _ _ _ _ => by exact (pe_tup (pa_cons (pe_op op_catA (pv 6) (pv 5)) (pa_cons (pv 3) pa_nil))))))))))), ?_⟩
  refine ⟨_, rfl, a, _, rfl, hs, rfl, _, _, rfl, _, _, rfl, rfl, ?_⟩
  cases pts with
  | nil =>
    refine ⟨_, rfl, false, .inr (.inl ⟨_, hb, rfl⟩), iteT ?_⟩
    exact ⟨Nat.zero_le _, fun r nr => q r _ _ (same_new nr) nr upd_same .nil⟩
  | @cons t tv R vR ht pR =>
    refine ⟨_, rfl, true, .inr (.inl ⟨_, hb, rfl⟩), iteF ?_⟩
    refine ⟨_, rfl, _, _, _, _, rfl, rfl, hb, at0 rfl, _, rfl, _, rfl, b, _, rfl, hb, fun h => absurd h (not_whole _ _), fun _ bb nbb => ?_⟩
    rw [cut_tail]
    refine ⟨sz (by show 2 ≤ 10000; decide), fun tp ntp => ⟨tp, _, rfl, SqT.of upd_same, rfl, _, _, rfl, _, _, rfl, rfl, ?_⟩⟩
    have s2 := (same_new (o := .tup vR) nbb).trans (same_new (o := .tup [tv, .ref bb]) ntp)
    have hbb : SqT K (upd (upd H bb (.tup vR)) tp (.tup [tv, .ref bb])) bb vR := TS.of (K := K) (same_new ntp) _ _ (SqT.of upd_same)
    obtain ⟨c, ws, rfl, hc⟩ := TAt.node ht
    have hc2 := TS.of (K := K) s2 _ _ hc
    have ht2 := ht.mono (TS.of (K := K) s2)
    have pR2 := TAts.mono (TS.of (K := K) s2) pR
    refine ⟨_, rfl, _, _, _, _, rfl, rfl, hc2, at0 rfl, sz (by show 2 ≤ 10000; decide), fun t1 n1 => ⟨_, _, rfl, .inr (SqT.of upd_same), rfl, rfl, _, rfl, ?_⟩⟩
    have s3 := s2.trans (same_new (o := .tup [.str "sign", .str "any"]) n1)
    have s23 := same_new (o := .tup [.str "sign", .str "any"]) n1
    have lR : R.length = vR.length := Paired.length pR
    rw [List.length_cons] at hl
    have gone : (∃ p, t = .pat p ∧ (p = .any ∨ ∃ c, p = .sign c)) ∨ ((∀ c, t ≠ .pat (.sign c)) ∧ t ≠ .pat .any ∧ ¬ (tnm t = "sign" ∨ tnm t = "any")) := by
      cases t with
      | close n => exact .inr ⟨fun c e => (nomatch e), fun e => (nomatch e), show ¬ (("close" : Str) = "sign" ∨ ("close" : Str) = "any") by decide +kernel⟩
      | pat p =>
        cases p with
        | sign c => exact .inl ⟨_, rfl, .inr ⟨c, rfl⟩⟩
        | any => exact .inl ⟨_, rfl, .inl rfl⟩
        | none => exact .inr ⟨fun c e => (nomatch e), fun e => (nomatch e), show ¬ (("none" : Str) = "sign" ∨ ("none" : Str) = "any") by decide +kernel⟩
        | row p q => exact .inr ⟨fun c e => (nomatch e), fun e => (nomatch e), show ¬ (("row" : Str) = "sign" ∨ ("row" : Str) = "any") by decide +kernel⟩
        | or p q => exact .inr ⟨fun c e => (nomatch e), fun e => (nomatch e), show ¬ (("or" : Str) = "sign" ∨ ("or" : Str) = "any") by decide +kernel⟩
        | more p => exact .inr ⟨fun c e => (nomatch e), fun e => (nomatch e), show ¬ (("more" : Str) = "sign" ∨ ("more" : Str) = "any") by decide +kernel⟩
        | less p => exact .inr ⟨fun c e => (nomatch e), fun e => (nomatch e), show ¬ (("less" : Str) = "sign" ∨ ("less" : Str) = "any") by decide +kernel⟩
        | group n p => exact .inr ⟨fun c e => (nomatch e), fun e => (nomatch e), show ¬ (("group" : Str) = "sign" ∨ ("group" : Str) = "any") by decide +kernel⟩
    rw [inV2]
    rcases gone with ⟨p, rfl, hp⟩ | ⟨g1, g2, g3⟩
    · have ey : tnm (.pat p) = "sign" ∨ tnm (.pat p) = "any" := by
        rcases hp with rfl | ⟨c, rfl⟩
        · exact .inr rfl
        · exact .inl rfl
      refine ite2 (fun _ => ?_) (fun e => absurd (decide_eq_true ey) e)
      refine ⟨_, rfl, _, rfl, _, rfl, _, rfl, _, rfl, _, _, rfl, rfl, _, rfl, z, rfl, sz (by omega), ?_⟩
      rw [cut_one]
      refine ⟨p, _, _, rfl, (ht.mono (TS.of s3)), hp, _, rfl, ?_⟩
      have sp : (takes p ⟨((z.cps.toList[k]?).toList).toArray⟩ = true ∧ step z.cps.toList (.pat p :: R, k) = [(R, k + 1)]) ∨ (takes p ⟨((z.cps.toList[k]?).toList).toArray⟩ = false ∧ step z.cps.toList (.pat p :: R, k) = []) := by
        rcases hp with rfl | ⟨c0, rfl⟩
        · show ((!decide (V.str _ = V.str "")) = true ∧ (if k < z.cps.toList.length then [(R, k + 1)] else []) = [(R, k + 1)]) ∨ ((!decide (V.str _ = V.str "")) = false ∧ (if k < z.cps.toList.length then [(R, k + 1)] else [] : List Sta) = [])
          by_cases h : k < z.cps.toList.length
          · left
            rw [if_pos h, List.getElem?_eq_getElem h]
            refine ⟨?_, rfl⟩
            rw [decide_eq_false]
            · rfl
            · intro e
              have e' := congrArg (fun s : Str => s.cps.size) (V.str.inj e)
              exact absurd e' (by show ¬ (1 = 0); decide)
          · right
            rw [if_neg h, List.getElem?_eq_none (by omega)]
            exact ⟨rfl, rfl⟩
        · show (decide (V.str _ = V.str ⟨#[c0]⟩) = true ∧ (if z.cps.toList[k]? = some c0 then [(R, k + 1)] else []) = [(R, k + 1)]) ∨ (decide (V.str _ = V.str ⟨#[c0]⟩) = false ∧ (if z.cps.toList[k]? = some c0 then [(R, k + 1)] else [] : List Sta) = [])
          by_cases h : z.cps.toList[k]? = some c0
          · left
            rw [if_pos h, h]
            exact ⟨decide_eq_true rfl, rfl⟩
          · right
            rw [if_neg h]
            refine ⟨decide_eq_false fun e => h ?_, rfl⟩
            have e' := congrArg (fun s : Str => s.cps.toList) (V.str.inj e)
            cases ez : z.cps.toList[k]? with
            | none =>
              rw [ez] at e'
              exact absurd e' (by simp)
            | some d =>
              rw [ez] at e'
              simp at e'
              rw [e']
      rcases sp with ⟨e1, e2⟩ | ⟨e1, e2⟩
      · rw [e1]
        refine iteT ?_
        refine ⟨_, rfl, _, rfl, _, _, rfl, rfl, sz (by show 2 ≤ 10000; decide), fun t2 n2 => ⟨sz (by show 1 ≤ 10000; decide), fun r nr => ?_⟩⟩
        have s5 := s23.trans ((same_new (o := .tup [.ref bb, .int ((k : Int) + 1)]) n2).trans (same_new (o := .lst [.ref t2]) nr))
        refine q r _ _ (s2.trans s5) (s3.free ((same_new n2).free nr)) upd_same ?_
        rw [e2]
        refine .cons ⟨t2, .ref bb, rfl, ?_, bb, vR, rfl, TS.of (K := K) s5 _ _ hbb, TAts.mono (TS.of (K := K) s5) pR2⟩ .nil
        exact TS.of (K := K) (same_new nr) _ _ (SqT.of upd_same)
      · rw [e1]
        refine iteF ?_
        refine ⟨Nat.zero_le _, fun r nr => ?_⟩
        refine q r _ _ (s3.trans (same_new nr)) (s3.free nr) upd_same ?_
        rw [e2]
        exact .nil
    · refine ite2 (fun e => absurd (of_decide_eq_true e) g3) (fun _ => ?_)
      refine ⟨_, rfl, t, _, rfl, ht.mono (TS.of s3), fun lu us H4 s4 nu hu pu => ⟨lu, rfl, ⟨_, SqL.of hu⟩, fun D nD => ?_⟩⟩
      have s34 := s23.trans s4
      refine lc_list (K := K) (a := lu) (xs := us) (fun i H' => Same H4 H' ∧ ∃ acc, H' D = some (.lst acc) ∧ SAts K H' (((unf t).take i).map fun a => ((a ++ R, k) : Sta)) acc ∧ acc.length ≤ i) ⟨same_new nD, [], upd_same, .nil, Nat.le_refl _⟩ (fun j H' _ hI => SqL.of (hI.1 _ _ hu)) ?_ ?_
      · rintro i v' H5 hi ⟨s5, acc, hD, pa, la⟩
        obtain ⟨l, hl', ⟨bl, vl, rfl, hbl, pl⟩⟩ := Paired.at pu hi
        have lu2 : (unf t).length = us.length := Paired.length pu
        have li : i < us.length := (List.getElem?_eq_some_iff.mp hi).1
        have hul : (unf t).length ≤ 2 := by
          cases t with
          | close n => exact Nat.le_succ _
          | pat p => cases p <;> simp [unf]
        have ll : l.length ≤ 2 := (unf_gd (Nat.le_refl _) l (List.mem_of_getElem? hl')).2
        have lvl : l.length = vl.length := Paired.length pl
        refine ⟨rfl, yes_if ?_⟩
        refine ⟨_, rfl, _, rfl, ?_⟩
        have sA := s34.trans s5
        refine r_catA (TS.of (K := K) s5 _ _ hbl) (TS.of (K := K) sA _ _ hbb) (sz (by omega)) (fun cc H6 s6 hcc => ?_)
        refine ⟨_, rfl, sz (by show 2 ≤ 10000; decide), fun t2 n2 => ?_⟩
        have s56 := s6.trans (same_new (o := .tup [.ref cc, .int (k : Int)]) n2)
        refine ⟨acc, s56 _ _ hD, szl (by omega), ?_⟩
        have hD7 := s56 _ _ hD
        have nDt2 : H4 D = none := nD
        refine ⟨Same.mut (s5.trans s56) nD, acc ++ [.ref t2], upd_same, ?_, by rw [List.length_append, List.length_singleton]; omega⟩
        rw [take_map hl']
        have t67 : TS K H6 _ := (TS.new (K := K) (o := .tup [.ref cc, .int (k : Int)]) n2).trans (TS.lst (K := K) (ys := acc ++ [.ref t2]) hD7)
        refine Paired.snoc (SAts.mono ((TS.of s56).trans (TS.lst hD7)) pa) ⟨t2, .ref cc, rfl, TS.lst hD7 _ _ (SqT.of upd_same), cc, _, rfl, t67 _ _ hcc, ?_⟩
        exact Paired.app (TAts.mono ((TS.of (s5.trans s6)).trans t67) pl) (TAts.mono ((TS.of (sA.trans s6)).trans t67) pR2)
      · rintro H5 ⟨s5, acc, hD, pa, la⟩
        have lu2 : (unf t).length = us.length := Paired.length pu
        rw [← lu2, List.take_length] at pa
        refine q D acc H5 (s2.trans (s34.trans s5)) ((s2.trans s34).free nD) hD ?_
        rw [step_unf g1 g2]
        exact pa

end
end G1

set_option maxRecDepth 100000
set_option maxHeartbeats 4000000
namespace G1
open PySem PySem.Spec PyProof.Rows L2 Gm
section
variable {P : Program} {w : World} {K : PySem.W.Frag} {mg : Str → Option Value} {base : Heap}
theorem SAt.mk {H : Hp} {c t : Addr} {r : List Th} {k : Nat} {vs : List V} (n : H t = none) (h : SqT K H c vs) (p : TAts K H r vs) : SAt K (upd H t (.tup [.ref c, .int (k : Int)])) (r, k) (.ref t) :=
  ⟨t, .ref c, rfl, SqT.of upd_same, c, vs, rfl, TS.new n _ _ h, TAts.mono (TS.new n) p⟩
def sp_due (K : PySem.W.Frag) : Sp := fun vs H Q _ => ∃ (R : List Th) (v : V) (k : Nat) (z : Str), vs = [v, .int (k : Int), .str z] ∧ RAt K H R v ∧ R.length ≤ 1000 ∧ k ≤ z.length ∧ z.length ≤ 1000 ∧
  ∀ (r : Addr) (ws : List V) (H' : Hp), Same H H' → H r = none → H' r = some (.lst ws) → SAts K H' (step z.cps.toList (R, k)) ws → Q (.ref r) H'
theorem ok__law_due (T : Txt w K mg) : FnOk P w K mg base CX0 1 T.f__law_due T.fd__law_due ["_law_rest", "_law_place", "_law_text"] (sp_due K) := by
  refine T.F__law_due.ok sc__law_due (fun vs H Q E h => ?_) (fun cdv A outer s H vs Q E hr h => ?_)
  · obtain ⟨R, v, k, z, rfl, _⟩ := h
    rfl
  obtain ⟨rs, v, k, z, rfl, ⟨b, ts, rfl, hb, pts⟩, hl, hk, hz, q⟩ := h
  refine ⟨_, (pss_cons (ps_if (pt_cmpR op_eq (pe_callB call_len_seq (by rfl) T.n_len PySem.boot_len (pa_cons (pv 0) pa_nil)) pe_int (nomark _))
    (pss_one (ps_ret (pe_lst pa_nil)))
    pss_nil)
  (pss_cons (ps_set (i := 3) sc__law_due.nd rfl (.inl rfl) (pe_ix ix_tup (pv 0) pe_int (fun _ _ => rfl)))
  (pss_cons (ps_set (i := 4) sc__law_due.nd rfl (.inl rfl) (pe_slice sl_tupA (pv 0) (po_some pe_int) po_none))
  (pss_cons (ps_if (PW.pt (pw_or (pt_cmpR op_eq (pe_ix ix_tup (pv 3) pe_int (fun _ _ => rfl)) pe_str (nomark _)) (pw_or1 (pt_cmpR op_eq (pe_ix ix_tup (pv 3) pe_int (fun _ _ => rfl)) pe_str (nomark _)))))
    (pss_cons (ps_if (PW.pt (pw_or (pt_cmpR op_eq (pv 1) (pe_callB call_len (by rfl) T.n_len PySem.boot_len (pa_cons (pv 2) pa_nil)) (nomark _)) (pw_or1 (PW.pt (pw_and (pt_cmpR op_eq (pe_ix ix_tup (pv 3) pe_int (fun _ _ => rfl)) pe_str (nomark _)) (pw_and1 (pt_cmpR op_ne (pe_ix ix_tup (pv 3) pe_int (fun _ _ => rfl)) (pe_ix ix_str (pv 2) (pv 1) (fun _ _ => rfl)) (nomark _))))))))
    (pss_one (ps_ret (pe_lst pa_nil)))
    pss_nil)
  (pss_one (ps_ret (pe_lst (pa_cons (pe_tup (pa_cons (pv 4) (pa_cons (pe_op op_add (pv 1) pe_int) pa_nil))) pa_nil)))))
    pss_nil)
  (pss_cons (ps_if (pt_cmpR op_eq (pe_ix ix_tup (pv 3) pe_int (fun _ _ => rfl)) pe_str (nomark _))
    (pss_one (ps_ret (pe_lst (pa_cons (pe_tup (pa_cons (pe_op op_catA (pe_tup (pa_cons (pe_ix ix_tup (pv 3) pe_int (fun _ _ => rfl)) (pa_cons (pe_ix ix_tup (pv 3) pe_int (fun _ _ => rfl)) pa_nil))) (pv 4)) (pa_cons (pv 1) pa_nil))) pa_nil))))
    pss_nil)
  (pss_cons (ps_if (pt_cmpR op_eq (pe_ix ix_tup (pv 3) pe_int (fun _ _ => rfl)) pe_str (nomark _))
    (pss_one (ps_ret (pe_lst (pa_cons (pe_tup (pa_cons (pe_op op_catA (pe_tup (pa_cons (pe_ix ix_tup (pv 3) pe_int (fun _ _ => rfl)) pa_nil)) (pv 4)) (pa_cons (pv 1) pa_nil))) (pa_cons (pe_tup (pa_cons (pe_op op_catA (pe_tup (pa_cons (pe_ix ix_tup (pv 3) pe_int (fun _ _ => rfl)) pa_nil)) (pv 4)) (pa_cons (pv 1) pa_nil))) pa_nil)))))
    pss_nil)
  (pss_cons (ps_if (pt_cmpR op_eq (pe_ix ix_tup (pv 3) pe_int (fun _ _ => rfl)) pe_str (nomark _))
    (pss_one (ps_ret (pe_lst (pa_cons (pe_tup (pa_cons (pe_op op_catA (pe_tup (pa_cons (pe_ix ix_tup (pv 3) pe_int (fun _ _ => rfl)) (pa_cons (pv 3) pa_nil))) (pv 4)) (pa_cons (pv 1) pa_nil))) (pa_cons (pe_tup (pa_cons (pv 4) (pa_cons (pv 1) pa_nil))) pa_nil)))))
    pss_nil)
  (pss_cons (ps_if (pt_cmpR op_eq (pe_ix ix_tup (pv 3) pe_int (fun _ _ => rfl)) pe_str (nomark _))
    (pss_one (ps_ret (pe_lst (pa_cons (pe_tup (pa_cons (pv 4) (pa_cons (pv 1) pa_nil))) (pa_cons (pe_tup (pa_cons (pe_op op_catA (pe_tup (pa_cons (pe_ix ix_tup (pv 3) pe_int (fun _ _ => rfl)) (pa_cons (pv 3) pa_nil))) (pv 4)) (pa_cons (pv 1) pa_nil))) pa_nil)))))
    pss_nil)
  (pss_cons (ps_if (pt_cmpR op_eq (pe_ix ix_tup (pv 3) pe_int (fun _ _ => rfl)) pe_str (nomark _))
    (pss_one (ps_ret (pe_lst (pa_cons (pe_tup (pa_cons (pe_op op_catA (pe_tup (pa_cons (pe_ix ix_tup (pv 3) pe_int (fun _ _ => rfl)) (pa_cons (pe_tup (pa_cons pe_str (pa_cons (pe_ix ix_tup (pv 3) pe_int (fun _ _ => rfl)) pa_nil))) pa_nil))) (pv 4)) (pa_cons (pv 1) pa_nil))) pa_nil))))
    pss_nil)
  (pss_one (ps_ret (pe_lst (pa_cons (pe_tup (pa_cons (pv 4) (pa_cons (pv 1) pa_nil))) pa_nil))))))))))))), ?_⟩
  refine ⟨_, rfl, b, _, rfl, .inr hb, rfl, _, rfl, ?_⟩
  cases pts with
  | nil =>
    refine iteT ?_
    exact ⟨Nat.zero_le _, fun r nr => q r _ _ (same_new nr) nr upd_same .nil⟩
  | @cons t tv R vR ht pR =>
    refine ite2 (fun c => ?_) (fun _ => ?_)
    · have c' := V.int.inj (of_decide_eq_true c)
      rw [List.length_cons] at c'
      omega
    have lR : R.length = vR.length := Paired.length pR
    rw [List.length_cons] at hl
    refine ⟨_, rfl, _, _, _, _, rfl, rfl, hb, at0 rfl, ?_⟩
    refine ⟨_, rfl, _, rfl, b, _, rfl, hb, fun h => absurd h (not_whole _ _), fun _ bb nbb => ?_⟩
    rw [cut_tail]
    have s1 := same_new (o := .tup vR) nbb
    have hbb : SqT K (upd H bb (.tup vR)) bb vR := SqT.of upd_same
    have ht1 := ht.mono (TS.of (K := K) s1)
    have pR1 := TAts.mono (TS.of (K := K) s1) pR
    generalize upd H bb (.tup vR) = H1 at s1 hbb ht1 pR1
    have beh : ∀ {H2 : Hp} {t2 : Addr} {k' : Nat}, Same H1 H2 → (n2 : H2 t2 = none) → SAt K (upd H2 t2 (.tup [.ref bb, .int (k' : Int)])) (R, k') (.ref t2) := fun s2 n2 =>
      SAt.mk n2 (TS.of (K := K) s2 _ _ hbb) (TAts.mono (TS.of s2) pR1)
    cases t with
    | close n =>
      obtain ⟨c, rfl, hc⟩ := ht1
      refine ⟨_, rfl, _, _, _, _, rfl, rfl, hc, at0 rfl, rfl, _, rfl, iteF ?_⟩
      refine ⟨_, rfl, _, _, _, _, rfl, rfl, hc, at0 rfl, rfl, _, rfl, iteF ?_⟩
      refine ⟨_, rfl, _, _, _, _, rfl, rfl, hc, at0 rfl, rfl, _, rfl, iteF ?_⟩
      refine ⟨_, rfl, _, _, _, _, rfl, rfl, hc, at0 rfl, rfl, _, rfl, iteF ?_⟩
      refine ⟨_, rfl, _, _, _, _, rfl, rfl, hc, at0 rfl, rfl, _, rfl, iteF ?_⟩
      refine ⟨_, rfl, _, _, _, _, rfl, rfl, hc, at0 rfl, rfl, _, rfl, iteF ?_⟩
      refine ⟨_, rfl, _, _, _, _, rfl, rfl, hc, at0 rfl, rfl, _, rfl, iteF ?_⟩
      refine ⟨_, rfl, _, rfl, sz (by show 2 ≤ 10000; decide), fun t2 n2 => ⟨sz (by show 1 ≤ 10000; decide), fun r nr => ?_⟩⟩
      have s2 := (same_new (o := .tup [.ref bb, .int (k : Int)]) n2).trans (same_new (o := .lst [.ref t2]) nr)
      exact q r _ _ (s1.trans s2) (s1.free ((same_new n2).free nr)) upd_same (.cons ((beh (Same.refl _) n2).mono (TS.new nr)) .nil)
    | pat p =>
      obtain ⟨c, ws, rfl, hc, _⟩ := PAt.node ht1
      cases p with
      | sign c0 =>
        refine ⟨_, rfl, _, _, _, _, rfl, rfl, hc, at0 rfl, rfl, _, rfl, iteT (iteT ?_)⟩
        refine ⟨_, rfl, _, rfl, _, _, rfl, ⟨sz (by omega), rfl⟩, rfl, _, rfl, ?_⟩
        refine ite2 (fun e => ?_) (fun e => ?_)
        · refine iteT ?_
          refine ⟨Nat.zero_le _, fun r nr => q r _ _ (s1.trans (same_new nr)) (s1.free nr) upd_same ?_⟩
          have e' := V.int.inj (of_decide_eq_true e)
          have hn : z.cps.toList[k]? = none := List.getElem?_eq_none (by rw [str_len]; omega)
          show SAts K _ (if z.cps.toList[k]? = some c0 then [(R, k + 1)] else []) []
          rw [hn, if_neg (fun z => nomatch z)]
          exact .nil
        · have e' : (k : Int) ≠ ((z.length : Nat) : Int) := fun h => e (decide_eq_true (by rw [h]))
          have hk' : k < z.cps.toList.length := by
            rw [str_len]
            omega
          refine ⟨_, rfl, _, _, _, _, rfl, rfl, hc, at0 rfl, rfl, _, rfl, iteT ?_⟩
          refine ⟨_, rfl, _, _, _, _, rfl, rfl, hc, at1 rfl, _, rfl, _, rfl, z, _, z.cps.toList[k], rfl, rfl, sz (by omega), atI_nat (List.getElem?_eq_getElem hk'), rfl, _, rfl, ?_⟩
          refine ite2 (fun d => ?_) (fun d => ?_)
          · refine ⟨Nat.zero_le _, fun r nr => q r _ _ (s1.trans (same_new nr)) (s1.free nr) upd_same ?_⟩
            have hne : ¬ z.cps.toList[k]? = some c0 := fun h => by
              rw [List.getElem?_eq_getElem hk'] at h
              have h' := Option.some.inj h
              rw [h'] at d
              exact absurd d (by rw [decide_eq_true rfl]; decide)
            show SAts K _ (if z.cps.toList[k]? = some c0 then [(R, k + 1)] else []) []
            rw [if_neg hne]
            exact .nil
          · have heq : z.cps.toList[k]? = some c0 := by
              rw [List.getElem?_eq_getElem hk']
              have d' : decide (V.str ⟨#[c0]⟩ = V.str ⟨#[z.cps.toList[k]]⟩) = true := by
                cases hd : decide (V.str ⟨#[c0]⟩ = V.str ⟨#[z.cps.toList[k]]⟩) with
                | true => rfl
                | false => exact absurd (by show (!decide (V.str ⟨#[c0]⟩ = V.str ⟨#[z.cps.toList[k]]⟩)) = true; rw [hd]; rfl) d
              have d2 := congrArg (fun s : Str => s.cps.toList) (V.str.inj (of_decide_eq_true d'))
              simp at d2
              rw [d2]
              simp
            refine ⟨_, rfl, _, rfl, _, _, rfl, rfl, sz (by show 2 ≤ 10000; decide), fun t2 n2 => ⟨sz (by show 1 ≤ 10000; decide), fun r nr => ?_⟩⟩
            have s2 := (same_new (o := .tup [.ref bb, .int ((k : Int) + 1)]) n2).trans (same_new (o := .lst [.ref t2]) nr)
            refine q r _ _ (s1.trans s2) (s1.free ((same_new n2).free nr)) upd_same ?_
            show SAts K _ (if z.cps.toList[k]? = some c0 then [(R, k + 1)] else []) [.ref t2]
            rw [if_pos heq]
            exact .cons ((beh (k' := k + 1) (Same.refl _) n2).mono (TS.new nr)) .nil
      | any =>
        refine ⟨_, rfl, _, _, _, _, rfl, rfl, hc, at0 rfl, rfl, _, rfl, iteF ?_⟩
        refine ⟨_, rfl, _, _, _, _, rfl, rfl, hc, at0 rfl, rfl, _, rfl, iteT ?_⟩
        refine ⟨_, rfl, _, rfl, _, _, rfl, ⟨sz (by omega), rfl⟩, rfl, _, rfl, ?_⟩
        refine ite2 (fun e => ?_) (fun e => ?_)
        · refine iteT ?_
          refine ⟨Nat.zero_le _, fun r nr => q r _ _ (s1.trans (same_new nr)) (s1.free nr) upd_same ?_⟩
          have e' := V.int.inj (of_decide_eq_true e)
          show SAts K _ (if k < z.cps.toList.length then [(R, k + 1)] else []) []
          rw [if_neg (by rw [str_len]; omega)]
          exact .nil
        · have e' : (k : Int) ≠ ((z.length : Nat) : Int) := fun h => e (decide_eq_true (by rw [h]))
          refine ⟨_, rfl, _, _, _, _, rfl, rfl, hc, at0 rfl, rfl, _, rfl, iteF (iteF ?_)⟩
          refine ⟨_, rfl, _, rfl, _, _, rfl, rfl, sz (by show 2 ≤ 10000; decide), fun t2 n2 => ⟨sz (by show 1 ≤ 10000; decide), fun r nr => ?_⟩⟩
          have s2 := (same_new (o := .tup [.ref bb, .int ((k : Int) + 1)]) n2).trans (same_new (o := .lst [.ref t2]) nr)
          refine q r _ _ (s1.trans s2) (s1.free ((same_new n2).free nr)) upd_same ?_
          show SAts K _ (if k < z.cps.toList.length then [(R, k + 1)] else []) [.ref t2]
          rw [if_pos (by rw [str_len]; omega)]
          exact .cons ((beh (k' := k + 1) (Same.refl _) n2).mono (TS.new nr)) .nil
      | none =>
        refine ⟨_, rfl, _, _, _, _, rfl, rfl, hc, at0 rfl, rfl, _, rfl, iteF ?_⟩
        refine ⟨_, rfl, _, _, _, _, rfl, rfl, hc, at0 rfl, rfl, _, rfl, iteF ?_⟩
        refine ⟨_, rfl, _, _, _, _, rfl, rfl, hc, at0 rfl, rfl, _, rfl, iteF ?_⟩
        refine ⟨_, rfl, _, _, _, _, rfl, rfl, hc, at0 rfl, rfl, _, rfl, iteF ?_⟩
        refine ⟨_, rfl, _, _, _, _, rfl, rfl, hc, at0 rfl, rfl, _, rfl, iteF ?_⟩
        refine ⟨_, rfl, _, _, _, _, rfl, rfl, hc, at0 rfl, rfl, _, rfl, iteF ?_⟩
        refine ⟨_, rfl, _, _, _, _, rfl, rfl, hc, at0 rfl, rfl, _, rfl, iteF ?_⟩
        refine ⟨_, rfl, _, rfl, sz (by show 2 ≤ 10000; decide), fun t2 n2 => ⟨sz (by show 1 ≤ 10000; decide), fun r nr => ?_⟩⟩
        have s2 := (same_new (o := .tup [.ref bb, .int (k : Int)]) n2).trans (same_new (o := .lst [.ref t2]) nr)
        exact q r _ _ (s1.trans s2) (s1.free ((same_new n2).free nr)) upd_same (.cons ((beh (Same.refl _) n2).mono (TS.new nr)) .nil)
      | row p1 p2 =>
        obtain ⟨_, x, y, e0, hx, u1, u2⟩ := ht1
        cases e0
        refine ⟨_, rfl, _, _, _, _, rfl, rfl, hx, at0 rfl, rfl, _, rfl, iteF ?_⟩
        refine ⟨_, rfl, _, _, _, _, rfl, rfl, hx, at0 rfl, rfl, _, rfl, iteF ?_⟩
        refine ⟨_, rfl, _, _, _, _, rfl, rfl, hx, at0 rfl, rfl, _, rfl, iteT ?_⟩
        refine ⟨_, rfl, _, _, _, _, rfl, rfl, hx, at1 rfl, _, rfl, _, _, _, _, rfl, rfl, hx, at2 rfl, sz (by show 2 ≤ 10000; decide), fun t1 n1 => ⟨_, rfl, ?_⟩⟩
        have sA := same_new (o := .tup [x, y]) n1
        refine r_catA (SqT.of upd_same) (TS.of (K := K) sA _ _ hbb) (sz (by show 2 + vR.length ≤ 10000; omega)) (fun cc H3 s3 hcc => ?_)
        refine ⟨_, rfl, sz (by show 2 ≤ 10000; decide), fun t2 n2 => ⟨sz (by show 1 ≤ 10000; decide), fun r nr => ?_⟩⟩
        have sB := sA.trans s3
        have s2 := sB.trans ((same_new (o := .tup [.ref cc, .int (k : Int)]) n2).trans (same_new (o := .lst [.ref t2]) nr))
        refine q r _ _ (s1.trans s2) (s1.free (sB.free ((same_new n2).free nr))) upd_same (.cons ((SAt.mk n2 hcc ?_).mono (TS.new nr)) .nil)
        exact .cons (show TAt K H3 (.pat p1) x from u1.mono (TS.of sB)) (.cons (show TAt K H3 (.pat p2) y from u2.mono (TS.of sB)) (TAts.mono (TS.of sB) pR1))
      | or p1 p2 =>
        obtain ⟨_, x, y, e0, hx, u1, u2⟩ := ht1
        cases e0
        refine ⟨_, rfl, _, _, _, _, rfl, rfl, hx, at0 rfl, rfl, _, rfl, iteF ?_⟩
        refine ⟨_, rfl, _, _, _, _, rfl, rfl, hx, at0 rfl, rfl, _, rfl, iteF ?_⟩
        refine ⟨_, rfl, _, _, _, _, rfl, rfl, hx, at0 rfl, rfl, _, rfl, iteF ?_⟩
        refine ⟨_, rfl, _, _, _, _, rfl, rfl, hx, at0 rfl, rfl, _, rfl, iteT ?_⟩
        refine ⟨_, rfl, _, _, _, _, rfl, rfl, hx, at1 rfl, sz (by show 1 ≤ 10000; decide), fun t1 n1 => ⟨_, rfl, ?_⟩⟩
        have sA := same_new (o := .tup [x]) n1
        refine r_catA (SqT.of upd_same) (TS.of (K := K) sA _ _ hbb) (sz (by show 1 + vR.length ≤ 10000; omega)) (fun cc H3 s3 hcc => ?_)
        have sB := sA.trans s3
        refine ⟨_, rfl, sz (by show 2 ≤ 10000; decide), fun t2 n2 => ?_⟩
        have sC := sB.trans (same_new (o := .tup [.ref cc, .int (k : Int)]) n2)
        have a1 : SAt K (upd H3 t2 (.tup [.ref cc, .int (k : Int)])) (.pat p1 :: R, k) (.ref t2) := SAt.mk n2 hcc (.cons (show TAt K H3 (.pat p1) x from u1.mono (TS.of sB)) (TAts.mono (TS.of sB) pR1))
        have hxC := TS.of (K := K) sC _ _ hx
        refine ⟨_, rfl, _, _, _, _, rfl, rfl, hxC, at2 rfl, sz (by show 1 ≤ 10000; decide), fun t3 n3 => ⟨_, rfl, ?_⟩⟩
        have sD := sC.trans (same_new (o := .tup [y]) n3)
        refine r_catA (SqT.of upd_same) (TS.of (K := K) sD _ _ hbb) (sz (by show 1 + vR.length ≤ 10000; omega)) (fun cc2 H5 s5 hcc2 => ?_)
        have sE := sD.trans s5
        refine ⟨_, rfl, sz (by show 2 ≤ 10000; decide), fun t4 n4 => ⟨sz (by show 2 ≤ 10000; decide), fun r nr => ?_⟩⟩
        have sF := (same_new (o := .tup [.ref cc2, .int (k : Int)]) n4).trans (same_new (o := .lst [.ref t2, .ref t4]) nr)
        refine q r _ _ (s1.trans (sE.trans sF)) (s1.free (sE.free ((same_new n4).free nr))) upd_same (.cons (a1.mono (TS.of ((same_new (o := .tup [y]) n3).trans (s5.trans sF)))) (.cons ((SAt.mk n4 hcc2 ?_).mono (TS.new nr)) .nil))
        exact .cons (show TAt K H5 (.pat p2) y from u2.mono (TS.of sE)) (TAts.mono (TS.of sE) pR1)
      | more p1 =>
        have hm : TAt K H1 (.pat (.more p1)) (.ref c) := ht1
        obtain ⟨_, x, e0, hx, u1⟩ := ht1
        cases e0
        refine ⟨_, rfl, _, _, _, _, rfl, rfl, hx, at0 rfl, rfl, _, rfl, iteF ?_⟩
        refine ⟨_, rfl, _, _, _, _, rfl, rfl, hx, at0 rfl, rfl, _, rfl, iteF ?_⟩
        refine ⟨_, rfl, _, _, _, _, rfl, rfl, hx, at0 rfl, rfl, _, rfl, iteF ?_⟩
        refine ⟨_, rfl, _, _, _, _, rfl, rfl, hx, at0 rfl, rfl, _, rfl, iteF ?_⟩
        refine ⟨_, rfl, _, _, _, _, rfl, rfl, hx, at0 rfl, rfl, _, rfl, iteT ?_⟩
        refine ⟨_, rfl, _, _, _, _, rfl, rfl, hx, at1 rfl, _, rfl, sz (by show 2 ≤ 10000; decide), fun t1 n1 => ⟨_, rfl, ?_⟩⟩
        have sA := same_new (o := .tup [x, .ref c]) n1
        refine r_catA (SqT.of upd_same) (TS.of (K := K) sA _ _ hbb) (sz (by show 2 + vR.length ≤ 10000; omega)) (fun cc H3 s3 hcc => ?_)
        have sB := sA.trans s3
        refine ⟨_, rfl, sz (by show 2 ≤ 10000; decide), fun t2 n2 => ?_⟩
        have sC := sB.trans (same_new (o := .tup [.ref cc, .int (k : Int)]) n2)
        have a1 : SAt K (upd H3 t2 (.tup [.ref cc, .int (k : Int)])) (.pat p1 :: .pat (.more p1) :: R, k) (.ref t2) := SAt.mk n2 hcc (.cons (show TAt K H3 (.pat p1) x from u1.mono (TS.of sB)) (.cons (hm.mono (TS.of sB)) (TAts.mono (TS.of sB) pR1)))
        refine ⟨_, rfl, _, rfl, sz (by show 2 ≤ 10000; decide), fun t4 n4 => ⟨sz (by show 2 ≤ 10000; decide), fun r nr => ?_⟩⟩
        have sF := (same_new (o := .tup [.ref bb, .int (k : Int)]) n4).trans (same_new (o := .lst [.ref t2, .ref t4]) nr)
        exact q r _ _ (s1.trans (sC.trans sF)) (s1.free (sC.free ((same_new n4).free nr))) upd_same (.cons (a1.mono (TS.of sF)) (.cons ((beh sC n4).mono (TS.new nr)) .nil))
      | less p1 =>
        have hm : TAt K H1 (.pat (.less p1)) (.ref c) := ht1
        obtain ⟨_, x, e0, hx, u1⟩ := ht1
        cases e0
        refine ⟨_, rfl, _, _, _, _, rfl, rfl, hx, at0 rfl, rfl, _, rfl, iteF ?_⟩
        refine ⟨_, rfl, _, _, _, _, rfl, rfl, hx, at0 rfl, rfl, _, rfl, iteF ?_⟩
        refine ⟨_, rfl, _, _, _, _, rfl, rfl, hx, at0 rfl, rfl, _, rfl, iteF ?_⟩
        refine ⟨_, rfl, _, _, _, _, rfl, rfl, hx, at0 rfl, rfl, _, rfl, iteF ?_⟩
        refine ⟨_, rfl, _, _, _, _, rfl, rfl, hx, at0 rfl, rfl, _, rfl, iteF ?_⟩
        refine ⟨_, rfl, _, _, _, _, rfl, rfl, hx, at0 rfl, rfl, _, rfl, iteT ?_⟩
        refine ⟨_, rfl, _, rfl, sz (by show 2 ≤ 10000; decide), fun t4 n4 => ?_⟩
        have s0 := same_new (o := .tup [.ref bb, .int (k : Int)]) n4
        have a4 := beh (k' := k) (Same.refl _) n4
        have hx0 := TS.of (K := K) s0 _ _ hx
        refine ⟨_, rfl, _, _, _, _, rfl, rfl, hx0, at1 rfl, _, rfl, sz (by show 2 ≤ 10000; decide), fun t1 n1 => ⟨_, rfl, ?_⟩⟩
        have sA := s0.trans (same_new (o := .tup [x, .ref c]) n1)
        refine r_catA (SqT.of upd_same) (TS.of (K := K) sA _ _ hbb) (sz (by show 2 + vR.length ≤ 10000; omega)) (fun cc H3 s3 hcc => ?_)
        have sB := sA.trans s3
        refine ⟨_, rfl, sz (by show 2 ≤ 10000; decide), fun t2 n2 => ⟨sz (by show 2 ≤ 10000; decide), fun r nr => ?_⟩⟩
        have sF := (same_new (o := .tup [.ref cc, .int (k : Int)]) n2).trans (same_new (o := .lst [.ref t4, .ref t2]) nr)
        refine q r _ _ (s1.trans (sB.trans sF)) (s1.free (sB.free ((same_new n2).free nr))) upd_same (.cons (a4.mono (TS.of ((same_new (o := .tup [x, .ref c]) n1).trans (s3.trans sF)))) (.cons ((SAt.mk n2 hcc ?_).mono (TS.new nr)) .nil))
        exact .cons (show TAt K H3 (.pat p1) x from u1.mono (TS.of sB)) (.cons (hm.mono (TS.of sB)) (TAts.mono (TS.of sB) pR1))
      | group n p1 =>
        obtain ⟨_, x, e0, _, hx, u1⟩ := ht1
        cases e0
        refine ⟨_, rfl, _, _, _, _, rfl, rfl, hx, at0 rfl, rfl, _, rfl, iteF ?_⟩
        refine ⟨_, rfl, _, _, _, _, rfl, rfl, hx, at0 rfl, rfl, _, rfl, iteF ?_⟩
        refine ⟨_, rfl, _, _, _, _, rfl, rfl, hx, at0 rfl, rfl, _, rfl, iteF ?_⟩
        refine ⟨_, rfl, _, _, _, _, rfl, rfl, hx, at0 rfl, rfl, _, rfl, iteF ?_⟩
        refine ⟨_, rfl, _, _, _, _, rfl, rfl, hx, at0 rfl, rfl, _, rfl, iteF ?_⟩
        refine ⟨_, rfl, _, _, _, _, rfl, rfl, hx, at0 rfl, rfl, _, rfl, iteF ?_⟩
        refine ⟨_, rfl, _, _, _, _, rfl, rfl, hx, at0 rfl, rfl, _, rfl, iteT ?_⟩
        refine ⟨_, rfl, _, _, _, _, rfl, rfl, hx, at2 rfl, _, rfl, _, _, _, _, rfl, rfl, hx, at1 rfl, sz (by show 2 ≤ 10000; decide), fun t0 n0 => ⟨sz (by show 2 ≤ 10000; decide), fun t1 n1 => ⟨_, rfl, ?_⟩⟩⟩
        have s0 := same_new (o := .tup [.str "close", .int n]) n0
        have sA := s0.trans (same_new (o := .tup [x, .ref t0]) n1)
        refine r_catA (SqT.of upd_same) (TS.of (K := K) sA _ _ hbb) (sz (by show 2 + vR.length ≤ 10000; omega)) (fun cc H3 s3 hcc => ?_)
        have sB := sA.trans s3
        refine ⟨_, rfl, sz (by show 2 ≤ 10000; decide), fun t2 n2 => ⟨sz (by show 1 ≤ 10000; decide), fun r nr => ?_⟩⟩
        have sF := (same_new (o := .tup [.ref cc, .int (k : Int)]) n2).trans (same_new (o := .lst [.ref t2]) nr)
        refine q r _ _ (s1.trans (sB.trans sF)) (s1.free (sB.free ((same_new n2).free nr))) upd_same (.cons ((SAt.mk n2 hcc ?_).mono (TS.new nr)) .nil)
        exact .cons (show TAt K H3 (.pat p1) x from u1.mono (TS.of sB)) (.cons (show TAt K H3 (.close n) (.ref t0) from ⟨t0, rfl, TS.of (K := K) ((same_new (o := .tup [x, .ref t0]) n1).trans s3) _ _ (SqT.of upd_same)⟩) (TAts.mono (TS.of sB) pR1))

end
end G1

set_option maxRecDepth 100000
set_option maxHeartbeats 4000000
namespace G1
open PySem PySem.Spec PyProof.Rows L2 Gm
section
variable {P : Program} {w : World} {K : PySem.W.Frag} {mg : Str → Option Value} {base : Heap}
def sp_bits (K : PySem.W.Frag) : Sp := fun vs H Q _ => ∃ (a : Addr) (ns : List Int), vs = [.ref a] ∧ SqL K H a (ns.map V.int) ∧
  ∀ (r : Addr) (bs : List Int) (H' : Hp), Same H H' → H' r = some (.lst (bs.map V.int)) → bs.length = 40 → Q (.ref r) H'
theorem ok__law_bits (T : Txt w K mg) : FnOk P w K mg base CX0 2 T.f__law_bits T.fd__law_bits ["_law_script"] (sp_bits K) := by
  refine T.F__law_bits.ok sc__law_bits (fun vs H Q E h => ?_) (fun cdv A outer s H vs Q E hr h => ?_)
  · obtain ⟨a, ns, rfl, _⟩ := h
    rfl
  obtain ⟨a, ns, rfl, ha, q⟩ := h
  refine ⟨_, (pss_cons (ps_set (i := 1) sc__law_bits.nd rfl (.inl rfl) (pe_lst pa_nil))
  (pss_cons (ps_for PassesOwn.never rfl (pi_range1 (by rfl) T.n_range (pa_cons pe_int pa_nil)) (pg_name (i := 2) sc__law_bits.nd rfl (.inl rfl))
   (pss_cons (ps_set (i := 3) sc__law_bits.nd rfl (.inl rfl) (pe_call (ok__law_cell_at T) (hr.mono (by decide)) (by rfl) T.m__law_cell_at T.F__law_cell_at.kp T.b__law_cell_at .nil pass0 (pa_cons (pv 0) (pa_cons (pe_op op_add pe_int (pv 2)) pa_nil))))
  (pss_one (ps_for PassesOwn.never rfl (pi_range1 (by rfl) T.n_range (pa_cons pe_int pa_nil)) (pg_name (i := 4) sc__law_bits.nd rfl (.inl rfl))
   (pss_cons (ps_expr (pe_bm PySem.F.plainAttrs_list PySem.F.slot_list_append PySem.F.type_list_append mt_append (pv 1) (pa_cons (pe_op op_mod (pv 3) pe_int) pa_nil)))
  (pss_one (ps_set (i := 3) sc__law_bits.nd rfl (.inl rfl) (pe_op op_fdiv (pv 3) pe_int))))))))
  (pss_one (ps_ret (pv 1))))), ?_⟩
  refine ⟨Nat.zero_le _, fun lb nb => ?_⟩
  refine ⟨_, rfl, by decide, by decide, for_range (lo := 0) (n := 5) (fun i σ H' => ∃ (bs : List Int) (y2 y3 y4 : Option V), σ = [some (.ref a), some (.ref lb), y2, y3, y4] ∧ Same H H' ∧ H' lb = some (.lst (bs.map V.int)) ∧ bs.length = 8 * i)
    ⟨[], none, none, none, rfl, same_new nb, upd_same, rfl⟩ ?_ ?_⟩
  · rintro i σ H1 hi ⟨bs, y2, y3, y4, rfl, s1, hb, lb1⟩
    refine ⟨_, rfl, _, rfl, _, _, rfl, rfl, a, ns, 18 + i, congrArg (fun n => [V.ref a, V.int n]) (by omega), s1.seq ha, ?_⟩
    refine ⟨_, rfl, by decide, by decide, for_range (lo := 0) (n := 8) (fun j σ H' => ∃ (bs : List Int) (c : Int) (y4 : Option V), σ = [some (.ref a), some (.ref lb), some (.int (0 + (i : Int))), some (.int c), y4] ∧ Same H H' ∧ H' lb = some (.lst (bs.map V.int)) ∧ bs.length = 8 * i + j)
      ⟨bs, _, _, rfl, s1, hb, lb1⟩ ?_ ?_⟩
    · rintro j σ H2 hj ⟨bs, c, y4, rfl, s2, hb, lb2⟩
      refine ⟨_, rfl, .inl ⟨rfl, _, SqL.of hb⟩, _, rfl, _, _, rfl, rfl, (by show (0 : Int) < 2; decide), lb, _, _, rfl, rfl, hb, szl (by rw [List.length_map]; omega), ?_⟩
      refine ⟨_, rfl, _, _, rfl, rfl, ⟨by decide, by decide⟩, ?_⟩
      refine ⟨bs ++ [c % 2], _, _, rfl, Same.mut s2 nb, ?_, by rw [List.length_append, List.length_singleton]; omega⟩
      rw [upd_same, List.map_append]
      rfl
    · rintro σ H2 ⟨bs, c, y4, rfl, s2, hb, lb2⟩
      exact ⟨bs, _, _, _, rfl, s2, hb, by omega⟩
  · rintro σ H1 ⟨bs, y2, y3, y4, rfl, s1, hb, lb1⟩
    exact ⟨_, rfl, q lb bs H1 s1 hb lb1⟩
theorem tyx_tup {H : Hp} {a : Addr} {xs : List V} (h : SqT K H a xs) : TyX K H (.ref a) (.type "tuple") := by
  rcases h with (h | ⟨o, h⟩) | ⟨o, its, n, h, c, _⟩
  · exact .base (.tup h)
  · exact .fTuple h
  · exact .kTuple h c
def sp_is_state (K : PySem.W.Frag) : Sp := fun vs H Q _ => ∃ (x : Sta) (v : V), vs = [v] ∧ SAt K H x v ∧ Q (.bl true) H
theorem ok__law_is_state (T : Txt w K mg) : FnOk P w K mg base CX0 1 T.f__law_is_state T.fd__law_is_state ["_law_found"] (sp_is_state K) := by
  refine T.F__law_is_state.ok sc__law_is_state (fun vs H Q E h => ?_) (fun cdv A outer s H vs Q E hr h => ?_)
  · obtain ⟨x, v, rfl, _⟩ := h
    rfl
  obtain ⟨x, v, rfl, ⟨a, y, rfl, hs, ⟨b, ts, rfl, hb, pts⟩⟩, q⟩ := h
  refine ⟨_, (pss_cons (ps_if (PW.pt (pw_or (pt_not (pt_val (pe_callB call_isi (by rfl) T.n_isinstance (by decide +kernel) (pa_cons (pv 0) (pa_cons (pe_bltn (v := .ty "tuple") (by rfl) T.n_tuple (by decide +kernel) rfl) pa_nil))))) (pw_or (pt_cmpR op_ne (pe_callB call_len_seq (by rfl) T.n_len PySem.boot_len (pa_cons (pv 0) pa_nil)) pe_int (nomark _)) (pw_or1 (pt_not (pt_val (pe_callB call_isi (by rfl) T.n_isinstance (by decide +kernel) (pa_cons (pe_ix ix_tup (pv 0) pe_int (fun _ _ => rfl)) (pa_cons (pe_bltn (v := .ty "tuple") (by rfl) T.n_tuple (by decide +kernel) rfl) pa_nil)))))))))
    (pss_one (ps_ret pe_bl))
    pss_nil)
  (pss_one (ps_ret (pe_and (pe_callB call_isi (by rfl) T.n_isinstance (by decide +kernel) (pa_cons (pe_ix ix_tup (pv 0) pe_int (fun _ _ => rfl)) (pa_cons (pe_bltn (v := .ty "int") (by rfl) T.n_int (by decide +kernel) rfl) pa_nil))) (pe_one (pe_not (pe_callB call_isi (by rfl) T.n_isinstance (by decide +kernel) (pa_cons (pe_ix ix_tup (pv 0) pe_int (fun _ _ => rfl)) (pa_cons (pe_bltn (v := .ty "bool") (by rfl) T.n_bool (by decide +kernel) rfl) pa_nil))))))))), ?_⟩
  refine ⟨_, rfl, _, _, _, _, true, rfl, .ty _, tyx_tup hs, kit_ty (by decide +kernel), _, rfl, iteF ?_⟩
  refine ⟨_, rfl, a, _, rfl, .inr hs, rfl, _, rfl, iteF ?_⟩
  refine ⟨_, rfl, _, _, _, _, rfl, rfl, hs, at0 rfl, _, _, _, _, true, rfl, .ty _, tyx_tup hb, kit_ty (by decide +kernel), _, rfl, iteF ?_⟩
  refine ⟨_, rfl, _, _, _, _, rfl, rfl, hs, at1 rfl, _, _, _, _, true, rfl, .ty _, .base (.int _), kit_ty (by decide +kernel), _, rfl, iteT ?_⟩
  refine ⟨_, rfl, _, _, _, _, rfl, rfl, hs, at1 rfl, _, _, _, _, false, rfl, .ty _, .base (.int _), kit_ty (by decide +kernel), _, rfl, q⟩

end
end G1

set_option maxRecDepth 100000
set_option maxHeartbeats 4000000
namespace G1
open PySem PySem.Spec PyProof.Rows L2 Gm
section
variable {P : Program} {w : World} {K : PySem.W.Frag} {mg : Str → Option Value} {base : Heap}
theorem cut_int (ns : List Int) (i j : Nat) : ∃ ns' : List Int, cutV (ns.map V.int) (some (i : Int)) (some (j : Int)) = ns'.map V.int ∧ ns'.length ≤ j - i := by
  unfold cutV
  rw [HT.sIx_nat, HT.sIx_nat]
  refine ⟨(ns.drop (min i (ns.map V.int).length)).take (min j (ns.map V.int).length - min i (ns.map V.int).length), ?_, ?_⟩
  · rw [List.map_take, List.map_drop]
  · rw [List.length_take]
    omega
theorem len_add (z : Str) (c : Nat) : (z ++ (⟨#[c]⟩ : Str)).length = z.length + 1 := by
  show (z.cps ++ #[c]).size = z.cps.size + 1
  simp
theorem some_int {ns : List Int} {i : Nat} {y : V} (h : (ns.map V.int)[i]? = some y) : ∃ c, y = V.int c := by
  rw [List.getElem?_map] at h
  cases e : ns[i]? with
  | none =>
    rw [e] at h
    cases h
  | some u =>
    rw [e] at h
    exact ⟨u, (Option.some.inj h).symm⟩
theorem eqv_nil : PyData.eqv (.list []) (.list []) = true := by simp [PyData.eqv, PyData.eqvAll]
theorem sh_nil : SeqAt.shaped (.list []) = true := shaped_of (lay_list lay_nil) (by simp [PyData.depth, PyData.depthAll])
def spLaw (K : PySem.W.Frag) : Sp := fun vs H Q _ => ∃ (a : Addr) (ns : List Int), vs = [.ref a] ∧ SqL K H a (ns.map V.int) ∧ ns.length ≤ 63 ∧ ∀ H', Q (.bl true) H'
theorem ok_law (T : Txt w K mg) : FnOk P w K mg base CX0 4 T.f_law T.fd_law ["_law_script"] (spLaw K) := by
  refine T.F_law.ok sc_law (fun vs H Q E h => ?_) (fun cdv A outer s H vs Q E hr h => ?_)
  · obtain ⟨a, ns, rfl, _⟩ := h
    rfl
  obtain ⟨a, ns, rfl, ha, h63, q⟩ := h
  refine ⟨_, (pss_cons (ps_set (i := 1) sc_law.nd rfl (.inl rfl) (pe_call (ok__law_cell_at T) (hr.mono (by decide)) (by rfl) T.m__law_cell_at T.F__law_cell_at.kp T.b__law_cell_at .nil pass0 (pa_cons (pv 0) (pa_cons pe_int pa_nil))))
  (pss_cons (ps_set (i := 2) sc_law.nd rfl (.inl rfl) (pe_call (ok__law_made T) (hr.mono (by decide)) (by rfl) T.m__law_made T.F__law_made.kp T.b__law_made .nil pass0 (pa_cons (pe_slice sl_list (pv 0) (po_some pe_int) (po_some pe_int)) (pa_cons (pv 1) pa_nil))))
  (pss_cons (ps_set (i := 3) sc_law.nd rfl (.inl rfl) (pe_call (ok__law_cell_at T) (hr.mono (by decide)) (by rfl) T.m__law_cell_at T.F__law_cell_at.kp T.b__law_cell_at .nil pass0 (pa_cons (pv 0) (pa_cons pe_int pa_nil))))
  (pss_cons (ps_set (i := 4) sc_law.nd rfl (.inl rfl) pe_str)
  (pss_cons (ps_set (i := 5) sc_law.nd rfl (.inl rfl) (pe_op op_fdiv (pv 3) pe_int))
  (pss_cons (ps_for PassesOwn.never rfl (pi_range1 (by rfl) T.n_range (pa_cons (pe_op op_mod (pv 3) pe_int) pa_nil)) (pg_name (i := 6) sc_law.nd rfl (.inl rfl))
   (pss_cons (ps_set (i := 4) sc_law.nd rfl (.inl rfl) (pe_op op_add_str (pv 4) (pe_call (ok__law_sign T) (hr.mono (by decide)) (by rfl) T.m__law_sign T.F__law_sign.kp T.b__law_sign .nil pass0 (pa_cons (pe_ix ix_list (pe_lst (pa_cons (pv 1) (pa_cons (pe_op op_fdiv (pv 1) pe_int) (pa_cons (pv 1) (pa_cons (pe_op op_fdiv (pv 5) pe_int) pa_nil))))) (pe_op op_mod (pv 5) pe_int) (fun _ _ => rfl)) pa_nil))))
  (pss_one (ps_set (i := 5) sc_law.nd rfl (.inl rfl) (pe_op op_fdiv (pv 5) pe_int)))))
  (pss_cons (ps_set (i := 7) sc_law.nd rfl (.inl rfl) (pe_call (ok__law_bits T) (hr.mono (by decide)) (by rfl) T.m__law_bits T.F__law_bits.kp T.b__law_bits .nil pass0 (pa_cons (pv 0) pa_nil)))
  (pss_cons (ps_set (i := 8) sc_law.nd rfl (.inl rfl) (pe_call (ok_first_state T) (hr.mono (by decide)) (by rfl) T.m_first_state T.F_first_state.kp T.b_first_state .nil pass0 (pa_cons (pv 2) pa_nil)))
  (pss_cons (ps_if (PW.pt (pw_or (pt_not (pt_val (pe_call (ok__law_is_state T) (hr.mono (by decide)) (by rfl) T.m__law_is_state T.F__law_is_state.kp T.b__law_is_state .nil pass0 (pa_cons (pv 8) pa_nil)))) (pw_or1 (pt_cmpR (op_neD hr.units) (pv 8) (pe_tup (pa_cons (pe_tup (pa_cons (pv 2) pa_nil)) (pa_cons pe_int pa_nil))) (nomark _)))))
    (pss_one (ps_ret pe_bl))
    pss_nil)
  (pss_cons (ps_for PassesOwn.never rfl (pi_list (pv 7)) (pg_name (i := 9) sc_law.nd rfl (.inl rfl))
   (pss_cons (ps_set (i := 10) sc_law.nd rfl (.inl rfl) (pe_call (ok__law_due T) (hr.mono (by decide)) (by rfl) T.m__law_due T.F__law_due.kp T.b__law_due .nil pass0 (pa_cons (pe_ix ix_tup (pv 8) pe_int (fun _ _ => rfl)) (pa_cons (pe_ix ix_tup (pv 8) pe_int (fun _ _ => rfl)) (pa_cons (pv 4) pa_nil)))))
  (pss_cons (ps_set (i := 11) sc_law.nd rfl (.inl rfl) (pe_call (ok_onward T) (hr.mono (by decide)) (by rfl) T.m_onward T.F_onward.kp T.b_onward .nil pass0 (pa_cons (pv 8) (pa_cons (pv 4) pa_nil))))
  (pss_cons (ps_set (i := 12) sc_law.nd rfl (.inl rfl) (pe_call (ok_is_end T) (hr.mono (by decide)) (by rfl) T.m_is_end T.F_is_end.kp T.b_is_end .nil pass0 (pa_cons (pv 8) (pa_cons (pv 4) pa_nil))))
  (pss_cons (ps_if (PW.pt (pw_or (pt_not (pt_val (pe_callB call_isi (by rfl) T.n_isinstance (by decide +kernel) (pa_cons (pv 11) (pa_cons (pe_bltn (v := .ty "list") (by rfl) T.n_list (by decide +kernel) rfl) pa_nil))))) (pw_or (pt_cmpR (op_neD hr.units) (pe_lc (own := [("_law_one", 13)]) (g := gName 13) (tt := tNot (tB (tCall (sp_is_state K) [] E0 (tCons (tVar 13) tNil)))) rfl sc_law.nd (pi_list (pv 11)) (blkOk_by (own := [("_law_one", 13)]) (N := N_law) (sc := defScope s_law) (by decide +kernel)) (fun _ _ _ _ _ => by exact (pg_name (i := 13) sc_law.nd rfl (.inl rfl))) (fun _ _ _ _ _ => by exact (pts_one (pt_not (pt_val (pe_call (ok__law_is_state T) (hr.mono (by decide)) (by rfl) T.m__law_is_state T.F__law_is_state.kp T.b__law_is_state .nil pass0 (pa_cons (pv 13) pa_nil)))))) (fun _ _ _ _ _ => by exact (pv 13))) (pe_lst pa_nil) (nomark _)) (pw_or1 (pt_cmpR (op_neD hr.units) (pv 11) (pv 10) (nomark _))))))
    (pss_one (ps_ret pe_bl))
    pss_nil)
  (pss_cons (ps_if (PW.pt (pw_or (pt_not (pt_val (pe_callB call_isi (by rfl) T.n_isinstance (by decide +kernel) (pa_cons (pv 12) (pa_cons (pe_bltn (v := .ty "bool") (by rfl) T.n_bool (by decide +kernel) rfl) pa_nil))))) (pw_or1 (pt_cmpR op_ne (pv 12) (pe_and (pe_cmpR op_eq (pe_callB call_len_seq (by rfl) T.n_len PySem.boot_len (pa_cons (pe_ix ix_tup (pv 8) pe_int (fun _ _ => rfl)) pa_nil)) pe_int (nomark _)) (pe_one (pe_cmpR op_eq (pe_ix ix_tup (pv 8) pe_int (fun _ _ => rfl)) (pe_callB call_len (by rfl) T.n_len PySem.boot_len (pa_cons (pv 4) pa_nil)) (nomark _)))) (nomark _)))))
    (pss_one (ps_ret pe_bl))
    pss_nil)
  (pss_cons (ps_if (pt_cmpR op_eq (pe_callB call_len_seq (by rfl) T.n_len PySem.boot_len (pa_cons (pv 10) pa_nil)) pe_int (nomark _))
    (pss_one (ps_ret pe_bl))
    pss_nil)
  (pss_one (ps_set (i := 8) sc_law.nd rfl (.inl rfl) (pe_ix ix_list (pv 10) (pe_op op_mod (pv 9) (pe_callB call_len_seq (by rfl) T.n_len PySem.boot_len (pa_cons (pv 10) pa_nil))) (fun _ _ => rfl)))))))))))
  (pss_one (ps_ret pe_bl)))))))))))), ?_⟩
  refine ⟨_, rfl, a, ns, 0, rfl, ha, ?_⟩
  refine ⟨_, rfl, _, rfl, _, rfl, a, _, rfl, ha, fun l1 n1 => ?_⟩
  obtain ⟨ns1, e1, z1⟩ := cut_int ns 2 18
  have s1 := same_new (o := .lst (cutV (ns.map V.int) (some 2) (some 18))) n1
  refine ⟨_, rfl, l1, ns1, cellAt ns 0, rfl, ?_, by omega, fun pv p H1 s2 up zp dp => ?_⟩
  · rw [← e1]
    exact SqL.of upd_same
  have s12 := s1.trans s2
  refine ⟨_, rfl, a, ns, 1, rfl, s12.seq ha, ?_⟩
  refine ⟨_, rfl, _, _, rfl, rfl, ⟨by decide, by decide⟩, ?_⟩
  have m0 := Int.emod_nonneg (cellAt ns 1) (show (10 : Int) ≠ 0 by decide)
  have m1 := Int.emod_lt_of_pos (cellAt ns 1) (show (0 : Int) < 10 by decide)
  refine ⟨_, rfl, _, _, rfl, rfl, (by show (0 : Int) < 10; decide), _, rfl, by omega, by omega, for_range (lo := 0) (n := (cellAt ns 1 % 10).toNat) (fun i σ H' => ∃ (z : Str) (c : Int) (y6 : Option V),
    σ = [some (.ref a), some (.int (cellAt ns 0)), some pv, some (.int (cellAt ns 1)), some (.str z), some (.int c), y6, none, none, none, none, none, none, none] ∧ Same H1 H' ∧ z.length ≤ i) ⟨"", _, none, rfl, Same.refl _, Nat.le_refl _⟩ ?_ ?_⟩
  · rintro i σ H2 hi ⟨z, c, y6, rfl, s3, lz⟩
    have pick : ∃ e : Int, atI [V.int (cellAt ns 0), V.int (cellAt ns 0 / 95), V.int (cellAt ns 0), V.int (c / 4)] (c % 4) = some (.int e) := by
      have k0 : c % 4 = 0 ∨ c % 4 = 1 ∨ c % 4 = 2 ∨ c % 4 = 3 := by omega
      rcases k0 with e | e | e | e <;> rw [e]
      · exact ⟨_, at0 rfl⟩
      · exact ⟨_, at1 rfl⟩
      · exact ⟨_, at2 rfl⟩
      · exact ⟨_, atI_nat (j := 3) rfl⟩
    obtain ⟨e, he⟩ := pick
    refine ⟨_, rfl, _, rfl, _, rfl, _, _, rfl, rfl, ⟨by decide, by decide⟩, _, rfl, _, rfl, _, _, rfl, rfl, ⟨by decide, by decide⟩, sz (by show 4 ≤ 10000; decide), fun l nl => ?_⟩
    refine ⟨_, rfl, _, _, rfl, rfl, (by show (0 : Int) < 4; decide), l, _, _, .int e, rfl, rfl, SqL.of upd_same, he, e, rfl, ?_⟩
    refine ⟨_, _, rfl, rfl, sz (by show z.length + 1 ≤ 10000; omega), ?_⟩
    refine ⟨_, rfl, _, _, rfl, rfl, ⟨by decide, by decide⟩, ?_⟩
    exact ⟨z ++ (⟨#[lsg e]⟩ : Str), _, _, rfl, s3.trans (same_new nl), by rw [len_add]; omega⟩
  rintro σ H2 ⟨z, c, y6, rfl, s3, lz⟩
  have hz : z.length ≤ 1000 := by omega
  have s13 := s12.trans s3
  refine ⟨_, rfl, a, ns, rfl, s13.seq ha, fun lb bs H3 s4 hbs lbs => ?_⟩
  have s14 := s13.trans s4
  have up3 := up.mono (TS.of (K := K) (s3.trans s4))
  refine ⟨_, rfl, p, pv, rfl, up3, fun t0 H4 s5 hs0 => ?_⟩
  have hbs4 := s5 _ _ hbs
  have up4 := up3.mono (TS.of (K := K) s5)
  have g0 : gd 50 [Th.pat p] := fun t ht => by
    obtain rfl := List.mem_singleton.mp ht
    show dep p ≤ 50
    omega
  refine ⟨_, rfl, _, _, rfl, hs0, _, rfl, iteF ?_⟩
  refine ⟨_, rfl, _, rfl, sz (by show 1 ≤ 10000; decide), fun t1 n1 => ⟨sz (by show 2 ≤ 10000; decide), fun t2 n2 => ?_⟩⟩
  have s6 := (same_new (o := .tup [pv]) n1).trans (same_new (o := .tup [.ref t1, .int 0]) n2)
  have hsX : SAt K (upd (upd H4 t1 (.tup [pv])) t2 (.tup [.ref t1, .int 0])) ([.pat p], 0) (.ref t2) := ⟨t2, .ref t1, rfl, SqT.of upd_same, t1, [pv], rfl, TS.of (K := K) (same_new n2) _ _ (SqT.of upd_same), .cons (show TAt K _ (.pat p) pv from up4.mono (TS.of s6)) .nil⟩
  have sh0 := shaped_of hsX.lay (Nat.le_trans (spd_depth g0) (by decide))
  have hs6 := hs0.mono (TS.of (K := K) s6)
  refine ⟨spd ([.pat p], 0), spd ([.pat p], 0), hs6.dp, hsX.dp, sh0, sh0, _, rfl, ?_⟩
  rw [SeqAt.eqv_refl _ hsX.lay]
  refine iteF ?_
  have hbs6 := s6 _ _ hbs4
  clear hsX n1 n2
  generalize upd (upd H4 t1 (.tup [pv])) t2 (.tup [.ref t1, .int 0]) = H5 at hbs6 hs6
  refine ⟨_, rfl, lb, rfl, ⟨_, SqL.of hbs6⟩, for_list (K := K) (a := lb) (xs := bs.map V.int) (fun i σ H' => ∃ (x : Sta) (sv : V) (y9 y10 y11 y12 : Option V),
    σ = [some (.ref a), some (.int (cellAt ns 0)), some pv, some (.int (cellAt ns 1)), some (.str z), some (.int c), y6, some (.ref lb), some sv, y9, y10, y11, y12, none] ∧ Same H5 H' ∧ SAt K H' x sv ∧ gd 50 x.1 ∧ x.1.length ≤ 1 + i ∧ x.2 ≤ z.length)
    ⟨_, _, none, none, none, none, rfl, Same.refl _, hs6, g0, Nat.le_refl _, Nat.zero_le _⟩ (fun i σ H' _ ⟨_, _, _, _, _, _, _, s, _⟩ => SqL.of (s _ _ hbs6)) ?_ (fun σ H' _ => q _)⟩
  rintro i y σ H6 hi ⟨⟨R, k⟩, sv, y9, y10, y11, y12, rfl, s7, hs, hg, hl, hk⟩
  have hi40 : i < 40 := by
    have q1 := (List.getElem?_eq_some_iff.mp hi).1
    rw [List.length_map] at q1
    omega
  obtain ⟨bit, rfl⟩ := some_int hi
  have hs' := hs
  obtain ⟨st, xv, rfl, hst, hR⟩ := hs
  have hl' : R.length ≤ 1 + i := hl
  have hk' : k ≤ z.length := hk
  refine ⟨_, rfl, _, _, _, _, rfl, rfl, hst, at0 rfl, _, rfl, _, _, _, _, rfl, rfl, hst, at1 rfl, _, rfl, R, xv, k, z, rfl, hR, by omega, hk', hz, fun rd wd H7 s8 _ hd pd' => ?_⟩
  have hs7 := hs'.mono (TS.of (K := K) s8)
  refine ⟨_, rfl, _, rfl, (R, k), _, z, rfl, hs7, by show R.length ≤ 1000; omega, hk', hz, fun rf wf H8 s9 _ hf pf => ?_⟩
  have hs8 := hs7.mono (TS.of (K := K) s9)
  refine ⟨_, rfl, _, rfl, (R, k), _, z, rfl, hs8, hg, hz, fun H9 s10 => ?_⟩
  have hf9 := s10 _ _ hf
  have pf9 := SAts.mono (TS.of (K := K) s10) pf
  have s910 := s9.trans s10
  have hd9 := s910 _ _ hd
  have pd9 := SAts.mono (TS.of (K := K) s910) pd'
  have hst9 := TS.of (K := K) (s8.trans s910) _ _ hst
  have hR9 := hR.mono (TS.of (K := K) (s8.trans s910))
  have sg := step_gd (z := z.cps.toList) (n := 50) (m := 1 + i) (s := (R, k)) hg hl (by rw [str_len]; exact hk)
  refine ⟨_, rfl, _, _, _, _, true, rfl, .ty _, .base (.lst hf9), kit_ty (by decide +kernel), _, rfl, iteF ?_⟩
  refine ⟨_, rfl, rf, rfl, ⟨_, SqL.of hf9⟩, fun D nD => ?_⟩
  refine lc_list (K := K) (a := rf) (xs := wf) (fun _ H' => Same H9 H' ∧ H' D = some (.lst [])) ⟨same_new nD, upd_same⟩ (fun _ H' _ hI => SqL.of (hI.1 _ _ hf9)) ?_ ?_
  · rintro j v' H10 hj ⟨s11, hD⟩
    obtain ⟨x', _, hx'⟩ := Paired.at pf9 hj
    refine ⟨rfl, _, rfl, x', v', rfl, hx'.mono (TS.of s11), _, rfl, iteF ⟨s11, hD⟩⟩
  rintro H10 ⟨s11, hD⟩
  refine ⟨Nat.zero_le _, fun D2 nD2 => ?_⟩
  have s12' := s11.trans (same_new (o := .lst []) nD2)
  refine ⟨.list [], .list [], .lst (SqL.of (same_new nD2 _ _ hD)) .nil, .lst (SqL.of upd_same) .nil, sh_nil, sh_nil, _, rfl, ?_⟩
  rw [eqv_nil]
  refine iteF ?_
  have hf11 := s12' _ _ hf9
  have pf11 := SAts.mono (TS.of (K := K) s12') pf9
  have hd11 := s12' _ _ hd9
  have pd11 := SAts.mono (TS.of (K := K) s12') pd9
  have hst11 := TS.of (K := K) s12' _ _ hst9
  have hR11 := hR9.mono (TS.of (K := K) s12')
  have s711 := s7.trans ((s8.trans s910).trans s12')
  clear hD nD nD2 hf9 pf9 hd9 pd9 hst9 hR9
  generalize upd H10 D2 (.lst []) = H11 at *
  have shd : SeqAt.shaped (.list ((step z.cps.toList (R, k)).map spd)) = true := shaped_of (lay_list pd11.lay) (Nat.le_trans (list_depth (spds_depth fun s hs => (sg s hs).1)) (by decide))
  refine ⟨_, rfl, _, rfl, .list ((step z.cps.toList (R, k)).map spd), .list ((step z.cps.toList (R, k)).map spd), .lst (SqL.of hf11) pf11.dp, .lst (SqL.of hd11) pd11.dp, shd, shd, _, rfl, ?_⟩
  rw [SeqAt.eqv_refl _ (lay_list pd11.lay)]
  refine iteF ?_
  -- is_end
  refine ⟨_, rfl, _, _, _, _, true, rfl, .ty _, .base (.bl _), kit_ty (by decide +kernel), _, rfl, iteF ?_⟩
  obtain ⟨bR, vsR, rfl, hbR, pR⟩ := hR11
  have lR : R.length = vsR.length := Paired.length pR
  refine ⟨_, rfl, _, rfl, _, _, _, _, rfl, rfl, hst11, at0 rfl, bR, _, rfl, .inr hbR, rfl, _, rfl, ?_⟩
  have go : ∀ {A B : Prop} {b : Bool}, b = isEnd z (R, k) → B → (if (!decide (V.bl (isEnd z (R, k)) = V.bl b)) = true then A else B) := fun {A B b} e h => by
    rw [e, decide_eq_true rfl]
    exact iteF h
  refine ite2 (fun c1 => ?_) (fun c1 => ?_)
  · have n0 : vsR.length = 0 := by
      have := V.int.inj (of_decide_eq_true c1)
      omega
    have eE : decide (V.int (k : Int) = V.int ((z.length : Nat) : Int)) = isEnd z (R, k) := by
      have hRn : R = [] := List.length_eq_zero_iff.mp (by omega)
      unfold isEnd
      rw [hRn]
      show _ = (true && _)
      rw [Bool.true_and, Bool.eq_iff_iff]
      simp
    refine ⟨_, rfl, _, _, _, _, rfl, rfl, hst11, at1 rfl, _, rfl, _, _, rfl, ⟨sz (by omega), rfl⟩, rfl, rfl, _, rfl, go eE ?_⟩
    refine ⟨_, rfl, rd, _, rfl, .inl (SqL.of hd11), rfl, _, rfl, ?_⟩
    refine ite2 (fun _ => q _) (fun c2 => ?_)
    have nz : wd.length ≠ 0 := fun e => c2 (by rw [e]; rfl)
    have b0 := Int.emod_nonneg bit (show ((wd.length : Nat) : Int) ≠ 0 by omega)
    have b1 := Int.emod_lt_of_pos bit (show (0 : Int) < ((wd.length : Nat) : Int) by omega)
    have hj : (bit % ((wd.length : Nat) : Int)).toNat < wd.length := by omega
    have hv := List.getElem?_eq_getElem hj
    obtain ⟨x', hx', px'⟩ := Paired.at pd11 hv
    obtain ⟨g1, g2, g3⟩ := sg x' (List.mem_of_getElem? hx')
    refine ⟨_, rfl, _, rfl, _, rfl, rd, _, rfl, .inl (SqL.of hd11), _, _, rfl, rfl, (by show (0 : Int) < ((wd.length : Nat) : Int); omega), rd, _, _, wd[(bit % ((wd.length : Nat) : Int)).toNat], rfl, rfl, SqL.of hd11, at_of (j := (bit % ((wd.length : Nat) : Int)).toNat) (by show bit % ((wd.length : Nat) : Int) = _; omega) hv, ?_⟩
    exact ⟨x', _, _, _, _, _, rfl, s711, px', g1, g2, by rw [str_len] at g3; exact g3⟩
  · have n0 : vsR.length ≠ 0 := fun e => c1 (by rw [e]; rfl)
    have eE : false = isEnd z (R, k) := by
      unfold isEnd
      cases R with
      | nil =>
        rw [List.length_nil] at lR
        omega
      | cons t R' => rfl
    refine ⟨rfl, _, rfl, go eE ?_⟩
    refine ⟨_, rfl, rd, _, rfl, .inl (SqL.of hd11), rfl, _, rfl, ?_⟩
    refine ite2 (fun _ => q _) (fun c2 => ?_)
    have nz : wd.length ≠ 0 := fun e => c2 (by rw [e]; rfl)
    have b0 := Int.emod_nonneg bit (show ((wd.length : Nat) : Int) ≠ 0 by omega)
    have b1 := Int.emod_lt_of_pos bit (show (0 : Int) < ((wd.length : Nat) : Int) by omega)
    have hj : (bit % ((wd.length : Nat) : Int)).toNat < wd.length := by omega
    have hv := List.getElem?_eq_getElem hj
    obtain ⟨x', hx', px'⟩ := Paired.at pd11 hv
    obtain ⟨g1, g2, g3⟩ := sg x' (List.mem_of_getElem? hx')
    refine ⟨_, rfl, _, rfl, _, rfl, rd, _, rfl, .inl (SqL.of hd11), _, _, rfl, rfl, (by show (0 : Int) < ((wd.length : Nat) : Int); omega), rd, _, _, wd[(bit % ((wd.length : Nat) : Int)).toNat], rfl, rfl, SqL.of hd11, at_of (j := (bit % ((wd.length : Nat) : Int)).toNat) (by show bit % ((wd.length : Nat) : Int) = _; omega) hv, ?_⟩
    exact ⟨x', _, _, _, _, _, rfl, s711, px', g1, g2, by rw [str_len] at g3; exact g3⟩

end
end G1

set_option maxRecDepth 100000
set_option maxHeartbeats 4000000
namespace G1
open PySem PySem.Spec PyProof.Rows L2 Gm
theorem all_mk {l : PySem.W.OpenLaw} {w : World} {K : PySem.W.Frag} {h : Heap} {mg : Str → Option Value} {fa : Addr} (X : K.In h) (G : h.Ns mainGlobals mg) (hfa : mg "law" = some (.ref fa))
    {f0 : Addr} {od0 an0 : Option Addr} {sl0 : Array (Option Value)} {oc0 kV0 dc0 pm0 cd0 ct0 : Value}
    {f1 : Addr} {od1 an1 : Option Addr} {sl1 : Array (Option Value)} {oc1 kV1 dc1 pm1 cd1 ct1 : Value}
    {f2 : Addr} {od2 an2 : Option Addr} {sl2 : Array (Option Value)} {oc2 kV2 dc2 pm2 cd2 ct2 : Value}
    {f3 : Addr} {od3 an3 : Option Addr} {sl3 : Array (Option Value)} {oc3 kV3 dc3 pm3 cd3 ct3 : Value}
    {f4 : Addr} {od4 an4 : Option Addr} {sl4 : Array (Option Value)} {oc4 kV4 dc4 pm4 cd4 ct4 : Value}
    {f5 : Addr} {od5 an5 : Option Addr} {sl5 : Array (Option Value)} {oc5 kV5 dc5 pm5 cd5 ct5 : Value}
    {f6 : Addr} {od6 an6 : Option Addr} {sl6 : Array (Option Value)} {oc6 kV6 dc6 pm6 cd6 ct6 : Value}
    {f7 : Addr} {od7 an7 : Option Addr} {sl7 : Array (Option Value)} {oc7 kV7 dc7 pm7 cd7 ct7 : Value}
    {f8 : Addr} {od8 an8 : Option Addr} {sl8 : Array (Option Value)} {oc8 kV8 dc8 pm8 cd8 ct8 : Value}
    {f9 : Addr} {od9 an9 : Option Addr} {sl9 : Array (Option Value)} {oc9 kV9 dc9 pm9 cd9 ct9 : Value}
    {f10 : Addr} {od10 an10 : Option Addr} {sl10 : Array (Option Value)} {oc10 kV10 dc10 pm10 cd10 ct10 : Value}
    {f11 : Addr} {od11 an11 : Option Addr} {sl11 : Array (Option Value)} {oc11 kV11 dc11 pm11 cd11 ct11 : Value}
    {f12 : Addr} {od12 an12 : Option Addr} {sl12 : Array (Option Value)} {oc12 kV12 dc12 pm12 cd12 ct12 : Value}
    {f13 : Addr} {od13 an13 : Option Addr} {sl13 : Array (Option Value)} {oc13 kV13 dc13 pm13 cd13 ct13 : Value}
    {f14 : Addr} {od14 an14 : Option Addr} {sl14 : Array (Option Value)} {oc14 kV14 dc14 pm14 cd14 ct14 : Value}
    (a0 : PySem.W.nsIn K mainGlobals "first_state" = some (some (.ref f0))) (l0 : K.lookup f0 = some ⟨oc0, od0, .func (PySem.W.fnOf "first_state" "first_state" (defArgs s_first_state) (defBody s_first_state) (defScope s_first_state) .none kV0 dc0 pm0 an0 cd0 ct0), sl0⟩) (c0 : PySem.W.codeIn K cd0 "first_state" = true) (k0 : PySem.W.keepIn K (.ref f0) = true)
    (a1 : PySem.W.nsIn K mainGlobals "is_end" = some (some (.ref f1))) (l1 : K.lookup f1 = some ⟨oc1, od1, .func (PySem.W.fnOf "is_end" "is_end" (defArgs s_is_end) (defBody s_is_end) (defScope s_is_end) .none kV1 dc1 pm1 an1 cd1 ct1), sl1⟩) (c1 : PySem.W.codeIn K cd1 "is_end" = true) (k1 : PySem.W.keepIn K (.ref f1) = true)
    (a2 : PySem.W.nsIn K mainGlobals "onward" = some (some (.ref f2))) (l2 : K.lookup f2 = some ⟨oc2, od2, .func (PySem.W.fnOf "onward" "onward" (defArgs s_onward) (defBody s_onward) (defScope s_onward) .none kV2 dc2 pm2 an2 cd2 ct2), sl2⟩) (c2 : PySem.W.codeIn K cd2 "onward" = true) (k2 : PySem.W.keepIn K (.ref f2) = true)
    (a3 : PySem.W.nsIn K mainGlobals "_takes" = some (some (.ref f3))) (l3 : K.lookup f3 = some ⟨oc3, od3, .func (PySem.W.fnOf "_takes" "_takes" (defArgs s__takes) (defBody s__takes) (defScope s__takes) .none kV3 dc3 pm3 an3 cd3 ct3), sl3⟩) (c3 : PySem.W.codeIn K cd3 "_takes" = true) (k3 : PySem.W.keepIn K (.ref f3) = true)
    (a4 : PySem.W.nsIn K mainGlobals "_unfolded" = some (some (.ref f4))) (l4 : K.lookup f4 = some ⟨oc4, od4, .func (PySem.W.fnOf "_unfolded" "_unfolded" (defArgs s__unfolded) (defBody s__unfolded) (defScope s__unfolded) .none kV4 dc4 pm4 an4 cd4 ct4), sl4⟩) (c4 : PySem.W.codeIn K cd4 "_unfolded" = true) (k4 : PySem.W.keepIn K (.ref f4) = true)
    (a5 : PySem.W.nsIn K mainGlobals "_law_cell_at" = some (some (.ref f5))) (l5 : K.lookup f5 = some ⟨oc5, od5, .func (PySem.W.fnOf "_law_cell_at" "_law_cell_at" (defArgs s__law_cell_at) (defBody s__law_cell_at) (defScope s__law_cell_at) .none kV5 dc5 pm5 an5 cd5 ct5), sl5⟩) (c5 : PySem.W.codeIn K cd5 "_law_cell_at" = true) (k5 : PySem.W.keepIn K (.ref f5) = true)
    (a6 : PySem.W.nsIn K mainGlobals "_law_sign" = some (some (.ref f6))) (l6 : K.lookup f6 = some ⟨oc6, od6, .func (PySem.W.fnOf "_law_sign" "_law_sign" (defArgs s__law_sign) (defBody s__law_sign) (defScope s__law_sign) .none kV6 dc6 pm6 an6 cd6 ct6), sl6⟩) (c6 : PySem.W.codeIn K cd6 "_law_sign" = true) (k6 : PySem.W.keepIn K (.ref f6) = true)
    (a7 : PySem.W.nsIn K mainGlobals "_law_leaf" = some (some (.ref f7))) (l7 : K.lookup f7 = some ⟨oc7, od7, .func (PySem.W.fnOf "_law_leaf" "_law_leaf" (defArgs s__law_leaf) (defBody s__law_leaf) (defScope s__law_leaf) .none kV7 dc7 pm7 an7 cd7 ct7), sl7⟩) (c7 : PySem.W.codeIn K cd7 "_law_leaf" = true) (k7 : PySem.W.keepIn K (.ref f7) = true)
    (a8 : PySem.W.nsIn K mainGlobals "_law_two" = some (some (.ref f8))) (l8 : K.lookup f8 = some ⟨oc8, od8, .func (PySem.W.fnOf "_law_two" "_law_two" (defArgs s__law_two) (defBody s__law_two) (defScope s__law_two) .none kV8 dc8 pm8 an8 cd8 ct8), sl8⟩) (c8 : PySem.W.codeIn K cd8 "_law_two" = true) (k8 : PySem.W.keepIn K (.ref f8) = true)
    (a9 : PySem.W.nsIn K mainGlobals "_law_round" = some (some (.ref f9))) (l9 : K.lookup f9 = some ⟨oc9, od9, .func (PySem.W.fnOf "_law_round" "_law_round" (defArgs s__law_round) (defBody s__law_round) (defScope s__law_round) .none kV9 dc9 pm9 an9 cd9 ct9), sl9⟩) (c9 : PySem.W.codeIn K cd9 "_law_round" = true) (k9 : PySem.W.keepIn K (.ref f9) = true)
    (a10 : PySem.W.nsIn K mainGlobals "_law_made" = some (some (.ref f10))) (l10 : K.lookup f10 = some ⟨oc10, od10, .func (PySem.W.fnOf "_law_made" "_law_made" (defArgs s__law_made) (defBody s__law_made) (defScope s__law_made) .none kV10 dc10 pm10 an10 cd10 ct10), sl10⟩) (c10 : PySem.W.codeIn K cd10 "_law_made" = true) (k10 : PySem.W.keepIn K (.ref f10) = true)
    (a11 : PySem.W.nsIn K mainGlobals "_law_due" = some (some (.ref f11))) (l11 : K.lookup f11 = some ⟨oc11, od11, .func (PySem.W.fnOf "_law_due" "_law_due" (defArgs s__law_due) (defBody s__law_due) (defScope s__law_due) .none kV11 dc11 pm11 an11 cd11 ct11), sl11⟩) (c11 : PySem.W.codeIn K cd11 "_law_due" = true) (k11 : PySem.W.keepIn K (.ref f11) = true)
    (a12 : PySem.W.nsIn K mainGlobals "_law_bits" = some (some (.ref f12))) (l12 : K.lookup f12 = some ⟨oc12, od12, .func (PySem.W.fnOf "_law_bits" "_law_bits" (defArgs s__law_bits) (defBody s__law_bits) (defScope s__law_bits) .none kV12 dc12 pm12 an12 cd12 ct12), sl12⟩) (c12 : PySem.W.codeIn K cd12 "_law_bits" = true) (k12 : PySem.W.keepIn K (.ref f12) = true)
    (a13 : PySem.W.nsIn K mainGlobals "_law_is_state" = some (some (.ref f13))) (l13 : K.lookup f13 = some ⟨oc13, od13, .func (PySem.W.fnOf "_law_is_state" "_law_is_state" (defArgs s__law_is_state) (defBody s__law_is_state) (defScope s__law_is_state) .none kV13 dc13 pm13 an13 cd13 ct13), sl13⟩) (c13 : PySem.W.codeIn K cd13 "_law_is_state" = true) (k13 : PySem.W.keepIn K (.ref f13) = true)
    (a14 : PySem.W.nsIn K mainGlobals "law" = some (some (.ref f14))) (l14 : K.lookup f14 = some ⟨oc14, od14, .func (PySem.W.fnOf "law" "law" (defArgs s_law) (defBody s_law) (defScope s_law) .none kV14 dc14 pm14 an14 cd14 ct14), sl14⟩) (c14 : PySem.W.codeIn K cd14 "law" = true) (k14 : PySem.W.keepIn K (.ref f14) = true)
    (z_bool : PySem.W.nsIn K mainGlobals "bool" = some none)
    (z_int : PySem.W.nsIn K mainGlobals "int" = some none)
    (z_isinstance : PySem.W.nsIn K mainGlobals "isinstance" = some none)
    (z_len : PySem.W.nsIn K mainGlobals "len" = some none)
    (z_list : PySem.W.nsIn K mainGlobals "list" = some none)
    (z_range : PySem.W.nsIn K mainGlobals "range" = some none)
    (z_tuple : PySem.W.nsIn K mainGlobals "tuple" = some none) :
    ∃ fd : FuncData, (∀ (s : Shared) (v : Value), BindsTo s fd ⟨[v], []⟩ [("_law_script", v)]) ∧ ∀ base : Heap, K.In base → base.Ns mainGlobals mg → FnOk l.prog w K mg base CX0 4 fa fd ["_law_script"] (spLaw K) := by
  have e := hfa.symm.trans (PySem.W.mg_of X G a14)
  cases e
  have F0 := fun_mk (st := s_first_state) l0 c0 k0
  have b0 := F0.binds (ps := ["pattern"]) fun _ _ _ _ _ _ us hl => match us, hl with | [_], _ => rfl
  have F1 := fun_mk (st := s_is_end) l1 c1 k1
  have b1 := F1.binds (ps := ["state", "text"]) fun _ _ _ _ _ _ us hl => match us, hl with | [_, _], _ => rfl
  have F2 := fun_mk (st := s_onward) l2 c2 k2
  have b2 := F2.binds (ps := ["state", "text"]) fun _ _ _ _ _ _ us hl => match us, hl with | [_, _], _ => rfl
  have F3 := fun_mk (st := s__takes) l3 c3 k3
  have b3 := F3.binds (ps := ["thing", "sign"]) fun _ _ _ _ _ _ us hl => match us, hl with | [_, _], _ => rfl
  have F4 := fun_mk (st := s__unfolded) l4 c4 k4
  have b4 := F4.binds (ps := ["thing"]) fun _ _ _ _ _ _ us hl => match us, hl with | [_], _ => rfl
  have F5 := fun_mk (st := s__law_cell_at) l5 c5 k5
  have b5 := F5.binds (ps := ["_law_script", "_law_k"]) fun _ _ _ _ _ _ us hl => match us, hl with | [_, _], _ => rfl
  have F6 := fun_mk (st := s__law_sign) l6 c6 k6
  have b6 := F6.binds (ps := ["_law_cell"]) fun _ _ _ _ _ _ us hl => match us, hl with | [_], _ => rfl
  have F7 := fun_mk (st := s__law_leaf) l7 c7 k7
  have b7 := F7.binds (ps := ["_law_cell", "_law_head"]) fun _ _ _ _ _ _ us hl => match us, hl with | [_, _], _ => rfl
  have F8 := fun_mk (st := s__law_two) l8 c8 k8
  have b8 := F8.binds (ps := ["_law_cell", "_law_left", "_law_right"]) fun _ _ _ _ _ _ us hl => match us, hl with | [_, _, _], _ => rfl
  have F9 := fun_mk (st := s__law_round) l9 c9 k9
  have b9 := F9.binds (ps := ["_law_cell", "_law_part", "_law_head"]) fun _ _ _ _ _ _ us hl => match us, hl with | [_, _, _], _ => rfl
  have F10 := fun_mk (st := s__law_made) l10 c10 k10
  have b10 := F10.binds (ps := ["_law_cells", "_law_head"]) fun _ _ _ _ _ _ us hl => match us, hl with | [_, _], _ => rfl
  have F11 := fun_mk (st := s__law_due) l11 c11 k11
  have b11 := F11.binds (ps := ["_law_rest", "_law_place", "_law_text"]) fun _ _ _ _ _ _ us hl => match us, hl with | [_, _, _], _ => rfl
  have F12 := fun_mk (st := s__law_bits) l12 c12 k12
  have b12 := F12.binds (ps := ["_law_script"]) fun _ _ _ _ _ _ us hl => match us, hl with | [_], _ => rfl
  have F13 := fun_mk (st := s__law_is_state) l13 c13 k13
  have b13 := F13.binds (ps := ["_law_found"]) fun _ _ _ _ _ _ us hl => match us, hl with | [_], _ => rfl
  have F14 := fun_mk (st := s_law) l14 c14 k14
  have b14 := F14.binds (ps := ["_law_script"]) fun _ _ _ _ _ _ us hl => match us, hl with | [_], _ => rfl
  have T : { T : Txt w K mg // T.f_law = fa ∧ T.fd_law = PySem.W.fnOf "law" "law" (defArgs s_law) (defBody s_law) (defScope s_law) .none kV14 dc14 pm14 an14 cd14 ct14 } := ⟨⟨_, _, F0, PySem.W.mg_of X G a0, b0, _, _, F1, PySem.W.mg_of X G a1, b1, _, _, F2, PySem.W.mg_of X G a2, b2, _, _, F3, PySem.W.mg_of X G a3, b3, _, _, F4, PySem.W.mg_of X G a4, b4, _, _, F5, PySem.W.mg_of X G a5, b5, _, _, F6, PySem.W.mg_of X G a6, b6, _, _, F7, PySem.W.mg_of X G a7, b7, _, _, F8, PySem.W.mg_of X G a8, b8, _, _, F9, PySem.W.mg_of X G a9, b9, _, _, F10, PySem.W.mg_of X G a10, b10, _, _, F11, PySem.W.mg_of X G a11, b11, _, _, F12, PySem.W.mg_of X G a12, b12, _, _, F13, PySem.W.mg_of X G a13, b13, _, _, F14, PySem.W.mg_of X G a14, b14, PySem.W.mg_none_of X G z_bool, PySem.W.mg_none_of X G z_int, PySem.W.mg_none_of X G z_isinstance, PySem.W.mg_none_of X G z_len, PySem.W.mg_none_of X G z_list, PySem.W.mg_none_of X G z_range, PySem.W.mg_none_of X G z_tuple⟩, rfl, rfl⟩
  obtain ⟨T, rfl, e2⟩ := T
  refine ⟨T.fd_law, fun s v => ?_, fun base _ _ => ok_law T⟩
  rw [e2]
  exact .of_eq rfl
theorem walk {l : PySem.W.OpenLaw} {q : Program} {loose : List Str} {XP : (Str → Option Value) → Heap → Prop} {YP : World → Heap → Prop} {d : DefRec} {K : Params → PySem.W.Frag} (hn : l.most = some 63) (hdf : d.params.defaults = [])
    (hY : ∀ (w : World) (h : Heap), YP w h → (K w.params).In h)
    (F : ∀ (w : World) (mg : Str → Option Value) (fa : Addr) (h : Heap), (K w.params).In h → h.Ns mainGlobals mg → mg d.name = some (.ref fa) →
      ∃ fd : FuncData, (∀ (s : Shared) (u : Value), BindsTo s fd ⟨[u], []⟩ [("_law_script", u)]) ∧ ∀ base : Heap, (K w.params).In base → base.Ns mainGlobals mg → FnOk l.prog w (K w.params) mg base CX0 4 fa fd ["_law_script"] (spLaw (K w.params))) :
    PySem.W.WalkO q loose XP YP l.row.toRowW d [] (fun f vs => PySem.call f vs) :=
  L2.walk_of (n := 63) (k := 4) (x := "_law_script") (CX := fun _ => CX0) (sp := fun w => (spLaw (K w.params))) hn (by decide) hdf ⟨rfl, by decide, by decide⟩ hY F (fun _ _ a ns hl _ hS => ⟨a, ns, rfl, hS, hl, fun _ => rfl⟩) fun _ _ _ _ _ z => z
end G1

open PySem PySem.W PyProof.Rows
set_option maxRecDepth 100000 in
set_option maxHeartbeats 0 in
theorem PySem.Challenge.cw_groupmarks_k04_where_a_state_leads_holds : PySem.Challenge.rw_groupmarks_k04_where_a_state_leads.Holds := by
  w_on; o_law; k_head; (case hw => w_witness2)
  k_fill
  refine G1.walk (l := PySem.Challenge.rw_groupmarks_k04_where_a_state_leads) rfl rfl (fun w h Y => PySem.W.kIn_of Y) ?F
  case F =>
    intro w mg fa h KX G hmg
    refine' G1.all_mk KX G hmg ?a0 ?l0 ?c0 ?k0 ?a1 ?l1 ?c1 ?k1 ?a2 ?l2 ?c2 ?k2 ?a3 ?l3 ?c3 ?k3 ?a4 ?l4 ?c4 ?k4 ?a5 ?l5 ?c5 ?k5 ?a6 ?l6 ?c6 ?k6 ?a7 ?l7 ?c7 ?k7 ?a8 ?l8 ?c8 ?k8 ?a9 ?l9 ?c9 ?k9 ?a10 ?l10 ?c10 ?k10 ?a11 ?l11 ?c11 ?k11 ?a12 ?l12 ?c12 ?k12 ?a13 ?l13 ?c13 ?k13 ?a14 ?l14 ?c14 ?k14 ?z_bool ?z_int ?z_isinstance ?z_len ?z_list ?z_range ?z_tuple
    (case a0 => k_is)
    (case l0 => k_is)
    (case c0 => k_is)
    (case k0 => k_is)
    (case a1 => k_is)
    (case l1 => k_is)
    (case c1 => k_is)
    (case k1 => k_is)
    (case a2 => k_is)
    (case l2 => k_is)
    (case c2 => k_is)
    (case k2 => k_is)
    (case a3 => k_is)
    (case l3 => k_is)
    (case c3 => k_is)
    (case k3 => k_is)
    (case a4 => k_is)
    (case l4 => k_is)
    (case c4 => k_is)
    (case k4 => k_is)
    (case a5 => k_is)
    (case l5 => k_is)
    (case c5 => k_is)
    (case k5 => k_is)
    (case a6 => k_is)
    (case l6 => k_is)
    (case c6 => k_is)
    (case k6 => k_is)
    (case a7 => k_is)
    (case l7 => k_is)
    (case c7 => k_is)
    (case k7 => k_is)
    (case a8 => k_is)
    (case l8 => k_is)
    (case c8 => k_is)
    (case k8 => k_is)
    (case a9 => k_is)
    (case l9 => k_is)
    (case c9 => k_is)
    (case k9 => k_is)
    (case a10 => k_is)
    (case l10 => k_is)
    (case c10 => k_is)
    (case k10 => k_is)
    (case a11 => k_is)
    (case l11 => k_is)
    (case c11 => k_is)
    (case k11 => k_is)
    (case a12 => k_is)
    (case l12 => k_is)
    (case c12 => k_is)
    (case k12 => k_is)
    (case a13 => k_is)
    (case l13 => k_is)
    (case c13 => k_is)
    (case k13 => k_is)
    (case a14 => k_is)
    (case l14 => k_is)
    (case c14 => k_is)
    (case k14 => k_is)
    (case z_bool => k_is)
    (case z_int => k_is)
    (case z_isinstance => k_is)
    (case z_len => k_is)
    (case z_list => k_is)
    (case z_range => k_is)
    (case z_tuple => k_is)
