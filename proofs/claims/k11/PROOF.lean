import PyProof.Rows.All
import Wide.All
import OpenK.AllK
import Wide.FinOn
import PyProof.TypeEq
import PyProof.InstEq
import HandS.ForMost
import HandS.More
import HandS.Style
import HandS.IsInst
import HandS.Codes
import HandS.TupAny
import HandS.Zip
import HandS.Walk
import PyProof.Rows.MatchSeqLen
import HandS.ListItems
import KE.KDictZip
import KE.KTurns
import KE.KDictCopyH
import HandS.Conv
import HandS.Deep
import PyProof.StrOps2
import HandS.DictComp
import PySem.Challenge.RW_groupmarks_k11_whole_parts_taken
set_option Elab.async false
set_option linter.all false
set_option maxRecDepth 100000
set_option maxHeartbeats 4000000
namespace Gm
open PySem PySem.Spec PyProof.Rows L2

/-! ### `type(x) != tuple`, of two built-in types -/
theorem slot_type_ne : Slot "type" (cmpInfo .NotEq).2.1 "object.__ne__" :=
  .of (owner := "object") (n := "__ne__") (by rw [typeLookup_type, builtinLookup_eq_fast]; kernel_rfl) (by decide +kernel) (by decide +kernel) (by decide +kernel)
    (by first | exact .inl (by decide +kernel) | exact .inr (by decide +kernel)) (by rw [isSubtype_type]; kernel_rfl)
theorem slot_type_ne_refl : Slot "type" (cmpInfo .NotEq).2.2 "object.__ne__" :=
  .of (owner := "object") (n := "__ne__") (by rw [typeLookup_type, builtinLookup_eq_fast]; kernel_rfl) (by decide +kernel) (by decide +kernel) (by decide +kernel)
    (by first | exact .inl (by decide +kernel) | exact .inr (by decide +kernel)) (by rw [isSubtype_type]; kernel_rfl)
section
variable {prog : Program} {w : World} {A : Around} {E : Value → Shared → Prop} {s : Shared}
theorem ne_entry_same {X : String} (hX : ∀ s' : Shared, s'.TypeIs (.type X) "type") {Q : Fin → Shared → Prop} (hq : Q (.done (.ret (.bool false))) s) :
    wpAny (model prog w) A (Builtin.«object.__ne__» ⟨[.type X, .type X], []⟩) Q E s := by
  unfold Builtin.«object.__ne__»
  repeat (first
    | with_reducible refine wpAny_cRoomFor_or (.inl rfl) ?_
    | (refine wpAny_bind (m := callSpecialIfBound? (.type X) (Str.ofString "__eq__") [.type X]) (wpAny_callSpecialIfBound?_slot (hX _) TypeEq.slot_type_eq
        (call_gives TypeEq.slot_type_eq (hX _) F.entry_object_eq (F.args_object_eq_2 _ _) (TypeEq.object_eq_same rfl (by simp)) ?_)))
    | wp_step)
  refine show wpAny (model prog w) A (truthy (.bool true) >>= fun b => ret (Value.bool !b)) Q E s from ?_
  exact wpAny_bind (wpAny_truthy_bool (wpAny_pure hq))
theorem ne_type_same {X : String} (hX : ∀ s' : Shared, s'.TypeIs (.type X) "type") {Q : Value → Shared → Prop} (h : Q (.bool false) s) : wpAny (model prog w) A (compareOp .NotEq (.type X) (.type X)) Q E s := by
  show wpAny _ A (richCompare .NotEq _ _) Q E s
  refine wpAny_richCompare_same (T := "type") (hX s) (hX s) slot_type_ne ?_
  exact wpAny_call (codeAny_call_builtin slot_type_ne.plain F.cmpEntry_ne (slot_type_ne.check _ _ _ _ _ _ _ _ (hX s) (F.cmpArgs_ne _ _) (ne_entry_same hX ⟨(by intro e; cases e), h⟩)))
end

section
variable {X : Cx}
theorem op_neTy {T : String} (hX : ∀ s' : Shared, s'.TypeIs (.type T) "type") : OpR X (compareOp .NotEq) (fun x y H Q => x = .ty T ∧ y = .ty T ∧ Q (.bl false) H) := by
  intro pins s σ H x y v u Q I rx ry h
  obtain ⟨rfl, rfl, q⟩ := h
  cases (show v = Value.type T from rx)
  cases (show u = Value.type T from ry)
  exact ne_type_same hX (fin_bl I q rfl)
theorem op_eqTy {T : String} (hX : ∀ s' : Shared, s'.TypeIs (.type T) "type") : OpR X (compareOp .Eq) (fun x y H Q => x = .ty T ∧ y = .ty T ∧ Q (.bl true) H) := by
  intro pins s σ H x y v u Q I rx ry h
  obtain ⟨rfl, rfl, q⟩ := h
  cases (show v = Value.type T from rx)
  cases (show u = Value.type T from ry)
  exact TypeEq.eq_type_same hX (fin_bl I q rfl)
end

/-! ### `D.get(k)`, D a dict of the module with text keys -/
def KGet (K : PySem.W.Frag) (w : World) (a : Addr) (x : Str) (o : Option V) : Prop :=
  ∃ es n u, K.lookup a = some ⟨.type "dict", none, .dict es n, #[]⟩ ∧ PySem.W.KeysLit w.params es.toList ∧ PySem.W.nsIn K a x = some u ∧ RelO o u
def tKGet (K : PySem.W.Frag) (w : World) (td ty : TE) : TE := fun σ H Q => td σ H fun x H1 => ∃ a, x = .ref a ∧ (∃ es n, K.lookup a = some ⟨.type "dict", none, .dict es n, #[]⟩ ∧ PySem.W.KeysLit w.params es.toList) ∧ (a == sysModules) = false ∧ ty σ H1 fun y H2 => ∃ z o, y = .str z ∧ KGet K w a z o ∧ Q (o.getD .non) H2
section
variable {X : Cx} {o e : Expr} {apos cpos : Pos} {td ty : TE}
theorem pe_kget (ho : PE X o td) (he : PE X e ty) (m : M1 X o "get" apos e cpos) : PE X (.Call (.Attribute o "get" apos) [e] [] cpos) (tKGet X.K X.w td ty) := by
  refine ⟨fun pins s σ H Q I h => ?_⟩
  refine wpAny_Call_method m.base m.few m.line PySem.F.plainAttrs_dict PySem.F.slot_dict_get PySem.F.type_dict_get (thn (ho.run pins s σ H _ I h) fun u s1 ⟨x, H1, I1, rx, a, ex, ⟨es, n, hl, hk⟩, hd, q1⟩ => ?_)
  subst ex
  obtain rfl : u = Value.ref a := rx
  have hm := PySem.W.mapOf_K (prog := X.prog) (w := X.w) I1.kIn hl hk
  refine ⟨hm.typeIs, fun b q => ?_, ?_⟩
  · cases q
    exact ⟨_, I1.kIn a _ hl, rfl⟩
  rw [m.trees]
  refine Calls.callWith_builtin rfl (Calls.evalArgs_plain (Calls.spliced_cons (thn (he.run pins s1 σ H1 _ I1 q1) fun iv s2 ⟨y, H2, I2, ry, z, ov, ey, g, q2⟩ => Calls.spliced_nil ?_)))
  subst ey
  obtain ⟨t, rfl⟩ := ry
  obtain ⟨es', n', u', hl', hk', e', r'⟩ := g
  have hm2 := PySem.W.mapOf_K (prog := X.prog) (w := X.w) I2.kIn hl' hk'
  refine call_meetsIn PySem.F.slot_dict_get hm2.typeIs PySem.F.entry_dict_get (PySem.F.args_dict_get_2 _ _) (meets_dict_get (strKind X.prog X.w) a (strKind_is X.prog X.w z t) hd) ⟨_, hm2, ?_⟩
  rw [PySem.W.find_K hl' e']
  exact ⟨ov.getD .non, H2, I2.tok _, r'.getD rfl, q2⟩
end
/-! ### len(set(xs)) of whole numbers, whichever -/
def tLenSetG (K : PySem.W.Frag) (ta : TE) : TE := fun σ H Q => ta σ H fun x H1 => ∃ (l : Addr) (ns : List Int), x = .ref l ∧ SqL K H1 l (ns.map V.int) ∧ ns.length ≤ 4000 ∧ Q (.int ((firstMet (fun i => ns.getD i 0) ns.length).length : Nat)) H1
theorem pe_lenSetG {X : Cx} {a : Expr} {ta : TE} {p p2 q pos : Pos} (hg : Gl X "len") (hm : X.mg "len" = none) (hg2 : Gl X "set") (hm2 : X.mg "set" = none) (ha : PE X a ta) (hc : X.calm = true := by rfl)
    (na : starEach [a] X.env = (false, eval a X.env) :: starEach [] X.env := by rfl) : PE X (.Call (.Name "len" p) [.Call (.Name "set" p2) [a] [] q] [] pos) (tLenSetG X.K ta) := by
  refine ⟨fun pins s σ H Q I h => ?_⟩
  refine Call_ (ld_blt I hg hm boot_len ?_)
  refine PyProof.Rows.callWith_builtin1 (PyProof.Rows.args_cons ?_ rfl) rfl rfl
  refine Call_ (ld_blt I hg2 hm2 boot_set ?_)
  refine PyProof.Rows.callWith_type1 (PyProof.Rows.args_cons (thn (ha.run pins s σ H _ I h) fun v s1 ⟨x, H1, I1, r1, q1⟩ => PyProof.Rows.args_nil ?_) na) na rfl
  obtain ⟨l, ns, rfl, hq, hl, q1⟩ := q1
  cases r1
  obtain ⟨its, r, pl, hz⟩ := I1.list hq
  have hlen : its.toArray.size = ns.length := by rw [List.size_toArray, ← r.length, List.length_map]
  refine call_set_list (I1.ok.hd hc) pl.isList (by simpa using RZ.intsAre_vals r) (by rw [hlen]; unfold scanBound; omega) fun h' tk hS hk => ?_
  refine PyProof.Rows.args_nil ?_
  rw [hlen] at hS
  obtain ⟨o, es, ep, t, ho, hex, hd, _, _, _, hf, hn⟩ := hS
  have I2 : Inv X pins σ H1 { s1 with heap := h', toks := tk } := I1.kept fun b o e => hk b o (Heap.lt_size e) e
  have hle := firstMet_length_le (fun i => ns.getD i 0) ns.length
  exact call_len_set ho hex hd hf (by rw [hn] <;> omega) ⟨.int ((firstMet (fun i => ns.getD i 0) ns.length).length : Nat), H1, I2.tok _, ⟨_, by rw [hn]⟩, q1⟩
end Gm

set_option maxRecDepth 100000
set_option maxHeartbeats 4000000
namespace Gm
open PySem PySem.Spec PyProof.Rows L2

/-! ### patterns -/
inductive Pat where
  | sign (c : Nat) | any | none | row (p q : Pat) | or (p q : Pat) | more (p : Pat) | less (p : Pat) | group (n : Int) (p : Pat)
def nul : Pat → Bool
  | .sign _ => false
  | .any => false
  | .none => true
  | .row p q => nul p && nul q
  | .or p q => nul p || nul q
  | .more _ => true
  | .less _ => true
  | .group _ p => nul p
def kids : Pat → List Pat
  | .row p q => [p, q]
  | .or p q => [p, q]
  | .more p => [p]
  | .less p => [p]
  | .group _ p => [p]
  | _ => []
def subs : Pat → List Pat
  | .row p q => .row p q :: (subs p ++ subs q)
  | .or p q => .or p q :: (subs p ++ subs q)
  | .more p => .more p :: subs p
  | .less p => .less p :: subs p
  | .group n p => .group n p :: subs p
  | p => [p]
def subsL (W : List Pat) : List Pat := W.flatMap subs
theorem subsL_nil : subsL [] = [] := rfl
theorem subsL_cons (p : Pat) (W : List Pat) : subsL (p :: W) = subs p ++ subsL W := by
  unfold subsL
  rw [List.flatMap_cons]
theorem subsL_app (V W : List Pat) : subsL (V ++ W) = subsL V ++ subsL W := by
  unfold subsL
  rw [List.flatMap_append]
theorem subs_eq (p : Pat) : subs p = p :: subsL (kids p) := by
  cases p <;> simp [subs, kids, subsL]
def siz (p : Pat) : Nat := (subs p).length
theorem siz_pos (p : Pat) : 0 < siz p := by
  unfold siz
  rw [subs_eq]
  exact Nat.succ_pos _
theorem subsL_pos (W : List Pat) : W.length ≤ (subsL W).length := by
  induction W with
  | nil => exact Nat.le_refl _
  | cons p W ih =>
    rw [subsL_cons, List.length_append, List.length_cons]
    have := siz_pos p
    unfold siz at this
    omega
def nm : Pat → Str
  | .sign _ => "sign"
  | .any => "any"
  | .none => "none"
  | .row _ _ => "row"
  | .or _ _ => "or"
  | .more _ => "more"
  | .less _ => "less"
  | .group _ _ => "group"

/-! ### what the answers of the inner ones give -/
def mtn (z : Str) (bs : List Bool) : Bool :=
  if z = "none" ∨ z = "more" ∨ z = "less" then true else if z = "row" ∨ z = "group" then bs.all id else bs.any id
theorem mtn_row (bs : List Bool) : mtn "row" bs = bs.all id := by
  unfold mtn
  rw [if_neg (by decide +kernel), if_pos (by decide +kernel)]
theorem mtn_group (bs : List Bool) : mtn "group" bs = bs.all id := by
  unfold mtn
  rw [if_neg (by decide +kernel), if_pos (by decide +kernel)]
theorem mtn_or (bs : List Bool) : mtn "or" bs = bs.any id := by
  unfold mtn
  rw [if_neg (by decide +kernel), if_neg (by decide +kernel)]
theorem mtn_more (bs : List Bool) : mtn "more" bs = true := by
  unfold mtn
  rw [if_pos (by decide +kernel)]
theorem mtn_less (bs : List Bool) : mtn "less" bs = true := by
  unfold mtn
  rw [if_pos (by decide +kernel)]
def stk : List Pat → List Bool
  | [] => []
  | x :: L => mtn (nm x) ((stk L).take (kids x).length) :: (stk L).drop (kids x).length
def tk : List Pat → List Bool
  | [] => []
  | x :: L => mtn (nm x) ((stk L).take (kids x).length) :: tk L
def okL : List Pat → Prop
  | [] => True
  | x :: L => (kids x).length ≤ (stk L).length ∧ okL L
theorem okL_drop : ∀ (k : Nat) {L : List Pat}, okL L → okL (L.drop k)
  | 0, _, h => h
  | _ + 1, [], _ => trivial
  | k + 1, _ :: L, h => okL_drop k (L := L) h.2
theorem tk_length : ∀ L : List Pat, (tk L).length = L.length
  | [] => rfl
  | x :: L => by
    show (tk L).length + 1 = L.length + 1
    rw [tk_length L]
theorem stk_le : ∀ L : List Pat, (stk L).length ≤ L.length
  | [] => Nat.le_refl _
  | x :: L => by
    show ((stk L).drop _).length + 1 ≤ L.length + 1
    have := stk_le L
    rw [List.length_drop]
    omega
theorem stk_subs : ∀ (p : Pat) (L : List Pat), stk (subs p ++ L) = nul p :: stk L ∧ tk (subs p ++ L) = (subs p).map nul ++ tk L ∧ (okL L → okL (subs p ++ L))
  | .sign c, L => ⟨rfl, rfl, fun h => ⟨Nat.zero_le _, h⟩⟩
  | .any, L => ⟨rfl, rfl, fun h => ⟨Nat.zero_le _, h⟩⟩
  | .none, L => ⟨rfl, rfl, fun h => ⟨Nat.zero_le _, h⟩⟩
  | .row p q, L => by
    obtain ⟨q1, q2, q3⟩ := stk_subs q L
    obtain ⟨p1, p2, p3⟩ := stk_subs p (subs q ++ L)
    have e : subs (.row p q) ++ L = .row p q :: (subs p ++ (subs q ++ L)) := by
      show (_ :: (subs p ++ subs q)) ++ L = _
      rw [List.cons_append, List.append_assoc]
    rw [e]
    refine ⟨?_, ?_, fun h => ⟨?_, p3 (q3 h)⟩⟩
    · show mtn "row" ((stk (subs p ++ (subs q ++ L))).take 2) :: (stk (subs p ++ (subs q ++ L))).drop 2 = _
      rw [p1, q1]
      simp [mtn_row, mtn_or, mtn_more, mtn_less, mtn_group, nul]
    · show mtn "row" ((stk (subs p ++ (subs q ++ L))).take 2) :: tk (subs p ++ (subs q ++ L)) = _
      rw [p1, q1, p2, q2]
      simp [mtn_row, mtn_or, mtn_more, mtn_less, mtn_group, nul, subs]
    · rw [p1, q1]
      show 2 ≤ _
      simp
  | .or p q, L => by
    obtain ⟨q1, q2, q3⟩ := stk_subs q L
    obtain ⟨p1, p2, p3⟩ := stk_subs p (subs q ++ L)
    have e : subs (.or p q) ++ L = .or p q :: (subs p ++ (subs q ++ L)) := by
      show (_ :: (subs p ++ subs q)) ++ L = _
      rw [List.cons_append, List.append_assoc]
    rw [e]
    refine ⟨?_, ?_, fun h => ⟨?_, p3 (q3 h)⟩⟩
    · show mtn "or" ((stk (subs p ++ (subs q ++ L))).take 2) :: (stk (subs p ++ (subs q ++ L))).drop 2 = _
      rw [p1, q1]
      simp [mtn_row, mtn_or, mtn_more, mtn_less, mtn_group, nul]
    · show mtn "or" ((stk (subs p ++ (subs q ++ L))).take 2) :: tk (subs p ++ (subs q ++ L)) = _
      rw [p1, q1, p2, q2]
      simp [mtn_row, mtn_or, mtn_more, mtn_less, mtn_group, nul, subs]
    · rw [p1, q1]
      show 2 ≤ _
      simp
  | .more p, L => by
    obtain ⟨p1, p2, p3⟩ := stk_subs p L
    refine ⟨?_, ?_, fun h => ⟨?_, p3 h⟩⟩
    · show mtn "more" ((stk (subs p ++ L)).take 1) :: (stk (subs p ++ L)).drop 1 = _
      rw [p1]
      simp [mtn_row, mtn_or, mtn_more, mtn_less, mtn_group, nul]
    · show mtn "more" ((stk (subs p ++ L)).take 1) :: tk (subs p ++ L) = _
      rw [p1, p2]
      simp [mtn_row, mtn_or, mtn_more, mtn_less, mtn_group, nul, subs]
    · show 1 ≤ (stk (subs p ++ L)).length
      rw [p1]
      simp
  | .less p, L => by
    obtain ⟨p1, p2, p3⟩ := stk_subs p L
    refine ⟨?_, ?_, fun h => ⟨?_, p3 h⟩⟩
    · show mtn "less" ((stk (subs p ++ L)).take 1) :: (stk (subs p ++ L)).drop 1 = _
      rw [p1]
      simp [mtn_row, mtn_or, mtn_more, mtn_less, mtn_group, nul]
    · show mtn "less" ((stk (subs p ++ L)).take 1) :: tk (subs p ++ L) = _
      rw [p1, p2]
      simp [mtn_row, mtn_or, mtn_more, mtn_less, mtn_group, nul, subs]
    · show 1 ≤ (stk (subs p ++ L)).length
      rw [p1]
      simp
  | .group n p, L => by
    obtain ⟨p1, p2, p3⟩ := stk_subs p L
    refine ⟨?_, ?_, fun h => ⟨?_, p3 h⟩⟩
    · show mtn "group" ((stk (subs p ++ L)).take 1) :: (stk (subs p ++ L)).drop 1 = _
      rw [p1]
      simp [mtn_row, mtn_or, mtn_more, mtn_less, mtn_group, nul]
    · show mtn "group" ((stk (subs p ++ L)).take 1) :: tk (subs p ++ L) = _
      rw [p1, p2]
      simp [mtn_row, mtn_or, mtn_more, mtn_less, mtn_group, nul, subs]
    · show 1 ≤ (stk (subs p ++ L)).length
      rw [p1]
      simp

/-! ### a pattern in memory -/
section
variable {K : PySem.W.Frag}
/-- tuples stay -/
def TS (K : PySem.W.Frag) (H H' : Hp) : Prop := ∀ a xs, SqT K H a xs → SqT K H' a xs
theorem TS.refl {H : Hp} : TS K H H := fun _ _ h => h
theorem TS.trans {H H1 H2 : Hp} (a : TS K H H1) (b : TS K H1 H2) : TS K H H2 := fun x o h => b x o (a x o h)
theorem TS.of {H H' : Hp} (e : Same H H') : TS K H H' := fun a xs h => by
  rcases h with (h | ⟨o, h⟩) | h
  · exact .inl (.inl (e _ _ h))
  · exact .inl (.inr ⟨o, e _ _ h⟩)
  · exact .inr h
theorem same_new {H : Hp} {p : Addr} {o : HO} (h : H p = none) : Same H (upd H p o) := fun b u q => by
  rw [upd_ne (ne_of_none q h)]
  exact q
theorem TS.new {H : Hp} {p : Addr} {o : HO} (h : H p = none) : TS K H (upd H p o) := TS.of (same_new h)
/-- a list that changes -/
theorem TS.lst {H : Hp} {l : Addr} {xs ys : List V} (h : H l = some (.lst xs)) : TS K H (upd H l (.lst ys)) := fun a zs q => by
  have n : ∀ {o : HO}, H a = some o → o ≠ .lst xs → a ≠ l := fun e d z => by
    rw [z, h] at e
    exact d (Option.some.inj e).symm
  rcases q with (q | ⟨o, q⟩) | q
  · exact .inl (.inl (by rw [upd_ne (n q (fun z => nomatch z))]; exact q))
  · exact .inl (.inr ⟨o, by rw [upd_ne (n q (fun z => nomatch z))]; exact q⟩)
  · exact .inr q
/-- an object that H does not know may change -/
theorem Same.mut {H H' : Hp} {p : Addr} {o : HO} (e : Same H H') (h : H p = none) : Same H (upd H' p o) := fun a u ha => by
  rw [upd_ne (ne_of_none ha h)]
  exact e a u ha

def PAt (K : PySem.W.Frag) (H : Hp) : Pat → V → Prop
  | .sign c, v => ∃ a, v = .ref a ∧ c < 0x110000 ∧ SqT K H a [.str "sign", .str ⟨#[c]⟩]
  | .any, v => ∃ a, v = .ref a ∧ SqT K H a [.str "any"]
  | .none, v => ∃ a, v = .ref a ∧ SqT K H a [.str "none"]
  | .row p q, v => ∃ a x y, v = .ref a ∧ SqT K H a [.str "row", x, y] ∧ PAt K H p x ∧ PAt K H q y
  | .or p q, v => ∃ a x y, v = .ref a ∧ SqT K H a [.str "or", x, y] ∧ PAt K H p x ∧ PAt K H q y
  | .more p, v => ∃ a x, v = .ref a ∧ SqT K H a [.str "more", x] ∧ PAt K H p x
  | .less p, v => ∃ a x, v = .ref a ∧ SqT K H a [.str "less", x] ∧ PAt K H p x
  | .group n p, v => ∃ a x, v = .ref a ∧ 1 ≤ n ∧ SqT K H a [.str "group", .int n, x] ∧ PAt K H p x
theorem PAt.mono {H H' : Hp} (e : TS K H H') : ∀ {p : Pat} {v : V}, PAt K H p v → PAt K H' p v
  | .sign _, _, ⟨a, h, c, t⟩ => ⟨a, h, c, e _ _ t⟩
  | .any, _, ⟨a, h, t⟩ => ⟨a, h, e _ _ t⟩
  | .none, _, ⟨a, h, t⟩ => ⟨a, h, e _ _ t⟩
  | .row _ _, _, ⟨a, x, y, h, t, u, w⟩ => ⟨a, x, y, h, e _ _ t, PAt.mono e u, PAt.mono e w⟩
  | .or _ _, _, ⟨a, x, y, h, t, u, w⟩ => ⟨a, x, y, h, e _ _ t, PAt.mono e u, PAt.mono e w⟩
  | .more _, _, ⟨a, x, h, t, u⟩ => ⟨a, x, h, e _ _ t, PAt.mono e u⟩
  | .less _, _, ⟨a, x, h, t, u⟩ => ⟨a, x, h, e _ _ t, PAt.mono e u⟩
  | .group _ _, _, ⟨a, x, h, n, t, u⟩ => ⟨a, x, h, n, e _ _ t, PAt.mono e u⟩
def PAts (K : PySem.W.Frag) (H : Hp) : List Pat → List V → Prop := Paired (PAt K H)
theorem PAts.mono {H H' : Hp} (e : TS K H H') {L : List Pat} {vs : List V} (h : PAts K H L vs) : PAts K H' L vs := Paired.mapP h fun _ _ z => z.mono e
/-- what stands between the name and the inner patterns -/
def mid : Pat → List V
  | .sign c => [.str ⟨#[c]⟩]
  | .group n _ => [.int n]
  | _ => []
theorem PAt.node {H : Hp} {p : Pat} {v : V} (h : PAt K H p v) : ∃ a ws, v = .ref a ∧ SqT K H a (.str (nm p) :: (mid p ++ ws)) ∧ PAts K H (kids p) ws := by
  cases p with
  | sign c => obtain ⟨a, h, _, t⟩ := h; exact ⟨a, [], h, t, .nil⟩
  | any => obtain ⟨a, h, t⟩ := h; exact ⟨a, [], h, t, .nil⟩
  | none => obtain ⟨a, h, t⟩ := h; exact ⟨a, [], h, t, .nil⟩
  | row p q => obtain ⟨a, x, y, h, t, u, w⟩ := h; exact ⟨a, [x, y], h, t, .cons u (.cons w .nil)⟩
  | or p q => obtain ⟨a, x, y, h, t, u, w⟩ := h; exact ⟨a, [x, y], h, t, .cons u (.cons w .nil)⟩
  | more p => obtain ⟨a, x, h, t, u⟩ := h; exact ⟨a, [x], h, t, .cons u .nil⟩
  | less p => obtain ⟨a, x, h, t, u⟩ := h; exact ⟨a, [x], h, t, .cons u .nil⟩
  | group n p => obtain ⟨a, x, h, _, t, u⟩ := h; exact ⟨a, [x], h, t, .cons u .nil⟩
theorem PAt.num {H : Hp} {n : Int} {p : Pat} {v : V} (h : PAt K H (.group n p) v) : 1 ≤ n := by
  obtain ⟨_, _, _, h, _⟩ := h
  exact h
theorem Paired.app {α β : Type} {F : α → β → Prop} : ∀ {l₁ : List α} {l₂ : List β} {m₁ : List α} {m₂ : List β}, Paired F l₁ l₂ → Paired F m₁ m₂ → Paired F (l₁ ++ m₁) (l₂ ++ m₂)
  | _, _, _, _, .nil, h => h
  | _, _, _, _, .cons a t, h => .cons a (Paired.app t h)
theorem Paired.rev {α β : Type} {F : α → β → Prop} : ∀ {l₁ : List α} {l₂ : List β}, Paired F l₁ l₂ → Paired F l₁.reverse l₂.reverse
  | _, _, .nil => .nil
  | _, _, .cons a t => by
    rw [List.reverse_cons, List.reverse_cons]
    exact Paired.snoc (Paired.rev t) a
theorem Paired.at {α β : Type} {F : α → β → Prop} : ∀ {l₁ : List α} {l₂ : List β} {i : Nat} {y : β}, Paired F l₁ l₂ → l₂[i]? = some y → ∃ x, l₁[i]? = some x ∧ F x y
  | _, _, _, _, .nil, h => by simp at h
  | _, _, 0, y, .cons a _, h => ⟨_, rfl, by rw [← Option.some.inj h]; exact a⟩
  | _, _, i + 1, y, .cons _ t, h => Paired.at (i := i) t h
/-- the last one -/
theorem Paired.last {α β : Type} {F : α → β → Prop} {ps : List α} {vs : List β} (h : Paired F ps vs) (n : 0 < ps.length) : ∃ ps' p vs' v, ps = ps' ++ [p] ∧ vs = vs' ++ [v] ∧ Paired F ps' vs' ∧ F p v := by
  have r := Paired.rev h
  have e1 : ps.reverse.reverse = ps := List.reverse_reverse ps
  have e2 : vs.reverse.reverse = vs := List.reverse_reverse vs
  generalize ps.reverse = ps' at r e1
  generalize vs.reverse = vs' at r e2
  cases r with
  | nil =>
    rw [← e1] at n
    exact absurd n (Nat.lt_irrefl 0)
  | @cons a b l m f t =>
    rw [List.reverse_cons] at e1 e2
    exact ⟨l.reverse, a, m.reverse, b, e1.symm, e2.symm, Paired.rev t, f⟩

/-! ### the law's pieces -/
def cellAt (ns : List Int) (k : Nat) : Int := ns.getD k 0
def tabS : Str := (" !\"#$&'()*+,-./0123456789:;<=>?@ABCDEFGHIJKLMNOPQRSTUVWXYZ[\\]^_`" : Str) ++ ("abcdefghijklmnopqrstuvwxyz{|}~\n" : Str)
theorem tab_len : tabS.length = 95 := by decide +kernel
theorem tab_len' : tabS.cps.toList.length = 95 := by decide +kernel
def lsg (c : Int) : Nat := tabS.cps.toList.getD (c % 95).toNat 0
theorem lsg_at (c : Int) : atI tabS.cps.toList (c % 95) = some (lsg c) := by
  have h0 : 0 ≤ c % 95 := Int.emod_nonneg _ (by decide)
  have h1 : c % 95 < 95 := Int.emod_lt_of_pos _ (by decide)
  have hk : (c % 95).toNat < tabS.cps.toList.length := by
    rw [tab_len']
    omega
  have e : c % 95 = (((c % 95).toNat : Nat) : Int) := by omega
  have q : tabS.cps.toList[(c % 95).toNat]? = some (lsg c) := by
    unfold lsg
    rw [List.getD_eq_getElem?_getD, List.getElem?_eq_getElem hk]
    rfl
  rw [e]
  exact atI_nat q
theorem tab_small : tabS.cps.toList.all (fun c => decide (c < 0x110000)) = true := by decide +kernel
theorem lsg_lt (c : Int) : lsg c < 0x110000 := by
  have h := lsg_at c
  have h0 : 0 ≤ c % 95 := Int.emod_nonneg _ (by decide)
  have h1 : c % 95 < 95 := Int.emod_lt_of_pos _ (by decide)
  unfold lsg
  rw [List.getD_eq_getElem?_getD]
  cases e : tabS.cps.toList[(c % 95).toNat]? with
  | none => exact (by decide : (0 : Nat) < 0x110000)
  | some k =>
    have hm := List.mem_of_getElem? e
    exact of_decide_eq_true (List.all_eq_true.mp tab_small k hm)
/-! ### readings in short -/
theorem or2 {t u : TT} {σ : L2.St} {H : Hp} {b1 b2 : Bool} {Q : Bool → Hp → Prop} (h1 : ∀ Q : Bool → Hp → Prop, Q b1 H → t σ H Q) (h2 : ∀ Q : Bool → Hp → Prop, Q b2 H → u σ H Q) (q : Q (b1 || b2) H) : tOr t u σ H Q := by
  refine h1 _ ?_
  cases b1
  · exact iteF (h2 Q q)
  · exact iteT q
theorem and2 {t u : TT} {σ : L2.St} {H : Hp} {b1 b2 : Bool} {Q : Bool → Hp → Prop} (h1 : ∀ Q : Bool → Hp → Prop, Q b1 H → t σ H Q) (h2 : ∀ Q : Bool → Hp → Prop, Q b2 H → u σ H Q) (q : Q (b1 && b2) H) : tAnd t u σ H Q := by
  refine h1 _ ?_
  cases b1
  · exact iteF q
  · exact iteT (h2 Q q)
theorem g_nx {i : Nat} {v : V} {σ : L2.St} {H : Hp} {a : L2.St → Hp → Prop} {b : VK} {c d : L2.St → Hp → Prop} (h : a (σ.set i (some v)) H) : gName i v σ H (L2.Ends.mk a b c d).nx := h
theorem e_nx {σ : L2.St} {H : Hp} {a : L2.St → Hp → Prop} {b : VK} {c d : L2.St → Hp → Prop} (h : a σ H) : (L2.Ends.mk a b c d).nx σ H := h
theorem g_name {i : Nat} {v : V} {σ : L2.St} {H : Hp} {Q : L2.St → Hp → Prop} (h : Q (σ.set i (some v)) H) : gName i v σ H Q := h
/-- a test that leaves all as it is -/
def Tst (t : TT) (σ : L2.St) (H : Hp) (b : Bool) : Prop := ∀ Q : Bool → Hp → Prop, Q b H → t σ H Q
theorem if_tst {c : TT} {x y : L2.TS} {D : L2.Ends} {σ : L2.St} {H : Hp} {b : Bool} (h : Tst c σ H b) (q1 : b = true → x D σ H) (q2 : b = false → y D σ H) : tIfS c x y D σ H := by
  refine h _ ?_
  cases b
  · exact iteF (q2 rfl)
  · exact iteT (q1 rfl)
theorem tst_or {t u : TT} {σ : L2.St} {H : Hp} {b1 b2 : Bool} (h1 : Tst t σ H b1) (h2 : Tst u σ H b2) : Tst (tOr t u) σ H (b1 || b2) := fun Q q => or2 h1 h2 q
theorem tst_and {t u : TT} {σ : L2.St} {H : Hp} {b1 b2 : Bool} (h1 : Tst t σ H b1) (h2 : Tst u σ H b2) : Tst (tAnd t u) σ H (b1 && b2) := fun Q q => and2 h1 h2 q
theorem yes_if {A B : Hp → Prop} {σ : L2.St} {H : Hp} (h : A H) : tYes σ H (fun b H3 => if b = true then A H3 else B H3) := by
  show if true = true then A H else B H
  rw [if_pos rfl]
  exact h
theorem at0 {α : Type} {xs : List α} {v : α} (h : xs[0]? = some v) : atI xs 0 = some v := atI_nat (j := 0) h
theorem at1 {α : Type} {xs : List α} {v : α} (h : xs[1]? = some v) : atI xs 1 = some v := atI_nat (j := 1) h
theorem at2 {α : Type} {xs : List α} {v : α} (h : xs[2]? = some v) : atI xs 2 = some v := atI_nat (j := 2) h
theorem last_get {α : Type} (xs : List α) (y : α) : (xs ++ [y])[(xs ++ [y]).length - 1]? = some y := by simp
theorem r_pop {H : Hp} {l : Addr} {xs : List V} {y : V} {Q : VK} (h : H l = some (.lst (xs ++ [y]))) (q : Q y (upd H l (.lst xs))) : rPop (.ref l) [] H Q := by
  refine ⟨l, xs ++ [y], y, rfl, rfl, h, by simp, ?_⟩
  rw [List.dropLast_concat]
  exact q
theorem r_ixT {H : Hp} {a : Addr} {xs : List V} {v : V} {Q : VK} (i : Nat) (h : SqT K H a xs) (e : xs[i]? = some v) (q : Q v H) : rIxT K (.ref a) (.int (i : Int)) H Q := ⟨a, xs, i, v, rfl, rfl, h, atI_nat e, q⟩
theorem r_ixL {H : Hp} {a : Addr} {xs : List V} {v : V} {Q : VK} (i : Nat) (h : SqL K H a xs) (e : xs[i]? = some v) (q : Q v H) : rIxL K (.ref a) (.int (i : Int)) H Q := ⟨a, xs, i, v, rfl, rfl, h, atI_nat e, q⟩
theorem sz {n : Nat} (h : n ≤ 10000) : n ≤ sizeLine := Nat.le_trans h (by decide)
theorem szl {n : Nat} (h : n ≤ 10000) : n < sizeLine := Nat.lt_of_le_of_lt h (by decide)
theorem inV3 (z a b c : Str) : inV (.str z) [.str a, .str b, .str c] = decide (z = a ∨ z = b ∨ z = c) := by
  rw [Bool.eq_iff_iff]
  show ((a == z) || ((b == z) || ((c == z) || false))) = true ↔ _
  simp only [Bool.or_eq_true, beq_iff_eq, Bool.or_false, decide_eq_true_eq]
  constructor
  · rintro (h | h | h)
    · exact .inl h.symm
    · exact .inr (.inl h.symm)
    · exact .inr (.inr h.symm)
  · rintro (h | h | h)
    · exact .inl h.symm
    · exact .inr (.inl h.symm)
    · exact .inr (.inr h.symm)
theorem inV2 (z a b : Str) : inV (.str z) [.str a, .str b] = decide (z = a ∨ z = b) := by
  rw [Bool.eq_iff_iff]
  show ((a == z) || ((b == z) || false)) = true ↔ _
  simp only [Bool.or_eq_true, beq_iff_eq, Bool.or_false, decide_eq_true_eq]
  constructor
  · rintro (h | h)
    · exact .inl h.symm
    · exact .inr h.symm
  · rintro (h | h)
    · exact .inl h.symm
    · exact .inr h.symm
/-- x in (a, b, ..), texts -/
theorem r_inT {H : Hp} {x : Str} {p : Addr} {xs : List V} {Q : VK} (h : SqT K H p xs) (f : xs.all flatV = true) (q : Q (.bl (inV (.str x) xs)) H) : rIn K false (.str x) (.ref p) H Q := ⟨p, xs, rfl, .inr h, rfl, f, q⟩
def tot (ps : List Pat) : Nat := (ps.map siz).sum
theorem tot_snoc (ps : List Pat) (p : Pat) : tot (ps ++ [p]) = tot ps + siz p := by
  unfold tot
  simp
theorem tot_nil : tot [] = 0 := rfl
theorem len_tot : ∀ ps : List Pat, ps.length ≤ tot ps
  | [] => Nat.le_refl _
  | p :: ps => by
    have h := len_tot ps
    have := siz_pos p
    show ps.length + 1 ≤ (siz p :: ps.map siz).sum
    rw [List.sum_cons]
    unfold tot at h
    omega
/-- one on the pile: the pattern, and whether it may take nothing -/
def Ent (K : PySem.W.Frag) (H : Hp) (p : Pat) (v : V) : Prop := ∃ t x, v = .ref t ∧ SqT K H t [x, .bl (nul p)] ∧ PAt K H p x
theorem Ent.mono {H H' : Hp} (e : TS K H H') {p : Pat} {v : V} : Ent K H p v → Ent K H' p v
  | ⟨t, x, h, q, u⟩ => ⟨t, x, h, e _ _ q, u.mono e⟩
theorem Ent.mk {H : Hp} {p : Pat} {t : Addr} {x : V} {b : Bool} (n : H t = none) (u : PAt K H p x) (e : nul p = b) : Ent K (upd H t (.tup [x, .bl b])) p (.ref t) := by
  subst e
  exact ⟨t, x, rfl, SqT.of upd_same, u.mono (TS.new n)⟩
end

/-! ### depths, data -/
def dep : Pat → Nat
  | .row p q => 1 + max (dep p) (dep q)
  | .or p q => 1 + max (dep p) (dep q)
  | .more p => 1 + dep p
  | .less p => 1 + dep p
  | .group _ p => 1 + dep p
  | _ => 1
theorem dep_pos (p : Pat) : 0 < dep p := by cases p <;> simp only [dep] <;> omega
def pd : Pat → PyData
  | .sign c => .tuple [.str "sign", .str ⟨#[c]⟩]
  | .any => .tuple [.str "any"]
  | .none => .tuple [.str "none"]
  | .row p q => .tuple [.str "row", pd p, pd q]
  | .or p q => .tuple [.str "or", pd p, pd q]
  | .more p => .tuple [.str "more", pd p]
  | .less p => .tuple [.str "less", pd p]
  | .group n p => .tuple [.str "group", .int n, pd p]
section
variable {K : PySem.W.Frag} {H : Hp}
theorem PAt.dp : ∀ {p : Pat} {v : V}, PAt K H p v → Dp K H v (pd p)
  | .sign _, _, ⟨_, h, _, t⟩ => by rw [h]; exact .tup t (.cons (.str _) (.cons (.str _) .nil))
  | .any, _, ⟨_, h, t⟩ => by rw [h]; exact .tup t (.cons (.str _) .nil)
  | .none, _, ⟨_, h, t⟩ => by rw [h]; exact .tup t (.cons (.str _) .nil)
  | .row _ _, _, ⟨_, _, _, h, t, u, w⟩ => by rw [h]; exact .tup t (.cons (.str _) (.cons (PAt.dp u) (.cons (PAt.dp w) .nil)))
  | .or _ _, _, ⟨_, _, _, h, t, u, w⟩ => by rw [h]; exact .tup t (.cons (.str _) (.cons (PAt.dp u) (.cons (PAt.dp w) .nil)))
  | .more _, _, ⟨_, _, h, t, u⟩ => by rw [h]; exact .tup t (.cons (.str _) (.cons (PAt.dp u) .nil))
  | .less _, _, ⟨_, _, h, t, u⟩ => by rw [h]; exact .tup t (.cons (.str _) (.cons (PAt.dp u) .nil))
  | .group _ _, _, ⟨_, _, h, _, t, u⟩ => by rw [h]; exact .tup t (.cons (.str _) (.cons (.int _) (.cons (PAt.dp u) .nil)))
theorem PAts.dp : ∀ {L : List Pat} {vs : List V}, PAts K H L vs → DpAll K H vs (L.map pd)
  | _, _, .nil => .nil
  | _, _, .cons h t => .cons h.dp (PAts.dp t)
theorem lay_cons {x : PyData} {xs : List PyData} (h : x.canLay0 = true) (t : PyData.canLayAll0 xs = true) : PyData.canLayAll0 (x :: xs) = true := by
  rw [PyData.canLayAll0, h, t]
  rfl
theorem lay_nil : PyData.canLayAll0 [] = true := by rw [PyData.canLayAll0]
theorem lay_tup {xs : List PyData} (h : PyData.canLayAll0 xs = true) : (PyData.tuple xs).canLay0 = true := by
  rw [PyData.canLay0]
  exact h
theorem lay_list {xs : List PyData} (h : PyData.canLayAll0 xs = true) : (PyData.list xs).canLay0 = true := by
  rw [PyData.canLay0]
  exact h
theorem lay_str {x : Str} (h : PyData.strOk x = true) : (PyData.str x).canLay0 = true := by
  rw [PyData.canLay0]
  exact h
theorem lay_int (i : Int) : (PyData.int i).canLay0 = true := by rw [PyData.canLay0]
theorem ok_chr {c : Nat} (h : c < 0x110000) : PyData.strOk ⟨#[c]⟩ = true := by
  unfold PyData.strOk
  simp [h]
theorem PAt.lay : ∀ {p : Pat} {v : V}, PAt K H p v → (pd p).canLay0 = true
  | .sign _, _, ⟨_, _, c, _⟩ => lay_tup (lay_cons (lay_str (by decide +kernel)) (lay_cons (lay_str (ok_chr c)) lay_nil))
  | .any, _, _ => lay_tup (lay_cons (lay_str (by decide +kernel)) lay_nil)
  | .none, _, _ => lay_tup (lay_cons (lay_str (by decide +kernel)) lay_nil)
  | .row _ _, _, ⟨_, _, _, _, _, u, w⟩ => lay_tup (lay_cons (lay_str (by decide +kernel)) (lay_cons (PAt.lay u) (lay_cons (PAt.lay w) lay_nil)))
  | .or _ _, _, ⟨_, _, _, _, _, u, w⟩ => lay_tup (lay_cons (lay_str (by decide +kernel)) (lay_cons (PAt.lay u) (lay_cons (PAt.lay w) lay_nil)))
  | .more _, _, ⟨_, _, _, _, u⟩ => lay_tup (lay_cons (lay_str (by decide +kernel)) (lay_cons (PAt.lay u) lay_nil))
  | .less _, _, ⟨_, _, _, _, u⟩ => lay_tup (lay_cons (lay_str (by decide +kernel)) (lay_cons (PAt.lay u) lay_nil))
  | .group _ _, _, ⟨_, _, _, _, _, u⟩ => lay_tup (lay_cons (lay_str (by decide +kernel)) (lay_cons (lay_int _) (lay_cons (PAt.lay u) lay_nil)))
theorem PAts.lay : ∀ {L : List Pat} {vs : List V}, PAts K H L vs → PyData.canLayAll0 (L.map pd) = true
  | _, _, .nil => lay_nil
  | _, _, .cons h t => lay_cons h.lay (PAts.lay t)
theorem pd_depth : ∀ p : Pat, (pd p).depth ≤ dep p
  | .sign _ => by simp [pd, dep, PyData.depth, PyData.depthAll]
  | .any => by simp [pd, dep, PyData.depth, PyData.depthAll]
  | .none => by simp [pd, dep, PyData.depth, PyData.depthAll]
  | .row p q => by
    have h1 := pd_depth p
    have h2 := pd_depth q
    simp only [pd, dep, PyData.depth, PyData.depthAll]
    omega
  | .or p q => by
    have h1 := pd_depth p
    have h2 := pd_depth q
    simp only [pd, dep, PyData.depth, PyData.depthAll]
    omega
  | .more p => by
    have h1 := pd_depth p
    simp only [pd, dep, PyData.depth, PyData.depthAll]
    omega
  | .less p => by
    have h1 := pd_depth p
    simp only [pd, dep, PyData.depth, PyData.depthAll]
    omega
  | .group n p => by
    have h1 := pd_depth p
    simp only [pd, dep, PyData.depth, PyData.depthAll]
    omega
theorem depthAll_app : ∀ xs ys : List PyData, PyData.depthAll (xs ++ ys) = max (PyData.depthAll xs) (PyData.depthAll ys)
  | [], ys => by simp [PyData.depthAll]
  | x :: xs, ys => by
    have h := depthAll_app xs ys
    simp only [List.cons_append, PyData.depthAll, h]
    omega
theorem subs_depth : ∀ p : Pat, PyData.depthAll ((subs p).map pd) ≤ dep p
  | .sign c => by
    have h := pd_depth (.sign c)
    simp only [subs, List.map, PyData.depthAll]
    omega
  | .any => by
    have h := pd_depth .any
    simp only [subs, List.map, PyData.depthAll]
    omega
  | .none => by
    have h := pd_depth .none
    simp only [subs, List.map, PyData.depthAll]
    omega
  | .row p q => by
    have h := pd_depth (.row p q)
    have h1 := subs_depth p
    have h2 := subs_depth q
    simp only [subs, List.map_cons, List.map_append, PyData.depthAll, depthAll_app]
    simp only [dep] at *
    omega
  | .or p q => by
    have h := pd_depth (.or p q)
    have h1 := subs_depth p
    have h2 := subs_depth q
    simp only [subs, List.map_cons, List.map_append, PyData.depthAll, depthAll_app]
    simp only [dep] at *
    omega
  | .more p => by
    have h := pd_depth (.more p)
    have h1 := subs_depth p
    simp only [subs, List.map_cons, PyData.depthAll]
    simp only [dep] at *
    omega
  | .less p => by
    have h := pd_depth (.less p)
    have h1 := subs_depth p
    simp only [subs, List.map_cons, PyData.depthAll]
    simp only [dep] at *
    omega
  | .group n p => by
    have h := pd_depth (.group n p)
    have h1 := subs_depth p
    simp only [subs, List.map_cons, PyData.depthAll]
    simp only [dep] at *
    omega
theorem shaped_of {d : PyData} (h : d.canLay0 = true) (z : d.depth ≤ 64) : SeqAt.shaped d = true := by
  unfold SeqAt.shaped
  rw [h, decide_eq_true z]
  rfl
theorem list_depth {xs : List PyData} {n : Nat} (h : PyData.depthAll xs ≤ n) : (PyData.list xs).depth ≤ 1 + n := by
  simp only [PyData.depth]
  omega
theorem ints_dp : ∀ ns : List Int, DpAll K H (ns.map V.int) (ns.map PyData.int)
  | [] => .nil
  | _ :: r => .cons (.int _) (ints_dp r)
theorem ints_lay : ∀ ns : List Int, PyData.canLayAll0 (ns.map PyData.int) = true
  | [] => lay_nil
  | _ :: r => lay_cons (lay_int _) (ints_lay r)
theorem ints_depth : ∀ ns : List Int, PyData.depthAll (ns.map PyData.int) = 0
  | [] => by simp [PyData.depthAll]
  | _ :: r => by simp [PyData.depthAll, PyData.depth, ints_depth r]
end
/-- the numbers of the groups among some parts -/
def nums (L : List Pat) : List Int := L.filterMap fun p => match p with
  | .group n _ => some n
  | _ => none
theorem siz_row (p q : Pat) : siz (.row p q) = 1 + siz p + siz q := by
  show (_ :: (subs p ++ subs q)).length = _
  rw [List.length_cons, List.length_append]
  unfold siz
  omega
theorem siz_or (p q : Pat) : siz (.or p q) = 1 + siz p + siz q := siz_row p q
theorem siz_more (p : Pat) : siz (.more p) = 1 + siz p := by
  show (_ :: subs p).length = _
  rw [List.length_cons]
  unfold siz
  omega
theorem siz_less (p : Pat) : siz (.less p) = 1 + siz p := siz_more p
theorem siz_group (n : Int) (p : Pat) : siz (.group n p) = 1 + siz p := siz_more p
/-! ### twins, empty rounds -/
theorem firstMet_full {ns : List Int} : ∀ {i : Nat}, i ≤ ns.length → (firstMet (fun i => ns.getD i 0) i).length = i → firstMet (fun i => ns.getD i 0) i = ns.take i ∧ (ns.take i).Nodup
  | 0, _, _ => ⟨rfl, by rw [List.take_zero]; exact List.nodup_nil⟩
  | i + 1, hi, h => by
    have hlt : i < ns.length := hi
    have hle := firstMet_length_le (fun i => ns.getD i 0) i
    have e1 : ns.getD i 0 = ns[i] := by
      rw [List.getD_eq_getElem?_getD, List.getElem?_eq_getElem hlt] <;> rfl
    have e2 : ns.take (i + 1) = ns.take i ++ [ns[i]] := by
      rw [List.take_add_one, List.getElem?_eq_getElem hlt] <;> rfl
    rw [firstMet_succ] at h ⊢
    unfold step_dedup at h ⊢
    by_cases c : (firstMet (fun i => ns.getD i 0) i).any (· == ns.getD i 0) = true
    · rw [if_pos c] at h
      omega
    · rw [if_neg c] at h ⊢
      rw [List.length_append, List.length_singleton] at h
      obtain ⟨q1, q2⟩ := firstMet_full (ns := ns) (i := i) (by omega) (by omega)
      rw [q1] at c ⊢
      rw [e1] at c ⊢
      rw [e2]
      refine ⟨rfl, ?_⟩
      rw [List.nodup_append]
      refine ⟨q2, by simp, fun a ha b hb => ?_⟩
      obtain rfl := List.mem_singleton.mp hb
      intro e
      exact c (List.any_eq_true.mpr ⟨a, ha, by rw [e]; exact beq_self_eq_true _⟩)
theorem twins_iff (ns : List Int) : ((firstMet (fun i => ns.getD i 0) ns.length).length : Int) < (ns.length : Int) ↔ ¬ ns.Nodup := by
  have hle := firstMet_length_le (fun i => ns.getD i 0) ns.length
  constructor
  · intro h hn
    rw [RZ.firstMet_nodup hn ns.length (Nat.le_refl _), List.take_length] at h
    omega
  · intro h
    by_cases e : (firstMet (fun i => ns.getD i 0) ns.length).length = ns.length
    · have := (firstMet_full (Nat.le_refl _) e).2
      rw [List.take_length] at this
      exact absurd this h
    · omega
/-- for each more and less: whether its p may take nothing -/
def erl (L : List Pat) : List Bool := L.filterMap fun x => match x with
  | .more q => some (nul q)
  | .less q => some (nul q)
  | _ => none
theorem next_part : ∀ (p : Pat) (R : List Pat) (i : Nat) (q : Pat), i < siz p → ((subs p ++ R)[i]? = some (.more q) ∨ (subs p ++ R)[i]? = some (.less q)) → (subs p ++ R)[i + 1]? = some q
  | .sign c, R, i, q, hi, h => by
    obtain rfl : i = 0 := by have : i < 1 := hi; omega
    rcases h with h | h <;> exact nomatch Option.some.inj h
  | .any, R, i, q, hi, h => by
    obtain rfl : i = 0 := by have : i < 1 := hi; omega
    rcases h with h | h <;> exact nomatch Option.some.inj h
  | .none, R, i, q, hi, h => by
    obtain rfl : i = 0 := by have : i < 1 := hi; omega
    rcases h with h | h <;> exact nomatch Option.some.inj h
  | .row p1 p2, R, i, q, hi, h => by
    rw [siz_row] at hi
    have e : subs (.row p1 p2) ++ R = .row p1 p2 :: (subs p1 ++ (subs p2 ++ R)) := by
      show (_ :: (subs p1 ++ subs p2)) ++ R = _
      rw [List.cons_append, List.append_assoc]
    rw [e] at h ⊢
    cases i with
    | zero => rcases h with h | h <;> exact nomatch Option.some.inj h
    | succ j =>
      rw [List.getElem?_cons_succ] at h ⊢
      by_cases hj : j < siz p1
      · exact next_part p1 _ j q hj h
      · have hl : (subs p1).length = siz p1 := rfl
        rw [List.getElem?_append_right (by omega)] at h ⊢
        have e2 : j + 1 - (subs p1).length = (j - (subs p1).length) + 1 := by omega
        rw [e2]
        exact next_part p2 R _ q (by omega) h
  | .or p1 p2, R, i, q, hi, h => by
    rw [siz_or] at hi
    have e : subs (.or p1 p2) ++ R = .or p1 p2 :: (subs p1 ++ (subs p2 ++ R)) := by
      show (_ :: (subs p1 ++ subs p2)) ++ R = _
      rw [List.cons_append, List.append_assoc]
    rw [e] at h ⊢
    cases i with
    | zero => rcases h with h | h <;> exact nomatch Option.some.inj h
    | succ j =>
      rw [List.getElem?_cons_succ] at h ⊢
      by_cases hj : j < siz p1
      · exact next_part p1 _ j q hj h
      · have hl : (subs p1).length = siz p1 := rfl
        rw [List.getElem?_append_right (by omega)] at h ⊢
        have e2 : j + 1 - (subs p1).length = (j - (subs p1).length) + 1 := by omega
        rw [e2]
        exact next_part p2 R _ q (by omega) h
  | .more p, R, i, q, hi, h => by
    rw [siz_more] at hi
    have e : subs (.more p) ++ R = .more p :: (subs p ++ R) := rfl
    rw [e] at h ⊢
    cases i with
    | zero =>
      rcases h with h | h
      · cases Option.some.inj h
        rw [subs_eq]
        rfl
      · exact nomatch Option.some.inj h
    | succ j =>
      rw [List.getElem?_cons_succ] at h ⊢
      exact next_part p R j q (by omega) h
  | .less p, R, i, q, hi, h => by
    rw [siz_less] at hi
    have e : subs (.less p) ++ R = .less p :: (subs p ++ R) := rfl
    rw [e] at h ⊢
    cases i with
    | zero =>
      rcases h with h | h
      · exact nomatch Option.some.inj h
      · cases Option.some.inj h
        rw [subs_eq]
        rfl
    | succ j =>
      rw [List.getElem?_cons_succ] at h ⊢
      exact next_part p R j q (by omega) h
  | .group n p, R, i, q, hi, h => by
    rw [siz_group] at hi
    have e : subs (.group n p) ++ R = .group n p :: (subs p ++ R) := rfl
    rw [e] at h ⊢
    cases i with
    | zero => rcases h with h | h <;> exact nomatch Option.some.inj h
    | succ j =>
      rw [List.getElem?_cons_succ] at h ⊢
      exact next_part p R j q (by omega) h
theorem next_part' {p q : Pat} {i : Nat} (h : (subs p)[i]? = some (.more q) ∨ (subs p)[i]? = some (.less q)) : (subs p)[i + 1]? = some q := by
  have hi : i < siz p := by
    rcases h with h | h
    · exact (List.getElem?_eq_some_iff.mp h).1
    · exact (List.getElem?_eq_some_iff.mp h).1
  have q' := next_part p [] i q hi
  rw [List.append_nil] at q'
  exact q' h
/-- a pattern that is not refused -/
def goodP (p : Pat) : Prop := (nums (subs p)).Nodup ∧ (erl (subs p)).any id = false
end Gm

set_option maxRecDepth 100000
set_option maxHeartbeats 4000000
namespace Gm
open PySem PySem.Spec PyProof.Rows L2
/-! ### match: cases (text, name ..) of a tuple, and _ -/
structure PM (X : Cx) (cases : List MatchCase) (t : V → L2.TS) : Prop where
  run : ∀ (pins : List (Addr × Obj)) (s : Shared) (σ : L2.St) (H : Hp) (D : L2.Ends) (x : V) (v : Value) (first : Bool), Inv X pins σ H s → RelV x v → t x D σ H → wpAny (model X.prog X.w) X.A (matchCases cases X.env v first) (SP X pins D) X.xe s
def tMatch (te : TE) (tm : V → L2.TS) : L2.TS := fun D σ H => te σ H fun x H1 => tm x D σ H1
/-- a case of n things: the text z, then names at the slots js -/
def tCase (K : PySem.W.Frag) (z : Str) (n : Nat) (tb : List V → L2.TS) (tr : V → L2.TS) : V → L2.TS := fun x D σ H =>
  ∃ p y ys, x = .ref p ∧ SqT K H p (.str y :: ys) ∧ ((y = z ∧ ys.length = n ∧ tb ys D σ H) ∨ ((y ≠ z ∨ ys.length ≠ n) ∧ tr x D σ H))
def set1 (i : Nat) (tb : L2.TS) : List V → L2.TS := fun ys D σ H => ∃ v, ys = [v] ∧ tb D (σ.set i (some v)) H
def set2 (i j : Nat) (tb : L2.TS) : List V → L2.TS := fun ys D σ H => ∃ v u, ys = [v, u] ∧ tb D ((σ.set i (some v)).set j (some u)) H
section
variable {X : Cx}
theorem ps_match {e : Expr} {cases : List MatchCase} {pos : Pos} {te : TE} {tm : V → L2.TS} (he : PE X e te) (hm : PM X cases tm) : PS X (.Match e cases pos) (tMatch te tm) := by
  refine ⟨fun pins s σ H D I h => ?_⟩
  exact wpAny_Match (thn (he.run pins s σ H _ I h) fun v s1 ⟨x, H1, I1, r1, q⟩ => hm.run pins s1 σ H1 D x v true I1 r1 q)
theorem pm_wild {body : List Stmt} {rest : List MatchCase} {pos : Pos} {tb : L2.TS} (hb : PSs X body tb) : PM X (⟨.MatchAs none none pos, none, body⟩ :: rest) (fun _ => tb) := by
  refine ⟨fun pins s σ H D x v first I r h => ?_⟩
  refine wpAny_matchCases_cons (wpAny_matchPattern_Capture ?_)
  exact wpAny_assignInOrder_none (hb.run pins s σ H D I h)
theorem fits63 {its : List Value} (h : its.length ≤ sizeLine) : ((its.toArray.size : Nat) : Int) < 2 ^ 63 := by
  rw [List.size_toArray]
  have := line63
  omega
/-- the literal against the tuple's first -/
theorem lit_eq {pins : List (Addr × Obj)} {s : Shared} {σ : L2.St} {H : Hp} {y z : Str} {u : Value} {k : Nat} {p1 p2 : Pos} {Q : Option (List (Str × Value)) → Shared → Prop} (I : Inv X pins σ H s) (r : RelV (.str y) u)
    (h1 : y = z → ∀ s', Inv X pins σ H s' → Q (some []) s') (h2 : y ≠ z → ∀ s', Inv X pins σ H s' → Q none s') :
    wpAny (model X.prog X.w) X.A (matchPattern (.MatchValue (.Constant (.str z) k p1) p2) X.env u) Q X.xe s := by
  refine wpAny_matchPattern_Value (thn ((pe_str (x := z) (j := k) (pos := p1)).run pins s σ H (fun x H' => x = .str z ∧ H' = H) I ⟨rfl, rfl⟩) fun v s1 ⟨x, H1, I1, rx, e1, e2⟩ => ?_)
  subst e1
  subst e2
  refine thn (op_eq pins s1 σ H1 (.str y) (.str z) u v (fun w H' => w = .bl (decide (V.str y = V.str z)) ∧ H' = H1) I1 r rx ⟨rfl, rfl, rfl⟩) fun c s2 ⟨w, H2, I2, rw', e3, e4⟩ => ?_
  subst e3
  subst e4
  cases (show c = Value.bool (decide (V.str y = V.str z)) from rw')
  refine wpAny_truthy_bool ?_
  by_cases e : y = z
  · rw [decide_eq_true (by rw [e])]
    exact h1 e s2 I2
  · rw [decide_eq_false (fun q => e (V.str.inj q))]
    exact h2 e s2 I2
theorem pm_case1 {z a : Str} {k i : Nat} {p1 p2 p3 p4 : Pos} {body : List Stmt} {rest : List MatchCase} {tb : L2.TS} {tr : V → L2.TS} (hc : X.calm = true) (hN : X.N.Nodup) (hi : X.N[i]? = some a) (hl : X.env.scope.names.lookup a = some .local)
    (hb : PSs X body tb) (hr : PM X rest tr) : PM X (⟨.MatchSequence [.MatchValue (.Constant (.str z) k p1) p2, .MatchAs none (some a) p3] p4, none, body⟩ :: rest) (tCase X.K z 1 (set1 i tb) tr) := by
  refine ⟨fun pins s σ H D x v first I r h => ?_⟩
  obtain ⟨p, y, ys, rfl, hq, h⟩ := h
  obtain rfl : v = Value.ref p := r
  obtain ⟨its, rv, p', hz⟩ := I.tuple hq
  have hlen := rv.length
  have hz' : its.length ≤ sizeLine := by rw [← hlen]; exact hz
  by_cases hn : its.toArray.size = 2
  · refine wpAny_matchCases_cons (matchSeq_tuple_hit p' (fits63 hz') hn ?_)
    show wpAny _ _ (unpackItems (.ref p) 2 none) _ _ _
    rw [← hn]
    refine unpackItems_tuple (I.ok.hd hc) p' fun h' hx' => ?_
    have I2 : Inv X pins σ H { s with toks := s.toks + 1 + 1, heap := h' } := I.kept (h' := h') (t' := s.toks + 1 + 1) fun b o e => hx' b o (Nat.ne_of_lt (Heap.lt_size e)) e
    have hn' : ys.length = 1 := by
      rw [List.size_toArray, ← hlen, List.length_cons] at hn
      omega
    cases rv with
    | @cons _ u0 _ us r0 rs =>
      obtain ⟨v1, rfl⟩ : ∃ v1, ys = [v1] := List.length_eq_one_iff.mp hn'
      cases rs with
      | @cons _ u1 _ us' r1 rs' =>
        cases rs'
        refine wpAny_matchEach_cons (lit_eq I2 r0 (fun e s3 I3 => ?_) (fun e s3 I3 => ?_))
        · refine wpAny_matchEach_cons (wpAny_matchPattern_Capture (wpAny_matchEach_nil ?_))
          rcases h with ⟨_, _, v', e', hb'⟩ | ⟨hne, _⟩
          · cases e'
            refine wpAny_assignInOrder_more (wpAny_bindName (store_ok I3 hN hi (.inl hl) r1 (fun s4 I4 => ?_) (.inr hl)))
            exact wpAny_assignInOrder_none (hb.run pins s4 _ H D I4 hb')
          · rcases hne with h1 | h1
            · exact absurd e h1
            · exact absurd rfl h1
        · rcases h with ⟨e', _⟩ | ⟨_, ht⟩
          · exact absurd e' e
          · exact hr.run pins s3 σ H D (.ref p) (Value.ref p) false I3 rfl ht
  · refine wpAny_matchCases_cons (matchSeq_tuple_miss p' (fits63 hz') hn ?_)
    rcases h with ⟨_, hl', _⟩ | ⟨_, ht⟩
    · refine absurd ?_ hn
      rw [List.size_toArray, ← hlen, List.length_cons, hl']
    · exact hr.run pins _ σ H D (.ref p) (Value.ref p) false (I.tok _) rfl ht
theorem pm_case2 {z a b : Str} {k i j : Nat} {p1 p2 p3 p4 p5 : Pos} {body : List Stmt} {rest : List MatchCase} {tb : L2.TS} {tr : V → L2.TS} (hc : X.calm = true) (hN : X.N.Nodup) (hi : X.N[i]? = some a) (hl : X.env.scope.names.lookup a = some .local) (hj : X.N[j]? = some b) (hl2 : X.env.scope.names.lookup b = some .local)
    (hb : PSs X body tb) (hr : PM X rest tr) : PM X (⟨.MatchSequence [.MatchValue (.Constant (.str z) k p1) p2, .MatchAs none (some a) p3, .MatchAs none (some b) p5] p4, none, body⟩ :: rest) (tCase X.K z 2 (set2 i j tb) tr) := by
  refine ⟨fun pins s σ H D x v first I r h => ?_⟩
  obtain ⟨p, y, ys, rfl, hq, h⟩ := h
  obtain rfl : v = Value.ref p := r
  obtain ⟨its, rv, p', hz⟩ := I.tuple hq
  have hlen := rv.length
  have hz' : its.length ≤ sizeLine := by rw [← hlen]; exact hz
  by_cases hn : its.toArray.size = 3
  · refine wpAny_matchCases_cons (matchSeq_tuple_hit p' (fits63 hz') hn ?_)
    show wpAny _ _ (unpackItems (.ref p) 3 none) _ _ _
    rw [← hn]
    refine unpackItems_tuple (I.ok.hd hc) p' fun h' hx' => ?_
    have I2 : Inv X pins σ H { s with toks := s.toks + 1 + 1, heap := h' } := I.kept (h' := h') (t' := s.toks + 1 + 1) fun b o e => hx' b o (Nat.ne_of_lt (Heap.lt_size e)) e
    have hn' : ys.length = 2 := by
      rw [List.size_toArray, ← hlen, List.length_cons] at hn
      omega
    cases rv with
    | @cons _ u0 _ us r0 rs =>
      obtain ⟨v1, v2, rfl⟩ : ∃ v1 v2, ys = [v1, v2] := match ys, hn' with | [v1, v2], _ => ⟨v1, v2, rfl⟩
      cases rs with
      | @cons _ u1 _ us' r1 rs' =>
        cases rs' with
        | @cons _ u2 _ us2 r2 rs2 =>
          cases rs2
          refine wpAny_matchEach_cons (lit_eq I2 r0 (fun e s3 I3 => ?_) (fun e s3 I3 => ?_))
          · refine wpAny_matchEach_cons (wpAny_matchPattern_Capture (wpAny_matchEach_cons (wpAny_matchPattern_Capture (wpAny_matchEach_nil ?_))))
            rcases h with ⟨_, _, v', w', e', hb'⟩ | ⟨hne, _⟩
            · cases e'
              refine wpAny_assignInOrder_more (wpAny_bindName (store_ok I3 hN hi (.inl hl) r1 (fun s4 I4 => ?_) (.inr hl)))
              refine wpAny_assignInOrder_more (wpAny_bindName (store_ok I4 hN hj (.inl hl2) r2 (fun s5 I5 => ?_) (.inr hl2)))
              exact wpAny_assignInOrder_none (hb.run pins s5 _ H D I5 hb')
            · rcases hne with h1 | h1
              · exact absurd e h1
              · exact absurd rfl h1
          · rcases h with ⟨e', _⟩ | ⟨_, ht⟩
            · exact absurd e' e
            · exact hr.run pins s3 σ H D (.ref p) (Value.ref p) false I3 rfl ht
  · refine wpAny_matchCases_cons (matchSeq_tuple_miss p' (fits63 hz') hn ?_)
    rcases h with ⟨_, hl', _⟩ | ⟨_, ht⟩
    · refine absurd ?_ hn
      rw [List.size_toArray, ← hlen, List.length_cons, hl']
    · exact hr.run pins _ σ H D (.ref p) (Value.ref p) false (I.tok _) rfl ht
end
end Gm

set_option maxRecDepth 100000
set_option maxHeartbeats 4000000
namespace Gm
open PySem PySem.Spec PyProof.Rows L2
/-! ### states -/
inductive Th where
  | pat (p : Pat) | close (n : Int)
abbrev Sta := List Th × Nat
def tnm : Th → Str
  | .pat p => nm p
  | .close _ => "close"
def tdep : Th → Nat
  | .pat p => dep p
  | .close _ => 1
def tpd : Th → PyData
  | .pat p => pd p
  | .close n => .tuple [.str "close", .int n]
def spd (s : Sta) : PyData := .tuple [.tuple (s.1.map tpd), .int (s.2 : Int)]
/-- no deeper than n -/
def gd (n : Nat) (r : List Th) : Prop := ∀ t ∈ r, tdep t ≤ n
def unf : Th → List (List Th)
  | .pat (.row p q) => [[.pat p, .pat q]]
  | .pat (.or p q) => [[.pat p], [.pat q]]
  | .pat (.more p) => [[.pat p, .pat (.more p)], []]
  | .pat (.less p) => [[], [.pat p, .pat (.less p)]]
  | .pat (.group n p) => [[.pat p, .close n]]
  | _ => [[]]
def step (z : List Nat) : Sta → List Sta
  | ([], _) => []
  | (.pat (.sign c) :: r, k) => if z[k]? = some c then [(r, k + 1)] else []
  | (.pat .any :: r, k) => if k < z.length then [(r, k + 1)] else []
  | (t :: r, k) => (unf t).map fun a => (a ++ r, k)
theorem unf_gd {n : Nat} {t : Th} (h : tdep t ≤ n) : ∀ a ∈ unf t, gd n a ∧ a.length ≤ 2 := by
  intro a ha
  have one : ∀ {m : Nat}, 1 + m ≤ n → 1 ≤ n := fun h => by omega
  cases t with
  | close m =>
    obtain rfl := List.mem_singleton.mp ha
    exact ⟨fun t ht => absurd ht List.not_mem_nil, Nat.zero_le _⟩
  | pat p =>
    cases p with
    | row p q =>
      obtain rfl := List.mem_singleton.mp ha
      have h' : 1 + max (dep p) (dep q) ≤ n := h
      refine ⟨fun t ht => ?_, by show 2 ≤ 2; decide⟩
      rcases List.mem_cons.mp ht with rfl | ht
      · show dep p ≤ n
        omega
      · obtain rfl := List.mem_singleton.mp ht
        show dep q ≤ n
        omega
    | or p q =>
      have h' : 1 + max (dep p) (dep q) ≤ n := h
      rcases List.mem_cons.mp ha with rfl | ha
      · refine ⟨fun t ht => ?_, by show 1 ≤ 2; decide⟩
        obtain rfl := List.mem_singleton.mp ht
        show dep p ≤ n
        omega
      · obtain rfl := List.mem_singleton.mp ha
        refine ⟨fun t ht => ?_, by show 1 ≤ 2; decide⟩
        obtain rfl := List.mem_singleton.mp ht
        show dep q ≤ n
        omega
    | more p =>
      have h' : 1 + dep p ≤ n := h
      rcases List.mem_cons.mp ha with rfl | ha
      · refine ⟨fun t ht => ?_, by show 2 ≤ 2; decide⟩
        rcases List.mem_cons.mp ht with rfl | ht
        · show dep p ≤ n
          omega
        · obtain rfl := List.mem_singleton.mp ht
          exact h
      · obtain rfl := List.mem_singleton.mp ha
        exact ⟨fun t ht => absurd ht List.not_mem_nil, Nat.zero_le _⟩
    | less p =>
      have h' : 1 + dep p ≤ n := h
      rcases List.mem_cons.mp ha with rfl | ha
      · exact ⟨fun t ht => absurd ht List.not_mem_nil, Nat.zero_le _⟩
      · obtain rfl := List.mem_singleton.mp ha
        refine ⟨fun t ht => ?_, by show 2 ≤ 2; decide⟩
        rcases List.mem_cons.mp ht with rfl | ht
        · show dep p ≤ n
          omega
        · obtain rfl := List.mem_singleton.mp ht
          exact h
    | group m p =>
      have h' : 1 + dep p ≤ n := h
      obtain rfl := List.mem_singleton.mp ha
      refine ⟨fun t ht => ?_, by show 2 ≤ 2; decide⟩
      rcases List.mem_cons.mp ht with rfl | ht
      · show dep p ≤ n
        omega
      · obtain rfl := List.mem_singleton.mp ht
        show 1 ≤ n
        omega
    | _ =>
      obtain rfl := List.mem_singleton.mp ha
      exact ⟨fun t ht => absurd ht List.not_mem_nil, Nat.zero_le _⟩
/-- a step keeps within the text, within the depth, and adds no more than one thing -/
theorem step_map {z : List Nat} {n m : Nat} {t : Th} {r : List Th} {k : Nat} (hg : gd n (t :: r)) (hm : (t :: r).length ≤ m) (hk : k ≤ z.length) : ∀ s ∈ (unf t).map (fun a => ((a ++ r, k) : Sta)), gd n s.1 ∧ s.1.length ≤ m + 1 ∧ s.2 ≤ z.length := by
  intro s hs
  obtain ⟨a, ha, rfl⟩ := List.mem_map.mp hs
  obtain ⟨g1, g2⟩ := unf_gd (hg t List.mem_cons_self) a ha
  refine ⟨fun u hu => ?_, ?_, hk⟩
  · rcases List.mem_append.mp hu with hu | hu
    · exact g1 u hu
    · exact hg u (List.mem_cons_of_mem _ hu)
  · show (a ++ r).length ≤ m + 1
    rw [List.length_append]
    rw [List.length_cons] at hm
    omega
theorem step_gd {z : List Nat} {n m : Nat} : ∀ {s : Sta}, gd n s.1 → s.1.length ≤ m → s.2 ≤ z.length → ∀ s' ∈ step z s, gd n s'.1 ∧ s'.1.length ≤ m + 1 ∧ s'.2 ≤ z.length
  | ([], _), _, _, _, s', h => absurd h List.not_mem_nil
  | (.pat (.sign c) :: r, k), hg, hm, hk, s', h => by
    have h : s' ∈ (if z[k]? = some c then [(r, k + 1)] else [] : List Sta) := h
    split at h
    · rename_i hc
      obtain rfl := List.mem_singleton.mp h
      refine ⟨fun u hu => hg u (List.mem_cons_of_mem _ hu), ?_, ?_⟩
      · rw [List.length_cons] at hm
        show r.length ≤ _
        omega
      · exact (List.getElem?_eq_some_iff.mp hc).1
    · exact absurd h List.not_mem_nil
  | (.pat .any :: r, k), hg, hm, hk, s', h => by
    have h : s' ∈ (if k < z.length then [(r, k + 1)] else [] : List Sta) := h
    split at h
    · rename_i hc
      obtain rfl := List.mem_singleton.mp h
      refine ⟨fun u hu => hg u (List.mem_cons_of_mem _ hu), ?_, hc⟩
      rw [List.length_cons] at hm
      show r.length ≤ _
      omega
    · exact absurd h List.not_mem_nil
  | (.pat .none :: r, k), hg, hm, hk, s', h => step_map hg hm hk s' h
  | (.pat (.row _ _) :: r, k), hg, hm, hk, s', h => step_map hg hm hk s' h
  | (.pat (.or _ _) :: r, k), hg, hm, hk, s', h => step_map hg hm hk s' h
  | (.pat (.more _) :: r, k), hg, hm, hk, s', h => step_map hg hm hk s' h
  | (.pat (.less _) :: r, k), hg, hm, hk, s', h => step_map hg hm hk s' h
  | (.pat (.group _ _) :: r, k), hg, hm, hk, s', h => step_map hg hm hk s' h
  | (.close _ :: r, k), hg, hm, hk, s', h => step_map hg hm hk s' h

section
variable {K : PySem.W.Frag}
def TAt (K : PySem.W.Frag) (H : Hp) : Th → V → Prop
  | .pat p, v => PAt K H p v
  | .close n, v => ∃ a, v = .ref a ∧ SqT K H a [.str "close", .int n]
theorem TAt.mono {H H' : Hp} (e : TS K H H') : ∀ {t : Th} {v : V}, TAt K H t v → TAt K H' t v
  | .pat _, _, h => PAt.mono e h
  | .close _, _, ⟨a, h, t⟩ => ⟨a, h, e _ _ t⟩
def TAts (K : PySem.W.Frag) (H : Hp) : List Th → List V → Prop := Paired (TAt K H)
theorem TAts.mono {H H' : Hp} (e : TS K H H') {L : List Th} {vs : List V} (h : TAts K H L vs) : TAts K H' L vs := Paired.mapP h fun _ _ z => z.mono e
theorem TAt.node {H : Hp} {t : Th} {v : V} (h : TAt K H t v) : ∃ a ws, v = .ref a ∧ SqT K H a (.str (tnm t) :: ws) := by
  cases t with
  | pat p =>
    obtain ⟨a, ws, e, q, _⟩ := PAt.node h
    exact ⟨a, _, e, q⟩
  | close n =>
    obtain ⟨a, e, q⟩ := h
    exact ⟨a, _, e, q⟩
/-- a tuple of things -/
def RAt (K : PySem.W.Frag) (H : Hp) (r : List Th) (v : V) : Prop := ∃ b vs, v = .ref b ∧ SqT K H b vs ∧ TAts K H r vs
theorem RAt.mono {H H' : Hp} (e : TS K H H') {r : List Th} {v : V} : RAt K H r v → RAt K H' r v
  | ⟨b, vs, h, q, t⟩ => ⟨b, vs, h, e _ _ q, t.mono e⟩
def SAt (K : PySem.W.Frag) (H : Hp) (s : Sta) (v : V) : Prop := ∃ a x, v = .ref a ∧ SqT K H a [x, .int (s.2 : Int)] ∧ RAt K H s.1 x
theorem SAt.mono {H H' : Hp} (e : TS K H H') {s : Sta} {v : V} : SAt K H s v → SAt K H' s v
  | ⟨a, x, h, q, t⟩ => ⟨a, x, h, e _ _ q, t.mono e⟩
def SAts (K : PySem.W.Frag) (H : Hp) : List Sta → List V → Prop := Paired (SAt K H)
theorem SAts.mono {H H' : Hp} (e : TS K H H') {L : List Sta} {vs : List V} (h : SAts K H L vs) : SAts K H' L vs := Paired.mapP h fun _ _ z => z.mono e

/-! ### as data -/
variable {H : Hp}
theorem TAt.dp : ∀ {t : Th} {v : V}, TAt K H t v → Dp K H v (tpd t)
  | .pat _, _, h => PAt.dp h
  | .close _, _, ⟨_, h, q⟩ => by rw [h]; exact .tup q (.cons (.str _) (.cons (.int _) .nil))
theorem TAts.dp : ∀ {L : List Th} {vs : List V}, TAts K H L vs → DpAll K H vs (L.map tpd)
  | _, _, .nil => .nil
  | _, _, .cons h t => .cons h.dp (TAts.dp t)
theorem TAt.lay : ∀ {t : Th} {v : V}, TAt K H t v → (tpd t).canLay0 = true
  | .pat _, _, h => PAt.lay h
  | .close _, _, _ => lay_tup (lay_cons (lay_str (by decide +kernel)) (lay_cons (lay_int _) lay_nil))
theorem TAts.lay : ∀ {L : List Th} {vs : List V}, TAts K H L vs → PyData.canLayAll0 (L.map tpd) = true
  | _, _, .nil => lay_nil
  | _, _, .cons h t => lay_cons h.lay (TAts.lay t)
theorem tpd_depth (t : Th) : (tpd t).depth ≤ tdep t := by
  cases t with
  | pat p => exact pd_depth p
  | close n => simp [tpd, tdep, PyData.depth, PyData.depthAll]
theorem tpds_depth {n : Nat} : ∀ {L : List Th}, gd n L → PyData.depthAll (L.map tpd) ≤ n
  | [], _ => by simp [PyData.depthAll]
  | t :: L, h => by
    have h1 := Nat.le_trans (tpd_depth t) (h t List.mem_cons_self)
    have h2 := tpds_depth (L := L) fun u hu => h u (List.mem_cons_of_mem _ hu)
    simp only [List.map_cons, PyData.depthAll]
    omega
theorem RAt.dp {r : List Th} {v : V} (h : RAt K H r v) : Dp K H v (.tuple (r.map tpd)) := by
  obtain ⟨b, vs, rfl, q, t⟩ := h
  exact .tup q t.dp
theorem SAt.dp {s : Sta} {v : V} (h : SAt K H s v) : Dp K H v (spd s) := by
  obtain ⟨a, x, rfl, q, t⟩ := h
  exact .tup q (.cons t.dp (.cons (.int _) .nil))
theorem SAt.lay {s : Sta} {v : V} (h : SAt K H s v) : (spd s).canLay0 = true := by
  obtain ⟨a, x, rfl, q, ⟨b, vs, rfl, q2, t⟩⟩ := h
  exact lay_tup (lay_cons (lay_tup t.lay) (lay_cons (lay_int _) lay_nil))
theorem spd_depth {n : Nat} {s : Sta} (h : gd n s.1) : (spd s).depth ≤ 2 + n := by
  have h1 := tpds_depth h
  simp only [spd, PyData.depth, PyData.depthAll]
  omega
theorem SAts.dp : ∀ {L : List Sta} {vs : List V}, SAts K H L vs → DpAll K H vs (L.map spd)
  | _, _, .nil => .nil
  | _, _, .cons h t => .cons h.dp (SAts.dp t)
theorem SAts.lay : ∀ {L : List Sta} {vs : List V}, SAts K H L vs → PyData.canLayAll0 (L.map spd) = true
  | _, _, .nil => lay_nil
  | _, _, .cons h t => lay_cons h.lay (SAts.lay t)
theorem spds_depth {n : Nat} : ∀ {L : List Sta}, (∀ s ∈ L, gd n s.1) → PyData.depthAll (L.map spd) ≤ 2 + n
  | [], _ => by simp [PyData.depthAll]
  | s :: L, h => by
    have h1 := spd_depth (h s List.mem_cons_self)
    have h2 := spds_depth (L := L) fun u hu => h u (List.mem_cons_of_mem _ hu)
    simp only [List.map_cons, PyData.depthAll]
    omega
/-- the end of the text -/
def isEnd (z : Str) (s : Sta) : Bool := s.1.isEmpty && decide ((s.2 : Int) = (z.length : Int))
theorem eqv_end (s : Sta) (n : Int) : PyData.eqv (spd s) (.tuple [.tuple [], .int n]) = (s.1.isEmpty && decide ((s.2 : Int) = n)) := by
  obtain ⟨r, k⟩ := s
  cases r with
  | nil =>
    simp [spd, PyData.eqv, PyData.eqvAll]
    rw [Bool.eq_iff_iff]
    simp
  | cons t r => simp [spd, PyData.eqv, PyData.eqvAll]
/-! ### t + u, t[1:], s[k:k + 1] -/
theorem r_catA {a b : Addr} {xs ys : List V} {Q : VK} (ha : SqT K H a xs) (hb : SqT K H b ys) (hz : xs.length + ys.length ≤ sizeLine) (q : ∀ c H', Same H H' → SqT K H' c (xs ++ ys) → Q (.ref c) H') : rCatA K (.ref a) (.ref b) H Q := by
  refine ⟨a, b, xs, ys, rfl, rfl, ha, hb, hz, fun e => q b H (Same.refl _) ?_, fun _ e => q a H (Same.refl _) ?_, fun _ _ p np => q p _ (same_new np) (SqT.of upd_same)⟩
  · rw [e, List.nil_append]
    exact hb
  · rw [e, List.append_nil]
    exact ha
theorem cut_tail (v : V) (vs : List V) : cutV (v :: vs) (some 1) none = vs := by
  unfold cutV
  rw [show HT.sIx (v :: vs).length 0 (some 1) = min 1 (v :: vs).length from HT.sIx_nat _ 0 1, HT.sIx_none, List.length_cons]
  rw [show min 1 (vs.length + 1) = 1 by omega]
  show List.take (vs.length + 1 - 1) vs = vs
  rw [Nat.add_sub_cancel]
  exact List.take_length
theorem not_whole (v : V) (vs : List V) : ¬ (HT.sIx (v :: vs).length 0 (some 1) = 0 ∧ HT.sIx (v :: vs).length (v :: vs).length none = (v :: vs).length) := fun ⟨h, _⟩ => by
  rw [show HT.sIx (v :: vs).length 0 (some 1) = min 1 (v :: vs).length from HT.sIx_nat _ 0 1, List.length_cons] at h
  omega
theorem cut_one (z : Str) (k : Nat) : cutS z (some (k : Int)) (some ((k : Int) + 1)) = ⟨((z.cps.toList[k]?).toList).toArray⟩ := by
  have e1 : ((k : Int) + 1) = ((k + 1 : Nat) : Int) := by omega
  have el : z.cps.toList.length = z.length := by simp [Str.length]
  unfold cutS
  rw [e1, HT.sIx_nat, HT.sIx_nat]
  congr 2
  by_cases h : k < z.length
  · have h' : k < z.cps.toList.length := by omega
    rw [show min k z.length = k by omega, show min (k + 1) z.length - k = 1 by omega, List.getElem?_eq_getElem h', List.drop_eq_getElem_cons h']
    rfl
  · rw [show min (k + 1) z.length - min k z.length = 0 by omega, List.take_zero, List.getElem?_eq_none (by omega)]
    rfl
end
end Gm

set_option maxRecDepth 100000
set_option maxHeartbeats 4000000
/-! the search: rests, weights, ways, dead ends -/
namespace Gm
open PySem PySem.Spec PyProof.Rows L2
/-! ### rests -/
def adv : List Th → List (List Th)
  | [] => []
  | .pat (.sign _) :: r => [r]
  | .pat .any :: r => [r]
  | t :: r => (unf t).map fun a => a ++ r
def conts : Pat → List Th → List (List Th)
  | .row p q, k => (.pat (.row p q) :: k) :: (conts p (.pat q :: k) ++ conts q k)
  | .or p q, k => (.pat (.or p q) :: k) :: (conts p k ++ conts q k)
  | .more p, k => (.pat (.more p) :: k) :: conts p (.pat (.more p) :: k)
  | .less p, k => (.pat (.less p) :: k) :: conts p (.pat (.less p) :: k)
  | .group n p, k => (.pat (.group n p) :: k) :: (conts p (.close n :: k) ++ [.close n :: k])
  | p, k => [.pat p :: k]
theorem conts_hd (p : Pat) (k : List Th) : (.pat p :: k) ∈ conts p k := by
  cases p <;> simp [conts]
theorem conts_len : ∀ (p : Pat) (k : List Th), (conts p k).length ≤ 2 * siz p
  | .sign _, k => by show 1 ≤ 2; decide
  | .any, k => by show 1 ≤ 2; decide
  | .none, k => by show 1 ≤ 2; decide
  | .row p q, k => by
    have h1 := conts_len p (.pat q :: k)
    have h2 := conts_len q k
    rw [siz_row]
    simp only [conts, List.length_cons, List.length_append]
    omega
  | .or p q, k => by
    have h1 := conts_len p k
    have h2 := conts_len q k
    rw [siz_or]
    simp only [conts, List.length_cons, List.length_append]
    omega
  | .more p, k => by
    have h1 := conts_len p (.pat (.more p) :: k)
    rw [siz_more]
    simp only [conts, List.length_cons]
    omega
  | .less p, k => by
    have h1 := conts_len p (.pat (.less p) :: k)
    rw [siz_less]
    simp only [conts, List.length_cons]
    omega
  | .group n p, k => by
    have h1 := conts_len p (.close n :: k)
    rw [siz_group]
    simp only [conts, List.length_cons, List.length_append, List.length_nil]
    omega
theorem conts_adv : ∀ (p : Pat) (k r : List Th), r ∈ conts p k → ∀ r' ∈ adv r, r' ∈ conts p k ∨ r' = k
  | .sign _, k, r, h, r', h' => by
    obtain rfl := List.mem_singleton.mp h
    exact .inr (List.mem_singleton.mp h')
  | .any, k, r, h, r', h' => by
    obtain rfl := List.mem_singleton.mp h
    exact .inr (List.mem_singleton.mp h')
  | .none, k, r, h, r', h' => by
    obtain rfl := List.mem_singleton.mp h
    exact .inr (List.mem_singleton.mp h')
  | .row p q, k, r, h, r', h' => by
    simp only [conts, List.mem_cons, List.mem_append] at h ⊢
    rcases h with rfl | h | h
    · obtain rfl := List.mem_singleton.mp h'
      exact .inl (.inr (.inl (conts_hd p _)))
    · rcases conts_adv p _ r h r' h' with z | rfl
      · exact .inl (.inr (.inl z))
      · exact .inl (.inr (.inr (conts_hd q k)))
    · rcases conts_adv q _ r h r' h' with z | rfl
      · exact .inl (.inr (.inr z))
      · exact .inr rfl
  | .or p q, k, r, h, r', h' => by
    simp only [conts, List.mem_cons, List.mem_append] at h ⊢
    rcases h with rfl | h | h
    · have h2 : r' ∈ [[.pat p] ++ k, [.pat q] ++ k] := h'
      rcases List.mem_cons.mp h2 with rfl | h2
      · exact .inl (.inr (.inl (conts_hd p _)))
      · obtain rfl := List.mem_singleton.mp h2
        exact .inl (.inr (.inr (conts_hd q _)))
    · rcases conts_adv p _ r h r' h' with z | rfl
      · exact .inl (.inr (.inl z))
      · exact .inr rfl
    · rcases conts_adv q _ r h r' h' with z | rfl
      · exact .inl (.inr (.inr z))
      · exact .inr rfl
  | .more p, k, r, h, r', h' => by
    simp only [conts, List.mem_cons] at h ⊢
    rcases h with rfl | h
    · have h2 : r' ∈ [[.pat p, .pat (.more p)] ++ k, [] ++ k] := h'
      rcases List.mem_cons.mp h2 with rfl | h2
      · exact .inl (.inr (conts_hd p _))
      · obtain rfl := List.mem_singleton.mp h2
        exact .inr rfl
    · rcases conts_adv p _ r h r' h' with z | rfl
      · exact .inl (.inr z)
      · exact .inl (.inl rfl)
  | .less p, k, r, h, r', h' => by
    simp only [conts, List.mem_cons] at h ⊢
    rcases h with rfl | h
    · have h2 : r' ∈ [[] ++ k, [.pat p, .pat (.less p)] ++ k] := h'
      rcases List.mem_cons.mp h2 with rfl | h2
      · exact .inr rfl
      · obtain rfl := List.mem_singleton.mp h2
        exact .inl (.inr (conts_hd p _))
    · rcases conts_adv p _ r h r' h' with z | rfl
      · exact .inl (.inr z)
      · exact .inl (.inl rfl)
  | .group n p, k, r, h, r', h' => by
    simp only [conts, List.mem_cons, List.mem_append, List.not_mem_nil, or_false] at h ⊢
    rcases h with rfl | h | rfl
    · obtain rfl := List.mem_singleton.mp h'
      exact .inl (.inr (.inl (conts_hd p _)))
    · rcases conts_adv p _ r h r' h' with z | rfl
      · exact .inl (.inr (.inl z))
      · exact .inl (.inr (.inr rfl))
    · have h2 : r' ∈ [[] ++ k] := h'
      exact .inr (List.mem_singleton.mp h2)
/-- no empty round -/
def nr : Pat → Bool
  | .row p q => nr p && nr q
  | .or p q => nr p && nr q
  | .more p => !nul p && nr p
  | .less p => !nul p && nr p
  | .group _ p => nr p
  | _ => true
theorem erl_append (A B : List Pat) : erl (A ++ B) = erl A ++ erl B := by
  unfold erl
  rw [List.filterMap_append]
theorem nr_iff : ∀ p : Pat, (erl (subs p)).any id = !nr p
  | .sign _ => rfl
  | .any => rfl
  | .none => rfl
  | .row p q => by
    have h1 := nr_iff p
    have h2 := nr_iff q
    show (erl (subs p ++ subs q)).any id = _
    rw [erl_append, List.any_append, h1, h2]
    simp [nr, Bool.not_and]
  | .or p q => by
    have h1 := nr_iff p
    have h2 := nr_iff q
    show (erl (subs p ++ subs q)).any id = _
    rw [erl_append, List.any_append, h1, h2]
    simp [nr, Bool.not_and]
  | .more p => by
    have h1 := nr_iff p
    show (nul p || (erl (subs p)).any id) = _
    rw [h1]
    simp [nr, Bool.not_and]
  | .less p => by
    have h1 := nr_iff p
    show (nul p || (erl (subs p)).any id) = _
    rw [h1]
    simp [nr, Bool.not_and]
  | .group n p => nr_iff p
theorem goodP.nr {p : Pat} (h : goodP p) : nr p = true := by
  have := nr_iff p
  rw [h.2] at this
  cases e : Gm.nr p
  · rw [e] at this
    cases this
  · rfl
def tnr : Th → Bool
  | .pat p => nr p
  | .close _ => true
/-- what holds of all rests of a pattern -/
structure ROk (d l : Nat) (r : List Th) : Prop where
  gd : gd d r
  len : r.length ≤ l
  nr : ∀ t ∈ r, tnr t = true
theorem ROk.cons {d l : Nat} {t : Th} {r : List Th} (h1 : tdep t ≤ d) (h2 : tnr t = true) (h : ROk d l r) : ROk d (l + 1) (t :: r) := ⟨fun u hu => by
  rcases List.mem_cons.mp hu with rfl | hu
  · exact h1
  · exact h.gd u hu, by rw [List.length_cons]; have := h.len; omega, fun u hu => by
  rcases List.mem_cons.mp hu with rfl | hu
  · exact h2
  · exact h.nr u hu⟩
theorem ROk.le {d l l' : Nat} {r : List Th} (h : ROk d l r) (e : l ≤ l') : ROk d l' r := ⟨h.gd, Nat.le_trans h.len e, h.nr⟩
theorem conts_ok : ∀ (p : Pat) (k : List Th) (d l : Nat), dep p ≤ d → nr p = true → ROk d l k → ∀ r ∈ conts p k, ROk d (l + dep p) r
  | .sign c, k, d, l, hd, hn, hk, r, h => by
    obtain rfl := List.mem_singleton.mp h
    exact hk.cons hd hn
  | .any, k, d, l, hd, hn, hk, r, h => by
    obtain rfl := List.mem_singleton.mp h
    exact hk.cons hd hn
  | .none, k, d, l, hd, hn, hk, r, h => by
    obtain rfl := List.mem_singleton.mp h
    exact hk.cons hd hn
  | .row p q, k, d, l, hd, hn, hk, r, h => by
    have hd' : 1 + max (dep p) (dep q) ≤ d := hd
    have hn' := Bool.and_eq_true_iff.mp hn
    have d1 : dep (.row p q) = 1 + max (dep p) (dep q) := rfl
    simp only [conts, List.mem_cons, List.mem_append] at h
    rcases h with rfl | h | h
    · exact (hk.cons (t := .pat (.row p q)) hd hn).le (by omega)
    · exact (conts_ok p _ d (l + 1) (by omega) hn'.1 (hk.cons (t := .pat q) (show dep q ≤ d by omega) hn'.2) r h).le (by omega)
    · exact (conts_ok q _ d l (by omega) hn'.2 hk r h).le (by omega)
  | .or p q, k, d, l, hd, hn, hk, r, h => by
    have hd' : 1 + max (dep p) (dep q) ≤ d := hd
    have hn' := Bool.and_eq_true_iff.mp hn
    have d1 : dep (.or p q) = 1 + max (dep p) (dep q) := rfl
    simp only [conts, List.mem_cons, List.mem_append] at h
    rcases h with rfl | h | h
    · exact (hk.cons (t := .pat (.or p q)) hd hn).le (by omega)
    · exact (conts_ok p _ d l (by omega) hn'.1 hk r h).le (by omega)
    · exact (conts_ok q _ d l (by omega) hn'.2 hk r h).le (by omega)
  | .more p, k, d, l, hd, hn, hk, r, h => by
    have hd' : 1 + dep p ≤ d := hd
    have hn' := Bool.and_eq_true_iff.mp hn
    have d1 : dep (.more p) = 1 + dep p := rfl
    simp only [conts, List.mem_cons] at h
    have hm := hk.cons (t := .pat (.more p)) hd hn
    rcases h with rfl | h
    · exact hm.le (by omega)
    · exact (conts_ok p _ d (l + 1) (by omega) hn'.2 hm r h).le (by omega)
  | .less p, k, d, l, hd, hn, hk, r, h => by
    have hd' : 1 + dep p ≤ d := hd
    have hn' := Bool.and_eq_true_iff.mp hn
    have d1 : dep (.less p) = 1 + dep p := rfl
    simp only [conts, List.mem_cons] at h
    have hm := hk.cons (t := .pat (.less p)) hd hn
    rcases h with rfl | h
    · exact hm.le (by omega)
    · exact (conts_ok p _ d (l + 1) (by omega) hn'.2 hm r h).le (by omega)
  | .group n p, k, d, l, hd, hn, hk, r, h => by
    have hd' : 1 + dep p ≤ d := hd
    have d1 : dep (.group n p) = 1 + dep p := rfl
    have p1 := dep_pos p
    simp only [conts, List.mem_cons, List.mem_append, List.not_mem_nil, or_false] at h
    have hc := hk.cons (t := .close n) (show 1 ≤ d by omega) rfl
    rcases h with rfl | h | rfl
    · exact (hk.cons (t := .pat (.group n p)) hd hn).le (by omega)
    · exact (conts_ok p _ d (l + 1) (by omega) hn hc r h).le (by omega)
    · exact hc.le (by omega)
/-- all rests of a pattern -/
def allr (p : Pat) : List (List Th) := conts p [] ++ [[]]
theorem allr_len (p : Pat) : (allr p).length ≤ 2 * siz p + 1 := by
  unfold allr
  rw [List.length_append]
  have := conts_len p []
  show _ + 1 ≤ _
  omega
theorem allr_adv {p : Pat} {r : List Th} (h : r ∈ allr p) : ∀ r' ∈ adv r, r' ∈ allr p := by
  intro r' h'
  rcases List.mem_append.mp h with h | h
  · rcases conts_adv p [] r h r' h' with z | z
    · exact List.mem_append_left _ z
    · rw [z]
      exact List.mem_append_right _ (List.mem_singleton.mpr rfl)
  · rw [List.mem_singleton.mp h] at h'
    exact absurd h' List.not_mem_nil
theorem allr_ok {p : Pat} (hn : nr p = true) : ∀ r ∈ allr p, ROk (dep p) (dep p) r := by
  intro r h
  have nilOk : ROk (dep p) 0 [] := ⟨fun t ht => absurd ht List.not_mem_nil, Nat.le_refl _, fun t ht => absurd ht List.not_mem_nil⟩
  rcases List.mem_append.mp h with h | h
  · exact (conts_ok p [] (dep p) 0 (Nat.le_refl _) hn nilOk r h).le (by omega)
  · rw [List.mem_singleton.mp h]
    exact nilOk.le (Nat.zero_le _)
theorem allr_first (p : Pat) : [.pat p] ∈ allr p := List.mem_append_left _ (conts_hd p [])
theorem step_two (z : List Nat) : ∀ s : Sta, (step z s).length ≤ 2
  | ([], _) => Nat.zero_le _
  | (.pat (.sign c) :: r, k) => by
    show (if z[k]? = some c then [(r, k + 1)] else [] : List Sta).length ≤ 2
    split <;> simp
  | (.pat .any :: r, k) => by
    show (if k < z.length then [(r, k + 1)] else [] : List Sta).length ≤ 2
    split <;> simp
  | (.pat .none :: r, k) => by show 1 ≤ 2; decide
  | (.pat (.row _ _) :: r, k) => by show 1 ≤ 2; decide
  | (.pat (.or _ _) :: r, k) => by show 2 ≤ 2; decide
  | (.pat (.more _) :: r, k) => by show 2 ≤ 2; decide
  | (.pat (.less _) :: r, k) => by show 2 ≤ 2; decide
  | (.pat (.group _ _) :: r, k) => by show 1 ≤ 2; decide
  | (.close _ :: r, k) => by show 1 ≤ 2; decide
/-- nothing, or just what the rests lead on to -/
theorem step_adv (z : List Nat) : ∀ s : Sta, step z s = [] ∨ ∃ k, step z s = (adv s.1).map fun r => (r, k)
  | ([], _) => .inl rfl
  | (.pat (.sign c) :: r, k) => by
    show (if z[k]? = some c then [(r, k + 1)] else [] : List Sta) = [] ∨ ∃ k', (if z[k]? = some c then [(r, k + 1)] else [] : List Sta) = [(r, k')]
    split
    · exact .inr ⟨_, rfl⟩
    · exact .inl rfl
  | (.pat .any :: r, k) => by
    show (if k < z.length then [(r, k + 1)] else [] : List Sta) = [] ∨ ∃ k', (if k < z.length then [(r, k + 1)] else [] : List Sta) = [(r, k')]
    split
    · exact .inr ⟨_, rfl⟩
    · exact .inl rfl
  | (.pat .none :: r, k) => .inr ⟨k, rfl⟩
  | (.pat (.row _ _) :: r, k) => .inr ⟨k, rfl⟩
  | (.pat (.or _ _) :: r, k) => .inr ⟨k, rfl⟩
  | (.pat (.more _) :: r, k) => .inr ⟨k, rfl⟩
  | (.pat (.less _) :: r, k) => .inr ⟨k, rfl⟩
  | (.pat (.group _ _) :: r, k) => .inr ⟨k, rfl⟩
  | (.close _ :: r, k) => .inr ⟨k, rfl⟩
/-! ### weights -/
def wtp : Pat → Nat
  | .row p q => 1 + wtp p + wtp q
  | .or p q => 1 + wtp p + wtp q
  | .more p => 1 + wtp p
  | .less p => 1 + wtp p
  | .group _ p => 2 + wtp p
  | _ => 1
def wtt : Th → Nat
  | .pat p => wtp p
  | .close _ => 1
def tnul : Th → Bool
  | .pat p => nul p
  | .close _ => true
def wr : List Th → Nat
  | [] => 0
  | t :: r => wtt t + if tnul t = true then wr r else 0
theorem unf_dec {t : Th} {r : List Th} (h : tnr t = true) (hs : ∀ c, t ≠ .pat (.sign c)) (ha : t ≠ .pat .any) : ∀ a ∈ unf t, wr (a ++ r) < wr (t :: r) := by
  intro a hm
  cases t with
  | close n =>
    obtain rfl := List.mem_singleton.mp hm
    simp [wr, wtt, tnul]
  | pat p =>
    cases p with
    | sign c => exact absurd rfl (hs c)
    | any => exact absurd rfl ha
    | none =>
      obtain rfl := List.mem_singleton.mp hm
      simp [wr, wtt, wtp, tnul, nul]
    | row p q =>
      obtain rfl := List.mem_singleton.mp hm
      simp only [List.cons_append, List.nil_append, wr, wtt, wtp, tnul, nul]
      by_cases e1 : nul p = true <;> by_cases e2 : nul q = true <;> simp [e1, e2] <;> omega
    | or p q =>
      have hm2 : a ∈ [[.pat p], [.pat q]] := hm
      rcases List.mem_cons.mp hm2 with rfl | hm2
      · simp only [List.cons_append, List.nil_append, wr, wtt, wtp, tnul, nul]
        by_cases e1 : nul p = true <;> by_cases e2 : nul q = true <;> simp [e1, e2] <;> omega
      · obtain rfl := List.mem_singleton.mp hm2
        simp only [List.cons_append, List.nil_append, wr, wtt, wtp, tnul, nul]
        by_cases e1 : nul p = true <;> by_cases e2 : nul q = true <;> simp [e1, e2] <;> omega
    | more p =>
      have hn : nul p = false := by
        have h2 : (!nul p && nr p) = true := h
        cases e : nul p
        · rfl
        · rw [e] at h2
          cases h2
      have hm2 : a ∈ [[.pat p, .pat (.more p)], []] := hm
      rcases List.mem_cons.mp hm2 with rfl | hm2
      · simp only [List.cons_append, List.nil_append, wr, wtt, wtp, tnul, nul, hn]
        simp <;> omega
      · obtain rfl := List.mem_singleton.mp hm2
        simp only [List.cons_append, List.nil_append, wr, wtt, wtp, tnul, nul, hn]
        simp <;> omega
    | less p =>
      have hn : nul p = false := by
        have h2 : (!nul p && nr p) = true := h
        cases e : nul p
        · rfl
        · rw [e] at h2
          cases h2
      have hm2 : a ∈ [[], [.pat p, .pat (.less p)]] := hm
      rcases List.mem_cons.mp hm2 with rfl | hm2
      · simp only [List.cons_append, List.nil_append, wr, wtt, wtp, tnul, nul, hn]
        simp <;> omega
      · obtain rfl := List.mem_singleton.mp hm2
        simp only [List.cons_append, List.nil_append, wr, wtt, wtp, tnul, nul, hn]
        simp <;> omega
    | group n p =>
      obtain rfl := List.mem_singleton.mp hm
      simp only [List.cons_append, List.nil_append, wr, wtt, wtp, tnul, nul]
      by_cases e1 : nul p = true <;> simp [e1] <;> omega
/-- a state that may stand on a walk of the pattern -/
def SOk (p : Pat) (z : List Nat) (s : Sta) : Prop := s.1 ∈ allr p ∧ s.2 ≤ z.length
theorem step_map' {t : Th} {r : List Th} {k : Nat} (h : tnr t = true) (hs : ∀ c, t ≠ .pat (.sign c)) (ha : t ≠ .pat .any) : ∀ s' ∈ (unf t).map (fun a => ((a ++ r, k) : Sta)), s'.2 = k ∧ wr s'.1 < wr (t :: r) := by
  intro s' h'
  obtain ⟨a, hm, rfl⟩ := List.mem_map.mp h'
  exact ⟨rfl, unf_dec h hs ha a hm⟩
theorem step_dec {z : List Nat} : ∀ {s : Sta}, (∀ t ∈ s.1, tnr t = true) → ∀ s' ∈ step z s, (s'.2 = s.2 + 1 ∧ s.2 < z.length) ∨ (s'.2 = s.2 ∧ wr s'.1 < wr s.1)
  | ([], _), _, s', h => absurd h List.not_mem_nil
  | (.pat (.sign c) :: r, k), hn, s', h => by
    have h : s' ∈ (if z[k]? = some c then [(r, k + 1)] else [] : List Sta) := h
    split at h
    · rename_i hc
      obtain rfl := List.mem_singleton.mp h
      exact .inl ⟨rfl, (List.getElem?_eq_some_iff.mp hc).1⟩
    · exact absurd h List.not_mem_nil
  | (.pat .any :: r, k), hn, s', h => by
    have h : s' ∈ (if k < z.length then [(r, k + 1)] else [] : List Sta) := h
    split at h
    · rename_i hc
      obtain rfl := List.mem_singleton.mp h
      exact .inl ⟨rfl, hc⟩
    · exact absurd h List.not_mem_nil
  | (.pat .none :: r, k), hn, s', h => .inr (step_map' (hn _ List.mem_cons_self) (fun c e => nomatch e) (fun e => nomatch e) s' h)
  | (.pat (.row _ _) :: r, k), hn, s', h => .inr (step_map' (hn _ List.mem_cons_self) (fun c e => nomatch e) (fun e => nomatch e) s' h)
  | (.pat (.or _ _) :: r, k), hn, s', h => .inr (step_map' (hn _ List.mem_cons_self) (fun c e => nomatch e) (fun e => nomatch e) s' h)
  | (.pat (.more _) :: r, k), hn, s', h => .inr (step_map' (hn _ List.mem_cons_self) (fun c e => nomatch e) (fun e => nomatch e) s' h)
  | (.pat (.less _) :: r, k), hn, s', h => .inr (step_map' (hn _ List.mem_cons_self) (fun c e => nomatch e) (fun e => nomatch e) s' h)
  | (.pat (.group _ _) :: r, k), hn, s', h => .inr (step_map' (hn _ List.mem_cons_self) (fun c e => nomatch e) (fun e => nomatch e) s' h)
  | (.close _ :: r, k), hn, s', h => .inr (step_map' (hn _ List.mem_cons_self) (fun c e => nomatch e) (fun e => nomatch e) s' h)
theorem SOk.step {p : Pat} {z : List Nat} {s : Sta} (hn : nr p = true) (h : SOk p z s) : ∀ s' ∈ Gm.step z s, SOk p z s' := by
  intro s' h'
  refine ⟨?_, ?_⟩
  · rcases step_adv z s with e | ⟨k, e⟩
    · rw [e] at h'
      exact absurd h' List.not_mem_nil
    · rw [e] at h'
      obtain ⟨r, hr, rfl⟩ := List.mem_map.mp h'
      exact allr_adv h.1 r hr
  · have h2 := h.2
    rcases step_dec (allr_ok hn _ h.1).nr s' h' with ⟨e, e2⟩ | ⟨e, _⟩ <;> omega
theorem SOk.first (p : Pat) (z : List Nat) : SOk p z ([.pat p], 0) := ⟨allr_first p, Nat.zero_le _⟩
/-! ### how long it may take -/
def Nxt (p : Pat) (z : List Nat) (s' s : Sta) : Prop := SOk p z s ∧ s' ∈ step z s
theorem nxt_wf {p : Pat} (hn : nr p = true) (z : List Nat) : WellFounded (Nxt p z) := by
  refine Subrelation.wf (r := InvImage (Prod.Lex (· < ·) (· < ·)) fun s : Sta => (z.length - s.2, wr s.1)) ?_ (InvImage.wf _ (Prod.lex Nat.lt_wfRel Nat.lt_wfRel).wf)
  intro s' s ⟨h, hm⟩
  show Prod.Lex (· < ·) (· < ·) (z.length - s'.2, wr s'.1) (z.length - s.2, wr s.1)
  rcases step_dec (allr_ok hn _ h.1).nr s' hm with ⟨e, e2⟩ | ⟨e, e2⟩
  · exact .left _ _ (by rw [e]; omega)
  · rw [e]
    exact .right _ e2
theorem cost_ex {p : Pat} (hn : nr p = true) (z : List Nat) : ∃ T : Sta → Nat, ∀ s, SOk p z s → T s = 1 + ((step z s).map fun s' => 1 + T s').sum := by
  classical
  refine ⟨(nxt_wf hn z).fix fun s ih => 1 + ((step z s).attach.map fun x => if h : SOk p z s then 1 + ih x.1 ⟨h, x.2⟩ else 0).sum, fun s hs => ?_⟩
  rw [WellFounded.fix_eq]
  congr 1
  congr 1
  refine Eq.trans ?_ (List.attach_map_val (l := step z s) (f := fun s' => 1 + _))
  refine List.map_congr_left fun x _ => ?_
  rw [dif_pos hs]
/-! ### ways -/
inductive Walk (z : List Nat) : Sta → List Nat → Sta → Prop where
  | nil {s : Sta} : Walk z s [] s
  | one {s a e : Sta} {w : List Nat} (h : step z s = [a]) (r : Walk z a w e) : Walk z s w e
  | left {s a b e : Sta} {w : List Nat} (h : step z s = [a, b]) (r : Walk z a w e) : Walk z s (0 :: w) e
  | right {s a b e : Sta} {w : List Nat} (h : step z s = [a, b]) (r : Walk z b w e) : Walk z s (1 :: w) e
def endS (z : List Nat) : Sta := ([], z.length)
def Reach (z : List Nat) (s : Sta) : Prop := ∃ w, Walk z s w (endS z)
theorem step_nil (z : List Nat) (k : Nat) : step z ([], k) = [] := rfl
theorem step_end (z : List Nat) : step z (endS z) = [] := rfl
inductive First (z : List Nat) : Sta → List Nat → Prop where
  | nil : First z (endS z) []
  | one {s a : Sta} {w : List Nat} (h : step z s = [a]) (r : First z a w) : First z s w
  | left {s a b : Sta} {w : List Nat} (h : step z s = [a, b]) (r : First z a w) : First z s (0 :: w)
  | right {s a b : Sta} {w : List Nat} (h : step z s = [a, b]) (n : ¬ Reach z a) (r : First z b w) : First z s (1 :: w)
theorem First.walk {z : List Nat} {s : Sta} {w : List Nat} (h : First z s w) : Walk z s w (endS z) := by
  induction h with
  | nil => exact .nil
  | one h _ ih => exact .one h ih
  | left h _ ih => exact .left h ih
  | right h _ _ ih => exact .right h ih
theorem dead_no {z : List Nat} {D : Sta → Prop} (hD : ∀ s, D s → s ≠ endS z ∧ ∀ s' ∈ step z s, D s') {s : Sta} (h : D s) : ¬ Reach z s := by
  rintro ⟨w, hw⟩
  generalize he : endS z = e at hw
  induction hw with
  | nil => exact (hD _ h).1 he.symm
  | one h1 _ ih => exact ih ((hD _ h).2 _ (by rw [h1]; simp)) he
  | left h1 _ ih => exact ih ((hD _ h).2 _ (by rw [h1]; simp)) he
  | right h1 _ ih => exact ih ((hD _ h).2 _ (by rw [h1]; simp)) he
theorem First.uniq {z : List Nat} {s : Sta} {w w' : List Nat} (h : First z s w) (h' : First z s w') : w = w' := by
  induction h generalizing w' with
  | nil =>
    cases h' with
    | nil => rfl
    | one h => rw [step_end] at h; cases h
    | left h => rw [step_end] at h; cases h
    | right h => rw [step_end] at h; cases h
  | one h r ih =>
    cases h' with
    | nil => rw [step_end] at h; cases h
    | one h2 r2 => rw [h] at h2; cases h2; exact ih r2
    | left h2 => rw [h] at h2; cases h2
    | right h2 => rw [h] at h2; cases h2
  | left h r ih =>
    cases h' with
    | nil => rw [step_end] at h; cases h
    | one h2 r2 => rw [h] at h2; cases h2
    | left h2 r2 => rw [h] at h2; cases h2; rw [ih r2]
    | right h2 n2 r2 => rw [h] at h2; cases h2; exact absurd ⟨_, r.walk⟩ n2
  | right h n r ih =>
    cases h' with
    | nil => rw [step_end] at h; cases h
    | one h2 r2 => rw [h] at h2; cases h2
    | left h2 r2 => rw [h] at h2; cases h2; exact absurd ⟨_, r2.walk⟩ n
    | right h2 n2 r2 => rw [h] at h2; cases h2; rw [ih r2]
/-- the steps below the top, from the start on, each with its choice -/
def Chain (z : List Nat) (D : Sta → Prop) : Sta → List (Sta × Nat) → Sta → Prop
  | s, [], t => s = t
  | s, (s', c) :: r, t => s' = s ∧ ∃ s1, (step z s)[c]? = some s1 ∧ (∀ j x, j < c → (step z s)[j]? = some x → D x) ∧ Chain z D s1 r t
theorem Chain.snoc {z : List Nat} {D : Sta → Prop} {t t' : Sta} {c : Nat} (h1 : (step z t)[c]? = some t') (h2 : ∀ j x, j < c → (step z t)[j]? = some x → D x) : ∀ {s : Sta} {r : List (Sta × Nat)}, Chain z D s r t → Chain z D s (r ++ [(t, c)]) t'
  | s, [], h => by
    obtain rfl : s = t := h
    exact ⟨rfl, t', h1, h2, rfl⟩
  | s, (s', c') :: r, h => by
    obtain ⟨e, s1, a1, a2, a3⟩ := h
    exact ⟨e, s1, a1, a2, Chain.snoc h1 h2 a3⟩
theorem Chain.unsnoc {z : List Nat} {D : Sta → Prop} {t t' : Sta} {c : Nat} : ∀ {s : Sta} {r : List (Sta × Nat)}, Chain z D s (r ++ [(t', c)]) t → Chain z D s r t' ∧ (step z t')[c]? = some t ∧ ∀ j x, j < c → (step z t')[j]? = some x → D x
  | s, [], h => by
    obtain ⟨rfl, s1, a1, a2, a3⟩ := h
    obtain rfl : s1 = t := a3
    exact ⟨rfl, a1, a2⟩
  | s, (s', c') :: r, h => by
    obtain ⟨e, s1, a1, a2, a3⟩ := h
    obtain ⟨b1, b2⟩ := Chain.unsnoc a3
    exact ⟨⟨e, s1, a1, a2, b1⟩, b2⟩
theorem Chain.mono {z : List Nat} {D D' : Sta → Prop} (hD : ∀ s, D s → D' s) {t : Sta} : ∀ {s : Sta} {r : List (Sta × Nat)}, Chain z D s r t → Chain z D' s r t
  | s, [], h => h
  | s, (s', c') :: r, h => by
    obtain ⟨e, s1, a1, a2, a3⟩ := h
    exact ⟨e, s1, a1, fun j x hj hx => hD x (a2 j x hj hx), Chain.mono hD a3⟩
/-- the choices where there was one -/
def wayOf (z : List Nat) (r : List (Sta × Nat)) : List Nat := r.filterMap fun x => if (step z x.1).length = 2 then some x.2 else none
theorem wayOf_cons (z : List Nat) (x : Sta × Nat) (r : List (Sta × Nat)) : wayOf z (x :: r) = (if (step z x.1).length = 2 then [x.2] else []) ++ wayOf z r := by
  unfold wayOf
  rw [List.filterMap_cons]
  split <;> rename_i h
  · split at h
    · cases h
    · simp [*]
  · split at h
    · cases h
      simp [*]
    · cases h
theorem Chain.first {z : List Nat} {D : Sta → Prop} (hD : ∀ s, D s → ¬ Reach z s) : ∀ {s : Sta} {r : List (Sta × Nat)}, Chain z D s r (endS z) → First z s (wayOf z r)
  | s, [], h => by
    obtain rfl : s = endS z := h
    exact .nil
  | s, (s', c) :: r, h => by
    obtain ⟨rfl, s1, a1, a2, a3⟩ := h
    have ih := Chain.first hD a3
    have h2 := step_two z s'
    rw [wayOf_cons]
    match e : step z s', h2 with
    | [], _ => rw [e] at a1; simp at a1
    | [a], _ =>
      rw [e] at a1
      have hc : c = 0 := by
        have := (List.getElem?_eq_some_iff.mp a1).1
        simp at this
        exact this
      subst hc
      cases Option.some.inj a1
      simp only [e, List.length_singleton, show ¬ (1 = 2) by decide, if_false, List.nil_append]
      exact .one e ih
    | [a, b], _ =>
      rw [e] at a1
      have hc : c < 2 := by
        have := (List.getElem?_eq_some_iff.mp a1).1
        simpa using this
      simp only [e, List.length_cons, List.length_nil, if_true, List.singleton_append]
      match c, hc with
      | 0, _ =>
        cases Option.some.inj a1
        exact .left e ih
      | 1, _ =>
        cases Option.some.inj a1
        exact .right e (hD a (a2 0 a (by decide) (by rw [e]; rfl))) ih
/-! ### rests as data -/
def rpd (r : List Th) : PyData := .tuple (r.map tpd)
theorem eqvAll_c (x y : PyData) (xs ys : List PyData) : PyData.eqvAll (x :: xs) (y :: ys) = (PyData.eqv x y && PyData.eqvAll xs ys) := by rw [PyData.eqvAll]
theorem eqv_t (xs ys : List PyData) : PyData.eqv (.tuple xs) (.tuple ys) = PyData.eqvAll xs ys := by rw [PyData.eqv]
theorem eqv_s (x y : Str) : PyData.eqv (.str x) (.str y) = (x == y) := by rw [PyData.eqv]
theorem eqv_i (x y : Int) : PyData.eqv (.int x) (.int y) = (x == y) := by rw [PyData.eqv]
def kd : Th → Nat
  | .pat (.sign _) => 0
  | .pat .any => 1
  | .pat .none => 2
  | .pat (.row _ _) => 3
  | .pat (.or _ _) => 4
  | .pat (.more _) => 5
  | .pat (.less _) => 6
  | .pat (.group _ _) => 7
  | .close _ => 8
def nk (s : Str) : Nat := if s = "sign" then 0 else if s = "any" then 1 else if s = "none" then 2 else if s = "row" then 3 else if s = "or" then 4 else if s = "more" then 5 else if s = "less" then 6 else if s = "group" then 7 else 8
theorem nk_nm (t : Th) : nk (tnm t) = kd t := by
  cases t with
  | close n => exact (by decide +kernel : nk "close" = 8)
  | pat p =>
    cases p with
    | sign c => exact (by decide +kernel : nk "sign" = 0)
    | any => exact (by decide +kernel : nk "any" = 1)
    | none => exact (by decide +kernel : nk "none" = 2)
    | row p q => exact (by decide +kernel : nk "row" = 3)
    | or p q => exact (by decide +kernel : nk "or" = 4)
    | more p => exact (by decide +kernel : nk "more" = 5)
    | less p => exact (by decide +kernel : nk "less" = 6)
    | group n p => exact (by decide +kernel : nk "group" = 7)
def ptl : Th → List PyData
  | .pat (.sign c) => [.str ⟨#[c]⟩]
  | .pat .any => []
  | .pat .none => []
  | .pat (.row p q) => [pd p, pd q]
  | .pat (.or p q) => [pd p, pd q]
  | .pat (.more p) => [pd p]
  | .pat (.less p) => [pd p]
  | .pat (.group n p) => [.int n, pd p]
  | .close n => [.int n]
theorem tpd_eq (t : Th) : tpd t = .tuple (.str (tnm t) :: ptl t) := by
  cases t with
  | close n => rfl
  | pat p => cases p <;> rfl
theorem tpd_kd {t u : Th} (h : PyData.eqv (tpd t) (tpd u) = true) : kd t = kd u ∧ PyData.eqvAll (ptl t) (ptl u) = true := by
  rw [tpd_eq, tpd_eq, eqv_t, eqvAll_c, eqv_s, Bool.and_eq_true_iff] at h
  refine ⟨?_, h.2⟩
  rw [← nk_nm, ← nk_nm, eq_of_beq h.1]
theorem pd_inj : ∀ p q : Pat, PyData.eqv (pd p) (pd q) = true → p = q := by
  intro p
  induction p with
  | sign c =>
    intro q h
    obtain ⟨k, h2⟩ := tpd_kd (t := .pat (.sign c)) (u := .pat q) h
    cases q <;> first | (simp [kd] at k; done) | skip
    rw [show ptl (.pat (.sign c)) = [.str ⟨#[c]⟩] from rfl, show ptl (.pat (.sign _)) = [.str ⟨#[_]⟩] from rfl, eqvAll_c, eqv_s, Bool.and_eq_true_iff] at h2
    have := eq_of_beq h2.1
    simp at this
    rw [this]
  | any =>
    intro q h
    obtain ⟨k, h2⟩ := tpd_kd (t := .pat .any) (u := .pat q) h
    cases q <;> first | (simp [kd] at k; done) | rfl
  | none =>
    intro q h
    obtain ⟨k, h2⟩ := tpd_kd (t := .pat .none) (u := .pat q) h
    cases q <;> first | (simp [kd] at k; done) | rfl
  | row p1 p2 i1 i2 =>
    intro q h
    obtain ⟨k, h2⟩ := tpd_kd (t := .pat (.row p1 p2)) (u := .pat q) h
    cases q <;> first | (simp [kd] at k; done) | skip
    rename_i q1 q2
    have h2 : PyData.eqvAll [pd p1, pd p2] [pd q1, pd q2] = true := h2
    rw [eqvAll_c, eqvAll_c, Bool.and_eq_true_iff, Bool.and_eq_true_iff] at h2
    rw [i1 _ h2.1, i2 _ h2.2.1]
  | or p1 p2 i1 i2 =>
    intro q h
    obtain ⟨k, h2⟩ := tpd_kd (t := .pat (.or p1 p2)) (u := .pat q) h
    cases q <;> first | (simp [kd] at k; done) | skip
    rename_i q1 q2
    have h2 : PyData.eqvAll [pd p1, pd p2] [pd q1, pd q2] = true := h2
    rw [eqvAll_c, eqvAll_c, Bool.and_eq_true_iff, Bool.and_eq_true_iff] at h2
    rw [i1 _ h2.1, i2 _ h2.2.1]
  | more p1 i1 =>
    intro q h
    obtain ⟨k, h2⟩ := tpd_kd (t := .pat (.more p1)) (u := .pat q) h
    cases q <;> first | (simp [kd] at k; done) | skip
    rename_i q1
    have h2 : PyData.eqvAll [pd p1] [pd q1] = true := h2
    rw [eqvAll_c, Bool.and_eq_true_iff] at h2
    rw [i1 _ h2.1]
  | less p1 i1 =>
    intro q h
    obtain ⟨k, h2⟩ := tpd_kd (t := .pat (.less p1)) (u := .pat q) h
    cases q <;> first | (simp [kd] at k; done) | skip
    rename_i q1
    have h2 : PyData.eqvAll [pd p1] [pd q1] = true := h2
    rw [eqvAll_c, Bool.and_eq_true_iff] at h2
    rw [i1 _ h2.1]
  | group n p1 i1 =>
    intro q h
    obtain ⟨k, h2⟩ := tpd_kd (t := .pat (.group n p1)) (u := .pat q) h
    cases q <;> first | (simp [kd] at k; done) | skip
    rename_i m q1
    have h2 : PyData.eqvAll [.int n, pd p1] [.int m, pd q1] = true := h2
    rw [eqvAll_c, eqvAll_c, eqv_i, Bool.and_eq_true_iff, Bool.and_eq_true_iff] at h2
    rw [i1 _ h2.2.1, eq_of_beq h2.1]
theorem tpd_inj {t u : Th} (h : PyData.eqv (tpd t) (tpd u) = true) : t = u := by
  cases t with
  | pat p =>
    cases u with
    | pat q => rw [pd_inj p q h]
    | close m => obtain ⟨k, _⟩ := tpd_kd h; cases p <;> simp [kd] at k
  | close n =>
    cases u with
    | pat q => obtain ⟨k, _⟩ := tpd_kd h; cases q <;> simp [kd] at k
    | close m =>
      obtain ⟨_, h2⟩ := tpd_kd h
      have h2 : PyData.eqvAll [.int n] [.int m] = true := h2
      rw [eqvAll_c, eqv_i, Bool.and_eq_true_iff] at h2
      rw [eq_of_beq h2.1]
theorem tpds_inj : ∀ r r' : List Th, PyData.eqvAll (r.map tpd) (r'.map tpd) = true → r = r'
  | [], [], _ => rfl
  | [], _ :: _, h => by simp [PyData.eqvAll] at h
  | _ :: _, [], h => by simp [PyData.eqvAll] at h
  | t :: r, u :: r', h => by
    rw [List.map_cons, List.map_cons, eqvAll_c, Bool.and_eq_true_iff] at h
    rw [tpd_inj h.1, tpds_inj r r' h.2]
theorem rpd_inj {r r' : List Th} (h : PyData.eqv (rpd r) (rpd r') = true) : r = r' := by
  unfold rpd at h
  rw [eqv_t] at h
  exact tpds_inj r r' h
theorem u65 {A : Around} {k : Nat} (hr : Room k A) : A.units + 65 < cLine := by
  have := hr.un
  omega
end Gm

set_option maxRecDepth 100000
set_option maxHeartbeats 4000000
/-! list(zip(a, b)) of two lists -/
namespace Gm
open PySem PySem.Spec PySem.Calls PyProof.Rows PySem.W L2
theorem zip_len_no : typeLookup (.type "zip") "__len__" = pure none := by rw [typeLookup_type, builtinLookup_eq_fast]; kernel_rfl
theorem zip_hint_no : typeLookup (.type "zip") "__length_hint__" = pure none := by rw [typeLookup_type, builtinLookup_eq_fast]; kernel_rfl
section
variable {prog : Program} {w : World} {A : Around} {E : Value → Shared → Prop} {s : Shared}
theorem zip_hint {z : Addr} {Q : Bool → Shared → Prop} (hT : s.TypeIs (.ref z) "zip") (q : Q true s) : wpAny (model prog w) A (Builtin.List.listLengthHint (.ref z)) Q E s := by
  unfold Builtin.List.listLengthHint
  refine wpAny_bind (wpAny_specialOf hT zip_len_no ?_)
  refine wpAny_ite_split (fun c => absurd c (by decide)) (fun _ => ?_)
  refine wpAny_ite_split (fun c => absurd c (by decide)) (fun _ => ?_)
  refine wpAny_bind (wpAny_specialOf hT zip_hint_no ?_)
  exact wpAny_pure q
/-- a zip that is being drawn into the list at S -/
def ZSt (h : Heap) (z TI TO i1 i2 l1 l2 S : Addr) (xs ys : Array Value) (i : Nat) : Prop :=
  IsPair h TI (.ref i1) (.ref i2) ∧ h.IsListIter i1 l1 i ∧ h.IsListIter i2 l2 i ∧ h.IsList l1 xs ∧ h.IsList l2 ys ∧
    ((IsZip h z TI TO .none ∧ ∃ a b, IsPair h TO a b) ∨ ∃ T f oT, IsZipHeld h z TI TO T f ∧ h.get? T = some oT ∧ T ≠ z ∧ T ≠ i1 ∧ T ≠ i2 ∧ T ≠ S)
structure Far (z TI TO i1 i2 l1 l2 S : Addr) : Prop where
  z : z ≠ S
  ti : TI ≠ S
  to : TO ≠ S
  i1 : i1 ≠ S
  i2 : i2 ≠ S
  l1 : l1 ≠ S
  l2 : l2 ≠ S
theorem ZSt.keep {h h' : Heap} {z TI TO i1 i2 l1 l2 S : Addr} {xs ys : Array Value} {i : Nat} (F : Far z TI TO i1 i2 l1 l2 S) (t : ZSt h z TI TO i1 i2 l1 l2 S xs ys i) (k : ∀ b o, b ≠ S → h.get? b = some o → h'.get? b = some o) : ZSt h' z TI TO i1 i2 l1 l2 S xs ys i := by
  obtain ⟨t1, t2, t3, t4, t5, t6⟩ := t
  refine ⟨k _ _ F.ti t1, t2.at fun o => k _ o F.i1, t3.at fun o => k _ o F.i2, t4.at fun o => k _ o F.l1, t5.at fun o => k _ o F.l2, ?_⟩
  rcases t6 with ⟨e, a, b, e2⟩ | ⟨T, f, oT, e, e2, n1, n2, n3, n4⟩
  · exact .inl ⟨k _ _ F.z e, a, b, k _ _ F.to e2⟩
  · exact .inr ⟨T, f, oT, k _ _ F.z e, k _ _ n4 e2, n1, n2, n3, n4⟩
theorem zst_item {z TI TO i1 i2 l1 l2 S : Addr} {xs ys : Array Value} {i : Nat} {x y : Value} {Q : Option Value → Shared → Prop} (D : ZipApart z TI TO i1 i2 l1 l2) (t : ZSt s.heap z TI TO i1 i2 l1 l2 S xs ys i) (hS : S < s.heap.objs.size)
    (hx : xs[i]? = some x) (hy : ys[i]? = some y)
    (q : ∀ h', ZSt h' z TI TO i1 i2 l1 l2 S xs ys (i + 1) → IsPair h' s.heap.objs.size x y → h'.objs.size = s.heap.objs.size + 1 → (∀ b o, b ≠ z → b ≠ TO → b ≠ i1 → b ≠ i2 → s.heap.get? b = some o → h'.get? b = some o) → Q (some (.ref s.heap.objs.size)) { s with heap := h' }) :
    wpAny (model prog w) A (pyNext (.ref z)) Q E s := by
  obtain ⟨t1, t2, t3, t4, t5, t6⟩ := t
  have far : ∀ {c : Addr} {o : Obj}, s.heap.get? c = some o → s.heap.objs.size ≠ c := fun e => Nat.ne_of_gt (Heap.lt_size e)
  have f1 : s.heap.objs.size ≠ i1 := let ⟨_, e, _⟩ := t2; far e
  have f2 : s.heap.objs.size ≠ i2 := let ⟨_, e, _⟩ := t3; far e
  rcases t6 with ⟨e, a, b, e2⟩ | ⟨T, f, oT, e, e2, n1, n2, n3, n4⟩
  · exact wpAny_pyNext_zip_item D e t1 e2 t2 t3 t4 t5 hx hy fun h' b1 b2 b3 b4 b5 b6 k =>
      q h' ⟨k _ _ D.TIz D.TITO D.TIi1 D.TIi2 t1, b3, b4, t4.at (fun o => k _ o D.l1z D.l1TO D.l1i1 D.l1i2), t5.at (fun o => k _ o D.l2z D.l2TO D.l2i1 D.l2i2), .inr ⟨_, false, _, b1, b5, far e, f1, f2, Nat.ne_of_gt hS⟩⟩ b5 b6 k
  · exact wpAny_pyNext_zip_item_held D e e2 t1 t2 t3 t4 t5 hx hy fun h' b1 b3 b4 b5 b6 k =>
      q h' ⟨k _ _ D.TIz D.TIi1 D.TIi2 t1, b3, b4, t4.at (fun o => k _ o D.l1z D.l1i1 D.l1i2), t5.at (fun o => k _ o D.l2z D.l2i1 D.l2i2), .inr ⟨T, true, oT, b1, k _ _ n1 n2 n3 e2, n1, n2, n3, n4⟩⟩ b5 b6 fun b o c1 _ c3 c4 => k b o c1 c3 c4
theorem zst_done {z TI TO i1 i2 l1 l2 S : Addr} {xs ys : Array Value} {i : Nat} {Q : Option Value → Shared → Prop} (hh : A.handled = none) (D : ZipApart z TI TO i1 i2 l1 l2) (t : ZSt s.heap z TI TO i1 i2 l1 l2 S xs ys i) (hend : xs[i]? = none ∨ ys[i]? = none)
    (q : ∀ h', (∀ b o, b ≠ z → b ≠ TO → b ≠ i1 → b ≠ i2 → s.heap.get? b = some o → h'.get? b = some o) → Q none { s with heap := h' }) : wpAny (model prog w) A (pyNext (.ref z)) Q E s := by
  obtain ⟨t1, t2, t3, t4, t5, t6⟩ := t
  rcases t6 with ⟨e, a, b, e2⟩ | ⟨T, f, oT, e, e2, _⟩
  · exact wpAny_pyNext_zip_end hh D e t1 e2 t2 t3 t4 t5 hend q
  · exact wpAny_pyNext_zip_end_held hh D e e2 t1 t2 t3 t4 t5 hend fun h' k => q h' fun b o c1 _ c3 c4 => k b o c1 c3 c4
/-- the tuples that were drawn, all behind lo -/
structure ZG (xs ys : Array Value) (lo : Addr) (h : Heap) (as : List Addr) : Prop where
  up : as.Pairwise (· < ·)
  hi : ∀ a ∈ as, lo < a
  at' : ∀ (j : Nat) (a : Addr), as[j]? = some a → ∃ x y, xs[j]? = some x ∧ ys[j]? = some y ∧ IsPair h a x y
theorem ZG.lt {xs ys : Array Value} {lo : Addr} {h : Heap} {as : List Addr} (g : ZG xs ys lo h as) {a : Addr} (m : a ∈ as) : a < h.objs.size := by
  obtain ⟨j, e⟩ := List.mem_iff_getElem?.mp m
  obtain ⟨_, _, _, _, e2⟩ := g.at' j a e
  exact Heap.lt_size e2
theorem ZG.keep {xs ys : Array Value} {lo : Addr} {h h' : Heap} {as : List Addr} (g : ZG xs ys lo h as) (k : ∀ a, lo < a → ∀ o, h.get? a = some o → h'.get? a = some o) : ZG xs ys lo h' as := ⟨g.up, g.hi, fun j a e => by
  obtain ⟨x, y, e1, e2, e3⟩ := g.at' j a e
  exact ⟨x, y, e1, e2, k a (g.hi a (List.mem_of_getElem? e)) _ e3⟩⟩
theorem ZG.snoc {xs ys : Array Value} {lo a : Addr} {h : Heap} {as : List Addr} {x y : Value} (g : ZG xs ys lo h as) (ha : ∀ b ∈ as, b < a) (hl : lo < a) (hx : xs[as.length]? = some x) (hy : ys[as.length]? = some y) (e : IsPair h a x y) : ZG xs ys lo h (as ++ [a]) := by
  refine ⟨List.pairwise_append.mpr ⟨g.up, List.pairwise_singleton _ _, fun b hb c hc => ?_⟩, fun b hb => ?_, fun j b hj => ?_⟩
  · rw [List.mem_singleton.mp hc]
    exact ha b hb
  · rcases List.mem_append.mp hb with z | z
    · exact g.hi b z
    · rw [List.mem_singleton.mp z]
      exact hl
  · by_cases c : j < as.length
    · rw [List.getElem?_append_left c] at hj
      exact g.at' j b hj
    · have hj2 := (List.getElem?_eq_some_iff.mp hj).1
      rw [List.length_append, List.length_singleton] at hj2
      obtain rfl : j = as.length := by omega
      obtain rfl : a = b := by simpa using hj
      exact ⟨x, y, hx, hy, e⟩
theorem zl_loop {R : Result → Shared → Prop} {z TI TO i1 i2 l1 l2 S lo : Addr} {xs ys : Array Value} {n : Nat} (hh : A.handled = none) (D : ZipApart z TI TO i1 i2 l1 l2) (F : Far z TI TO i1 i2 l1 l2 S) (hn : n = min xs.size ys.size) (hz : n ≤ sizeLine) (res : Value)
    (lz : z ≤ lo) (lTO : TO ≤ lo) (li1 : i1 ≤ lo) (li2 : i2 ≤ lo) (lS : S ≤ lo) {h₁ : Heap}
    (hR : ∀ h' tk acc c as, (∀ b o, b ≠ S → b ≠ z → b ≠ TO → b ≠ i1 → b ≠ i2 → h₁.get? b = some o → h'.get? b = some o) → h'.get? S = some { cls := .type "list", dict := none, data := .seq acc c, slots := #[] } → as.length = n → ZG xs ys lo h' as → acc.toList = as.map Value.ref →
      R (.ok (.ret res)) { s with heap := h', toks := tk }) :
    ∀ (k i : Nat) (h : Heap) (tk c : Nat) (acc : Array Value) (as : List Addr), n - i = k → i ≤ n → ZSt h z TI TO i1 i2 l1 l2 S xs ys i → (∀ b o, b ≠ S → b ≠ z → b ≠ TO → b ≠ i1 → b ≠ i2 → h₁.get? b = some o → h.get? b = some o) →
      h.get? S = some { cls := .type "list", dict := none, data := .seq acc c, slots := #[] } → acc.toList = as.map Value.ref → as.length = i → ZG xs ys lo h as → lo < h.objs.size →
      codeAny (model prog w) A (.builtin "list.extend.loop" ⟨[.ref S, .ref z, res], []⟩) R { s with heap := h, toks := tk } := by
  have off : ∀ a, lo < a → a ≠ S ∧ a ≠ z ∧ a ≠ TO ∧ a ≠ i1 ∧ a ≠ i2 := fun a ha => ⟨Nat.ne_of_gt (Nat.lt_of_le_of_lt lS ha), Nat.ne_of_gt (Nat.lt_of_le_of_lt lz ha), Nat.ne_of_gt (Nat.lt_of_le_of_lt lTO ha), Nat.ne_of_gt (Nat.lt_of_le_of_lt li1 ha), Nat.ne_of_gt (Nat.lt_of_le_of_lt li2 ha)⟩
  intro k
  induction k with
  | zero =>
    intro i h tk c acc as hk hi st keep hS hacc hal g hlo
    obtain rfl : i = n := by omega
    refine codeAny_builtin PySem.F.entry_extend_loop ?_
    rw [Around.under_plainId PySem.F.plain_extend_loop _]
    show wpAny _ A.in1 (pyNext (.ref z) >>= _) _ _ _
    have hend : xs[i]? = none ∨ ys[i]? = none := by
      rcases Nat.le_total xs.size ys.size with z | z
      · exact .inl (Array.getElem?_eq_none (by omega))
      · exact .inr (Array.getElem?_eq_none (by omega))
    refine wpAny_bind (zst_done (s := { s with heap := h, toks := tk }) (A := A.in1) hh D st hend fun h' e => ?_)
    refine wpAny_pure (hR h' tk acc c as (fun b o c1 c2 c3 c4 c5 q => e b o c2 c3 c4 c5 (keep b o c1 c2 c3 c4 c5 q)) (e S _ F.z.symm F.to.symm F.i1.symm F.i2.symm hS) hal (g.keep fun a ha o q => ?_) hacc)
    obtain ⟨_, c2, c3, c4, c5⟩ := off a ha
    exact e a o c2 c3 c4 c5 q
  | succ k ih =>
    intro i h tk c acc as hk hi st keep hS hacc hal g hlo
    have lx : i < xs.size := by omega
    have ly : i < ys.size := by omega
    refine codeAny_builtin PySem.F.entry_extend_loop ?_
    rw [Around.under_plainId PySem.F.plain_extend_loop _]
    show wpAny _ A.in1 (pyNext (.ref z) >>= _) _ _ _
    refine wpAny_bind (zst_item (s := { s with heap := h, toks := tk }) (A := A.in1) D st (Heap.lt_size hS) (Array.getElem?_eq_getElem lx) (Array.getElem?_eq_getElem ly) fun h' st' ht sz' e => ?_)
    dsimp only at ht sz' e ⊢
    have hS' := e S _ F.z.symm F.to.symm F.i1.symm F.i2.symm hS
    have upd' : ∀ b o, b ≠ S → h'.get? b = some o → (h'.update S (Obj.mapSeq (·.push (Value.ref h.objs.size)))).get? b = some o := fun b o hb q => (Heap.get?_update_other _ _ (Ne.symm hb)).trans q
    have hsz : acc.size = i := by rw [← Array.length_toList, hacc, List.length_map, hal]
    have nS : h.objs.size ≠ S := Nat.ne_of_gt (Heap.lt_size hS)
    have step : codeAny (model prog w) A (.builtin "list.extend.loop" ⟨[.ref S, .ref z, res], []⟩) R { s with heap := h'.update S (Obj.mapSeq (·.push (Value.ref h.objs.size))), toks := tk } := by
      refine ih (i + 1) _ tk _ (acc.push (Value.ref h.objs.size)) (as ++ [h.objs.size]) (by omega) (by omega) (st'.keep F upd') (fun b o c1 c2 c3 c4 c5 q => upd' b o c1 (e b o c2 c3 c4 c5 (keep b o c1 c2 c3 c4 c5 q))) (Heap.get?_update_self _ hS' rfl)
        (by rw [Array.toList_push, hacc, List.map_append]; rfl) (by rw [List.length_append, hal]; rfl) ?_ ?_
      · have g1 : ZG xs ys lo h' as := g.keep fun a ha o q => by
          obtain ⟨_, c2, c3, c4, c5⟩ := off a ha
          exact e a o c2 c3 c4 c5 q
        have g2 : ZG xs ys lo (h'.update S (Obj.mapSeq (·.push (Value.ref h.objs.size)))) as := g1.keep fun a ha o q => upd' a o (off a ha).1 q
        exact g2.snoc (fun b hb => g.lt hb) hlo (by rw [hal]; exact Array.getElem?_eq_getElem lx) (by rw [hal]; exact Array.getElem?_eq_getElem ly) (upd' _ _ nS ht)
      · exact Nat.lt_trans hlo (Heap.lt_size (upd' _ _ nS ht))
    show wpAny _ A.in1 (updateSeq S (·.push (Value.ref h.objs.size)) >>= _) _ _ _
    refine wpAny_bind (wpAny_updateSeq hS' rfl (wpAny_pure ⟨plainId_quiet PySem.F.plain_extend_loop _, step⟩) (by rw [hsz]; omega) ?_)
    show (acc.push (Value.ref h.objs.size)).size ≤ sizeLine + 1
    rw [Array.size_push, hsz]
    omega
theorem zl_call {z TI TO i1 i2 l1 l2 : Addr} {xs ys : Array Value} {n : Nat} {a b : Value} {Q : Value → Shared → Prop} (hh : A.handled = none) (D : ZipApart z TI TO i1 i2 l1 l2) (hn : n = min xs.size ys.size) (hz : n ≤ sizeLine)
    (e0 : IsZip s.heap z TI TO .none) (e1 : IsPair s.heap TI (.ref i1) (.ref i2)) (e2 : IsPair s.heap TO a b) (e3 : s.heap.IsListIter i1 l1 0) (e4 : s.heap.IsListIter i2 l2 0) (e5 : s.heap.IsList l1 xs) (e6 : s.heap.IsList l2 ys)
    (hQ : ∀ h' tk acc c as, (∀ b o, b ≠ z → b ≠ TO → b ≠ i1 → b ≠ i2 → s.heap.get? b = some o → h'.get? b = some o) → h'.get? s.heap.objs.size = some { cls := .type "list", dict := none, data := .seq acc c, slots := #[] } → as.length = n →
      ZG xs ys s.heap.objs.size h' as → acc.toList = as.map Value.ref → Q (.ref s.heap.objs.size) { s with heap := h', toks := tk }) :
    wpAny (model prog w) A (call (.type "list") [.ref z]) Q E s := by
  refine callType_codes (Q₁ := fun ob st => ob = .ref s.heap.objs.size ∧ st = { s with heap := s.heap.push { cls := .type "list", data := .seq #[] } }) PySem.F.called_list (PySem.F.typeCall_list_1 _) PySem.F.entry_list_init
    (code_list_new _ ⟨rfl, rfl⟩) fun obj s₁ both => ?_
  obtain ⟨rfl, rfl⟩ := both
  have g0 : (s.heap.push { cls := .type "list", data := .seq #[] }).get? s.heap.objs.size = some { cls := .type "list", data := .seq #[] } := Heap.get?_push_size _ rfl
  refine ⟨⟨_, g0, rfl⟩, PySem.F.args_list_init_2 _ _, ?_⟩
  have lt : ∀ {c : Addr} {o : Obj}, s.heap.get? c = some o → c < s.heap.objs.size := fun e => Heap.lt_size e
  have li1 : i1 < s.heap.objs.size := let ⟨_, e, _⟩ := e3; lt e
  have li2 : i2 < s.heap.objs.size := let ⟨_, e, _⟩ := e4; lt e
  have ll1 : l1 < s.heap.objs.size := let ⟨_, e, _⟩ := e5; lt e
  have ll2 : l2 < s.heap.objs.size := let ⟨_, e, _⟩ := e6; lt e
  have far : Far z TI TO i1 i2 l1 l2 s.heap.objs.size := ⟨Nat.ne_of_lt (lt e0), Nat.ne_of_lt (lt e1), Nat.ne_of_lt (lt e2), Nat.ne_of_lt li1, Nat.ne_of_lt li2, Nat.ne_of_lt ll1, Nat.ne_of_lt ll2⟩
  have st0 : ZSt (s.heap.push { cls := .type "list", data := .seq #[] }) z TI TO i1 i2 l1 l2 s.heap.objs.size xs ys 0 :=
    ⟨Heap.get?_push_of_some _ e1, e3.at (fun o => Heap.get?_push_of_some _), e4.at (fun o => Heap.get?_push_of_some _), e5.at (fun o => Heap.get?_push_of_some _), e6.at (fun o => Heap.get?_push_of_some _), .inl ⟨Heap.get?_push_of_some _ e0, a, b, Heap.get?_push_of_some _ e2⟩⟩
  show wpAny _ _ (do let old ← Builtin.List.listItems (.ref s.heap.objs.size); Builtin.List.listUpdate (.ref s.heap.objs.size) (fun _ => #[]); letGo old.toList.reverse; Builtin.List.listExtendWith (.ref s.heap.objs.size) (.ref z) .none) _ _ _
  refine wpAny_bind ?_
  unfold Builtin.List.listItems
  refine wpAny_bind (wpAny_seqItems g0 rfl (wpAny_pure ?_))
  show wpAny _ _ (updateSeq s.heap.objs.size (fun _ => #[]) >>= fun _ => letGo (#[] : Array Value).toList.reverse >>= fun _ => Builtin.List.listExtendWith (.ref s.heap.objs.size) (.ref z) .none) _ _ _
  refine wpAny_bind (wpAny_updateSeq g0 rfl ?_)
  have g1 := Heap.get?_update_self (Obj.mapSeq (fun _ => (#[] : Array Value))) g0 rfl
  have k1 : ∀ b o, b ≠ s.heap.objs.size → (s.heap.push { cls := .type "list", data := .seq #[] }).get? b = some o → ((s.heap.push { cls := .type "list", data := .seq #[] }).update s.heap.objs.size (Obj.mapSeq (fun _ => (#[] : Array Value)))).get? b = some o :=
    fun c u hc e => (Heap.get?_update_other _ _ (Ne.symm hc)).trans e
  have st1 := st0.keep far k1
  have up1 : ∀ b o, s.heap.get? b = some o → ((s.heap.push { cls := .type "list", data := .seq #[] }).update s.heap.objs.size (Obj.mapSeq (fun _ => (#[] : Array Value)))).get? b = some o := fun b o e => k1 b o (Nat.ne_of_lt (lt e)) (Heap.get?_push_of_some _ e)
  have sz1 : s.heap.objs.size < ((s.heap.push { cls := .type "list", data := .seq #[] }).update s.heap.objs.size (Obj.mapSeq (fun _ => (#[] : Array Value)))).objs.size := Heap.lt_size g1
  generalize (s.heap.push { cls := .type "list", data := .seq #[] }).update s.heap.objs.size (Obj.mapSeq (fun _ => (#[] : Array Value))) = h1 at g1 st1 up1 sz1 ⊢
  have hT : ∀ h : Heap, h.get? z = some { cls := .type "zip", dict := none, data := .fields #[.none, .bool false, .bool false, .ref TI, .ref TO], slots := #[] } → ∀ tk, Shared.TypeIs { s with heap := h, toks := tk } (.ref z) "zip" := fun h e tk => ⟨_, e, rfl⟩
  refine wpAny_bind (wpAny_letGo ?_)
  unfold Builtin.List.listExtendWith
  refine wpAny_bind (wpAny_typeOf (T := "zip") (hT _ (up1 _ _ e0) _) ?_)
  have n1 : Builtin.List.listSameRef (.ref s.heap.objs.size) (.ref z) = false := by simp [Builtin.List.listSameRef, far.z.symm]
  have n2 : (Value.type "zip" == Value.type "list") = false := by decide
  have n3 : (Value.type "zip" == Value.type "tuple") = false := by decide
  simp only [n1, n2, n3, Bool.or_false, Bool.false_eq_true, if_false]
  refine wpAny_bind (wpAny_pyIter_zip (up1 _ _ e0) ?_)
  refine wpAny_bind (wpAny_holding (zip_hint (hT _ (up1 _ _ e0) _) ?_))
  have go : ∀ (h : Heap) (c tk : Nat), ZSt h z TI TO i1 i2 l1 l2 s.heap.objs.size xs ys 0 → (∀ b o, b ≠ s.heap.objs.size → s.heap.get? b = some o → h.get? b = some o) → h.get? s.heap.objs.size = some { cls := .type "list", data := .seq #[] c } → s.heap.objs.size < h.objs.size →
      codeAny (model prog w) A.in1 (.builtin "list.extend.loop" ⟨[.ref s.heap.objs.size, .ref z, .none], []⟩) (wants (fun r s₂ => r = Value.none ∧ Q (Value.ref s.heap.objs.size) s₂) E) { s with heap := h, toks := tk } := by
    intro h c tk st k g lh
    refine zl_loop (A := A.in1) (s := s) (h₁ := s.heap) hh D far hn hz .none (Nat.le_of_lt (lt e0)) (Nat.le_of_lt (lt e2)) (Nat.le_of_lt li1) (Nat.le_of_lt li2) (Nat.le_refl _) (fun h' tk' acc c' as k' gS hl g' hacc => ?_) n 0 h tk c #[] [] (Nat.sub_zero _) (Nat.zero_le _) st (fun b o c1 _ _ _ _ e => k b o c1 e) g rfl rfl
      ⟨List.Pairwise.nil, (fun _ m => nomatch m), (fun j a hj => by simp at hj)⟩ lh
    exact ⟨rfl, hQ h' tk' acc c' as (fun b o c2 c3 c4 c5 e => k' b o (Nat.ne_of_lt (lt e)) c2 c3 c4 c5 e) gS hl g' hacc⟩
  refine wpAny_ite_split (fun _ => ?_) (fun c => absurd rfl c)
  refine wpAny_bind (wpAny_rule ?_)
  refine wpAny_bind ?_
  show wpAny _ _ (updateSeq s.heap.objs.size (·.push .none) >>= fun _ => updateSeq s.heap.objs.size (·.pop)) _ _ _
  refine wpAny_bind (wpAny_updateSeq g1 rfl ?_)
  have g2 := Heap.get?_update_self (Obj.mapSeq (·.push Value.none)) g1 rfl
  refine wpAny_updateSeq (hz := by seq_fits) g2 rfl ?_
  have g3 := Heap.get?_update_self (Obj.mapSeq (·.pop)) g2 rfl
  have k2 : ∀ b o, b ≠ s.heap.objs.size → h1.get? b = some o → ((h1.update s.heap.objs.size (Obj.mapSeq (·.push Value.none))).update s.heap.objs.size (Obj.mapSeq (·.pop))).get? b = some o :=
    fun c u hc e => (Heap.get?_update_other _ _ (Ne.symm hc)).trans ((Heap.get?_update_other _ _ (Ne.symm hc)).trans e)
  refine wpAny_pure ⟨plainId_quiet PySem.F.plain_extend_loop _, go _ _ _ (st1.keep far k2) (fun b o hb e => k2 b o hb (up1 b o e)) g3 (Heap.lt_size g3)⟩
end
/-! ### the same over what is tracked -/
def putZ : Hp → List Addr → List (V × V) → Hp
  | H, a :: as, p :: ps => putZ (upd H a (.tup [p.1, p.2])) as ps
  | H, _, _ => H
theorem putZ_off {b : Addr} : ∀ (as : List Addr) (ps : List (V × V)) (H : Hp), b ∉ as → putZ H as ps b = H b
  | [], _, _, _ => rfl
  | _ :: _, [], _, _ => rfl
  | a :: as, p :: ps, H, h => by
    show putZ (upd H a (.tup [p.1, p.2])) as ps b = H b
    rw [putZ_off as ps _ (fun z => h (List.mem_cons_of_mem _ z)), upd_ne (fun z => h (by rw [z]; exact List.mem_cons_self))]
theorem putZ_at : ∀ (as : List Addr) (ps : List (V × V)) (H : Hp), as.length = ps.length → as.Nodup → Paired (fun (t : Addr) (p : V × V) => putZ H as ps t = some (.tup [p.1, p.2])) as ps
  | [], [], _, _, _ => .nil
  | [], _ :: _, _, h, _ => by cases h
  | _ :: _, [], _, h, _ => by cases h
  | a :: as, p :: ps, H, h, hn => by
    have hn2 := List.nodup_cons.mp hn
    refine .cons ?_ (putZ_at as ps (upd H a (.tup [p.1, p.2])) (Nat.succ.inj h) hn2.2)
    show putZ (upd H a (.tup [p.1, p.2])) as ps a = some (.tup [p.1, p.2])
    rw [putZ_off as ps _ hn2.1, upd_same]
theorem vals_at {xs : List V} {us : List Value} (h : Vals xs us) : ∀ {i : Nat} {x : V}, xs[i]? = some x → ∃ u, us[i]? = some u ∧ RelV x u := fun {i x} e => LiI.paired_get h e
def rListZip (K : PySem.W.Frag) : List V → Hp → VK → Prop := fun vs H Q => ∃ (a b : Addr) (xs ys : List V), vs = [.ref a, .ref b] ∧ SqL K H a xs ∧ SqL K H b ys ∧
  ∀ (H' : Hp) (p : Addr) (ts : List Addr), Same H H' → H p = none → (∀ t ∈ ts, H t = none) → H' p = some (.lst (ts.map V.ref)) → Paired (fun (t : Addr) (q : V × V) => H' t = some (.tup [q.1, q.2])) ts (xs.zip ys) → Q (.ref p) H'
def tListZip (K : PySem.W.Frag) (ta : TA) : TE := fun σ H Q => ta σ H fun vs H1 => rListZip K vs H1 Q
section
variable {X : Cx}
theorem zip_laid {pins : List (Addr × Obj)} {σ : L2.St} {H : Hp} {s : Shared} {h' : Heap} {tk : Nat} {xs ys : List V} {us ws : List Value} {S : Addr} {acc : Array Value} {c : Nat} {as : List Addr} (I : Inv X pins σ H s) (rx : Vals xs us) (ry : Vals ys ws) (hlS : s.heap.objs.size ≤ S)
    (hz : xs.length ≤ sizeLine) (hk : ∀ b o, s.heap.get? b = some o → h'.get? b = some o) (hS : h'.get? S = some { cls := .type "list", dict := none, data := .seq acc c, slots := #[] }) (hl : as.length = min xs.length ys.length) (g : ZG us.toArray ws.toArray S h' as) (hacc : acc.toList = as.map Value.ref) :
    ∃ H' : Hp, Same H H' ∧ H S = none ∧ (∀ t ∈ as, H t = none) ∧ H' S = some (.lst (as.map V.ref)) ∧ Paired (fun (t : Addr) (q : V × V) => H' t = some (.tup [q.1, q.2])) as (xs.zip ys) ∧ Inv X pins σ H' { s with heap := h', toks := tk } := by
  have lz : as.length = (xs.zip ys).length := by rw [List.length_zip]; exact hl
  have nS : S ∉ as := fun z => Nat.lt_irrefl _ (g.hi _ z)
  have nd : as.Nodup := List.Pairwise.imp (fun {a b} (h : a < b) => Nat.ne_of_lt h) g.up
  have newA : ∀ t ∈ as, H t = none := fun t ht => I.hok.fresh (Nat.le_of_lt (Nat.lt_of_le_of_lt hlS (g.hi t ht)))
  have newS : H S = none := I.hok.fresh hlS
  have atP := putZ_at as (xs.zip ys) (upd H S (.lst (as.map V.ref))) lz nd
  have off : ∀ b, b ∉ as → b ≠ S → putZ (upd H S (.lst (as.map V.ref))) as (xs.zip ys) b = H b := fun b h1 h2 => by rw [putZ_off as _ _ h1, upd_ne h2]
  have low : ∀ b o, s.heap.get? b = some o → b ∉ as ∧ b ≠ S := fun b o e => ⟨fun z => absurd (Heap.lt_size e) (Nat.not_lt.mpr (Nat.le_of_lt (Nat.lt_of_le_of_lt hlS (g.hi b z)))), Nat.ne_of_lt (Nat.lt_of_lt_of_le (Heap.lt_size e) hlS)⟩
  have kp : Same H (putZ (upd H S (.lst (as.map V.ref))) as (xs.zip ys)) := fun b u e => by
    rw [off b (fun z => by rw [newA b z] at e; cases e) (fun z => by rw [z, newS] at e; cases e)]
    exact e
  have eS : putZ (upd H S (.lst (as.map V.ref))) as (xs.zip ys) S = some (.lst (as.map V.ref)) := by rw [putZ_off as _ _ nS, upd_same]
  refine ⟨putZ (upd H S (.lst (as.map V.ref))) as (xs.zip ys), kp, newS, newA, eS, atP, ?_⟩
  refine I.call' (ch := []) rfl ⟨fun c u e _ _ _ => hk c u e, fun c u e _ _ _ => ⟨u.slots, hk c u e⟩, fun b o q n _ => ?_, fun c u e _ => ⟨u, hk c u e⟩, fun c _ e => kp c _ e, fun c _ _ e => kp c _ e, fun c _ e => ⟨#[], by rw [kp c _ e]; simp⟩⟩ (fun b u q => ?_) I.bare fun b z => by simp at z
  · obtain ⟨z1, z2⟩ := low b o q
    rw [off b z1 z2]
    exact n
  · by_cases hb : b ∈ as
    · obtain ⟨j, pk, e1, e2, e3⟩ := LiI.paired_ix atP hb
      rw [e3] at q
      cases q
      obtain ⟨u, v, f1, f2, f3⟩ := g.at' j b e1
      rw [List.getElem?_zip_eq_some] at e2
      obtain ⟨u', g1, r1⟩ := vals_at rx e2.1
      obtain ⟨v', g2, r2⟩ := vals_at ry e2.2
      have eu : u' = u := by
        rw [List.getElem?_toArray] at f1
        exact Option.some.inj (g1.symm.trans f1)
      have ev : v' = v := by
        rw [List.getElem?_toArray] at f2
        exact Option.some.inj (g2.symm.trans f2)
      subst eu
      subst ev
      exact ⟨by show 2 ≤ sizeLine; decide, [u', v'], .cons r1 (.cons r2 .nil), ⟨_, f3, rfl, _, rfl⟩⟩
    · by_cases hb2 : b = S
      · rw [hb2] at q ⊢
        rw [eS] at q
        cases q
        refine ⟨by rw [List.length_map, hl]; omega, acc.toList, c, by rw [hacc]; exact LiI.vals_refs as, ?_⟩
        rw [Array.toArray_toList]
        exact hS
      · rw [off b hb hb2] at q
        exact (I.hok b u q).stay (fun c v _ e => hk c v e) (fun c e => kp c _ e) fun c _ e => kp c _ e
/-- list(zip(a, b)) -/
theorem pe_listZip {e e2 : Expr} {ta : TA} {p p2 pos pos2 : Pos} (hc : X.calm = true) (hg : Gl X "list") (hm : X.mg "list" = none) (hv : bootBuiltins "list" = some (.type "list")) (hg2 : Gl X "zip") (hm2 : X.mg "zip" = none) (ha : PA X [e, e2] ta)
    (hs : starEach [e, e2] X.env = (false, eval e X.env) :: starEach [e2] X.env := by rfl) (hpl : (backTo pos2 (starEach [e2] X.env)).any (·.1) = false := by rfl)
    (hs2 : starEach [.Call (.Name "zip" p2) [e, e2] [] pos2] X.env = (false, eval (.Call (.Name "zip" p2) [e, e2] [] pos2) X.env) :: starEach [] X.env := by rfl) :
    PE X (.Call (.Name "list" p) [.Call (.Name "zip" p2) [e, e2] [] pos2] [] pos) (tListZip X.K ta) := by
  refine ⟨fun pins s σ H Q I h => ?_⟩
  refine Call_ (ld_blt I hg hm hv ?_)
  refine PyProof.Rows.callWith_type1 (PyProof.Rows.args_cons ?_ hs2) hs2 rfl
  refine Call_ (ld_blt I hg2 hm2 PyProof.Rows.boot_zip (PyProof.Rows.callWith_type1 (thn (ha.run pos2 pins s σ H _ I h) fun us s1 ⟨vs, H1, I1, r1, q1⟩ => ?_) hs hpl))
  obtain ⟨a, b, xs, ys, ex, hqx, hqy, q⟩ := q1
  subst ex
  cases r1 with
  | cons r rr =>
    cases rr with
    | cons r' rr =>
      cases rr
      cases r
      cases r'
      obtain ⟨its, rv, p1, hz1⟩ := I1.list hqx
      obtain ⟨its2, rv2, p2', hz2⟩ := I1.list hqy
      have la : a < s1.heap.objs.size := p1.lt
      have lb : b < s1.heap.objs.size := p2'.lt
      have lx : its.toArray.size = xs.length := by rw [List.size_toArray, ← rv.length]
      have ly : its2.toArray.size = ys.length := by rw [List.size_toArray, ← rv2.length]
      refine call_zip_2 p1.isList p2'.isList fun h' hz hTI hTO h1 h2 hsz hk => ?_
      refine PyProof.Rows.args_nil ?_
      have far : ∀ {b : Addr} {o : Obj}, s1.heap.get? b = some o → ∀ k, b ≠ s1.heap.objs.size + k := fun e k => Nat.ne_of_lt (Nat.lt_of_lt_of_le (Heap.lt_size e) (Nat.le_add_right _ _))
      refine zl_call (s := { s1 with heap := h' }) (n := min its.toArray.size its2.toArray.size) (I1.ok.hd hc) (ktu_apart s1.heap.objs.size a b la lb) rfl (by rw [lx]; omega) hz hTI hTO h1 h2 (p1.isList.at fun o => hk _ o) (p2'.isList.at fun o => hk _ o) fun h2' tk acc c as k gS hl g hacc => ?_
      have hall : ∀ b o, s1.heap.get? b = some o → h2'.get? b = some o := fun b o e => k b o (far e 4) (far e 3) (far e 0) (far e 1) (hk b o e)
      obtain ⟨H', k1, k2, k3, k4, k5, J⟩ := zip_laid (tk := tk) I1 rv rv2 (S := h'.objs.size) (by rw [hsz]; exact Nat.le_add_right _ _) hz1 hall gS (by rw [hl, lx, ly]) g hacc
      exact ⟨.ref _, H', J, rfl, q H' _ as k1 k2 k3 k4 k5⟩
/-- list(d.values()), d keyed by tuples -/
def tListValsT (td : TE) : TE := fun σ H Q => td σ H fun x H1 => ∃ (d : Addr) (kvs : List (List L2.Key × V)), x = .ref d ∧ H1 d = some (.dT kvs) ∧ ∀ p, H1 p = none → Q (.ref p) (upd H1 p (.lst (kvs.map (·.2))))
theorem pe_listValsT {e : Expr} {td : TE} {p pos apos cpos : Pos} (hc : X.calm = true) (he : PE X e td) (hg : Gl X "list") (hm : X.mg "list" = none) (hv : bootBuiltins "list" = some (.type "list"))
    (hbase : attributeBase e "values" X.env (eval e X.env) = eval e X.env := by rfl) (hline : (apos.endLine == cpos.line) = true := by rfl)
    (hs : starEach [.Call (.Attribute e "values" apos) [] [] cpos] X.env = (false, eval (.Call (.Attribute e "values" apos) [] [] cpos) X.env) :: starEach [] X.env := by rfl) :
    PE X (.Call (.Name "list" p) [.Call (.Attribute e "values" apos) [] [] cpos] [] pos) (tListValsT td) := by
  refine ⟨fun pins s σ H Q I h => ?_⟩
  refine Call_ (ld_blt I hg hm hv ?_)
  refine PyProof.Rows.callWith_type1 (PyProof.Rows.args_cons ?_ hs) hs rfl
  refine wpAny_Call_method (T := "dict") (id := "dict.values") hbase rfl hline F.plainAttrs_dict F.slot_dict_values F.type_dict_values (thn (he.run pins s σ H _ I h) fun u s1 ⟨x, H1, I1, rx, d, kvs, ex, hd, q⟩ => ?_)
  subst ex
  obtain rfl : u = Value.ref d := rx
  obtain ⟨hz, hsys, ks, pr, o, es, ep, ho, hx, hdt, hes, nd⟩ := (show ObjOk X.prog X.w H1 s1.heap d (.dT kvs) from I1.hok d _ hd)
  have raw : s1.heap.DictRaw d es ep := ⟨o, ho, hx, hdt⟩
  have le1 : es.size = ks.length := by rw [← Array.length_toList, hes, List.length_map]
  have le2 : kvs.length = ks.length := Paired.length pr
  refine ⟨raw.typeIs, (fun b q => by cases q; exact ⟨o, ho, hx.2.1⟩), ?_⟩
  show wpAny _ _ (callWith cpos (.builtin "dict.values") [.ref d] [] []) _ X.xe s1
  refine method_meetsIn F.slot_dict_values F.entry_dict_values rfl (PySem.evalArgs_none ⟨rfl, raw.typeIs, F.args_dict_values_1 _, _, meets_dict_values_raw d hsys, ⟨es, ep, raw⟩, ?_⟩)
  refine PyProof.Rows.args_nil ?_
  have I2 : Inv X pins σ H1 { s1 with heap := s1.heap.push { cls := .type "dict_values", data := .fields #[.ref d] } } := I1.kept (t' := s1.toks) fun b ob q => Heap.get?_push_of_some _ q
  refine PySem.W.kdl_call (KdlSrc.rawValues (es := es) (ep := ep) (d := d)) (I1.ok.hd hc) ⟨⟨_, Heap.get?_push_size _ rfl, rfl, rfl⟩, raw.push _⟩ (by omega) fun h' tk acc c k gS it => ?_
  have lacc : acc.toList.length = ks.length := by rw [Array.length_toList, it.1]; exact le1
  have ea : acc.toList = ks.map fun x => x.2.2 := by
    apply List.ext_getElem?
    intro j
    rw [List.getElem?_map]
    by_cases hj : j < ks.length
    · have hj2 : j < acc.size := by rw [it.1]; omega
      obtain ⟨hi, ev⟩ := it.2 j _ (Array.getElem?_eq_getElem hj2)
      have e3 : es.toList[j]? = (ks.map (entryOfKey (tupleKind (mixKind X.prog X.w))))[j]? := by rw [hes]
      rw [List.getElem?_map, List.getElem?_eq_getElem hj, Array.getElem?_toList, Array.getElem?_eq_getElem hi] at e3
      have e4 : es[j] = entryOfKey (tupleKind (mixKind X.prog X.w)) ks[j] := Option.some.inj e3
      rw [Array.getElem?_toList, Array.getElem?_eq_getElem hj2, ev, e4, List.getElem?_eq_getElem hj]
      rfl
    · rw [List.getElem?_eq_none (by omega), List.getElem?_eq_none (by omega)]
      rfl
  have rv : Vals (kvs.map (·.2)) acc.toList := by
    rw [ea]
    clear ea lacc le1 le2 hes gS it hz hd q nd
    induction pr with
    | nil => exact .nil
    | cons a t ih => exact .cons a.2.2 ih
  have hz2 : (kvs.map (·.2)).length ≤ sizeLine := by rw [List.length_map]; exact hz
  refine ⟨.ref _, _, I2.laid (t' := tk) (o := .lst (kvs.map (·.2))) (fun b o e => k b o e) (Nat.le_refl _) ?_, rfl, q _ (I2.hok.fresh (Nat.le_refl _))⟩
  exact ⟨hz2, acc.toList, c, rv, by rw [Array.toArray_toList]; exact gS⟩
end
end Gm

set_option maxRecDepth 100000
set_option maxHeartbeats 4000000
/-! the search's things in memory -/
namespace Gm
open PySem PySem.Spec PyProof.Rows L2
section
variable {K : PySem.W.Frag} {H : Hp}
/-- all but l stays -/
def But (l : Addr) (H H' : Hp) : Prop := ∀ b o, b ≠ l → H b = some o → H' b = some o
theorem But.refl {l : Addr} : But l H H := fun _ _ _ h => h
theorem But.trans {l : Addr} {H H1 H2 : Hp} (a : But l H H1) (b : But l H1 H2) : But l H H2 := fun c o n h => b c o n (a c o n h)
theorem But.of {l : Addr} {H H' : Hp} (s : Same H H') : But l H H' := fun b o _ h => s b o h
theorem But.upd' {l : Addr} {o : HO} : But l H (upd H l o) := fun b u n h => by rw [upd_ne n]; exact h
theorem But.ts {l : Addr} {H H' : Hp} {xs : List V} (h : H l = some (.lst xs)) (b : But l H H') : TS K H H' := fun a zs q => by
  have n : ∀ {o : HO}, H a = some o → o ≠ .lst xs → a ≠ l := fun e d z => by
    rw [z, h] at e
    exact d (Option.some.inj e).symm
  rcases q with (q | ⟨o, q⟩) | q
  · exact .inl (.inl (b _ _ (n q (fun z => nomatch z)) q))
  · exact .inl (.inr ⟨o, b _ _ (n q (fun z => nomatch z)) q⟩)
  · exact .inr q
theorem But.same {l : Addr} {H H1 H' : Hp} (s : Same H H1) (n : H l = none) (b : But l H1 H') : Same H H' := fun a o h => b a o (ne_of_none h n) (s a o h)
def RAts (K : PySem.W.Frag) (H : Hp) : List (List Th) → List V → Prop := Paired (RAt K H)
theorem RAts.mono {H H' : Hp} (e : TS K H H') {L : List (List Th)} {vs : List V} (h : RAts K H L vs) : RAts K H' L vs := Paired.mapP h fun _ _ z => z.mono e
theorem RAts.dp : ∀ {L : List (List Th)} {vs : List V}, RAts K H L vs → DpAll K H vs (L.map rpd)
  | _, _, .nil => .nil
  | _, _, .cons h t => .cons h.dp (RAts.dp t)
theorem RAt.lay {r : List Th} {v : V} (h : RAt K H r v) : (rpd r).canLay0 = true := by
  obtain ⟨b, vs, rfl, q, t⟩ := h
  exact lay_tup t.lay
theorem RAts.lay : ∀ {L : List (List Th)} {vs : List V}, RAts K H L vs → PyData.canLayAll0 (L.map rpd) = true
  | _, _, .nil => lay_nil
  | _, _, .cons h t => lay_cons h.lay (RAts.lay t)
theorem rpd_depth {n : Nat} {r : List Th} (h : gd n r) : (rpd r).depth ≤ 1 + n := by
  have h1 := tpds_depth h
  simp only [rpd, PyData.depth]
  omega
theorem rpds_depth {n : Nat} : ∀ {L : List (List Th)}, (∀ r ∈ L, gd n r) → PyData.depthAll (L.map rpd) ≤ 1 + n
  | [], _ => by simp [PyData.depthAll]
  | s :: L, h => by
    have h1 := rpd_depth (h s List.mem_cons_self)
    have h2 := rpds_depth (L := L) fun u hu => h u (List.mem_cons_of_mem _ hu)
    simp only [List.map_cons, PyData.depthAll]
    omega
theorem RAt.shaped {r : List Th} {v : V} (h : RAt K H r v) (g : gd 50 r) : SeqAt.shaped (rpd r) = true := shaped_of h.lay (Nat.le_trans (rpd_depth g) (by decide))
theorem RAts.shaped {L : List (List Th)} {vs : List V} (h : RAts K H L vs) (g : ∀ r ∈ L, gd 50 r) : SeqAt.shaped (.list (L.map rpd)) = true := shaped_of (lay_list h.lay) (Nat.le_trans (list_depth (rpds_depth g)) (by decide))
theorem rpd_refl {r : List Th} {v : V} (h : RAt K H r v) : PyData.eqv (rpd r) (rpd r) = true := SeqAt.eqv_refl _ h.lay
theorem any_iff {L : List (List Th)} {r : List Th} {v : V} (h : RAt K H r v) : ((L.map rpd).any fun z => PyData.eqv z (rpd r)) = true ↔ r ∈ L := by
  rw [List.any_eq_true]
  constructor
  · rintro ⟨x, hx, e⟩
    obtain ⟨r', hr', rfl⟩ := List.mem_map.mp hx
    rw [← rpd_inj e]
    exact hr'
  · intro hm
    exact ⟨rpd r, List.mem_map.mpr ⟨r, hm, rfl⟩, rpd_refl h⟩
end
def rLn (K : PySem.W.Frag) : List V → Hp → VK → Prop := fun xs H Q => ∃ p ys, xs = [.ref p] ∧ (SqL K H p ys ∨ SqT K H p ys) ∧ Q (.int ys.length) H
/-! ### a text some times -/
def srep (z : Str) (k : Nat) : Str := ⟨((List.replicate k z.cps.toList).flatten).toArray⟩
theorem fold_rep (a : Array Nat) : ∀ (k : Nat) (acc : Array Nat), (List.replicate k a).foldl (· ++ ·) acc = acc ++ ((List.replicate k a.toList).flatten).toArray
  | 0, acc => by simp
  | k + 1, acc => by
    rw [List.replicate_succ, List.replicate_succ, List.foldl_cons, fold_rep a k, List.flatten_cons]
    apply Array.ext'
    simp
theorem srep_len (z : Str) (k : Nat) : (srep z k).length = k * z.length := by
  unfold srep Str.length
  rw [List.size_toArray]
  induction k with
  | zero => simp
  | succ k ih =>
    rw [List.replicate_succ, List.flatten_cons, List.length_append, ih, Array.length_toList, Nat.succ_mul]
    omega
theorem op_mul_str {X : Cx} : OpR X (binaryOp .Mult) (fun x y H Q => ∃ (z : Str) (k : Nat), x = .str z ∧ y = .int (k : Int) ∧ k ≤ 1000 ∧ z.length ≤ 10000 ∧ Q (.str (srep z k)) H) := by
  intro pins s σ H x y v u Q I rx ry h
  obtain ⟨z, k, rfl, rfl, hk, hz, q⟩ := h
  obtain ⟨t, rfl⟩ := rx
  obtain ⟨t', rfl⟩ := ry
  have big : k * z.length ≤ 10000000 := Nat.le_trans (Nat.mul_le_mul hk hz) (by decide)
  have e0 : (k : Int).toNat = k := Int.toNat_natCast k
  refine P.mul_str ?_ (fun h1 h2 => ?_) (fun h1 h2 => ?_) ?_
  · have h1 : ¬ (k : Int) < -(2 ^ 63 : Int) := by omega
    have h2 : ¬ (k : Int) ≥ 2 ^ 63 := by omega
    rw [decide_eq_false h1, decide_eq_false h2]
    rfl
  · have hpos : (0 : Int) < (k : Int) := by omega
    have hk2 : (k : Int) ≤ 1000 := by omega
    have hz2 : (z.length : Int) ≤ 10000 := by omega
    have h3 : (10000 : Int) ≤ (2 ^ 63 - 1) / (k : Int) := by
      rw [Int.le_ediv_iff_mul_le hpos]
      omega
    omega
  · rw [e0]
    unfold PySem.Builtin.Str.tooLong
    rw [decide_eq_false]
    rw [sizeLine_eq, Nat.mul_comm]
    omega
  · have es : ∀ {y : Str}, y = srep z k → Q (.str (srep z k)) H → ∀ tk : Tok, EP X pins σ Q (.str y tk) { s with toks := s.toks + 1 } := fun {y} e q tk => ⟨.str (srep z k), H, I.tok _, ⟨tk, by rw [e]⟩, q⟩
    by_cases c1 : (k : Int) < 1
    · rw [if_pos c1]
      have hk0 : k = 0 := by omega
      subst hk0
      exact ⟨by decide, es rfl q _⟩
    · rw [if_neg c1]
      by_cases c2 : ((k : Int) == 1 || z.length == 0) = true
      · rw [if_pos c2]
        have e : z = srep z k := by
          rcases Bool.or_eq_true_iff.mp c2 with c | c
          · have : k = 1 := by have := eq_of_beq c; omega
            subst this
            unfold srep
            simp
          · have h0 : z.length = 0 := eq_of_beq c
            have h1 := srep_len z k
            rw [h0, Nat.mul_zero] at h1
            obtain ⟨⟨l⟩⟩ := z
            have hl : l = [] := by simpa [Str.length] using h0
            subst hl
            unfold srep
            simp
        exact ⟨.str (srep z k), H, I, ⟨t, by rw [← e]⟩, q⟩
      · rw [if_neg c2, e0]
        refine ⟨?_, es ?_ q _⟩
        · rw [fold_rep]
          have e : (⟨#[] ++ ((List.replicate k z.cps.toList).flatten).toArray⟩ : Str) = srep z k := by
            unfold srep
            simp
          rw [e, srep_len]
          rw [sizeLine_eq]
          omega
        · rw [fold_rep]
          unfold srep
          simp
theorem seq_if {c : TT} {x y u : L2.TS} {D : Ends} {σ : L2.St} {H : Hp} (h : tIfS c x y { D with nx := u D } σ H) : tSeq (tIfS c x y) u D σ H := h
end Gm

set_option maxRecDepth 100000
set_option maxHeartbeats 4000000
/-! which texts a pattern takes, and by which way -/
namespace Gm
open PySem PySem.Spec PyProof.Rows L2
theorem Walk.app {z : List Nat} {a b c : Sta} {w w' : List Nat} (h : Walk z a w b) (h' : Walk z b w' c) : Walk z a (w ++ w') c := by
  induction h with
  | nil => exact h'
  | one e _ ih => exact .one e (ih h')
  | left e _ ih => exact .left e (ih h')
  | right e _ ih => exact .right e (ih h')
/-- the pattern takes y by the way ws, whatever stands round it -/
def TakesBy (p : Pat) (y ws : List Nat) : Prop := ∀ (u v : List Nat) (k : List Th), Walk (u ++ (y ++ v)) (.pat p :: k, u.length) ws (k, u.length + y.length)
theorem tb_none : TakesBy .none [] [] := fun u v k => .one (a := (k, u.length)) rfl .nil
theorem tb_sign (c : Nat) : TakesBy (.sign c) [c] [] := fun u v k => by
  refine .one (a := (k, u.length + 1)) ?_ .nil
  show (if (u ++ ([c] ++ v))[u.length]? = some c then [(k, u.length + 1)] else [] : List Sta) = _
  rw [if_pos (by simp)]
theorem tb_any (c : Nat) : TakesBy .any [c] [] := fun u v k => by
  refine .one (a := (k, u.length + 1)) ?_ .nil
  show (if u.length < (u ++ ([c] ++ v)).length then [(k, u.length + 1)] else [] : List Sta) = _
  rw [if_pos (by simp)]
theorem tb_row {p q : Pat} {y y' ws ws' : List Nat} (h : TakesBy p y ws) (h' : TakesBy q y' ws') : TakesBy (.row p q) (y ++ y') (ws ++ ws') := fun u v k => by
  have h1 := h u (y' ++ v) (.pat q :: k)
  have h2 := h' (u ++ y) v k
  have e : u ++ y ++ (y' ++ v) = u ++ (y ++ (y' ++ v)) := by simp
  rw [e, List.length_append] at h2
  have e2 : u ++ (y ++ y' ++ v) = u ++ (y ++ (y' ++ v)) := by simp
  rw [e2]
  refine .one (a := (.pat p :: .pat q :: k, u.length)) rfl (h1.app ?_)
  rw [List.length_append, ← Nat.add_assoc]
  exact h2
theorem tb_orL {p q : Pat} {y ws : List Nat} (h : TakesBy p y ws) : TakesBy (.or p q) y (0 :: ws) := fun u v k => .left (a := (.pat p :: k, u.length)) (b := (.pat q :: k, u.length)) rfl (h u v k)
theorem tb_orR {p q : Pat} {y ws : List Nat} (h : TakesBy q y ws) : TakesBy (.or p q) y (1 :: ws) := fun u v k => .right (a := (.pat p :: k, u.length)) (b := (.pat q :: k, u.length)) rfl (h u v k)
theorem tb_group {n : Int} {p : Pat} {y ws : List Nat} (h : TakesBy p y ws) : TakesBy (.group n p) y ws := fun u v k => by
  have h1 := (h u v (.close n :: k)).app (.one (a := (k, u.length + y.length)) rfl .nil)
  rw [List.append_nil] at h1
  exact .one (a := (.pat p :: .close n :: k, u.length)) rfl h1
theorem tb_more0 (p : Pat) : TakesBy (.more p) [] [1] := fun u v k => .right (a := (.pat p :: .pat (.more p) :: k, u.length)) (b := (k, u.length)) rfl .nil
theorem tb_less0 (p : Pat) : TakesBy (.less p) [] [0] := fun u v k => .left (a := (k, u.length)) (b := (.pat p :: .pat (.less p) :: k, u.length)) rfl .nil
theorem tb_more {p : Pat} {y y' ws ws' : List Nat} (h : TakesBy p y ws) (h' : TakesBy (.more p) y' ws') : TakesBy (.more p) (y ++ y') (0 :: (ws ++ ws')) := fun u v k => by
  have h1 := h u (y' ++ v) (.pat (.more p) :: k)
  have h2 := h' (u ++ y) v k
  have e : u ++ y ++ (y' ++ v) = u ++ (y ++ (y' ++ v)) := by simp
  rw [e, List.length_append] at h2
  have e2 : u ++ (y ++ y' ++ v) = u ++ (y ++ (y' ++ v)) := by simp
  rw [e2]
  refine .left (a := (.pat p :: .pat (.more p) :: k, u.length)) (b := (k, u.length)) rfl (h1.app ?_)
  rw [List.length_append, ← Nat.add_assoc]
  exact h2
theorem tb_less {p : Pat} {y y' ws ws' : List Nat} (h : TakesBy p y ws) (h' : TakesBy (.less p) y' ws') : TakesBy (.less p) (y ++ y') (1 :: (ws ++ ws')) := fun u v k => by
  have h1 := h u (y' ++ v) (.pat (.less p) :: k)
  have h2 := h' (u ++ y) v k
  have e : u ++ y ++ (y' ++ v) = u ++ (y ++ (y' ++ v)) := by simp
  rw [e, List.length_append] at h2
  have e2 : u ++ (y ++ y' ++ v) = u ++ (y ++ (y' ++ v)) := by simp
  rw [e2]
  refine .right (a := (k, u.length)) (b := (.pat p :: .pat (.less p) :: k, u.length)) rfl (h1.app ?_)
  rw [List.length_append, ← Nat.add_assoc]
  exact h2
theorem TakesBy.walk {p : Pat} {y ws : List Nat} (h : TakesBy p y ws) : Walk y ([.pat p], 0) ws (endS y) := by
  have := h [] [] []
  simp only [List.nil_append, List.append_nil, List.length_nil, Nat.zero_add] at this
  exact this
/-- it takes y by some way -/
def Takes (p : Pat) (y : List Nat) : Prop := ∃ ws, TakesBy p y ws
theorem Takes.reach {p : Pat} {y : List Nat} (h : Takes p y) : Reach y ([.pat p], 0) := by
  obtain ⟨ws, h⟩ := h
  exact ⟨ws, h.walk⟩
theorem tk_row {p q : Pat} {y y' : List Nat} : Takes p y → Takes q y' → Takes (.row p q) (y ++ y')
  | ⟨_, h⟩, ⟨_, h'⟩ => ⟨_, tb_row h h'⟩
theorem tk_orL {p q : Pat} {y : List Nat} : Takes p y → Takes (.or p q) y
  | ⟨_, h⟩ => ⟨_, tb_orL h⟩
theorem tk_orR {p q : Pat} {y : List Nat} : Takes q y → Takes (.or p q) y
  | ⟨_, h⟩ => ⟨_, tb_orR h⟩
theorem tk_group {n : Int} {p : Pat} {y : List Nat} : Takes p y → Takes (.group n p) y
  | ⟨_, h⟩ => ⟨_, tb_group h⟩
theorem tk_more {p : Pat} {y : List Nat} (h : Takes p y) : ∀ k : Nat, Takes (.more p) ((List.replicate k y).flatten)
  | 0 => ⟨_, tb_more0 p⟩
  | k + 1 => by
    obtain ⟨ws, h1⟩ := h
    obtain ⟨ws', h2⟩ := tk_more ⟨ws, h1⟩ k
    rw [List.replicate_succ, List.flatten_cons]
    exact ⟨_, tb_more h1 h2⟩
theorem tk_less {p : Pat} {y : List Nat} (h : Takes p y) : ∀ k : Nat, Takes (.less p) ((List.replicate k y).flatten)
  | 0 => ⟨_, tb_less0 p⟩
  | k + 1 => by
    obtain ⟨ws, h1⟩ := h
    obtain ⟨ws', h2⟩ := tk_less ⟨ws, h1⟩ k
    rw [List.replicate_succ, List.flatten_cons]
    exact ⟨_, tb_less h1 h2⟩
/-! ### what has been made -/
theorem nums_append (A B : List Pat) : nums (A ++ B) = nums A ++ nums B := by
  unfold nums
  rw [List.filterMap_append]
theorem ns_row (p q : Pat) : nums (subs (.row p q)) = nums (subs p) ++ nums (subs q) := nums_append (subs p) (subs q)
theorem ns_or (p q : Pat) : nums (subs (.or p q)) = nums (subs p) ++ nums (subs q) := nums_append (subs p) (subs q)
theorem ns_more (p : Pat) : nums (subs (.more p)) = nums (subs p) := rfl
theorem ns_less (p : Pat) : nums (subs (.less p)) = nums (subs p) := rfl
theorem ns_group (n : Int) (p : Pat) : nums (subs (.group n p)) = n :: nums (subs p) := rfl
theorem good_of {p : Pat} (h1 : (nums (subs p)).Nodup) (h2 : nr p = true) : goodP p := ⟨h1, by rw [nr_iff, h2]; rfl⟩
end Gm

set_option maxRecDepth 100000
set_option maxHeartbeats 4000000
/-! small things that the laws of the search share -/
namespace Gm
open PySem PySem.Spec PyProof.Rows L2
theorem pickI {xs : List Int} {i : Int} (h0 : 0 ≤ i) (h1 : i < (xs.length : Int)) : ∃ e : Int, atI (xs.map V.int) i = some (.int e) := by
  obtain ⟨j, rfl⟩ : ∃ j : Nat, i = (j : Int) := ⟨_, (Int.toNat_of_nonneg h0).symm⟩
  have hj : j < xs.length := by omega
  exact ⟨xs[j], atI_nat (by rw [List.getElem?_map, List.getElem?_eq_getElem hj]; rfl)⟩
theorem tk_none : Takes .none [] := ⟨_, tb_none⟩
theorem tk_any (c : Nat) : Takes .any [c] := ⟨_, tb_any c⟩
theorem tk_sign (c : Nat) : Takes (.sign c) [c] := ⟨_, tb_sign c⟩
theorem str_app (x y : Str) : (x ++ y).cps.toList = x.cps.toList ++ y.cps.toList := by
  show (x.cps ++ y.cps).toList = _
  simp
theorem str_app_len (x y : Str) : (x ++ y).length = x.length + y.length := by
  show (x.cps ++ y.cps).size = _
  simp [Str.length]
def sumB {α : Type} (f : α → Nat) (ps : List α) : Nat := (ps.map f).sum
theorem sumB_snoc {α : Type} (f : α → Nat) (ps : List α) (p : α) : sumB f (ps ++ [p]) = sumB f ps + f p := by
  unfold sumB
  simp
theorem sumB_pos {α : Type} (f : α → Nat) (h : ∀ x, 0 < f x) (ps : List α) : ps.length ≤ sumB f ps := by
  induction ps with
  | nil => exact Nat.le_refl _
  | cons x ps ih =>
    unfold sumB at *
    rw [List.map_cons, List.sum_cons, List.length_cons]
    have := h x
    omega
def gn3 (ps : List (Pat × Str)) : List Int := ps.flatMap fun m => nums (subs m.1)
theorem gn3_snoc (ps : List (Pat × Str)) (p : Pat × Str) : gn3 (ps ++ [p]) = gn3 ps ++ nums (subs p.1) := by
  unfold gn3
  simp
/-- what is known of the pile after i deeds -/
structure Pile (i : Nat) (num : Int) (ps : List (Pat × Str)) : Prop where
  n0 : 0 ≤ num
  n1 : num ≤ 900 * (i : Int)
  zs : sumB (fun m => siz m.1) ps + ps.length ≤ 5 * i
  ds : sumB (fun m => dep m.1) ps ≤ 2 * i
  ls : sumB (fun m => m.2.length) ps ≤ 13 * i
  nd : (gn3 ps).Nodup
  rg : ∀ n ∈ gn3 ps, 0 < n ∧ n ≤ num
theorem Pile.nil : Pile 0 0 [] := ⟨Int.le_refl _, by omega, Nat.le_refl _, Nat.le_refl _, Nat.le_refl _, List.nodup_nil, fun n h => by cases h⟩
theorem Pile.leaf {i : Nat} {num : Int} {ps : List (Pat × Str)} {p : Pat} {y : Str} (h : Pile i num ps) (h1 : siz p = 1) (h2 : dep p = 1) (h3 : nums (subs p) = []) (h4 : y.length ≤ 1) : Pile (i + 1) num (ps ++ [(p, y)]) := by
  have a1 := h.n1
  have a2 := h.zs
  have a3 := h.ds
  have a4 := h.ls
  refine ⟨h.n0, by push_cast; omega, ?_, ?_, ?_, ?_, ?_⟩
  · rw [sumB_snoc, List.length_append, List.length_singleton]
    simp only
    omega
  · rw [sumB_snoc]
    simp only
    omega
  · rw [sumB_snoc]
    simp only
    omega
  · rw [gn3_snoc, h3, List.append_nil]
    exact h.nd
  · rw [gn3_snoc, h3, List.append_nil]
    exact h.rg
theorem Pile.two {i j : Nat} {num : Int} {ps : List (Pat × Str)} {m1 m2 : Pat × Str} {p : Pat} {y : Str} (h : Pile i num (ps ++ [m1] ++ [m2])) (hij : i ≤ j) (h1 : siz p = 1 + siz m1.1 + siz m2.1) (h2 : dep p = 1 + max (dep m1.1) (dep m2.1)) (h3 : nums (subs p) = nums (subs m1.1) ++ nums (subs m2.1)) (h4 : y.length ≤ m1.2.length + m2.2.length) : Pile j num (ps ++ [(p, y)]) := by
  have a1 := h.n1
  have a2 := h.zs
  have a3 := h.ds
  have a4 := h.ls
  have a5 := h.nd
  have a6 := h.rg
  rw [sumB_snoc, sumB_snoc] at a2 a3 a4
  rw [List.length_append, List.length_append, List.length_singleton, List.length_singleton] at a2
  rw [gn3_snoc, gn3_snoc, List.append_assoc] at a5 a6
  have d1 := dep_pos m1.1
  have d2 := dep_pos m2.1
  refine ⟨h.n0, by omega, ?_, ?_, ?_, ?_, ?_⟩
  · rw [sumB_snoc, List.length_append, List.length_singleton]
    simp only at *
    omega
  · rw [sumB_snoc]
    simp only at *
    omega
  · rw [sumB_snoc]
    simp only at *
    omega
  · rw [gn3_snoc, h3]
    exact a5
  · rw [gn3_snoc, h3]
    exact a6
theorem Pile.round {i : Nat} {num : Int} {ps : List (Pat × Str)} {m1 : Pat × Str} {p : Pat} {y : Str} (h : Pile i num (ps ++ [m1])) (h1 : siz p ≤ 3 + siz m1.1) (h2 : dep p ≤ 2 + dep m1.1) (h3 : nums (subs p) = nums (subs m1.1)) (h4 : y.length ≤ 13 + m1.2.length) : Pile (i + 1) num (ps ++ [(p, y)]) := by
  have a1 := h.n1
  have a2 := h.zs
  have a3 := h.ds
  have a4 := h.ls
  have a5 := h.nd
  have a6 := h.rg
  rw [sumB_snoc] at a2 a3 a4
  rw [List.length_append, List.length_singleton] at a2
  rw [gn3_snoc] at a5 a6
  refine ⟨h.n0, by push_cast; omega, ?_, ?_, ?_, ?_, ?_⟩
  · rw [sumB_snoc, List.length_append, List.length_singleton]
    simp only at *
    omega
  · rw [sumB_snoc]
    simp only at *
    omega
  · rw [sumB_snoc]
    simp only at *
    omega
  · rw [gn3_snoc, h3]
    exact a5
  · rw [gn3_snoc, h3]
    exact a6
theorem Pile.group {i : Nat} {num k : Int} {ps : List (Pat × Str)} {m1 : Pat × Str} (h : Pile i num (ps ++ [m1])) (hk : 0 < k) (hk2 : k ≤ 900) : Pile (i + 1) (num + k) (ps ++ [(.group (num + k) m1.1, m1.2)]) := by
  have a0 := h.n0
  have a1 := h.n1
  have a2 := h.zs
  have a3 := h.ds
  have a4 := h.ls
  have a5 := h.nd
  have a6 := h.rg
  rw [sumB_snoc] at a2 a3 a4
  rw [List.length_append, List.length_singleton] at a2
  rw [gn3_snoc] at a5 a6
  refine ⟨by omega, by push_cast; omega, ?_, ?_, ?_, ?_, ?_⟩
  · rw [sumB_snoc, List.length_append, List.length_singleton]
    simp only [siz_group] at *
    omega
  · rw [sumB_snoc]
    simp only [dep] at *
    omega
  · rw [sumB_snoc]
    simp only at *
    omega
  · rw [gn3_snoc, ns_group]
    have b := List.nodup_append.mp a5
    rw [List.nodup_append]
    refine ⟨b.1, List.nodup_cons.mpr ⟨fun hm => ?_, b.2.1⟩, fun u hu v hv e => ?_⟩
    · have := (a6 _ (List.mem_append_right _ hm)).2
      omega
    · rcases List.mem_cons.mp hv with rfl | hv
      · have := (a6 u (List.mem_append_left _ hu)).2
        omega
      · exact b.2.2 u hu v hv e
  · rw [gn3_snoc, ns_group]
    intro n hn
    rcases List.mem_append.mp hn with z | z
    · have := a6 n (List.mem_append_left _ z)
      exact ⟨this.1, by omega⟩
    · rcases List.mem_cons.mp z with rfl | z
      · exact ⟨by omega, Int.le_refl _⟩
      · have := a6 n (List.mem_append_right _ z)
        exact ⟨this.1, by omega⟩
/-- what is known of what has been made by n deeds -/
structure Made3 (n : Nat) (m : Pat × Str) : Prop where
  sz : siz m.1 ≤ 1 + 5 * n
  dp : dep m.1 ≤ 1 + 2 * n
  ln : m.2.length ≤ 13 * n
  nd : (nums (subs m.1)).Nodup
  rg : ∀ k ∈ nums (subs m.1), 0 < k ∧ k ≤ 900 * (n : Int)
theorem Pile.len {i : Nat} {num : Int} {ps : List (Pat × Str)} (h : Pile i num ps) (hi : i ≤ 41) : ps.length ≤ 205 ∧ ∀ m ∈ ps, m.2.length ≤ 600 := by
  have h1 := h.zs
  have h2 := h.ls
  refine ⟨by omega, fun m hm => ?_⟩
  have : m.2.length ≤ sumB (fun m => m.2.length) ps := by
    clear h1 h2 h
    induction ps with
    | nil => cases hm
    | cons x ps ih =>
      unfold sumB at *
      rw [List.map_cons, List.sum_cons]
      rcases List.mem_cons.mp hm with rfl | hm
      · omega
      · have := ih hm
        omega
  omega
theorem cut_int (ns : List Int) (i j : Nat) : ∃ ns' : List Int, cutV (ns.map V.int) (some (i : Int)) (some (j : Int)) = ns'.map V.int ∧ ns'.length ≤ j - i := by
  unfold cutV
  rw [HT.sIx_nat, HT.sIx_nat]
  refine ⟨(ns.drop (min i (ns.map V.int).length)).take (min j (ns.map V.int).length - min i (ns.map V.int).length), ?_, ?_⟩
  · rw [List.map_take, List.map_drop]
  · rw [List.length_take]
    omega
theorem cut_le {z : Str} {m : Nat} (lo hi : Option Int) (h : z.length ≤ m) : (cutS z lo hi).length ≤ m := Nat.le_trans (cutS_length z lo hi) h
theorem pickS {xs : List Str} {i : Int} (h0 : 0 ≤ i) (h1 : i < (xs.length : Int)) : ∃ e ∈ xs, atI (xs.map V.str) i = some (.str e) := by
  obtain ⟨j, rfl⟩ : ∃ j : Nat, i = (j : Int) := ⟨_, (Int.toNat_of_nonneg h0).symm⟩
  have hj : j < xs.length := by omega
  exact ⟨xs[j], List.getElem_mem hj, atI_nat (by rw [List.getElem?_map, List.getElem?_eq_getElem hj]; rfl)⟩
theorem tk_tail {p : Pat} : ∀ {ts : List Nat}, (∀ c ∈ ts, Takes p [c]) → Takes (.more p) ts ∧ Takes (.less p) ts
  | [], _ => ⟨⟨_, tb_more0 p⟩, ⟨_, tb_less0 p⟩⟩
  | c :: ts, h => by
    obtain ⟨⟨w1, h1⟩, ⟨w2, h2⟩⟩ := tk_tail (ts := ts) fun d hd => h d (List.mem_cons_of_mem _ hd)
    obtain ⟨w, h0⟩ := h c List.mem_cons_self
    exact ⟨⟨_, tb_more h0 h1⟩, ⟨_, tb_less h0 h2⟩⟩
theorem mem_le_sum : ∀ {l : List Nat} {x : Nat}, x ∈ l → x ≤ l.sum
  | y :: l, x, h => by
    rw [List.sum_cons]
    rcases List.mem_cons.mp h with rfl | h
    · omega
    · have := mem_le_sum h
      omega
theorem walk_inv {z : List Nat} {s : Sta} {w : List Nat} (h : Walk z s w (endS z)) : (s = endS z ∧ w = []) ∨ (∃ a, step z s = [a] ∧ Walk z a w (endS z)) ∨
    (∃ a b c w', step z s = [a, b] ∧ w = c :: w' ∧ ((c = 0 ∧ Walk z a w' (endS z)) ∨ (c = 1 ∧ Walk z b w' (endS z)))) := by
  generalize he : endS z = e at h
  cases h with
  | nil => exact .inl ⟨rfl, rfl⟩
  | one h r => exact .inr (.inl ⟨_, h, r⟩)
  | left h r => exact .inr (.inr ⟨_, _, _, _, h, rfl, .inl ⟨rfl, r⟩⟩)
  | right h r => exact .inr (.inr ⟨_, _, _, _, h, rfl, .inr ⟨rfl, r⟩⟩)
/-- small enough to be searched -/
structure Fit (m : Pat × Str) : Prop where
  sz : siz m.1 ≤ 200
  dp : dep m.1 ≤ 50
  nd : (nums (subs m.1)).Nodup
  ln : m.2.length ≤ 400
theorem Made3.fit {n : Nat} {m : Pat × Str} (h : Made3 n m) (e : n ≤ 16) : Fit m := ⟨by have := h.sz; omega, by have := h.dp; omega, h.nd, by have := h.ln; omega⟩
end Gm

set_option maxRecDepth 100000
set_option maxHeartbeats 4000000
/-! dict comprehensions over lists and over dicts; one as the value of a name -/
namespace Gm
open PySem PySem.Spec PyProof.Rows L2
theorem dc_list {K : PySem.W.Frag} {a : Addr} {xs : List V} {g : TG} {tt : TT} {tk tv : TE} {vs : List Nat} {σ : L2.St} {H1 : Hp} {D : Addr} {Qd : Hp → Prop} (Pv : Nat → Hp → Prop) (h0 : Pv 0 (upd H1 D (.dK []))) (hl : ∀ i H, Pv i H → SqL K H a xs)
    (hs : ∀ i x H, xs[i]? = some x → Pv i H → g x (wipe σ vs) H fun σ2 H2 => wipe σ2 vs = wipe σ vs ∧ tt σ2 H2 fun b H3 =>
      if b = true then tk σ2 H3 fun y H4 => tv σ2 H4 fun z H5 => ∃ kvs k, y = kV k ∧ H5 D = some (.dK kvs) ∧ kvs.length < sizeLine ∧ Pv (i + 1) (upd H5 D (.dK (putK kvs k z))) else Pv (i + 1) H3) (hd : ∀ H, Pv xs.length H → Qd H) :
    ∃ W : Nat → Nat → Hp → Prop, (∃ m, W 0 m (upd H1 D (.dK []))) ∧ ∀ i m H, W i m H →
      ((Itl K a).stop i H ∧ Qd H) ∨ ((Itl K a).go i H ∧ ∃ Nx : Hp → Prop, (∀ H', Nx H' → ∃ m', m' < m ∧ W (i + 1) m' H') ∧ ∀ x H', (Itl K a).yld i H x H' → g x (wipe σ vs) H' fun σ2 H2 => wipe σ2 vs = wipe σ vs ∧ tt σ2 H2 fun b H3 =>
        if b = true then tk σ2 H3 fun y H4 => tv σ2 H4 fun z H5 => ∃ kvs k, y = kV k ∧ H5 D = some (.dK kvs) ∧ kvs.length < sizeLine ∧ Nx (upd H5 D (.dK (putK kvs k z))) else Nx H3) := by
  refine ⟨fun i m H => m = xs.length - i ∧ i ≤ xs.length ∧ Pv i H, ⟨xs.length, by simp, Nat.zero_le _, h0⟩, ?_⟩
  rintro i m H ⟨rfl, hi, p⟩
  have q := hl i H p
  by_cases hlt : i < xs.length
  · refine .inr ⟨⟨xs, xs[i], q, by simp [hlt]⟩, Pv (i + 1), fun H' p' => ⟨xs.length - (i + 1), by omega, rfl, hlt, p'⟩, fun x H' y => ?_⟩
    obtain ⟨e, y⟩ := y
    subst e
    exact hs i x _ (y xs q) p
  · have e : i = xs.length := by omega
    subst e
    exact .inl ⟨⟨xs, q, Nat.le_refl _⟩, hd H p⟩

theorem dc_keys {d : Addr} {o : Obj} {kvs0 : List (L2.Key × V)} {g : TG} {tt : TT} {tk tv : TE} {vs : List Nat} {σ : L2.St} {H1 : Hp} {D : Addr} {Qd : Hp → Prop} (Pv : Nat → Hp → Prop) (h0 : Pv 0 (upd H1 D (.dK []))) (hl : ∀ i H, Pv i H → H d = some (.frz o (.dK kvs0)))
    (hs : ∀ i (k : L2.Key) (v : V) H, kvs0[i]? = some (k, v) → Pv i H → g (kV k) (wipe σ vs) H fun σ2 H2 => wipe σ2 vs = wipe σ vs ∧ tt σ2 H2 fun b H3 =>
      if b = true then tk σ2 H3 fun y H4 => tv σ2 H4 fun z H5 => ∃ kvs k, y = kV k ∧ H5 D = some (.dK kvs) ∧ kvs.length < sizeLine ∧ Pv (i + 1) (upd H5 D (.dK (putK kvs k z))) else Pv (i + 1) H3) (hd : ∀ H, Pv kvs0.length H → Qd H) :
    ∃ W : Nat → Nat → Hp → Prop, (∃ m, W 0 m (upd H1 D (.dK []))) ∧ ∀ i m H, W i m H →
      ((Itk d o kvs0).stop i H ∧ Qd H) ∨ ((Itk d o kvs0).go i H ∧ ∃ Nx : Hp → Prop, (∀ H', Nx H' → ∃ m', m' < m ∧ W (i + 1) m' H') ∧ ∀ x H', (Itk d o kvs0).yld i H x H' → g x (wipe σ vs) H' fun σ2 H2 => wipe σ2 vs = wipe σ vs ∧ tt σ2 H2 fun b H3 =>
        if b = true then tk σ2 H3 fun y H4 => tv σ2 H4 fun z H5 => ∃ kvs k, y = kV k ∧ H5 D = some (.dK kvs) ∧ kvs.length < sizeLine ∧ Nx (upd H5 D (.dK (putK kvs k z))) else Nx H3) := by
  refine ⟨fun i m H => m = kvs0.length - i ∧ i ≤ kvs0.length ∧ Pv i H, ⟨kvs0.length, by simp, Nat.zero_le _, h0⟩, ?_⟩
  rintro i m H ⟨rfl, hi, p⟩
  have q := hl i H p
  by_cases hlt : i < kvs0.length
  · refine .inr ⟨⟨q, hlt⟩, Pv (i + 1), fun H' p' => ⟨kvs0.length - (i + 1), by omega, rfl, hlt, p'⟩, fun x H' y => ?_⟩
    obtain ⟨e, k, v, ek, ex⟩ := y
    subst e ex
    exact hs i k v _ ek p
  · have e : i = kvs0.length := by omega
    subst e
    exact .inl ⟨⟨q, Nat.le_refl _⟩, hd H p⟩
section
variable {X : Cx}
theorem ps_setDc {i : Nat} {y : Str} {py : Pos} {kx vx tg iter : Expr} {ifs : List Expr} {scope : Scope} {own : List (Str × Nat)} {pos spos : Pos} {wi : TI} {g : TG} {tt : TT} {tk tv : TE} (hc : X.calm = true) (hN : X.N.Nodup) (hy : X.N[i]? = some y) (hyl : X.env.scope.names.lookup y = some .local)
    (hsw : swapsWith (.DictComp kx vx [⟨tg, iter, ifs, 0⟩] scope pos) (some (.Name y py)) spos.line X.env = pure true) (hi : PI X tg iter wi) (ok : BlkOk X.N X.env.scope scope own)
    (hg : ∀ (s : Shared) (H : Hp) (C : Addr) (cl : List (Str × Addr)) (fp : List Addr), PG (X.blk s H scope (compEnvC scope cl C X.env) fp) tg g) (ht : ∀ (s : Shared) (H : Hp) (C : Addr) (cl : List (Str × Addr)) (fp : List Addr), PTs (X.blk s H scope (compEnvC scope cl C X.env) fp) ifs tt)
    (hk : ∀ (s : Shared) (H : Hp) (C : Addr) (cl : List (Str × Addr)) (fp : List Addr), PE (X.blk s H scope (compEnvC scope cl C X.env) fp) kx tk)
    (he : ∀ (s : Shared) (H : Hp) (C : Addr) (cl : List (Str × Addr)) (fp : List Addr), PE (X.blk s H scope (compEnvC scope cl C X.env) fp) vx tv) (hs : ∀ x, foldedSetIterable iter X.env x = pure x := by intro _; rfl) :
    PS X (.Assign [.Name y py] (.DictComp kx vx [⟨tg, iter, ifs, 0⟩] scope pos) spos) (tAsg (tDc wi g tt tk tv (own.map (·.2))) (gName i)) := by
  refine ⟨fun pins s σ H D I h => ?_⟩
  rw [exec_Assign_Name_used _ _ _ _ hsw]
  refine wpAny_bind (wpAny_standAt (wpAny_bind ?_))
  show wpAny _ X.A (do let _ ← comprehension (.DictComp kx vx [⟨tg, iter, ifs, 0⟩] scope pos) scope X.env (firstIterPos [⟨tg, iter, ifs, 0⟩] pos) newDict false (eval iter X.env) (some (assign (.Name y py) X.env))) _ _ s
  have h : tDc wi g tt tk tv (own.map (·.2)) σ H (fun x H1 => gName i x σ H1 D.nx) := h
  refine wpAny_bind (thn (dc_core (Qf := fun _ s' => SP X pins D .next s') hc hN I hi ok hg ht hk he hs h fun L C s' m H' I' q hn f => ?_) fun _ s' hq => wpAny_pure (wpAny_pure hq))
  show wpAny _ _ (assign (.Name y py) X.env (.ref L)) _ _ _
  refine wpAny_assign_Name (store_ok2 (v := V.ref L) I' hN hy (.inl hyl) rfl (fun s2 I2 ⟨a, sb, ha⟩ => ?_) (.inr hyl))
  obtain ⟨f0, f1, f2, f3, f4, f5⟩ := f
  have haC : C ≠ a := by
    rcases ha with z | z
    · rw [z]; exact f1
    · exact fun e => f4 y a z e.symm
  refine ⟨m, hn.sameBut sb haC, fun h3 sb3 => ?_⟩
  exact ⟨_, H', I2.turned (t' := s2.toks) (fun b o hb e => (sb3.2 b hb).trans e) f0 f1 f3 f4 f5, q⟩
theorem sw_trueD {kx vx : Expr} {gs : List Comprehension} {scope : Scope} {pos py : Pos} {y : Str} {l : Nat} {env : Env} (hk : env.scope.kind = .function) (hy : env.scope.names.lookup y = some .local) (hl : (py.line == pos.line) = true)
    (ha : (scope.names.any fun (n, k) => n == y && (k == .local || k == .cell)) = false) : swapsWith (.DictComp kx vx gs scope pos) (some (.Name y py)) l env = pure true := by
  have ky : env.kindOf y = some .local := hy
  have hb : env.blockKind = .function := by unfold Env.blockKind; rw [hk]; rfl
  unfold swapsWith
  simp only [hb, ky, ha, Expr.pos, hl]
  rfl
end
/-- list(d), d keyed by numbers and texts -/
def tListK (td : TE) : TE := fun σ H Q => td σ H fun x H1 => ∃ (d : Addr) (kvs : List (L2.Key × V)), x = .ref d ∧ H1 d = some (.dK kvs) ∧ ∀ p, H1 p = none → Q (.ref p) (upd H1 p (.lst (kvs.map fun kv => kV kv.1)))
section
variable {X : Cx}
theorem pe_listK {e : Expr} {td : TE} {p pos : Pos} (hc : X.calm = true) (he : PE X e td) (hg : Gl X "list") (hm : X.mg "list" = none) (hv : bootBuiltins "list" = some (.type "list"))
    (hs : starEach [e] X.env = (false, eval e X.env) :: starEach [] X.env := by rfl) : PE X (.Call (.Name "list" p) [e] [] pos) (tListK td) := by
  refine ⟨fun pins s σ H Q I h => ?_⟩
  refine Call_ (ld_blt I hg hm hv ?_)
  refine PyProof.Rows.callWith_type1 (PyProof.Rows.args_cons (thn (he.run pins s σ H _ I h) fun u s1 ⟨x, H1, I1, rx, d, kvs, ex, hd, q⟩ => ?_) hs) hs rfl
  subst ex
  obtain rfl : u = Value.ref d := rx
  obtain ⟨hz, hsys, vs, kv, dd⟩ := (show ObjOk X.prog X.w H1 s1.heap d (.dK kvs) from I1.hok d _ hd)
  obtain ⟨es, ep, raw, le, ent⟩ := dd.raw
  have l2 : kvs.length = vs.length := Paired.length kv
  refine PyProof.Rows.args_nil ?_
  refine PySem.W.kdl_call (KdlSrc.rawDict (es := es) (ep := ep) (d := d) hsys) (I1.ok.hd hc) raw (by omega) fun h' tk acc c k gS it => ?_
  have lacc : acc.toList.length = vs.length := by rw [Array.length_toList, it.1]; exact le
  have rv : Vals (kvs.map fun kv => kV kv.1) acc.toList := by
    refine vals_of_idx _ _ (by rw [List.length_map, lacc, l2]) fun j u hj => ?_
    have hj' : acc[j]? = some u := by rw [← Array.getElem?_toList]; exact hj
    obtain ⟨hi, ev⟩ := it.2 j u hj'
    have hjv : j < vs.length := by omega
    obtain ⟨hkey, _⟩ := ent j hi (vs[j]).1 (vs[j]).2 (by rw [List.getElem?_eq_getElem hjv])
    obtain ⟨x, ex, e1, _⟩ := Paired.at kv (List.getElem?_eq_getElem hjv)
    exact ⟨kV x.1, by rw [List.getElem?_map, ex]; rfl, by rw [e1, ev]; exact relV_key hkey⟩
  have hz2 : (kvs.map fun kv => kV kv.1).length ≤ sizeLine := by rw [List.length_map]; exact hz
  refine ⟨.ref _, _, I1.laid (t' := tk) (o := .lst (kvs.map fun kv => kV kv.1)) (fun b o e => k b o e) (Nat.le_refl _) ?_, rfl, q _ (I1.hok.fresh (Nat.le_refl _))⟩
  exact ⟨hz2, acc.toList, c, rv, by rw [Array.toArray_toList]; exact gS⟩
end
end Gm

set_option maxRecDepth 100000
set_option maxHeartbeats 4000000
namespace G1
open PySem PySem.Spec PyProof.Rows L2 Gm
def top (i : Nat) : Stmt := PySem.Challenge.pw_groupmarks_k11_whole_parts_taken.main.body.getD i (.Pass ⟨0, 0, 0, 0⟩)
abbrev s_parts : Stmt := top 8
abbrev N_parts : List Str := ["pattern", "found", "waiting", "part"]
theorem sc_parts : FnScope N_parts ["pattern"] (defScope s_parts) := ⟨rfl, rfl, rfl, by decide +kernel, rfl, by decide +kernel, by decide +kernel⟩

abbrev s_numbers : Stmt := top 9
abbrev N_numbers : List Str := ["pattern"]
theorem sc_numbers : FnScope N_numbers ["pattern"] (defScope s_numbers) := ⟨rfl, rfl, rfl, by decide +kernel, rfl, by decide +kernel, by decide +kernel⟩

abbrev s_checked : Stmt := top 10
abbrev N_checked : List Str := ["pattern", "found"]
theorem sc_checked : FnScope N_checked ["pattern"] (defScope s_checked) := ⟨rfl, rfl, rfl, by decide +kernel, rfl, by decide +kernel, by decide +kernel⟩

abbrev s__has_form : Stmt := top 11
abbrev N__has_form : List Str := ["thing", "name"]
theorem sc__has_form : FnScope N__has_form ["thing"] (defScope s__has_form) := ⟨rfl, rfl, rfl, by decide +kernel, rfl, by decide +kernel, by decide +kernel⟩

abbrev s__is_sign : Stmt := top 12
abbrev N__is_sign : List Str := ["thing"]
theorem sc__is_sign : FnScope N__is_sign ["thing"] (defScope s__is_sign) := ⟨rfl, rfl, rfl, by decide +kernel, rfl, by decide +kernel, by decide +kernel⟩

abbrev s__is_group_number : Stmt := top 13
abbrev N__is_group_number : List Str := ["thing"]
theorem sc__is_group_number : FnScope N__is_group_number ["thing"] (defScope s__is_group_number) := ⟨rfl, rfl, rfl, by decide +kernel, rfl, by decide +kernel, by decide +kernel⟩

abbrev s__inner : Stmt := top 14
abbrev N__inner : List Str := ["part"]
theorem sc__inner : FnScope N__inner ["part"] (defScope s__inner) := ⟨rfl, rfl, rfl, by decide +kernel, rfl, by decide +kernel, by decide +kernel⟩

abbrev s__numbers_among : Stmt := top 15
abbrev N__numbers_among : List Str := ["found", "part"]
theorem sc__numbers_among : FnScope N__numbers_among ["found"] (defScope s__numbers_among) := ⟨rfl, rfl, rfl, by decide +kernel, rfl, by decide +kernel, by decide +kernel⟩

abbrev s__has_twins : Stmt := top 16
abbrev N__has_twins : List Str := ["many"]
theorem sc__has_twins : FnScope N__has_twins ["many"] (defScope s__has_twins) := ⟨rfl, rfl, rfl, by decide +kernel, rfl, by decide +kernel, by decide +kernel⟩

abbrev s__takings : Stmt := top 17
abbrev N__takings : List Str := ["found", "takings", "open_answers", "part", "inner_answers", "answer", "_"]
theorem sc__takings : FnScope N__takings ["found"] (defScope s__takings) := ⟨rfl, rfl, rfl, by decide +kernel, rfl, by decide +kernel, by decide +kernel⟩

abbrev s__may_take_nothing : Stmt := top 18
abbrev N__may_take_nothing : List Str := ["name", "inner_answers"]
theorem sc__may_take_nothing : FnScope N__may_take_nothing ["name", "inner_answers"] (defScope s__may_take_nothing) := ⟨rfl, rfl, rfl, by decide +kernel, rfl, by decide +kernel, by decide +kernel⟩

abbrev s__has_empty_round : Stmt := top 19
abbrev N__has_empty_round : List Str := ["found", "takings", "at", "part"]
theorem sc__has_empty_round : FnScope N__has_empty_round ["found"] (defScope s__has_empty_round) := ⟨rfl, rfl, rfl, by decide +kernel, rfl, by decide +kernel, by decide +kernel⟩

abbrev s_first_state : Stmt := top 21
abbrev N_first_state : List Str := ["pattern"]
theorem sc_first_state : FnScope N_first_state ["pattern"] (defScope s_first_state) := ⟨rfl, rfl, rfl, by decide +kernel, rfl, by decide +kernel, by decide +kernel⟩

abbrev s_is_end : Stmt := top 22
abbrev N_is_end : List Str := ["state", "text"]
theorem sc_is_end : FnScope N_is_end ["state", "text"] (defScope s_is_end) := ⟨rfl, rfl, rfl, by decide +kernel, rfl, by decide +kernel, by decide +kernel⟩

abbrev s_onward : Stmt := top 23
abbrev N_onward : List Str := ["state", "text", "rest", "place", "thing", "behind", "ahead"]
theorem sc_onward : FnScope N_onward ["state", "text"] (defScope s_onward) := ⟨rfl, rfl, rfl, by decide +kernel, rfl, by decide +kernel, by decide +kernel⟩

abbrev s__takes : Stmt := top 24
abbrev N__takes : List Str := ["thing", "sign"]
theorem sc__takes : FnScope N__takes ["thing", "sign"] (defScope s__takes) := ⟨rfl, rfl, rfl, by decide +kernel, rfl, by decide +kernel, by decide +kernel⟩

abbrev s__unfolded : Stmt := top 25
abbrev N__unfolded : List Str := ["thing", "p", "q", "n"]
theorem sc__unfolded : FnScope N__unfolded ["thing"] (defScope s__unfolded) := ⟨rfl, rfl, rfl, by decide +kernel, rfl, by decide +kernel, by decide +kernel⟩

abbrev s_numbers_ahead : Stmt := top 27
abbrev N_numbers_ahead : List Str := ["pattern", "first_rest", "_", "rests", "ahead", "following", "rest"]
theorem sc_numbers_ahead : FnScope N_numbers_ahead ["pattern"] (defScope s_numbers_ahead) := ⟨rfl, rfl, rfl, by decide +kernel, rfl, by decide +kernel, by decide +kernel⟩

abbrev s__number : Stmt := top 28
abbrev N__number : List Str := ["rest", "rests"]
theorem sc__number : FnScope N__number ["rest", "rests"] (defScope s__number) := ⟨rfl, rfl, rfl, by decide +kernel, rfl, by decide +kernel, by decide +kernel⟩

abbrev s__led_on_to : Stmt := top 29
abbrev N__led_on_to : List Str := ["rest", "behind", "_"]
theorem sc__led_on_to : FnScope N__led_on_to ["rest"] (defScope s__led_on_to) := ⟨rfl, rfl, rfl, by decide +kernel, rfl, by decide +kernel, by decide +kernel⟩

abbrev s__wanted_sign : Stmt := top 30
abbrev N__wanted_sign : List Str := ["rest"]
theorem sc__wanted_sign : FnScope N__wanted_sign ["rest"] (defScope s__wanted_sign) := ⟨rfl, rfl, rfl, by decide +kernel, rfl, by decide +kernel, by decide +kernel⟩

abbrev s_Step__init : Stmt := inClass (top 32) 0
abbrev N_Step__init : List Str := ["self", "number", "state", "following"]
theorem sc_Step__init : FnScope N_Step__init ["self", "number", "state", "following"] (defScope s_Step__init) := ⟨rfl, rfl, rfl, by decide +kernel, rfl, by decide +kernel, by decide +kernel⟩

abbrev s_first_way : Stmt := top 33
abbrev N_first_way : List Str := ["pattern", "text", "path", "_", "step"]
theorem sc_first_way : FnScope N_first_way ["pattern", "text"] (defScope s_first_way) := ⟨rfl, rfl, rfl, by decide +kernel, rfl, by decide +kernel, by decide +kernel⟩

abbrev s__tried : Stmt := top 34
abbrev N__tried : List Str := ["pattern", "text", "ahead", "path", "dead", "last", "number", "state"]
theorem sc__tried : FnScope N__tried ["pattern", "text"] (defScope s__tried) := ⟨rfl, rfl, rfl, by decide +kernel, rfl, by decide +kernel, by decide +kernel⟩

abbrev s__step : Stmt := top 35
abbrev N__step : List Str := ["number", "state", "text", "ahead"]
theorem sc__step : FnScope N__step ["number", "state", "text", "ahead"] (defScope s__step) := ⟨rfl, rfl, rfl, by decide +kernel, rfl, by decide +kernel, by decide +kernel⟩

abbrev s_walk : Stmt := top 37
abbrev N_walk : List Str := ["pattern", "text", "way", "states", "left"]
theorem sc_walk : FnScope N_walk ["pattern", "text", "way"] (defScope s_walk) := ⟨rfl, rfl, rfl, by decide +kernel, rfl, by decide +kernel, by decide +kernel⟩

abbrev s_marks : Stmt := top 38
abbrev N_marks : List Str := ["pattern", "text", "way", "states", "found", "begun", "rest", "place", "thing", "number"]
theorem sc_marks : FnScope N_marks ["pattern", "text", "way"] (defScope s_marks) := ⟨rfl, rfl, rfl, by decide +kernel, rfl, by decide +kernel, by decide +kernel⟩

abbrev s__followed : Stmt := top 39
abbrev N__followed : List Str := ["following", "left", "choice"]
theorem sc__followed : FnScope N__followed ["following", "left"] (defScope s__followed) := ⟨rfl, rfl, rfl, by decide +kernel, rfl, by decide +kernel, by decide +kernel⟩

abbrev s__is_choice : Stmt := top 40
abbrev N__is_choice : List Str := ["thing"]
theorem sc__is_choice : FnScope N__is_choice ["thing"] (defScope s__is_choice) := ⟨rfl, rfl, rfl, by decide +kernel, rfl, by decide +kernel, by decide +kernel⟩

abbrev s_taken : Stmt := top 42
abbrev N_taken : List Str := ["pattern", "text", "way", "found", "number"]
theorem sc_taken : FnScope N_taken ["pattern", "text"] (defScope s_taken) := ⟨rfl, rfl, rfl, by decide +kernel, rfl, by decide +kernel, by decide +kernel⟩

abbrev s__part : Stmt := top 43
abbrev N__part : List Str := ["text", "mark", "begin", "close"]
theorem sc__part : FnScope N__part ["text", "mark"] (defScope s__part) := ⟨rfl, rfl, rfl, by decide +kernel, rfl, by decide +kernel, by decide +kernel⟩

abbrev s__law_cell_at : Stmt := top 45
abbrev N__law_cell_at : List Str := ["_law_script", "_law_k"]
theorem sc__law_cell_at : FnScope N__law_cell_at ["_law_script", "_law_k"] (defScope s__law_cell_at) := ⟨rfl, rfl, rfl, by decide +kernel, rfl, by decide +kernel, by decide +kernel⟩

abbrev s__law_sign : Stmt := top 46
abbrev N__law_sign : List Str := ["_law_cell", "_law_some"]
theorem sc__law_sign : FnScope N__law_sign ["_law_cell"] (defScope s__law_sign) := ⟨rfl, rfl, rfl, by decide +kernel, rfl, by decide +kernel, by decide +kernel⟩

abbrev s__law_leaf : Stmt := top 47
abbrev N__law_leaf : List Str := ["_law_cell", "_law_head", "_law_sign_here"]
theorem sc__law_leaf : FnScope N__law_leaf ["_law_cell", "_law_head"] (defScope s__law_leaf) := ⟨rfl, rfl, rfl, by decide +kernel, rfl, by decide +kernel, by decide +kernel⟩

abbrev s__law_two : Stmt := top 48
abbrev N__law_two : List Str := ["_law_cell", "_law_left", "_law_right"]
theorem sc__law_two : FnScope N__law_two ["_law_cell", "_law_left", "_law_right"] (defScope s__law_two) := ⟨rfl, rfl, rfl, by decide +kernel, rfl, by decide +kernel, by decide +kernel⟩

abbrev s__law_round : Stmt := top 49
abbrev N__law_round : List Str := ["_law_cell", "_law_part", "_law_head", "_law_sign_here", "_law_many"]
theorem sc__law_round : FnScope N__law_round ["_law_cell", "_law_part", "_law_head"] (defScope s__law_round) := ⟨rfl, rfl, rfl, by decide +kernel, rfl, by decide +kernel, by decide +kernel⟩

abbrev s__law_made : Stmt := top 50
abbrev N__law_made : List Str := ["_law_cells", "_law_head", "_law_number", "_law_pile", "_law_cell", "_law_kind", "_law_right", "_law_part"]
theorem sc__law_made : FnScope N__law_made ["_law_cells", "_law_head", "_law_number"] (defScope s__law_made) := ⟨rfl, rfl, rfl, by decide +kernel, rfl, by decide +kernel, by decide +kernel⟩

abbrev s__law_changed : Stmt := top 51
abbrev N__law_changed : List Str := ["_law_text", "_law_cell", "_law_head", "_law_at", "_law_sign_here"]
theorem sc__law_changed : FnScope N__law_changed ["_law_text", "_law_cell", "_law_head"] (defScope s__law_changed) := ⟨rfl, rfl, rfl, by decide +kernel, rfl, by decide +kernel, by decide +kernel⟩

abbrev s__law_onward : Stmt := top 52
abbrev N__law_onward : List Str := ["_law_state", "_law_text", "_law_rest", "_law_place", "_law_thing", "_law_behind"]
theorem sc__law_onward : FnScope N__law_onward ["_law_state", "_law_text"] (defScope s__law_onward) := ⟨rfl, rfl, rfl, by decide +kernel, rfl, by decide +kernel, by decide +kernel⟩

abbrev s__law_numbers : Stmt := top 53
abbrev N__law_numbers : List Str := ["_law_pattern", "_law_found", "_law_waiting", "_law_part"]
theorem sc__law_numbers : FnScope N__law_numbers ["_law_pattern"] (defScope s__law_numbers) := ⟨rfl, rfl, rfl, by decide +kernel, rfl, by decide +kernel, by decide +kernel⟩

abbrev s__law_due : Stmt := top 54
abbrev N__law_due : List Str := ["_law_pattern", "_law_text", "_law_way", "_law_state", "_law_begun", "_law_closed", "_law_used", "_law_goes", "_law_thing", "_law_turn", "_law_number"]
theorem sc__law_due : FnScope N__law_due ["_law_pattern", "_law_text", "_law_way"] (defScope s__law_due) := ⟨rfl, rfl, rfl, by decide +kernel, rfl, by decide +kernel, by decide +kernel⟩

abbrev s_law : Stmt := top 55
abbrev N_law : List Str := ["_law_script", "_law_head", "_law_one", "_law_left", "_law_right", "_law_pattern", "_law_bare", "_law_text", "_law_found", "_law_way", "_law_number"]
theorem sc_law : FnScope N_law ["_law_script"] (defScope s_law) := ⟨rfl, rfl, rfl, by decide +kernel, rfl, by decide +kernel, by decide +kernel⟩

structure Txt (w : World) (K : PySem.W.Frag) (mg : Str → Option Value) where
  f_parts : Addr
  fd_parts : FuncData
  F_parts : Fun K "parts" "parts" s_parts f_parts fd_parts
  m_parts : mg "parts" = some (.ref f_parts)
  b_parts : Binds K fd_parts ["pattern"] []
  f_numbers : Addr
  fd_numbers : FuncData
  F_numbers : Fun K "numbers" "numbers" s_numbers f_numbers fd_numbers
  m_numbers : mg "numbers" = some (.ref f_numbers)
  b_numbers : Binds K fd_numbers ["pattern"] []
  f_checked : Addr
  fd_checked : FuncData
  F_checked : Fun K "checked" "checked" s_checked f_checked fd_checked
  m_checked : mg "checked" = some (.ref f_checked)
  b_checked : Binds K fd_checked ["pattern"] []
  f__has_form : Addr
  fd__has_form : FuncData
  F__has_form : Fun K "_has_form" "_has_form" s__has_form f__has_form fd__has_form
  m__has_form : mg "_has_form" = some (.ref f__has_form)
  b__has_form : Binds K fd__has_form ["thing"] []
  f__is_sign : Addr
  fd__is_sign : FuncData
  F__is_sign : Fun K "_is_sign" "_is_sign" s__is_sign f__is_sign fd__is_sign
  m__is_sign : mg "_is_sign" = some (.ref f__is_sign)
  b__is_sign : Binds K fd__is_sign ["thing"] []
  f__is_group_number : Addr
  fd__is_group_number : FuncData
  F__is_group_number : Fun K "_is_group_number" "_is_group_number" s__is_group_number f__is_group_number fd__is_group_number
  m__is_group_number : mg "_is_group_number" = some (.ref f__is_group_number)
  b__is_group_number : Binds K fd__is_group_number ["thing"] []
  f__inner : Addr
  fd__inner : FuncData
  F__inner : Fun K "_inner" "_inner" s__inner f__inner fd__inner
  m__inner : mg "_inner" = some (.ref f__inner)
  b__inner : Binds K fd__inner ["part"] []
  f__numbers_among : Addr
  fd__numbers_among : FuncData
  F__numbers_among : Fun K "_numbers_among" "_numbers_among" s__numbers_among f__numbers_among fd__numbers_among
  m__numbers_among : mg "_numbers_among" = some (.ref f__numbers_among)
  b__numbers_among : Binds K fd__numbers_among ["found"] []
  f__has_twins : Addr
  fd__has_twins : FuncData
  F__has_twins : Fun K "_has_twins" "_has_twins" s__has_twins f__has_twins fd__has_twins
  m__has_twins : mg "_has_twins" = some (.ref f__has_twins)
  b__has_twins : Binds K fd__has_twins ["many"] []
  f__takings : Addr
  fd__takings : FuncData
  F__takings : Fun K "_takings" "_takings" s__takings f__takings fd__takings
  m__takings : mg "_takings" = some (.ref f__takings)
  b__takings : Binds K fd__takings ["found"] []
  f__may_take_nothing : Addr
  fd__may_take_nothing : FuncData
  F__may_take_nothing : Fun K "_may_take_nothing" "_may_take_nothing" s__may_take_nothing f__may_take_nothing fd__may_take_nothing
  m__may_take_nothing : mg "_may_take_nothing" = some (.ref f__may_take_nothing)
  b__may_take_nothing : Binds K fd__may_take_nothing ["name", "inner_answers"] []
  f__has_empty_round : Addr
  fd__has_empty_round : FuncData
  F__has_empty_round : Fun K "_has_empty_round" "_has_empty_round" s__has_empty_round f__has_empty_round fd__has_empty_round
  m__has_empty_round : mg "_has_empty_round" = some (.ref f__has_empty_round)
  b__has_empty_round : Binds K fd__has_empty_round ["found"] []
  f_first_state : Addr
  fd_first_state : FuncData
  F_first_state : Fun K "first_state" "first_state" s_first_state f_first_state fd_first_state
  m_first_state : mg "first_state" = some (.ref f_first_state)
  b_first_state : Binds K fd_first_state ["pattern"] []
  f_is_end : Addr
  fd_is_end : FuncData
  F_is_end : Fun K "is_end" "is_end" s_is_end f_is_end fd_is_end
  m_is_end : mg "is_end" = some (.ref f_is_end)
  b_is_end : Binds K fd_is_end ["state", "text"] []
  f_onward : Addr
  fd_onward : FuncData
  F_onward : Fun K "onward" "onward" s_onward f_onward fd_onward
  m_onward : mg "onward" = some (.ref f_onward)
  b_onward : Binds K fd_onward ["state", "text"] []
  f__takes : Addr
  fd__takes : FuncData
  F__takes : Fun K "_takes" "_takes" s__takes f__takes fd__takes
  m__takes : mg "_takes" = some (.ref f__takes)
  b__takes : Binds K fd__takes ["thing", "sign"] []
  f__unfolded : Addr
  fd__unfolded : FuncData
  F__unfolded : Fun K "_unfolded" "_unfolded" s__unfolded f__unfolded fd__unfolded
  m__unfolded : mg "_unfolded" = some (.ref f__unfolded)
  b__unfolded : Binds K fd__unfolded ["thing"] []
  f_numbers_ahead : Addr
  fd_numbers_ahead : FuncData
  F_numbers_ahead : Fun K "numbers_ahead" "numbers_ahead" s_numbers_ahead f_numbers_ahead fd_numbers_ahead
  m_numbers_ahead : mg "numbers_ahead" = some (.ref f_numbers_ahead)
  b_numbers_ahead : Binds K fd_numbers_ahead ["pattern"] []
  f__number : Addr
  fd__number : FuncData
  F__number : Fun K "_number" "_number" s__number f__number fd__number
  m__number : mg "_number" = some (.ref f__number)
  b__number : Binds K fd__number ["rest", "rests"] []
  f__led_on_to : Addr
  fd__led_on_to : FuncData
  F__led_on_to : Fun K "_led_on_to" "_led_on_to" s__led_on_to f__led_on_to fd__led_on_to
  m__led_on_to : mg "_led_on_to" = some (.ref f__led_on_to)
  b__led_on_to : Binds K fd__led_on_to ["rest"] []
  f__wanted_sign : Addr
  fd__wanted_sign : FuncData
  F__wanted_sign : Fun K "_wanted_sign" "_wanted_sign" s__wanted_sign f__wanted_sign fd__wanted_sign
  m__wanted_sign : mg "_wanted_sign" = some (.ref f__wanted_sign)
  b__wanted_sign : Binds K fd__wanted_sign ["rest"] []
  f_Step__init : Addr
  fd_Step__init : FuncData
  F_Step__init : Fun K "__init__" "Step.__init__" s_Step__init f_Step__init fd_Step__init
  b_Step__init : Binds K fd_Step__init ["self", "number", "state", "following"] []
  f_first_way : Addr
  fd_first_way : FuncData
  F_first_way : Fun K "first_way" "first_way" s_first_way f_first_way fd_first_way
  m_first_way : mg "first_way" = some (.ref f_first_way)
  b_first_way : Binds K fd_first_way ["pattern", "text"] []
  f__tried : Addr
  fd__tried : FuncData
  F__tried : Fun K "_tried" "_tried" s__tried f__tried fd__tried
  m__tried : mg "_tried" = some (.ref f__tried)
  b__tried : Binds K fd__tried ["pattern", "text"] []
  f__step : Addr
  fd__step : FuncData
  F__step : Fun K "_step" "_step" s__step f__step fd__step
  m__step : mg "_step" = some (.ref f__step)
  b__step : Binds K fd__step ["number", "state", "text", "ahead"] []
  f_walk : Addr
  fd_walk : FuncData
  F_walk : Fun K "walk" "walk" s_walk f_walk fd_walk
  m_walk : mg "walk" = some (.ref f_walk)
  b_walk : Binds K fd_walk ["pattern", "text", "way"] []
  f_marks : Addr
  fd_marks : FuncData
  F_marks : Fun K "marks" "marks" s_marks f_marks fd_marks
  m_marks : mg "marks" = some (.ref f_marks)
  b_marks : Binds K fd_marks ["pattern", "text", "way"] []
  f__followed : Addr
  fd__followed : FuncData
  F__followed : Fun K "_followed" "_followed" s__followed f__followed fd__followed
  m__followed : mg "_followed" = some (.ref f__followed)
  b__followed : Binds K fd__followed ["following", "left"] []
  f__is_choice : Addr
  fd__is_choice : FuncData
  F__is_choice : Fun K "_is_choice" "_is_choice" s__is_choice f__is_choice fd__is_choice
  m__is_choice : mg "_is_choice" = some (.ref f__is_choice)
  b__is_choice : Binds K fd__is_choice ["thing"] []
  f_taken : Addr
  fd_taken : FuncData
  F_taken : Fun K "taken" "taken" s_taken f_taken fd_taken
  m_taken : mg "taken" = some (.ref f_taken)
  b_taken : Binds K fd_taken ["pattern", "text"] []
  f__part : Addr
  fd__part : FuncData
  F__part : Fun K "_part" "_part" s__part f__part fd__part
  m__part : mg "_part" = some (.ref f__part)
  b__part : Binds K fd__part ["text", "mark"] []
  f__law_cell_at : Addr
  fd__law_cell_at : FuncData
  F__law_cell_at : Fun K "_law_cell_at" "_law_cell_at" s__law_cell_at f__law_cell_at fd__law_cell_at
  m__law_cell_at : mg "_law_cell_at" = some (.ref f__law_cell_at)
  b__law_cell_at : Binds K fd__law_cell_at ["_law_script", "_law_k"] []
  f__law_sign : Addr
  fd__law_sign : FuncData
  F__law_sign : Fun K "_law_sign" "_law_sign" s__law_sign f__law_sign fd__law_sign
  m__law_sign : mg "_law_sign" = some (.ref f__law_sign)
  b__law_sign : Binds K fd__law_sign ["_law_cell"] []
  f__law_leaf : Addr
  fd__law_leaf : FuncData
  F__law_leaf : Fun K "_law_leaf" "_law_leaf" s__law_leaf f__law_leaf fd__law_leaf
  m__law_leaf : mg "_law_leaf" = some (.ref f__law_leaf)
  b__law_leaf : Binds K fd__law_leaf ["_law_cell", "_law_head"] []
  f__law_two : Addr
  fd__law_two : FuncData
  F__law_two : Fun K "_law_two" "_law_two" s__law_two f__law_two fd__law_two
  m__law_two : mg "_law_two" = some (.ref f__law_two)
  b__law_two : Binds K fd__law_two ["_law_cell", "_law_left", "_law_right"] []
  f__law_round : Addr
  fd__law_round : FuncData
  F__law_round : Fun K "_law_round" "_law_round" s__law_round f__law_round fd__law_round
  m__law_round : mg "_law_round" = some (.ref f__law_round)
  b__law_round : Binds K fd__law_round ["_law_cell", "_law_part", "_law_head"] []
  f__law_made : Addr
  fd__law_made : FuncData
  F__law_made : Fun K "_law_made" "_law_made" s__law_made f__law_made fd__law_made
  m__law_made : mg "_law_made" = some (.ref f__law_made)
  b__law_made : Binds K fd__law_made ["_law_cells", "_law_head", "_law_number"] []
  f__law_changed : Addr
  fd__law_changed : FuncData
  F__law_changed : Fun K "_law_changed" "_law_changed" s__law_changed f__law_changed fd__law_changed
  m__law_changed : mg "_law_changed" = some (.ref f__law_changed)
  b__law_changed : Binds K fd__law_changed ["_law_text", "_law_cell", "_law_head"] []
  f__law_onward : Addr
  fd__law_onward : FuncData
  F__law_onward : Fun K "_law_onward" "_law_onward" s__law_onward f__law_onward fd__law_onward
  m__law_onward : mg "_law_onward" = some (.ref f__law_onward)
  b__law_onward : Binds K fd__law_onward ["_law_state", "_law_text"] []
  f__law_numbers : Addr
  fd__law_numbers : FuncData
  F__law_numbers : Fun K "_law_numbers" "_law_numbers" s__law_numbers f__law_numbers fd__law_numbers
  m__law_numbers : mg "_law_numbers" = some (.ref f__law_numbers)
  b__law_numbers : Binds K fd__law_numbers ["_law_pattern"] []
  f__law_due : Addr
  fd__law_due : FuncData
  F__law_due : Fun K "_law_due" "_law_due" s__law_due f__law_due fd__law_due
  m__law_due : mg "_law_due" = some (.ref f__law_due)
  b__law_due : Binds K fd__law_due ["_law_pattern", "_law_text", "_law_way"] []
  f_law : Addr
  fd_law : FuncData
  F_law : Fun K "law" "law" s_law f_law fd_law
  m_law : mg "law" = some (.ref f_law)
  b_law : Binds K fd_law ["_law_script"] []
  n_all : mg "all" = none
  n_any : mg "any" = none
  n_dict : mg "dict" = none
  n_enumerate : mg "enumerate" = none
  n_int : mg "int" = none
  n_isinstance : mg "isinstance" = none
  n_len : mg "len" = none
  n_list : mg "list" = none
  n_reversed : mg "reversed" = none
  n_set : mg "set" = none
  n_str : mg "str" = none
  n_tuple : mg "tuple" = none
  n_type : mg "type" = none
  n_zip : mg "zip" = none
  C_Step : Addr
  m_Step : mg "Step" = some (.ref C_Step)
  cl_Step : Cls K C_Step
  no_Step_key : NoAttr K C_Step "key"
  no_Step_state : NoAttr K C_Step "state"
  no_Step_following : NoAttr K C_Step "following"
  no_Step_choice : NoAttr K C_Step "choice"
  mk_Step : Mk K C_Step f_Step__init
  d_LENGTHS : Addr
  m_LENGTHS : mg "LENGTHS" = some (.ref d_LENGTHS)
  w_LENGTHS : ∃ es n, K.lookup d_LENGTHS = some ⟨.type "dict", none, .dict es n, #[]⟩ ∧ PySem.W.KeysLit w.params es.toList
  y_LENGTHS : (d_LENGTHS == sysModules) = false
  g_sign : KGet K w d_LENGTHS "sign" (some (.int 2))
  g_any : KGet K w d_LENGTHS "any" (some (.int 1))
  g_none : KGet K w d_LENGTHS "none" (some (.int 1))
  g_row : KGet K w d_LENGTHS "row" (some (.int 3))
  g_or : KGet K w d_LENGTHS "or" (some (.int 3))
  g_more : KGet K w d_LENGTHS "more" (some (.int 2))
  g_less : KGet K w d_LENGTHS "less" (some (.int 2))
  g_group : KGet K w d_LENGTHS "group" (some (.int 3))
end G1

set_option maxRecDepth 100000
set_option maxHeartbeats 4000000
namespace G1
open PySem PySem.Spec PyProof.Rows L2 Gm
section
variable {P : Program} {w : World} {K : PySem.W.Frag} {mg : Str → Option Value} {base : Heap}
def sp_is_sign : Sp := fun vs H Q _ => ∃ c : Nat, vs = [.str ⟨#[c]⟩] ∧ Q (.bl true) H
theorem ok__is_sign (T : Txt w K mg) : FnOk P w K mg base CX0 1 T.f__is_sign T.fd__is_sign ["thing"] sp_is_sign := by
  refine T.F__is_sign.ok sc__is_sign (fun vs H Q E h => ?_) (fun cdv A outer s H vs Q E hr h => ?_)
  · obtain ⟨c, rfl, _⟩ := h
    rfl
  obtain ⟨c, rfl, q⟩ := h
  refine ⟨_, (pss_one (ps_ret (pe_and (pe_cmpR (op_eqTy TypeEq.meta_str) (pe_callTy call_type1 (by rfl) T.n_type (by decide +kernel) (pa_cons (pv 0) pa_nil)) (pe_bltn (v := .ty "str") (by rfl) T.n_str (by decide +kernel) rfl) (nomark _)) (pe_one (pe_cmpR op_eq (pe_callB call_len (by rfl) T.n_len PySem.boot_len (pa_cons (pv 0) pa_nil)) pe_int (nomark _)))))), ?_⟩
  refine ⟨_, rfl, _, _, rfl, .str _, rfl, rfl, _, rfl, iteT ?_⟩
  refine ⟨_, rfl, _, _, rfl, ⟨sz (by show 1 ≤ 10000; decide), rfl⟩, rfl, ?_⟩
  exact q

end
end G1

set_option maxRecDepth 100000
set_option maxHeartbeats 4000000
namespace G1
open PySem PySem.Spec PyProof.Rows L2 Gm
section
variable {P : Program} {w : World} {K : PySem.W.Frag} {mg : Str → Option Value} {base : Heap}
def sp_is_group_number : Sp := fun vs H Q _ => ∃ n : Int, vs = [.int n] ∧ 1 ≤ n ∧ Q (.bl true) H
theorem ok__is_group_number (T : Txt w K mg) : FnOk P w K mg base CX0 1 T.f__is_group_number T.fd__is_group_number ["thing"] sp_is_group_number := by
  refine T.F__is_group_number.ok sc__is_group_number (fun vs H Q E h => ?_) (fun cdv A outer s H vs Q E hr h => ?_)
  · obtain ⟨c, rfl, _⟩ := h
    rfl
  obtain ⟨n, rfl, hn, q⟩ := h
  refine ⟨_, (pss_one (ps_ret (pe_and (pe_cmpR (op_eqTy TypeEq.meta_int) (pe_callTy call_type1 (by rfl) T.n_type (by decide +kernel) (pa_cons (pv 0) pa_nil)) (pe_bltn (v := .ty "int") (by rfl) T.n_int (by decide +kernel) rfl) (nomark _)) (pe_one (pe_cmpR op_ge (pv 0) pe_int (nomark _)))))), ?_⟩
  refine ⟨_, rfl, _, _, rfl, .int _, rfl, rfl, _, rfl, iteT ?_⟩
  refine ⟨_, rfl, _, _, rfl, rfl, ?_⟩
  show Q (.bl (decide (1 ≤ n))) H
  rw [decide_eq_true hn]
  exact q

end
end G1

set_option maxRecDepth 100000
set_option maxHeartbeats 4000000
namespace G1
open PySem PySem.Spec PyProof.Rows L2 Gm
section
variable {P : Program} {w : World} {K : PySem.W.Frag} {mg : Str → Option Value} {base : Heap}
def arity (p : Pat) : Int := 1 + ((mid p).length : Int) + ((kids p).length : Int)
def sp_has_form (K : PySem.W.Frag) : Sp := fun vs H Q _ => ∃ (p : Pat) (v : V), vs = [v] ∧ PAt K H p v ∧ Q (.bl true) H
theorem ok__has_form (T : Txt w K mg) : FnOk P w K mg base CX0 2 T.f__has_form T.fd__has_form ["thing"] (sp_has_form K) := by
  refine T.F__has_form.ok sc__has_form (fun vs H Q E h => ?_) (fun cdv A outer s H vs Q E hr h => ?_)
  · obtain ⟨p, v, rfl, _⟩ := h
    rfl
  obtain ⟨p, v, rfl, hp, q⟩ := h
  obtain ⟨a, ws, rfl, ht, hk⟩ := hp.node
  have hl : (V.str (nm p) :: (mid p ++ ws)).length = 1 + (mid p).length + (kids p).length := by
    rw [List.length_cons, List.length_append, ← Paired.length hk]
    omega
  have g : KGet K w T.d_LENGTHS (nm p) (some (.int (arity p))) := by
    cases p
    · exact T.g_sign
    · exact T.g_any
    · exact T.g_none
    · exact T.g_row
    · exact T.g_or
    · exact T.g_more
    · exact T.g_less
    · exact T.g_group
  refine ⟨_, (pss_cons (ps_if (PW.pt (pw_or (pt_cmpR (op_neTy TypeEq.meta_tuple) (pe_callTy call_type1 (by rfl) T.n_type (by decide +kernel) (pa_cons (pv 0) pa_nil)) (pe_bltn (v := .ty "tuple") (by rfl) T.n_tuple (by decide +kernel) rfl) (nomark _)) (pw_or1 (pt_cmpR op_eq (pe_callB call_len_seq (by rfl) T.n_len PySem.boot_len (pa_cons (pv 0) pa_nil)) pe_int (nomark _)))))
    (pss_one (ps_ret pe_bl))
    pss_nil)
  (pss_cons (ps_set (i := 1) sc__has_form.nd rfl (.inl rfl) (pe_ix ix_tup (pv 0) pe_int (fun _ _ => rfl)))
  (pss_cons (ps_if (PW.pt (pw_or (pt_cmpR (op_neTy TypeEq.meta_str) (pe_callTy call_type1 (by rfl) T.n_type (by decide +kernel) (pa_cons (pv 1) pa_nil)) (pe_bltn (v := .ty "str") (by rfl) T.n_str (by decide +kernel) rfl) (nomark _)) (pw_or1 (pt_cmpR op_ne (pe_kget (pe_glob (v := .ref T.d_LENGTHS) (by rfl) T.m_LENGTHS rfl) (pv 1) ⟨rfl, rfl, rfl, rfl⟩) (pe_callB call_len_seq (by rfl) T.n_len PySem.boot_len (pa_cons (pv 0) pa_nil)) (nomark _)))))
    (pss_one (ps_ret pe_bl))
    pss_nil)
  (pss_cons (ps_if (pt_cmpR op_eq (pv 1) pe_str (nomark _))
    (pss_one (ps_ret (pe_call (ok__is_sign T) (hr.mono (by decide)) (by rfl) T.m__is_sign T.F__is_sign.kp T.b__is_sign .nil pass0 (pa_cons (pe_ix ix_tup (pv 0) pe_int (fun _ _ => rfl)) pa_nil))))
    pss_nil)
  (pss_cons (ps_if (pt_cmpR op_eq (pv 1) pe_str (nomark _))
    (pss_one (ps_ret (pe_call (ok__is_group_number T) (hr.mono (by decide)) (by rfl) T.m__is_group_number T.F__is_group_number.kp T.b__is_group_number .nil pass0 (pa_cons (pe_ix ix_tup (pv 0) pe_int (fun _ _ => rfl)) pa_nil))))
    pss_nil)
  (pss_one (ps_ret pe_bl))))))), ?_⟩
  refine ⟨_, rfl, _, _, rfl, .tup ht, rfl, rfl, _, rfl, iteF ?_⟩
  refine ⟨_, rfl, a, _, rfl, .inr ht, rfl, _, rfl, ?_⟩
  have e0 : decide (V.int (((V.str (nm p) :: (mid p ++ ws)).length : Nat) : Int) = V.int 0) = false := decide_eq_false fun z => by
    have z' := V.int.inj z
    rw [hl] at z'
    omega
  rw [e0]
  refine iteF ?_
  refine ⟨_, rfl, _, _, _, _, rfl, rfl, ht, at0 rfl, ?_⟩
  refine ⟨_, rfl, _, _, rfl, .str _, rfl, rfl, _, rfl, iteF ?_⟩
  refine ⟨_, rfl, T.w_LENGTHS, T.y_LENGTHS, _, rfl, _, _, rfl, g, ?_⟩
  refine ⟨_, rfl, a, _, rfl, .inr ht, rfl, _, rfl, ?_⟩
  have e1 : (!decide (V.int (arity p) = V.int (((V.str (nm p) :: (mid p ++ ws)).length : Nat) : Int))) = false := by
    rw [decide_eq_true]
    · rfl
    · rw [hl]
      unfold arity
      congr 1
  show if (!decide (V.int (arity p) = V.int (((V.str (nm p) :: (mid p ++ ws)).length : Nat) : Int))) = true then _ else _
  rw [e1]
  refine iteF ?_
  refine ⟨_, rfl, rfl, _, rfl, ?_⟩
  cases p with
  | sign c =>
    refine iteT ?_
    exact ⟨_, rfl, _, _, _, _, rfl, rfl, ht, at1 rfl, c, rfl, q⟩
  | group n p =>
    refine iteF ?_
    refine ⟨_, rfl, rfl, _, rfl, iteT ?_⟩
    exact ⟨_, rfl, _, _, _, _, rfl, rfl, ht, at1 rfl, n, rfl, hp.num, q⟩
  | _ =>
    refine iteF ?_
    refine ⟨_, rfl, rfl, _, rfl, iteF ?_⟩
    exact q

end
end G1

set_option maxRecDepth 100000
set_option maxHeartbeats 4000000
namespace G1
open PySem PySem.Spec PyProof.Rows L2 Gm
section
variable {P : Program} {w : World} {K : PySem.W.Frag} {mg : Str → Option Value} {base : Heap}
def sp_inner (K : PySem.W.Frag) : Sp := fun vs H Q _ => ∃ (p : Pat) (v : V), vs = [v] ∧ PAt K H p v ∧
  ∀ (r : Addr) (ws : List V) (H' : Hp), Same H H' → H r = none → H' r = some (.lst ws) → PAts K H' (kids p) ws → Q (.ref r) H'
theorem ok__inner (T : Txt w K mg) : FnOk P w K mg base CX0 1 T.f__inner T.fd__inner ["part"] (sp_inner K) := by
  refine T.F__inner.ok sc__inner (fun vs H Q E h => ?_) (fun cdv A outer s H vs Q E hr h => ?_)
  · obtain ⟨p, v, rfl, _⟩ := h
    rfl
  obtain ⟨p, v, rfl, hp, q⟩ := h
  obtain ⟨a, ws, rfl, ht, hk⟩ := hp.node
  refine ⟨_, (pss_cons (ps_if (pt_cmpR op_in_seq (pe_ix ix_tup (pv 0) pe_int (fun _ _ => rfl)) (pe_tup (pa_cons pe_str (pa_cons pe_str pa_nil))) (by rfl))
    (pss_one (ps_ret (pe_lst (pa_cons (pe_ix ix_tup (pv 0) pe_int (fun _ _ => rfl)) (pa_cons (pe_ix ix_tup (pv 0) pe_int (fun _ _ => rfl)) pa_nil)))))
    pss_nil)
  (pss_cons (ps_if (pt_cmpR op_in_seq (pe_ix ix_tup (pv 0) pe_int (fun _ _ => rfl)) (pe_tup (pa_cons pe_str (pa_cons pe_str pa_nil))) (by rfl))
    (pss_one (ps_ret (pe_lst (pa_cons (pe_ix ix_tup (pv 0) pe_int (fun _ _ => rfl)) pa_nil))))
    pss_nil)
  (pss_cons (ps_if (pt_cmpR op_eq (pe_ix ix_tup (pv 0) pe_int (fun _ _ => rfl)) pe_str (nomark _))
    (pss_one (ps_ret (pe_lst (pa_cons (pe_ix ix_tup (pv 0) pe_int (fun _ _ => rfl)) pa_nil))))
    pss_nil)
  (pss_one (ps_ret (pe_lst pa_nil)))))), ?_⟩
  refine ⟨_, rfl, _, _, _, _, rfl, rfl, ht, at0 rfl, (by show 2 ≤ sizeLine; exact sz (by decide)), fun t1 n1 => ⟨_, _, rfl, .inr (SqT.of upd_same), rfl, rfl, _, rfl, ?_⟩⟩
  have s1 := same_new (o := .tup [.str "row", .str "or"]) n1
  have ht1 := TS.of (K := K) s1 _ _ ht
  have hk1 := PAts.mono (TS.of (K := K) s1) hk
  cases p with
  | row p1 p2 =>
    cases hk with
    | cons k1 k2 =>
      cases k2 with
      | cons k2 k3 =>
        cases k3
        refine iteT ?_
        refine ⟨_, rfl, _, _, _, _, rfl, rfl, ht1, at1 rfl, _, rfl, _, _, _, _, rfl, rfl, ht1, at2 rfl, (by show 2 ≤ sizeLine; exact sz (by decide)), fun r hr => ?_⟩
        exact q r _ _ (s1.trans (same_new hr)) (s1.free hr) upd_same (hk1.mono (TS.new hr))
  | or p1 p2 =>
    cases hk with
    | cons k1 k2 =>
      cases k2 with
      | cons k2 k3 =>
        cases k3
        refine iteT ?_
        refine ⟨_, rfl, _, _, _, _, rfl, rfl, ht1, at1 rfl, _, rfl, _, _, _, _, rfl, rfl, ht1, at2 rfl, (by show 2 ≤ sizeLine; exact sz (by decide)), fun r hr => ?_⟩
        exact q r _ _ (s1.trans (same_new hr)) (s1.free hr) upd_same (hk1.mono (TS.new hr))
  | more p1 =>
    cases hk with
    | @cons _ x _ _ k1 k2 =>
      cases k2
      refine iteF ?_
      refine ⟨_, rfl, _, _, _, _, rfl, rfl, ht1, at0 rfl, (by show 2 ≤ sizeLine; exact sz (by decide)), fun t2 n2 => ⟨_, _, rfl, .inr (SqT.of upd_same), rfl, rfl, _, rfl, iteT ?_⟩⟩
      have s2 := s1.trans (same_new (o := .tup [.str "more", .str "less"]) n2)
      have ht2 := TS.of (K := K) s2 _ _ ht
      refine ⟨_, rfl, _, _, _, _, rfl, rfl, ht2, at1 rfl, (by show 1 ≤ sizeLine; exact sz (by decide)), fun r hr => ?_⟩
      exact q r _ _ (s2.trans (same_new hr)) (s2.free hr) upd_same (PAts.mono (TS.of (s2.trans (same_new hr))) (.cons k1 .nil))
  | less p1 =>
    cases hk with
    | @cons _ x _ _ k1 k2 =>
      cases k2
      refine iteF ?_
      refine ⟨_, rfl, _, _, _, _, rfl, rfl, ht1, at0 rfl, (by show 2 ≤ sizeLine; exact sz (by decide)), fun t2 n2 => ⟨_, _, rfl, .inr (SqT.of upd_same), rfl, rfl, _, rfl, iteT ?_⟩⟩
      have s2 := s1.trans (same_new (o := .tup [.str "more", .str "less"]) n2)
      have ht2 := TS.of (K := K) s2 _ _ ht
      refine ⟨_, rfl, _, _, _, _, rfl, rfl, ht2, at1 rfl, (by show 1 ≤ sizeLine; exact sz (by decide)), fun r hr => ?_⟩
      exact q r _ _ (s2.trans (same_new hr)) (s2.free hr) upd_same (PAts.mono (TS.of (s2.trans (same_new hr))) (.cons k1 .nil))
  | group n p1 =>
    cases hk with
    | @cons _ x _ _ k1 k2 =>
      cases k2
      refine iteF ?_
      refine ⟨_, rfl, _, _, _, _, rfl, rfl, ht1, at0 rfl, (by show 2 ≤ sizeLine; exact sz (by decide)), fun t2 n2 => ⟨_, _, rfl, .inr (SqT.of upd_same), rfl, rfl, _, rfl, iteF ?_⟩⟩
      have s2 := s1.trans (same_new (o := .tup [.str "more", .str "less"]) n2)
      have ht2 := TS.of (K := K) s2 _ _ ht
      refine ⟨_, rfl, _, _, _, _, rfl, rfl, ht2, at0 rfl, rfl, _, rfl, iteT ?_⟩
      refine ⟨_, rfl, _, _, _, _, rfl, rfl, ht2, at2 rfl, (by show 1 ≤ sizeLine; exact sz (by decide)), fun r hr => ?_⟩
      exact q r _ _ (s2.trans (same_new hr)) (s2.free hr) upd_same (PAts.mono (TS.of (s2.trans (same_new hr))) (.cons k1 .nil))
  | _ =>
    cases hk
    refine iteF ?_
    refine ⟨_, rfl, _, _, _, _, rfl, rfl, ht1, at0 rfl, (by show 2 ≤ sizeLine; exact sz (by decide)), fun t2 n2 => ⟨_, _, rfl, .inr (SqT.of upd_same), rfl, rfl, _, rfl, iteF ?_⟩⟩
    have s2 := s1.trans (same_new (o := .tup [.str "more", .str "less"]) n2)
    have ht2 := TS.of (K := K) s2 _ _ ht
    refine ⟨_, rfl, _, _, _, _, rfl, rfl, ht2, at0 rfl, rfl, _, rfl, iteF ?_⟩
    refine ⟨Nat.zero_le _, fun r hr => ?_⟩
    exact q r _ _ (s2.trans (same_new hr)) (s2.free hr) upd_same .nil

end
end G1

set_option maxRecDepth 100000
set_option maxHeartbeats 4000000
namespace G1
open PySem PySem.Spec PyProof.Rows L2 Gm
section
variable {P : Program} {w : World} {K : PySem.W.Frag} {mg : Str → Option Value} {base : Heap}
def sp_may (K : PySem.W.Frag) : Sp := fun vs H Q _ => ∃ (z : Str) (a : Addr) (bs : List Bool), vs = [.str z, .ref a] ∧ SqL K H a (bs.map V.bl) ∧
  ∀ (H' : Hp), Same H H' → Q (.bl (mtn z bs)) H'
theorem ok__may_take_nothing (T : Txt w K mg) : FnOk P w K mg base CX0 1 T.f__may_take_nothing T.fd__may_take_nothing ["name", "inner_answers"] (sp_may K) := by
  refine T.F__may_take_nothing.ok sc__may_take_nothing (fun vs H Q E h => ?_) (fun cdv A outer s H vs Q E hr h => ?_)
  · obtain ⟨z, a, bs, rfl, _⟩ := h
    rfl
  obtain ⟨z, a, bs, rfl, ha, q⟩ := h
  refine ⟨_, (pss_cons (ps_if (pt_cmpR op_in_seq (pv 0) (pe_tup (pa_cons pe_str (pa_cons pe_str (pa_cons pe_str pa_nil)))) (by rfl))
    (pss_one (ps_ret pe_bl))
    pss_nil)
  (pss_cons (ps_if (pt_cmpR op_in_seq (pv 0) (pe_tup (pa_cons pe_str (pa_cons pe_str pa_nil))) (by rfl))
    (pss_one (ps_ret (pe_callB (cr_all rfl) (by rfl) T.n_all (by decide +kernel) (pa_cons (pv 1) pa_nil))))
    pss_nil)
  (pss_one (ps_ret (pe_callB (cr_any rfl) (by rfl) T.n_any (by decide +kernel) (pa_cons (pv 1) pa_nil)))))), ?_⟩
  refine ⟨_, rfl, ⟨(by show 3 ≤ sizeLine; exact sz (by decide)), fun t1 n1 => ⟨_, _, rfl, .inr (SqT.of upd_same), rfl, rfl, _, rfl, ?_⟩⟩⟩
  have s1 := same_new (o := .tup [.str "none", .str "more", .str "less"]) n1
  rw [inV3]
  refine ite2 (fun c => ?_) (fun c => ?_)
  · have e : mtn z bs = true := by
      unfold mtn
      rw [if_pos (of_decide_eq_true c)]
    have := q _ s1
    rw [e] at this
    exact this
  · refine ⟨_, rfl, ⟨(by show 2 ≤ sizeLine; exact sz (by decide)), fun t2 n2 => ⟨_, _, rfl, .inr (SqT.of upd_same), rfl, rfl, _, rfl, ?_⟩⟩⟩
    have s2 := s1.trans (same_new (o := .tup [.str "row", .str "group"]) n2)
    rw [inV2]
    have c' := of_decide_eq_false (Bool.eq_false_iff.mpr c)
    refine ite2 (fun d => ?_) (fun d => ?_)
    · have e : mtn z bs = bs.all id := by
        unfold mtn
        rw [if_neg c', if_pos (of_decide_eq_true d)]
      have := q _ s2
      rw [e] at this
      exact ⟨_, rfl, a, bs, rfl, s2.seq ha, this⟩
    · have e : mtn z bs = bs.any id := by
        unfold mtn
        rw [if_neg c', if_neg (of_decide_eq_false (Bool.eq_false_iff.mpr d))]
      have := q _ s2
      rw [e] at this
      exact ⟨_, rfl, a, bs, rfl, s2.seq ha, this⟩

end
end G1

set_option maxRecDepth 100000
set_option maxHeartbeats 4000000
namespace G1
open PySem PySem.Spec PyProof.Rows L2 Gm
section
variable {P : Program} {w : World} {K : PySem.W.Frag} {mg : Str → Option Value} {base : Heap}
def sp_parts (K : PySem.W.Frag) : Sp := fun vs H Q _ => ∃ (p : Pat) (v : V), vs = [v] ∧ PAt K H p v ∧ siz p ≤ 1000 ∧
  ∀ (r : Addr) (fs : List V) (H' : Hp), Same H H' → H r = none → H' r = some (.lst fs) → PAts K H' (subs p) fs → Q (.ref r) H'
def pInv (K : PySem.W.Frag) (H : Hp) (v : V) (lf lw : Addr) (p : Pat) (m : Nat) (σ : L2.St) (H' : Hp) : Prop :=
  ∃ (F W : List Pat) (fs ws : List V) (x : Option V), σ = [some v, some (.ref lf), some (.ref lw), x] ∧ Same H H' ∧ H' lf = some (.lst fs) ∧ H' lw = some (.lst ws.reverse) ∧
    PAts K H' F fs ∧ PAts K H' W ws ∧ subs p = F ++ subsL W ∧ m = (subsL W).length
theorem ok_parts (T : Txt w K mg) : FnOk P w K mg base CX0 3 T.f_parts T.fd_parts ["pattern"] (sp_parts K) := by
  refine T.F_parts.ok sc_parts (fun vs H Q E h => ?_) (fun cdv A outer s H vs Q E hr h => ?_)
  · obtain ⟨p, v, rfl, _⟩ := h
    rfl
  obtain ⟨p, v, rfl, hp, hz, q⟩ := h
  refine ⟨_, (pss_cons (ps_set (i := 1) sc_parts.nd rfl (.inl rfl) (pe_lst pa_nil))
  (pss_cons (ps_set (i := 2) sc_parts.nd rfl (.inl rfl) (pe_lst (pa_cons (pv 0) pa_nil)))
  (pss_cons (ps_while PassesOwn.never (pt_truth (pv 2) (by intro _; rfl))
   (pss_cons (ps_set (i := 3) sc_parts.nd rfl (.inl rfl) (pe_bm0 PySem.F.plainAttrs_list PySem.F.slot_list_pop PySem.F.type_list_pop mt_pop (pv 2)))
  (pss_cons (ps_if (pt_not (pt_val (pe_call (ok__has_form T) (hr.mono (by decide)) (by rfl) T.m__has_form T.F__has_form.kp T.b__has_form .nil pass0 (pa_cons (pv 3) pa_nil))))
    (pss_one ps_never)
    pss_nil)
  (pss_cons (ps_expr (pe_bm PySem.F.plainAttrs_list PySem.F.slot_list_append PySem.F.type_list_append mt_append (pv 1) (pa_cons (pv 3) pa_nil)))
  (pss_one (ps_expr (pe_bm PySem.F.plainAttrs_list PySem.F.slot_list_extend PySem.F.type_list_extend mt_extend (pv 2) (pa_cons (pe_revL (pe_call (ok__inner T) (hr.mono (by decide)) (by rfl) T.m__inner T.F__inner.kp T.b__inner .nil pass0 (pa_cons (pv 3) pa_nil))) pa_nil))))))))
  (pss_one (ps_ret (pv 1)))))), ?_⟩
  refine ⟨Nat.zero_le _, fun lf nf => ?_⟩
  refine ⟨_, rfl, sz (by show 1 ≤ 10000; decide), fun lw nw => ?_⟩
  have nlw : lw ≠ lf := fun z => by
    rw [z, upd_same] at nw
    cases nw
  have nw0 : H lw = none := by
    rw [upd_ne nlw] at nw
    exact nw
  refine ⟨pInv K H v lf lw p, ⟨_, [], [p], [], [v], none, rfl, ((same_new nf).trans (same_new nw)), ?_, upd_same, .nil, .cons (hp.mono (TS.of ((same_new nf).trans (same_new nw)))) .nil, ?_, rfl⟩, ?_⟩
  · rw [upd_ne nlw.symm]
    exact upd_same
  · rw [subsL_cons, subsL_nil, List.append_nil, List.nil_append]
  rintro m σ H1 ⟨F, W, fs, ws, x, rfl, s1, hf, hw, pf, pw, es, rfl⟩
  cases pw with
  | nil =>
    refine ⟨_, rfl, false, .inl ⟨_, SqL.of hw, rfl⟩, iteF ?_⟩
    refine ⟨_, rfl, ?_⟩
    rw [subsL_nil, List.append_nil] at es
    rw [← es] at pf
    exact q lf fs H1 s1 nf hf pf
  | @cons p1 v1 W' ws' h1 hW =>
    rw [List.reverse_cons] at hw
    refine ⟨_, rfl, true, .inl ⟨_, SqL.of hw, by simp⟩, iteT ?_⟩
    have el : (subsL (p1 :: W')).length = 1 + (subsL (kids p1 ++ W')).length := by
      rw [subsL_cons, subs_eq, subsL_app, List.cons_append, List.length_cons]
      omega
    have tot : F.length + (subsL (p1 :: W')).length ≤ 1000 := by
      have : (subs p).length ≤ 1000 := hz
      rw [es, List.length_append] at this
      exact this
    refine ⟨pInv K H v lf lw p (subsL (kids p1 ++ W')).length, fun σ' H' hI => ⟨_, by rw [el]; omega, hI⟩, ?_⟩
    refine ⟨_, rfl, .inl ⟨rfl, _, SqL.of hw⟩, lw, _, v1, rfl, rfl, hw, last_get _ _, ?_⟩
    rw [List.dropLast_concat]
    have t1 : TS K H1 (upd H1 lw (.lst ws'.reverse)) := TS.lst hw
    refine ⟨_, rfl, p1, v1, rfl, h1.mono t1, _, rfl, iteF ?_⟩
    have hf1 : upd H1 lw (.lst ws'.reverse) lf = some (.lst fs) := by
      rw [upd_ne nlw.symm]
      exact hf
    have lf1 : F.length = fs.length := Paired.length pf
    refine ⟨_, rfl, .inl ⟨rfl, _, SqL.of hf1⟩, _, rfl, lf, fs, v1, rfl, rfl, hf1, szl (by omega), ?_⟩
    have t2 := t1.trans (TS.lst (K := K) (ys := fs ++ [v1]) hf1)
    have hw2 : upd (upd H1 lw (.lst ws'.reverse)) lf (.lst (fs ++ [v1])) lw = some (.lst ws'.reverse) := by
      rw [upd_ne nlw]
      exact upd_same
    refine ⟨_, rfl, .inl ⟨rfl, _, SqL.of hw2⟩, _, rfl, p1, v1, rfl, h1.mono t2, fun r ks H2 s2 nr hr2 hk => ⟨r, ks, rfl, SqL.of hr2, fun r2 nr2 => ?_⟩⟩
    have s3 := s2.trans (same_new (o := .lst ks.reverse) nr2)
    have lk : (kids p1).length = ks.length := Paired.length hk
    have lw1 : W'.length = ws'.length := Paired.length hW
    refine ⟨lw, r2, _, _, rfl, rfl, s3 _ _ hw2, upd_same, ?_, ?_⟩
    · rw [List.length_reverse, List.length_reverse]
      have := subsL_pos (kids p1 ++ W')
      rw [List.length_append] at this
      exact sz (by omega)
    have hwA := s3 _ _ hw2
    have t3 := t2.trans (TS.of (K := K) s3)
    have t4 := t3.trans (TS.lst (K := K) (ys := ws'.reverse ++ ks.reverse) hwA)
    refine ⟨F ++ [p1], kids p1 ++ W', fs ++ [v1], ks ++ ws', some v1, rfl, ?_, ?_, ?_, ?_, ?_, ?_, rfl⟩
    · exact Same.mut (Same.trans (Same.mut (Same.mut s1 nw0) nf) s3) nw0
    · rw [upd_ne nlw.symm]
      exact s3 _ _ upd_same
    · rw [List.reverse_append]
      exact upd_same
    · exact Paired.snoc (PAts.mono t4 pf) (h1.mono t4)
    · exact Paired.app (PAts.mono ((TS.of (same_new nr2)).trans (TS.lst hwA)) hk) (PAts.mono t4 hW)
    · rw [es, subsL_cons, subs_eq, subsL_app]
      simp

end
end G1

set_option maxRecDepth 100000
set_option maxHeartbeats 4000000
namespace G1
open PySem PySem.Spec PyProof.Rows L2 Gm
section
variable {P : Program} {w : World} {K : PySem.W.Frag} {mg : Str → Option Value} {base : Heap}
def sp_takings (K : PySem.W.Frag) : Sp := fun vs H Q _ => ∃ (L : List Pat) (a : Addr) (fs : List V), vs = [.ref a] ∧ SqL K H a fs ∧ PAts K H L fs ∧ okL L ∧ L.length ≤ 1000 ∧
  ∀ (r : Addr) (H' : Hp), Same H H' → H r = none → H' r = some (.lst ((tk L).map V.bl)) → Q (.ref r) H'
theorem drop_pre {α : Type} {L : List α} {k : Nat} {x : α} (h : L[k]? = some x) : L.drop k = x :: L.drop (k + 1) := by
  obtain ⟨h1, h2⟩ := List.getElem?_eq_some_iff.mp h
  rw [← h2]
  exact List.drop_eq_getElem_cons h1
theorem ok__takings (T : Txt w K mg) : FnOk P w K mg base CX0 2 T.f__takings T.fd__takings ["found"] (sp_takings K) := by
  refine T.F__takings.ok sc__takings (fun vs H Q E h => ?_) (fun cdv A outer s H vs Q E hr h => ?_)
  · obtain ⟨L, a, fs, rfl, _⟩ := h
    rfl
  obtain ⟨L, a, fs, rfl, ha, hL, hok, hz, q⟩ := h
  have ll : L.length = fs.length := Paired.length hL
  refine ⟨_, (pss_cons (ps_set (i := 1) sc__takings.nd rfl (.inl rfl) (pe_lst pa_nil))
  (pss_cons (ps_set (i := 2) sc__takings.nd rfl (.inr rfl) (pe_lst pa_nil))
  (pss_cons (ps_for PassesOwn.never rfl (pi_reversed (by rfl) T.n_reversed (pa_cons (pv 0) pa_nil)) (pg_name (i := 3) sc__takings.nd rfl (.inl rfl))
   (pss_cons (ps_setLc (i := 4) (own := [("_", 6)]) (g := gName 6) (te := tBM0 K "list" rPop (tVar 2)) rfl sc__takings.nd rfl rfl (sw_true rfl rfl rfl (by decide +kernel)) (pi_list (pe_call (ok__inner T) (hr.mono (by decide)) (by rfl) T.m__inner T.F__inner.kp T.b__inner .nil pass0 (pa_cons (pv 3) pa_nil))) (blkOk_by (own := [("_", 6)]) (N := N__takings) (sc := defScope s__takings) (by decide +kernel)) (fun _ _ _ _ _ => by exact (pg_name (i := 6) sc__takings.nd rfl (.inl rfl))) (fun _ _ _ _ _ => by exact pts_nil) (fun _ _ _ _ _ => by exact (pe_bm0 PySem.F.plainAttrs_list PySem.F.slot_list_pop PySem.F.type_list_pop mt_pop (pv 2))))
  (pss_cons (ps_set (i := 5) sc__takings.nd rfl (.inl rfl) (pe_call (ok__may_take_nothing T) (hr.mono (by decide)) (by rfl) T.m__may_take_nothing T.F__may_take_nothing.kp T.b__may_take_nothing .nil pass0 (pa_cons (pe_ix ix_tup (pv 3) pe_int (fun _ _ => rfl)) (pa_cons (pv 4) pa_nil))))
  (pss_cons (ps_expr (pe_bm PySem.F.plainAttrs_list PySem.F.slot_list_append PySem.F.type_list_append mt_append (pv 2) (pa_cons (pv 5) pa_nil)))
  (pss_one (ps_expr (pe_bm PySem.F.plainAttrs_list PySem.F.slot_list_append PySem.F.type_list_append mt_append (pv 1) (pa_cons (pv 5) pa_nil))))))))
  (pss_one (ps_ret (pe_revL (pv 1))))))), ?_⟩
  refine ⟨Nat.zero_le _, fun lt nt => ?_⟩
  refine ⟨Nat.zero_le _, fun lo no => ?_⟩
  have nlo : lo ≠ lt := fun z => by
    rw [z, upd_same] at no
    cases no
  have no0 : H lo = none := by
    rw [upd_ne nlo] at no
    exact no
  have s0 := (same_new (o := .lst []) nt).trans (same_new (o := .lst []) no)
  refine ⟨_, rfl, a, fs, rfl, s0.seq ha, ?_⟩
  refine ⟨fun i m σ H' => m + i = fs.length ∧ ∃ (x1 x2 x3 : Option V), σ = [some (.ref a), some (.ref lt), some (.ref lo), x1, x2, x3, none] ∧ Same H H' ∧
    H' lt = some (.lst ((tk (L.drop m)).reverse.map V.bl)) ∧ H' lo = some (.lst ((stk (L.drop m)).reverse.map V.bl)), ⟨fs.length, by omega, none, none, none, rfl, s0, ?_, ?_⟩, ?_⟩
  · rw [upd_ne nlo.symm, ← ll, List.drop_length]
    exact upd_same
  · rw [← ll, List.drop_length]
    exact upd_same
  rintro i m σ H1 ⟨em, x1, x2, x3, rfl, s1, ht, ho⟩
  by_cases hi : m = 0
  · left
    refine ⟨by show fs.length ≤ i; omega, ?_⟩
    subst hi
    refine ⟨_, rfl, lt, _, rfl, SqL.of ht, fun r nr => ?_⟩
    refine q r _ (s1.trans (same_new nr)) (s1.free nr) ?_
    rw [upd_same]
    simp
  right
  obtain ⟨k, rfl⟩ : ∃ k, m = k + 1 := ⟨m - 1, by omega⟩
  have hk : fs.length - 1 - i = k := by omega
  refine ⟨⟨by omega, fs, fs[k]'(by omega), s1.seq ha, by rw [hk]; exact List.getElem?_eq_getElem _⟩, fun σ' H' => k + (i + 1) = fs.length ∧ ∃ (x1 x2 x3 : Option V), σ' = [some (.ref a), some (.ref lt), some (.ref lo), x1, x2, x3, none] ∧ Same H H' ∧
    H' lt = some (.lst ((tk (L.drop k)).reverse.map V.bl)) ∧ H' lo = some (.lst ((stk (L.drop k)).reverse.map V.bl)), fun σ' H' hN => ⟨k, by omega, hN⟩, ?_⟩
  rintro v H2 ⟨rfl, hv⟩
  have hv := hv fs (s1.seq ha)
  rw [hk] at hv
  obtain ⟨p, hp, pv⟩ := Paired.at hL hv
  have ed : L.drop k = p :: L.drop (k + 1) := drop_pre hp
  have hokk := okL_drop k hok
  rw [ed] at hokk
  obtain ⟨hlen, _⟩ := hokk
  have lst := stk_le (L.drop (k + 1))
  have ltk := tk_length (L.drop (k + 1))
  rw [List.length_drop] at lst ltk
  obtain ⟨b, wsn, rfl, hb, _⟩ := pv.node
  -- the answers of the inner ones
  refine ⟨_, rfl, p, _, rfl, pv.mono (TS.of s1), fun r ks H3 s3 nr hr3 hks => ⟨r, rfl, ⟨_, SqL.of hr3⟩, fun D nD => ?_⟩⟩
  have lks : (kids p).length = ks.length := Paired.length hks
  have nDlo : lo ≠ D := ne_of_none (s3 _ _ ho) nD
  have nDlt : lt ≠ D := ne_of_none (s3 _ _ ht) nD
  have nDr : r ≠ D := ne_of_none hr3 nD
  have nrlo : r ≠ lo := fun z => by
    rw [z, ho] at nr
    cases nr
  have nrlt : r ≠ lt := fun z => by
    rw [z, ht] at nr
    cases nr
  generalize hS : stk (L.drop (k + 1)) = S at *
  generalize hTK : tk (L.drop (k + 1)) = TK at *
  refine lc_list (K := K) (a := r) (xs := ks) (fun j H' => Same H H' ∧ H' r = some (.lst ks) ∧ H' lt = some (.lst (TK.reverse.map V.bl)) ∧ H' lo = some (.lst ((S.drop j).reverse.map V.bl)) ∧ H' D = some (.lst ((S.take j).map V.bl)))
    ⟨?_, ?_, ?_, ?_, ?_⟩ (fun j H' _ hI => SqL.of hI.2.1) ?_ ?_
  · exact (s1.trans s3).trans (same_new nD)
  · rw [upd_ne nDr]
    exact hr3
  · rw [upd_ne nDlt]
    exact s3 _ _ ht
  · rw [upd_ne nDlo]
    exact s3 _ _ ho
  · rw [List.take_zero]
    exact upd_same
  · rintro j y H4 hj ⟨sa, sb, sc, sd, se⟩
    have jl : j < ks.length := (List.getElem?_eq_some_iff.mp hj).1
    have jS : j < S.length := by omega
    refine ⟨rfl, yes_if ?_⟩
    have eS : S.drop j = S[j] :: S.drop (j + 1) := List.drop_eq_getElem_cons jS
    rw [eS, List.reverse_cons, List.map_append] at sd
    refine ⟨_, rfl, .inl ⟨rfl, _, SqL.of sd⟩, lo, _, .bl S[j], rfl, rfl, sd, last_get _ _, ?_⟩
    show ∃ acc, _
    refine ⟨(S.take j).map V.bl, ?_, ?_, ?_⟩
    · rw [upd_ne nDlo.symm]
      exact se
    · rw [List.length_map, List.length_take]
      exact szl (by omega)
    refine ⟨?_, ?_, ?_, ?_, ?_⟩
    · exact Same.mut (Same.mut sa no0) (s1.free (s3.free nD))
    · rw [upd_ne nDr, upd_ne nrlo]
      exact sb
    · rw [upd_ne nDlt, upd_ne nlo.symm]
      exact sc
    · rw [upd_ne nDlo]
      show upd H4 lo (HO.lst (List.map V.bl (S.drop (j + 1)).reverse ++ [V.bl S[j]]).dropLast) lo = _
      rw [List.dropLast_concat]
      exact upd_same
    · rw [upd_same, ← List.take_append_getElem jS, List.map_append]
      rfl
  · rintro H4 ⟨sa, sb, sc, sd, se⟩
    rw [← lks] at sd se
    have tb := TS.of (K := K) sa _ _ (show SqT K H b _ from hb)
    refine ⟨_, rfl, _, _, _, _, rfl, rfl, tb, at0 rfl, _, rfl, nm p, D, S.take (kids p).length, rfl, SqL.of se, fun H5 s5 => ?_⟩
    have so := s5 _ _ sd
    have st := s5 _ _ sc
    refine ⟨_, rfl, .inl ⟨rfl, _, SqL.of so⟩, _, rfl, lo, _, _, rfl, rfl, so, szl ?_, ?_⟩
    · simp
      omega
    have st2 : upd H5 lo (.lst (((S.drop (kids p).length).reverse.map V.bl) ++ [.bl (mtn (nm p) (S.take (kids p).length))])) lt = some (.lst (TK.reverse.map V.bl)) := by
      rw [upd_ne nlo.symm]
      exact st
    refine ⟨_, rfl, .inl ⟨rfl, _, SqL.of st2⟩, _, rfl, lt, _, _, rfl, rfl, st2, szl ?_, ?_⟩
    · simp
      omega
    refine ⟨by omega, _, _, _, rfl, Same.mut (Same.mut (sa.trans s5) no0) nt, ?_, ?_⟩
    · rw [upd_same, ed]
      show _ = some (HO.lst (List.map V.bl (mtn (nm p) ((stk (L.drop (k + 1))).take (kids p).length) :: tk (L.drop (k + 1))).reverse))
      rw [hS, hTK]
      simp
    · rw [upd_ne nlo, upd_same, ed]
      show _ = some (HO.lst (List.map V.bl (mtn (nm p) ((stk (L.drop (k + 1))).take (kids p).length) :: (stk (L.drop (k + 1))).drop (kids p).length).reverse))
      rw [hS]
      simp

end
end G1

set_option maxRecDepth 100000
set_option maxHeartbeats 4000000
namespace G1
open PySem PySem.Spec PyProof.Rows L2 Gm
section
variable {P : Program} {w : World} {K : PySem.W.Frag} {mg : Str → Option Value} {base : Heap}
def sp_cell_at (K : PySem.W.Frag) : Sp := fun vs H Q _ => ∃ (a : Addr) (ns : List Int) (k : Nat), vs = [.ref a, .int (k : Int)] ∧ SqL K H a (ns.map V.int) ∧ Q (.int (cellAt ns k)) H
theorem ok__law_cell_at (T : Txt w K mg) : FnOk P w K mg base CX0 1 T.f__law_cell_at T.fd__law_cell_at ["_law_script", "_law_k"] (sp_cell_at K) := by
  refine T.F__law_cell_at.ok sc__law_cell_at (fun vs H Q E h => ?_) (fun cdv A outer s H vs Q E hr h => ?_)
  · obtain ⟨a, ns, k, rfl, _⟩ := h
    rfl
  obtain ⟨a, ns, k, rfl, ha, q⟩ := h
  refine ⟨_, (pss_cons (ps_if (pt_cmpR op_lt (pv 1) (pe_callB call_len_seq (by rfl) T.n_len PySem.boot_len (pa_cons (pv 0) pa_nil)) (nomark _))
    (pss_one (ps_ret (pe_ix ix_list (pv 0) (pv 1) (fun _ _ => rfl))))
    pss_nil)
  (pss_one (ps_ret pe_int))), ?_⟩
  refine ⟨_, rfl, _, rfl, a, _, rfl, .inl ha, _, _, rfl, rfl, _, rfl, ?_⟩
  refine ite2 (fun c => ?_) (fun c => ?_)
  · have c' : (k : Int) < (((ns.map V.int).length : Nat) : Int) := of_decide_eq_true c
    rw [List.length_map] at c'
    have hk : k < ns.length := by omega
    refine ⟨_, rfl, _, rfl, a, _, _, .int (cellAt ns k), rfl, rfl, ha, atI_nat ?_, q⟩
    rw [List.getElem?_map, List.getElem?_eq_getElem hk]
    unfold cellAt
    rw [List.getD_eq_getElem?_getD, List.getElem?_eq_getElem hk]
    rfl
  · have c' : ¬ (k : Int) < (((ns.map V.int).length : Nat) : Int) := of_decide_eq_false (Bool.eq_false_iff.mpr c)
    rw [List.length_map] at c'
    have e : cellAt ns k = 0 := by
      unfold cellAt
      rw [List.getD_eq_getElem?_getD, List.getElem?_eq_none (by omega)]
      rfl
    rw [e] at q
    exact q
def sp_sign : Sp := fun vs H Q _ => ∃ c : Int, vs = [.int c] ∧ Q (.str ⟨#[lsg c]⟩) H
theorem ok__law_sign (T : Txt w K mg) : FnOk P w K mg base CX0 1 T.f__law_sign T.fd__law_sign ["_law_cell"] sp_sign := by
  refine T.F__law_sign.ok sc__law_sign (fun vs H Q E h => ?_) (fun cdv A outer s H vs Q E hr h => ?_)
  · obtain ⟨c, rfl, _⟩ := h
    rfl
  obtain ⟨c, rfl, q⟩ := h
  refine ⟨_, (pss_cons (ps_set (i := 1) sc__law_sign.nd rfl (.inl rfl) pe_str)
  (pss_cons (ps_set (i := 1) sc__law_sign.nd rfl (.inl rfl) (pe_op op_add_str (pv 1) pe_str))
  (pss_one (ps_ret (pe_ix ix_str (pv 1) (pe_op op_mod (pv 0) pe_int) (fun _ _ => rfl)))))), ?_⟩
  refine ⟨_, rfl, _, _, rfl, rfl, sz (by decide +kernel), ?_⟩
  refine ⟨_, rfl, _, rfl, _, _, rfl, rfl, (by show (0 : Int) < 95; decide), tabS, _, lsg c, rfl, rfl, sz (by rw [tab_len]; decide), lsg_at c, q⟩

end
end G1

set_option maxRecDepth 100000
set_option maxHeartbeats 4000000
namespace G1
open PySem PySem.Spec PyProof.Rows L2 Gm
section
variable {P : Program} {w : World} {K : PySem.W.Frag} {mg : Str → Option Value} {base : Heap}
def sp_numbers_among (K : PySem.W.Frag) : Sp := fun vs H Q _ => ∃ (L : List Pat) (a : Addr) (fs : List V), vs = [.ref a] ∧ SqL K H a fs ∧ PAts K H L fs ∧ L.length ≤ 1000 ∧
  ∀ (r : Addr) (H' : Hp), Same H H' → H r = none → H' r = some (.lst ((nums L).map V.int)) → Q (.ref r) H'
theorem nums_take {L : List Pat} {i : Nat} {p : Pat} (h : L[i]? = some p) : nums (L.take (i + 1)) = nums (L.take i) ++ nums [p] := by
  obtain ⟨h1, h2⟩ := List.getElem?_eq_some_iff.mp h
  rw [← List.take_append_getElem h1, h2]
  unfold nums
  rw [List.filterMap_append]
theorem nums_len (L : List Pat) : (nums L).length ≤ L.length := List.length_filterMap_le _ _
/-- one turn of the walk that keeps the groups' numbers -/
theorem nums_turn {H0 H : Hp} {D : Addr} {L : List Pat} {fs : List V} {i j : Nat} {v : V} {σ : L2.St} (hn : H0 D = none) (hj : (σ.set j (some v))[j]? = some (some v)) (hL : PAts K H L fs) (hi : fs[i]? = some v) (h1 : Same H0 H) (hz : L.length ≤ 1000)
    (h2 : H D = some (.lst ((nums (L.take i)).map V.int))) :
    tTest (tOp rEq (tOp (rIxT K) (tVar j) (tC (.int 0))) (tC (.str "group"))) (σ.set j (some v)) H fun b H3 => if b = true then tOp (rIxT K) (tVar j) (tC (.int 1)) (σ.set j (some v)) H3 fun y H4 => ∃ acc, H4 D = some (.lst acc) ∧ acc.length < sizeLine ∧
      (Same H0 (upd H4 D (.lst (acc ++ [y]))) ∧ upd H4 D (.lst (acc ++ [y])) D = some (.lst ((nums (L.take (i + 1))).map V.int))) else Same H0 H3 ∧ H3 D = some (.lst ((nums (L.take (i + 1))).map V.int)) := by
  obtain ⟨p, hp, pv⟩ := Paired.at hL hi
  obtain ⟨b, ws, rfl, hb, _⟩ := pv.node
  have hl : (nums (L.take i)).length ≤ 1000 := Nat.le_trans (nums_len _) (by rw [List.length_take]; omega)
  refine ⟨_, hj, _, _, _, _, rfl, rfl, hb, at0 rfl, rfl, _, rfl, ?_⟩
  rw [nums_take hp]
  cases p with
  | group n p =>
    refine iteT ?_
    refine ⟨_, hj, _, _, _, _, rfl, rfl, hb, at1 rfl, _, h2, szl (by rw [List.length_map]; omega), Same.mut h1 hn, ?_⟩
    rw [upd_same, List.map_append]
    rfl
  | _ =>
    refine iteF ⟨h1, ?_⟩
    rw [h2]
    simp [nums]
theorem ok__numbers_among (T : Txt w K mg) : FnOk P w K mg base CX0 1 T.f__numbers_among T.fd__numbers_among ["found"] (sp_numbers_among K) := by
  refine T.F__numbers_among.ok sc__numbers_among (fun vs H Q E h => ?_) (fun cdv A outer s H vs Q E hr h => ?_)
  · obtain ⟨L, a, fs, rfl, _⟩ := h
    rfl
  obtain ⟨L, a, fs, rfl, ha, hL, hz, q⟩ := h
  have ll : L.length = fs.length := Paired.length hL
  refine ⟨_, (pss_one (ps_ret (pe_lc (own := [("part", 1)]) (g := gName 1) (te := tOp (rIxT K) (tVar 1) (tC (.int 1))) (tt := tTest (tOp rEq (tOp (rIxT K) (tVar 1) (tC (.int 0))) (tC (.str "group")))) rfl sc__numbers_among.nd (pi_list (pv 0)) (blkOk_by (own := [("part", 1)]) (N := N__numbers_among) (sc := defScope s__numbers_among) (by decide +kernel)) (fun _ _ _ _ _ => by exact (pg_name (i := 1) sc__numbers_among.nd rfl (.inl rfl))) (fun _ _ _ _ _ => by exact (pts_one (pt_cmpR op_eq (pe_ix ix_tup (pv 1) pe_int (fun _ _ => rfl)) pe_str (nomark _)))) (fun _ _ _ _ _ => by exact (pe_ix ix_tup (pv 1) pe_int (fun _ _ => rfl)))))), ?_⟩
  refine ⟨_, rfl, a, rfl, ⟨_, ha⟩, fun D nD => ?_⟩
  refine lc_list (K := K) (a := a) (xs := fs) (fun i H' => Same H H' ∧ H' D = some (.lst ((nums (L.take i)).map V.int))) ⟨same_new nD, by rw [List.take_zero]; exact upd_same⟩ (fun j H' _ hI => hI.1.seq ha) ?_ ?_
  · rintro i v H1 hi ⟨h1, h2⟩
    exact ⟨rfl, nums_turn nD rfl (hL.mono (TS.of h1)) hi h1 hz h2⟩
  · rintro H1 ⟨h1, h2⟩
    rw [← ll, List.take_length] at h2
    exact q D H1 h1 nD h2

end
end G1

set_option maxRecDepth 100000
set_option maxHeartbeats 4000000
namespace G1
open PySem PySem.Spec PyProof.Rows L2 Gm
section
variable {P : Program} {w : World} {K : PySem.W.Frag} {mg : Str → Option Value} {base : Heap}
def sp_numbers (K : PySem.W.Frag) : Sp := fun vs H Q _ => ∃ (p : Pat) (v : V), vs = [v] ∧ PAt K H p v ∧ siz p ≤ 1000 ∧
  ∀ (r : Addr) (H' : Hp), Same H H' → H r = none → H' r = some (.lst ((nums (subs p)).map V.int)) → Q (.ref r) H'
theorem ok_numbers (T : Txt w K mg) : FnOk P w K mg base CX0 4 T.f_numbers T.fd_numbers ["pattern"] (sp_numbers K) := by
  refine T.F_numbers.ok sc_numbers (fun vs H Q E h => ?_) (fun cdv A outer s H vs Q E hr h => ?_)
  · obtain ⟨p, v, rfl, _⟩ := h
    rfl
  obtain ⟨p, v, rfl, hp, hz, q⟩ := h
  refine ⟨_, (pss_one (ps_ret (pe_call (ok__numbers_among T) (hr.mono (by decide)) (by rfl) T.m__numbers_among T.F__numbers_among.kp T.b__numbers_among .nil pass0 (pa_cons (pe_call (ok_parts T) (hr.mono (by decide)) (by rfl) T.m_parts T.F_parts.kp T.b_parts .nil pass0 (pa_cons (pv 0) pa_nil)) pa_nil)))), ?_⟩
  refine ⟨_, rfl, p, v, rfl, hp, hz, fun r fs H1 s1 _ h1 hf => ?_⟩
  refine ⟨subs p, r, fs, rfl, SqL.of h1, hf, hz, fun r2 H2 s2 n2 h2 => ?_⟩
  exact q r2 H2 (s1.trans s2) (s1.free n2) h2

end
end G1

set_option maxRecDepth 100000
set_option maxHeartbeats 4000000
namespace G1
open PySem PySem.Spec PyProof.Rows L2 Gm
section
variable {P : Program} {w : World} {K : PySem.W.Frag} {mg : Str → Option Value} {base : Heap}
def sp_has_twins (K : PySem.W.Frag) : Sp := fun vs H Q _ => ∃ (a : Addr) (ns : List Int), vs = [.ref a] ∧ SqL K H a (ns.map V.int) ∧ ns.length ≤ 1000 ∧ Q (.bl (decide (¬ ns.Nodup))) H
theorem ok__has_twins (T : Txt w K mg) : FnOk P w K mg base CX0 1 T.f__has_twins T.fd__has_twins ["many"] (sp_has_twins K) := by
  refine T.F__has_twins.ok sc__has_twins (fun vs H Q E h => ?_) (fun cdv A outer s H vs Q E hr h => ?_)
  · obtain ⟨a, ns, rfl, _⟩ := h
    rfl
  obtain ⟨a, ns, rfl, ha, hz, q⟩ := h
  refine ⟨_, (pss_one (ps_ret (pe_cmpR op_lt (pe_lenSetG (by rfl) T.n_len (by rfl) T.n_set (pv 0)) (pe_callB call_len_seq (by rfl) T.n_len PySem.boot_len (pa_cons (pv 0) pa_nil)) (nomark _)))), ?_⟩
  refine ⟨_, rfl, a, ns, rfl, ha, by omega, _, rfl, a, _, rfl, .inl ha, _, _, rfl, rfl, ?_⟩
  show Q (.bl (decide ((((firstMet (fun i => ns.getD i 0) ns.length).length : Nat) : Int) < (((ns.map V.int).length : Nat) : Int)))) H
  rw [List.length_map]
  have e : decide ((((firstMet (fun i => ns.getD i 0) ns.length).length : Nat) : Int) < ((ns.length : Nat) : Int)) = decide (¬ ns.Nodup) := by
    rw [Bool.eq_iff_iff, decide_eq_true_iff, decide_eq_true_iff]
    exact twins_iff ns
  rw [e]
  exact q

end
end G1

set_option maxRecDepth 100000
set_option maxHeartbeats 4000000
namespace G1
open PySem PySem.Spec PyProof.Rows L2 Gm
section
variable {P : Program} {w : World} {K : PySem.W.Frag} {mg : Str → Option Value} {base : Heap}
theorem erl_take {L : List Pat} {i : Nat} {p : Pat} (h : L[i]? = some p) : erl (L.take (i + 1)) = erl (L.take i) ++ erl [p] := by
  obtain ⟨h1, h2⟩ := List.getElem?_eq_some_iff.mp h
  rw [← List.take_append_getElem h1, h2]
  unfold erl
  rw [List.filterMap_append]
def sp_has_empty (K : PySem.W.Frag) : Sp := fun vs H Q _ => ∃ (p : Pat) (a : Addr) (fs : List V), vs = [.ref a] ∧ SqL K H a fs ∧ PAts K H (subs p) fs ∧ siz p ≤ 1000 ∧
  ∀ (H' : Hp), Same H H' → Q (.bl ((erl (subs p)).any id)) H'
theorem ok__has_empty_round (T : Txt w K mg) : FnOk P w K mg base CX0 3 T.f__has_empty_round T.fd__has_empty_round ["found"] (sp_has_empty K) := by
  refine T.F__has_empty_round.ok sc__has_empty_round (fun vs H Q E h => ?_) (fun cdv A outer s H vs Q E hr h => ?_)
  · obtain ⟨p, a, fs, rfl, _⟩ := h
    rfl
  obtain ⟨p, a, fs, rfl, ha, hL, hz, q⟩ := h
  have ll : (subs p).length = fs.length := Paired.length hL
  have e := stk_subs p []
  rw [List.append_nil] at e
  refine ⟨_, (pss_cons (ps_set (i := 1) sc__has_empty_round.nd rfl (.inr rfl) (pe_call (ok__takings T) (hr.mono (by decide)) (by rfl) T.m__takings T.F__takings.kp T.b__takings .nil pass0 (pa_cons (pv 0) pa_nil)))
  (pss_one (ps_ret (pe_callB (cr_any rfl) (by rfl) T.n_any (by decide +kernel) (pa_cons (pe_lc (own := [("at", 2), ("part", 3)]) (g := gTup K 2 (gCons (gName 2) (gCons (gName 3) gNil))) (te := tOp (rIxL K) (tVar 1) (tOp (rI0 fun i j => .int (i + j)) (tVar 2) (tC (.int 1)))) (tt := tTest (tOp (rIn K false) (tOp (rIxT K) (tVar 3) (tC (.int 0))) (tTup (tCons (tC (.str "more")) (tCons (tC (.str "less")) tNil))))) rfl sc__has_empty_round.nd (pi_enum (by rfl) T.n_enumerate (pa_cons (pv 0) pa_nil)) (blkOk_by (own := [("at", 2), ("part", 3)]) (N := N__has_empty_round) (sc := defScope s__has_empty_round) (by decide +kernel)) (fun _ _ _ _ _ => by exact (pg_tup rfl (pgs_cons (pg_name (i := 2) sc__has_empty_round.nd rfl (.inl rfl)) (pgs_cons (pg_name (i := 3) sc__has_empty_round.nd rfl (.inl rfl)) pgs_nil)))) (fun _ _ _ _ _ => by exact (pts_one (pt_cmpR op_in_seq (pe_ix ix_tup (pv 3) pe_int (fun _ _ => rfl)) (pe_tup (pa_cons pe_str (pa_cons pe_str pa_nil))) (by rfl)))) (fun _ _ _ _ _ => by exact (pe_ix ix_list (pv 1) (pe_op op_add (pv 2) pe_int) (fun _ _ => rfl)))) pa_nil))))), ?_⟩
  refine ⟨_, rfl, subs p, a, fs, rfl, ha, hL, e.2.2 trivial, hz, fun lt H1 s1 _ ht => ?_⟩
  rw [e.2.1, show tk [] = [] from rfl, List.append_nil] at ht
  refine ⟨_, rfl, a, fs, rfl, s1.seq ha, fun D nD => ?_⟩
  refine lc_it (walk_enum (xs := fs)) (fun i H' => Same H1 H' ∧ H' D = some (.lst ((erl ((subs p).take i)).map V.bl))) ⟨same_new nD, by rw [List.take_zero]; exact upd_same⟩ (fun i H' _ hI => hI.1.seq (s1.seq ha)) ?_ ?_
  · rintro i v H2 H3 hi ⟨s2, hD⟩ ⟨t, _, y, rfl, nt, rfl, ey, hy⟩
    cases ey
    obtain ⟨p1, hp1, pv⟩ := Paired.at hL hy
    have s3 := s2.trans (same_new (o := .tup [.int ((i : Nat) : Int), y]) nt)
    obtain ⟨b, ws, rfl, hb, _⟩ := (pv.mono (TS.of (K := K) (s1.trans s3))).node
    have hD3 : upd H2 t (.tup [.int ((i : Nat) : Int), .ref b]) D = some (.lst ((erl ((subs p).take i)).map V.bl)) := same_new nt _ _ hD
    have el : (erl ((subs p).take i)).length ≤ 1000 := Nat.le_trans (List.length_filterMap_le _ _) (by rw [List.length_take]; have : (subs p).length ≤ 1000 := hz; omega)
    refine ⟨t, _, rfl, SqT.of upd_same, rfl, _, _, rfl, _, _, rfl, rfl, rfl, ?_⟩
    refine ⟨_, rfl, _, _, _, _, rfl, rfl, hb, at0 rfl, sz (by show 2 ≤ 10000; decide), fun t2 n2 => ⟨_, _, rfl, .inr (SqT.of upd_same), rfl, rfl, _, rfl, ?_⟩⟩
    have s4 := s3.trans (same_new (o := .tup [.str "more", .str "less"]) n2)
    have hD4 := same_new (o := .tup [.str "more", .str "less"]) n2 _ _ hD3
    have ht4 := s4 _ _ ht
    rw [erl_take hp1]
    have take : ∀ q, (p1 = .more q ∨ p1 = .less q) → (V.bl (nul q)) = V.bl (nul q) ∧ ((subs p).map nul |>.map V.bl)[i + 1]? = some (.bl (nul q)) := fun q hq => by
      refine ⟨rfl, ?_⟩
      have := next_part' (p := p) (q := q) (i := i) (by rcases hq with rfl | rfl; exact .inl hp1; exact .inr hp1)
      rw [List.getElem?_map, List.getElem?_map, this]
      rfl
    cases p1 with
    | more q1 =>
      refine iteT ?_
      refine ⟨_, rfl, _, rfl, _, _, rfl, rfl, lt, _, _, .bl (nul q1), rfl, rfl, SqL.of ht4, at_of (j := i + 1) (by show ((i : Nat) : Int) + 1 = _; omega) (take q1 (.inl rfl)).2, ?_⟩
      refine ⟨_, hD4, szl (by rw [List.length_map]; omega), Same.mut s4 nD, ?_⟩
      rw [upd_same, List.map_append]
      rfl
    | less q1 =>
      refine iteT ?_
      refine ⟨_, rfl, _, rfl, _, _, rfl, rfl, lt, _, _, .bl (nul q1), rfl, rfl, SqL.of ht4, at_of (j := i + 1) (by show ((i : Nat) : Int) + 1 = _; omega) (take q1 (.inr rfl)).2, ?_⟩
      refine ⟨_, hD4, szl (by rw [List.length_map]; omega), Same.mut s4 nD, ?_⟩
      rw [upd_same, List.map_append]
      rfl
    | _ =>
      refine iteF ⟨s4, ?_⟩
      rw [hD4]
      simp [erl]
  · rintro H2 ⟨s2, hD⟩
    rw [← ll, List.take_length] at hD
    exact ⟨D, _, rfl, SqL.of hD, q H2 (s1.trans s2)⟩

end
end G1

set_option maxRecDepth 100000
set_option maxHeartbeats 4000000
namespace G1
open PySem PySem.Spec PyProof.Rows L2 Gm
section
variable {P : Program} {w : World} {K : PySem.W.Frag} {mg : Str → Option Value} {base : Heap}
def sp_checked (K : PySem.W.Frag) : Sp := fun vs H Q _ => ∃ (p : Pat) (v : V), vs = [v] ∧ PAt K H p v ∧ siz p ≤ 1000 ∧ goodP p ∧ ∀ H', Same H H' → Q v H'
theorem ok_checked (T : Txt w K mg) : FnOk P w K mg base CX0 4 T.f_checked T.fd_checked ["pattern"] (sp_checked K) := by
  refine T.F_checked.ok sc_checked (fun vs H Q E h => ?_) (fun cdv A outer s H vs Q E hr h => ?_)
  · obtain ⟨p, v, rfl, _⟩ := h
    rfl
  obtain ⟨p, v, rfl, hp, hz, ⟨g1, g2⟩, q⟩ := h
  refine ⟨_, (pss_cons (ps_set (i := 1) sc_checked.nd rfl (.inl rfl) (pe_call (ok_parts T) (hr.mono (by decide)) (by rfl) T.m_parts T.F_parts.kp T.b_parts .nil pass0 (pa_cons (pv 0) pa_nil)))
  (pss_cons (ps_if (pt_val (pe_call (ok__has_twins T) (hr.mono (by decide)) (by rfl) T.m__has_twins T.F__has_twins.kp T.b__has_twins .nil pass0 (pa_cons (pe_call (ok__numbers_among T) (hr.mono (by decide)) (by rfl) T.m__numbers_among T.F__numbers_among.kp T.b__numbers_among .nil pass0 (pa_cons (pv 1) pa_nil)) pa_nil)))
    (pss_one ps_never)
    pss_nil)
  (pss_cons (ps_if (pt_val (pe_call (ok__has_empty_round T) (hr.mono (by decide)) (by rfl) T.m__has_empty_round T.F__has_empty_round.kp T.b__has_empty_round .nil pass0 (pa_cons (pv 1) pa_nil)))
    (pss_one ps_never)
    pss_nil)
  (pss_one (ps_ret (pv 0)))))), ?_⟩
  refine ⟨_, rfl, p, v, rfl, hp, hz, fun r fs H1 s1 _ h1 hf => ?_⟩
  refine ⟨_, rfl, subs p, r, fs, rfl, SqL.of h1, hf, hz, fun r2 H2 s2 n2 h2 => ?_⟩
  refine ⟨r2, nums (subs p), rfl, SqL.of h2, Nat.le_trans (List.length_filterMap_le _ _) hz, ?_⟩
  have e : decide (¬ (nums (subs p)).Nodup) = false := decide_eq_false fun h => h g1
  rw [e]
  refine ⟨_, rfl, iteF ?_⟩
  refine ⟨_, rfl, p, r, fs, rfl, SqL.of (s2 _ _ h1), hf.mono (TS.of s2), hz, fun H3 s3 => ?_⟩
  rw [g2]
  refine ⟨_, rfl, iteF ?_⟩
  exact ⟨_, rfl, q H3 ((s1.trans s2).trans s3)⟩

end
end G1

set_option maxRecDepth 100000
set_option maxHeartbeats 4000000
namespace G1
open PySem PySem.Spec PyProof.Rows L2 Gm
section
variable {P : Program} {w : World} {K : PySem.W.Frag} {mg : Str → Option Value} {base : Heap}
def sp_first_state (K : PySem.W.Frag) : Sp := fun vs H Q _ => ∃ (p : Pat) (v : V), vs = [v] ∧ PAt K H p v ∧ ∀ (t : Addr) (H' : Hp), Same H H' → SAt K H' ([.pat p], 0) (.ref t) → Q (.ref t) H'
theorem ok_first_state (T : Txt w K mg) : FnOk P w K mg base CX0 1 T.f_first_state T.fd_first_state ["pattern"] (sp_first_state K) := by
  refine T.F_first_state.ok sc_first_state (fun vs H Q E h => ?_) (fun cdv A outer s H vs Q E hr h => ?_)
  · obtain ⟨p, v, rfl, _⟩ := h
    rfl
  obtain ⟨p, v, rfl, hp, q⟩ := h
  refine ⟨_, (pss_one (ps_ret (pe_tup (pa_cons (pe_tup (pa_cons (pv 0) pa_nil)) (pa_cons pe_int pa_nil))))), ?_⟩
  refine ⟨_, rfl, sz (by show 1 ≤ 10000; decide), fun t1 n1 => ⟨sz (by show 2 ≤ 10000; decide), fun t2 n2 => ?_⟩⟩
  have s2 := (same_new (o := .tup [v]) n1).trans (same_new (o := .tup [.ref t1, .int 0]) n2)
  exact q t2 _ s2 ⟨t2, .ref t1, rfl, SqT.of upd_same, t1, [v], rfl, TS.of (K := K) (same_new n2) _ _ (SqT.of upd_same), .cons (hp.mono (TS.of s2)) .nil⟩
def sp_is_end (K : PySem.W.Frag) : Sp := fun vs H Q _ => ∃ (x : Sta) (v : V) (z : Str), vs = [v, .str z] ∧ SAt K H x v ∧ gd 50 x.1 ∧ z.length ≤ 1000 ∧ ∀ H', Same H H' → Q (.bl (isEnd z x)) H'
theorem ok_is_end (T : Txt w K mg) : FnOk P w K mg base CX0 1 T.f_is_end T.fd_is_end ["state", "text"] (sp_is_end K) := by
  refine T.F_is_end.ok sc_is_end (fun vs H Q E h => ?_) (fun cdv A outer s H vs Q E hr h => ?_)
  · obtain ⟨x, v, z, rfl, _⟩ := h
    rfl
  obtain ⟨x, v, z, rfl, hx, hg, hz, q⟩ := h
  refine ⟨_, (pss_one (ps_ret (pe_cmpR (op_eqD hr.units) (pv 0) (pe_tup (pa_cons (pe_tup pa_nil) (pa_cons (pe_callB call_len (by rfl) T.n_len PySem.boot_len (pa_cons (pv 1) pa_nil)) pa_nil))) (nomark _)))), ?_⟩
  refine ⟨_, rfl, Nat.zero_le _, fun t1 n1 => ?_⟩
  refine ⟨_, rfl, _, _, rfl, ⟨sz (by omega), rfl⟩, sz (by show 2 ≤ 10000; decide), fun t2 n2 => ?_⟩
  have s2 := (same_new (o := .tup []) n1).trans (same_new (o := .tup [.ref t1, .int ((z.length : Nat) : Int)]) n2)
  have de : Dp K (upd (upd H t1 (.tup [])) t2 (.tup [.ref t1, .int ((z.length : Nat) : Int)])) (.ref t2) (.tuple [.tuple [], .int ((z.length : Nat) : Int)]) :=
    .tup (SqT.of upd_same) (.cons (.tup (TS.of (K := K) (same_new n2) _ _ (SqT.of upd_same)) .nil) (.cons (.int _) .nil))
  have hx2 := hx.mono (TS.of (K := K) s2)
  refine ⟨spd x, _, hx2.dp, de, shaped_of hx2.lay (Nat.le_trans (spd_depth hg) (by decide)), shaped_of (lay_tup (lay_cons (lay_tup lay_nil) (lay_cons (lay_int _) lay_nil))) (by simp [PyData.depth, PyData.depthAll]), ?_⟩
  rw [eqv_end]
  exact q _ s2
/-- whether a sign or an any takes the text y -/
def takes (p : Pat) (y : Str) : Bool := match p with
  | .sign c => decide (V.str y = V.str ⟨#[c]⟩)
  | _ => !decide (V.str y = V.str "")
def sp_takes (K : PySem.W.Frag) : Sp := fun vs H Q _ => ∃ (p : Pat) (v : V) (y : Str), vs = [v, .str y] ∧ PAt K H p v ∧ (p = .any ∨ ∃ c, p = .sign c) ∧ Q (.bl (takes p y)) H
theorem ok__takes (T : Txt w K mg) : FnOk P w K mg base CX0 1 T.f__takes T.fd__takes ["thing", "sign"] (sp_takes K) := by
  refine T.F__takes.ok sc__takes (fun vs H Q E h => ?_) (fun cdv A outer s H vs Q E hr h => ?_)
  · obtain ⟨p, v, y, rfl, _⟩ := h
    rfl
  obtain ⟨p, v, y, rfl, hp, hs, q⟩ := h
  obtain ⟨a, ws, rfl, ht, _⟩ := hp.node
  refine ⟨_, (pss_cons (ps_if (pt_cmpR op_eq (pe_ix ix_tup (pv 0) pe_int (fun _ _ => rfl)) pe_str (nomark _))
    (pss_one (ps_ret (pe_cmpR op_ne (pv 1) pe_str (nomark _))))
    pss_nil)
  (pss_one (ps_ret (pe_cmpR op_eq (pv 1) (pe_ix ix_tup (pv 0) pe_int (fun _ _ => rfl)) (nomark _))))), ?_⟩
  refine ⟨_, rfl, _, _, _, _, rfl, rfl, ht, at0 rfl, rfl, _, rfl, ?_⟩
  rcases hs with rfl | ⟨c, rfl⟩
  · refine iteT ?_
    exact ⟨_, rfl, rfl, q⟩
  · refine iteF ?_
    exact ⟨_, rfl, _, rfl, _, _, _, _, rfl, rfl, ht, at1 rfl, rfl, q⟩
def sp_unfolded (K : PySem.W.Frag) : Sp := fun vs H Q _ => ∃ (t : Th) (v : V), vs = [v] ∧ TAt K H t v ∧
  ∀ (r : Addr) (ws : List V) (H' : Hp), Same H H' → H r = none → H' r = some (.lst ws) → Paired (RAt K H') (unf t) ws → Q (.ref r) H'
theorem ok__unfolded (T : Txt w K mg) : FnOk P w K mg base CX0 1 T.f__unfolded T.fd__unfolded ["thing"] (sp_unfolded K) := by
  refine T.F__unfolded.ok sc__unfolded (fun vs H Q E h => ?_) (fun cdv A outer s H vs Q E hr h => ?_)
  · obtain ⟨t, v, rfl, _⟩ := h
    rfl
  obtain ⟨t, v, rfl, hv, q⟩ := h
  refine ⟨_, (pss_one (ps_match (pv 0)
   (pm_case2 (i := 1) (j := 2) rfl sc__unfolded.nd rfl rfl rfl rfl (pss_one (ps_ret (pe_lst (pa_cons (pe_tup (pa_cons (pv 1) (pa_cons (pv 2) pa_nil))) pa_nil))))
   (pm_case2 (i := 1) (j := 2) rfl sc__unfolded.nd rfl rfl rfl rfl (pss_one (ps_ret (pe_lst (pa_cons (pe_tup (pa_cons (pv 1) pa_nil)) (pa_cons (pe_tup (pa_cons (pv 2) pa_nil)) pa_nil)))))
   (pm_case1 (i := 1) rfl sc__unfolded.nd rfl rfl (pss_one (ps_ret (pe_lst (pa_cons (pe_tup (pa_cons (pv 1) (pa_cons (pv 0) pa_nil))) (pa_cons (pe_tup pa_nil) pa_nil)))))
   (pm_case1 (i := 1) rfl sc__unfolded.nd rfl rfl (pss_one (ps_ret (pe_lst (pa_cons (pe_tup pa_nil) (pa_cons (pe_tup (pa_cons (pv 1) (pa_cons (pv 0) pa_nil))) pa_nil)))))
   (pm_case2 (i := 3) (j := 1) rfl sc__unfolded.nd rfl rfl rfl rfl (pss_one (ps_ret (pe_lst (pa_cons (pe_tup (pa_cons (pv 1) (pa_cons (pe_tup (pa_cons pe_str (pa_cons (pv 3) pa_nil))) pa_nil))) pa_nil))))
   (pm_wild (pss_one (ps_ret (pe_lst (pa_cons (pe_tup pa_nil) pa_nil)))))))))))), ?_⟩
  cases t with
  | close n =>
    obtain ⟨a, rfl, ht⟩ := hv
    refine ⟨_, rfl, a, _, _, rfl, ht, .inr ⟨.inl (by decide +kernel), a, _, _, rfl, ht, .inr ⟨.inl (by decide +kernel), a, _, _, rfl, ht, .inr ⟨.inl (by decide +kernel), a, _, _, rfl, ht, .inr ⟨.inl (by decide +kernel), a, _, _, rfl, ht, .inr ⟨.inl (by decide +kernel), ?_⟩⟩⟩⟩⟩⟩
    refine ⟨Nat.zero_le _, fun t1 n1 => ⟨sz (by show 1 ≤ 10000; decide), fun r nr => ?_⟩⟩
    exact q r _ _ ((same_new n1).trans (same_new nr)) ((same_new n1).free nr) upd_same (.cons ⟨t1, [], rfl, TS.of (K := K) (same_new nr) _ _ (SqT.of upd_same), .nil⟩ .nil)
  | pat p =>
    cases p with
    | row p1 p2 =>
      obtain ⟨a, x, y, rfl, ht, u1, u2⟩ := hv
      refine ⟨_, rfl, a, _, _, rfl, ht, .inl ⟨rfl, rfl, x, y, rfl, ?_⟩⟩
      refine ⟨_, rfl, _, rfl, sz (by show 2 ≤ 10000; decide), fun t1 n1 => ⟨sz (by show 1 ≤ 10000; decide), fun r nr => ?_⟩⟩
      have s2 := (same_new (o := .tup [x, y]) n1).trans (same_new (o := .lst [.ref t1]) nr)
      exact q r _ _ s2 ((same_new n1).free nr) upd_same (.cons ⟨t1, _, rfl, TS.of (K := K) (same_new nr) _ _ (SqT.of upd_same), .cons (u1.mono (TS.of s2)) (.cons (u2.mono (TS.of s2)) .nil)⟩ .nil)
    | or p1 p2 =>
      obtain ⟨a, x, y, rfl, ht, u1, u2⟩ := hv
      refine ⟨_, rfl, a, _, _, rfl, ht, .inr ⟨.inl (by decide +kernel), a, _, _, rfl, ht, .inl ⟨rfl, rfl, x, y, rfl, ?_⟩⟩⟩
      refine ⟨_, rfl, sz (by show 1 ≤ 10000; decide), fun t1 n1 => ⟨_, rfl, sz (by show 1 ≤ 10000; decide), fun t2 n2 => ⟨sz (by show 2 ≤ 10000; decide), fun r nr => ?_⟩⟩⟩
      have s2 := (same_new (o := .tup [y]) n2).trans (same_new (o := .lst [.ref t1, .ref t2]) nr)
      have s3 := (same_new (o := .tup [x]) n1).trans s2
      exact q r _ _ s3 (((same_new n1).trans (same_new n2)).free nr) upd_same (.cons ⟨t1, _, rfl, TS.of (K := K) s2 _ _ (SqT.of upd_same), .cons (u1.mono (TS.of s3)) .nil⟩ (.cons ⟨t2, _, rfl, TS.of (K := K) (same_new nr) _ _ (SqT.of upd_same), .cons (u2.mono (TS.of s3)) .nil⟩ .nil))
    | more p1 =>
      have hv' : PAt K H (.more p1) v := hv
      obtain ⟨a, x, rfl, ht, u1⟩ := hv
      refine ⟨_, rfl, a, _, _, rfl, ht, .inr ⟨.inl (by decide +kernel), a, _, _, rfl, ht, .inr ⟨.inl (by decide +kernel), a, _, _, rfl, ht, .inl ⟨rfl, rfl, x, rfl, ?_⟩⟩⟩⟩
      refine ⟨_, rfl, _, rfl, sz (by show 2 ≤ 10000; decide), fun t1 n1 => ⟨Nat.zero_le _, fun t2 n2 => ⟨sz (by show 2 ≤ 10000; decide), fun r nr => ?_⟩⟩⟩
      have s2 := (same_new (o := .tup []) n2).trans (same_new (o := .lst [.ref t1, .ref t2]) nr)
      have s3 := (same_new (o := .tup [x, .ref a]) n1).trans s2
      exact q r _ _ s3 (((same_new n1).trans (same_new n2)).free nr) upd_same (.cons ⟨t1, _, rfl, TS.of (K := K) s2 _ _ (SqT.of upd_same), .cons (u1.mono (TS.of s3)) (.cons (hv'.mono (TS.of s3)) .nil)⟩ (.cons ⟨t2, _, rfl, TS.of (K := K) (same_new nr) _ _ (SqT.of upd_same), .nil⟩ .nil))
    | less p1 =>
      have hv' : PAt K H (.less p1) v := hv
      obtain ⟨a, x, rfl, ht, u1⟩ := hv
      refine ⟨_, rfl, a, _, _, rfl, ht, .inr ⟨.inl (by decide +kernel), a, _, _, rfl, ht, .inr ⟨.inl (by decide +kernel), a, _, _, rfl, ht, .inr ⟨.inl (by decide +kernel), a, _, _, rfl, ht, .inl ⟨rfl, rfl, x, rfl, ?_⟩⟩⟩⟩⟩
      refine ⟨Nat.zero_le _, fun t1 n1 => ⟨_, rfl, _, rfl, sz (by show 2 ≤ 10000; decide), fun t2 n2 => ⟨sz (by show 2 ≤ 10000; decide), fun r nr => ?_⟩⟩⟩
      have s2 := (same_new (o := .tup [x, .ref a]) n2).trans (same_new (o := .lst [.ref t1, .ref t2]) nr)
      have s3 := (same_new (o := .tup []) n1).trans s2
      exact q r _ _ s3 (((same_new n1).trans (same_new n2)).free nr) upd_same (.cons ⟨t1, _, rfl, TS.of (K := K) s2 _ _ (SqT.of upd_same), .nil⟩ (.cons ⟨t2, _, rfl, TS.of (K := K) (same_new nr) _ _ (SqT.of upd_same), .cons (u1.mono (TS.of s3)) (.cons (hv'.mono (TS.of s3)) .nil)⟩ .nil))
    | group n p1 =>
      obtain ⟨a, x, rfl, hn, ht, u1⟩ := hv
      refine ⟨_, rfl, a, _, _, rfl, ht, .inr ⟨.inl (by decide +kernel), a, _, _, rfl, ht, .inr ⟨.inl (by decide +kernel), a, _, _, rfl, ht, .inr ⟨.inl (by decide +kernel), a, _, _, rfl, ht, .inr ⟨.inl (by decide +kernel), a, _, _, rfl, ht, .inl ⟨rfl, rfl, .int n, x, rfl, ?_⟩⟩⟩⟩⟩⟩
      refine ⟨_, rfl, _, rfl, sz (by show 2 ≤ 10000; decide), fun t1 n1 => ⟨sz (by show 2 ≤ 10000; decide), fun t2 n2 => ⟨sz (by show 1 ≤ 10000; decide), fun r nr => ?_⟩⟩⟩
      have s2 := (same_new (o := .tup [x, .ref t1]) n2).trans (same_new (o := .lst [.ref t2]) nr)
      have s3 := (same_new (o := .tup [.str "close", .int n]) n1).trans s2
      exact q r _ _ s3 (((same_new n1).trans (same_new n2)).free nr) upd_same (.cons ⟨t2, _, rfl, TS.of (K := K) (same_new nr) _ _ (SqT.of upd_same), .cons (u1.mono (TS.of s3)) (.cons ⟨t1, rfl, TS.of (K := K) s2 _ _ (SqT.of upd_same)⟩ .nil)⟩ .nil)
    | sign c =>
      obtain ⟨a, ws, rfl, ht, _⟩ := PAt.node hv
      refine ⟨_, rfl, a, _, _, rfl, ht, .inr ⟨.inl (show ("sign" : Str) ≠ "row" by decide +kernel), a, _, _, rfl, ht, .inr ⟨.inl (show ("sign" : Str) ≠ "or" by decide +kernel), a, _, _, rfl, ht, .inr ⟨.inl (show ("sign" : Str) ≠ "more" by decide +kernel), a, _, _, rfl, ht, .inr ⟨.inl (show ("sign" : Str) ≠ "less" by decide +kernel), a, _, _, rfl, ht, .inr ⟨.inl (show ("sign" : Str) ≠ "group" by decide +kernel), ?_⟩⟩⟩⟩⟩⟩
      refine ⟨Nat.zero_le _, fun t1 n1 => ⟨sz (by show 1 ≤ 10000; decide), fun r nr => ?_⟩⟩
      exact q r _ _ ((same_new n1).trans (same_new nr)) ((same_new n1).free nr) upd_same (.cons ⟨t1, [], rfl, TS.of (K := K) (same_new nr) _ _ (SqT.of upd_same), .nil⟩ .nil)
    | _ =>
      obtain ⟨a, ws, rfl, ht, _⟩ := PAt.node hv
      refine ⟨_, rfl, a, _, _, rfl, ht, .inr ⟨.inl (by decide +kernel), a, _, _, rfl, ht, .inr ⟨.inl (by decide +kernel), a, _, _, rfl, ht, .inr ⟨.inl (by decide +kernel), a, _, _, rfl, ht, .inr ⟨.inl (by decide +kernel), a, _, _, rfl, ht, .inr ⟨.inl (by decide +kernel), ?_⟩⟩⟩⟩⟩⟩
      refine ⟨Nat.zero_le _, fun t1 n1 => ⟨sz (by show 1 ≤ 10000; decide), fun r nr => ?_⟩⟩
      exact q r _ _ ((same_new n1).trans (same_new nr)) ((same_new n1).free nr) upd_same (.cons ⟨t1, [], rfl, TS.of (K := K) (same_new nr) _ _ (SqT.of upd_same), .nil⟩ .nil)

end
end G1

set_option maxRecDepth 100000
set_option maxHeartbeats 4000000
namespace G1
open PySem PySem.Spec PyProof.Rows L2 Gm
section
variable {P : Program} {w : World} {K : PySem.W.Frag} {mg : Str → Option Value} {base : Heap}
def sp_onward (K : PySem.W.Frag) : Sp := fun vs H Q _ => ∃ (x : Sta) (v : V) (z : Str), vs = [v, .str z] ∧ SAt K H x v ∧ x.1.length ≤ 1000 ∧ x.2 ≤ z.length ∧ z.length ≤ 1000 ∧
  ∀ (r : Addr) (ws : List V) (H' : Hp), Same H H' → H r = none → H' r = some (.lst ws) → SAts K H' (step z.cps.toList x) ws → Q (.ref r) H'
theorem str_len (z : Str) : z.cps.toList.length = z.length := by simp [Str.length]
theorem step_unf {z : List Nat} {t : Th} {r : List Th} {k : Nat} (h1 : ∀ c, t ≠ .pat (.sign c)) (h2 : t ≠ .pat .any) : step z (t :: r, k) = (unf t).map fun a => (a ++ r, k) := by
  cases t with
  | close n => rfl
  | pat p =>
    cases p with
    | sign c => exact absurd rfl (h1 c)
    | any => exact absurd rfl h2
    | _ => rfl
theorem take_map {α β : Type} {L : List α} {f : α → β} {i : Nat} {x : α} (h : L[i]? = some x) : (L.take (i + 1)).map f = (L.take i).map f ++ [f x] := by
  obtain ⟨h1, h2⟩ := List.getElem?_eq_some_iff.mp h
  rw [← List.take_append_getElem h1, h2, List.map_append]
  rfl
theorem ok_onward (T : Txt w K mg) : FnOk P w K mg base CX0 2 T.f_onward T.fd_onward ["state", "text"] (sp_onward K) := by
  refine T.F_onward.ok sc_onward (fun vs H Q E h => ?_) (fun cdv A outer s H vs Q E hr h => ?_)
  · obtain ⟨x, v, z, rfl, _⟩ := h
    rfl
  obtain ⟨⟨rs, k⟩, v, z, rfl, ⟨a, y, rfl, hs, ⟨b, ts, rfl, hb, pts⟩⟩, hl, hk, hz, q⟩ := h
  refine ⟨_, (pss_cons (ps_asg (pv 0) (pg_tup rfl (pgs_cons (pg_name (i := 2) sc_onward.nd rfl (.inl rfl)) (pgs_cons (pg_name (i := 3) sc_onward.nd rfl (.inr rfl)) pgs_nil))))
  (pss_cons (ps_if (pt_not (pt_truth (pv 2) (by intro _; rfl)))
    (pss_one (ps_ret (pe_lst pa_nil)))
    pss_nil)
  (pss_cons (ps_asg (pe_tup (pa_cons (pe_ix ix_tup (pv 2) pe_int (fun _ _ => rfl)) (pa_cons (pe_slice sl_tupA (pv 2) (po_some pe_int) po_none) pa_nil))) (pg_tup rfl (pgs_cons (pg_name (i := 4) sc_onward.nd rfl (.inl rfl)) (pgs_cons (pg_name (i := 5) sc_onward.nd rfl (.inr rfl)) pgs_nil))))
  (pss_cons (ps_if (pt_cmpR op_in_seq (pe_ix ix_tup (pv 4) pe_int (fun _ _ => rfl)) (pe_tup (pa_cons pe_str (pa_cons pe_str pa_nil))) (by rfl))
    (pss_one (ps_ret (pe_ifExp (pt_val (pe_call (ok__takes T) (hr.mono (by decide)) (by rfl) T.m__takes T.F__takes.kp T.b__takes .nil pass0 (pa_cons (pv 4) (pa_cons (pe_slice sl_str (pv 1) (po_some (pv 3)) (po_some (pe_op op_add (pv 3) pe_int))) pa_nil)))) (pe_lst (pa_cons (pe_tup (pa_cons (pv 5) (pa_cons (pe_op op_add (pv 3) pe_int) pa_nil))) pa_nil)) (pe_lst pa_nil))))
    pss_nil)
  (pss_one (ps_ret (pe_lc (own := [("ahead", 6)]) (g := gName 6) (te := tTup (tCons (tOp (rCatA K) (tVar 6) (tVar 5)) (tCons (tVar 3) tNil))) rfl sc_onward.nd (pi_list (pe_call (ok__unfolded T) (hr.mono (by decide)) (by rfl) T.m__unfolded T.F__unfolded.kp T.b__unfolded .nil pass0 (pa_cons (pv 4) pa_nil))) (blkOk_by (own := [("ahead", 6)]) (N := N_onward) (sc := defScope s_onward) (by decide +kernel)) (fun _ _ _ _ _ => by exact (pg_name (i := 6) sc_onward.nd rfl (.inl rfl))) (fun _ _ _ _ _ => by exact pts_nil) (fun _ _ _ _ _ => by exact (pe_tup (pa_cons (pe_op op_catA (pv 6) (pv 5)) (pa_cons (pv 3) pa_nil))))))))))), ?_⟩
  refine ⟨_, rfl, a, _, rfl, hs, rfl, _, _, rfl, _, _, rfl, rfl, ?_⟩
  cases pts with
  | nil =>
    refine ⟨_, rfl, false, .inr (.inl ⟨_, hb, rfl⟩), iteT ?_⟩
    exact ⟨Nat.zero_le _, fun r nr => q r _ _ (same_new nr) nr upd_same .nil⟩
  | @cons t tv R vR ht pR =>
    refine ⟨_, rfl, true, .inr (.inl ⟨_, hb, rfl⟩), iteF ?_⟩
    refine ⟨_, rfl, _, _, _, _, rfl, rfl, hb, at0 rfl, _, rfl, _, rfl, b, _, rfl, hb, fun h => absurd h (not_whole _ _), fun _ bb nbb => ?_⟩
    rw [cut_tail]
    refine ⟨sz (by show 2 ≤ 10000; decide), fun tp ntp => ⟨tp, _, rfl, SqT.of upd_same, rfl, _, _, rfl, _, _, rfl, rfl, ?_⟩⟩
    have s2 := (same_new (o := .tup vR) nbb).trans (same_new (o := .tup [tv, .ref bb]) ntp)
    have hbb : SqT K (upd (upd H bb (.tup vR)) tp (.tup [tv, .ref bb])) bb vR := TS.of (K := K) (same_new ntp) _ _ (SqT.of upd_same)
    obtain ⟨c, ws, rfl, hc⟩ := TAt.node ht
    have hc2 := TS.of (K := K) s2 _ _ hc
    have ht2 := ht.mono (TS.of (K := K) s2)
    have pR2 := TAts.mono (TS.of (K := K) s2) pR
    refine ⟨_, rfl, _, _, _, _, rfl, rfl, hc2, at0 rfl, sz (by show 2 ≤ 10000; decide), fun t1 n1 => ⟨_, _, rfl, .inr (SqT.of upd_same), rfl, rfl, _, rfl, ?_⟩⟩
    have s3 := s2.trans (same_new (o := .tup [.str "sign", .str "any"]) n1)
    have s23 := same_new (o := .tup [.str "sign", .str "any"]) n1
    have lR : R.length = vR.length := Paired.length pR
    rw [List.length_cons] at hl
    have gone : (∃ p, t = .pat p ∧ (p = .any ∨ ∃ c, p = .sign c)) ∨ ((∀ c, t ≠ .pat (.sign c)) ∧ t ≠ .pat .any ∧ ¬ (tnm t = "sign" ∨ tnm t = "any")) := by
      cases t with
      | close n => exact .inr ⟨fun c e => (nomatch e), fun e => (nomatch e), show ¬ (("close" : Str) = "sign" ∨ ("close" : Str) = "any") by decide +kernel⟩
      | pat p =>
        cases p with
        | sign c => exact .inl ⟨_, rfl, .inr ⟨c, rfl⟩⟩
        | any => exact .inl ⟨_, rfl, .inl rfl⟩
        | none => exact .inr ⟨fun c e => (nomatch e), fun e => (nomatch e), show ¬ (("none" : Str) = "sign" ∨ ("none" : Str) = "any") by decide +kernel⟩
        | row p q => exact .inr ⟨fun c e => (nomatch e), fun e => (nomatch e), show ¬ (("row" : Str) = "sign" ∨ ("row" : Str) = "any") by decide +kernel⟩
        | or p q => exact .inr ⟨fun c e => (nomatch e), fun e => (nomatch e), show ¬ (("or" : Str) = "sign" ∨ ("or" : Str) = "any") by decide +kernel⟩
        | more p => exact .inr ⟨fun c e => (nomatch e), fun e => (nomatch e), show ¬ (("more" : Str) = "sign" ∨ ("more" : Str) = "any") by decide +kernel⟩
        | less p => exact .inr ⟨fun c e => (nomatch e), fun e => (nomatch e), show ¬ (("less" : Str) = "sign" ∨ ("less" : Str) = "any") by decide +kernel⟩
        | group n p => exact .inr ⟨fun c e => (nomatch e), fun e => (nomatch e), show ¬ (("group" : Str) = "sign" ∨ ("group" : Str) = "any") by decide +kernel⟩
    rw [inV2]
    rcases gone with ⟨p, rfl, hp⟩ | ⟨g1, g2, g3⟩
    · have ey : tnm (.pat p) = "sign" ∨ tnm (.pat p) = "any" := by
        rcases hp with rfl | ⟨c, rfl⟩
        · exact .inr rfl
        · exact .inl rfl
      refine ite2 (fun _ => ?_) (fun e => absurd (decide_eq_true ey) e)
      refine ⟨_, rfl, _, rfl, _, rfl, _, rfl, _, rfl, _, _, rfl, rfl, _, rfl, z, rfl, sz (by omega), ?_⟩
      rw [cut_one]
      refine ⟨p, _, _, rfl, (ht.mono (TS.of s3)), hp, _, rfl, ?_⟩
      have sp : (takes p ⟨((z.cps.toList[k]?).toList).toArray⟩ = true ∧ step z.cps.toList (.pat p :: R, k) = [(R, k + 1)]) ∨ (takes p ⟨((z.cps.toList[k]?).toList).toArray⟩ = false ∧ step z.cps.toList (.pat p :: R, k) = []) := by
        rcases hp with rfl | ⟨c0, rfl⟩
        · show ((!decide (V.str _ = V.str "")) = true ∧ (if k < z.cps.toList.length then [(R, k + 1)] else []) = [(R, k + 1)]) ∨ ((!decide (V.str _ = V.str "")) = false ∧ (if k < z.cps.toList.length then [(R, k + 1)] else [] : List Sta) = [])
          by_cases h : k < z.cps.toList.length
          · left
            rw [if_pos h, List.getElem?_eq_getElem h]
            refine ⟨?_, rfl⟩
            rw [decide_eq_false]
            · rfl
            · intro e
              have e' := congrArg (fun s : Str => s.cps.size) (V.str.inj e)
              exact absurd e' (by show ¬ (1 = 0); decide)
          · right
            rw [if_neg h, List.getElem?_eq_none (by omega)]
            exact ⟨rfl, rfl⟩
        · show (decide (V.str _ = V.str ⟨#[c0]⟩) = true ∧ (if z.cps.toList[k]? = some c0 then [(R, k + 1)] else []) = [(R, k + 1)]) ∨ (decide (V.str _ = V.str ⟨#[c0]⟩) = false ∧ (if z.cps.toList[k]? = some c0 then [(R, k + 1)] else [] : List Sta) = [])
          by_cases h : z.cps.toList[k]? = some c0
          · left
            rw [if_pos h, h]
            exact ⟨decide_eq_true rfl, rfl⟩
          · right
            rw [if_neg h]
            refine ⟨decide_eq_false fun e => h ?_, rfl⟩
            have e' := congrArg (fun s : Str => s.cps.toList) (V.str.inj e)
            cases ez : z.cps.toList[k]? with
            | none =>
              rw [ez] at e'
              exact absurd e' (by simp)
            | some d =>
              rw [ez] at e'
              simp at e'
              rw [e']
      rcases sp with ⟨e1, e2⟩ | ⟨e1, e2⟩
      · rw [e1]
        refine iteT ?_
        refine ⟨_, rfl, _, rfl, _, _, rfl, rfl, sz (by show 2 ≤ 10000; decide), fun t2 n2 => ⟨sz (by show 1 ≤ 10000; decide), fun r nr => ?_⟩⟩
        have s5 := s23.trans ((same_new (o := .tup [.ref bb, .int ((k : Int) + 1)]) n2).trans (same_new (o := .lst [.ref t2]) nr))
        refine q r _ _ (s2.trans s5) (s3.free ((same_new n2).free nr)) upd_same ?_
        rw [e2]
        refine .cons ⟨t2, .ref bb, rfl, ?_, bb, vR, rfl, TS.of (K := K) s5 _ _ hbb, TAts.mono (TS.of (K := K) s5) pR2⟩ .nil
        exact TS.of (K := K) (same_new nr) _ _ (SqT.of upd_same)
      · rw [e1]
        refine iteF ?_
        refine ⟨Nat.zero_le _, fun r nr => ?_⟩
        refine q r _ _ (s3.trans (same_new nr)) (s3.free nr) upd_same ?_
        rw [e2]
        exact .nil
    · refine ite2 (fun e => absurd (of_decide_eq_true e) g3) (fun _ => ?_)
      refine ⟨_, rfl, t, _, rfl, ht.mono (TS.of s3), fun lu us H4 s4 nu hu pu => ⟨lu, rfl, ⟨_, SqL.of hu⟩, fun D nD => ?_⟩⟩
      have s34 := s23.trans s4
      refine lc_list (K := K) (a := lu) (xs := us) (fun i H' => Same H4 H' ∧ ∃ acc, H' D = some (.lst acc) ∧ SAts K H' (((unf t).take i).map fun a => ((a ++ R, k) : Sta)) acc ∧ acc.length ≤ i) ⟨same_new nD, [], upd_same, .nil, Nat.le_refl _⟩ (fun j H' _ hI => SqL.of (hI.1 _ _ hu)) ?_ ?_
      · rintro i v' H5 hi ⟨s5, acc, hD, pa, la⟩
        obtain ⟨l, hl', ⟨bl, vl, rfl, hbl, pl⟩⟩ := Paired.at pu hi
        have lu2 : (unf t).length = us.length := Paired.length pu
        have li : i < us.length := (List.getElem?_eq_some_iff.mp hi).1
        have hul : (unf t).length ≤ 2 := by
          cases t with
          | close n => exact Nat.le_succ _
          | pat p => cases p <;> simp [unf]
        have ll : l.length ≤ 2 := (unf_gd (Nat.le_refl _) l (List.mem_of_getElem? hl')).2
        have lvl : l.length = vl.length := Paired.length pl
        refine ⟨rfl, yes_if ?_⟩
        refine ⟨_, rfl, _, rfl, ?_⟩
        have sA := s34.trans s5
        refine r_catA (TS.of (K := K) s5 _ _ hbl) (TS.of (K := K) sA _ _ hbb) (sz (by omega)) (fun cc H6 s6 hcc => ?_)
        refine ⟨_, rfl, sz (by show 2 ≤ 10000; decide), fun t2 n2 => ?_⟩
        have s56 := s6.trans (same_new (o := .tup [.ref cc, .int (k : Int)]) n2)
        refine ⟨acc, s56 _ _ hD, szl (by omega), ?_⟩
        have hD7 := s56 _ _ hD
        have nDt2 : H4 D = none := nD
        refine ⟨Same.mut (s5.trans s56) nD, acc ++ [.ref t2], upd_same, ?_, by rw [List.length_append, List.length_singleton]; omega⟩
        rw [take_map hl']
        have t67 : TS K H6 _ := (TS.new (K := K) (o := .tup [.ref cc, .int (k : Int)]) n2).trans (TS.lst (K := K) (ys := acc ++ [.ref t2]) hD7)
        refine Paired.snoc (SAts.mono ((TS.of s56).trans (TS.lst hD7)) pa) ⟨t2, .ref cc, rfl, TS.lst hD7 _ _ (SqT.of upd_same), cc, _, rfl, t67 _ _ hcc, ?_⟩
        exact Paired.app (TAts.mono ((TS.of (s5.trans s6)).trans t67) pl) (TAts.mono ((TS.of (sA.trans s6)).trans t67) pR2)
      · rintro H5 ⟨s5, acc, hD, pa, la⟩
        have lu2 : (unf t).length = us.length := Paired.length pu
        rw [← lu2, List.take_length] at pa
        refine q D acc H5 (s2.trans (s34.trans s5)) ((s2.trans s34).free nD) hD ?_
        rw [step_unf g1 g2]
        exact pa

end
end G1

set_option maxRecDepth 100000
set_option maxHeartbeats 4000000
namespace G1
open PySem PySem.Spec PyProof.Rows L2 Gm
section
variable {P : Program} {w : World} {K : PySem.W.Frag} {mg : Str → Option Value} {base : Heap}
/-! ### rests -/
def wantS : List Th → Str
  | .pat (.sign c) :: _ => ⟨#[c]⟩
  | _ => "a"
theorem want_len (r : List Th) : (wantS r).length = 1 := by
  unfold wantS
  split <;> rfl
theorem step_want : ∀ r : List Th, ∃ k, step (wantS r).cps.toList (r, 0) = (adv r).map fun x => (x, k)
  | [] => ⟨0, rfl⟩
  | .pat (.sign c) :: r => ⟨1, by
    show (if (#[c] : Array Nat).toList[0]? = some c then [(r, 0 + 1)] else [] : List Sta) = [(r, 1)]
    exact if_pos rfl⟩
  | .pat .any :: r => ⟨1, by
    show (if 0 < ("a" : Str).cps.toList.length then [(r, 0 + 1)] else [] : List Sta) = [(r, 1)]
    exact if_pos (by decide +kernel)⟩
  | .pat .none :: r => ⟨0, rfl⟩
  | .pat (.row _ _) :: r => ⟨0, rfl⟩
  | .pat (.or _ _) :: r => ⟨0, rfl⟩
  | .pat (.more _) :: r => ⟨0, rfl⟩
  | .pat (.less _) :: r => ⟨0, rfl⟩
  | .pat (.group _ _) :: r => ⟨0, rfl⟩
  | .close _ :: r => ⟨0, rfl⟩
def sp_wanted (K : PySem.W.Frag) : Sp := fun vs H Q _ => ∃ (r : List Th) (v : V), vs = [v] ∧ RAt K H r v ∧ Q (.str (wantS r)) H
theorem ok__wanted_sign (T : Txt w K mg) : FnOk P w K mg base CX0 1 T.f__wanted_sign T.fd__wanted_sign ["rest"] (sp_wanted K) := by
  refine T.F__wanted_sign.ok sc__wanted_sign (fun vs H Q E h => ?_) (fun cdv A outer s H vs Q E hr h => ?_)
  · obtain ⟨r, v, rfl, _⟩ := h
    rfl
  obtain ⟨r, v, rfl, ⟨b, ts, rfl, hb, pts⟩, q⟩ := h
  refine ⟨_, (pss_cons (ps_if (PW.pt (pw_and (pt_truth (pv 0) (by intro _; rfl)) (pw_and1 (pt_cmpR op_eq (pe_ix ix_tup (pe_ix ix_tup (pv 0) pe_int (fun _ _ => rfl)) pe_int (fun _ _ => rfl)) pe_str (nomark _)))))
    (pss_one (ps_ret (pe_ix ix_tup (pe_ix ix_tup (pv 0) pe_int (fun _ _ => rfl)) pe_int (fun _ _ => rfl))))
    pss_nil)
  (pss_one (ps_ret pe_str))), ?_⟩
  cases pts with
  | nil =>
    refine ⟨_, rfl, false, .inr (.inl ⟨_, hb, rfl⟩), iteF ?_⟩
    exact q
  | @cons t tv R vR ht pR =>
    refine ⟨_, rfl, true, .inr (.inl ⟨_, hb, rfl⟩), iteT ?_⟩
    obtain ⟨c, ws, rfl, hc⟩ := TAt.node ht
    refine ⟨_, rfl, _, _, _, _, rfl, rfl, hb, at0 rfl, _, _, _, _, rfl, rfl, hc, at0 rfl, rfl, _, rfl, ?_⟩
    have nm : (∃ c0, t = .pat (.sign c0)) ∨ (tnm t ≠ "sign" ∧ wantS (t :: R) = "a") := by
      cases t with
      | close n => exact .inr ⟨show ("close" : Str) ≠ "sign" by decide +kernel, rfl⟩
      | pat p =>
        cases p with
        | sign c => exact .inl ⟨c, rfl⟩
        | any => exact .inr ⟨show ("any" : Str) ≠ "sign" by decide +kernel, rfl⟩
        | none => exact .inr ⟨show ("none" : Str) ≠ "sign" by decide +kernel, rfl⟩
        | row p q => exact .inr ⟨show ("row" : Str) ≠ "sign" by decide +kernel, rfl⟩
        | or p q => exact .inr ⟨show ("or" : Str) ≠ "sign" by decide +kernel, rfl⟩
        | more p => exact .inr ⟨show ("more" : Str) ≠ "sign" by decide +kernel, rfl⟩
        | less p => exact .inr ⟨show ("less" : Str) ≠ "sign" by decide +kernel, rfl⟩
        | group n p => exact .inr ⟨show ("group" : Str) ≠ "sign" by decide +kernel, rfl⟩
    rcases nm with ⟨c0, rfl⟩ | ⟨ne, e⟩
    · refine iteT ?_
      obtain ⟨a', e', _, hs⟩ := (show PAt K H (.sign c0) (.ref c) from ht)
      cases e'
      exact ⟨_, rfl, _, _, _, _, rfl, rfl, hb, at0 rfl, _, _, _, _, rfl, rfl, hs, at1 rfl, q⟩
    · refine ite2 (fun y => absurd (V.str.inj (of_decide_eq_true y)) ne) (fun _ => ?_)
      rw [e] at q
      exact q
def sp_led_on (K : PySem.W.Frag) : Sp := fun vs H Q _ => ∃ (r : List Th) (v : V), vs = [v] ∧ RAt K H r v ∧ r.length ≤ 900 ∧
  ∀ (l : Addr) (ws : List V) (H' : Hp), Same H H' → H l = none → H' l = some (.lst ws) → RAts K H' (adv r) ws → Q (.ref l) H'
theorem ok__led_on_to (T : Txt w K mg) : FnOk P w K mg base CX0 3 T.f__led_on_to T.fd__led_on_to ["rest"] (sp_led_on K) := by
  refine T.F__led_on_to.ok sc__led_on_to (fun vs H Q E h => ?_) (fun cdv A outer s H vs Q E hr h => ?_)
  · obtain ⟨r, v, rfl, _⟩ := h
    rfl
  obtain ⟨r, v, rfl, hv, hl, q⟩ := h
  refine ⟨_, (pss_one (ps_ret (pe_lc (own := [("behind", 1), ("_", 2)]) (g := gTup K 2 (gCons (gName 1) (gCons (gName 2) gNil))) rfl sc__led_on_to.nd (pi_list (pe_call (ok_onward T) (hr.mono (by decide)) (by rfl) T.m_onward T.F_onward.kp T.b_onward .nil pass0 (pa_cons (pe_tup (pa_cons (pv 0) (pa_cons pe_int pa_nil))) (pa_cons (pe_call (ok__wanted_sign T) (hr.mono (by decide)) (by rfl) T.m__wanted_sign T.F__wanted_sign.kp T.b__wanted_sign .nil pass0 (pa_cons (pv 0) pa_nil)) pa_nil)))) (blkOk_by (own := [("behind", 1), ("_", 2)]) (N := N__led_on_to) (sc := defScope s__led_on_to) (by decide +kernel)) (fun _ _ _ _ _ => by exact (pg_tup rfl (pgs_cons (pg_name (i := 1) sc__led_on_to.nd rfl (.inl rfl)) (pgs_cons (pg_name (i := 2) sc__led_on_to.nd rfl (.inl rfl)) pgs_nil)))) (fun _ _ _ _ _ => by exact pts_nil) (fun _ _ _ _ _ => by exact (pv 1))))), ?_⟩
  refine ⟨_, rfl, sz (by show 2 ≤ 10000; decide), fun t1 n1 => ?_⟩
  have s1 := same_new (o := .tup [v, .int 0]) n1
  refine ⟨_, rfl, r, v, rfl, hv.mono (TS.of s1), ?_⟩
  obtain ⟨k, ek⟩ := step_want r
  refine ⟨(r, 0), .ref t1, wantS r, rfl, ⟨t1, v, rfl, SqT.of upd_same, hv.mono (TS.of s1)⟩, (show r.length ≤ 1000 by omega), Nat.zero_le _, by rw [want_len]; decide, fun l ws H2 s2 _ hl2 pw => ?_⟩
  rw [ek] at pw
  have s12 := s1.trans s2
  refine ⟨l, rfl, ⟨_, SqL.of hl2⟩, fun D nD => ?_⟩
  have lw : (adv r).length = ws.length := by have := Paired.length pw; rw [List.length_map] at this; exact this
  refine lc_list (K := K) (a := l) (xs := ws) (fun i H' => Same H2 H' ∧ ∃ us, H' D = some (.lst us) ∧ us.length = i ∧ RAts K H' ((adv r).take i) us) ⟨same_new nD, [], upd_same, rfl, by rw [List.take_zero]; exact .nil⟩ (fun i H' _ hI => SqL.of (hI.1 _ _ hl2)) ?_ ?_
  · rintro i x H3 hi ⟨s3, us, hD, hu, pu⟩
    obtain ⟨y, hy, u⟩ := Paired.at pw hi
    rw [List.getElem?_map] at hy
    have hi' := (List.getElem?_eq_some_iff.mp hi).1
    have hlt : i < (adv r).length := by omega
    rw [List.getElem?_eq_getElem hlt] at hy
    cases Option.some.inj hy
    obtain ⟨a, rv, rfl, ha, hrv⟩ := u
    have ha3 := TS.of (K := K) s3 _ _ ha
    have la : (adv r).length ≤ 1000 := by
      have h2 := step_two (wantS r).cps.toList (r, 0)
      rw [ek, List.length_map] at h2
      omega
    refine ⟨a, _, rfl, ha3, rfl, _, _, rfl, _, _, rfl, rfl, rfl, yes_if ?_⟩
    refine ⟨_, rfl, us, hD, szl (by omega), Same.mut s3 nD, us ++ [rv], upd_same, by rw [List.length_append, hu]; rfl, ?_⟩
    rw [← List.take_append_getElem hlt]
    have tl := TS.lst (K := K) (ys := us ++ [rv]) hD
    exact Paired.snoc (pu.mono tl) (hrv.mono ((TS.of s3).trans tl))
  · rintro H3 ⟨s3, us, hD, hu, pu⟩
    rw [← lw, List.take_length] at pu
    exact q D us H3 (s12.trans s3) (s12.free nD) hD pu
def sp_number (K : PySem.W.Frag) : Sp := fun vs H Q _ => ∃ (r : List Th) (v : V) (l : Addr) (rs : List (List Th)) (ws : List V), vs = [v, .ref l] ∧ RAt K H r v ∧ H l = some (.lst ws) ∧ RAts K H rs ws ∧ rs.Nodup ∧ gd 50 r ∧ (∀ x ∈ rs, gd 50 x) ∧ rs.length ≤ 9000 ∧
  ∀ (n : Nat) (rs' : List (List Th)) (ws' : List V) (H' : Hp), But l H H' → (∀ b, b ≠ l → H b = none → H' b = none) → H' l = some (.lst ws') → RAts K H' rs' ws' → rs'.Nodup → (rs' = rs ∨ rs' = rs ++ [r]) → rs'[n]? = some r → Q (.int (n : Int)) H'
theorem idx_of {r : List Th} {rs : List (List Th)} (hm : r ∈ rs) : ∃ j : Nat, rs[j]? = some r ∧ ∀ m r', m < j → rs[m]? = some r' → r' ≠ r := by
  induction rs with
  | nil => cases hm
  | cons x rs ih =>
    by_cases e : x = r
    · exact ⟨0, by rw [e]; rfl, fun m r' h => absurd h (Nat.not_lt_zero _)⟩
    · rcases List.mem_cons.mp hm with z | z
      · exact absurd z.symm e
      · obtain ⟨j, h1, h2⟩ := ih z
        refine ⟨j + 1, h1, fun m r' h hm' => ?_⟩
        cases m with
        | zero =>
          cases Option.some.inj hm'
          exact e
        | succ m => exact h2 m r' (by omega) hm'
theorem ok__number (T : Txt w K mg) : FnOk P w K mg base CX0 1 T.f__number T.fd__number ["rest", "rests"] (sp_number K) := by
  refine T.F__number.ok sc__number (fun vs H Q E h => ?_) (fun cdv A outer s H vs Q E hr h => ?_)
  · obtain ⟨r, v, l, rs, ws, rfl, _⟩ := h
    rfl
  obtain ⟨r, v, l, rs, ws, rfl, hv, hl, pw, nd, gr, grs, hz, q⟩ := h
  refine ⟨_, (pss_cons (ps_if (pt_cmpR (op_notInD (u65 hr)) (pv 0) (pv 1) (by rfl))
    (pss_one (ps_expr (pe_bm PySem.F.plainAttrs_list PySem.F.slot_list_append PySem.F.type_list_append mt_append (pv 1) (pa_cons (pv 0) pa_nil))))
    pss_nil)
  (pss_one (ps_ret (pe_bm PySem.F.plainAttrs_list PySem.F.slot_list_index PySem.F.type_list_index (mt_indexD (u65 hr)) (pv 1) (pa_cons (pv 0) pa_nil))))), ?_⟩
  refine ⟨_, rfl, _, rfl, rpd r, rs.map rpd, hv.dp, .lst (SqL.of hl) pw.dp, hv.shaped gr, pw.shaped grs, _, rfl, ?_⟩
  have lw : rs.length = ws.length := Paired.length pw
  refine ite2 (fun c => ?_) (fun c => e_nx ?_)
  · have nm : r ∉ rs := fun hm => by
      rw [(any_iff hv).mpr hm] at c
      cases c
    refine ⟨_, rfl, .inl ⟨rfl, _, SqL.of hl⟩, _, rfl, l, ws, v, rfl, rfl, hl, szl (by omega), ?_⟩
    have tl := TS.lst (K := K) (ys := ws ++ [v]) hl
    have hl' : upd H l (.lst (ws ++ [v])) l = some (.lst (ws ++ [v])) := upd_same
    have pw' := Paired.snoc (pw.mono tl) (hv.mono tl)
    have g' : ∀ x ∈ rs ++ [r], gd 50 x := fun x hx => by
      rcases List.mem_append.mp hx with z | z
      · exact grs x z
      · rw [List.mem_singleton.mp z]
        exact gr
    obtain ⟨j, hj, hno⟩ := idx_of (r := r) (rs := rs ++ [r]) (by simp)
    have nd' : (rs ++ [r]).Nodup := by
      rw [List.nodup_append]
      refine ⟨nd, by simp, fun a ha b hb e => ?_⟩
      rw [List.mem_singleton.mp hb] at e
      exact nm (e ▸ ha)
    refine ⟨_, rfl, .inl ⟨rfl, _, SqL.of hl'⟩, _, rfl, l, v, rpd r, (rs ++ [r]).map rpd, j, rpd r, rfl, rfl, .lst (SqL.of hl') (RAts.dp pw'), (hv.mono tl).dp, RAts.shaped pw' g', hv.shaped gr, by rw [List.getElem?_map, hj]; rfl, rpd_refl hv, fun m z' hm hz' => ?_, ?_⟩
    · rw [List.getElem?_map] at hz'
      cases e : (rs ++ [r])[m]? with
      | none => rw [e] at hz'; cases hz'
      | some r' =>
        rw [e] at hz'
        cases Option.some.inj hz'
        exact Bool.eq_false_iff.mpr fun h => hno m r' hm e (rpd_inj h)
    · exact q j (rs ++ [r]) (ws ++ [v]) _ But.upd' (fun b hb hn => by rw [upd_ne hb]; exact hn) hl' pw' nd' (.inr rfl) hj
  · have hm : r ∈ rs := by
      have e : ((rs.map rpd).any fun z => PyData.eqv z (rpd r)) = true := by
        cases h : ((rs.map rpd).any fun z => PyData.eqv z (rpd r))
        · rw [h] at c
          exact absurd rfl c
        · rfl
      exact (any_iff hv).mp e
    obtain ⟨j, hj, hno⟩ := idx_of hm
    refine ⟨_, rfl, .inl ⟨rfl, _, SqL.of hl⟩, _, rfl, l, v, rpd r, rs.map rpd, j, rpd r, rfl, rfl, .lst (SqL.of hl) pw.dp, hv.dp, pw.shaped grs, hv.shaped gr, by rw [List.getElem?_map, hj]; rfl, rpd_refl hv, fun m z' hm hz' => ?_, ?_⟩
    · rw [List.getElem?_map] at hz'
      cases e : rs[m]? with
      | none => rw [e] at hz'; cases hz'
      | some r' =>
        rw [e] at hz'
        cases Option.some.inj hz'
        exact Bool.eq_false_iff.mpr fun h => hno m r' hm e (rpd_inj h)
    · exact q j rs ws H But.refl (fun b _ hn => hn) hl pw nd (.inl rfl) hj

end
end G1

set_option maxRecDepth 100000
set_option maxHeartbeats 4000000
namespace G1
open PySem PySem.Spec PyProof.Rows L2 Gm
section
variable {P : Program} {w : World} {K : PySem.W.Frag} {mg : Str → Option Value} {base : Heap}
theorem nodup_len {α : Type} : ∀ (l m : List α), l.Nodup → (∀ x ∈ l, x ∈ m) → l.length ≤ m.length
  | [], _, _, _ => Nat.zero_le _
  | a :: l, m, hn, hs => by
    classical
    have h1 := List.nodup_cons.mp hn
    have ha : a ∈ m := hs a List.mem_cons_self
    have h2 := nodup_len l (m.erase a) h1.2 fun x hx => (List.mem_erase_of_ne (fun e => h1.1 (by rw [← e]; exact hx))).mpr (hs x (List.mem_cons_of_mem _ hx))
    rw [List.length_erase_of_mem ha] at h2
    have h3 : 0 < m.length := List.length_pos_of_mem ha
    rw [List.length_cons]
    omega
theorem pre_at {α : Type} {rs rs' : List α} {n : Nat} {r : α} (h : rs <+: rs') (e : rs[n]? = some r) : rs'[n]? = some r := by
  obtain ⟨t, rfl⟩ := h
  rw [List.getElem?_append_left (List.getElem?_eq_some_iff.mp e).1]
  exact e
/-- the numbers of what a rest leads on to -/
def LinkOk (rs : List (List Th)) (ns : List Nat) (xs : List (List Th)) : Prop := Paired (fun (n : Nat) (r : List Th) => rs[n]? = some r) ns xs
theorem LinkOk.pre {rs rs' : List (List Th)} {ns : List Nat} {xs : List (List Th)} (h : rs <+: rs') (l : LinkOk rs ns xs) : LinkOk rs' ns xs := Paired.mapP l fun _ _ e => pre_at h e
def nat2 (ns : List Nat) : List V := ns.map fun (n : Nat) => V.int (n : Int)
structure Links (p : Pat) (rs : List (List Th)) (A : List (List Nat)) : Prop where
  nd : rs.Nodup
  hd : rs[0]? = some [.pat p]
  all : ∀ x ∈ rs, x ∈ allr p
  le : A.length ≤ rs.length
  link : ∀ (i : Nat) (r : List Th) (ns : List Nat), rs[i]? = some r → A[i]? = some ns → LinkOk rs ns (adv r)
theorem Links.rlen {p : Pat} {rs : List (List Th)} {A : List (List Nat)} (h : Links p rs A) : rs.length ≤ 2 * siz p + 1 := Nat.le_trans (nodup_len rs (allr p) h.nd h.all) (allr_len p)
theorem Links.snoc {p : Pat} {rs rs' : List (List Th)} {A : List (List Nat)} {r : List Th} {ns : List Nat} (h : Links p rs A) (hr : rs[A.length]? = some r) (hp : rs <+: rs') (nd : rs'.Nodup) (all : ∀ x ∈ rs', x ∈ allr p) (hl : LinkOk rs' ns (adv r)) : Links p rs' (A ++ [ns]) := by
  have h1 := (List.getElem?_eq_some_iff.mp hr).1
  have h2 := hp.length_le
  refine ⟨nd, pre_at hp h.hd, all, by rw [List.length_append, List.length_singleton]; omega, fun i r' ns' e1 e2 => ?_⟩
  by_cases c : i < A.length
  · rw [List.getElem?_append_left c] at e2
    have c2 : i < rs.length := by omega
    have e3 := List.getElem?_eq_getElem c2
    have e4 := pre_at hp e3
    rw [e1] at e4
    cases Option.some.inj e4
    exact (h.link i _ ns' e3 e2).pre hp
  · have c3 := (List.getElem?_eq_some_iff.mp e2).1
    rw [List.length_append, List.length_singleton] at c3
    obtain rfl : i = A.length := by omega
    rw [List.getElem?_append_right (Nat.le_refl _), Nat.sub_self] at e2
    cases Option.some.inj e2
    have e4 := pre_at hp hr
    rw [e1] at e4
    cases Option.some.inj e4
    exact hl
/-- ahead in memory -/
def AAt (H : Hp) (A : List (List Nat)) (L : List Addr) : Prop := Paired (fun (ns : List Nat) (l : Addr) => H l = some (.lst (nat2 ns))) A L
def sp_ahead (K : PySem.W.Frag) : Sp := fun vs H Q _ => ∃ (p : Pat) (v : V), vs = [v] ∧ PAt K H p v ∧ siz p ≤ 1000 ∧ dep p ≤ 50 ∧ nr p = true ∧
  ∀ (a : Addr) (rs : List (List Th)) (A : List (List Nat)) (L : List Addr) (H' : Hp), Same H H' → H' a = some (.lst (L.map V.ref)) → AAt H' A L → Links p rs A → A.length = rs.length → Q (.ref a) H'
def nInv (K : PySem.W.Frag) (H : Hp) (p : Pat) (v v1 v2 : V) (lr la : Addr) (m : Nat) (σ : L2.St) (H' : Hp) : Prop :=
  ∃ (rs : List (List Th)) (ws : List V) (A : List (List Nat)) (L : List Addr) (x5 : Option V), σ = [some v, some v1, some v2, some (.ref lr), some (.ref la), x5, none] ∧ Same H H' ∧ H' lr = some (.lst ws) ∧ H' la = some (.lst (L.map V.ref)) ∧ RAts K H' rs ws ∧
    AAt H' A L ∧ (∀ l ∈ L, l ≠ lr ∧ l ≠ la) ∧ Links p rs A ∧ m = 2 * siz p + 1 - A.length
theorem aat_but {H H' : Hp} {l : Addr} {A : List (List Nat)} {L : List Addr} (h : AAt H A L) (n : ∀ x ∈ L, x ≠ l) (b : But l H H') : AAt H' A L := by
  unfold AAt at h ⊢
  induction h with
  | nil => exact .nil
  | @cons a x A' L' e t ih => exact .cons (b _ _ (n x List.mem_cons_self) e) (ih fun y hy => n y (List.mem_cons_of_mem _ hy))
theorem ok_numbers_ahead (T : Txt w K mg) : FnOk P w K mg base CX0 4 T.f_numbers_ahead T.fd_numbers_ahead ["pattern"] (sp_ahead K) := by
  refine T.F_numbers_ahead.ok sc_numbers_ahead (fun vs H Q E h => ?_) (fun cdv A outer s H vs Q E hr h => ?_)
  · obtain ⟨p, v, rfl, _⟩ := h
    rfl
  obtain ⟨p, v, rfl, hp, hz, hd, hn, q⟩ := h
  have aok := allr_ok hn
  refine ⟨_, (pss_cons (ps_asg (pe_call (ok_first_state T) (hr.mono (by decide)) (by rfl) T.m_first_state T.F_first_state.kp T.b_first_state .nil pass0 (pa_cons (pv 0) pa_nil)) (pg_tup rfl (pgs_cons (pg_name (i := 1) sc_numbers_ahead.nd rfl (.inl rfl)) (pgs_cons (pg_name (i := 2) sc_numbers_ahead.nd rfl (.inl rfl)) pgs_nil))))
  (pss_cons (ps_set (i := 3) sc_numbers_ahead.nd rfl (.inr rfl) (pe_lst (pa_cons (pv 1) pa_nil)))
  (pss_cons (ps_set (i := 4) sc_numbers_ahead.nd rfl (.inl rfl) (pe_lst pa_nil))
  (pss_cons (ps_while PassesOwn.never (pt_cmpR op_lt (pe_callB call_len_seq (by rfl) T.n_len PySem.boot_len (pa_cons (pv 4) pa_nil)) (pe_callB call_len_seq (by rfl) T.n_len PySem.boot_len (pa_cons (pv 3) pa_nil)) (nomark _))
   (pss_cons (ps_set (i := 5) sc_numbers_ahead.nd rfl (.inl rfl) (pe_call (ok__led_on_to T) (hr.mono (by decide)) (by rfl) T.m__led_on_to T.F__led_on_to.kp T.b__led_on_to .nil pass0 (pa_cons (pe_ix ix_list (pv 3) (pe_callB call_len_seq (by rfl) T.n_len PySem.boot_len (pa_cons (pv 4) pa_nil)) (fun _ _ => rfl)) pa_nil)))
  (pss_one (ps_expr (pe_bm PySem.F.plainAttrs_list PySem.F.slot_list_append PySem.F.type_list_append mt_append (pv 4) (pa_cons (pe_lc (own := [("rest", 6)]) (g := gName 6) (te := tCall (sp_number K) [] E0 (tCons (tVar 6) (tCons (tVar 3) tNil))) rfl sc_numbers_ahead.nd (pi_list (pv 5)) (blkOk_by (own := [("rest", 6)]) (N := N_numbers_ahead) (sc := defScope s_numbers_ahead) (by decide +kernel)) (fun _ _ _ _ _ => by exact (pg_name (i := 6) sc_numbers_ahead.nd rfl (.inl rfl))) (fun _ _ _ _ _ => by exact pts_nil) (fun _ _ _ _ _ => by exact (pe_call (ok__number T) (hr.mono (by decide)) (by rfl) T.m__number T.F__number.kp T.b__number .nil pass0 (pa_cons (pv 6) (pa_cons (pv 3) pa_nil))))) pa_nil))))))
  (pss_one (ps_ret (pv 4))))))), ?_⟩
  refine ⟨_, rfl, p, v, rfl, hp, fun t H1 s1 u => ?_⟩
  obtain ⟨a, x, e, hs, hx⟩ := u
  cases e
  refine ⟨t, _, rfl, hs, rfl, _, _, rfl, _, _, rfl, rfl, ?_⟩
  refine ⟨_, rfl, sz (by show 1 ≤ 10000; decide), fun lr nlr => ?_⟩
  have s2 := same_new (o := .lst [x]) nlr
  refine ⟨Nat.zero_le _, fun la nla => ?_⟩
  have s3 := same_new (o := .lst []) nla
  have nlal : la ≠ lr := fun z => by rw [z, upd_same] at nla; cases nla
  have s13 := s1.trans (s2.trans s3)
  have nlr0 : H lr = none := s1.free nlr
  have nla0 : H la = none := (s1.trans s2).free nla
  refine ⟨nInv K H p v x (.int ((0 : Nat) : Int)) lr la, ⟨_, [[.pat p]], [x], [], [], none, rfl, s13, s3 _ _ upd_same, upd_same, .cons (hx.mono (TS.of (s2.trans s3))) .nil, .nil, (fun l hl => by cases hl), ⟨by simp, rfl, ?_, Nat.zero_le _, fun i r ns _ e => by cases e⟩, rfl⟩, ?_⟩
  · intro y hy
    rw [List.mem_singleton.mp hy]
    exact allr_first p
  rintro m σ H2 ⟨rs, ws, A, L, x5, rfl, sA, hlr, hla, pw, pa, far, lk, rfl⟩
  have lA : A.length = L.length := Paired.length pa
  have lrs : rs.length = ws.length := Paired.length pw
  have hrl := lk.rlen
  refine ⟨_, rfl, la, _, rfl, .inl (SqL.of hla), _, rfl, lr, _, rfl, .inl (SqL.of hlr), _, _, rfl, rfl, _, rfl, ?_⟩
  refine ite2 (fun c => ?_) (fun c => ?_)
  · have c' : ((L.map V.ref).length : Int) < ((ws.length : Nat) : Int) := of_decide_eq_true c
    rw [List.length_map] at c'
    have hlt : A.length < rs.length := by omega
    obtain ⟨r, hr0⟩ : ∃ r, rs[A.length]? = some r := ⟨_, List.getElem?_eq_getElem hlt⟩
    have hrm : r ∈ rs := List.mem_of_getElem? hr0
    have rok := aok r (lk.all r hrm)
    obtain ⟨y, hy, ur⟩ : ∃ y, ws[A.length]? = some y ∧ RAt K H2 r y := by
      obtain ⟨y, h1, h2⟩ := LiI.paired_get pw hr0
      exact ⟨y, h1, h2⟩
    refine ⟨nInv K H p v x (.int ((0 : Nat) : Int)) lr la (2 * siz p + 1 - (A.length + 1)), fun σ' H' hI => ⟨_, by omega, hI⟩, ?_⟩
    refine ⟨_, rfl, _, rfl, la, _, rfl, .inl (SqL.of hla), lr, _, _, y, rfl, rfl, SqL.of hlr, ?_, ?_⟩
    · rw [List.length_map, ← lA]
      exact atI_nat hy
    refine ⟨r, y, rfl, ur, by have := rok.len; omega, fun lf fs H3 s4 nlf hlf pf => ?_⟩
    refine ⟨_, rfl, .inl ⟨rfl, _, SqL.of (s4 _ _ hla)⟩, _, rfl, lf, rfl, ⟨_, SqL.of hlf⟩, fun D nD => ?_⟩
    have ne_lr : ∀ {b : Addr}, H3 b = none → b ≠ lr := fun h z => by rw [z, s4 _ _ hlr] at h; cases h
    have ne_la : ∀ {b : Addr}, H3 b = none → b ≠ la := fun h z => by rw [z, s4 _ _ hla] at h; cases h
    have nlf_lr : lf ≠ lr := fun z => by rw [z, hlr] at nlf; cases nlf
    have nDlr := ne_lr nD
    have nDla := ne_la nD
    have nDlf : lf ≠ D := fun z => by rw [← z, hlf] at nD; cases nD
    have pw3 := pw.mono (TS.of (K := K) s4)
    have lfs : (adv r).length = fs.length := Paired.length pf
    have le2 : (adv r).length ≤ 2 := by
      obtain ⟨k, ek⟩ := step_want r
      have h2 := step_two (wantS r).cps.toList (r, 0)
      rw [ek, List.length_map] at h2
      exact h2
    refine lc_list (K := K) (a := lf) (xs := fs) (fun i H' => ∃ (rs' : List (List Th)) (ws' : List V) (ns : List Nat), But lr H3 H' ∧ H' lr = some (.lst ws') ∧ RAts K H' rs' ws' ∧ rs'.Nodup ∧ rs <+: rs' ∧ (∀ z ∈ rs', z ∈ allr p) ∧ H' D = some (.lst (nat2 ns)) ∧ LinkOk rs' ns ((adv r).take i))
      ⟨rs, ws, [], But.of (same_new nD), by rw [upd_ne nDlr.symm]; exact s4 _ _ hlr, pw3.mono (TS.new nD), lk.nd, List.prefix_refl _, lk.all, upd_same, .nil⟩ (fun i H' _ hI => ?_) ?_ ?_
    · obtain ⟨_, _, _, b, _⟩ := hI
      exact SqL.of (b _ _ nlf_lr hlf)
    · rintro i z H4 hi ⟨rs', ws', ns, b, hlr4, pw4, nd4, pre4, all4, hD4, lk4⟩
      obtain ⟨r', hr', ur'⟩ := Paired.at pf hi
      have hli := (List.getElem?_eq_some_iff.mp hr').1
      have t34 : TS K H3 H4 := b.ts (s4 _ _ hlr)
      have rok' := aok r' (allr_adv (lk.all r hrm) r' (List.mem_of_getElem? hr'))
      have gAll : ∀ (l : List (List Th)), (∀ z ∈ l, z ∈ allr p) → ∀ z ∈ l, gd 50 z := fun l hl z hz t ht => Nat.le_trans ((aok z (hl z hz)).gd t ht) hd
      have len4 : rs'.length ≤ 2 * siz p + 1 := Nat.le_trans (nodup_len rs' (allr p) nd4 all4) (allr_len p)
      refine ⟨rfl, yes_if ?_⟩
      refine ⟨_, rfl, _, rfl, r', z, lr, rs', ws', rfl, ur'.mono t34, hlr4, pw4, nd4, fun t ht => Nat.le_trans (rok'.gd t ht) hd, gAll rs' all4, by omega, fun n rs5 ws5 H5 b5 _ hlr5 pw5 nd5 e5 hn5 => ?_⟩
      have pre5 : rs' <+: rs5 := by
        rcases e5 with rfl | rfl
        · exact List.prefix_refl _
        · exact List.prefix_append _ _
      have hD5 := b5 _ _ nDlr hD4
      have lns : ns.length ≤ 2 := by
        have h1 := Paired.length lk4
        rw [List.length_take] at h1
        omega
      refine ⟨_, hD5, szl (by show (nat2 ns).length ≤ 10000; unfold nat2; rw [List.length_map]; omega), rs5, ws5, ns ++ [n], ?_, ?_, pw5.mono (TS.lst hD5), nd5, pre4.trans pre5, ?_, ?_, ?_⟩
      · intro c o hc ho
        rw [upd_ne (ne_of_none ho nD)]
        exact b5 _ _ hc (b _ _ hc ho)
      · rw [upd_ne nDlr.symm]
        exact hlr5
      · intro z hz
        rcases e5 with rfl | rfl
        · exact all4 z hz
        · rcases List.mem_append.mp hz with z1 | z1
          · exact all4 z z1
          · rw [List.mem_singleton.mp z1]
            exact allr_adv (lk.all r hrm) r' (List.mem_of_getElem? hr')
      · rw [upd_same]
        unfold nat2
        rw [List.map_append]
        rfl
      · rw [← List.take_append_getElem hli]
        refine Paired.snoc (lk4.pre pre5) ?_
        rw [(List.getElem?_eq_some_iff.mp hr').2]
        exact hn5
    · rintro H4 ⟨rs', ws', ns, b, hlr4, pw4, nd4, pre4, all4, hD4, lk4⟩
      rw [← lfs, List.take_length] at lk4
      have hla4 := b _ _ nlal (s4 _ _ hla)
      refine ⟨la, _, _, rfl, rfl, hla4, szl (by rw [List.length_map]; omega), ?_⟩
      have tl := TS.lst (K := K) (ys := L.map V.ref ++ [.ref D]) hla4
      refine ⟨rs', ws', A ++ [ns], L ++ [D], _, rfl, ?_, ?_, ?_, pw4.mono tl, ?_, ?_, lk.snoc hr0 pre4 nd4 all4 lk4, by rw [List.length_append, List.length_singleton]⟩
      · refine Same.mut ?_ nla0
        exact But.same (sA.trans s4) nlr0 b
      · rw [upd_ne nlal.symm]
        exact hlr4
      · rw [upd_same, List.map_append]
        rfl
      · refine Paired.snoc (aat_but (aat_but (aat_but pa (fun y hy => (far y hy).1) (But.of s4)) (fun y hy => (far y hy).1) b) (fun y hy => (far y hy).2) But.upd') ?_
        rw [upd_ne nDla]
        exact hD4
      · intro l hl
        rcases List.mem_append.mp hl with z | z
        · exact far l z
        · rw [List.mem_singleton.mp z]
          exact ⟨nDlr, nDla⟩
  · have c' : ¬ ((L.map V.ref).length : Int) < ((ws.length : Nat) : Int) := of_decide_eq_false (Bool.eq_false_iff.mpr c)
    rw [List.length_map] at c'
    have h1 := lk.le
    exact ⟨_, rfl, q la rs A L H2 sA hla pa lk (by omega)⟩

end
end G1

set_option maxRecDepth 100000
set_option maxHeartbeats 4000000
namespace G1
open PySem PySem.Spec PyProof.Rows L2 Gm
section
variable {P : Program} {w : World} {K : PySem.W.Frag} {mg : Str → Option Value} {base : Heap}
def sfl (kt : Addr) (sv : V) (l : Addr) (c : Int) : List (Str × V) := [("key", .ref kt), ("state", sv), ("following", .ref l), ("choice", .int c)]
theorem sfl_key (kt : Addr) (sv : V) (l : Addr) (c : Int) : (sfl kt sv l c).lookup ("key" : Str) = some (.ref kt) := rfl
theorem sfl_state (kt : Addr) (sv : V) (l : Addr) (c : Int) : (sfl kt sv l c).lookup ("state" : Str) = some sv := rfl
theorem sfl_following (kt : Addr) (sv : V) (l : Addr) (c : Int) : (sfl kt sv l c).lookup ("following" : Str) = some (.ref l) := rfl
theorem sfl_choice (kt : Addr) (sv : V) (l : Addr) (c : Int) : (sfl kt sv l c).lookup ("choice" : Str) = some (.int c) := rfl
theorem sfl_put (kt : Addr) (sv : V) (l : Addr) (c d : Int) : putF "choice" (.int d) (sfl kt sv l c) = sfl kt sv l d := rfl
theorem sfl_new (kt : Addr) (sv : V) (l : Addr) (c : Int) : putF "choice" (.int c) (putF "following" (.ref l) (putF "state" sv (putF "key" (.ref kt) []))) = sfl kt sv l c := rfl
/-- the following ones: pairs of a rest's number and a state -/
def FolAt (K : PySem.W.Frag) (H : Hp) (rs : List (List Th)) (xs : List Sta) (l : Addr) : Prop := ∃ ts : List Addr, H l = some (.lst (ts.map V.ref)) ∧
  Paired (fun (s : Sta) (t : Addr) => ∃ (n : Nat) (v : V), H t = some (.tup [.int (n : Int), v]) ∧ rs[n]? = some s.1 ∧ SAt K H s v) xs ts
theorem fol_of {H : Hp} {rs : List (List Th)} {k : Nat} : ∀ {R : List (List Th)} {ns : List Nat} {ws : List V} {ts : List Addr}, LinkOk rs ns R → SAts K H (R.map fun r => (r, k)) ws → Paired (fun (t : Addr) (q : V × V) => H t = some (.tup [q.1, q.2])) ts ((nat2 ns).zip ws) →
    Paired (fun (s : Sta) (t : Addr) => ∃ (n : Nat) (v : V), H t = some (.tup [.int (n : Int), v]) ∧ rs[n]? = some s.1 ∧ SAt K H s v) (R.map fun r => (r, k)) ts
  | _, _, _, _, .nil, .nil, pt => by
    cases pt
    exact .nil
  | _, _, _, _, .cons e l, .cons u us, pt => by
    cases pt with
    | cons ht pt => exact .cons ⟨_, _, ht, e, u⟩ (fol_of l us pt)
structure StepAt (K : PySem.W.Frag) (H : Hp) (C : Addr) (rs : List (List Th)) (z : List Nat) (s : Sta) (x l : Addr) (c : Int) : Prop where
  ob : ∃ (dx kt : Addr) (sv : V) (n : Nat), H x = some (.ins C dx (sfl kt sv l c)) ∧ H kt = some (.tup [.int (n : Int), .int (s.2 : Int)]) ∧ rs[n]? = some s.1 ∧ SAt K H s sv
  fol : FolAt K H rs (step z s) l
def sp_init (C : Addr) (K : PySem.W.Frag) : Sp := fun vs H Q _ => ∃ (x dx a l : Addr) (n : Int) (y : V) (k : Int), vs = [.ref x, .int n, .ref a, .ref l] ∧ H x = some (.ins C dx []) ∧ SqT K H a [y, .int k] ∧
  ∀ (kt : Addr) (H' : Hp), H kt = none → H' kt = some (.tup [.int n, .int k]) → H' x = some (.ins C dx (sfl kt (.ref a) l (-1))) → But x H H' → Q .non H'
theorem ok_Step__init (T : Txt w K mg) : FnOk P w K mg base CX0 1 T.f_Step__init T.fd_Step__init ["self", "number", "state", "following"] (sp_init T.C_Step K) := by
  refine T.F_Step__init.ok sc_Step__init (fun vs H Q E h => ?_) (fun cdv A outer s H vs Q E hr h => ?_)
  · obtain ⟨x, dx, a, l, n, y, k, rfl, _⟩ := h
    rfl
  obtain ⟨x, dx, a, l, n, y, k, rfl, hx, ha, q⟩ := h
  refine ⟨_, (pss_cons (ps_fld (pv 0) (pe_tup (pa_cons (pv 1) (pa_cons (pe_ix ix_tup (pv 2) pe_int (fun _ _ => rfl)) pa_nil))) rfl)
  (pss_cons (ps_fld (pv 0) (pv 2) rfl)
  (pss_cons (ps_fld (pv 0) (pv 3) rfl)
  (pss_one (ps_fld (pv 0) (pe_un un_neg pe_int) rfl))))), ?_⟩
  refine ⟨_, rfl, _, rfl, _, _, _, _, rfl, rfl, ha, at1 rfl, sz (by show 2 ≤ 10000; decide), fun kt nk => ?_⟩
  have nxk : x ≠ kt := ne_of_none hx nk
  have t1000 : (3 : Nat) < 1000 := by decide
  refine ⟨_, rfl, x, T.C_Step, dx, [], rfl, (by rw [upd_ne nxk]; exact hx), T.cl_Step, T.no_Step_key, (by show 0 < 1000; decide), ?_⟩
  refine ⟨_, rfl, _, rfl, x, T.C_Step, dx, _, rfl, upd_same, T.cl_Step, T.no_Step_state, (by show 1 < 1000; decide), ?_⟩
  refine ⟨_, rfl, _, rfl, x, T.C_Step, dx, _, rfl, upd_same, T.cl_Step, T.no_Step_following, (by show 2 < 1000; decide), ?_⟩
  refine ⟨_, rfl, _, rfl, x, T.C_Step, dx, _, rfl, upd_same, T.cl_Step, T.no_Step_choice, (by show 3 < 1000; decide), ?_⟩
  refine q kt _ nk ?_ ?_ ?_
  · rw [upd_ne nxk.symm, upd_ne nxk.symm, upd_ne nxk.symm, upd_ne nxk.symm, upd_same]
  · exact upd_same
  · intro b o hb ho
    rw [upd_ne hb, upd_ne hb, upd_ne hb, upd_ne hb, upd_ne (ne_of_none ho nk)]
    exact ho
def sp_step (C : Addr) (K : PySem.W.Frag) : Sp := fun vs H Q _ => ∃ (p : Pat) (rs : List (List Th)) (A : List (List Nat)) (L : List Addr) (a : Addr) (n : Nat) (s : Sta) (v : V) (z : Str), vs = [.int (n : Int), v, .str z, .ref a] ∧
  H a = some (.lst (L.map V.ref)) ∧ AAt H A L ∧ Links p rs A ∧ A.length = rs.length ∧ rs[n]? = some s.1 ∧ SAt K H s v ∧ s.1.length ≤ 1000 ∧ s.2 ≤ z.length ∧ z.length ≤ 1000 ∧
  ∀ (x l : Addr) (H' : Hp), Same H H' → H x = none → H l = none → StepAt K H' C rs z.cps.toList s x l (-1) → Q (.ref x) H'
theorem ok__step (T : Txt w K mg) : FnOk P w K mg base CX0 3 T.f__step T.fd__step ["number", "state", "text", "ahead"] (sp_step T.C_Step K) := by
  refine T.F__step.ok sc__step (fun vs H Q E h => ?_) (fun cdv A outer s H vs Q E hr h => ?_)
  · obtain ⟨p, rs, A, L, a, n, s, v, z, rfl, _⟩ := h
    rfl
  obtain ⟨p, rs, A', L, a, n, st, v, z, rfl, ha, pa, lk, hl, hn, hv, h1, h2, h3, q⟩ := h
  refine ⟨_, (pss_one (ps_ret (pe_make T.mk_Step (ok_Step__init T) (hr.mono (by decide)) (by rfl) T.m_Step T.b_Step__init .nil pass0 (pa_cons (pv 0) (pa_cons (pv 1) (pa_cons (pe_listZip rfl (by rfl) T.n_list PyProof.Rows.boot_list (by rfl) T.n_zip (pa_cons (pe_ix ix_list (pv 3) (pv 0) (fun _ _ => rfl)) (pa_cons (pe_call (ok_onward T) (hr.mono (by decide)) (by rfl) T.m_onward T.F_onward.kp T.b_onward .nil pass0 (pa_cons (pv 1) (pa_cons (pv 2) pa_nil))) pa_nil))) pa_nil)))))), ?_⟩
  have hlt : n < A'.length := by
    have := (List.getElem?_eq_some_iff.mp hn).1
    omega
  have hA : A'[n]? = some A'[n] := List.getElem?_eq_getElem hlt
  obtain ⟨l0, hl0, hla⟩ := LiI.paired_get pa hA
  refine ⟨_, rfl, _, rfl, ?_⟩
  refine ⟨_, rfl, _, rfl, a, _, _, .ref l0, rfl, rfl, SqL.of ha, atI_nat (by rw [List.getElem?_map, hl0]; rfl), ?_⟩
  refine ⟨_, rfl, _, rfl, st, v, z, rfl, hv, h1, h2, h3, fun r ws H1 s1 nr hr1 pw => ?_⟩
  refine ⟨l0, r, _, _, rfl, SqL.of (s1 _ _ hla), SqL.of hr1, fun H2 l ts s2 nl nts hl2 pts => ?_⟩
  intro x dx nx ndx nex
  have s12 := s1.trans s2
  have s3 : Same H2 (upd (upd H2 dx (.own x)) x (.ins T.C_Step dx [])) := fun b o e => by
    rw [upd_ne (ne_of_none e nx), upd_ne (ne_of_none e ndx)]
    exact e
  obtain ⟨sa, sx, rfl, hsa, hsr⟩ := hv
  refine ⟨x, dx, sa, l, n, sx, _, rfl, upd_same, TS.of (K := K) (s12.trans s3) _ _ hsa, fun kt H3 nk hk hx b => ⟨rfl, ?_⟩⟩
  have s23 : Same H2 H3 := fun c o e => b c o (ne_of_none e nx) (s3 c o e)
  refine q x l H3 (s12.trans s23) (s12.free nx) (s1.free nl) ⟨⟨dx, kt, .ref sa, n, hx, hk, hn, ⟨sa, sx, rfl, TS.of (K := K) (s12.trans s23) _ _ hsa, hsr.mono (TS.of (s12.trans s23))⟩⟩, ts, s23 _ _ hl2, ?_⟩
  have pts3 : Paired (fun (t : Addr) (q : V × V) => H3 t = some (.tup [q.1, q.2])) ts ((nat2 A'[n]).zip ws) := Paired.mapP pts fun _ _ e => s23 _ _ e
  have pw3 := pw.mono (TS.of (K := K) (s2.trans s23))
  have link := lk.link n st.1 A'[n] hn hA
  rcases step_adv z.cps.toList st with e | ⟨k, e⟩
  · rw [e] at pw3 ⊢
    cases pw3
    rw [List.zip_nil_right] at pts3
    cases pts3
    exact .nil
  · rw [e] at pw3 ⊢
    exact fol_of link pw3 pts3

end
end G1

set_option maxRecDepth 100000
set_option maxHeartbeats 4000000
namespace G1
open PySem PySem.Spec PyProof.Rows L2 Gm
section
variable {P : Program} {w : World} {K : PySem.W.Frag} {mg : Str → Option Value} {base : Heap}
theorem atI_last {α : Type} (xs : List α) (y : α) : atI (xs ++ [y]) (-(1 : Int)) = some y := by
  unfold atI ixN
  rw [if_neg (by decide), List.length_append, List.length_singleton]
  rw [if_pos (by omega)]
  have e : (-(1 : Int) + ((xs.length + 1 : Nat) : Int)).toNat = xs.length := by omega
  show (xs ++ [y])[(-(1 : Int) + ((xs.length + 1 : Nat) : Int)).toNat]? = some y
  rw [e, List.getElem?_append_right (Nat.le_refl _), Nat.sub_self]
  rfl
-- a state put among the dead ones, as a dict does
open Classical in
noncomputable def dput (D : List Sta) (t : Sta) : List Sta := if t ∈ D then D else D ++ [t]
theorem mem_dput (r : List Sta) (t x : Sta) : x ∈ dput r t ↔ x ∈ r ∨ x = t := by
  unfold dput
  split
  · rename_i h
    constructor
    · exact .inl
    · rintro (z | rfl)
      · exact z
      · exact h
  · simp
theorem nd_dput (r : List Sta) (t : Sta) (h : r.Nodup) : (dput r t).Nodup := by
  unfold dput
  split
  · exact h
  · rename_i hn
    rw [List.nodup_append]
    refine ⟨h, by simp, fun a ha b hb e => ?_⟩
    rw [List.mem_singleton.mp hb] at e
    exact hn (e ▸ ha)
/-- the key of a state -/
def dkey (n k : Nat) : List L2.Key := [.inl (n : Int), .inl (k : Int)]
theorem dkey_inj {n k n' k' : Nat} (h : dkey n k = dkey n' k') : n = n' ∧ k = k' := by
  unfold dkey at h
  simp at h
  omega
def DeadAt (K : PySem.W.Frag) (H : Hp) (rs : List (List Th)) : List Sta → List (List L2.Key × V) → Prop :=
  Paired fun (s : Sta) (kv : List L2.Key × V) => ∃ n : Nat, kv.1 = dkey n s.2 ∧ rs[n]? = some s.1 ∧ SAt K H s kv.2
theorem DeadAt.mono {H H' : Hp} {rs : List (List Th)} {D : List Sta} {kvs : List (List L2.Key × V)} (e : TS K H H') (h : DeadAt K H rs D kvs) : DeadAt K H' rs D kvs := Paired.mapP h fun _ _ ⟨n, a, b, c⟩ => ⟨n, a, b, c.mono e⟩
theorem nd_ix {rs : List (List Th)} (nd : rs.Nodup) {n m : Nat} {r : List Th} (h1 : rs[n]? = some r) (h2 : rs[m]? = some r) : n = m := by
  obtain ⟨a1, b1⟩ := List.getElem?_eq_some_iff.mp h1
  obtain ⟨a2, b2⟩ := List.getElem?_eq_some_iff.mp h2
  exact (List.getElem_inj nd).mp (b1.trans b2.symm)
theorem dead_get {H : Hp} {rs : List (List Th)} (nd : rs.Nodup) {t : Sta} {n : Nat} (hn : rs[n]? = some t.1) : ∀ {D : List Sta} {kvs : List (List L2.Key × V)}, DeadAt K H rs D kvs → ((valV kvs (dkey n t.2)).isSome = true ↔ t ∈ D)
  | _, _, .nil => by
    constructor
    · intro h; cases h
    · intro h; cases h
  | _, _, .cons (a := s) (b := kv) (l₁ := D) (l₂ := kvs) ⟨m, e1, e2, e3⟩ h => by
    obtain ⟨k', w'⟩ := kv
    have e1' : k' = dkey m s.2 := e1
    subst e1'
    have ih := dead_get nd hn h
    unfold valV at ih ⊢
    rw [List.find?_cons]
    by_cases c : s = t
    · subst c
      obtain rfl := nd_ix nd hn e2
      simp
    · have ne : dkey m s.2 ≠ dkey n t.2 := fun z => by
        obtain ⟨z1, z2⟩ := dkey_inj z
        rw [z1, hn] at e2
        exact c (Prod.ext (Option.some.inj e2).symm z2)
      rw [decide_eq_false ne]
      show ((kvs.find? _).map _).isSome = true ↔ _
      rw [ih, List.mem_cons]
      constructor
      · exact .inr
      · rintro (z | z)
        · exact absurd z.symm c
        · exact z
theorem dead_map {H : Hp} {rs : List (List Th)} (nd : rs.Nodup) {t : Sta} {v : V} {n : Nat} (hn : rs[n]? = some t.1) (u : SAt K H t v) : ∀ {D : List Sta} {kvs : List (List L2.Key × V)}, DeadAt K H rs D kvs → DeadAt K H rs D (kvs.map fun kv => if kv.1 = dkey n t.2 then (kv.1, v) else kv)
  | _, _, .nil => .nil
  | _, _, .cons (a := s) (b := kv) ⟨m, e1, e2, e3⟩ h => by
    refine .cons ⟨m, ?_, e2, ?_⟩ (dead_map nd hn u h)
    · dsimp only
      split <;> exact e1
    · dsimp only
      split
      · rename_i c
        rw [e1] at c
        obtain ⟨z1, z2⟩ := dkey_inj c
        rw [z1, hn] at e2
        have es : s = t := Prod.ext (Option.some.inj e2).symm z2
        rw [es]
        exact u
      · exact e3
theorem dead_put {H : Hp} {rs : List (List Th)} (nd : rs.Nodup) {t : Sta} {v : V} {n : Nat} (hn : rs[n]? = some t.1) (u : SAt K H t v) {D : List Sta} {kvs : List (List L2.Key × V)} (h : DeadAt K H rs D kvs) : DeadAt K H rs (dput D t) (putK kvs (dkey n t.2) v) := by
  have hg := dead_get nd hn h
  have e : (kvs.any fun kv => decide (kv.1 = dkey n t.2)) = (valV kvs (dkey n t.2)).isSome := by
    unfold valV
    rw [Option.isSome_map, Bool.eq_iff_iff, List.find?_isSome, List.any_eq_true]
  unfold putK dput
  by_cases c : t ∈ D
  · rw [e, hg.mpr c, if_pos rfl, if_pos c]
    exact dead_map nd hn u h
  · rw [if_neg c, e, if_neg (fun z => c (hg.mp z))]
    exact Paired.snoc h ⟨n, rfl, hn, u⟩
/-- all states of a pattern and a text -/
def alls (p : Pat) (n : Nat) : List Sta := (allr p).flatMap fun r => (List.range (n + 1)).map fun k => (r, k)
theorem alls_len (p : Pat) (n : Nat) : (alls p n).length ≤ (2 * siz p + 1) * (n + 1) := by
  unfold alls
  have e : ((allr p).flatMap fun r => (List.range (n + 1)).map fun k => ((r, k) : Sta)).length = (allr p).length * (n + 1) := by
    generalize allr p = L
    induction L with
    | nil => simp
    | cons x L ih => rw [List.flatMap_cons, List.length_append, ih, List.length_map, List.length_range, List.length_cons, Nat.succ_mul]; omega
  rw [e]
  exact Nat.mul_le_mul_right _ (allr_len p)
theorem alls_mem {p : Pat} {z : List Nat} {s : Sta} (h : SOk p z s) : s ∈ alls p z.length := by
  unfold alls
  rw [List.mem_flatMap]
  exact ⟨s.1, h.1, List.mem_map.mpr ⟨s.2, List.mem_range.mpr (by have := h.2; omega), rfl⟩⟩
theorem states_few {p : Pat} {z : List Nat} {L : List Sta} (hn : L.Nodup) (h : ∀ s ∈ L, SOk p z s) (h1 : siz p ≤ 1000) (h2 : z.length ≤ 1000) : L.length < 3000000 := by
  have q1 := nodup_len L (alls p z.length) hn fun s hs => alls_mem (h s hs)
  have q2 := alls_len p z.length
  have q3 : (2 * siz p + 1) * (z.length + 1) ≤ 2001 * 1001 := Nat.mul_le_mul (by omega) (by omega)
  omega
/-- along a way it falls -/
def nu (p : Pat) (z : List Nat) (s : Sta) : Nat := (z.length - s.2) * (1 + ((allr p).map wr).sum) + wr s.1
theorem le_sum {L : List (List Th)} {r : List Th} (h : r ∈ L) : wr r ≤ (L.map wr).sum := by
  induction L with
  | nil => cases h
  | cons x L ih =>
    rw [List.map_cons, List.sum_cons]
    rcases List.mem_cons.mp h with rfl | h
    · omega
    · have := ih h
      omega
theorem nu_dec {p : Pat} {z : List Nat} {s : Sta} (hn : nr p = true) (h : SOk p z s) : ∀ s' ∈ step z s, nu p z s' < nu p z s := by
  intro s' hs
  have h2 := (h.step hn s' hs).1
  have h3 := le_sum h2
  unfold nu
  rcases step_dec (allr_ok hn _ h.1).nr s' hs with ⟨e, e2⟩ | ⟨e, e2⟩
  · rw [e]
    have e3 : z.length - s.2 = (z.length - (s.2 + 1)) + 1 := by omega
    rw [e3, Nat.succ_mul]
    omega
  · rw [e]
    omega
theorem Chain.nodup {p : Pat} {z : List Nat} {D : Sta → Prop} (hn : nr p = true) {t : Sta} : ∀ {s : Sta} {r : List (Sta × Nat)}, SOk p z s → Chain z D s r t → (r.map (·.1) ++ [t]).Nodup ∧ ∀ x ∈ r.map (·.1) ++ [t], nu p z x ≤ nu p z s ∧ SOk p z x
  | s, [], hs, h => by
    obtain rfl : s = t := h
    refine ⟨by simp, fun x hx => ?_⟩
    have : x = s := by simpa using hx
    subst this
    exact ⟨Nat.le_refl _, hs⟩
  | s, (s', c) :: r, hs, h => by
    obtain ⟨rfl, s1, a1, _, a3⟩ := h
    have m1 := List.mem_of_getElem? a1
    have h1 := hs.step hn s1 m1
    obtain ⟨i1, i2⟩ := Chain.nodup hn h1 a3
    have hd := nu_dec hn hs s1 m1
    rw [List.map_cons, List.cons_append]
    refine ⟨List.nodup_cons.mpr ⟨fun hm => ?_, i1⟩, fun x hx => ?_⟩
    · have := (i2 s' hm).1
      omega
    · rcases List.mem_cons.mp hx with rfl | hx
      · exact ⟨Nat.le_refl _, hs⟩
      · obtain ⟨j1, j2⟩ := i2 x hx
        exact ⟨by omega, j2⟩
/-- what is still to be tried -/
def rem (T : Sta → Nat) (z : List Nat) (s : Sta) (c : Nat) : Nat := (((step z s).drop c).map fun x => 1 + T x).sum
theorem rem_at {T : Sta → Nat} {z : List Nat} {s x : Sta} {c : Nat} (h : (step z s)[c]? = some x) : rem T z s c = 1 + T x + rem T z s (c + 1) := by
  obtain ⟨h1, h2⟩ := List.getElem?_eq_some_iff.mp h
  unfold rem
  rw [List.drop_eq_getElem_cons h1, h2, List.map_cons, List.sum_cons]
theorem rem_end {T : Sta → Nat} {z : List Nat} {s : Sta} : rem T z s (step z s).length = 0 := by
  unfold rem
  rw [List.drop_length]
  rfl
def below (T : Sta → Nat) (z : List Nat) (r : List (Sta × Nat)) : Nat := (r.map fun x => 1 + rem T z x.1 (x.2 + 1)).sum
theorem below_snoc (T : Sta → Nat) (z : List Nat) (r : List (Sta × Nat)) (s : Sta) (c : Nat) : below T z (r ++ [(s, c)]) = below T z r + (1 + rem T z s (c + 1)) := by
  unfold below
  rw [List.map_append, List.sum_append]
  simp

end
end G1

set_option maxRecDepth 100000
set_option maxHeartbeats 4000000
namespace G1
open PySem PySem.Spec PyProof.Rows L2 Gm
section
variable {P : Program} {w : World} {K : PySem.W.Frag} {mg : Str → Option Value} {base : Heap}
/-- no tuple -/
def NT (o : HO) : Prop := (∀ xs, o ≠ .tup xs) ∧ ∀ p xs, o ≠ .frz p (.tup xs)
theorem ts_but {H H' : Hp} {y : Addr} {o : HO} (h : H y = some o) (n : NT o) (b : But y H H') : TS K H H' := fun a zs q => by
  have ne : ∀ {u : HO}, H a = some u → u ≠ o → a ≠ y := fun e d z => by
    rw [z, h] at e
    exact d (Option.some.inj e).symm
  rcases q with (q | ⟨u, q⟩) | q
  · exact .inl (.inl (b _ _ (ne q (fun z => n.1 _ z.symm)) q))
  · exact .inl (.inr ⟨u, b _ _ (ne q (fun z => n.2 _ _ z.symm)) q⟩)
  · exact .inr q
theorem nt_lst {xs : List V} : NT (.lst xs) := ⟨(fun _ e => by cases e), (fun _ _ e => by cases e)⟩
theorem nt_ins {C dx : Addr} {fs : List (Str × V)} : NT (.ins C dx fs) := ⟨(fun _ e => by cases e), (fun _ _ e => by cases e)⟩
theorem nt_dT {kvs : List (List L2.Key × V)} : NT (.dT kvs) := ⟨(fun _ e => by cases e), (fun _ _ e => by cases e)⟩
theorem FolAt.but {H H' : Hp} {rs : List (List Th)} {xs : List Sta} {l y : Addr} {o : HO} (f : FolAt K H rs xs l) (h : H y = some o) (n : NT o) (b : But y H H') (hl : l ≠ y) : FolAt K H' rs xs l := by
  obtain ⟨ts, h1, h2⟩ := f
  refine ⟨ts, b _ _ hl h1, Paired.mapP h2 fun s t ⟨m, v, e1, e2, e3⟩ => ⟨m, v, b _ _ (fun z => ?_) e1, e2, e3.mono (ts_but h n b)⟩⟩
  rw [z, h] at e1
  exact n.1 _ (Option.some.inj e1)
theorem StepAt.but {H H' : Hp} {C : Addr} {rs : List (List Th)} {z : List Nat} {s : Sta} {x l y : Addr} {c : Int} {o : HO} (f : StepAt K H C rs z s x l c) (h : H y = some o) (n : NT o) (b : But y H H') (hx : x ≠ y) (hl : l ≠ y) : StepAt K H' C rs z s x l c := by
  obtain ⟨⟨dx, kt, sv, m, e1, e2, e3, e4⟩, f2⟩ := f
  refine ⟨⟨dx, kt, sv, m, b _ _ hx e1, b _ _ (fun z => ?_) e2, e3, e4.mono (ts_but h n b)⟩, f2.but h n b hl⟩
  rw [z, h] at e2
  exact n.1 _ (Option.some.inj e2)
theorem FolAt.same {H H' : Hp} {rs : List (List Th)} {xs : List Sta} {l : Addr} (f : FolAt K H rs xs l) (s : Same H H') : FolAt K H' rs xs l := by
  obtain ⟨ts, h1, h2⟩ := f
  exact ⟨ts, s _ _ h1, Paired.mapP h2 fun _ _ ⟨m, v, e1, e2, e3⟩ => ⟨m, v, s _ _ e1, e2, e3.mono (TS.of s)⟩⟩
theorem StepAt.same {H H' : Hp} {C : Addr} {rs : List (List Th)} {z : List Nat} {s : Sta} {x l : Addr} {c : Int} (f : StepAt K H C rs z s x l c) (e : Same H H') : StepAt K H' C rs z s x l c := by
  obtain ⟨⟨dx, kt, sv, m, e1, e2, e3, e4⟩, f2⟩ := f
  exact ⟨⟨dx, kt, sv, m, e _ _ e1, e _ _ e2, e3, e4.mono (TS.of e)⟩, f2.same e⟩
def StepsAt (K : PySem.W.Frag) (H : Hp) (C : Addr) (rs : List (List Th)) (z : List Nat) : List (Sta × Nat) → List (Addr × Addr) → Prop := Paired fun (q : Sta × Nat) (y : Addr × Addr) => StepAt K H C rs z q.1 y.1 y.2 (q.2 : Int)
theorem StepsAt.but {H H' : Hp} {C : Addr} {rs : List (List Th)} {z : List Nat} {y : Addr} {o : HO} (h : H y = some o) (n : NT o) (b : But y H H') : ∀ {r : List (Sta × Nat)} {xls : List (Addr × Addr)}, StepsAt K H C rs z r xls → (∀ u ∈ xls, u.1 ≠ y ∧ u.2 ≠ y) → StepsAt K H' C rs z r xls
  | _, _, .nil, _ => .nil
  | _, _, .cons f t, hx => .cons (f.but h n b (hx _ List.mem_cons_self).1 (hx _ List.mem_cons_self).2) (StepsAt.but h n b t fun u hu => hx u (List.mem_cons_of_mem _ hu))
theorem StepsAt.same {H H' : Hp} {C : Addr} {rs : List (List Th)} {z : List Nat} {r : List (Sta × Nat)} {xls : List (Addr × Addr)} (f : StepsAt K H C rs z r xls) (e : Same H H') : StepsAt K H' C rs z r xls := Paired.mapP f fun _ _ u => u.same e
theorem Paired.rev' {α β : Type} {F : α → β → Prop} : ∀ {xs : List α} {ys : List β}, Paired F xs ys → Paired (fun b a => F a b) ys xs
  | _, _, .nil => .nil
  | _, _, .cons f t => .cons f (Paired.rev' t)
theorem StepsAt.neT {H : Hp} {C : Addr} {rs : List (List Th)} {z : List Nat} {r : List (Sta × Nat)} {xls : List (Addr × Addr)} (f : StepsAt K H C rs z r xls) {dd : Addr} {kvs : List (List L2.Key × V)} (h : H dd = some (.dT kvs)) : ∀ u ∈ xls, u.1 ≠ dd ∧ u.2 ≠ dd := by
  induction f with
  | nil => intro y hy; cases hy
  | cons f _ ih =>
    intro y hy
    rcases List.mem_cons.mp hy with rfl | hy
    · obtain ⟨⟨_, _, _, _, h1, _⟩, ⟨_, h2, _⟩⟩ := f
      exact ⟨(fun e => by rw [e, h] at h1; cases h1), (fun e => by rw [e, h] at h2; cases h2)⟩
    · exact ih y hy
theorem StepsAt.neL {H : Hp} {C : Addr} {rs : List (List Th)} {z : List Nat} {r : List (Sta × Nat)} {xls : List (Addr × Addr)} (f : StepsAt K H C rs z r xls) {lp : Addr} {xs : List V} (h : H lp = some (.lst xs)) : ∀ u ∈ xls, u.1 ≠ lp := by
  induction f with
  | nil => intro y hy; cases hy
  | cons f _ ih =>
    intro y hy
    rcases List.mem_cons.mp hy with rfl | hy
    · obtain ⟨⟨_, _, _, _, h1, _⟩, _⟩ := f
      exact fun e => by rw [e, h] at h1; cases h1
    · exact ih y hy
def refs1 (xls : List (Addr × Addr)) : List V := xls.map fun y => V.ref y.1
/-- the dead ones -/
structure DeadOk (p : Pat) (z : List Nat) (D : List Sta) : Prop where
  nd : D.Nodup
  ok : ∀ s ∈ D, SOk p z s ∧ s ≠ endS z ∧ ∀ s' ∈ step z s, s' ∈ D
theorem DeadOk.put {p : Pat} {z : List Nat} {D : List Sta} {t : Sta} (h : DeadOk p z D) (h1 : SOk p z t) (h2 : t ≠ endS z) (h3 : ∀ s' ∈ step z t, s' ∈ D) : DeadOk p z (dput D t) := by
  refine ⟨nd_dput D t h.nd, fun s hs => ?_⟩
  rcases (mem_dput D t s).mp hs with e | rfl
  · obtain ⟨a, b, c⟩ := h.ok s e
    exact ⟨a, b, fun s' hs' => (mem_dput D t s').mpr (.inl (c s' hs'))⟩
  · exact ⟨h1, h2, fun s' hs' => (mem_dput D s s').mpr (.inl (h3 s' hs'))⟩
theorem DeadOk.no {p : Pat} {z : List Nat} {D : List Sta} (h : DeadOk p z D) {s : Sta} (hs : s ∈ D) : ¬ Reach z s := dead_no (D := fun s => s ∈ D) (fun s hs => (h.ok s hs).2) hs
/-- the path, not empty -/
structure PathAt (K : PySem.W.Frag) (Hb H : Hp) (C lp : Addr) (p : Pat) (rs : List (List Th)) (z : List Nat) (D : List Sta) (r : List (Sta × Nat)) (xls : List (Addr × Addr)) (t : Sta) (x l : Addr) (mt : Nat) : Prop where
  hl : H lp = some (.lst (refs1 xls ++ [.ref x]))
  ch : Chain z (fun s => s ∈ D) ([.pat p], 0) r t
  st : StepsAt K H C rs z r xls
  tp : StepAt K H C rs z t x l ((mt : Int) - 1)
  le : mt ≤ (step z t).length
  dd : ∀ j y, j < mt → (step z t)[j]? = some y → y ∈ D
  nd : (xls.map (·.1) ++ [x]).Nodup
  fl : ∀ y ∈ xls, y.2 ≠ lp
  f2 : l ≠ lp
  nb : ∀ y ∈ xls, Hb y.1 = none
  n2 : Hb x = none
def tInv (K : PySem.W.Frag) (Hb : Hp) (C : Addr) (p : Pat) (rs : List (List Th)) (z : Str) (T : Sta → Nat) (v : V) (a lp dd : Addr) (m : Nat) (σ : L2.St) (H' : Hp) : Prop :=
  ∃ (D : List Sta) (kvs : List (List L2.Key × V)) (x5 x6 x7 : Option V), σ = [some v, some (.str z), some (.ref a), some (.ref lp), some (.ref dd), x5, x6, x7] ∧ Same Hb H' ∧ H' dd = some (.dT kvs) ∧ DeadAt K H' rs D kvs ∧ DeadOk p z.cps.toList D ∧
    ((H' lp = some (.lst []) ∧ ([.pat p], 0) ∈ D ∧ m = 0) ∨
     ∃ (r : List (Sta × Nat)) (xls : List (Addr × Addr)) (t : Sta) (x l : Addr) (mt : Nat), PathAt K Hb H' C lp p rs z.cps.toList D r xls t x l mt ∧ m = below T z.cps.toList r + 1 + rem T z.cps.toList t mt)
def sp_tried (C : Addr) (K : PySem.W.Frag) : Sp := fun vs H Q _ => ∃ (p : Pat) (v : V) (z : Str), vs = [v, .str z] ∧ PAt K H p v ∧ siz p ≤ 1000 ∧ dep p ≤ 50 ∧ goodP p ∧ z.length ≤ 1000 ∧
  ∀ (t lp dv : Addr) (H' : Hp), Same H H' → H' t = some (.tup [.ref lp, .ref dv]) →
    ((H' lp = some (.lst []) ∧ ¬ Reach z.cps.toList ([.pat p], 0)) ∨
     ∃ (rs : List (List Th)) (r : List (Sta × Nat)) (xls : List (Addr × Addr)) (x l : Addr), First z.cps.toList ([.pat p], 0) (wayOf z.cps.toList r) ∧ H' lp = some (.lst (refs1 xls ++ [.ref x])) ∧ StepsAt K H' C rs z.cps.toList r xls ∧ StepAt K H' C rs z.cps.toList (endS z.cps.toList) x l (-1) ∧ r.length ≤ 3000000 ∧ (∀ q ∈ r, q.2 ≤ 1)) → Q (.ref t) H'
theorem isEnd_iff (z : Str) (s : Sta) : isEnd z s = true ↔ s = endS z.cps.toList := by
  unfold isEnd endS
  rw [Bool.and_eq_true_iff, decide_eq_true_iff, List.isEmpty_iff, str_len]
  constructor
  · rintro ⟨e1, e2⟩
    exact Prod.ext e1 (by omega)
  · intro e
    rw [e]
    exact ⟨rfl, rfl⟩
theorem Chain.le1 {z : List Nat} {D : Sta → Prop} {t : Sta} : ∀ {s : Sta} {r : List (Sta × Nat)}, Chain z D s r t → ∀ q ∈ r, q.2 ≤ 1
  | s, [], h, q, hq => by cases hq
  | s, (s', c) :: r, h, q, hq => by
    obtain ⟨rfl, s1, a1, _, a3⟩ := h
    rcases List.mem_cons.mp hq with rfl | hq
    · have h1 := (List.getElem?_eq_some_iff.mp a1).1
      have h2 := step_two z s'
      show c ≤ 1
      omega
    · exact Chain.le1 a3 q hq
theorem ok__tried (T : Txt w K mg) : FnOk P w K mg base CX0 5 T.f__tried T.fd__tried ["pattern", "text"] (sp_tried T.C_Step K) := by
  refine T.F__tried.ok sc__tried (fun vs H Q E h => ?_) (fun cdv A outer s H vs Q E hr h => ?_)
  · obtain ⟨p, v, z, rfl, _⟩ := h
    rfl
  obtain ⟨p, v, z, rfl, hp, hz, hd, hg, hzl, q⟩ := h
  have hn := hg.nr
  have aok := allr_ok hn
  obtain ⟨W, hW⟩ := cost_ex hn z.cps.toList
  refine ⟨_, (pss_cons (ps_set (i := 2) sc__tried.nd rfl (.inl rfl) (pe_call (ok_numbers_ahead T) (hr.mono (by decide)) (by rfl) T.m_numbers_ahead T.F_numbers_ahead.kp T.b_numbers_ahead .nil pass0 (pa_cons (pe_call (ok_checked T) (hr.mono (by decide)) (by rfl) T.m_checked T.F_checked.kp T.b_checked .nil pass0 (pa_cons (pv 0) pa_nil)) pa_nil)))
  (pss_cons (ps_set (i := 3) sc__tried.nd rfl (.inl rfl) (pe_lst (pa_cons (pe_call (ok__step T) (hr.mono (by decide)) (by rfl) T.m__step T.F__step.kp T.b__step .nil pass0 (pa_cons pe_int (pa_cons (pe_call (ok_first_state T) (hr.mono (by decide)) (by rfl) T.m_first_state T.F_first_state.kp T.b_first_state .nil pass0 (pa_cons (pv 0) pa_nil)) (pa_cons (pv 1) (pa_cons (pv 2) pa_nil))))) pa_nil)))
  (pss_cons (ps_set (i := 4) sc__tried.nd rfl (.inl rfl) pe_dnewT)
  (pss_cons (ps_while PassesOwn.never (PW.pt (pw_and (pt_truth (pv 3) (by intro _; rfl)) (pw_and1 (pt_not (pt_val (pe_call (ok_is_end T) (hr.mono (by decide)) (by rfl) T.m_is_end T.F_is_end.kp T.b_is_end .nil pass0 (pa_cons (pe_fld (pe_ix ix_list (pv 3) (pe_un un_neg pe_int) (fun _ _ => rfl)) rfl) (pa_cons (pv 1) pa_nil))))))))
   (pss_cons (ps_set (i := 5) sc__tried.nd rfl (.inl rfl) (pe_ix ix_list (pv 3) (pe_un un_neg pe_int) (fun _ _ => rfl)))
  (pss_cons (ps_fldaug (pv 5) pe_int iop_add)
  (pss_one (ps_if (pt_cmpR op_eq (pe_fld (pv 5) rfl) (pe_callB call_len_seq (by rfl) T.n_len PySem.boot_len (pa_cons (pe_fld (pv 5) rfl) pa_nil)) (nomark _))
    (pss_cons (ps_dput (hu_of hr) (pv 4) (pe_fld (pv 5) rfl) (pe_fld (pv 5) rfl) rfl)
  (pss_one (ps_expr (pe_bm0 PySem.F.plainAttrs_list PySem.F.slot_list_pop PySem.F.type_list_pop mt_pop (pv 3)))))
    (pss_cons (ps_asg (pe_ix ix_list (pe_fld (pv 5) rfl) (pe_fld (pv 5) rfl) (fun _ _ => rfl)) (pg_tup rfl (pgs_cons (pg_name (i := 6) sc__tried.nd rfl (.inl rfl)) (pgs_cons (pg_name (i := 7) sc__tried.nd rfl (.inl rfl)) pgs_nil))))
  (pss_one (ps_if (pt_cmp (pc_dnotin (hu_of hr) (pe_tup (pa_cons (pv 6) (pa_cons (pe_ix ix_tup (pv 7) pe_int (fun _ _ => rfl)) pa_nil))) (pv 4)))
    (pss_one (ps_expr (pe_bm PySem.F.plainAttrs_list PySem.F.slot_list_append PySem.F.type_list_append mt_append (pv 3) (pa_cons (pe_call (ok__step T) (hr.mono (by decide)) (by rfl) T.m__step T.F__step.kp T.b__step .nil pass0 (pa_cons (pv 6) (pa_cons (pv 7) (pa_cons (pv 1) (pa_cons (pv 2) pa_nil))))) pa_nil))))
    pss_nil))))))))
  (pss_one (ps_ret (pe_tup (pa_cons (pv 3) (pa_cons (pe_listValsT rfl (pv 4) (by rfl) T.n_list PyProof.Rows.boot_list) pa_nil))))))))), ?_⟩
  refine ⟨_, rfl, p, v, rfl, hp, hz, hg, fun H1 s1 => ?_⟩
  refine ⟨p, v, rfl, hp.mono (TS.of s1), hz, hd, hn, fun a rs A' L H2 s2 ha pa lk hl => ?_⟩
  refine ⟨_, rfl, p, v, rfl, hp.mono (TS.of (s1.trans s2)), fun t0 H3 s3 u0 => ?_⟩
  have aat : ∀ {Ha : Hp}, Same H2 Ha → AAt Ha A' L := fun e => Paired.mapP pa fun _ _ y => e _ _ y
  refine ⟨_, rfl, _, rfl, p, rs, A', L, a, 0, ([.pat p], 0), .ref t0, z, rfl, s3 _ _ ha, aat s3, lk, hl, lk.hd, u0, (by show 1 ≤ 1000; decide), Nat.zero_le _, hzl, fun x0 l0 H4 s4 nx0 nl0 st0 => ?_⟩
  refine ⟨sz (by show 1 ≤ 10000; decide), fun lp nlp => ?_⟩
  intro dd ndd
  have sA : Same H H3 := (s1.trans s2).trans s3
  have haB : H3 a = some (.lst (L.map V.ref)) := s3 _ _ ha
  have paB : AAt H3 A' L := aat s3
  have nlpB : H3 lp = none := s4.free nlp
  have nddB : H3 dd = none := (s4.trans (same_new nlp)).free ndd
  have nlpdd : lp ≠ dd := fun e => by rw [← e, upd_same] at ndd; cases ndd
  have sB4 : Same H4 (upd (upd H4 lp (.lst [.ref x0])) dd (.dT [])) := (same_new nlp).trans (same_new ndd)
  obtain ⟨⟨dx0, kt0, sv0, n0, hx0, _⟩, ⟨ts0, hl0, _⟩⟩ := id st0
  generalize hB : H3 = Hb at *
  refine ⟨tInv K Hb T.C_Step p rs z W v a lp dd, ⟨_, [], [], none, none, none, rfl, s4.trans sB4, upd_same, .nil, ⟨List.nodup_nil, fun s hs => by cases hs⟩, .inr ⟨[], [], ([.pat p], 0), x0, l0, 0, ⟨?_, rfl, .nil, st0.same sB4, Nat.zero_le _, fun j y h => absurd h (Nat.not_lt_zero _), by simp, (fun y hy => by cases hy), ne_of_none hl0 nlp, (fun y hy => by cases hy), nx0⟩, rfl⟩⟩, ?_⟩
  · rw [upd_ne nlpdd]
    exact upd_same
  rintro m σ H5 ⟨D, kvs, x5, x6, x7, rfl, s5, hdd, pD, dOk, hcase⟩
  have start := SOk.first p z.cps.toList
  rcases hcase with ⟨hlp, hst, rfl⟩ | ⟨r, xls, t, x, l, mt, pt, rfl⟩
  · -- the path is empty
    refine ⟨_, rfl, false, .inl ⟨_, SqL.of hlp, rfl⟩, iteF (iteF ?_)⟩
    refine ⟨_, rfl, _, rfl, dd, kvs, rfl, hdd, fun dv ndv => ?_⟩
    refine ⟨sz (by show 2 ≤ 10000; decide), fun tt ntt => ?_⟩
    refine q tt lp dv _ ((sA.trans s5).trans ((same_new ndv).trans (same_new ntt))) upd_same (.inl ⟨?_, dOk.no hst⟩)
    exact same_new ntt _ _ (same_new ndv _ _ hlp)
  · obtain ⟨nodT, okT⟩ := Chain.nodup hn start pt.ch
    have tOk : SOk p z.cps.toList t := (okT t (by simp)).2
    have rokT := aok t.1 tOk.1
    have few : r.length < 3000000 := by
      have h1 := states_few nodT (fun s hs => (okT s hs).2) hz (by rw [str_len]; exact hzl)
      rw [List.length_append, List.length_map] at h1
      omega
    have lxr : r.length = xls.length := Paired.length pt.st
    obtain ⟨⟨dx, kt, sv, n, hx, hkt, hrn, hsv⟩, ⟨ts, hts, pts⟩⟩ := pt.tp
    have lts : (step z.cps.toList t).length = ts.length := Paired.length pts
    refine ⟨_, rfl, true, .inl ⟨_, SqL.of pt.hl, by simp⟩, iteT ?_⟩
    refine ⟨_, rfl, _, rfl, lp, _, _, .ref x, rfl, rfl, SqL.of pt.hl, atI_last _ _, x, T.C_Step, dx, _, _, rfl, hx, T.cl_Step, T.no_Step_state, sfl_state _ _ _ _, ?_⟩
    refine ⟨_, rfl, t, sv, z, rfl, hsv, fun u hu => Nat.le_trans (rokT.gd u hu) hd, hzl, fun H6 s6 => ?_⟩
    refine ⟨_, rfl, ?_⟩
    have s56 : Same H5 H6 := s6
    have hdd6 := s6 _ _ hdd
    have pD6 := pD.mono (TS.of (K := K) s6)
    have hlp6 := s6 _ _ pt.hl
    have st6 := pt.st.same s6
    have tp6 := pt.tp.same s6
    have hx6 := s6 _ _ hx
    have hkt6 := s6 _ _ hkt
    have hsv6 := hsv.mono (TS.of (K := K) s6)
    have hts6 := s6 _ _ hts
    have sB6 := s5.trans s6
    cases he : isEnd z t with
    | true =>
      refine iteF ?_
      have et := (isEnd_iff z t).mp he
      subst et
      refine ⟨_, rfl, _, rfl, dd, kvs, rfl, hdd6, fun dv ndv => ?_⟩
      refine ⟨sz (by show 2 ≤ 10000; decide), fun tt ntt => ?_⟩
      have s78 := (same_new (o := .lst (kvs.map (·.2))) ndv).trans (same_new (o := .tup [.ref lp, .ref dv]) ntt)
      have hm0 : mt = 0 := by
        have := pt.le
        rw [step_end] at this
        exact Nat.le_zero.mp this
      subst hm0
      exact q tt lp dv _ ((sA.trans sB6).trans s78) upd_same (.inr ⟨rs, r, xls, x, l, Chain.first (fun s hs => dOk.no hs) pt.ch, s78 _ _ hlp6, st6.same s78, tp6.same s78, Nat.le_of_lt few, Chain.le1 pt.ch⟩)
    | false =>
      refine iteT ?_
      have ne : t ≠ endS z.cps.toList := fun e => by rw [(isEnd_iff z t).mpr e] at he; cases he
      refine ⟨fun σ' H' => ∃ m', m' < below W z.cps.toList r + 1 + rem W z.cps.toList t mt ∧ tInv K Hb T.C_Step p rs z W v a lp dd m' σ' H', fun _ _ h => h, ?_⟩
      refine ⟨_, rfl, _, rfl, lp, _, _, .ref x, rfl, rfl, SqL.of hlp6, atI_last _ _, ?_⟩
      refine ⟨_, rfl, x, T.C_Step, dx, _, _, rfl, hx6, T.cl_Step, T.no_Step_choice, sfl_choice _ _ _ _, _, _, rfl, rfl, dx, _, hx6, (by show 4 < 1000; decide), ?_⟩
      rw [sfl_put, show ((mt : Int) - 1 + 1) = (mt : Int) by omega]
      -- the step's choice is the next one
      have b7 : But x H6 (upd H6 x (.ins T.C_Step dx (sfl kt sv l (mt : Int)))) := But.upd'
      have hx7 : upd H6 x (.ins T.C_Step dx (sfl kt sv l (mt : Int))) x = some (.ins T.C_Step dx (sfl kt sv l (mt : Int))) := upd_same
      generalize upd H6 x (.ins T.C_Step dx (sfl kt sv l (mt : Int))) = H7 at b7 hx7 ⊢
      have xlp : lp ≠ x := fun e => by rw [e, hx6] at hlp6; cases hlp6
      have xdd : dd ≠ x := fun e => by rw [e, hx6] at hdd6; cases hdd6
      have xl : l ≠ x := fun e => by rw [e, hx6] at hts6; cases hts6
      have xkt : kt ≠ x := fun e => by rw [e, hx6] at hkt6; cases hkt6
      have s7 : Same Hb H7 := But.same sB6 pt.n2 b7
      have hlp7 := b7 _ _ xlp hlp6
      have hdd7 := b7 _ _ xdd hdd6
      have hts7 := b7 _ _ xl hts6
      have hkt7 := b7 _ _ xkt hkt6
      have t7 : TS K H6 H7 := ts_but hx6 nt_ins b7
      have hsv7 := hsv6.mono t7
      have pD7 := pD6.mono t7
      have nodX : ∀ y ∈ xls, y.1 ≠ x := fun y hy e => by
        have h1 := (List.nodup_append.mp pt.nd).2.2 y.1 (List.mem_map.mpr ⟨y, hy, rfl⟩) x (by simp)
        exact h1 e
      have lsX : ∀ {r' : List (Sta × Nat)} {xls' : List (Addr × Addr)}, StepsAt K H6 T.C_Step rs z.cps.toList r' xls' → ∀ y ∈ xls', y.2 ≠ x := by
        intro r' xls' h
        induction h with
        | nil => intro y hy; cases hy
        | cons f _ ih =>
          intro y hy
          rcases List.mem_cons.mp hy with rfl | hy
          · obtain ⟨_, ⟨ts', hl', _⟩⟩ := f
            intro e
            rw [e, hx6] at hl'
            cases hl'
          · exact ih y hy
      have st7 := st6.but hx6 nt_ins b7 fun y hy => ⟨nodX y hy, lsX st6 y hy⟩
      have fol7 : FolAt K H7 rs (step z.cps.toList t) l := tp6.fol.but hx6 nt_ins b7 xl
      have tp7 : StepAt K H7 T.C_Step rs z.cps.toList t x l (mt : Int) := ⟨⟨dx, kt, sv, n, hx7, hkt7, hrn, hsv7⟩, fol7⟩
      obtain ⟨ts7, hts7', pts7⟩ := id fol7
      have ets : ts7 = ts := by
        rw [hts7'] at hts7
        have := HO.lst.inj (Option.some.inj hts7)
        exact List.map_inj_right (fun _ _ e => V.ref.inj e) |>.mp this
      subst ets
      refine ⟨_, rfl, x, T.C_Step, dx, _, _, rfl, hx7, T.cl_Step, T.no_Step_choice, sfl_choice _ _ _ _, _, rfl, x, T.C_Step, dx, _, _, rfl, hx7, T.cl_Step, T.no_Step_following, sfl_following _ _ _ _, l, _, rfl, .inl (SqL.of hts7'), rfl, _, rfl, ?_⟩
      have tlen : (ts7.map V.ref).length = (step z.cps.toList t).length := by rw [List.length_map, lts]
      have D1 : D.length < 3000000 := states_few dOk.nd (fun s hs => (dOk.ok s hs).1) hz (by rw [str_len]; exact hzl)
      have lD : D.length = kvs.length := Paired.length pD7
      refine ite2 (fun c => ?_) (fun c => ?_)
      · -- all were tried: it is dead
        have emt : mt = (step z.cps.toList t).length := by
          have := V.int.inj (of_decide_eq_true c)
          rw [tlen] at this
          omega
        refine ⟨_, rfl, x, T.C_Step, dx, _, _, rfl, hx7, T.cl_Step, T.no_Step_state, sfl_state _ _ _ _, _, rfl, _, rfl, x, T.C_Step, dx, _, _, rfl, hx7, T.cl_Step, T.no_Step_key, sfl_key _ _ _ _, dd, _, rfl, DPut.t (k := dkey n t.2) hdd7 hkt7 (Nat.lt_of_lt_of_le (by omega : kvs.length < 3000000) (by decide)), ?_⟩
        have b8 : But dd H7 (upd H7 dd (.dT (putK kvs (dkey n t.2) sv))) := But.upd'
        have hdd8 : upd H7 dd (.dT (putK kvs (dkey n t.2) sv)) dd = some (.dT (putK kvs (dkey n t.2) sv)) := upd_same
        have s8 : Same Hb (upd H7 dd (.dT (putK kvs (dkey n t.2) sv))) := Same.mut s7 nddB
        generalize upd H7 dd (.dT (putK kvs (dkey n t.2) sv)) = H8 at b8 hdd8 s8 ⊢
        have hlp8 := b8 _ _ nlpdd hlp7
        have t8 : TS K H7 H8 := ts_but hdd7 nt_dT b8
        have pD8 := (dead_put lk.nd hrn hsv7 pD7).mono t8
        have st8 := st7.but hdd7 nt_dT b8 (st7.neT hdd7)
        refine ⟨_, rfl, .inl ⟨rfl, _, SqL.of hlp8⟩, lp, _, .ref x, rfl, rfl, hlp8, last_get _ _, ?_⟩
        rw [List.dropLast_concat]
        have b9 : But lp H8 (upd H8 lp (.lst (refs1 xls))) := But.upd'
        have hlp9 : upd H8 lp (.lst (refs1 xls)) lp = some (.lst (refs1 xls)) := upd_same
        have s9 : Same Hb (upd H8 lp (.lst (refs1 xls))) := Same.mut s8 nlpB
        generalize upd H8 lp (.lst (refs1 xls)) = H9 at b9 hlp9 s9 ⊢
        have hdd9 := b9 _ _ nlpdd.symm hdd8
        have pD9 := pD8.mono (ts_but hlp8 nt_lst b9)
        have dOk' : DeadOk p z.cps.toList (dput D t) := dOk.put tOk ne fun s' hs' => by
          obtain ⟨j, hj⟩ := List.mem_iff_getElem?.mp hs'
          exact pt.dd j s' (by rw [emt]; exact (List.getElem?_eq_some_iff.mp hj).1) hj
        have st9 := st8.but hlp8 nt_lst b9 fun u hu => ⟨st8.neL hlp8 u hu, pt.fl u hu⟩
        by_cases r0 : r.length = 0
        · have er : r = [] := List.length_eq_zero_iff.mp r0
          have exl : xls = [] := List.length_eq_zero_iff.mp (by omega)
          refine ⟨0, by omega, dput D t, _, _, _, _, rfl, s9, hdd9, pD9, dOk', .inl ⟨?_, ?_, rfl⟩⟩
          · rw [hlp9, exl]
            rfl
          · have e0 := pt.ch
            rw [er] at e0
            have e1 : ([.pat p], 0) = t := e0
            rw [e1]
            exact (mem_dput D t t).mpr (.inr rfl)
        · obtain ⟨r1, ⟨s', c'⟩, xls1, ⟨y1, ly1⟩, er, ex, pr, pq⟩ := Paired.last st9 (Nat.pos_of_ne_zero r0)
          have ch := pt.ch
          rw [er] at ch
          obtain ⟨u1, u2, u3⟩ := Chain.unsnoc ch
          have hnd := pt.nd
          rw [ex, List.map_append] at hnd
          have D2 : ∀ w, w ∈ D → w ∈ dput D t := fun w hw => (mem_dput D t w).mpr (.inl hw)
          refine ⟨below W z.cps.toList r1 + 1 + rem W z.cps.toList s' (c' + 1), ?_, dput D t, _, _, _, _, rfl, s9, hdd9, pD9, dOk', .inr ⟨r1, xls1, s', y1, ly1, c' + 1, ⟨?_, u1.mono D2, pr, ?_, (List.getElem?_eq_some_iff.mp u2).1, fun j y hj hy => ?_, (List.nodup_append.mp hnd).1, fun y hy => pt.fl y (by rw [ex]; simp [hy]), pt.fl (y1, ly1) (by rw [ex]; simp), fun y hy => pt.nb y (by rw [ex]; simp [hy]), pt.nb (y1, ly1) (by rw [ex]; simp)⟩, rfl⟩⟩
          · rw [er, below_snoc]
            omega
          · rw [hlp9, ex]
            unfold refs1
            rw [List.map_append]
            rfl
          · have e : (((c' + 1 : Nat) : Int) - 1) = (c' : Int) := by omega
            rw [e]
            exact pq
          · by_cases hj2 : j < c'
            · exact D2 y (u3 j y hj2 hy)
            · obtain rfl : j = c' := by omega
              rw [u2] at hy
              cases Option.some.inj hy
              exact (mem_dput D t t).mpr (.inr rfl)
      · -- the next one
        have hlt : mt < (step z.cps.toList t).length := by
          have h1 := pt.le
          have h2 : mt ≠ (step z.cps.toList t).length := fun e => c (by rw [tlen, e]; exact decide_eq_true rfl)
          omega
        obtain ⟨s', hs'⟩ : ∃ s', (step z.cps.toList t)[mt]? = some s' := ⟨_, List.getElem?_eq_getElem hlt⟩
        obtain ⟨tt, htt, n', v', ht', hn', hv'⟩ := LiI.paired_get pts7 hs'
        have s'Ok := tOk.step hn s' (List.mem_of_getElem? hs')
        have rok' := aok s'.1 s'Ok.1
        have hrem := rem_at (T := W) hs'
        refine ⟨_, rfl, x, T.C_Step, dx, _, _, rfl, hx7, T.cl_Step, T.no_Step_following, sfl_following _ _ _ _, _, rfl, x, T.C_Step, dx, _, _, rfl, hx7, T.cl_Step, T.no_Step_choice, sfl_choice _ _ _ _, l, _, _, .ref tt, rfl, rfl, SqL.of hts7', atI_nat (by rw [List.getElem?_map, htt]; rfl), ?_⟩
        refine ⟨tt, _, rfl, SqT.of ht', rfl, _, _, rfl, _, _, rfl, rfl, ?_⟩
        obtain ⟨a', y', rfl, ha', hr'⟩ := id hv'
        refine ⟨_, rfl, _, rfl, _, _, _, _, rfl, rfl, ha', at1 rfl, sz (by show 2 ≤ 10000; decide), fun k8 nk8 => ?_⟩
        have e8 := same_new (o := .tup [.int (n' : Int), .int (s'.2 : Int)]) nk8
        have hk8 : upd H7 k8 (.tup [.int (n' : Int), .int (s'.2 : Int)]) k8 = some (.tup ((dkey n' s'.2).map kV)) := upd_same
        generalize upd H7 k8 (.tup [.int (n' : Int), .int (s'.2 : Int)]) = H8 at e8 hk8 ⊢
        have hdd8 := e8 _ _ hdd7
        have hlp8 := e8 _ _ hlp7
        have pD8 := pD7.mono (TS.of (K := K) e8)
        have st8 := st7.same e8
        have tp8 := tp7.same e8
        have s8 := s7.trans e8
        have hg8 := dead_get lk.nd hn' pD8
        refine ⟨_, rfl, dd, _, rfl, DGet.t (k := dkey n' s'.2) hdd8 hk8, _, rfl, ?_⟩
        refine ite2 (fun c2 => ?_) (fun c2 => ?_)
        · -- it is not dead: a step further
          have nD : s' ∉ D := fun hm => by
            rw [hg8.mpr hm] at c2
            cases c2
          refine ⟨_, rfl, .inl ⟨rfl, _, SqL.of hlp8⟩, _, rfl, _, rfl, _, rfl, _, rfl, p, rs, A', L, a, n', s', _, z, rfl, s8 _ _ haB, Paired.mapP paB fun _ _ y => s8 _ _ y, lk, hl, hn', hv'.mono (TS.of e8), Nat.le_trans rok'.len (by omega), (by have := s'Ok.2; rw [str_len] at this; exact this), hzl, fun x' l' H9 s9 nx' nl' st' => ?_⟩
          have hlp9 := s9 _ _ hlp8
          have lq : (refs1 xls ++ [V.ref x]).length < 3000001 := by
            unfold refs1
            rw [List.length_append, List.length_map]
            show xls.length + 1 < 3000001
            omega
          refine ⟨lp, _, _, rfl, rfl, hlp9, Nat.lt_of_lt_of_le lq (by decide), ?_⟩
          have b10 : But lp H9 (upd H9 lp (.lst (refs1 xls ++ [.ref x] ++ [.ref x']))) := But.upd'
          have hlp10 : upd H9 lp (.lst (refs1 xls ++ [.ref x] ++ [.ref x'])) lp = some (.lst (refs1 xls ++ [.ref x] ++ [.ref x'])) := upd_same
          have s10 : Same Hb (upd H9 lp (.lst (refs1 xls ++ [.ref x] ++ [.ref x']))) := Same.mut (s8.trans s9) nlpB
          generalize upd H9 lp (.lst (refs1 xls ++ [.ref x] ++ [.ref x'])) = H10 at b10 hlp10 s10 ⊢
          have hdd9 := s9 _ _ hdd8
          have hdd10 := b10 _ _ nlpdd.symm hdd9
          have pD10 := (pD8.mono (TS.of (K := K) s9)).mono (ts_but hlp9 nt_lst b10)
          have st9 := st8.same s9
          have st10 := st9.but hlp9 nt_lst b10 fun u hu => ⟨st9.neL hlp9 u hu, pt.fl u hu⟩
          have tp10 := (tp8.same s9).but hlp9 nt_lst b10 xlp.symm pt.f2
          have nx'lp : x' ≠ lp := fun e => by rw [e, hlp8] at nx'; cases nx'
          have nl'lp : l' ≠ lp := fun e => by rw [e, hlp8] at nl'; cases nl'
          have st10' := st'.but hlp9 nt_lst b10 nx'lp nl'lp
          refine ⟨below W z.cps.toList (r ++ [(t, mt)]) + 1 + rem W z.cps.toList s' 0, ?_, D, kvs, _, _, _, rfl, s10, hdd10, pD10, dOk, .inr ⟨r ++ [(t, mt)], xls ++ [(x, l)], s', x', l', 0, ⟨?_, pt.ch.snoc hs' pt.dd, Paired.snoc st10 tp10, st10', Nat.zero_le _, fun j y h => absurd h (Nat.not_lt_zero _), ?_, ?_, nl'lp, ?_, s8.free nx'⟩, rfl⟩⟩
          · rw [below_snoc, hrem]
            have := hW s' s'Ok
            have e : rem W z.cps.toList s' 0 = ((step z.cps.toList s').map fun s' => 1 + W s').sum := rfl
            omega
          · rw [hlp10]
            unfold refs1
            rw [List.map_append]
            rfl
          · rw [List.map_append]
            show (xls.map (·.1) ++ [x] ++ [x']).Nodup
            rw [List.nodup_append]
            refine ⟨pt.nd, by simp, fun u hu w hw e => ?_⟩
            rw [List.mem_singleton.mp hw] at e
            rw [e] at hu
            rcases List.mem_append.mp hu with hu | hu
            · obtain ⟨y, hy, ey⟩ := List.mem_map.mp hu
              have hy8 : ∃ o, H8 y.1 = some o := by
                obtain ⟨j, q, hj1, hj2, f⟩ := LiI.paired_ix (Paired.rev' st8) hy
                obtain ⟨⟨dx', _, _, _, h1, _⟩, _⟩ := f
                exact ⟨_, h1⟩
              obtain ⟨o, ho⟩ := hy8
              rw [ey, nx'] at ho
              cases ho
            · rw [List.mem_singleton.mp hu] at nx'
              obtain ⟨⟨_, _, _, _, h1, _⟩, _⟩ := tp8
              rw [nx'] at h1
              cases h1
          · intro y hy
            rcases List.mem_append.mp hy with z1 | z1
            · exact pt.fl y z1
            · rw [List.mem_singleton.mp z1]
              exact pt.f2
          · intro y hy
            rcases List.mem_append.mp hy with z1 | z1
            · exact pt.nb y z1
            · rw [List.mem_singleton.mp z1]
              exact pt.n2
        · -- it is dead: the next choice
          have hD : s' ∈ D := by
            refine hg8.mp ?_
            cases e : (valV kvs (dkey n' s'.2)).isSome
            · rw [e] at c2
              exact absurd rfl c2
            · rfl
          refine ⟨below W z.cps.toList r + 1 + rem W z.cps.toList t (mt + 1), by rw [hrem]; omega, D, kvs, _, _, _, rfl, s8, hdd8, pD8, dOk, .inr ⟨r, xls, t, x, l, mt + 1, ⟨hlp8, pt.ch, st8, ?_, hlt, fun j y hj hy => ?_, pt.nd, pt.fl, pt.f2, pt.nb, pt.n2⟩, rfl⟩⟩
          · have e : (((mt + 1 : Nat) : Int) - 1) = (mt : Int) := by omega
            rw [e]
            exact tp8
          · by_cases hj2 : j < mt
            · exact pt.dd j y hj2 hy
            · obtain rfl : j = mt := by omega
              rw [hs'] at hy
              cases Option.some.inj hy
              exact hD

end
end G1

set_option maxRecDepth 100000
set_option maxHeartbeats 4000000
namespace G1
open PySem PySem.Spec PyProof.Rows L2 Gm
section
variable {P : Program} {w : World} {K : PySem.W.Frag} {mg : Str → Option Value} {base : Heap}
def sp_first_way (K : PySem.W.Frag) : Sp := fun vs H Q _ => ∃ (p : Pat) (v : V) (z : Str), vs = [v, .str z] ∧ PAt K H p v ∧ siz p ≤ 1000 ∧ dep p ≤ 50 ∧ goodP p ∧ z.length ≤ 1000 ∧
  ∀ (x : V) (H' : Hp), Same H H' → ((x = .non ∧ ¬ Reach z.cps.toList ([.pat p], 0)) ∨ ∃ (a : Addr) (ws : List Nat), x = .ref a ∧ H a = none ∧ H' a = some (.lst (nat2 ws)) ∧ First z.cps.toList ([.pat p], 0) ws ∧ ws.length ≤ 3000000 ∧ (∀ c ∈ ws, c ≤ 1)) → Q x H'
theorem wayOf_snoc (z : List Nat) (r : List (Sta × Nat)) (x : Sta × Nat) : wayOf z (r ++ [x]) = wayOf z r ++ (if (step z x.1).length = 2 then [x.2] else []) := by
  unfold wayOf
  rw [List.filterMap_append]
  congr 1
  by_cases h : (step z x.1).length = 2
  · rw [if_pos h]
    simp [h]
  · rw [if_neg h]
    simp [h]
theorem wayOf_len (z : List Nat) (r : List (Sta × Nat)) : (wayOf z r).length ≤ r.length := List.length_filterMap_le _ _
theorem wayOf_le (z : List Nat) (r : List (Sta × Nat)) (h : ∀ q ∈ r, q.2 ≤ 1) : ∀ c ∈ wayOf z r, c ≤ 1 := by
  intro c hc
  obtain ⟨q, hq, e⟩ := List.mem_filterMap.mp hc
  split at e
  · cases e
    exact h q hq
  · cases e
theorem ok_first_way (T : Txt w K mg) : FnOk P w K mg base CX0 6 T.f_first_way T.fd_first_way ["pattern", "text"] (sp_first_way K) := by
  refine T.F_first_way.ok sc_first_way (fun vs H Q E h => ?_) (fun cdv A outer s H vs Q E hr h => ?_)
  · obtain ⟨p, v, z, rfl, _⟩ := h
    rfl
  obtain ⟨p, v, z, rfl, hp, hz, hd, hg, hzl, q⟩ := h
  refine ⟨_, (pss_cons (ps_asg (pe_call (ok__tried T) (hr.mono (by decide)) (by rfl) T.m__tried T.F__tried.kp T.b__tried .nil pass0 (pa_cons (pv 0) (pa_cons (pv 1) pa_nil))) (pg_tup rfl (pgs_cons (pg_name (i := 2) sc_first_way.nd rfl (.inl rfl)) (pgs_cons (pg_name (i := 3) sc_first_way.nd rfl (.inl rfl)) pgs_nil))))
  (pss_cons (ps_if (pt_not (pt_truth (pv 2) (by intro _; rfl)))
    (pss_one (ps_ret pe_non))
    pss_nil)
  (pss_one (ps_ret (pe_lc (own := [("step", 4)]) (g := gName 4) (te := tFld K (tVar 4) "choice") (tt := tTest (tOp rEq (tCB (rLn K) (tCons (tFld K (tVar 4) "following") tNil)) (tC (.int 2)))) rfl sc_first_way.nd (pi_list (pv 2)) (blkOk_by (own := [("step", 4)]) (N := N_first_way) (sc := defScope s_first_way) (by decide +kernel)) (fun _ _ _ _ _ => by exact (pg_name (i := 4) sc_first_way.nd rfl (.inl rfl))) (fun _ _ _ _ _ => by exact (pts_one (pt_cmpR op_eq (pe_callB call_len_seq (by rfl) T.n_len PySem.boot_len (pa_cons (pe_fld (pv 4) rfl) pa_nil)) pe_int (nomark _)))) (fun _ _ _ _ _ => by exact (pe_fld (pv 4) rfl))))))), ?_⟩
  refine ⟨_, rfl, _, rfl, p, v, z, rfl, hp, hz, hd, hg, hzl, fun t lp dv H1 s1 ht hcase => ?_⟩
  refine ⟨t, _, rfl, SqT.of ht, rfl, _, _, rfl, _, _, rfl, rfl, ?_⟩
  rcases hcase with ⟨hlp, hno⟩ | ⟨rs, r, xls, x, l, hf, hlp, st, se, few, hle⟩
  · refine ⟨_, rfl, false, .inl ⟨_, SqL.of hlp, rfl⟩, iteT ?_⟩
    exact q .non H1 s1 (.inl ⟨rfl, hno⟩)
  · refine ⟨_, rfl, true, .inl ⟨_, SqL.of hlp, by simp⟩, iteF ?_⟩
    have lx : r.length = xls.length := Paired.length st
    refine ⟨_, rfl, lp, rfl, ⟨_, SqL.of hlp⟩, fun D nD => ?_⟩
    have lq : (refs1 xls ++ [V.ref x]).length = r.length + 1 := by
      unfold refs1
      rw [List.length_append, List.length_map, lx]
      rfl
    refine lc_list (K := K) (a := lp) (xs := refs1 xls ++ [.ref x]) (fun i H' => Same H1 H' ∧ H' D = some (.lst (nat2 (wayOf z.cps.toList (r.take i))))) ⟨same_new nD, by rw [List.take_zero]; exact upd_same⟩ (fun i H' _ hI => SqL.of (hI.1 _ _ hlp)) ?_ ?_
    · rintro i y H2 hi ⟨s2, hD⟩
      have hi' := (List.getElem?_eq_some_iff.mp hi).1
      rw [lq] at hi'
      by_cases hlt : i < r.length
      · have hxl : i < xls.length := by omega
        obtain ⟨sc, hsc, f⟩ : ∃ sc, r[i]? = some sc ∧ StepAt K H1 T.C_Step rs z.cps.toList sc.1 xls[i].1 xls[i].2 (sc.2 : Int) := by
          obtain ⟨sc, h1, h2⟩ := Paired.at st (List.getElem?_eq_getElem hxl)
          exact ⟨sc, h1, h2⟩
        have ey : y = .ref xls[i].1 := by
          unfold refs1 at hi
          rw [List.getElem?_append_left (by rw [List.length_map]; exact hxl), List.getElem?_map, List.getElem?_eq_getElem hxl] at hi
          exact (Option.some.inj hi).symm
        subst ey
        have f2 := f.same s2
        obtain ⟨⟨dx, kt, sv, n, hx, _⟩, ⟨ts, hts, pts⟩⟩ := f2
        have lts : (step z.cps.toList sc.1).length = ts.length := Paired.length pts
        have etk : r.take (i + 1) = r.take i ++ [sc] := by
          obtain ⟨h1, h2⟩ := List.getElem?_eq_some_iff.mp hsc
          rw [← List.take_append_getElem h1, h2]
        have lw : (nat2 (wayOf z.cps.toList (r.take i))).length ≤ 3000000 := by
          unfold nat2
          rw [List.length_map]
          have h1 := wayOf_len z.cps.toList (r.take i)
          rw [List.length_take] at h1
          omega
        refine ⟨rfl, ?_⟩
        refine ⟨_, rfl, _, T.C_Step, dx, _, _, rfl, hx, T.cl_Step, T.no_Step_following, sfl_following _ _ _ _, _, _, rfl, .inl (SqL.of hts), rfl, _, rfl, ?_⟩
        refine ite2 (fun c => ?_) (fun c => ?_)
        · have e2 : (step z.cps.toList sc.1).length = 2 := by
            have := V.int.inj (of_decide_eq_true c)
            rw [List.length_map] at this
            omega
          refine ⟨_, rfl, _, T.C_Step, dx, _, _, rfl, hx, T.cl_Step, T.no_Step_choice, sfl_choice _ _ _ _, _, hD, Nat.lt_of_le_of_lt lw (by decide), Same.mut s2 nD, ?_⟩
          rw [upd_same, etk, wayOf_snoc, if_pos e2]
          unfold nat2
          rw [List.map_append]
          rfl
        · have e2 : (step z.cps.toList sc.1).length ≠ 2 := fun e => c (by rw [List.length_map, ← lts, e]; exact decide_eq_true rfl)
          refine ⟨s2, ?_⟩
          rw [etk, wayOf_snoc, if_neg e2, List.append_nil]
          exact hD
      · have ei : i = xls.length := by omega
        have ey : y = .ref x := by
          unfold refs1 at hi
          rw [ei, List.getElem?_append_right (by rw [List.length_map]; exact Nat.le_refl _), List.length_map, Nat.sub_self] at hi
          exact (Option.some.inj hi).symm
        subst ey
        have f2 := se.same s2
        obtain ⟨⟨dx, kt, sv, n, hx, _⟩, ⟨ts, hts, pts⟩⟩ := f2
        have e0 : ts = [] := by
          rw [step_end] at pts
          cases pts
          rfl
        subst e0
        refine ⟨rfl, ?_⟩
        refine ⟨_, rfl, _, T.C_Step, dx, _, _, rfl, hx, T.cl_Step, T.no_Step_following, sfl_following _ _ _ _, _, _, rfl, .inl (SqL.of hts), rfl, _, rfl, ?_⟩
        refine ite2 (fun c => by cases c) (fun c => ⟨s2, ?_⟩)
        rw [List.take_of_length_le (by omega)]
        rw [List.take_of_length_le (by omega)] at hD
        exact hD
    · rintro H2 ⟨s2, hD⟩
      rw [List.take_of_length_le (by rw [lq]; omega)] at hD
      have lw := wayOf_len z.cps.toList r
      exact q (.ref D) H2 (s1.trans s2) (.inr ⟨D, _, rfl, s1.free nD, hD, hf, by omega, wayOf_le _ _ hle⟩)

end
end G1

set_option maxRecDepth 100000
set_option maxHeartbeats 4000000
namespace G1
open PySem PySem.Spec PyProof.Rows L2 Gm
section
variable {P : Program} {w : World} {K : PySem.W.Frag} {mg : Str → Option Value} {base : Heap}
theorem SAt.mk {H : Hp} {c t : Addr} {r : List Th} {k : Nat} {vs : List V} (n : H t = none) (h : SqT K H c vs) (p : TAts K H r vs) : SAt K (upd H t (.tup [.ref c, .int (k : Int)])) (r, k) (.ref t) :=
  ⟨t, .ref c, rfl, SqT.of upd_same, c, vs, rfl, TS.new n _ _ h, TAts.mono (TS.new n) p⟩
def sp_law_onward (K : PySem.W.Frag) : Sp := fun vs H Q _ => ∃ (R : List Th) (v : V) (k : Nat) (z : Str), vs = [v, .str z] ∧ SAt K H (R, k) v ∧ R.length ≤ 1000 ∧ k ≤ z.length ∧ z.length ≤ 1000 ∧
  ∀ (r : Addr) (ws : List V) (H' : Hp), Same H H' → H r = none → H' r = some (.lst ws) → SAts K H' (step z.cps.toList (R, k)) ws → Q (.ref r) H'
theorem ok__law_onward (T : Txt w K mg) : FnOk P w K mg base CX0 1 T.f__law_onward T.fd__law_onward ["_law_state", "_law_text"] (sp_law_onward K) := by
  refine T.F__law_onward.ok sc__law_onward (fun vs H Q E h => ?_) (fun cdv A outer s H vs Q E hr h => ?_)
  · obtain ⟨R, v, k, z, rfl, _⟩ := h
    rfl
  obtain ⟨rs, v, k, z, rfl, ⟨sa, sx, rfl, hs, ⟨b, ts, rfl, hb, pts⟩⟩, hl, hk, hz, q⟩ := h
  refine ⟨_, (pss_cons (ps_set (i := 2) sc__law_onward.nd rfl (.inl rfl) (pe_ix ix_tup (pv 0) pe_int (fun _ _ => rfl)))
  (pss_cons (ps_set (i := 3) sc__law_onward.nd rfl (.inl rfl) (pe_ix ix_tup (pv 0) pe_int (fun _ _ => rfl)))
  (pss_cons (ps_if (pt_cmpR op_eq (pe_callB call_len_seq (by rfl) T.n_len PySem.boot_len (pa_cons (pv 2) pa_nil)) pe_int (nomark _))
    (pss_one (ps_ret (pe_lst pa_nil)))
    pss_nil)
  (pss_cons (ps_set (i := 4) sc__law_onward.nd rfl (.inl rfl) (pe_ix ix_tup (pv 2) pe_int (fun _ _ => rfl)))
  (pss_cons (ps_set (i := 5) sc__law_onward.nd rfl (.inl rfl) (pe_slice sl_tupA (pv 2) (po_some pe_int) po_none))
  (pss_cons (ps_if (PW.pt (pw_or (pt_cmpR op_eq (pe_ix ix_tup (pv 4) pe_int (fun _ _ => rfl)) pe_str (nomark _)) (pw_or1 (pt_cmpR op_eq (pe_ix ix_tup (pv 4) pe_int (fun _ _ => rfl)) pe_str (nomark _)))))
    (pss_cons (ps_if (PW.pt (pw_or (pt_cmpR op_eq (pv 3) (pe_callB call_len (by rfl) T.n_len PySem.boot_len (pa_cons (pv 1) pa_nil)) (nomark _)) (pw_or1 (PW.pt (pw_and (pt_cmpR op_eq (pe_ix ix_tup (pv 4) pe_int (fun _ _ => rfl)) pe_str (nomark _)) (pw_and1 (pt_cmpR op_ne (pe_ix ix_tup (pv 4) pe_int (fun _ _ => rfl)) (pe_ix ix_str (pv 1) (pv 3) (fun _ _ => rfl)) (nomark _))))))))
    (pss_one (ps_ret (pe_lst pa_nil)))
    pss_nil)
  (pss_one (ps_ret (pe_lst (pa_cons (pe_tup (pa_cons (pv 5) (pa_cons (pe_op op_add (pv 3) pe_int) pa_nil))) pa_nil)))))
    pss_nil)
  (pss_cons (ps_if (pt_cmpR op_eq (pe_ix ix_tup (pv 4) pe_int (fun _ _ => rfl)) pe_str (nomark _))
    (pss_one (ps_ret (pe_lst (pa_cons (pe_tup (pa_cons (pe_op op_catA (pe_tup (pa_cons (pe_ix ix_tup (pv 4) pe_int (fun _ _ => rfl)) (pa_cons (pe_ix ix_tup (pv 4) pe_int (fun _ _ => rfl)) pa_nil))) (pv 5)) (pa_cons (pv 3) pa_nil))) pa_nil))))
    pss_nil)
  (pss_cons (ps_if (pt_cmpR op_eq (pe_ix ix_tup (pv 4) pe_int (fun _ _ => rfl)) pe_str (nomark _))
    (pss_one (ps_ret (pe_lst (pa_cons (pe_tup (pa_cons (pe_op op_catA (pe_tup (pa_cons (pe_ix ix_tup (pv 4) pe_int (fun _ _ => rfl)) pa_nil)) (pv 5)) (pa_cons (pv 3) pa_nil))) (pa_cons (pe_tup (pa_cons (pe_op op_catA (pe_tup (pa_cons (pe_ix ix_tup (pv 4) pe_int (fun _ _ => rfl)) pa_nil)) (pv 5)) (pa_cons (pv 3) pa_nil))) pa_nil)))))
    pss_nil)
  (pss_cons (ps_if (pt_cmpR op_eq (pe_ix ix_tup (pv 4) pe_int (fun _ _ => rfl)) pe_str (nomark _))
    (pss_one (ps_ret (pe_lst (pa_cons (pe_tup (pa_cons (pe_op op_catA (pe_tup (pa_cons (pe_ix ix_tup (pv 4) pe_int (fun _ _ => rfl)) (pa_cons (pv 4) pa_nil))) (pv 5)) (pa_cons (pv 3) pa_nil))) (pa_cons (pe_tup (pa_cons (pv 5) (pa_cons (pv 3) pa_nil))) pa_nil)))))
    pss_nil)
  (pss_cons (ps_if (pt_cmpR op_eq (pe_ix ix_tup (pv 4) pe_int (fun _ _ => rfl)) pe_str (nomark _))
    (pss_one (ps_ret (pe_lst (pa_cons (pe_tup (pa_cons (pv 5) (pa_cons (pv 3) pa_nil))) (pa_cons (pe_tup (pa_cons (pe_op op_catA (pe_tup (pa_cons (pe_ix ix_tup (pv 4) pe_int (fun _ _ => rfl)) (pa_cons (pv 4) pa_nil))) (pv 5)) (pa_cons (pv 3) pa_nil))) pa_nil)))))
    pss_nil)
  (pss_cons (ps_if (pt_cmpR op_eq (pe_ix ix_tup (pv 4) pe_int (fun _ _ => rfl)) pe_str (nomark _))
    (pss_one (ps_ret (pe_lst (pa_cons (pe_tup (pa_cons (pe_op op_catA (pe_tup (pa_cons (pe_ix ix_tup (pv 4) pe_int (fun _ _ => rfl)) (pa_cons (pe_tup (pa_cons pe_str (pa_cons (pe_ix ix_tup (pv 4) pe_int (fun _ _ => rfl)) pa_nil))) pa_nil))) (pv 5)) (pa_cons (pv 3) pa_nil))) pa_nil))))
    pss_nil)
  (pss_one (ps_ret (pe_lst (pa_cons (pe_tup (pa_cons (pv 5) (pa_cons (pv 3) pa_nil))) pa_nil))))))))))))))), ?_⟩
  refine ⟨_, rfl, _, _, _, _, rfl, rfl, hs, at0 rfl, _, rfl, _, _, _, _, rfl, rfl, hs, at1 rfl, ?_⟩
  refine ⟨_, rfl, b, _, rfl, .inr hb, rfl, _, rfl, ?_⟩
  cases pts with
  | nil =>
    refine iteT ?_
    exact ⟨Nat.zero_le _, fun r nr => q r _ _ (same_new nr) nr upd_same .nil⟩
  | @cons t tv R vR ht pR =>
    refine ite2 (fun c => ?_) (fun _ => ?_)
    · have c' := V.int.inj (of_decide_eq_true c)
      rw [List.length_cons] at c'
      omega
    have lR : R.length = vR.length := Paired.length pR
    rw [List.length_cons] at hl
    refine ⟨_, rfl, _, _, _, _, rfl, rfl, hb, at0 rfl, ?_⟩
    refine ⟨_, rfl, _, rfl, b, _, rfl, hb, fun h => absurd h (not_whole _ _), fun _ bb nbb => ?_⟩
    rw [cut_tail]
    have s1 := same_new (o := .tup vR) nbb
    have hbb : SqT K (upd H bb (.tup vR)) bb vR := SqT.of upd_same
    have ht1 := ht.mono (TS.of (K := K) s1)
    have pR1 := TAts.mono (TS.of (K := K) s1) pR
    generalize upd H bb (.tup vR) = H1 at s1 hbb ht1 pR1
    have beh : ∀ {H2 : Hp} {t2 : Addr} {k' : Nat}, Same H1 H2 → (n2 : H2 t2 = none) → SAt K (upd H2 t2 (.tup [.ref bb, .int (k' : Int)])) (R, k') (.ref t2) := fun s2 n2 =>
      SAt.mk n2 (TS.of (K := K) s2 _ _ hbb) (TAts.mono (TS.of s2) pR1)
    cases t with
    | close n =>
      obtain ⟨c, rfl, hc⟩ := ht1
      refine ⟨_, rfl, _, _, _, _, rfl, rfl, hc, at0 rfl, rfl, _, rfl, iteF ?_⟩
      refine ⟨_, rfl, _, _, _, _, rfl, rfl, hc, at0 rfl, rfl, _, rfl, iteF ?_⟩
      refine ⟨_, rfl, _, _, _, _, rfl, rfl, hc, at0 rfl, rfl, _, rfl, iteF ?_⟩
      refine ⟨_, rfl, _, _, _, _, rfl, rfl, hc, at0 rfl, rfl, _, rfl, iteF ?_⟩
      refine ⟨_, rfl, _, _, _, _, rfl, rfl, hc, at0 rfl, rfl, _, rfl, iteF ?_⟩
      refine ⟨_, rfl, _, _, _, _, rfl, rfl, hc, at0 rfl, rfl, _, rfl, iteF ?_⟩
      refine ⟨_, rfl, _, _, _, _, rfl, rfl, hc, at0 rfl, rfl, _, rfl, iteF ?_⟩
      refine ⟨_, rfl, _, rfl, sz (by show 2 ≤ 10000; decide), fun t2 n2 => ⟨sz (by show 1 ≤ 10000; decide), fun r nr => ?_⟩⟩
      have s2 := (same_new (o := .tup [.ref bb, .int (k : Int)]) n2).trans (same_new (o := .lst [.ref t2]) nr)
      exact q r _ _ (s1.trans s2) (s1.free ((same_new n2).free nr)) upd_same (.cons ((beh (Same.refl _) n2).mono (TS.new nr)) .nil)
    | pat p =>
      obtain ⟨c, ws, rfl, hc, _⟩ := PAt.node ht1
      cases p with
      | sign c0 =>
        refine ⟨_, rfl, _, _, _, _, rfl, rfl, hc, at0 rfl, rfl, _, rfl, iteT (iteT ?_)⟩
        refine ⟨_, rfl, _, rfl, _, _, rfl, ⟨sz (by omega), rfl⟩, rfl, _, rfl, ?_⟩
        refine ite2 (fun e => ?_) (fun e => ?_)
        · refine iteT ?_
          refine ⟨Nat.zero_le _, fun r nr => q r _ _ (s1.trans (same_new nr)) (s1.free nr) upd_same ?_⟩
          have e' := V.int.inj (of_decide_eq_true e)
          have hn : z.cps.toList[k]? = none := List.getElem?_eq_none (by rw [str_len]; omega)
          show SAts K _ (if z.cps.toList[k]? = some c0 then [(R, k + 1)] else []) []
          rw [hn, if_neg (fun z => nomatch z)]
          exact .nil
        · have e' : (k : Int) ≠ ((z.length : Nat) : Int) := fun h => e (decide_eq_true (by rw [h]))
          have hk' : k < z.cps.toList.length := by
            rw [str_len]
            omega
          refine ⟨_, rfl, _, _, _, _, rfl, rfl, hc, at0 rfl, rfl, _, rfl, iteT ?_⟩
          refine ⟨_, rfl, _, _, _, _, rfl, rfl, hc, at1 rfl, _, rfl, _, rfl, z, _, z.cps.toList[k], rfl, rfl, sz (by omega), atI_nat (List.getElem?_eq_getElem hk'), rfl, _, rfl, ?_⟩
          refine ite2 (fun d => ?_) (fun d => ?_)
          · refine ⟨Nat.zero_le _, fun r nr => q r _ _ (s1.trans (same_new nr)) (s1.free nr) upd_same ?_⟩
            have hne : ¬ z.cps.toList[k]? = some c0 := fun h => by
              rw [List.getElem?_eq_getElem hk'] at h
              have h' := Option.some.inj h
              rw [h'] at d
              exact absurd d (by rw [decide_eq_true rfl]; decide)
            show SAts K _ (if z.cps.toList[k]? = some c0 then [(R, k + 1)] else []) []
            rw [if_neg hne]
            exact .nil
          · have heq : z.cps.toList[k]? = some c0 := by
              rw [List.getElem?_eq_getElem hk']
              have d' : decide (V.str ⟨#[c0]⟩ = V.str ⟨#[z.cps.toList[k]]⟩) = true := by
                cases hd : decide (V.str ⟨#[c0]⟩ = V.str ⟨#[z.cps.toList[k]]⟩) with
                | true => rfl
                | false => exact absurd (by show (!decide (V.str ⟨#[c0]⟩ = V.str ⟨#[z.cps.toList[k]]⟩)) = true; rw [hd]; rfl) d
              have d2 := congrArg (fun s : Str => s.cps.toList) (V.str.inj (of_decide_eq_true d'))
              simp at d2
              rw [d2]
              simp
            refine ⟨_, rfl, _, rfl, _, _, rfl, rfl, sz (by show 2 ≤ 10000; decide), fun t2 n2 => ⟨sz (by show 1 ≤ 10000; decide), fun r nr => ?_⟩⟩
            have s2 := (same_new (o := .tup [.ref bb, .int ((k : Int) + 1)]) n2).trans (same_new (o := .lst [.ref t2]) nr)
            refine q r _ _ (s1.trans s2) (s1.free ((same_new n2).free nr)) upd_same ?_
            show SAts K _ (if z.cps.toList[k]? = some c0 then [(R, k + 1)] else []) [.ref t2]
            rw [if_pos heq]
            exact .cons ((beh (k' := k + 1) (Same.refl _) n2).mono (TS.new nr)) .nil
      | any =>
        refine ⟨_, rfl, _, _, _, _, rfl, rfl, hc, at0 rfl, rfl, _, rfl, iteF ?_⟩
        refine ⟨_, rfl, _, _, _, _, rfl, rfl, hc, at0 rfl, rfl, _, rfl, iteT ?_⟩
        refine ⟨_, rfl, _, rfl, _, _, rfl, ⟨sz (by omega), rfl⟩, rfl, _, rfl, ?_⟩
        refine ite2 (fun e => ?_) (fun e => ?_)
        · refine iteT ?_
          refine ⟨Nat.zero_le _, fun r nr => q r _ _ (s1.trans (same_new nr)) (s1.free nr) upd_same ?_⟩
          have e' := V.int.inj (of_decide_eq_true e)
          show SAts K _ (if k < z.cps.toList.length then [(R, k + 1)] else []) []
          rw [if_neg (by rw [str_len]; omega)]
          exact .nil
        · have e' : (k : Int) ≠ ((z.length : Nat) : Int) := fun h => e (decide_eq_true (by rw [h]))
          refine ⟨_, rfl, _, _, _, _, rfl, rfl, hc, at0 rfl, rfl, _, rfl, iteF (iteF ?_)⟩
          refine ⟨_, rfl, _, rfl, _, _, rfl, rfl, sz (by show 2 ≤ 10000; decide), fun t2 n2 => ⟨sz (by show 1 ≤ 10000; decide), fun r nr => ?_⟩⟩
          have s2 := (same_new (o := .tup [.ref bb, .int ((k : Int) + 1)]) n2).trans (same_new (o := .lst [.ref t2]) nr)
          refine q r _ _ (s1.trans s2) (s1.free ((same_new n2).free nr)) upd_same ?_
          show SAts K _ (if k < z.cps.toList.length then [(R, k + 1)] else []) [.ref t2]
          rw [if_pos (by rw [str_len]; omega)]
          exact .cons ((beh (k' := k + 1) (Same.refl _) n2).mono (TS.new nr)) .nil
      | none =>
        refine ⟨_, rfl, _, _, _, _, rfl, rfl, hc, at0 rfl, rfl, _, rfl, iteF ?_⟩
        refine ⟨_, rfl, _, _, _, _, rfl, rfl, hc, at0 rfl, rfl, _, rfl, iteF ?_⟩
        refine ⟨_, rfl, _, _, _, _, rfl, rfl, hc, at0 rfl, rfl, _, rfl, iteF ?_⟩
        refine ⟨_, rfl, _, _, _, _, rfl, rfl, hc, at0 rfl, rfl, _, rfl, iteF ?_⟩
        refine ⟨_, rfl, _, _, _, _, rfl, rfl, hc, at0 rfl, rfl, _, rfl, iteF ?_⟩
        refine ⟨_, rfl, _, _, _, _, rfl, rfl, hc, at0 rfl, rfl, _, rfl, iteF ?_⟩
        refine ⟨_, rfl, _, _, _, _, rfl, rfl, hc, at0 rfl, rfl, _, rfl, iteF ?_⟩
        refine ⟨_, rfl, _, rfl, sz (by show 2 ≤ 10000; decide), fun t2 n2 => ⟨sz (by show 1 ≤ 10000; decide), fun r nr => ?_⟩⟩
        have s2 := (same_new (o := .tup [.ref bb, .int (k : Int)]) n2).trans (same_new (o := .lst [.ref t2]) nr)
        exact q r _ _ (s1.trans s2) (s1.free ((same_new n2).free nr)) upd_same (.cons ((beh (Same.refl _) n2).mono (TS.new nr)) .nil)
      | row p1 p2 =>
        obtain ⟨_, x, y, e0, hx, u1, u2⟩ := ht1
        cases e0
        refine ⟨_, rfl, _, _, _, _, rfl, rfl, hx, at0 rfl, rfl, _, rfl, iteF ?_⟩
        refine ⟨_, rfl, _, _, _, _, rfl, rfl, hx, at0 rfl, rfl, _, rfl, iteF ?_⟩
        refine ⟨_, rfl, _, _, _, _, rfl, rfl, hx, at0 rfl, rfl, _, rfl, iteT ?_⟩
        refine ⟨_, rfl, _, _, _, _, rfl, rfl, hx, at1 rfl, _, rfl, _, _, _, _, rfl, rfl, hx, at2 rfl, sz (by show 2 ≤ 10000; decide), fun t1 n1 => ⟨_, rfl, ?_⟩⟩
        have sA := same_new (o := .tup [x, y]) n1
        refine r_catA (SqT.of upd_same) (TS.of (K := K) sA _ _ hbb) (sz (by show 2 + vR.length ≤ 10000; omega)) (fun cc H3 s3 hcc => ?_)
        refine ⟨_, rfl, sz (by show 2 ≤ 10000; decide), fun t2 n2 => ⟨sz (by show 1 ≤ 10000; decide), fun r nr => ?_⟩⟩
        have sB := sA.trans s3
        have s2 := sB.trans ((same_new (o := .tup [.ref cc, .int (k : Int)]) n2).trans (same_new (o := .lst [.ref t2]) nr))
        refine q r _ _ (s1.trans s2) (s1.free (sB.free ((same_new n2).free nr))) upd_same (.cons ((SAt.mk n2 hcc ?_).mono (TS.new nr)) .nil)
        exact .cons (show TAt K H3 (.pat p1) x from u1.mono (TS.of sB)) (.cons (show TAt K H3 (.pat p2) y from u2.mono (TS.of sB)) (TAts.mono (TS.of sB) pR1))
      | or p1 p2 =>
        obtain ⟨_, x, y, e0, hx, u1, u2⟩ := ht1
        cases e0
        refine ⟨_, rfl, _, _, _, _, rfl, rfl, hx, at0 rfl, rfl, _, rfl, iteF ?_⟩
        refine ⟨_, rfl, _, _, _, _, rfl, rfl, hx, at0 rfl, rfl, _, rfl, iteF ?_⟩
        refine ⟨_, rfl, _, _, _, _, rfl, rfl, hx, at0 rfl, rfl, _, rfl, iteF ?_⟩
        refine ⟨_, rfl, _, _, _, _, rfl, rfl, hx, at0 rfl, rfl, _, rfl, iteT ?_⟩
        refine ⟨_, rfl, _, _, _, _, rfl, rfl, hx, at1 rfl, sz (by show 1 ≤ 10000; decide), fun t1 n1 => ⟨_, rfl, ?_⟩⟩
        have sA := same_new (o := .tup [x]) n1
        refine r_catA (SqT.of upd_same) (TS.of (K := K) sA _ _ hbb) (sz (by show 1 + vR.length ≤ 10000; omega)) (fun cc H3 s3 hcc => ?_)
        have sB := sA.trans s3
        refine ⟨_, rfl, sz (by show 2 ≤ 10000; decide), fun t2 n2 => ?_⟩
        have sC := sB.trans (same_new (o := .tup [.ref cc, .int (k : Int)]) n2)
        have a1 : SAt K (upd H3 t2 (.tup [.ref cc, .int (k : Int)])) (.pat p1 :: R, k) (.ref t2) := SAt.mk n2 hcc (.cons (show TAt K H3 (.pat p1) x from u1.mono (TS.of sB)) (TAts.mono (TS.of sB) pR1))
        have hxC := TS.of (K := K) sC _ _ hx
        refine ⟨_, rfl, _, _, _, _, rfl, rfl, hxC, at2 rfl, sz (by show 1 ≤ 10000; decide), fun t3 n3 => ⟨_, rfl, ?_⟩⟩
        have sD := sC.trans (same_new (o := .tup [y]) n3)
        refine r_catA (SqT.of upd_same) (TS.of (K := K) sD _ _ hbb) (sz (by show 1 + vR.length ≤ 10000; omega)) (fun cc2 H5 s5 hcc2 => ?_)
        have sE := sD.trans s5
        refine ⟨_, rfl, sz (by show 2 ≤ 10000; decide), fun t4 n4 => ⟨sz (by show 2 ≤ 10000; decide), fun r nr => ?_⟩⟩
        have sF := (same_new (o := .tup [.ref cc2, .int (k : Int)]) n4).trans (same_new (o := .lst [.ref t2, .ref t4]) nr)
        refine q r _ _ (s1.trans (sE.trans sF)) (s1.free (sE.free ((same_new n4).free nr))) upd_same (.cons (a1.mono (TS.of ((same_new (o := .tup [y]) n3).trans (s5.trans sF)))) (.cons ((SAt.mk n4 hcc2 ?_).mono (TS.new nr)) .nil))
        exact .cons (show TAt K H5 (.pat p2) y from u2.mono (TS.of sE)) (TAts.mono (TS.of sE) pR1)
      | more p1 =>
        have hm : TAt K H1 (.pat (.more p1)) (.ref c) := ht1
        obtain ⟨_, x, e0, hx, u1⟩ := ht1
        cases e0
        refine ⟨_, rfl, _, _, _, _, rfl, rfl, hx, at0 rfl, rfl, _, rfl, iteF ?_⟩
        refine ⟨_, rfl, _, _, _, _, rfl, rfl, hx, at0 rfl, rfl, _, rfl, iteF ?_⟩
        refine ⟨_, rfl, _, _, _, _, rfl, rfl, hx, at0 rfl, rfl, _, rfl, iteF ?_⟩
        refine ⟨_, rfl, _, _, _, _, rfl, rfl, hx, at0 rfl, rfl, _, rfl, iteF ?_⟩
        refine ⟨_, rfl, _, _, _, _, rfl, rfl, hx, at0 rfl, rfl, _, rfl, iteT ?_⟩
        refine ⟨_, rfl, _, _, _, _, rfl, rfl, hx, at1 rfl, _, rfl, sz (by show 2 ≤ 10000; decide), fun t1 n1 => ⟨_, rfl, ?_⟩⟩
        have sA := same_new (o := .tup [x, .ref c]) n1
        refine r_catA (SqT.of upd_same) (TS.of (K := K) sA _ _ hbb) (sz (by show 2 + vR.length ≤ 10000; omega)) (fun cc H3 s3 hcc => ?_)
        have sB := sA.trans s3
        refine ⟨_, rfl, sz (by show 2 ≤ 10000; decide), fun t2 n2 => ?_⟩
        have sC := sB.trans (same_new (o := .tup [.ref cc, .int (k : Int)]) n2)
        have a1 : SAt K (upd H3 t2 (.tup [.ref cc, .int (k : Int)])) (.pat p1 :: .pat (.more p1) :: R, k) (.ref t2) := SAt.mk n2 hcc (.cons (show TAt K H3 (.pat p1) x from u1.mono (TS.of sB)) (.cons (hm.mono (TS.of sB)) (TAts.mono (TS.of sB) pR1)))
        refine ⟨_, rfl, _, rfl, sz (by show 2 ≤ 10000; decide), fun t4 n4 => ⟨sz (by show 2 ≤ 10000; decide), fun r nr => ?_⟩⟩
        have sF := (same_new (o := .tup [.ref bb, .int (k : Int)]) n4).trans (same_new (o := .lst [.ref t2, .ref t4]) nr)
        exact q r _ _ (s1.trans (sC.trans sF)) (s1.free (sC.free ((same_new n4).free nr))) upd_same (.cons (a1.mono (TS.of sF)) (.cons ((beh sC n4).mono (TS.new nr)) .nil))
      | less p1 =>
        have hm : TAt K H1 (.pat (.less p1)) (.ref c) := ht1
        obtain ⟨_, x, e0, hx, u1⟩ := ht1
        cases e0
        refine ⟨_, rfl, _, _, _, _, rfl, rfl, hx, at0 rfl, rfl, _, rfl, iteF ?_⟩
        refine ⟨_, rfl, _, _, _, _, rfl, rfl, hx, at0 rfl, rfl, _, rfl, iteF ?_⟩
        refine ⟨_, rfl, _, _, _, _, rfl, rfl, hx, at0 rfl, rfl, _, rfl, iteF ?_⟩
        refine ⟨_, rfl, _, _, _, _, rfl, rfl, hx, at0 rfl, rfl, _, rfl, iteF ?_⟩
        refine ⟨_, rfl, _, _, _, _, rfl, rfl, hx, at0 rfl, rfl, _, rfl, iteF ?_⟩
        refine ⟨_, rfl, _, _, _, _, rfl, rfl, hx, at0 rfl, rfl, _, rfl, iteT ?_⟩
        refine ⟨_, rfl, _, rfl, sz (by show 2 ≤ 10000; decide), fun t4 n4 => ?_⟩
        have s0 := same_new (o := .tup [.ref bb, .int (k : Int)]) n4
        have a4 := beh (k' := k) (Same.refl _) n4
        have hx0 := TS.of (K := K) s0 _ _ hx
        refine ⟨_, rfl, _, _, _, _, rfl, rfl, hx0, at1 rfl, _, rfl, sz (by show 2 ≤ 10000; decide), fun t1 n1 => ⟨_, rfl, ?_⟩⟩
        have sA := s0.trans (same_new (o := .tup [x, .ref c]) n1)
        refine r_catA (SqT.of upd_same) (TS.of (K := K) sA _ _ hbb) (sz (by show 2 + vR.length ≤ 10000; omega)) (fun cc H3 s3 hcc => ?_)
        have sB := sA.trans s3
        refine ⟨_, rfl, sz (by show 2 ≤ 10000; decide), fun t2 n2 => ⟨sz (by show 2 ≤ 10000; decide), fun r nr => ?_⟩⟩
        have sF := (same_new (o := .tup [.ref cc, .int (k : Int)]) n2).trans (same_new (o := .lst [.ref t4, .ref t2]) nr)
        refine q r _ _ (s1.trans (sB.trans sF)) (s1.free (sB.free ((same_new n2).free nr))) upd_same (.cons (a4.mono (TS.of ((same_new (o := .tup [x, .ref c]) n1).trans (s3.trans sF)))) (.cons ((SAt.mk n2 hcc ?_).mono (TS.new nr)) .nil))
        exact .cons (show TAt K H3 (.pat p1) x from u1.mono (TS.of sB)) (.cons (hm.mono (TS.of sB)) (TAts.mono (TS.of sB) pR1))
      | group n p1 =>
        obtain ⟨_, x, e0, _, hx, u1⟩ := ht1
        cases e0
        refine ⟨_, rfl, _, _, _, _, rfl, rfl, hx, at0 rfl, rfl, _, rfl, iteF ?_⟩
        refine ⟨_, rfl, _, _, _, _, rfl, rfl, hx, at0 rfl, rfl, _, rfl, iteF ?_⟩
        refine ⟨_, rfl, _, _, _, _, rfl, rfl, hx, at0 rfl, rfl, _, rfl, iteF ?_⟩
        refine ⟨_, rfl, _, _, _, _, rfl, rfl, hx, at0 rfl, rfl, _, rfl, iteF ?_⟩
        refine ⟨_, rfl, _, _, _, _, rfl, rfl, hx, at0 rfl, rfl, _, rfl, iteF ?_⟩
        refine ⟨_, rfl, _, _, _, _, rfl, rfl, hx, at0 rfl, rfl, _, rfl, iteF ?_⟩
        refine ⟨_, rfl, _, _, _, _, rfl, rfl, hx, at0 rfl, rfl, _, rfl, iteT ?_⟩
        refine ⟨_, rfl, _, _, _, _, rfl, rfl, hx, at2 rfl, _, rfl, _, _, _, _, rfl, rfl, hx, at1 rfl, sz (by show 2 ≤ 10000; decide), fun t0 n0 => ⟨sz (by show 2 ≤ 10000; decide), fun t1 n1 => ⟨_, rfl, ?_⟩⟩⟩
        have s0 := same_new (o := .tup [.str "close", .int n]) n0
        have sA := s0.trans (same_new (o := .tup [x, .ref t0]) n1)
        refine r_catA (SqT.of upd_same) (TS.of (K := K) sA _ _ hbb) (sz (by show 2 + vR.length ≤ 10000; omega)) (fun cc H3 s3 hcc => ?_)
        have sB := sA.trans s3
        refine ⟨_, rfl, sz (by show 2 ≤ 10000; decide), fun t2 n2 => ⟨sz (by show 1 ≤ 10000; decide), fun r nr => ?_⟩⟩
        have sF := (same_new (o := .tup [.ref cc, .int (k : Int)]) n2).trans (same_new (o := .lst [.ref t2]) nr)
        refine q r _ _ (s1.trans (sB.trans sF)) (s1.free (sB.free ((same_new n2).free nr))) upd_same (.cons ((SAt.mk n2 hcc ?_).mono (TS.new nr)) .nil)
        exact .cons (show TAt K H3 (.pat p1) x from u1.mono (TS.of sB)) (.cons (show TAt K H3 (.close n) (.ref t0) from ⟨t0, rfl, TS.of (K := K) ((same_new (o := .tup [x, .ref t0]) n1).trans s3) _ _ (SqT.of upd_same)⟩) (TAts.mono (TS.of sB) pR1))

end
end G1

set_option maxRecDepth 100000
set_option maxHeartbeats 4000000
namespace G1
open PySem PySem.Spec PyProof.Rows L2 Gm
section
variable {P : Program} {w : World} {K : PySem.W.Frag} {mg : Str → Option Value} {base : Heap}
/-- a text of signs that may stand in one -/
def okS (y : Str) : Prop := ∀ c ∈ y.cps.toList, c < 1114112
theorem okS.nil : okS "" := fun c h => by cases h
theorem okS.one {c : Nat} (h : c < 1114112) : okS ⟨#[c]⟩ := fun d hd => by
  rw [List.mem_singleton.mp hd]
  exact h
theorem okS.app {x y : Str} (h : okS x) (h' : okS y) : okS (x ++ y) := fun c hc => by
  rw [str_app] at hc
  rcases List.mem_append.mp hc with hc | hc
  · exact h c hc
  · exact h' c hc
theorem okS.rep {y : Str} (h : okS y) (k : Nat) : okS (srep y k) := fun c hc => by
  have hc : c ∈ (List.replicate k y.cps.toList).flatten := hc
  obtain ⟨l, h1, h2⟩ := List.mem_flatten.mp hc
  rw [List.eq_of_mem_replicate h1] at h2
  exact h c h2
theorem okS.cut {y : Str} (h : okS y) (lo hi : Option Int) : okS (cutS y lo hi) := fun c hc => by
  have hc : c ∈ (y.cps.toList.drop (HT.sIx y.length 0 lo)).take (HT.sIx y.length y.length hi - HT.sIx y.length 0 lo) := hc
  exact h c (List.mem_of_mem_drop (List.mem_of_mem_take hc))
/-- one on the pile: the pattern, whether it may take nothing, a text that it takes -/
def E3 (K : PySem.W.Frag) (H : Hp) (m : Pat × Str) (v : V) : Prop := ∃ t x, v = .ref t ∧ SqT K H t [x, .bl (nul m.1), .str m.2] ∧ PAt K H m.1 x ∧ nr m.1 = true ∧ Takes m.1 m.2.cps.toList ∧ okS m.2
theorem E3.mono {H H' : Hp} (e : TS K H H') {m : Pat × Str} {v : V} : E3 K H m v → E3 K H' m v
  | ⟨t, x, h, q, u, n, k⟩ => ⟨t, x, h, e _ _ q, u.mono e, n, k⟩
theorem E3.mk {H : Hp} {p : Pat} {y : Str} {t : Addr} {x : V} {b : Bool} (n : H t = none) (u : PAt K H p x) (e : nul p = b) (hn : nr p = true) (hk : Takes p y.cps.toList) (ho : okS y) : E3 K (upd H t (.tup [x, .bl b, .str y])) (p, y) (.ref t) := by
  subst e
  exact ⟨t, x, rfl, SqT.of upd_same, u.mono (TS.new n), hn, hk, ho⟩
def sp_leaf (K : PySem.W.Frag) : Sp := fun vs H Q _ => ∃ (c h : Int), vs = [.int c, .int h] ∧
  ∀ (t : Addr) (p : Pat) (y : Str) (H' : Hp), Same H H' → E3 K H' (p, y) (.ref t) → siz p = 1 → dep p = 1 → nums (subs p) = [] → y.length ≤ 1 → Q (.ref t) H'
theorem ok__law_leaf (T : Txt w K mg) : FnOk P w K mg base CX0 2 T.f__law_leaf T.fd__law_leaf ["_law_cell", "_law_head"] (sp_leaf K) := by
  refine T.F__law_leaf.ok sc__law_leaf (fun vs H Q E h => ?_) (fun cdv A outer s H vs Q E hr h => ?_)
  · obtain ⟨c, h, rfl, _⟩ := h
    rfl
  obtain ⟨c, h, rfl, q⟩ := h
  refine ⟨_, (pss_cons (ps_set (i := 2) sc__law_leaf.nd rfl (.inl rfl) (pe_call (ok__law_sign T) (hr.mono (by decide)) (by rfl) T.m__law_sign T.F__law_sign.kp T.b__law_sign .nil pass0 (pa_cons (pe_ix ix_list (pe_lst (pa_cons (pv 1) (pa_cons (pv 1) (pa_cons (pv 1) (pa_cons (pe_op op_fdiv (pv 1) pe_int) (pa_cons (pe_op op_fdiv (pv 0) pe_int) (pa_cons (pe_op op_fdiv (pv 1) pe_int) pa_nil))))))) (pe_op op_mod (pv 0) pe_int) (fun _ _ => rfl)) pa_nil)))
  (pss_cons (ps_if (PW.pt (pw_and (pt_cmpR op_eq (pe_op op_mod (pv 0) pe_int) pe_int (nomark _)) (pw_and1 (pt_cmpR op_eq (pe_op op_mod (pe_op op_fdiv (pv 0) pe_int) pe_int) pe_int (nomark _)))))
    (pss_one (ps_ret (pe_tup (pa_cons (pe_tup (pa_cons pe_str pa_nil)) (pa_cons pe_bl (pa_cons pe_str pa_nil))))))
    pss_nil)
  (pss_cons (ps_if (pt_cmpR op_eq (pe_op op_mod (pv 0) pe_int) pe_int (nomark _))
    (pss_one (ps_ret (pe_tup (pa_cons (pe_tup (pa_cons pe_str pa_nil)) (pa_cons pe_bl (pa_cons (pv 2) pa_nil))))))
    pss_nil)
  (pss_one (ps_ret (pe_tup (pa_cons (pe_tup (pa_cons pe_str (pa_cons (pv 2) pa_nil))) (pa_cons pe_bl (pa_cons (pv 2) pa_nil))))))))), ?_⟩
  have k0 := Int.emod_nonneg c (show (6 : Int) ≠ 0 by decide)
  have k1 := Int.emod_lt_of_pos c (show (0 : Int) < 6 by decide)
  obtain ⟨e, he⟩ := pickI (xs := [h, h, h, h / 95, c / 6, h / 95]) k0 k1
  refine ⟨_, rfl, _, rfl, _, rfl, _, rfl, _, _, rfl, rfl, ⟨by decide, by decide⟩, _, rfl, _, _, rfl, rfl, ⟨by decide, by decide⟩, _, rfl, _, _, rfl, rfl, ⟨by decide, by decide⟩, sz (by show 6 ≤ 10000; decide), fun l nl => ?_⟩
  have sl := same_new (o := .lst [.int h, .int h, .int h, .int (h / 95), .int (c / 6), .int (h / 95)]) nl
  refine ⟨_, rfl, _, _, rfl, rfl, (by show (0 : Int) < 6; decide), l, _, _, .int e, rfl, rfl, SqL.of upd_same, he, _, rfl, ?_⟩
  refine g_nx (seq_if (if_tst (b := decide (V.int (c % 6) = V.int 5) && decide (V.int (c / 6 % 3) = V.int 0)) (tst_and (fun Q q => ⟨_, rfl, _, _, rfl, rfl, (by show (0 : Int) < 6; decide), rfl, _, rfl, q⟩) (fun Q q => ⟨_, rfl, _, _, rfl, rfl, ⟨by decide, by decide⟩, _, _, rfl, rfl, (by show (0 : Int) < 3; decide), rfl, _, rfl, q⟩)) (fun c1 => ?_) (fun c1 => e_nx ?_)))
  · refine ⟨sz (by show 1 ≤ 10000; decide), fun t1 n1 => ⟨sz (by show 3 ≤ 10000; decide), fun t2 n2 => ?_⟩⟩
    exact q t2 .none _ _ (sl.trans ((same_new n1).trans (same_new n2))) (E3.mk n2 ⟨t1, rfl, SqT.of upd_same⟩ rfl rfl tk_none okS.nil) rfl rfl rfl (Nat.zero_le _)
  · refine ⟨_, rfl, _, _, rfl, rfl, (by show (0 : Int) < 6; decide), rfl, _, rfl, ?_⟩
    refine ite2 (fun c3 => ?_) (fun c3 => e_nx ?_)
    · refine ⟨sz (by show 1 ≤ 10000; decide), fun t1 n1 => ⟨_, rfl, sz (by show 3 ≤ 10000; decide), fun t2 n2 => ?_⟩⟩
      exact q t2 .any _ _ (sl.trans ((same_new n1).trans (same_new n2))) (E3.mk n2 ⟨t1, rfl, SqT.of upd_same⟩ rfl rfl (tk_any _) (okS.one (lsg_lt _))) rfl rfl rfl (Nat.le_refl _)
    · refine ⟨_, rfl, sz (by show 2 ≤ 10000; decide), fun t1 n1 => ⟨_, rfl, sz (by show 3 ≤ 10000; decide), fun t2 n2 => ?_⟩⟩
      exact q t2 (.sign _) _ _ (sl.trans ((same_new n1).trans (same_new n2))) (E3.mk n2 ⟨t1, rfl, lsg_lt _, SqT.of upd_same⟩ rfl rfl (tk_sign _) (okS.one (lsg_lt _))) rfl rfl rfl (Nat.le_refl _)

end
end G1

set_option maxRecDepth 100000
set_option maxHeartbeats 4000000
namespace G1
open PySem PySem.Spec PyProof.Rows L2 Gm
section
variable {P : Program} {w : World} {K : PySem.W.Frag} {mg : Str → Option Value} {base : Heap}
def sp_two (K : PySem.W.Frag) : Sp := fun vs H Q _ => ∃ (c : Int) (l r : V) (m1 m2 : Pat × Str), vs = [.int c, l, r] ∧ E3 K H m1 l ∧ E3 K H m2 r ∧ m1.2.length ≤ 5000 ∧ m2.2.length ≤ 5000 ∧
  ∀ (t : Addr) (p : Pat) (y : Str) (H' : Hp), Same H H' → E3 K H' (p, y) (.ref t) → siz p = 1 + siz m1.1 + siz m2.1 → dep p = 1 + max (dep m1.1) (dep m2.1) → nums (subs p) = nums (subs m1.1) ++ nums (subs m2.1) → y.length ≤ m1.2.length + m2.2.length → Q (.ref t) H'
theorem ok__law_two (T : Txt w K mg) : FnOk P w K mg base CX0 1 T.f__law_two T.fd__law_two ["_law_cell", "_law_left", "_law_right"] (sp_two K) := by
  refine T.F__law_two.ok sc__law_two (fun vs H Q E h => ?_) (fun cdv A outer s H vs Q E hr h => ?_)
  · obtain ⟨c, l, r, p1, p2, rfl, _⟩ := h
    rfl
  obtain ⟨c, l, r, ⟨p1, y1⟩, ⟨p2, y2⟩, rfl, ⟨a1, x1, rfl, h1, u1, n1, k1, o1⟩, ⟨a2, x2, rfl, h2, u2, n2, k2, o2⟩, z1, z2, q⟩ := h
  refine ⟨_, (pss_cons (ps_if (pt_cmpR op_eq (pe_op op_mod (pv 0) pe_int) pe_int (nomark _))
    (pss_one (ps_ret (pe_tup (pa_cons (pe_tup (pa_cons pe_str (pa_cons (pe_ix ix_tup (pv 1) pe_int (fun _ _ => rfl)) (pa_cons (pe_ix ix_tup (pv 2) pe_int (fun _ _ => rfl)) pa_nil)))) (pa_cons (pe_and (pe_ix ix_tup (pv 1) pe_int (fun _ _ => rfl)) (pe_one (pe_ix ix_tup (pv 2) pe_int (fun _ _ => rfl)))) (pa_cons (pe_op op_add_str (pe_ix ix_tup (pv 1) pe_int (fun _ _ => rfl)) (pe_ix ix_tup (pv 2) pe_int (fun _ _ => rfl))) pa_nil))))))
    pss_nil)
  (pss_one (ps_ret (pe_tup (pa_cons (pe_tup (pa_cons pe_str (pa_cons (pe_ix ix_tup (pv 1) pe_int (fun _ _ => rfl)) (pa_cons (pe_ix ix_tup (pv 2) pe_int (fun _ _ => rfl)) pa_nil)))) (pa_cons (pe_or (pe_ix ix_tup (pv 1) pe_int (fun _ _ => rfl)) (pe_one (pe_ix ix_tup (pv 2) pe_int (fun _ _ => rfl)))) (pa_cons (pe_ix ix_tup (pe_ix ix_list (pe_lst (pa_cons (pv 1) (pa_cons (pv 2) pa_nil))) (pe_op op_mod (pe_op op_fdiv (pv 0) pe_int) pe_int) (fun _ _ => rfl)) pe_int (fun _ _ => rfl)) pa_nil))))))), ?_⟩
  refine ⟨_, rfl, _, _, rfl, rfl, (by show (0 : Int) < 2; decide), rfl, _, rfl, ?_⟩
  have nrr : nr p1 = true ∧ nr p2 = true := ⟨n1, n2⟩
  refine ite2 (fun _ => ?_) (fun _ => ?_)
  · refine ⟨_, rfl, _, _, _, _, rfl, rfl, h1, at0 rfl, _, rfl, _, _, _, _, rfl, rfl, h2, at0 rfl, sz (by show 3 ≤ 10000; decide), fun t1 m1 => ?_⟩
    have s1 := same_new (o := .tup [.str "row", x1, x2]) m1
    have h1' := TS.of (K := K) s1 _ _ h1
    have h2' := TS.of (K := K) s1 _ _ h2
    have done : ∀ {b : Bool}, (nul p1 && nul p2) = b → ∀ t2, upd H t1 (.tup [.str "row", x1, x2]) t2 = none → Q (.ref t2) (upd (upd H t1 (.tup [.str "row", x1, x2])) t2 (.tup [.ref t1, .bl b, .str (y1 ++ y2)])) := fun {b} hb t2 m2 =>
      q t2 (.row p1 p2) (y1 ++ y2) _ (s1.trans (same_new m2)) (E3.mk m2 ⟨t1, x1, x2, rfl, SqT.of upd_same, u1.mono (TS.of s1), u2.mono (TS.of s1)⟩ hb (by show (nr p1 && nr p2) = true; rw [n1, n2]; rfl) (by rw [str_app]; exact tk_row k1 k2) (o1.app o2)) (siz_row _ _) rfl (ns_row _ _) (Nat.le_of_eq (str_app_len _ _))
    refine ⟨_, rfl, _, _, _, _, rfl, rfl, h1', at1 rfl, _, rfl, ?_⟩
    refine ite2 (fun c1 => ?_) (fun c1 => ?_)
    · exact ⟨_, rfl, _, _, _, _, rfl, rfl, h2', at1 rfl, _, rfl, _, _, _, _, rfl, rfl, h1', at2 rfl, _, rfl, _, _, _, _, rfl, rfl, h2', at2 rfl, _, _, rfl, rfl, sz (by show y1.length + y2.length ≤ 10000; have := z1; have := z2; simp only at *; omega), sz (by show 3 ≤ 10000; decide), done (by rw [c1]; rfl)⟩
    · exact ⟨_, rfl, _, _, _, _, rfl, rfl, h1', at2 rfl, _, rfl, _, _, _, _, rfl, rfl, h2', at2 rfl, _, _, rfl, rfl, sz (by show y1.length + y2.length ≤ 10000; have := z1; have := z2; simp only at *; omega), sz (by show 3 ≤ 10000; decide), done (by rw [Bool.eq_false_iff.mpr c1]; rfl)⟩
  · refine ⟨_, rfl, _, _, _, _, rfl, rfl, h1, at0 rfl, _, rfl, _, _, _, _, rfl, rfl, h2, at0 rfl, sz (by show 3 ≤ 10000; decide), fun t1 m1 => ?_⟩
    have s1 := same_new (o := .tup [.str "or", x1, x2]) m1
    have h1' := TS.of (K := K) s1 _ _ h1
    have h2' := TS.of (K := K) s1 _ _ h2
    have kk0 := Int.emod_nonneg (c / 2) (show (2 : Int) ≠ 0 by decide)
    have kk1 := Int.emod_lt_of_pos (c / 2) (show (0 : Int) < 2 by decide)
    -- the side, and its text
    have side : ∃ (a : Addr) (x : V) (b : Bool) (y : Str), atI [V.ref a1, V.ref a2] (c / 2 % 2) = some (.ref a) ∧ (∀ {H' : Hp}, TS K H H' → SqT K H' a [x, .bl b, .str y]) ∧ Takes (.or p1 p2) y.cps.toList ∧ okS y ∧ y.length ≤ y1.length + y2.length := by
      by_cases k : c / 2 % 2 = 0
      · exact ⟨a1, x1, _, y1, by rw [k]; exact at0 rfl, fun e => e _ _ h1, tk_orL k1, o1, by omega⟩
      · have k' : c / 2 % 2 = 1 := by omega
        exact ⟨a2, x2, _, y2, by rw [k']; exact at1 rfl, fun e => e _ _ h2, tk_orR k2, o2, by omega⟩
    obtain ⟨a, x, bb, y, ea, ha, hk, hok, hz⟩ := side
    have done : ∀ {b : Bool} {l : Addr}, (nul p1 || nul p2) = b → upd H t1 (.tup [.str "or", x1, x2]) l = none → ∀ t2, upd (upd H t1 (.tup [.str "or", x1, x2])) l (.lst [.ref a1, .ref a2]) t2 = none → Q (.ref t2) (upd (upd (upd H t1 (.tup [.str "or", x1, x2])) l (.lst [.ref a1, .ref a2])) t2 (.tup [.ref t1, .bl b, .str y])) := fun {b l} hb nl t2 m2 =>
      q t2 (.or p1 p2) y _ (s1.trans ((same_new nl).trans (same_new m2))) (E3.mk m2 (PAt.mono (TS.of (same_new nl)) ⟨t1, x1, x2, rfl, SqT.of upd_same, u1.mono (TS.of s1), u2.mono (TS.of s1)⟩) hb (by show (nr p1 && nr p2) = true; rw [n1, n2]; rfl) hk hok) (siz_or _ _) rfl (ns_or _ _) hz
    have ha' : ∀ {l : Addr} (nl : upd H t1 (.tup [.str "or", x1, x2]) l = none), SqT K (upd (upd H t1 (.tup [.str "or", x1, x2])) l (.lst [.ref a1, .ref a2])) a [x, .bl bb, .str y] := fun nl => ha (TS.of (s1.trans (same_new nl)))
    refine ⟨_, rfl, _, _, _, _, rfl, rfl, h1', at1 rfl, _, rfl, ?_⟩
    refine ite2 (fun c1 => ?_) (fun c1 => ?_)
    · refine ⟨_, rfl, _, rfl, sz (by show 2 ≤ 10000; decide), fun l nl => ?_⟩
      exact ⟨_, rfl, _, _, rfl, rfl, ⟨by decide, by decide⟩, _, _, rfl, rfl, (by show (0 : Int) < 2; decide), l, _, _, .ref a, rfl, rfl, SqL.of upd_same, ea, _, _, _, _, rfl, rfl, ha' nl, at2 rfl, sz (by show 3 ≤ 10000; decide), done (by rw [c1]; rfl) nl⟩
    · refine ⟨_, rfl, _, _, _, _, rfl, rfl, h2', at1 rfl, _, rfl, _, rfl, sz (by show 2 ≤ 10000; decide), fun l nl => ?_⟩
      exact ⟨_, rfl, _, _, rfl, rfl, ⟨by decide, by decide⟩, _, _, rfl, rfl, (by show (0 : Int) < 2; decide), l, _, _, .ref a, rfl, rfl, SqL.of upd_same, ea, _, _, _, _, rfl, rfl, ha' nl, at2 rfl, sz (by show 3 ≤ 10000; decide), done (by rw [Bool.eq_false_iff.mpr c1]; rfl) nl⟩

end
end G1

set_option maxRecDepth 100000
set_option maxHeartbeats 4000000
namespace G1
open PySem PySem.Spec PyProof.Rows L2 Gm
section
variable {P : Program} {w : World} {K : PySem.W.Frag} {mg : Str → Option Value} {base : Heap}
def sp_round (K : PySem.W.Frag) : Sp := fun vs H Q _ => ∃ (c : Int) (l : V) (h : Int) (m1 : Pat × Str), vs = [.int c, l, .int h] ∧ E3 K H m1 l ∧ m1.2.length ≤ 5000 ∧
  ∀ (t : Addr) (p : Pat) (y : Str) (H' : Hp), Same H H' → E3 K H' (p, y) (.ref t) → siz p ≤ 3 + siz m1.1 → dep p ≤ 2 + dep m1.1 → nums (subs p) = nums (subs m1.1) → y.length ≤ 13 + m1.2.length → Q (.ref t) H'
theorem ok__law_round (T : Txt w K mg) : FnOk P w K mg base CX0 2 T.f__law_round T.fd__law_round ["_law_cell", "_law_part", "_law_head"] (sp_round K) := by
  refine T.F__law_round.ok sc__law_round (fun vs H Q E h => ?_) (fun cdv A outer s H vs Q E hr h => ?_)
  · obtain ⟨c, l, h, p1, rfl, _⟩ := h
    rfl
  obtain ⟨c, l, h, ⟨p1, y1⟩, rfl, ⟨a1, x1, rfl, h1, u1, n1, k1, ok1⟩, z1, q⟩ := h
  have z1' : y1.length ≤ 5000 := z1
  have n1' : nr p1 = true := n1
  refine ⟨_, (C8.pss_cut (ps_if (pt_val (pe_ix ix_tup (pv 1) pe_int (fun _ _ => rfl)))
    (pss_cons (ps_set (i := 3) sc__law_round.nd rfl (.inl rfl) (pe_call (ok__law_sign T) (hr.mono (by decide)) (by rfl) T.m__law_sign T.F__law_sign.kp T.b__law_sign .nil pass0 (pa_cons (pv 2) pa_nil)))
  (pss_one (ps_set (i := 1) sc__law_round.nd rfl (.inl rfl) (pe_tup (pa_cons (pe_tup (pa_cons pe_str (pa_cons (pe_tup (pa_cons pe_str (pa_cons (pv 3) pa_nil))) (pa_cons (pe_ix ix_tup (pv 1) pe_int (fun _ _ => rfl)) pa_nil)))) (pa_cons pe_bl (pa_cons (pe_op op_add_str (pv 3) (pe_ix ix_tup (pv 1) pe_int (fun _ _ => rfl))) pa_nil)))))))
    pss_nil)
  (pss_cons (ps_set (i := 4) sc__law_round.nd rfl (.inl rfl) (pe_op op_mod (pe_op op_fdiv (pv 0) pe_int) pe_int))
  (C8.pss_cut (ps_if (pt_cmpR op_gt (pe_op op_mul (pv 4) (pe_callB call_len (by rfl) T.n_len PySem.boot_len (pa_cons (pe_ix ix_tup (pv 1) pe_int (fun _ _ => rfl)) pa_nil))) pe_int (nomark _))
    (pss_one (ps_set (i := 4) sc__law_round.nd rfl (.inl rfl) pe_int))
    pss_nil)
  (pss_one (ps_ret (pe_tup (pa_cons (pe_tup (pa_cons (pe_ix ix_list (pe_lst (pa_cons pe_str (pa_cons pe_str pa_nil))) (pe_op op_mod (pv 0) pe_int) (fun _ _ => rfl)) (pa_cons (pe_ix ix_tup (pv 1) pe_int (fun _ _ => rfl)) pa_nil))) (pa_cons pe_bl (pa_cons (pe_op op_mul_str (pe_ix ix_tup (pv 1) pe_int (fun _ _ => rfl)) (pv 4)) pa_nil))))))))), ?_⟩
  refine ⟨fun σ' H' => ∃ (p2 : Pat) (b : Addr) (x2 : V) (y2 : Str) (x3 : Option V), σ' = [some (.int c), some (.ref b), some (.int h), x3, none] ∧ Same H H' ∧ SqT K H' b [x2, .bl false, .str y2] ∧ PAt K H' p2 x2 ∧ nul p2 = false ∧ nr p2 = true ∧ Takes p2 y2.cps.toList ∧ okS y2 ∧ siz p2 ≤ 2 + siz p1 ∧ dep p2 ≤ 1 + dep p1 ∧
    nums (subs p2) = nums (subs p1) ∧ y2.length ≤ 1 + y1.length, ?_, ?_⟩
  · refine ⟨_, rfl, _, _, _, _, rfl, rfl, h1, at1 rfl, _, rfl, ?_⟩
    refine ite2 (fun c1 => ?_) (fun c1 => ?_)
    · refine ⟨_, rfl, _, rfl, ?_⟩
      refine ⟨_, rfl, sz (by show 2 ≤ 10000; decide), fun t1 m1 => ?_⟩
      have s1 := same_new (o := .tup [.str "sign", .str ⟨#[lsg h]⟩]) m1
      refine ⟨_, rfl, _, _, _, _, rfl, rfl, TS.of (K := K) s1 _ _ h1, at0 rfl, sz (by show 3 ≤ 10000; decide), fun t2 m2 => ?_⟩
      have s2 := s1.trans (same_new (o := .tup [.str "row", .ref t1, x1]) m2)
      refine ⟨_, rfl, _, rfl, _, _, _, _, rfl, rfl, TS.of (K := K) s2 _ _ h1, at2 rfl, _, _, rfl, rfl, sz (by show 1 + y1.length ≤ 10000; omega), sz (by show 3 ≤ 10000; decide), fun t3 m3 => ?_⟩
      have s3 := s2.trans (same_new (o := .tup [.ref t2, .bl false, .str (⟨#[lsg h]⟩ ++ y1)]) m3)
      refine ⟨.row (.sign (lsg h)) p1, t3, .ref t2, _, _, rfl, s3, SqT.of upd_same, PAt.mono (TS.new m3) ⟨t2, .ref t1, x1, rfl, SqT.of upd_same, ⟨t1, rfl, lsg_lt h, TS.new m2 _ _ (SqT.of upd_same)⟩, u1.mono (TS.of s2)⟩, rfl, ?_, ?_, (okS.one (lsg_lt h)).app ok1, ?_, ?_, ns_row _ _, ?_⟩
      · show (true && nr p1) = true
        rw [n1']
        rfl
      · rw [str_app]
        exact tk_row (tk_sign _) k1
      · rw [siz_row, show siz (.sign (lsg h)) = 1 from rfl]
        omega
      · have := dep_pos p1
        show 1 + max 1 (dep p1) ≤ _
        omega
      · rw [str_app_len]
        exact Nat.le_refl _
    · have e0 : nul p1 = false := Bool.eq_false_iff.mpr c1
      rw [show nul (p1, y1).1 = false from e0] at h1
      exact ⟨p1, a1, x1, y1, none, rfl, Same.refl _, h1, u1, e0, n1, k1, ok1, by omega, by omega, rfl, by omega⟩
  · rintro σ' H1 ⟨p2, b, x2, y2, x3, rfl, s1, hb, u2, e2, n2, k2, ok2, zz2, d2, m2, l2⟩
    have q0 := Int.emod_nonneg (c / 2) (show (4 : Int) ≠ 0 by decide)
    have q1 := Int.emod_lt_of_pos (c / 2) (show (0 : Int) < 4 by decide)
    obtain ⟨k, hk⟩ : ∃ k : Nat, c / 2 % 4 = (k : Int) := ⟨_, (Int.toNat_of_nonneg q0).symm⟩
    have hk4 : k < 4 := by omega
    refine ⟨_, rfl, _, _, rfl, rfl, ⟨by decide, by decide⟩, _, _, rfl, rfl, (by show (0 : Int) < 4; decide), ?_⟩
    refine ⟨fun σ' H' => H' = H1 ∧ ∃ k' : Nat, σ' = [some (.int c), some (.ref b), some (.int h), x3, some (.int (k' : Int))] ∧ k' ≤ 3 ∧ k' * y2.length ≤ 12 + y2.length, ?_, ?_⟩
    · refine ⟨_, rfl, _, rfl, _, _, _, _, rfl, rfl, hb, at2 rfl, _, _, rfl, ⟨sz (by omega), rfl⟩, _, _, rfl, rfl, .inl ⟨by omega, by omega⟩, _, _, rfl, rfl, _, rfl, ?_⟩
      refine ite2 (fun c1 => ?_) (fun c1 => ?_)
      · exact ⟨rfl, 1, rfl, by decide, by omega⟩
      · refine ⟨rfl, k, (by rw [← hk]; rfl), by omega, ?_⟩
        have c2 : ¬ (12 : Int) < (c / 2 % 4) * ((y2.length : Nat) : Int) := of_decide_eq_false (Bool.eq_false_iff.mpr c1)
        rw [hk] at c2
        have c3 : ((k * y2.length : Nat) : Int) ≤ 12 := by push_cast; omega
        omega
    · rintro σ2 H2 ⟨rfl, k', rfl, hk3, hkl⟩
      refine ⟨sz (by show 2 ≤ 10000; decide), fun t1 m1 => ?_⟩
      have sl := same_new (o := .lst [.str "more", .str "less"]) m1
      have hbl := TS.of (K := K) sl _ _ hb
      have w0 := Int.emod_nonneg c (show (2 : Int) ≠ 0 by decide)
      have w1 := Int.emod_lt_of_pos c (show (0 : Int) < 2 by decide)
      have w : ∃ (z : Str) (p3 : Pat), atI [V.str "more", V.str "less"] (c % 2) = some (.str z) ∧ (∀ {H3 : Hp} {t : Addr} {x : V}, SqT K H3 t [.str z, x] → PAt K H3 p2 x → PAt K H3 p3 (.ref t)) ∧ nul p3 = true ∧ siz p3 = 1 + siz p2 ∧ dep p3 = 1 + dep p2 ∧ nums (subs p3) = nums (subs p2) ∧ nr p3 = true ∧
          Takes p3 (srep y2 k').cps.toList := by
        have en : (!nul p2 && nr p2) = true := by rw [e2, n2]; rfl
        by_cases e : c % 2 = 0
        · refine ⟨"more", .more p2, by rw [e]; exact at0 rfl, fun h u => ⟨_, _, rfl, h, u⟩, rfl, siz_more _, rfl, rfl, en, ?_⟩
          exact tk_more k2 k'
        · have e' : c % 2 = 1 := by omega
          refine ⟨"less", .less p2, by rw [e']; exact at1 rfl, fun h u => ⟨_, _, rfl, h, u⟩, rfl, siz_less _, rfl, rfl, en, ?_⟩
          exact tk_less k2 k'
      obtain ⟨z, p3, ez, mk, nu3, z3, d3, m3, n3, k3⟩ := w
      refine ⟨_, rfl, _, _, rfl, rfl, (by show (0 : Int) < 2; decide), t1, _, _, .str z, rfl, rfl, SqL.of upd_same, ez, ?_⟩
      refine ⟨_, rfl, _, _, _, _, rfl, rfl, hbl, at0 rfl, sz (by show 2 ≤ 10000; decide), fun t2 m2' => ?_⟩
      have s2 := sl.trans (same_new (o := .tup [.str z, x2]) m2')
      refine ⟨_, rfl, _, _, _, _, rfl, rfl, TS.of (K := K) s2 _ _ hb, at2 rfl, _, rfl, y2, k', rfl, rfl, by omega, by omega, sz (by show 3 ≤ 10000; decide), fun t3 m3' => ?_⟩
      refine q t3 p3 (srep y2 k') _ (s1.trans (s2.trans (same_new m3'))) (E3.mk m3' (mk (SqT.of upd_same) (u2.mono (TS.of s2))) nu3 n3 k3 (ok2.rep k')) (by show siz p3 ≤ 3 + siz p1; omega) (by show dep p3 ≤ 2 + dep p1; omega) (by rw [m3, m2]) ?_
      rw [srep_len]
      show k' * y2.length ≤ 13 + y1.length
      omega

end
end G1

set_option maxRecDepth 100000
set_option maxHeartbeats 4000000
namespace G1
open PySem PySem.Spec PyProof.Rows L2 Gm
section
variable {P : Program} {w : World} {K : PySem.W.Frag} {mg : Str → Option Value} {base : Heap}
def sp_changed (K : PySem.W.Frag) : Sp := fun vs H Q _ => ∃ (z : Str) (c h : Int), vs = [.str z, .int c, .int h] ∧ z.length ≤ 4000 ∧ okS z ∧ ∀ (y : Str) (H' : Hp), Same H H' → y.length ≤ 2 * z.length + 1 → okS y → Q (.str y) H'
theorem ok__law_changed (T : Txt w K mg) : FnOk P w K mg base CX0 2 T.f__law_changed T.fd__law_changed ["_law_text", "_law_cell", "_law_head"] (sp_changed K) := by
  refine T.F__law_changed.ok sc__law_changed (fun vs H Q E h => ?_) (fun cdv A outer s H vs Q E hr h => ?_)
  · obtain ⟨z, c, h, rfl, _⟩ := h
    rfl
  obtain ⟨z, c, h, rfl, hz, hok, q⟩ := h
  refine ⟨_, (pss_cons (ps_set (i := 3) sc__law_changed.nd rfl (.inl rfl) (pe_op op_mod (pe_op op_fdiv (pv 1) pe_int) (pe_op op_add (pe_callB call_len (by rfl) T.n_len PySem.boot_len (pa_cons (pv 0) pa_nil)) pe_int)))
  (pss_cons (ps_set (i := 4) sc__law_changed.nd rfl (.inl rfl) (pe_call (ok__law_sign T) (hr.mono (by decide)) (by rfl) T.m__law_sign T.F__law_sign.kp T.b__law_sign .nil pass0 (pa_cons (pe_ix ix_list (pe_lst (pa_cons (pv 2) (pa_cons (pe_op op_fdiv (pv 2) pe_int) pa_nil))) (pe_op op_mod (pe_op op_fdiv (pv 1) pe_int) pe_int) (fun _ _ => rfl)) pa_nil)))
  (pss_one (ps_ret (pe_ix ix_list (pe_lst (pa_cons (pe_op op_add_str (pe_op op_add_str (pe_slice sl_str (pv 0) po_none (po_some (pv 3))) (pv 4)) (pe_slice sl_str (pv 0) (po_some (pv 3)) po_none)) (pa_cons (pe_op op_add_str (pe_slice sl_str (pv 0) po_none (po_some (pv 3))) (pe_slice sl_str (pv 0) (po_some (pe_op op_add (pv 3) pe_int)) po_none)) (pa_cons (pe_op op_add_str (pe_op op_add_str (pe_slice sl_str (pv 0) po_none (po_some (pv 3))) (pv 4)) (pe_slice sl_str (pv 0) (po_some (pe_op op_add (pv 3) pe_int)) po_none)) pa_nil)))) (pe_op op_mod (pv 1) pe_int) (fun _ _ => rfl)))))), ?_⟩
  refine ⟨_, rfl, _, _, rfl, rfl, ⟨by decide, by decide⟩, _, rfl, _, _, rfl, ⟨sz (by omega), rfl⟩, _, _, rfl, rfl, _, _, rfl, rfl, (by show (0 : Int) < ((z.length : Nat) : Int) + 1; omega), ?_⟩
  have k0 := Int.emod_nonneg (c / 3) (show (2 : Int) ≠ 0 by decide)
  have k1 := Int.emod_lt_of_pos (c / 3) (show (0 : Int) < 2 by decide)
  obtain ⟨e, he⟩ := pickI (xs := [h, h / 95]) k0 k1
  refine ⟨_, rfl, _, rfl, _, _, rfl, rfl, ⟨by decide, by decide⟩, sz (by show 2 ≤ 10000; decide), fun l nl => ?_⟩
  have sl := same_new (o := .lst [.int h, .int (h / 95)]) nl
  refine ⟨_, rfl, _, _, rfl, rfl, ⟨by decide, by decide⟩, _, _, rfl, rfl, (by show (0 : Int) < 2; decide), l, _, _, .int e, rfl, rfl, SqL.of upd_same, he, _, rfl, ?_⟩
  obtain ⟨at0, hat⟩ : ∃ i : Int, i = c / 6 % (((z.length : Nat) : Int) + 1) := ⟨_, rfl⟩
  have c1 := cutS_length z none (some at0)
  have c2 := cutS_length z (some at0) none
  have c3 := cutS_length z (some (at0 + 1)) none
  rw [hat] at c1 c2 c3
  have one : (⟨#[lsg e]⟩ : Str).length = 1 := rfl
  refine ⟨_, rfl, _, rfl, _, rfl, _, rfl, sz (by omega), _, rfl, _, _, rfl, rfl, sz (by rw [one]; omega), _, rfl, _, rfl, _, rfl, _, rfl, sz (by omega), _, _, rfl, rfl, sz (by rw [str_app_len, one]; omega), ?_⟩
  refine ⟨_, rfl, _, rfl, _, rfl, _, rfl, sz (by omega), _, rfl, _, rfl, _, _, rfl, rfl, _, rfl, _, rfl, sz (by omega), _, _, rfl, rfl, sz (by omega), ?_⟩
  refine ⟨_, rfl, _, rfl, _, rfl, _, rfl, sz (by omega), _, rfl, _, _, rfl, rfl, sz (by rw [one]; omega), _, rfl, _, rfl, _, _, rfl, rfl, _, rfl, _, rfl, sz (by omega), _, _, rfl, rfl, sz (by rw [str_app_len, one]; omega), ?_⟩
  refine ⟨sz (by show 3 ≤ 10000; decide), fun l2 n2 => ?_⟩
  have w0 := Int.emod_nonneg c (show (3 : Int) ≠ 0 by decide)
  have w1 := Int.emod_lt_of_pos c (show (0 : Int) < 3 by decide)
  obtain ⟨y, hy, ey⟩ := pickS (xs := [cutS z none (some at0) ++ ⟨#[lsg e]⟩ ++ cutS z (some at0) none, cutS z none (some at0) ++ cutS z (some (at0 + 1)) none, cutS z none (some at0) ++ ⟨#[lsg e]⟩ ++ cutS z (some (at0 + 1)) none]) w0 w1
  subst hat
  refine ⟨_, rfl, _, _, rfl, rfl, (by show (0 : Int) < 3; decide), l2, _, _, .str y, rfl, rfl, SqL.of upd_same, ey, q y _ (sl.trans (same_new n2)) ?_ ?_⟩
  · rcases List.mem_cons.mp hy with rfl | hy
    · rw [str_app_len, str_app_len, one]
      omega
    rcases List.mem_cons.mp hy with rfl | hy
    · rw [str_app_len]
      omega
    obtain rfl := List.mem_singleton.mp hy
    rw [str_app_len, str_app_len, one]
    omega
  · have oS := okS.one (lsg_lt e)
    rcases List.mem_cons.mp hy with rfl | hy
    · exact ((hok.cut _ _).app oS).app (hok.cut _ _)
    rcases List.mem_cons.mp hy with rfl | hy
    · exact (hok.cut _ _).app (hok.cut _ _)
    obtain rfl := List.mem_singleton.mp hy
    exact ((hok.cut _ _).app oS).app (hok.cut _ _)

end
end G1

set_option maxRecDepth 100000
set_option maxHeartbeats 4000000
namespace G1
open PySem PySem.Spec PyProof.Rows L2 Gm
section
variable {P : Program} {w : World} {K : PySem.W.Frag} {mg : Str → Option Value} {base : Heap}
/-- all states of a walk, the first and the end with them -/
inductive Tr (z : List Nat) : Sta → List Nat → List Sta → Prop where
  | nil : Tr z (endS z) [] [endS z]
  | one {s a : Sta} {w : List Nat} {L : List Sta} (h : step z s = [a]) (r : Tr z a w L) : Tr z s w (s :: L)
  | left {s a b : Sta} {w : List Nat} {L : List Sta} (h : step z s = [a, b]) (r : Tr z a w L) : Tr z s (0 :: w) (s :: L)
  | right {s a b : Sta} {w : List Nat} {L : List Sta} (h : step z s = [a, b]) (r : Tr z b w L) : Tr z s (1 :: w) (s :: L)
theorem walk_tr {z : List Nat} {s e : Sta} {w : List Nat} (h : Walk z s w e) (he : e = endS z) : ∃ L, Tr z s w L := by
  induction h with
  | nil =>
    subst he
    exact ⟨_, .nil⟩
  | one h _ ih =>
    obtain ⟨L, hL⟩ := ih he
    exact ⟨_, .one h hL⟩
  | left h _ ih =>
    obtain ⟨L, hL⟩ := ih he
    exact ⟨_, .left h hL⟩
  | right h _ ih =>
    obtain ⟨L, hL⟩ := ih he
    exact ⟨_, .right h hL⟩
theorem Tr.walk {z : List Nat} {s : Sta} {w : List Nat} {L : List Sta} (h : Tr z s w L) : Walk z s w (endS z) := by
  induction h with
  | nil => exact .nil
  | one h _ ih => exact .one h ih
  | left h _ ih => exact .left h ih
  | right h _ ih => exact .right h ih
/-- what a walk that is not at its end does next -/
theorem Tr.inv {z : List Nat} {s : Sta} {w : List Nat} {L : List Sta} (h : Tr z s w L) : (s = endS z ∧ w = [] ∧ L = [endS z]) ∨ (∃ a M, step z s = [a] ∧ L = s :: M ∧ Tr z a w M) ∨
    (∃ a b c w' t M, step z s = [a, b] ∧ w = c :: w' ∧ c ≤ 1 ∧ (step z s)[c]? = some t ∧ L = s :: M ∧ Tr z t w' M) := by
  cases h with
  | nil => exact .inl ⟨rfl, rfl, rfl⟩
  | one h r => exact .inr (.inl ⟨_, _, h, rfl, r⟩)
  | left h r => exact .inr (.inr ⟨_, _, _, _, _, _, h, rfl, by decide, by rw [h]; rfl, rfl, r⟩)
  | right h r => exact .inr (.inr ⟨_, _, _, _, _, _, h, rfl, by decide, by rw [h]; rfl, rfl, r⟩)
def sp_is_choice (K : PySem.W.Frag) : Sp := fun vs H Q _ => ∃ c : Nat, vs = [.int (c : Int)] ∧ c ≤ 1 ∧ ∀ H', Same H H' → Q (.bl true) H'
theorem ok__is_choice (T : Txt w K mg) : FnOk P w K mg base CX0 1 T.f__is_choice T.fd__is_choice ["thing"] (sp_is_choice K) := by
  refine T.F__is_choice.ok sc__is_choice (fun vs H Q E h => ?_) (fun cdv A outer s H vs Q E hr h => ?_)
  · obtain ⟨c, rfl, _⟩ := h
    rfl
  obtain ⟨c, rfl, hc, q⟩ := h
  refine ⟨_, (pss_one (ps_ret (pe_and (pe_cmpR (op_eqTy TypeEq.meta_int) (pe_callTy call_type1 (by rfl) T.n_type (by decide +kernel) (pa_cons (pv 0) pa_nil)) (pe_bltn (v := .ty "int") (by rfl) T.n_int (by decide +kernel) rfl) (nomark _)) (pe_one (pe_cmpR op_in_seq (pv 0) (pe_tup (pa_cons pe_int (pa_cons pe_int pa_nil))) (by rfl)))))), ?_⟩
  refine ⟨_, rfl, _, _, rfl, .int _, rfl, rfl, _, rfl, iteT ?_⟩
  refine ⟨_, rfl, sz (by show 2 ≤ 10000; decide), fun t n => ?_⟩
  refine ⟨t, [.int 0, .int 1], rfl, .inr (SqT.of upd_same), rfl, rfl, ?_⟩
  have e : inV (.int (c : Int)) [.int 0, .int 1] = true := by
    match c, hc with
    | 0, _ => rfl
    | 1, _ => rfl
  show Q (.bl (inV (.int (c : Int)) [.int 0, .int 1])) _
  rw [e]
  exact q _ (same_new n)
def sp_followed (K : PySem.W.Frag) : Sp := fun vs H Q _ => ∃ (a l : Addr) (gv : List V), vs = [.ref a, .ref l] ∧ H a = some (.lst gv) ∧ a ≠ l ∧
  ((∃ g, gv = [g] ∧ Q g H) ∨ (∃ (g0 g1 x : V) (ls : List V) (c : Nat), gv = [g0, g1] ∧ H l = some (.lst (ls ++ [.int (c : Int)])) ∧ c ≤ 1 ∧ gv[c]? = some x ∧ ∀ H', Same (upd H l (.lst ls)) H' → Q x H'))
theorem ok__followed (T : Txt w K mg) : FnOk P w K mg base CX0 2 T.f__followed T.fd__followed ["following", "left"] (sp_followed K) := by
  refine T.F__followed.ok sc__followed (fun vs H Q E h => ?_) (fun cdv A outer s H vs Q E hr h => ?_)
  · obtain ⟨a, l, gv, rfl, _⟩ := h
    rfl
  obtain ⟨a, l, gv, rfl, ha, hal, h⟩ := h
  refine ⟨_, (pss_cons (ps_if (pt_not (pt_truth (pv 0) (by intro _; rfl)))
    (pss_one ps_never)
    pss_nil)
  (pss_cons (ps_if (pt_cmpR op_eq (pe_callB call_len_seq (by rfl) T.n_len PySem.boot_len (pa_cons (pv 0) pa_nil)) pe_int (nomark _))
    (pss_one (ps_ret (pe_ix ix_list (pv 0) pe_int (fun _ _ => rfl))))
    pss_nil)
  (pss_cons (ps_if (pt_not (pt_truth (pv 1) (by intro _; rfl)))
    (pss_one ps_never)
    pss_nil)
  (pss_cons (ps_set (i := 2) sc__followed.nd rfl (.inl rfl) (pe_bm0 PySem.F.plainAttrs_list PySem.F.slot_list_pop PySem.F.type_list_pop mt_pop (pv 1)))
  (pss_cons (ps_if (pt_not (pt_val (pe_call (ok__is_choice T) (hr.mono (by decide)) (by rfl) T.m__is_choice T.F__is_choice.kp T.b__is_choice .nil pass0 (pa_cons (pv 2) pa_nil))))
    (pss_one ps_never)
    pss_nil)
  (pss_one (ps_ret (pe_ix ix_list (pv 0) (pv 2) (fun _ _ => rfl))))))))), ?_⟩
  rcases h with ⟨g, rfl, q⟩ | ⟨g0, g1, x, ls, c, rfl, hl, hc, hx, q⟩
  · refine ⟨_, rfl, true, .inl ⟨_, SqL.of ha, by simp⟩, iteF ?_⟩
    refine ⟨_, rfl, a, _, rfl, .inl (SqL.of ha), rfl, _, rfl, iteT ?_⟩
    exact ⟨_, rfl, a, _, _, _, rfl, rfl, SqL.of ha, at0 rfl, q⟩
  · refine ⟨_, rfl, true, .inl ⟨_, SqL.of ha, by simp⟩, iteF ?_⟩
    refine ⟨_, rfl, a, _, rfl, .inl (SqL.of ha), rfl, _, rfl, iteF ?_⟩
    refine ⟨_, rfl, true, .inl ⟨_, SqL.of hl, by simp⟩, iteF ?_⟩
    refine ⟨_, rfl, .inl ⟨rfl, _, SqL.of hl⟩, l, _, .int (c : Int), rfl, rfl, hl, last_get _ _, ?_⟩
    rw [List.dropLast_concat]
    refine ⟨_, rfl, c, rfl, hc, fun H2 s2 => ⟨_, rfl, iteF ?_⟩⟩
    have ha2 := s2 _ _ (show upd H l (.lst ls) a = some (.lst [g0, g1]) by rw [upd_ne hal]; exact ha)
    exact ⟨_, rfl, _, rfl, a, _, _, x, rfl, rfl, SqL.of ha2, atI_nat hx, q H2 s2⟩
theorem nat2_revC (c : Nat) (w : List Nat) : (nat2 (c :: w)).reverse = (nat2 w).reverse ++ [V.int (c : Int)] := by
  unfold nat2
  simp
theorem isEnd_step {z : Str} {s : Sta} (h : isEnd z s = true) : step z.cps.toList s = [] := by
  obtain ⟨R, k⟩ := s
  cases R with
  | nil => rfl
  | cons t R => cases h
theorem SAts.snoc {H : Hp} {L : List Sta} {vs : List V} {s : Sta} {v : V} (h : SAts K H L vs) (u : SAt K H s v) : SAts K H (L ++ [s]) (vs ++ [v]) := Paired.snoc h u
def wInv (K : PySem.W.Frag) (H : Hp) (v : V) (z : Str) (a lp ll : Addr) (p : Pat) (Tm : Sta → Nat) (L0 : List Sta) (m : Nat) (σ' : L2.St) (H' : Hp) : Prop :=
  ∃ (A L : List Sta) (st : Sta) (w : List Nat) (vs : List V), σ' = [some v, some (.str z), some (.ref a), some (.ref lp), some (.ref ll)] ∧ Same H H' ∧ H' lp = some (.lst vs) ∧ SAts K H' (A ++ [st]) vs ∧ H' ll = some (.lst (nat2 w).reverse) ∧ lp ≠ ll ∧
    Tr z.cps.toList st w L ∧ L0 = A ++ L ∧ SOk p z.cps.toList st ∧ (∀ x ∈ A, SOk p z.cps.toList x ∧ nu p z.cps.toList st < nu p z.cps.toList x) ∧ A.Nodup ∧ m = Tm st
def sp_walk (K : PySem.W.Frag) : Sp := fun vs H Q _ => ∃ (p : Pat) (v : V) (z : Str) (a : Addr) (ws : List Nat) (L : List Sta), vs = [v, .str z, .ref a] ∧ PAt K H p v ∧ siz p ≤ 1000 ∧ dep p ≤ 50 ∧ goodP p ∧ z.length ≤ 1000 ∧ H a = some (.lst (nat2 ws)) ∧
  Tr z.cps.toList ([.pat p], 0) ws L ∧ ∀ (r : Addr) (ts : List V) (H' : Hp), Same H H' → H r = none → H' r = some (.lst ts) → SAts K H' L ts → L.length ≤ 3000000 → (∀ x ∈ L, SOk p z.cps.toList x) → Q (.ref r) H'
theorem ok_walk (T : Txt w K mg) : FnOk P w K mg base CX0 5 T.f_walk T.fd_walk ["pattern", "text", "way"] (sp_walk K) := by
  refine T.F_walk.ok sc_walk (fun vs H Q E h => ?_) (fun cdv A outer s H vs Q E hr h => ?_)
  · obtain ⟨p, v, z, a, ws, L, rfl, _⟩ := h
    rfl
  obtain ⟨p, v, z, a, ws, L0, rfl, hp, hsz, hd, hg, hz, ha, htr, q⟩ := h
  have hn := hg.nr
  obtain ⟨Tm, hT⟩ := cost_ex hn z.cps.toList
  have okz : ∀ {st : Sta}, SOk p z.cps.toList st → st.1.length ≤ 1000 ∧ st.2 ≤ z.length ∧ gd 50 st.1 := fun {st} h => by
    have h1 := allr_ok hn _ h.1
    have h2 := h1.len
    have h3 := h.2
    rw [str_len] at h3
    exact ⟨by omega, h3, fun t ht => Nat.le_trans (h1.gd t ht) hd⟩
  refine ⟨_, (pss_cons (ps_set (i := 3) sc_walk.nd rfl (.inl rfl) (pe_lst (pa_cons (pe_call (ok_first_state T) (hr.mono (by decide)) (by rfl) T.m_first_state T.F_first_state.kp T.b_first_state .nil pass0 (pa_cons (pe_call (ok_checked T) (hr.mono (by decide)) (by rfl) T.m_checked T.F_checked.kp T.b_checked .nil pass0 (pa_cons (pv 0) pa_nil)) pa_nil)) pa_nil)))
  (pss_cons (ps_set (i := 4) sc_walk.nd rfl (.inl rfl) (pe_revL (pv 2)))
  (pss_cons (ps_while PassesOwn.never (pt_not (pt_val (pe_call (ok_is_end T) (hr.mono (by decide)) (by rfl) T.m_is_end T.F_is_end.kp T.b_is_end .nil pass0 (pa_cons (pe_ix ix_list (pv 3) (pe_un un_neg pe_int) (fun _ _ => rfl)) (pa_cons (pv 1) pa_nil)))))
   (pss_one (ps_expr (pe_bm PySem.F.plainAttrs_list PySem.F.slot_list_append PySem.F.type_list_append mt_append (pv 3) (pa_cons (pe_call (ok__followed T) (hr.mono (by decide)) (by rfl) T.m__followed T.F__followed.kp T.b__followed .nil pass0 (pa_cons (pe_call (ok_onward T) (hr.mono (by decide)) (by rfl) T.m_onward T.F_onward.kp T.b_onward .nil pass0 (pa_cons (pe_ix ix_list (pv 3) (pe_un un_neg pe_int) (fun _ _ => rfl)) (pa_cons (pv 1) pa_nil))) (pa_cons (pv 4) pa_nil))) pa_nil)))))
  (pss_cons (ps_if (pt_truth (pv 4) (by intro _; rfl))
    (pss_one ps_never)
    pss_nil)
  (pss_one (ps_ret (pv 3))))))), ?_⟩
  refine ⟨_, rfl, p, v, rfl, hp, hsz, hg, fun H1 s1 => ?_⟩
  refine ⟨p, v, rfl, hp.mono (TS.of s1), fun t H2 s2 hs => ?_⟩
  refine ⟨sz (by show 1 ≤ 10000; decide), fun lp np => ?_⟩
  have s12 := s1.trans s2
  have s3 := same_new (o := .lst [.ref t]) np
  have s13 := s12.trans s3
  have np0 := s12.free np
  refine ⟨_, rfl, a, _, rfl, SqL.of (s13 _ _ ha), fun ll nl => ?_⟩
  have s4 := same_new (o := .lst (nat2 ws).reverse) nl
  have nl0 := s13.free nl
  have nll : lp ≠ ll := fun e => by
    rw [← e, upd_same] at nl
    cases nl
  refine ⟨wInv K H v z a lp ll p Tm L0, ⟨_, [], L0, _, ws, [.ref t], rfl, s13.trans s4, s4 _ _ upd_same, .cons (hs.mono (TS.of (s3.trans s4))) .nil, upd_same, nll, htr, rfl, SOk.first _ _, (fun x hx => by cases hx), List.nodup_nil, rfl⟩, ?_⟩
  clear s4 nl s13 s3 s12 np hs s2 s1
  rintro m σ' H3 ⟨A', L, st, w, vs, rfl, s1, hl, pv, hll, _, tr, rfl, hok, hA, nA, rfl⟩
  have ne0 : A' ++ [st] ≠ [] := by simp
  obtain ⟨A1, x1, vs1, sv, eA, rfl, pvA, hs⟩ := Paired.last pv (by
    have h1 := Paired.length pv
    have h2 : (A' ++ [st]).length = A'.length + 1 := by rw [List.length_append]; rfl
    omega)
  obtain ⟨rfl, ex⟩ := List.append_inj' eA rfl
  obtain rfl : st = x1 := (List.cons.inj ex).1
  clear eA ex
  have few : (A' ++ [st]).length < 3000000 := by
    refine states_few (p := p) (z := z.cps.toList) ?_ ?_ hsz (by rw [str_len]; exact hz)
    · rw [List.nodup_append]
      refine ⟨nA, by simp, fun x hx y hy e => ?_⟩
      rw [List.mem_singleton.mp hy] at e
      have := (hA x hx).2
      rw [e] at this
      omega
    · intro x hx
      rcases List.mem_append.mp hx with hx | hx
      · exact (hA x hx).1
      · rw [List.mem_singleton.mp hx]
        exact hok
  have lv : (A' ++ [st]).length = (vs1 ++ [sv]).length := Paired.length pv
  obtain ⟨o1, o2, o3⟩ := okz hok
  refine ⟨_, rfl, _, rfl, lp, _, _, sv, rfl, rfl, SqL.of hl, atI_last _ _, _, rfl, st, sv, z, rfl, hs, o3, hz, fun H4 s4 => ⟨_, rfl, ?_⟩⟩
  have hl4 := s4 _ _ hl
  have hll4 := s4 _ _ hll
  have hs4 := hs.mono (TS.of (K := K) s4)
  have pv4 := SAts.mono (TS.of (K := K) s4) pv
  have s14 := s1.trans s4
  have ct := hT st hok
  rcases tr.inv with ⟨rfl, rfl, rfl⟩ | ⟨s', M, e1, rfl, tr'⟩ | ⟨sa, sb, c, w', s', M, e1, rfl, hc, e2, rfl, tr'⟩
  · have ee : isEnd z (endS z.cps.toList) = true := by
      show (true && decide (((z.cps.toList.length : Nat) : Int) = ((z.length : Nat) : Int))) = true
      rw [str_len]
      simp
    rw [ee]
    refine iteF ?_
    refine ⟨_, rfl, false, .inl ⟨_, SqL.of hll4, rfl⟩, iteF ?_⟩
    refine ⟨_, rfl, q lp _ H4 s14 np0 hl4 pv4 (by omega) fun x hx => ?_⟩
    rcases List.mem_append.mp hx with hx | hx
    · exact (hA x hx).1
    · rw [List.mem_singleton.mp hx]
      exact hok
  · have ee : isEnd z st = false := by
      cases e : isEnd z st with
      | false => rfl
      | true =>
        rw [isEnd_step e] at e1
        cases e1
    rw [ee]
    refine iteT ?_
    refine ⟨fun σ' H' => ∃ m', m' < Tm st ∧ wInv K H v z a lp ll p Tm (A' ++ st :: M) m' σ' H', fun σ' H' h => h, ?_⟩
    refine ⟨_, rfl, .inl ⟨rfl, _, SqL.of hl4⟩, _, rfl, _, rfl, lp, _, _, sv, rfl, rfl, SqL.of hl4, atI_last _ _, _, rfl, st, sv, z, rfl, hs4, o1, o2, hz, fun gl gv H5 s5 ngl hg pg => ?_⟩
    rw [e1] at pg
    obtain ⟨g0, rfl⟩ : ∃ g, gv = [g] := List.length_eq_one_iff.mp (by have := Paired.length pg; simpa using this.symm)
    have hl5 := s5 _ _ hl4
    have hll5 := s5 _ _ hll4
    have hm : s' ∈ step z.cps.toList st := by rw [e1]; simp
    have ok' := hok.step hn s' hm
    have nd := nu_dec hn hok s' hm
    rw [e1] at ct
    simp only [List.map_cons, List.map_nil, List.sum_cons, List.sum_nil] at ct
    have g0' : SAt K H5 s' g0 := by
      cases pg with
      | cons h _ => exact h
    refine ⟨_, rfl, gl, ll, _, rfl, hg, ?_, .inl ⟨g0, rfl, ?_⟩⟩
    · intro e
      rw [e, hll4] at ngl
      cases ngl
    refine ⟨lp, _, g0, rfl, rfl, hl5, by rw [sizeLine_eq]; omega, ?_⟩
    have e9 : TS K H5 (upd H5 lp (.lst (vs1 ++ [sv] ++ [g0]))) := TS.lst hl5
    refine ⟨Tm s', by omega, A' ++ [st], M, s', w, vs1 ++ [sv] ++ [g0], rfl, Same.mut (s14.trans s5) np0, upd_same, SAts.snoc (SAts.mono e9 (SAts.mono (TS.of s5) pv4)) (g0'.mono e9), by rw [upd_ne nll.symm]; exact hll5, nll, tr', by simp, ok', fun x hx => ?_, ?_, rfl⟩
    · rcases List.mem_append.mp hx with hx | hx
      · have := hA x hx
        exact ⟨this.1, by omega⟩
      · rw [List.mem_singleton.mp hx]
        exact ⟨hok, nd⟩
    · rw [List.nodup_append]
      refine ⟨nA, by simp, fun x hx y hy e => ?_⟩
      rw [List.mem_singleton.mp hy] at e
      have := (hA x hx).2
      rw [e] at this
      omega
  · have ee : isEnd z st = false := by
      cases e : isEnd z st with
      | false => rfl
      | true =>
        rw [isEnd_step e] at e1
        cases e1
    rw [ee]
    refine iteT ?_
    refine ⟨fun σ' H' => ∃ m', m' < Tm st ∧ wInv K H v z a lp ll p Tm (A' ++ st :: M) m' σ' H', fun σ' H' h => h, ?_⟩
    refine ⟨_, rfl, .inl ⟨rfl, _, SqL.of hl4⟩, _, rfl, _, rfl, lp, _, _, sv, rfl, rfl, SqL.of hl4, atI_last _ _, _, rfl, st, sv, z, rfl, hs4, o1, o2, hz, fun gl gv H5 s5 ngl hg pg => ?_⟩
    have hm : s' ∈ step z.cps.toList st := List.mem_of_getElem? e2
    have ok' := hok.step hn s' hm
    have nd := nu_dec hn hok s' hm
    have lt : Tm s' < Tm st := by
      have := mem_le_sum (l := (step z.cps.toList st).map fun s' => 1 + Tm s') (List.mem_map.mpr ⟨s', hm, rfl⟩)
      omega
    have hgl := Paired.length pg
    have hc2 := (List.getElem?_eq_some_iff.mp e2).1
    obtain ⟨y, e0, u0⟩ := Paired.at pg (List.getElem?_eq_getElem (show c < gv.length by omega))
    rw [e2] at e0
    cases Option.some.inj e0
    have ex := List.getElem?_eq_getElem (show c < gv.length by omega)
    generalize gv[c]'(show c < gv.length by omega) = g at u0 ex
    have u0 : SAt K H5 s' g := u0
    obtain ⟨g0, g1, rfl⟩ : ∃ g0 g1, gv = [g0, g1] := by
      rcases gv with _ | ⟨g0, _ | ⟨g1, _ | ⟨g2, gs⟩⟩⟩ <;> first | exact ⟨_, _, rfl⟩ | (rw [e1] at hgl; simp at hgl)
    have hl5 := s5 _ _ hl4
    have hll5 := s5 _ _ hll4
    rw [nat2_revC] at hll5
    refine ⟨_, rfl, gl, ll, _, rfl, hg, ?_, .inr ⟨g0, g1, g, _, c, rfl, hll5, hc, ex, fun H6 s6 => ?_⟩⟩
    · intro e
      rw [e, hll4] at ngl
      cases ngl
    have t6 : TS K H5 H6 := (TS.lst (K := K) hll5).trans (TS.of s6)
    have hl6 := s6 _ _ (show upd H5 ll (.lst (nat2 w').reverse) lp = some (.lst (vs1 ++ [sv])) by rw [upd_ne nll]; exact hl5)
    have hll6 := s6 _ _ (upd_same (H := H5) (a := ll) (o := .lst (nat2 w').reverse))
    have s16 : Same H H6 := (Same.mut (s14.trans s5) nl0).trans s6
    refine ⟨lp, _, g, rfl, rfl, hl6, by rw [sizeLine_eq]; omega, ?_⟩
    have e9 : TS K H6 (upd H6 lp (.lst (vs1 ++ [sv] ++ [g]))) := TS.lst hl6
    refine ⟨Tm s', lt, A' ++ [st], M, s', w', vs1 ++ [sv] ++ [g], rfl, Same.mut s16 np0, upd_same, SAts.snoc (SAts.mono e9 (SAts.mono t6 (SAts.mono (TS.of s5) pv4))) ((u0.mono t6).mono e9), by rw [upd_ne nll.symm]; exact hll6, nll, tr', by simp, ok', fun x hx => ?_, ?_, rfl⟩
    · rcases List.mem_append.mp hx with hx | hx
      · have := hA x hx
        exact ⟨this.1, by omega⟩
      · rw [List.mem_singleton.mp hx]
        exact ⟨hok, nd⟩
    · rw [List.nodup_append]
      refine ⟨nA, by simp, fun x hx y hy e => ?_⟩
      rw [List.mem_singleton.mp hy] at e
      have := (hA x hx).2
      rw [e] at this
      omega

end
end G1

set_option maxRecDepth 100000
set_option maxHeartbeats 4000000
namespace G1
open PySem PySem.Spec PyProof.Rows L2 Gm
section
variable {P : Program} {w : World} {K : PySem.W.Frag} {mg : Str → Option Value} {base : Heap}
/-! ### where groups began and closed -/
def setF {β : Type} (f : Int → Option β) (n : Int) (v : β) : Int → Option β := fun m => if m = n then some v else f m
abbrev BF := (Int → Option Nat) × (Int → Option (Nat × Nat))
def mstep (bf : BF) (s : Sta) : BF :=
  match s.1 with
  | .pat (.group n _) :: _ => (setF bf.1 n s.2, bf.2)
  | .close n :: _ => (bf.1, setF bf.2 n ((bf.1 n).getD 0, s.2))
  | _ => bf
def mfold (L : List Sta) : BF := L.foldl mstep (fun _ => none, fun _ => none)
theorem mfold_snoc (L : List Sta) (s : Sta) : mfold (L ++ [s]) = mstep (mfold L) s := by
  unfold mfold
  rw [List.foldl_append]
  rfl
def thn : Th → List Int
  | .pat q => nums (subs q)
  | .close n => [n]
/-- what the rests behind a step hold -/
theorem step_from (z : List Nat) : ∀ (s s' : Sta), s' ∈ step z s → (∀ t ∈ s'.1, ∀ n ∈ thn t, ∃ t0 ∈ s.1, n ∈ thn t0) ∧ (∀ n, .close n ∈ s'.1 → .close n ∈ s.1 ∨ ∃ q r, s.1 = .pat (.group n q) :: r)
  | ([], _), s', h => by rw [step_nil] at h; cases h
  | (.close m :: r, k), s', h => by
    have h' : s' ∈ [((r, k) : Sta)] := h
    obtain rfl := List.mem_singleton.mp h'
    exact ⟨fun t ht n hn => ⟨t, List.mem_cons_of_mem _ ht, hn⟩, fun n hn => .inl (List.mem_cons_of_mem _ hn)⟩
  | (.pat (.sign c) :: r, k), s', h => by
    have h' : s' ∈ (if z[k]? = some c then [(r, k + 1)] else [] : List Sta) := h
    split at h'
    · obtain rfl := List.mem_singleton.mp h'
      exact ⟨fun t ht n hn => ⟨t, List.mem_cons_of_mem _ ht, hn⟩, fun n hn => .inl (List.mem_cons_of_mem _ hn)⟩
    · cases h'
  | (.pat .any :: r, k), s', h => by
    have h' : s' ∈ (if k < z.length then [(r, k + 1)] else [] : List Sta) := h
    split at h'
    · obtain rfl := List.mem_singleton.mp h'
      exact ⟨fun t ht n hn => ⟨t, List.mem_cons_of_mem _ ht, hn⟩, fun n hn => .inl (List.mem_cons_of_mem _ hn)⟩
    · cases h'
  | (.pat .none :: r, k), s', h => by
    have h' : s' ∈ [((r, k) : Sta)] := h
    obtain rfl := List.mem_singleton.mp h'
    exact ⟨fun t ht n hn => ⟨t, List.mem_cons_of_mem _ ht, hn⟩, fun n hn => .inl (List.mem_cons_of_mem _ hn)⟩
  | (.pat (.row p q) :: r, k), s', h => by
    have h' : s' ∈ [((.pat p :: .pat q :: r, k) : Sta)] := h
    obtain rfl := List.mem_singleton.mp h'
    refine ⟨fun t ht n hn => ?_, fun n hn => .inl ?_⟩
    · rcases List.mem_cons.mp ht with rfl | ht
      · exact ⟨_, List.mem_cons_self, by show n ∈ nums (subs (.row p q)); rw [ns_row]; exact List.mem_append_left _ hn⟩
      rcases List.mem_cons.mp ht with rfl | ht
      · exact ⟨_, List.mem_cons_self, by show n ∈ nums (subs (.row p q)); rw [ns_row]; exact List.mem_append_right _ hn⟩
      · exact ⟨t, List.mem_cons_of_mem _ ht, hn⟩
    · simp at hn
      exact List.mem_cons_of_mem _ hn
  | (.pat (.or p q) :: r, k), s', h => by
    have h' : s' ∈ [((.pat p :: r, k) : Sta), (.pat q :: r, k)] := h
    rcases List.mem_cons.mp h' with rfl | h'
    · refine ⟨fun t ht n hn => ?_, fun n hn => .inl ?_⟩
      · rcases List.mem_cons.mp ht with rfl | ht
        · exact ⟨_, List.mem_cons_self, by show n ∈ nums (subs (.or p q)); rw [ns_or]; exact List.mem_append_left _ hn⟩
        · exact ⟨t, List.mem_cons_of_mem _ ht, hn⟩
      · simp at hn
        exact List.mem_cons_of_mem _ hn
    · obtain rfl := List.mem_singleton.mp h'
      refine ⟨fun t ht n hn => ?_, fun n hn => .inl ?_⟩
      · rcases List.mem_cons.mp ht with rfl | ht
        · exact ⟨_, List.mem_cons_self, by show n ∈ nums (subs (.or p q)); rw [ns_or]; exact List.mem_append_right _ hn⟩
        · exact ⟨t, List.mem_cons_of_mem _ ht, hn⟩
      · simp at hn
        exact List.mem_cons_of_mem _ hn
  | (.pat (.more p) :: r, k), s', h => by
    have h' : s' ∈ [((.pat p :: .pat (.more p) :: r, k) : Sta), (r, k)] := h
    rcases List.mem_cons.mp h' with rfl | h'
    · refine ⟨fun t ht n hn => ?_, fun n hn => .inl ?_⟩
      · rcases List.mem_cons.mp ht with rfl | ht
        · exact ⟨_, List.mem_cons_self, hn⟩
        · exact ⟨t, ht, hn⟩
      · simp at hn
        exact List.mem_cons_of_mem _ hn
    · obtain rfl := List.mem_singleton.mp h'
      exact ⟨fun t ht n hn => ⟨t, List.mem_cons_of_mem _ ht, hn⟩, fun n hn => .inl (List.mem_cons_of_mem _ hn)⟩
  | (.pat (.less p) :: r, k), s', h => by
    have h' : s' ∈ [((r, k) : Sta), (.pat p :: .pat (.less p) :: r, k)] := h
    rcases List.mem_cons.mp h' with rfl | h'
    · exact ⟨fun t ht n hn => ⟨t, List.mem_cons_of_mem _ ht, hn⟩, fun n hn => .inl (List.mem_cons_of_mem _ hn)⟩
    · obtain rfl := List.mem_singleton.mp h'
      refine ⟨fun t ht n hn => ?_, fun n hn => .inl ?_⟩
      · rcases List.mem_cons.mp ht with rfl | ht
        · exact ⟨_, List.mem_cons_self, hn⟩
        · exact ⟨t, ht, hn⟩
      · simp at hn
        exact List.mem_cons_of_mem _ hn
  | (.pat (.group m p) :: r, k), s', h => by
    have h' : s' ∈ [((.pat p :: .close m :: r, k) : Sta)] := h
    obtain rfl := List.mem_singleton.mp h'
    refine ⟨fun t ht n hn => ?_, fun n hn => ?_⟩
    · rcases List.mem_cons.mp ht with rfl | ht
      · exact ⟨_, List.mem_cons_self, by show n ∈ nums (subs (.group m p)); rw [ns_group]; exact List.mem_cons_of_mem _ hn⟩
      rcases List.mem_cons.mp ht with rfl | ht
      · exact ⟨_, List.mem_cons_self, by show n ∈ nums (subs (.group m p)); rw [ns_group]; rw [List.mem_singleton.mp hn]; exact List.mem_cons_self⟩
      · exact ⟨t, List.mem_cons_of_mem _ ht, hn⟩
    · simp at hn
      rcases hn with rfl | hn
      · exact .inr ⟨p, r, rfl⟩
      · exact .inl (List.mem_cons_of_mem _ hn)
/-- all numbers are of the pattern's groups, all that is to be closed has begun -/
structure MOk (N : List Int) (bf : BF) (s : Sta) : Prop where
  ns : ∀ t ∈ s.1, ∀ n ∈ thn t, n ∈ N
  cl : ∀ n, .close n ∈ s.1 → (bf.1 n).isSome = true
theorem mstep_begun {bf : BF} {s : Sta} {n : Int} (h : (bf.1 n).isSome = true) : ((mstep bf s).1 n).isSome = true := by
  unfold mstep
  split
  · show (setF bf.1 _ s.2 n).isSome = true
    unfold setF
    split
    · rfl
    · exact h
  · exact h
  · exact h
theorem MOk.step {N : List Int} {bf : BF} {z : List Nat} {s s' : Sta} (h : MOk N bf s) (hm : s' ∈ step z s) : MOk N (mstep bf s) s' := by
  obtain ⟨h1, h2⟩ := step_from z s s' hm
  refine ⟨fun t ht n hn => ?_, fun n hn => ?_⟩
  · obtain ⟨t0, h3, h4⟩ := h1 t ht n hn
    exact h.ns t0 h3 n h4
  · rcases h2 n hn with h3 | ⟨q, r, h3⟩
    · exact mstep_begun (h.cl n h3)
    · unfold mstep
      rw [h3]
      show (setF bf.1 n s.2 n).isSome = true
      unfold setF
      rw [if_pos rfl]
      rfl
theorem MOk.first (p : Pat) (bf : BF) : MOk (nums (subs p)) bf ([.pat p], 0) := ⟨fun t ht n hn => by
  rw [List.mem_singleton.mp ht] at hn
  exact hn, fun n hn => by simp at hn⟩
/-- at each state of a walk but the last there is a thing to be done -/
theorem Tr.each {N : List Int} {z : List Nat} {s : Sta} {w : List Nat} {L : List Sta} (h : Tr z s w L) : ∀ {bf : BF}, MOk N bf s → ∀ (i : Nat) (x : Sta), i + 1 < L.length → L[i]? = some x → MOk N ((L.take i).foldl mstep bf) x ∧ ∃ t r, x.1 = t :: r := by
  have go : ∀ {s a : Sta} {L : List Sta} {bf : BF}, a ∈ step z s → MOk N bf s → (∀ {bf : BF}, MOk N bf a → ∀ (i : Nat) (x : Sta), i + 1 < L.length → L[i]? = some x → MOk N ((L.take i).foldl mstep bf) x ∧ ∃ t r, x.1 = t :: r) →
      ∀ (i : Nat) (x : Sta), i + 1 < (s :: L).length → (s :: L)[i]? = some x → MOk N (((s :: L).take i).foldl mstep bf) x ∧ ∃ t r, x.1 = t :: r := fun {s a L bf} hm ok ih i x hi hx => by
    cases i with
    | zero =>
      cases Option.some.inj hx
      refine ⟨ok, ?_⟩
      obtain ⟨R, k⟩ := s
      cases R with
      | nil => rw [step_nil] at hm; cases hm
      | cons t r => exact ⟨t, r, rfl⟩
    | succ i =>
      rw [List.length_cons] at hi
      have := ih (ok.step hm) i x (by omega) (by simpa using hx)
      rw [List.take_succ_cons, List.foldl_cons]
      exact this
  induction h with
  | nil => intro bf _ i x hi _; simp at hi
  | one h _ ih => intro bf ok; exact go (by rw [h]; simp) ok ih
  | left h _ ih => intro bf ok; exact go (by rw [h]; simp) ok ih
  | right h _ ih => intro bf ok; exact go (by rw [h]; simp) ok ih
theorem Tr.len {z : List Nat} {s : Sta} {w : List Nat} {L : List Sta} (h : Tr z s w L) : 0 < L.length := by
  cases h <;> simp

end
end G1

set_option maxRecDepth 100000
set_option maxHeartbeats 4000000
namespace G1
open PySem PySem.Spec PyProof.Rows L2 Gm
section
variable {P : Program} {w : World} {K : PySem.W.Frag} {mg : Str → Option Value} {base : Heap}
theorem cut_init (xs : List V) : cutV xs none (some (-(1 : Int))) = xs.dropLast := by
  unfold cutV
  rw [HT.sIx_none, List.drop_zero, Nat.sub_zero]
  have e : HT.sIx xs.length xs.length (some (-(1 : Int))) = xs.length - 1 := by
    show (if (-(1 : Int)) < 0 then (-(1 : Int) + (xs.length : Int)).toNat else min (-(1 : Int)).toNat xs.length) = _
    rw [if_pos (by decide)]
    omega
  rw [e, List.dropLast_eq_take]
theorem nt_dK {kvs : List (L2.Key × V)} : NT (.dK kvs) := ⟨(fun _ e => by cases e), (fun _ _ e => by cases e)⟩
def MV (K : PySem.W.Frag) (H : Hp) (o : Option (Nat × Nat)) (v : V) : Prop := match o with
  | none => v = .non
  | some be => ∃ t, v = .ref t ∧ SqT K H t [.int (be.1 : Int), .int (be.2 : Int)]
theorem MV.mono {H H' : Hp} (e : TS K H H') {o : Option (Nat × Nat)} {v : V} (h : MV K H o v) : MV K H' o v := by
  cases o with
  | none => exact h
  | some be => obtain ⟨t, h1, h2⟩ := h; exact ⟨t, h1, e _ _ h2⟩
/-- what stands in a dict of marks -/
def MAt (K : PySem.W.Frag) (H : Hp) (f : Int → Option (Nat × Nat)) (N : List Int) (kvs : List (L2.Key × V)) : Prop := Paired (fun (n : Int) (kv : L2.Key × V) => kv.1 = .inl n ∧ MV K H (f n) kv.2) N kvs
theorem MAt.mono {H H' : Hp} (e : TS K H H') {f : Int → Option (Nat × Nat)} {N : List Int} {kvs : List (L2.Key × V)} (h : MAt K H f N kvs) : MAt K H' f N kvs := Paired.mapP h fun _ _ z => ⟨z.1, z.2.mono e⟩
theorem MAt.any {H : Hp} {f : Int → Option (Nat × Nat)} {n : Int} : ∀ {N : List Int} {kvs : List (L2.Key × V)}, MAt K H f N kvs → n ∈ N → (kvs.any fun kv => decide (kv.1 = (.inl n : L2.Key))) = true
  | _, _, .nil, h => by cases h
  | _, _, .cons a t, h => by
    rw [List.any_cons]
    rcases List.mem_cons.mp h with rfl | h
    · rw [decide_eq_true a.1]
      rfl
    · rw [MAt.any t h, Bool.or_true]
theorem MAt.map {H : Hp} {f : Int → Option (Nat × Nat)} {n : Int} {be : Nat × Nat} {y : V} (hy : MV K H (some be) y) : ∀ {N : List Int} {kvs : List (L2.Key × V)}, MAt K H f N kvs → MAt K H (setF f n be) N (kvs.map fun kv => if kv.1 = (.inl n : L2.Key) then (kv.1, y) else kv)
  | _, _, .nil => .nil
  | _, _, .cons (a := m) (b := kv) a t => by
    rw [List.map_cons]
    refine .cons ?_ (MAt.map hy t)
    by_cases e : m = n
    · subst e
      rw [if_pos a.1]
      refine ⟨a.1, ?_⟩
      unfold setF
      rw [if_pos rfl]
      exact hy
    · rw [if_neg (fun z => e (by rw [a.1] at z; exact Sum.inl.inj z))]
      refine ⟨a.1, ?_⟩
      unfold setF
      rw [if_neg e]
      exact a.2
theorem MAt.put {H : Hp} {f : Int → Option (Nat × Nat)} {n : Int} {be : Nat × Nat} {y : V} (hy : MV K H (some be) y) {N : List Int} {kvs : List (L2.Key × V)} (h : MAt K H f N kvs) (hn : n ∈ N) : MAt K H (setF f n be) N (putK kvs (.inl n) y) := by
  unfold putK
  rw [if_pos (h.any hn)]
  exact h.map hy
/-- what stands in a dict of places -/
def BAt (H : Hp) (b : Int → Option Nat) (d : Addr) (m : Nat) : Prop := ∃ kvs : List (L2.Key × V), H d = some (.dK kvs) ∧ kvs.length ≤ m ∧ ∀ n, valV kvs (.inl n) = (b n).map fun k => V.int (k : Int)
theorem BAt.put {H : Hp} {b : Int → Option Nat} {d : Addr} {m : Nat} {kvs : List (L2.Key × V)} (h2 : kvs.length ≤ m) (h3 : ∀ n, valV kvs (.inl n) = (b n).map fun k => V.int (k : Int)) (n : Int) (k : Nat) :
    BAt (upd H d (.dK (putK kvs (.inl n) (.int (k : Int))))) (setF b n k) d (m + 1) := by
  refine ⟨_, upd_same, by have := length_putK kvs (.inl n : L2.Key) (V.int (k : Int)); omega, fun j => ?_⟩
  rw [valV_put]
  unfold setF
  by_cases e : j = n
  · subst e
    rw [if_pos rfl, if_pos rfl]
    rfl
  · rw [if_neg (fun z => e (Sum.inl.inj z)), if_neg e]
    exact h3 j
theorem tnm_group {t : Th} (h : tnm t = "group") : ∃ n q, t = .pat (.group n q) := by
  have k := nk_nm t
  rw [h, (by decide +kernel : nk "group" = 7)] at k
  cases t with
  | close n => cases k
  | pat p => cases p <;> first | exact ⟨_, _, rfl⟩ | cases k
theorem tnm_close {t : Th} (h : tnm t = "close") : ∃ n, t = .close n := by
  have k := nk_nm t
  rw [h, (by decide +kernel : nk "close" = 8)] at k
  cases t with
  | close n => exact ⟨_, rfl⟩
  | pat p => cases p <;> cases k
def kInv (K : PySem.W.Frag) (H : Hp) (v : V) (z : Str) (a r d bd lp : Addr) (L : List Sta) (N : List Int) (ts : List V) (i : Nat) (σ : L2.St) (H' : Hp) : Prop :=
  ∃ (kvs : List (L2.Key × V)) (x6 x7 x8 : Option V), σ = [some v, some (.str z), some (.ref a), some (.ref r), some (.ref d), some (.ref bd), x6, x7, x8, none] ∧ Same H H' ∧ H' lp = some (.lst ts.dropLast) ∧ SAts K H' L ts ∧ H' d = some (.dK kvs) ∧ MAt K H' (mfold (L.take i)).2 N kvs ∧ BAt H' (mfold (L.take i)).1 bd i
def sp_marks (K : PySem.W.Frag) : Sp := fun vs H Q _ => ∃ (p : Pat) (v : V) (z : Str) (a : Addr) (ws : List Nat) (L : List Sta), vs = [v, .str z, .ref a] ∧ PAt K H p v ∧ siz p ≤ 1000 ∧ dep p ≤ 50 ∧ goodP p ∧ z.length ≤ 1000 ∧ H a = some (.lst (nat2 ws)) ∧
  Tr z.cps.toList ([.pat p], 0) ws L ∧ ∀ (d : Addr) (kvs : List (L2.Key × V)) (H' : Hp), Same H H' → H d = none → H' d = some (.dK kvs) → MAt K H' (mfold L.dropLast).2 (nums (subs p)) kvs → Q (.ref d) H'
theorem ok_marks (T : Txt w K mg) : FnOk P w K mg base CX0 6 T.f_marks T.fd_marks ["pattern", "text", "way"] (sp_marks K) := by
  refine T.F_marks.ok sc_marks (fun vs H Q E h => ?_) (fun cdv A outer s H vs Q E hr h => ?_)
  · obtain ⟨p, v, z, a, ws, L, rfl, _⟩ := h
    rfl
  obtain ⟨p, v, z, a, ws, L, rfl, hp, hsz, hd, hg, hz, ha, htr, q⟩ := h
  refine ⟨_, (pss_cons (ps_set (i := 3) sc_marks.nd rfl (.inl rfl) (pe_call (ok_walk T) (hr.mono (by decide)) (by rfl) T.m_walk T.F_walk.kp T.b_walk .nil pass0 (pa_cons (pv 0) (pa_cons (pv 1) (pa_cons (pv 2) pa_nil)))))
  (pss_cons (ps_setDc (i := 4) (own := [("number", 9)]) (g := gName 9) rfl sc_marks.nd rfl rfl (sw_trueD rfl rfl rfl (by decide +kernel)) (pi_list (pe_call (ok_numbers T) (hr.mono (by decide)) (by rfl) T.m_numbers T.F_numbers.kp T.b_numbers .nil pass0 (pa_cons (pv 0) pa_nil))) (blkOk_by (own := [("number", 9)]) (N := N_marks) (sc := defScope s_marks) (by decide +kernel)) (fun _ _ _ _ _ => by exact (pg_name (i := 9) sc_marks.nd rfl (.inl rfl))) (fun _ _ _ _ _ => by exact pts_nil) (fun _ _ _ _ _ => by exact (pv 9)) (fun _ _ _ _ _ => by exact pe_non))
  (pss_cons (ps_set (i := 5) sc_marks.nd rfl (.inl rfl) pe_dnewK)
  (pss_cons (ps_for PassesOwn.never rfl (pi_list (pe_slice sl_list (pv 3) po_none (po_some (pe_un un_neg pe_int)))) (pg_tup rfl (pgs_cons (pg_name (i := 6) sc_marks.nd rfl (.inl rfl)) (pgs_cons (pg_name (i := 7) sc_marks.nd rfl (.inl rfl)) pgs_nil)))
   (pss_cons (ps_set (i := 8) sc_marks.nd rfl (.inl rfl) (pe_ix ix_tup (pv 6) pe_int (fun _ _ => rfl)))
  (pss_cons (ps_if (pt_cmpR op_eq (pe_ix ix_tup (pv 8) pe_int (fun _ _ => rfl)) pe_str (nomark _))
    (pss_one (ps_dput (hu_of hr) (pv 5) (pe_ix ix_tup (pv 8) pe_int (fun _ _ => rfl)) (pv 7) rfl))
    pss_nil)
  (pss_one (ps_if (pt_cmpR op_eq (pe_ix ix_tup (pv 8) pe_int (fun _ _ => rfl)) pe_str (nomark _))
    (pss_one (ps_dput (hu_of hr) (pv 4) (pe_ix ix_tup (pv 8) pe_int (fun _ _ => rfl)) (pe_tup (pa_cons (pe_dget (hu_of hr) (pv 5) (pe_ix ix_tup (pv 8) pe_int (fun _ _ => rfl)) (fun _ _ => rfl)) (pa_cons (pv 7) pa_nil))) rfl))
    pss_nil)))))
  (pss_one (ps_ret (pv 4))))))), ?_⟩
  refine ⟨_, rfl, _, rfl, _, rfl, p, v, z, a, ws, L, rfl, hp, hsz, hd, hg, hz, ha, htr, fun r ts H1 s1 nr0 hr1 hts lL okL => ?_⟩
  -- the dict
  refine ⟨_, rfl, p, v, rfl, hp.mono (TS.of s1), hsz, fun rn H2 s2 nrn hrn => ⟨rn, rfl, ⟨_, SqL.of hrn⟩, fun d nd => ?_⟩⟩
  have s12 := s1.trans s2
  have nd0 := s12.free nd
  have s2' : Same H2 (upd H2 d (.dK [])) := same_new nd
  have nn : (nums (subs p)).length ≤ 1000 := Nat.le_trans (List.length_filterMap_le _ _) hsz
  refine dc_list (K := K) (a := rn) (xs := (nums (subs p)).map V.int) (fun i H' => Same H2 H' ∧ ∃ kvs, H' d = some (.dK kvs) ∧ MAt K H' (fun _ => none) ((nums (subs p)).take i) kvs) ⟨s2', [], upd_same, by rw [List.take_zero]; exact .nil⟩ (fun i H' hI => SqL.of (hI.1 _ _ hrn)) ?_ ?_
  · rintro i x H3 hi ⟨s3, kvs, hd3, hm⟩
    rw [List.getElem?_map] at hi
    obtain ⟨n, hn, rfl⟩ : ∃ n, (nums (subs p))[i]? = some n ∧ x = V.int n := by
      cases e : (nums (subs p))[i]? with
      | none => rw [e] at hi; cases hi
      | some u => rw [e] at hi; exact ⟨u, rfl, (Option.some.inj hi).symm⟩
    obtain ⟨hil, hie⟩ := List.getElem?_eq_some_iff.mp hn
    have lk := Paired.length hm
    rw [List.length_take] at lk
    refine ⟨rfl, yes_if ?_⟩
    refine ⟨_, rfl, kvs, .inl n, rfl, hd3, by rw [sizeLine_eq]; omega, Same.mut s3 nd, _, upd_same, ?_⟩
    have nov : ∀ {N : List Int} {kvs : List (L2.Key × V)}, MAt K H3 (fun _ => none) N kvs → n ∉ N → valV kvs (.inl n) = none := fun {N kvs} h hn => by
      induction h with
      | nil => rfl
      | cons a _ ih =>
        rw [valV_neg (fun e => hn (by rw [a.1] at e; rw [Sum.inl.inj e]; exact List.mem_cons_self))]
        exact ih fun h => hn (List.mem_cons_of_mem _ h)
    have hni : n ∉ (nums (subs p)).take i := fun h => by
      obtain ⟨j, hj, ej⟩ := List.mem_iff_getElem.mp h
      rw [List.getElem_take] at ej
      rw [List.length_take] at hj
      have := (List.getElem_inj hg.1).mp (ej.trans hie.symm)
      omega
    rw [putK_new _ (nov hm hni), ← List.take_append_getElem hil, hie]
    have e3 : TS K H3 (upd H3 d (.dK (kvs ++ [(.inl n, .non)]))) := ts_but hd3 nt_dK But.upd'
    exact Paired.snoc (MAt.mono e3 hm) ⟨rfl, rfl⟩
  rintro H3 ⟨s3, kvs, hd3, hm⟩
  rw [List.length_map, List.take_length] at hm
  refine fun bd nbd => ?_
  have ndb : d ≠ bd := ne_of_none hd3 nbd
  have nbd0 : H bd = none := (s12.trans s3).free nbd
  have s4 := same_new (o := .dK []) nbd
  have s13 := s12.trans s3
  have s14 := s13.trans s4
  have hr4 := (s2.trans (s3.trans s4)) _ _ hr1
  have hts4 := SAts.mono (TS.of (s2.trans (s3.trans s4))) hts
  have hm4 := MAt.mono (TS.of (K := K) s4) hm
  have hd4 := s4 _ _ hd3
  have hb4 : upd H3 bd (.dK []) bd = some (.dK []) := upd_same
  generalize upd H3 bd (.dK []) = H4 at s14 hr4 hts4 hm4 hd4 hb4
  refine ⟨_, rfl, _, rfl, _, rfl, r, _, rfl, SqL.of hr4, fun lp nlp => ⟨lp, rfl, ⟨_, SqL.of upd_same⟩, ?_⟩⟩
  rw [cut_init]
  have s5 := same_new (o := .lst ts.dropLast) nlp
  have lts : L.length = ts.length := Paired.length hts
  have lL0 := htr.len
  refine for_list (K := K) (a := lp) (xs := ts.dropLast) (fun i σ H' => kInv K H v z a r d bd lp L (nums (subs p)) ts i σ H') ⟨kvs, none, none, none, rfl, s14.trans s5, upd_same, SAts.mono (TS.of s5) hts4, s5 _ _ hd4, MAt.mono (TS.of s5) hm4, [], s5 _ _ hb4, Nat.le_refl _, fun n => rfl⟩
    (fun i σ H' _ hI => by obtain ⟨_, _, _, _, _, _, h, _⟩ := hI; exact SqL.of h) ?_ ?_
  · rintro i y σ H5 hi ⟨kvs, x6, x7, x8, rfl, s6, hlp, hL, hd5, hm5, kb, hb5, lb, vb⟩
    have hi1 := (List.getElem?_eq_some_iff.mp hi).1
    rw [List.length_dropLast] at hi1
    have hiL : i < L.length := by omega
    have ey : ts[i]? = some y := by
      rw [List.getElem?_dropLast, if_pos hi1] at hi
      exact hi
    obtain ⟨st, hst, u⟩ := Paired.at hL ey
    obtain ⟨ok, t, R, eR⟩ := htr.each (MOk.first p (fun _ => none, fun _ => none)) i st (by omega) hst
    have ok : MOk (nums (subs p)) (mfold (L.take i)) st := ok
    obtain ⟨sa, sx, rfl, hsa, ⟨b, tvs, rfl, hb, pts⟩⟩ := u
    rw [eR] at pts
    have etk : L.take (i + 1) = L.take i ++ [st] := by
      obtain ⟨h1, h2⟩ := List.getElem?_eq_some_iff.mp hst
      rw [← List.take_append_getElem h1, h2]
    cases pts with
    | @cons _ tv _ vR pt pR =>
    refine ⟨sa, _, rfl, hsa, rfl, _, _, rfl, _, _, rfl, rfl, ?_⟩
    refine ⟨_, rfl, _, _, _, _, rfl, rfl, hb, at0 rfl, ?_⟩
    have hn : ∀ n, (t = .close n ∨ ∃ q, t = .pat (.group n q)) → n ∈ nums (subs p) := fun n h => ok.ns t (by rw [eR]; exact List.mem_cons_self) n (by
      rcases h with rfl | ⟨q, rfl⟩
      · exact List.mem_cons_self
      · show n ∈ nums (subs (.group n q))
        rw [ns_group]
        exact List.mem_cons_self)
    by_cases g1 : ∃ n q, t = .pat (.group n q)
    · obtain ⟨n, q0, rfl⟩ := g1
      obtain ⟨c, x, rfl, _, hc, _⟩ := pt
      refine ⟨_, rfl, _, _, _, _, rfl, rfl, hc, at0 rfl, rfl, _, rfl, iteT ?_⟩
      refine ⟨_, rfl, _, rfl, _, rfl, _, _, _, _, rfl, rfl, hc, at1 rfl, bd, _, rfl, DPut.k (k := .inl n) hb5 (by rw [sizeLine_eq]; omega), ?_⟩
      have e9 : TS K H5 (upd H5 bd (.dK (putK kb (.inl n) (.int (st.2 : Int))))) := ts_but hb5 nt_dK But.upd'
      have hc9 := e9 _ _ hc
      refine ⟨_, rfl, _, _, _, _, rfl, rfl, hc9, at0 rfl, rfl, _, rfl, iteF ?_⟩
      have em : mfold (L.take (i + 1)) = (setF (mfold (L.take i)).1 n st.2, (mfold (L.take i)).2) := by
        rw [etk, mfold_snoc]
        unfold mstep
        rw [eR]
      refine ⟨kvs, _, _, _, rfl, Same.mut s6 nbd0, by rw [upd_ne (fun z => by rw [z, hb5] at hlp; cases hlp)]; exact hlp, SAts.mono e9 hL, by rw [upd_ne ndb]; exact hd5, ?_, ?_⟩
      · rw [em]
        exact MAt.mono e9 hm5
      · rw [em]
        exact BAt.put lb vb n st.2
    by_cases g2 : ∃ n, t = .close n
    · obtain ⟨n, rfl⟩ := g2
      obtain ⟨c, rfl, hc⟩ := pt
      refine ⟨_, rfl, _, _, _, _, rfl, rfl, hc, at0 rfl, rfl, _, rfl, iteF ?_⟩
      refine ⟨_, rfl, _, _, _, _, rfl, rfl, hc, at0 rfl, rfl, _, rfl, iteT ?_⟩
      have hbg := ok.cl n (by rw [eR]; exact List.mem_cons_self)
      obtain ⟨k0, hk0⟩ := Option.isSome_iff_exists.mp hbg
      have hv := vb n
      rw [hk0] at hv
      refine ⟨_, rfl, _, rfl, _, _, _, _, rfl, rfl, hc, at1 rfl, bd, _, rfl, (by rw [← show valV kb (.inl n) = some (V.int (k0 : Int)) from hv]; exact DGet.k (k := .inl n) hb5), _, rfl, sz (by show 2 ≤ 10000; decide), fun t9 n9 => ?_⟩
      have s9 := same_new (o := .tup [.int (k0 : Int), .int (st.2 : Int)]) n9
      have hc9 := TS.of (K := K) s9 _ _ hc
      have hd9 := s9 _ _ hd5
      have lk := Paired.length hm5
      have nn' : (nums (subs p)).length ≤ 1000 := nn
      refine ⟨_, rfl, _, rfl, _, _, _, _, rfl, rfl, hc9, at1 rfl, d, _, rfl, DPut.k (k := .inl n) hd9 (by rw [sizeLine_eq]; omega), ?_⟩
      have e9 : TS K (upd H5 t9 (.tup [.int (k0 : Int), .int (st.2 : Int)])) (upd (upd H5 t9 (.tup [.int (k0 : Int), .int (st.2 : Int)])) d (.dK (putK kvs (.inl n) (.ref t9)))) := ts_but hd9 nt_dK But.upd'
      have em : mfold (L.take (i + 1)) = ((mfold (L.take i)).1, setF (mfold (L.take i)).2 n (k0, st.2)) := by
        rw [etk, mfold_snoc]
        unfold mstep
        rw [eR]
        show (_, setF _ n (((mfold (L.take i)).1 n).getD 0, st.2)) = _
        rw [hk0]
        rfl
      have mv : MV K (upd (upd H5 t9 (.tup [.int (k0 : Int), .int (st.2 : Int)])) d (.dK (putK kvs (.inl n) (.ref t9)))) (some (k0, st.2)) (.ref t9) := ⟨t9, rfl, e9 _ _ (SqT.of upd_same)⟩
      refine ⟨_, _, _, _, rfl, Same.mut (s6.trans s9) nd0, by rw [upd_ne (fun z => by rw [z, hd5] at hlp; cases hlp)]; exact s9 _ _ hlp, SAts.mono e9 (SAts.mono (TS.of s9) hL), upd_same, ?_, kb, by rw [upd_ne ndb.symm]; exact s9 _ _ hb5, by omega, ?_⟩
      · rw [em]
        exact MAt.put mv (MAt.mono e9 (MAt.mono (TS.of s9) hm5)) (hn n (.inl rfl))
      · rw [em]
        exact vb
    · obtain ⟨c, ws', rfl, hc⟩ := TAt.node pt
      have ng : V.str (tnm t) ≠ V.str "group" := fun e => g1 (tnm_group (V.str.inj e))
      have nc : V.str (tnm t) ≠ V.str "close" := fun e => g2 (tnm_close (V.str.inj e))
      refine ⟨_, rfl, _, _, _, _, rfl, rfl, hc, at0 rfl, rfl, _, rfl, ite2 (fun z => absurd (of_decide_eq_true z) ng) (fun _ => ?_)⟩
      refine ⟨_, rfl, _, _, _, _, rfl, rfl, hc, at0 rfl, rfl, _, rfl, ite2 (fun z => absurd (of_decide_eq_true z) nc) (fun _ => ?_)⟩
      have em : mfold (L.take (i + 1)) = mfold (L.take i) := by
        rw [etk, mfold_snoc]
        unfold mstep
        rw [eR]
        split
        · rename_i e
          exact absurd ⟨_, _, (List.cons.inj e).1⟩ g1
        · rename_i e
          exact absurd ⟨_, (List.cons.inj e).1⟩ g2
        · rfl
      exact ⟨kvs, _, _, _, rfl, s6, hlp, hL, hd5, by rw [em]; exact hm5, kb, hb5, by omega, by rw [em]; exact vb⟩
  · rintro σ H5 ⟨kvs, x6, x7, x8, rfl, s6, hlp, hL, hd5, hm5, _⟩
    refine ⟨_, rfl, q d kvs H5 s6 nd0 hd5 ?_⟩
    rw [List.length_dropLast, ← lts, ← List.dropLast_eq_take] at hm5
    exact hm5

end
end G1

set_option maxRecDepth 100000
set_option maxHeartbeats 4000000
namespace G1
open PySem PySem.Spec PyProof.Rows L2 Gm
section
variable {P : Program} {w : World} {K : PySem.W.Frag} {mg : Str → Option Value} {base : Heap}
/-- what a mark stands for -/
def PV (z : Str) : Option (Nat × Nat) → V
  | none => .non
  | some be => .str (cutS z (some (be.1 : Int)) (some (be.2 : Int)))
def sp_part (K : PySem.W.Frag) : Sp := fun vs H Q _ => ∃ (z : Str) (mv : V) (o : Option (Nat × Nat)), vs = [.str z, mv] ∧ z.length ≤ 10000 ∧ MV K H o mv ∧ Q (PV z o) H
theorem ok__part (T : Txt w K mg) : FnOk P w K mg base CX0 1 T.f__part T.fd__part ["text", "mark"] (sp_part K) := by
  refine T.F__part.ok sc__part (fun vs H Q E h => ?_) (fun cdv A outer s H vs Q E hr h => ?_)
  · obtain ⟨z, mv, o, rfl, _⟩ := h
    rfl
  obtain ⟨z, mv, o, rfl, hz, hm, q⟩ := h
  refine ⟨_, (pss_cons (ps_if (pt_cmpR op_isN (pv 1) pe_non (nomark _))
    (pss_one (ps_ret pe_non))
    pss_nil)
  (pss_cons (ps_asg (pv 1) (pg_tup rfl (pgs_cons (pg_name (i := 2) sc__part.nd rfl (.inl rfl)) (pgs_cons (pg_name (i := 3) sc__part.nd rfl (.inl rfl)) pgs_nil))))
  (pss_one (ps_ret (pe_slice sl_str (pv 0) (po_some (pv 2)) (po_some (pv 3))))))), ?_⟩
  cases o with
  | none =>
    obtain rfl : mv = .non := hm
    exact ⟨_, rfl, rfl, _, rfl, iteT q⟩
  | some be =>
    obtain ⟨t, rfl, ht⟩ := hm
    refine ⟨_, rfl, rfl, _, rfl, iteF ?_⟩
    refine ⟨_, rfl, t, _, rfl, ht, rfl, _, _, rfl, _, _, rfl, rfl, ?_⟩
    exact ⟨_, rfl, _, rfl, _, rfl, _, rfl, _, rfl, _, rfl, sz hz, q⟩
theorem MAt.val {H : Hp} {f : Int → Option (Nat × Nat)} {n : Int} {k : L2.Key} {v : V} : ∀ {N : List Int} {kvs : List (L2.Key × V)}, MAt K H f N kvs → N.Nodup → ∀ {i : Nat}, N[i]? = some n → kvs[i]? = some (k, v) → valV kvs (.inl n) = some v
  | _, _, .nil, _, i, h, _ => by cases h
  | _, _, .cons (a := m) (b := kv) (l₁ := N) a t, nd, i, h1, h2 => by
    cases i with
    | zero =>
      cases Option.some.inj h1
      cases Option.some.inj h2
      exact valV_pos a.1
    | succ i =>
      have h1 : N[i]? = some n := h1
      rw [valV_neg (fun e => by
        rw [a.1] at e
        have := Sum.inl.inj e
        subst this
        exact (List.nodup_cons.mp nd).1 (List.mem_of_getElem? h1))]
      exact MAt.val t (List.nodup_cons.mp nd).2 h1 h2
def sp_taken (K : PySem.W.Frag) : Sp := fun vs H Q _ => ∃ (p : Pat) (v : V) (z : Str), vs = [v, .str z] ∧ PAt K H p v ∧ siz p ≤ 1000 ∧ dep p ≤ 50 ∧ goodP p ∧ z.length ≤ 1000 ∧
  ∀ (x : V) (H' : Hp), Same H H' → ((x = .non ∧ ¬ Reach z.cps.toList ([.pat p], 0)) ∨ ∃ (d : Addr) (ws : List Nat) (L : List Sta), x = .ref d ∧ H d = none ∧ First z.cps.toList ([.pat p], 0) ws ∧ Tr z.cps.toList ([.pat p], 0) ws L ∧
    H' d = some (.dK ((nums (subs p)).map fun n => ((.inl n : L2.Key), PV z ((mfold L.dropLast).2 n))))) → Q x H'
theorem ok_taken (T : Txt w K mg) : FnOk P w K mg base CX0 7 T.f_taken T.fd_taken ["pattern", "text"] (sp_taken K) := by
  refine T.F_taken.ok sc_taken (fun vs H Q E h => ?_) (fun cdv A outer s H vs Q E hr h => ?_)
  · obtain ⟨p, v, z, rfl, _⟩ := h
    rfl
  obtain ⟨p, v, z, rfl, hp, h1, h2, h3, h4, q⟩ := h
  refine ⟨_, (pss_cons (ps_set (i := 2) sc_taken.nd rfl (.inl rfl) (pe_call (ok_first_way T) (hr.mono (by decide)) (by rfl) T.m_first_way T.F_first_way.kp T.b_first_way .nil pass0 (pa_cons (pv 0) (pa_cons (pv 1) pa_nil))))
  (pss_cons (ps_if (pt_cmpR op_isN (pv 2) pe_non (nomark _))
    (pss_one (ps_ret pe_non))
    pss_nil)
  (pss_cons (ps_set (i := 3) sc_taken.nd rfl (.inr rfl) (pe_call (ok_marks T) (hr.mono (by decide)) (by rfl) T.m_marks T.F_marks.kp T.b_marks .nil pass0 (pa_cons (pv 0) (pa_cons (pv 1) (pa_cons (pv 2) pa_nil)))))
  (pss_one (ps_lock (ps_ret (pe_dc (own := [("number", 4)]) (g := gName 4) (tv := tCall (sp_part K) [] E0 (tCons (tVar 1) (tCons (tDGet (tVar 3) (tVar 4)) tNil))) rfl sc_taken.nd (pi_keys (pv 3)) (blkOk_by (own := [("number", 4)]) (N := N_taken) (sc := defScope s_taken) (by decide +kernel)) (fun _ _ _ _ _ => by exact (pg_name (i := 4) sc_taken.nd rfl (.inl rfl))) (fun _ _ _ _ _ => by exact pts_nil) (fun _ _ _ _ _ => by exact (pv 4)) (fun _ _ _ _ _ => by exact (pe_call (ok__part T) (hr.mono (by decide)) (by rfl) T.m__part T.F__part.kp T.b__part .nil pass0 (pa_cons (pv 1) (pa_cons (pe_dget (hu_of hr) (pv 3) (pv 4) (fun _ _ => rfl)) pa_nil))))))))))), ?_⟩
  refine ⟨_, rfl, _, rfl, p, v, z, rfl, hp, h1, h2, h3, h4, fun xv H1 s1 hc => ?_⟩
  rcases hc with ⟨rfl, hno⟩ | ⟨a, ws, rfl, na, ha, hf, _, _⟩
  · exact ⟨_, rfl, rfl, _, rfl, iteT (q .non H1 s1 (.inl ⟨rfl, hno⟩))⟩
  refine ⟨_, rfl, rfl, _, rfl, iteF ?_⟩
  obtain ⟨L, hL⟩ := walk_tr hf.walk rfl
  refine ⟨_, rfl, _, rfl, _, rfl, p, v, z, a, ws, L, rfl, hp.mono (TS.of s1), h1, h2, h3, h4, ha, hL, fun d kvs H2 s2 nd hd hm => ?_⟩
  have s12 := s1.trans s2
  have nd0 := s1.free nd
  have nn : (nums (subs p)).length ≤ 1000 := Nat.le_trans (List.length_filterMap_le _ _) h1
  have lk : (nums (subs p)).length = kvs.length := Paired.length hm
  refine ⟨d, .dK kvs, hd, trivial, fun od => ?_⟩
  have sL : Same H (upd H2 d (.frz od (.dK kvs))) := Same.mut s12 nd0
  have hdL : upd H2 d (.frz od (.dK kvs)) d = some (.frz od (.dK kvs)) := upd_same
  have hmL := MAt.mono (ts_but (K := K) hd nt_dK (But.upd' (o := .frz od (.dK kvs)))) hm
  generalize upd H2 d (.frz od (.dK kvs)) = HL at sL hdL hmL
  refine ⟨_, rfl, d, od, rfl, .inl ⟨kvs, hdL, fun D nD => ?_⟩⟩
  have nDd : d ≠ D := ne_of_none hdL nD
  have nD0 : H D = none := sL.free nD
  refine dc_keys (d := d) (o := od) (kvs0 := kvs) (fun i H' => Same H H' ∧ H' d = some (.frz od (.dK kvs)) ∧ MAt K H' (mfold L.dropLast).2 (nums (subs p)) kvs ∧ H' D = some (.dK (((nums (subs p)).take i).map fun n => ((.inl n : L2.Key), PV z ((mfold L.dropLast).2 n))))) ⟨Same.mut sL nD0, by rw [upd_ne nDd]; exact hdL, MAt.mono (TS.new nD) hmL, by rw [List.take_zero]; exact upd_same⟩ (fun i H' hI => hI.2.1) ?_ ?_
  · rintro i k v0 H3 hi ⟨s3, hd3, hm3, hD3⟩
    obtain ⟨n, hn, ek, hv⟩ := Paired.at hm3 hi
    have ek : k = .inl n := ek
    subst ek
    obtain ⟨hil, hie⟩ := List.getElem?_eq_some_iff.mp hn
    refine ⟨rfl, yes_if ?_⟩
    refine ⟨_, rfl, _, rfl, _, rfl, _, rfl, d, v0, rfl, .inl ⟨kvs, .inl n, .inr ⟨od, hd3⟩, rfl, (hm3.val h3.1 hn hi).symm⟩, z, v0, _, rfl, by omega, hv, ?_⟩
    refine ⟨_, .inl n, rfl, hD3, by rw [sizeLine_eq, List.length_map, List.length_take]; omega, Same.mut s3 nD0, by rw [upd_ne nDd]; exact hd3, MAt.mono (ts_but (K := K) hD3 nt_dK But.upd') hm3, ?_⟩
    rw [upd_same, ← List.take_append_getElem hil, hie, List.map_append]
    have hni : n ∉ (nums (subs p)).take i := fun h => by
      obtain ⟨j, hj, ej⟩ := List.mem_iff_getElem.mp h
      rw [List.getElem_take] at ej
      rw [List.length_take] at hj
      have := (List.getElem_inj h3.1).mp (ej.trans hie.symm)
      omega
    have nov : ∀ {N : List Int}, n ∉ N → valV (N.map fun n => ((.inl n : L2.Key), PV z ((mfold L.dropLast).2 n))) (.inl n) = none := fun {N} hn => by
      induction N with
      | nil => rfl
      | cons a N ih =>
        rw [List.map_cons, valV_neg (fun e => hn (by rw [Sum.inl.inj e]; exact List.mem_cons_self))]
        exact ih fun h => hn (List.mem_cons_of_mem _ h)
    rw [putK_new _ (nov hni)]
    rfl
  · rintro H3 ⟨s3, hd3, _, hD3⟩
    rw [← lk, List.take_length] at hD3
    refine ⟨hd3, q (.ref D) _ (Same.mut s3 nd0) (.inr ⟨D, ws, L, rfl, nD0, hf, hL, ?_⟩)⟩
    rw [upd_ne nDd.symm]
    exact hD3

end
end G1

set_option maxRecDepth 100000
set_option maxHeartbeats 4000000
namespace G1
open PySem PySem.Spec PyProof.Rows L2 Gm
section
variable {P : Program} {w : World} {K : PySem.W.Frag} {mg : Str → Option Value} {base : Heap}
/-- what is known of the pile after i deeds -/
structure PileB (base : Int) (i : Nat) (num : Int) (ps : List (Pat × Str)) : Prop where
  n0 : base ≤ num
  n1 : num ≤ base + 900 * (i : Int)
  zs : sumB (fun m => siz m.1) ps + ps.length ≤ 5 * i
  ds : sumB (fun m => dep m.1) ps ≤ 2 * i
  ls : sumB (fun m => m.2.length) ps ≤ 13 * i
  nd : (gn3 ps).Nodup
  rg : ∀ n ∈ gn3 ps, base < n ∧ n ≤ num
theorem PileB.nil {base : Int} : PileB base 0 base [] := ⟨Int.le_refl _, (by omega), Nat.le_refl _, Nat.le_refl _, Nat.le_refl _, List.nodup_nil, fun n h => by cases h⟩
theorem PileB.leaf {base : Int} {i : Nat} {num : Int} {ps : List (Pat × Str)} {p : Pat} {y : Str} (h : PileB base i num ps) (h1 : siz p = 1) (h2 : dep p = 1) (h3 : nums (subs p) = []) (h4 : y.length ≤ 1) : PileB base (i + 1) num (ps ++ [(p, y)]) := by
  have a1 := h.n1
  have a2 := h.zs
  have a3 := h.ds
  have a4 := h.ls
  refine ⟨h.n0, by push_cast; omega, ?_, ?_, ?_, ?_, ?_⟩
  · rw [sumB_snoc, List.length_append, List.length_singleton]
    simp only
    omega
  · rw [sumB_snoc]
    simp only
    omega
  · rw [sumB_snoc]
    simp only
    omega
  · rw [gn3_snoc, h3, List.append_nil]
    exact h.nd
  · rw [gn3_snoc, h3, List.append_nil]
    exact h.rg
theorem PileB.two {base : Int} {i j : Nat} {num : Int} {ps : List (Pat × Str)} {m1 m2 : Pat × Str} {p : Pat} {y : Str} (h : PileB base i num (ps ++ [m1] ++ [m2])) (hij : i ≤ j) (h1 : siz p = 1 + siz m1.1 + siz m2.1) (h2 : dep p = 1 + max (dep m1.1) (dep m2.1)) (h3 : nums (subs p) = nums (subs m1.1) ++ nums (subs m2.1)) (h4 : y.length ≤ m1.2.length + m2.2.length) : PileB base j num (ps ++ [(p, y)]) := by
  have a1 := h.n1
  have a2 := h.zs
  have a3 := h.ds
  have a4 := h.ls
  have a5 := h.nd
  have a6 := h.rg
  rw [sumB_snoc, sumB_snoc] at a2 a3 a4
  rw [List.length_append, List.length_append, List.length_singleton, List.length_singleton] at a2
  rw [gn3_snoc, gn3_snoc, List.append_assoc] at a5 a6
  have d1 := dep_pos m1.1
  have d2 := dep_pos m2.1
  refine ⟨h.n0, by omega, ?_, ?_, ?_, ?_, ?_⟩
  · rw [sumB_snoc, List.length_append, List.length_singleton]
    simp only at *
    omega
  · rw [sumB_snoc]
    simp only at *
    omega
  · rw [sumB_snoc]
    simp only at *
    omega
  · rw [gn3_snoc, h3]
    exact a5
  · rw [gn3_snoc, h3]
    exact a6
theorem PileB.round {base : Int} {i : Nat} {num : Int} {ps : List (Pat × Str)} {m1 : Pat × Str} {p : Pat} {y : Str} (h : PileB base i num (ps ++ [m1])) (h1 : siz p ≤ 3 + siz m1.1) (h2 : dep p ≤ 2 + dep m1.1) (h3 : nums (subs p) = nums (subs m1.1)) (h4 : y.length ≤ 13 + m1.2.length) : PileB base (i + 1) num (ps ++ [(p, y)]) := by
  have a1 := h.n1
  have a2 := h.zs
  have a3 := h.ds
  have a4 := h.ls
  have a5 := h.nd
  have a6 := h.rg
  rw [sumB_snoc] at a2 a3 a4
  rw [List.length_append, List.length_singleton] at a2
  rw [gn3_snoc] at a5 a6
  refine ⟨h.n0, by push_cast; omega, ?_, ?_, ?_, ?_, ?_⟩
  · rw [sumB_snoc, List.length_append, List.length_singleton]
    simp only at *
    omega
  · rw [sumB_snoc]
    simp only at *
    omega
  · rw [sumB_snoc]
    simp only at *
    omega
  · rw [gn3_snoc, h3]
    exact a5
  · rw [gn3_snoc, h3]
    exact a6
theorem PileB.group {base : Int} {i : Nat} {num k : Int} {ps : List (Pat × Str)} {m1 : Pat × Str} (h : PileB base i num (ps ++ [m1])) (hk : 0 < k) (hk2 : k ≤ 900) : PileB base (i + 1) (num + k) (ps ++ [(.group (num + k) m1.1, m1.2)]) := by
  have a0 := h.n0
  have a1 := h.n1
  have a2 := h.zs
  have a3 := h.ds
  have a4 := h.ls
  have a5 := h.nd
  have a6 := h.rg
  rw [sumB_snoc] at a2 a3 a4
  rw [List.length_append, List.length_singleton] at a2
  rw [gn3_snoc] at a5 a6
  refine ⟨by omega, by push_cast; omega, ?_, ?_, ?_, ?_, ?_⟩
  · rw [sumB_snoc, List.length_append, List.length_singleton]
    simp only [siz_group] at *
    omega
  · rw [sumB_snoc]
    simp only [dep] at *
    omega
  · rw [sumB_snoc]
    simp only at *
    omega
  · rw [gn3_snoc, ns_group]
    have b := List.nodup_append.mp a5
    rw [List.nodup_append]
    refine ⟨b.1, List.nodup_cons.mpr ⟨fun hm => ?_, b.2.1⟩, fun u hu v hv e => ?_⟩
    · have := (a6 _ (List.mem_append_right _ hm)).2
      omega
    · rcases List.mem_cons.mp hv with rfl | hv
      · have := (a6 u (List.mem_append_left _ hu)).2
        omega
      · exact b.2.2 u hu v hv e
  · rw [gn3_snoc, ns_group]
    intro n hn
    rcases List.mem_append.mp hn with z | z
    · have := a6 n (List.mem_append_left _ z)
      exact ⟨this.1, by omega⟩
    · rcases List.mem_cons.mp z with rfl | z
      · exact ⟨by omega, Int.le_refl _⟩
      · have := a6 n (List.mem_append_right _ z)
        exact ⟨this.1, by omega⟩
/-- what is known of what has been made by n deeds -/
structure MadeB (base : Int) (n : Nat) (m : Pat × Str) : Prop where
  sz : siz m.1 ≤ 1 + 5 * n
  dp : dep m.1 ≤ 1 + 2 * n
  ln : m.2.length ≤ 13 * n
  nd : (nums (subs m.1)).Nodup
  rg : ∀ k ∈ nums (subs m.1), base < k ∧ k ≤ base + 900 * (n : Int)
theorem PileB.len {base : Int} {i : Nat} {num : Int} {ps : List (Pat × Str)} (h : PileB base i num ps) (hi : i ≤ 41) : ps.length ≤ 205 ∧ ∀ m ∈ ps, m.2.length ≤ 600 := by
  have h1 := h.zs
  have h2 := h.ls
  refine ⟨by omega, fun m hm => ?_⟩
  have : m.2.length ≤ sumB (fun m => m.2.length) ps := by
    clear h1 h2 h
    induction ps with
    | nil => cases hm
    | cons x ps ih =>
      unfold sumB at *
      rw [List.map_cons, List.sum_cons]
      rcases List.mem_cons.mp hm with rfl | hm
      · omega
      · have := ih hm
        omega
  omega
def sp_made (K : PySem.W.Frag) : Sp := fun vs H Q _ => ∃ (a : Addr) (ns : List Int) (h base : Int), vs = [.ref a, .int h, .int base] ∧ 0 ≤ base ∧ SqL K H a (ns.map V.int) ∧ ns.length ≤ 40 ∧
  ∀ (v : V) (m : Pat × Str) (H' : Hp), Same H H' → E3 K H' m v → MadeB base ns.length m → Q v H'
theorem pile_push3 {H' H2 : Hp} {lp : Addr} {ps : List (Pat × Str)} {vs : List V} {p : Pat × Str} {v : V} (h : H2 lp = some (.lst vs)) (hp : Paired (E3 K H2) ps vs) (u : E3 K H2 p v) :
    Paired (E3 K (upd H2 lp (.lst (vs ++ [v])))) (ps ++ [p]) (vs ++ [v]) :=
  Paired.snoc (Paired.mapP hp fun _ _ z => z.mono (TS.lst h)) (u.mono (TS.lst h))
def mInv3 (K : PySem.W.Frag) (base : Int) (H : Hp) (a lp : Addr) (h : Int) (i : Nat) (σ : L2.St) (H' : Hp) : Prop :=
  ∃ (num : Int) (ps : List (Pat × Str)) (vs : List V) (x4 x5 x6 x7 : Option V), σ = [some (.ref a), some (.int h), some (.int num), some (.ref lp), x4, x5, x6, x7] ∧ Same H H' ∧
    H' lp = some (.lst vs) ∧ Paired (E3 K H') ps vs ∧ PileB base i num ps
theorem ok__law_made (T : Txt w K mg) : FnOk P w K mg base CX0 3 T.f__law_made T.fd__law_made ["_law_cells", "_law_head", "_law_number"] (sp_made K) := by
  refine T.F__law_made.ok sc__law_made (fun vs H Q E h => ?_) (fun cdv A outer s H vs Q E hr h => ?_)
  · obtain ⟨a, ns, h, base, rfl, _⟩ := h
    rfl
  obtain ⟨a, ns, h, base, rfl, hb0, ha, h40, q⟩ := h
  refine ⟨_, (pss_cons (ps_set (i := 3) sc__law_made.nd rfl (.inl rfl) (pe_lst pa_nil))
  (pss_cons (ps_for PassesOwn.never rfl (pi_list (pv 0)) (pg_name (i := 4) sc__law_made.nd rfl (.inl rfl))
   (pss_cons (ps_set (i := 5) sc__law_made.nd rfl (.inl rfl) (pe_op op_mod (pv 4) pe_int))
  (pss_one (ps_if (PW.pt (pw_or (pt_cmpR op_lt (pv 5) pe_int (nomark _)) (pw_or (pt_cmpR op_eq (pe_callB call_len_seq (by rfl) T.n_len PySem.boot_len (pa_cons (pv 3) pa_nil)) pe_int (nomark _)) (pw_or1 (PW.pt (pw_and (pt_cmpR op_lt (pv 5) pe_int (nomark _)) (pw_and1 (pt_cmpR op_lt (pe_callB call_len_seq (by rfl) T.n_len PySem.boot_len (pa_cons (pv 3) pa_nil)) pe_int (nomark _)))))))))
    (pss_one (ps_expr (pe_bm PySem.F.plainAttrs_list PySem.F.slot_list_append PySem.F.type_list_append mt_append (pv 3) (pa_cons (pe_call (ok__law_leaf T) (hr.mono (by decide)) (by rfl) T.m__law_leaf T.F__law_leaf.kp T.b__law_leaf .nil pass0 (pa_cons (pe_op op_fdiv (pv 4) pe_int) (pa_cons (pv 1) pa_nil))) pa_nil))))
    (pss_one (ps_if (pt_cmpR op_lt (pv 5) pe_int (nomark _))
    (pss_cons (ps_set (i := 6) sc__law_made.nd rfl (.inl rfl) (pe_bm0 PySem.F.plainAttrs_list PySem.F.slot_list_pop PySem.F.type_list_pop mt_pop (pv 3)))
  (pss_one (ps_expr (pe_bm PySem.F.plainAttrs_list PySem.F.slot_list_append PySem.F.type_list_append mt_append (pv 3) (pa_cons (pe_call (ok__law_two T) (hr.mono (by decide)) (by rfl) T.m__law_two T.F__law_two.kp T.b__law_two .nil pass0 (pa_cons (pe_op op_fdiv (pv 4) pe_int) (pa_cons (pe_bm0 PySem.F.plainAttrs_list PySem.F.slot_list_pop PySem.F.type_list_pop mt_pop (pv 3)) (pa_cons (pv 6) pa_nil)))) pa_nil)))))
    (pss_one (ps_if (pt_cmpR op_lt (pv 5) pe_int (nomark _))
    (pss_one (ps_expr (pe_bm PySem.F.plainAttrs_list PySem.F.slot_list_append PySem.F.type_list_append mt_append (pv 3) (pa_cons (pe_call (ok__law_round T) (hr.mono (by decide)) (by rfl) T.m__law_round T.F__law_round.kp T.b__law_round .nil pass0 (pa_cons (pe_op op_fdiv (pv 4) pe_int) (pa_cons (pe_bm0 PySem.F.plainAttrs_list PySem.F.slot_list_pop PySem.F.type_list_pop mt_pop (pv 3)) (pa_cons (pv 1) pa_nil)))) pa_nil))))
    (pss_cons (ps_set (i := 2) sc__law_made.nd rfl (.inl rfl) (pe_op op_add (pe_op op_add (pv 2) pe_int) (pe_op op_mod (pv 1) pe_int)))
  (pss_cons (ps_set (i := 7) sc__law_made.nd rfl (.inl rfl) (pe_bm0 PySem.F.plainAttrs_list PySem.F.slot_list_pop PySem.F.type_list_pop mt_pop (pv 3)))
  (pss_one (ps_expr (pe_bm PySem.F.plainAttrs_list PySem.F.slot_list_append PySem.F.type_list_append mt_append (pv 3) (pa_cons (pe_tup (pa_cons (pe_tup (pa_cons pe_str (pa_cons (pv 2) (pa_cons (pe_ix ix_tup (pv 7) pe_int (fun _ _ => rfl)) pa_nil)))) (pa_cons (pe_ix ix_tup (pv 7) pe_int (fun _ _ => rfl)) (pa_cons (pe_ix ix_tup (pv 7) pe_int (fun _ _ => rfl)) pa_nil)))) pa_nil))))))))))))))
  (pss_cons (ps_while PassesOwn.never (pt_cmpR op_gt (pe_callB call_len_seq (by rfl) T.n_len PySem.boot_len (pa_cons (pv 3) pa_nil)) pe_int (nomark _))
   (pss_cons (ps_set (i := 6) sc__law_made.nd rfl (.inl rfl) (pe_bm0 PySem.F.plainAttrs_list PySem.F.slot_list_pop PySem.F.type_list_pop mt_pop (pv 3)))
  (pss_one (ps_expr (pe_bm PySem.F.plainAttrs_list PySem.F.slot_list_append PySem.F.type_list_append mt_append (pv 3) (pa_cons (pe_call (ok__law_two T) (hr.mono (by decide)) (by rfl) T.m__law_two T.F__law_two.kp T.b__law_two .nil pass0 (pa_cons pe_int (pa_cons (pe_bm0 PySem.F.plainAttrs_list PySem.F.slot_list_pop PySem.F.type_list_pop mt_pop (pv 3)) (pa_cons (pv 6) pa_nil)))) pa_nil))))))
  (pss_cons (ps_if (pt_cmpR op_eq (pe_callB call_len_seq (by rfl) T.n_len PySem.boot_len (pa_cons (pv 3) pa_nil)) pe_int (nomark _))
    (pss_one (ps_ret (pe_tup (pa_cons (pe_tup (pa_cons pe_str pa_nil)) (pa_cons pe_bl (pa_cons pe_str pa_nil))))))
    pss_nil)
  (pss_one (ps_ret (pe_ix ix_list (pv 3) pe_int (fun _ _ => rfl)))))))), ?_⟩
  refine ⟨Nat.zero_le _, fun lp np => ?_⟩
  refine ⟨_, rfl, a, rfl, ⟨_, (same_new np).seq ha⟩, for_list (K := K) (a := a) (xs := ns.map V.int) (fun i => mInv3 K base H a lp h i)
    ⟨base, [], [], none, none, none, none, rfl, same_new np, upd_same, .nil, PileB.nil⟩ (fun i σ H' _ hI => ?_) ?_ ?_⟩
  · obtain ⟨_, _, _, _, _, _, _, _, s1, _⟩ := hI
    exact s1.seq ha
  · rintro i y σ H1 hi ⟨num, ps, vs, x4, x5, x6, x7, rfl, s1, hp, pv, pl⟩
    have hi40 : i < 40 := by
      have q1 := (List.getElem?_eq_some_iff.mp hi).1
      rw [List.length_map] at q1
      omega
    obtain ⟨c, rfl⟩ : ∃ c, y = V.int c := by
      rw [List.getElem?_map] at hi
      cases e : ns[i]? with
      | none =>
        rw [e] at hi
        cases hi
      | some u =>
        rw [e] at hi
        exact ⟨u, (Option.some.inj hi).symm⟩
    have lpv : ps.length = vs.length := Paired.length pv
    obtain ⟨few, short⟩ := pl.len (by omega)
    refine ⟨_, rfl, _, _, rfl, rfl, (by show (0 : Int) < 10; decide), ?_⟩
    refine g_nx ?_
    refine if_tst (b := decide (c % 10 < 3) || (decide (V.int ((vs.length : Nat) : Int) = V.int 0) || (decide (c % 10 < 5) && decide (((vs.length : Nat) : Int) < 2)))) (tst_or (fun Q q => ⟨_, rfl, _, _, rfl, rfl, _, rfl, q⟩) (tst_or (fun Q q => ⟨_, rfl, lp, _, rfl, .inl (SqL.of hp), rfl, _, rfl, q⟩)
      (tst_and (fun Q q => ⟨_, rfl, _, _, rfl, rfl, _, rfl, q⟩) (fun Q q => ⟨_, rfl, lp, _, rfl, .inl (SqL.of hp), _, _, rfl, rfl, _, rfl, q⟩)))) (fun c1 => ?_) (fun c1 => ?_)
    · -- a leaf
      refine ⟨_, rfl, .inl ⟨rfl, _, SqL.of hp⟩, _, rfl, _, _, rfl, rfl, ⟨by decide, by decide⟩, _, rfl, _, _, rfl, fun t p y H2 s2 u z1 z2 z3 z4 => ?_⟩
      have hp2 := s2 _ _ hp
      have pv2 := Paired.mapP pv fun _ _ (z : E3 K H1 _ _) => z.mono (TS.of s2)
      refine ⟨lp, vs, .ref t, rfl, rfl, hp2, szl (by omega), ?_⟩
      exact ⟨num, ps ++ [(p, y)], vs ++ [.ref t], _, _, _, _, rfl, Same.mut (s1.trans s2) np, upd_same, pile_push3 (H' := H2) hp2 pv2 u, pl.leaf z1 z2 z3 z4⟩
    rw [Bool.or_eq_false_iff, Bool.or_eq_false_iff] at c1
    obtain ⟨ca, cb, cc⟩ := c1
    have n0 : vs.length ≠ 0 := fun z => of_decide_eq_false cb (by rw [z]; rfl)
    refine ⟨_, rfl, _, _, rfl, rfl, _, rfl, ?_⟩
    refine ite2 (fun c2 => ?_) (fun c2 => ?_)
    · -- two together
      have n2 : 2 ≤ vs.length := by
        rw [c2, Bool.true_and] at cc
        have := of_decide_eq_false cc
        omega
      obtain ⟨psA, pR, vsA, vR, rfl, rfl, pvA, uR⟩ := Paired.last pv (by omega)
      have lA : psA.length = vsA.length := Paired.length pvA
      rw [List.length_append, List.length_singleton] at n2
      obtain ⟨psB, pL, vsB, vL, rfl, rfl, pvB, uL⟩ := Paired.last pvA (by omega)
      refine ⟨_, rfl, .inl ⟨rfl, _, SqL.of hp⟩, lp, _, vR, rfl, rfl, hp, last_get _ _, ?_⟩
      rw [List.dropLast_concat]
      have hp1 : upd H1 lp (.lst (vsB ++ [vL])) lp = some (.lst (vsB ++ [vL])) := upd_same
      have t1 : TS K H1 (upd H1 lp (.lst (vsB ++ [vL]))) := TS.lst hp
      have t2 := t1.trans (TS.lst (K := K) (ys := vsB) hp1)
      refine ⟨_, rfl, .inl ⟨rfl, _, SqL.of hp1⟩, _, rfl, _, _, rfl, rfl, ⟨by decide, by decide⟩, _, rfl, .inl ⟨rfl, _, SqL.of hp1⟩, lp, _, vL, rfl, rfl, hp1, last_get _ _, ?_⟩
      rw [List.dropLast_concat]
      have sL := short pL (by simp)
      have sR := short pR (by simp)
      refine ⟨_, rfl, _, vL, vR, pL, pR, rfl, uL.mono t2, uR.mono t2, by omega, by omega, fun t p y H2 s2 u z1 z2 z3 z4 => ?_⟩
      have hp2 := s2 _ _ (upd_same (H := upd H1 lp (.lst (vsB ++ [vL]))) (a := lp) (o := .lst vsB))
      have pv2 := Paired.mapP pvB fun _ _ (z : E3 K H1 _ _) => z.mono (t2.trans (TS.of s2))
      simp only [List.length_append, List.length_singleton] at lpv lA n2 few
      refine ⟨lp, vsB, .ref t, rfl, rfl, hp2, szl (by omega), ?_⟩
      exact ⟨num, psB ++ [(p, y)], vsB ++ [.ref t], _, _, _, _, rfl, Same.mut ((Same.mut (Same.mut s1 np) np).trans s2) np, upd_same, pile_push3 (H' := H2) hp2 pv2 u, pl.two (Nat.le_succ _) z1 z2 z3 z4⟩
    refine ⟨_, rfl, _, _, rfl, rfl, _, rfl, ?_⟩
    obtain ⟨psA, pR, vsA, vR, rfl, rfl, pvA, uR⟩ := Paired.last pv (by omega)
    have t1 : TS K H1 (upd H1 lp (.lst vsA)) := TS.lst hp
    have hp1 : upd H1 lp (.lst vsA) lp = some (.lst vsA) := upd_same
    have sR := short pR (by simp)
    simp only [List.length_append, List.length_singleton] at lpv few
    refine ite2 (fun c3 => ?_) (fun c3 => ?_)
    · -- a round
      refine ⟨_, rfl, .inl ⟨rfl, _, SqL.of hp⟩, _, rfl, _, _, rfl, rfl, ⟨by decide, by decide⟩, _, rfl, .inl ⟨rfl, _, SqL.of hp⟩, lp, _, vR, rfl, rfl, hp, last_get _ _, ?_⟩
      rw [List.dropLast_concat]
      refine ⟨_, rfl, _, vR, h, pR, rfl, uR.mono t1, by omega, fun t p y H2 s2 u z1 z2 z3 z4 => ?_⟩
      have hp2 := s2 _ _ hp1
      have pv2 := Paired.mapP pvA fun _ _ (z : E3 K H1 _ _) => z.mono (t1.trans (TS.of s2))
      refine ⟨lp, vsA, .ref t, rfl, rfl, hp2, szl (by omega), ?_⟩
      exact ⟨num, psA ++ [(p, y)], vsA ++ [.ref t], _, _, _, _, rfl, Same.mut ((Same.mut s1 np).trans s2) np, upd_same, pile_push3 (H' := H2) hp2 pv2 u, pl.round z1 z2 z3 z4⟩
    · -- a group
      have w0 := Int.emod_nonneg h (show (900 : Int) ≠ 0 by decide)
      have w1 := Int.emod_lt_of_pos h (show (0 : Int) < 900 by decide)
      have pg := pl.group (k := 1 + h % 900) (by omega) (by omega)
      refine ⟨_, rfl, _, _, rfl, rfl, _, rfl, _, _, rfl, rfl, (by show (0 : Int) < 900; decide), _, _, rfl, rfl, ?_⟩
      have en : num + 1 + h % 900 = num + (1 + h % 900) := by omega
      refine ⟨_, rfl, .inl ⟨rfl, _, SqL.of hp⟩, lp, _, vR, rfl, rfl, hp, last_get _ _, ?_⟩
      rw [List.dropLast_concat]
      obtain ⟨aR, xR, rfl, hR, uX, nX, kX, oX⟩ := uR
      have hR1 := t1 _ _ hR
      refine ⟨_, rfl, .inl ⟨rfl, _, SqL.of hp1⟩, _, rfl, _, rfl, _, _, _, _, rfl, rfl, hR1, at0 rfl, sz (by show 3 ≤ 10000; decide), fun t2 n2 => ?_⟩
      have s2 := same_new (o := .tup [.str "group", .int (num + 1 + h % 900), xR]) n2
      have hR2 := TS.of (K := K) s2 _ _ hR1
      refine ⟨_, rfl, _, _, _, _, rfl, rfl, hR2, at1 rfl, _, rfl, _, _, _, _, rfl, rfl, hR2, at2 rfl, sz (by show 3 ≤ 10000; decide), fun t3 n3 => ?_⟩
      have s3 := s2.trans (same_new (o := .tup [.ref t2, .bl (nul pR.1), .str pR.2]) n3)
      have ug : PAt K (upd (upd H1 lp (.lst vsA)) t2 (.tup [.str "group", .int (num + 1 + h % 900), xR])) (.group (num + (1 + h % 900)) pR.1) (.ref t2) :=
        ⟨t2, xR, rfl, by have := pl.n0; omega, by rw [← en]; exact SqT.of upd_same, uX.mono (t1.trans (TS.of s2))⟩
      have u : E3 K (upd (upd (upd H1 lp (.lst vsA)) t2 (.tup [.str "group", .int (num + 1 + h % 900), xR])) t3 (.tup [.ref t2, .bl (nul pR.1), .str pR.2])) (.group (num + (1 + h % 900)) pR.1, pR.2) (.ref t3) :=
        E3.mk n3 ug rfl nX (tk_group kX) oX
      have hp2 := s3 _ _ hp1
      have pv2 := Paired.mapP pvA fun _ _ (z : E3 K H1 _ _) => z.mono (t1.trans (TS.of s3))
      refine ⟨lp, vsA, .ref t3, rfl, rfl, hp2, szl (by omega), ?_⟩
      refine ⟨num + (1 + h % 900), psA ++ [(.group (num + (1 + h % 900)) pR.1, pR.2)], vsA ++ [.ref t3], some (.int c), some (.int (c % 10)), x6, some (.ref aR), ?_, Same.mut ((Same.mut s1 np).trans s3) np, upd_same, pile_push3 (H' := H1) hp2 pv2 u, pg⟩
      rw [← en]
      rfl
  -- what is left on the pile
  rintro σ H1 ⟨num, ps, vs, x4, x5, x6, x7, rfl, s1, hp, pv, pl⟩
  rw [List.length_map] at pl
  refine ⟨fun m σ' H' => ∃ (ps : List (Pat × Str)) (vs : List V) (x6 : Option V), σ' = [some (.ref a), some (.int h), some (.int num), some (.ref lp), x4, x5, x6, x7] ∧ Same H H' ∧
    H' lp = some (.lst vs) ∧ Paired (E3 K H') ps vs ∧ PileB base ns.length num ps ∧ m = vs.length, ⟨_, ps, vs, x6, rfl, s1, hp, pv, pl, rfl⟩, ?_⟩
  clear hp pv pl s1 ps vs
  rintro m σ' H2 ⟨ps, vs, x6', rfl, s1, hp, pv, pl, rfl⟩
  have lpv : ps.length = vs.length := Paired.length pv
  obtain ⟨few, short⟩ := pl.len (by omega)
  refine ⟨_, rfl, lp, _, rfl, .inl (SqL.of hp), _, _, rfl, rfl, _, rfl, ?_⟩
  refine ite2 (fun c1 => ?_) (fun c1 => ?_)
  · have n2 : 1 < vs.length := by
      have : (1 : Int) < ((vs.length : Nat) : Int) := of_decide_eq_true c1
      omega
    obtain ⟨psA, pR, vsA, vR, rfl, rfl, pvA, uR⟩ := Paired.last pv (by omega)
    have lA : psA.length = vsA.length := Paired.length pvA
    rw [List.length_append, List.length_singleton] at n2
    obtain ⟨psB, pL, vsB, vL, rfl, rfl, pvB, uL⟩ := Paired.last pvA (by omega)
    refine ⟨fun σ' H' => ∃ (ps : List (Pat × Str)) (vs : List V) (x6 : Option V), σ' = [some (.ref a), some (.int h), some (.int num), some (.ref lp), x4, x5, x6, x7] ∧ Same H H' ∧
      H' lp = some (.lst vs) ∧ Paired (E3 K H') ps vs ∧ PileB base ns.length num ps ∧ vs.length = vsB.length + 1, fun σ' H' ⟨ps, vs, x6, e1, e2, e3, e4, e5, e7⟩ => ⟨vs.length, ?_, ps, vs, x6, e1, e2, e3, e4, e5, rfl⟩, ?_⟩
    · simp only [List.length_append, List.length_singleton]
      omega
    refine ⟨_, rfl, .inl ⟨rfl, _, SqL.of hp⟩, lp, _, vR, rfl, rfl, hp, last_get _ _, ?_⟩
    rw [List.dropLast_concat]
    have hp1 : upd H2 lp (.lst (vsB ++ [vL])) lp = some (.lst (vsB ++ [vL])) := upd_same
    have t1 : TS K H2 (upd H2 lp (.lst (vsB ++ [vL]))) := TS.lst hp
    have t2 := t1.trans (TS.lst (K := K) (ys := vsB) hp1)
    refine ⟨_, rfl, .inl ⟨rfl, _, SqL.of hp1⟩, _, rfl, .inl ⟨rfl, _, SqL.of hp1⟩, lp, _, vL, rfl, rfl, hp1, last_get _ _, ?_⟩
    rw [List.dropLast_concat]
    have sL := short pL (by simp)
    have sR := short pR (by simp)
    refine ⟨_, rfl, _, vL, vR, pL, pR, rfl, uL.mono t2, uR.mono t2, by omega, by omega, fun t p y H3 s2 u z1 z2 z3 z4 => ?_⟩
    have hp2 := s2 _ _ (upd_same (H := upd H2 lp (.lst (vsB ++ [vL]))) (a := lp) (o := .lst vsB))
    have pv2 := Paired.mapP pvB fun _ _ (z : E3 K H2 _ _) => z.mono (t2.trans (TS.of s2))
    simp only [List.length_append, List.length_singleton] at lpv lA n2 few
    refine ⟨lp, vsB, .ref t, rfl, rfl, hp2, szl (by omega), ?_⟩
    exact ⟨psB ++ [(p, y)], vsB ++ [.ref t], _, rfl, Same.mut ((Same.mut (Same.mut s1 np) np).trans s2) np, upd_same, pile_push3 (H' := H2) hp2 pv2 u, pl.two (Nat.le_refl _) z1 z2 z3 z4, by rw [List.length_append, List.length_singleton]⟩
  refine ⟨_, rfl, lp, _, rfl, .inl (SqL.of hp), rfl, _, rfl, ?_⟩
  refine ite2 (fun c2 => ?_) (fun c2 => ?_)
  · refine ⟨sz (by show 1 ≤ 10000; decide), fun t1 n1 => ⟨sz (by show 3 ≤ 10000; decide), fun t2 n2 => ?_⟩⟩
    exact q (.ref t2) (.none, "") _ (s1.trans ((same_new n1).trans (same_new n2))) (E3.mk n2 ⟨t1, rfl, SqT.of upd_same⟩ rfl rfl tk_none okS.nil) ⟨(show 1 ≤ 1 + _ by omega), (show 1 ≤ 1 + _ by omega), Nat.zero_le _, List.nodup_nil, fun k hk => by cases hk⟩
  · have n1 : vs.length = 1 := by
      have h1 : ¬ (1 : Int) < ((vs.length : Nat) : Int) := of_decide_eq_false (Bool.eq_false_iff.mpr c1)
      have h2 : vs.length ≠ 0 := fun z => c2 (by rw [z]; rfl)
      omega
    obtain ⟨ps', p, vs', v, rfl, rfl, pv', u⟩ := Paired.last pv (by omega)
    rw [List.length_append, List.length_singleton] at n1
    have e' : vs' = [] := List.length_eq_zero_iff.mp (by omega)
    subst e'
    rw [List.nil_append] at hp
    refine ⟨_, rfl, lp, _, _, _, rfl, rfl, SqL.of hp, at0 rfl, ?_⟩
    have a1 := pl.zs
    have a2 := pl.ds
    have a3 := pl.ls
    have a4 := pl.nd
    have a5 := pl.rg
    have a6 := pl.n1
    rw [sumB_snoc] at a1 a2 a3
    rw [List.length_append, List.length_singleton] at a1
    rw [gn3_snoc] at a4 a5
    exact q v p H2 s1 u ⟨by omega, by omega, by omega, (List.nodup_append.mp a4).2.1, fun k hk => by have := a5 k (List.mem_append_right _ hk); exact ⟨this.1, by omega⟩⟩

end
end G1

set_option maxRecDepth 100000
set_option maxHeartbeats 4000000
namespace G1
open PySem PySem.Spec PyProof.Rows L2 Gm
section
variable {P : Program} {w : World} {K : PySem.W.Frag} {mg : Str → Option Value} {base : Heap}
def wnums (ps : List Pat) : List Int := ps.reverse.flatMap fun q => nums (subs q)
theorem wnums_snoc (ps : List Pat) (q : Pat) : wnums (ps ++ [q]) = nums (subs q) ++ wnums ps := by
  unfold wnums
  rw [List.reverse_append]
  rfl
def wsiz (ps : List Pat) : Nat := (ps.map siz).sum
theorem wsiz_snoc (ps : List Pat) (q : Pat) : wsiz (ps ++ [q]) = wsiz ps + siz q := by
  unfold wsiz
  simp
theorem siz_pos' (p : Pat) : 0 < siz p := by
  cases p with
  | row p q => rw [siz_row]; omega
  | or p q => rw [siz_or]; omega
  | more p => rw [siz_more]; omega
  | less p => rw [siz_less]; omega
  | group n p => rw [siz_group]; omega
  | _ => exact Nat.zero_lt_one
theorem wsiz_len : ∀ ps : List Pat, ps.length ≤ wsiz ps
  | [] => Nat.le_refl _
  | p :: ps => by
    have h1 := wsiz_len ps
    have h2 := siz_pos' p
    show ps.length + 1 ≤ ((p :: ps).map siz).sum
    rw [List.map_cons, List.sum_cons]
    unfold wsiz at h1
    omega
def lnInv (K : PySem.W.Frag) (H : Hp) (v : V) (lf lw : Addr) (N : List Int) (m : Nat) (σ : L2.St) (H' : Hp) : Prop :=
  ∃ (N1 : List Int) (ps : List Pat) (vs : List V) (x3 : Option V), σ = [some v, some (.ref lf), some (.ref lw), x3] ∧ Same H H' ∧ H' lf = some (.lst (N1.map V.int)) ∧ H' lw = some (.lst vs) ∧ PAts K H' ps vs ∧ N1 ++ wnums ps = N ∧ N1.length + wsiz ps ≤ 1000 ∧ m = wsiz ps
def sp_law_numbers (K : PySem.W.Frag) : Sp := fun vs H Q _ => ∃ (p : Pat) (v : V), vs = [v] ∧ PAt K H p v ∧ siz p ≤ 1000 ∧
  ∀ (r : Addr) (H' : Hp), Same H H' → H r = none → H' r = some (.lst ((nums (subs p)).map V.int)) → Q (.ref r) H'
theorem ok__law_numbers (T : Txt w K mg) : FnOk P w K mg base CX0 1 T.f__law_numbers T.fd__law_numbers ["_law_pattern"] (sp_law_numbers K) := by
  refine T.F__law_numbers.ok sc__law_numbers (fun vs H Q E h => ?_) (fun cdv A outer s H vs Q E hr h => ?_)
  · obtain ⟨p, v, rfl, _⟩ := h
    rfl
  obtain ⟨p, v, rfl, hp, hsz, q⟩ := h
  refine ⟨_, (pss_cons (ps_set (i := 1) sc__law_numbers.nd rfl (.inl rfl) (pe_lst pa_nil))
  (pss_cons (ps_set (i := 2) sc__law_numbers.nd rfl (.inl rfl) (pe_lst (pa_cons (pv 0) pa_nil)))
  (pss_cons (ps_while PassesOwn.never (pt_cmpR op_gt (pe_callB call_len_seq (by rfl) T.n_len PySem.boot_len (pa_cons (pv 2) pa_nil)) pe_int (nomark _))
   (pss_cons (ps_set (i := 3) sc__law_numbers.nd rfl (.inl rfl) (pe_bm0 PySem.F.plainAttrs_list PySem.F.slot_list_pop PySem.F.type_list_pop mt_pop (pv 2)))
  (pss_one (ps_if (pt_cmpR op_eq (pe_ix ix_tup (pv 3) pe_int (fun _ _ => rfl)) pe_str (nomark _))
    (pss_cons (ps_expr (pe_bm PySem.F.plainAttrs_list PySem.F.slot_list_append PySem.F.type_list_append mt_append (pv 1) (pa_cons (pe_ix ix_tup (pv 3) pe_int (fun _ _ => rfl)) pa_nil)))
  (pss_one (ps_expr (pe_bm PySem.F.plainAttrs_list PySem.F.slot_list_append PySem.F.type_list_append mt_append (pv 2) (pa_cons (pe_ix ix_tup (pv 3) pe_int (fun _ _ => rfl)) pa_nil)))))
    (pss_one (ps_if (PW.pt (pw_or (pt_cmpR op_eq (pe_ix ix_tup (pv 3) pe_int (fun _ _ => rfl)) pe_str (nomark _)) (pw_or1 (pt_cmpR op_eq (pe_ix ix_tup (pv 3) pe_int (fun _ _ => rfl)) pe_str (nomark _)))))
    (pss_cons (ps_expr (pe_bm PySem.F.plainAttrs_list PySem.F.slot_list_append PySem.F.type_list_append mt_append (pv 2) (pa_cons (pe_ix ix_tup (pv 3) pe_int (fun _ _ => rfl)) pa_nil)))
  (pss_one (ps_expr (pe_bm PySem.F.plainAttrs_list PySem.F.slot_list_append PySem.F.type_list_append mt_append (pv 2) (pa_cons (pe_ix ix_tup (pv 3) pe_int (fun _ _ => rfl)) pa_nil)))))
    (pss_one (ps_if (PW.pt (pw_or (pt_cmpR op_eq (pe_ix ix_tup (pv 3) pe_int (fun _ _ => rfl)) pe_str (nomark _)) (pw_or1 (pt_cmpR op_eq (pe_ix ix_tup (pv 3) pe_int (fun _ _ => rfl)) pe_str (nomark _)))))
    (pss_one (ps_expr (pe_bm PySem.F.plainAttrs_list PySem.F.slot_list_append PySem.F.type_list_append mt_append (pv 2) (pa_cons (pe_ix ix_tup (pv 3) pe_int (fun _ _ => rfl)) pa_nil))))
    pss_nil))))))))
  (pss_one (ps_ret (pv 1)))))), ?_⟩
  refine ⟨Nat.zero_le _, fun lf nf => ⟨_, rfl, sz (by show 1 ≤ 10000; decide), fun lw nw => ?_⟩⟩
  have s1 := same_new (o := .lst []) nf
  have s2 := same_new (o := .lst [v]) nw
  have s12 := s1.trans s2
  have nw0 := s1.free nw
  have nfw : lf ≠ lw := fun e => by
    rw [← e, upd_same] at nw
    cases nw
  refine ⟨lnInv K H v lf lw (nums (subs p)), ⟨_, [], [p], [v], none, rfl, s12, s2 _ _ upd_same, upd_same, .cons (hp.mono (TS.of s12)) .nil, by simp [wnums], by simp [wsiz]; exact hsz, rfl⟩, ?_⟩
  clear s12 s2 s1 nw
  rintro m σ' H1 ⟨N1, ps, vs, x3, rfl, s1, hf, hw, pv, eN, bN, rfl⟩
  have lpv : ps.length = vs.length := Paired.length pv
  refine ⟨_, rfl, lw, _, rfl, .inl (SqL.of hw), _, _, rfl, rfl, _, rfl, ?_⟩
  refine ite2 (fun c1 => ?_) (fun c1 => ?_)
  · have n1 : 0 < vs.length := by
      have : (0 : Int) < ((vs.length : Nat) : Int) := of_decide_eq_true c1
      omega
    obtain ⟨ps, q0, vs, x, rfl, rfl, pv, u⟩ := Paired.last pv (by omega)
    rw [wnums_snoc] at eN
    rw [wsiz_snoc] at bN
    refine ⟨fun σ' H' => ∃ m', m' < wsiz (ps ++ [q0]) ∧ lnInv K H v lf lw (nums (subs p)) m' σ' H', fun σ' H' h => h, ?_⟩
    rw [wsiz_snoc]
    refine ⟨_, rfl, .inl ⟨rfl, _, SqL.of hw⟩, lw, _, x, rfl, rfl, hw, last_get _ _, ?_⟩
    rw [List.dropLast_concat]
    have e1 : TS K H1 (upd H1 lw (.lst vs)) := TS.lst hw
    have u1 := u.mono e1
    have pv1 := PAts.mono e1 pv
    have hw1 : upd H1 lw (.lst vs) lw = some (.lst vs) := upd_same
    have hf1 : upd H1 lw (.lst vs) lf = some (.lst (N1.map V.int)) := by rw [upd_ne nfw]; exact hf
    have s2 : Same H (upd H1 lw (.lst vs)) := Same.mut s1 nw0
    generalize upd H1 lw (.lst vs) = H2 at u1 pv1 hw1 hf1 s2
    clear u pv hw hf s1 e1
    have lp1 : ps.length = vs.length := Paired.length pv1
    have lws := wsiz_len ps
    have spos := siz_pos' q0
    -- what is pushed
    have push : ∀ {H2 : Hp} {ps : List Pat} {vs : List V} {q1 : Pat} {y : V}, H2 lw = some (.lst vs) → PAts K H2 ps vs → PAt K H2 q1 y → PAts K (upd H2 lw (.lst (vs ++ [y]))) (ps ++ [q1]) (vs ++ [y]) := fun h a b => Paired.snoc (PAts.mono (TS.lst h) a) (b.mono (TS.lst h))
    cases q0 with
    | sign c =>
      obtain ⟨a, rfl, _, ht⟩ := u1
      refine ⟨_, rfl, _, _, _, _, rfl, rfl, ht, at0 rfl, rfl, _, rfl, iteF ⟨_, rfl, _, _, _, _, rfl, rfl, ht, at0 rfl, rfl, _, rfl, iteF ⟨_, rfl, _, _, _, _, rfl, rfl, ht, at0 rfl, rfl, _, rfl, iteF ⟨_, rfl, _, _, _, _, rfl, rfl, ht, at0 rfl, rfl, _, rfl, iteF ⟨_, rfl, _, _, _, _, rfl, rfl, ht, at0 rfl, rfl, _, rfl, iteF ?_⟩⟩⟩⟩⟩
      exact ⟨_, by omega, N1, ps, vs, _, rfl, s2, hf1, hw1, pv1, eN, by omega, rfl⟩
    | any =>
      obtain ⟨a, rfl, ht⟩ := u1
      refine ⟨_, rfl, _, _, _, _, rfl, rfl, ht, at0 rfl, rfl, _, rfl, iteF ⟨_, rfl, _, _, _, _, rfl, rfl, ht, at0 rfl, rfl, _, rfl, iteF ⟨_, rfl, _, _, _, _, rfl, rfl, ht, at0 rfl, rfl, _, rfl, iteF ⟨_, rfl, _, _, _, _, rfl, rfl, ht, at0 rfl, rfl, _, rfl, iteF ⟨_, rfl, _, _, _, _, rfl, rfl, ht, at0 rfl, rfl, _, rfl, iteF ?_⟩⟩⟩⟩⟩
      exact ⟨_, by omega, N1, ps, vs, _, rfl, s2, hf1, hw1, pv1, eN, by omega, rfl⟩
    | none =>
      obtain ⟨a, rfl, ht⟩ := u1
      refine ⟨_, rfl, _, _, _, _, rfl, rfl, ht, at0 rfl, rfl, _, rfl, iteF ⟨_, rfl, _, _, _, _, rfl, rfl, ht, at0 rfl, rfl, _, rfl, iteF ⟨_, rfl, _, _, _, _, rfl, rfl, ht, at0 rfl, rfl, _, rfl, iteF ⟨_, rfl, _, _, _, _, rfl, rfl, ht, at0 rfl, rfl, _, rfl, iteF ⟨_, rfl, _, _, _, _, rfl, rfl, ht, at0 rfl, rfl, _, rfl, iteF ?_⟩⟩⟩⟩⟩
      exact ⟨_, by omega, N1, ps, vs, _, rfl, s2, hf1, hw1, pv1, eN, by omega, rfl⟩
    | group n p1 =>
      obtain ⟨a, y, rfl, _, ht, v1⟩ := u1
      rw [siz_group] at bN
      refine ⟨_, rfl, _, _, _, _, rfl, rfl, ht, at0 rfl, rfl, _, rfl, iteT ?_⟩
      refine ⟨_, rfl, .inl ⟨rfl, _, SqL.of hf1⟩, _, rfl, _, _, _, _, rfl, rfl, ht, at1 rfl, lf, _, .int n, rfl, rfl, hf1, by rw [sizeLine_eq, List.length_map]; omega, ?_⟩
      have e2 : TS K H2 (upd H2 lf (.lst (N1.map V.int ++ [.int n]))) := TS.lst hf1
      have ht2 := e2 _ _ ht
      have hw2 : upd H2 lf (.lst (N1.map V.int ++ [.int n])) lw = some (.lst vs) := by rw [upd_ne nfw.symm]; exact hw1
      refine ⟨_, rfl, .inl ⟨rfl, _, SqL.of hw2⟩, _, rfl, _, _, _, _, rfl, rfl, ht2, at2 rfl, lw, vs, y, rfl, rfl, hw2, szl (by omega), ?_⟩
      refine ⟨wsiz (ps ++ [p1]), by rw [wsiz_snoc, siz_group]; omega, N1 ++ [n], ps ++ [p1], vs ++ [y], _, rfl, Same.mut (Same.mut s2 nf) nw0, by rw [upd_ne nfw, upd_same]; simp, upd_same, push hw2 (PAts.mono e2 pv1) (v1.mono e2), ?_, by rw [wsiz_snoc, List.length_append, List.length_singleton]; omega, rfl⟩
      rw [wnums_snoc, ← eN, ns_group]
      simp
    | row p1 p2 =>
      obtain ⟨a, x1, x2, rfl, ht, v1, v2⟩ := u1
      rw [siz_row] at bN
      refine ⟨_, rfl, _, _, _, _, rfl, rfl, ht, at0 rfl, rfl, _, rfl, iteF ⟨_, rfl, _, _, _, _, rfl, rfl, ht, at0 rfl, rfl, _, rfl, iteT ?_⟩⟩
      refine ⟨_, rfl, .inl ⟨rfl, _, SqL.of hw1⟩, _, rfl, _, _, _, _, rfl, rfl, ht, at2 rfl, lw, vs, x2, rfl, rfl, hw1, szl (by omega), ?_⟩
      have e2 : TS K H2 (upd H2 lw (.lst (vs ++ [x2]))) := TS.lst hw1
      have ht2 := e2 _ _ ht
      have hw2 : upd H2 lw (.lst (vs ++ [x2])) lw = some (.lst (vs ++ [x2])) := upd_same
      refine ⟨_, rfl, .inl ⟨rfl, _, SqL.of hw2⟩, _, rfl, _, _, _, _, rfl, rfl, ht2, at1 rfl, lw, vs ++ [x2], x1, rfl, rfl, hw2, szl (by rw [List.length_append, List.length_singleton]; omega), ?_⟩
      refine ⟨wsiz (ps ++ [p2] ++ [p1]), by rw [wsiz_snoc, wsiz_snoc, siz_row]; omega, N1, ps ++ [p2] ++ [p1], vs ++ [x2] ++ [x1], _, rfl, Same.mut (Same.mut s2 nw0) nw0, by rw [upd_ne nfw, upd_ne nfw]; exact hf1, upd_same, push hw2 (push hw1 pv1 v2) (v1.mono e2), ?_, by rw [wsiz_snoc, wsiz_snoc]; omega, rfl⟩
      rw [wnums_snoc, wnums_snoc, ← eN, ns_row]
      simp
    | or p1 p2 =>
      obtain ⟨a, x1, x2, rfl, ht, v1, v2⟩ := u1
      rw [siz_or] at bN
      refine ⟨_, rfl, _, _, _, _, rfl, rfl, ht, at0 rfl, rfl, _, rfl, iteF ⟨_, rfl, _, _, _, _, rfl, rfl, ht, at0 rfl, rfl, _, rfl, iteF ⟨_, rfl, _, _, _, _, rfl, rfl, ht, at0 rfl, rfl, _, rfl, iteT ?_⟩⟩⟩
      refine ⟨_, rfl, .inl ⟨rfl, _, SqL.of hw1⟩, _, rfl, _, _, _, _, rfl, rfl, ht, at2 rfl, lw, vs, x2, rfl, rfl, hw1, szl (by omega), ?_⟩
      have e2 : TS K H2 (upd H2 lw (.lst (vs ++ [x2]))) := TS.lst hw1
      have ht2 := e2 _ _ ht
      have hw2 : upd H2 lw (.lst (vs ++ [x2])) lw = some (.lst (vs ++ [x2])) := upd_same
      refine ⟨_, rfl, .inl ⟨rfl, _, SqL.of hw2⟩, _, rfl, _, _, _, _, rfl, rfl, ht2, at1 rfl, lw, vs ++ [x2], x1, rfl, rfl, hw2, szl (by rw [List.length_append, List.length_singleton]; omega), ?_⟩
      refine ⟨wsiz (ps ++ [p2] ++ [p1]), by rw [wsiz_snoc, wsiz_snoc, siz_or]; omega, N1, ps ++ [p2] ++ [p1], vs ++ [x2] ++ [x1], _, rfl, Same.mut (Same.mut s2 nw0) nw0, by rw [upd_ne nfw, upd_ne nfw]; exact hf1, upd_same, push hw2 (push hw1 pv1 v2) (v1.mono e2), ?_, by rw [wsiz_snoc, wsiz_snoc]; omega, rfl⟩
      rw [wnums_snoc, wnums_snoc, ← eN, ns_or]
      simp
    | more p1 =>
      obtain ⟨a, y, rfl, ht, v1⟩ := u1
      rw [siz_more] at bN
      refine ⟨_, rfl, _, _, _, _, rfl, rfl, ht, at0 rfl, rfl, _, rfl, iteF ⟨_, rfl, _, _, _, _, rfl, rfl, ht, at0 rfl, rfl, _, rfl, iteF ⟨_, rfl, _, _, _, _, rfl, rfl, ht, at0 rfl, rfl, _, rfl, iteF ⟨_, rfl, _, _, _, _, rfl, rfl, ht, at0 rfl, rfl, _, rfl, iteT ?_⟩⟩⟩⟩
      refine ⟨_, rfl, .inl ⟨rfl, _, SqL.of hw1⟩, _, rfl, _, _, _, _, rfl, rfl, ht, at1 rfl, lw, vs, y, rfl, rfl, hw1, szl (by omega), ?_⟩
      exact ⟨wsiz (ps ++ [p1]), by rw [wsiz_snoc, siz_more]; omega, N1, ps ++ [p1], vs ++ [y], _, rfl, Same.mut s2 nw0, by rw [upd_ne nfw]; exact hf1, upd_same, push hw1 pv1 v1, by rw [wnums_snoc, ← eN]; rfl, by rw [wsiz_snoc]; omega, rfl⟩
    | less p1 =>
      obtain ⟨a, y, rfl, ht, v1⟩ := u1
      rw [siz_less] at bN
      refine ⟨_, rfl, _, _, _, _, rfl, rfl, ht, at0 rfl, rfl, _, rfl, iteF ⟨_, rfl, _, _, _, _, rfl, rfl, ht, at0 rfl, rfl, _, rfl, iteF ⟨_, rfl, _, _, _, _, rfl, rfl, ht, at0 rfl, rfl, _, rfl, iteF ⟨_, rfl, _, _, _, _, rfl, rfl, ht, at0 rfl, rfl, _, rfl, iteF ⟨_, rfl, _, _, _, _, rfl, rfl, ht, at0 rfl, rfl, _, rfl, iteT ?_⟩⟩⟩⟩⟩
      refine ⟨_, rfl, .inl ⟨rfl, _, SqL.of hw1⟩, _, rfl, _, _, _, _, rfl, rfl, ht, at1 rfl, lw, vs, y, rfl, rfl, hw1, szl (by omega), ?_⟩
      exact ⟨wsiz (ps ++ [p1]), by rw [wsiz_snoc, siz_less]; omega, N1, ps ++ [p1], vs ++ [y], _, rfl, Same.mut s2 nw0, by rw [upd_ne nfw]; exact hf1, upd_same, push hw1 pv1 v1, by rw [wnums_snoc, ← eN]; rfl, by rw [wsiz_snoc]; omega, rfl⟩
  · have e0 : vs.length = 0 := by
      have h1 : ¬ (0 : Int) < ((vs.length : Nat) : Int) := of_decide_eq_false (Bool.eq_false_iff.mpr c1)
      omega
    have e1 : ps = [] := List.length_eq_zero_iff.mp (by omega)
    subst e1
    refine ⟨_, rfl, q lf H1 s1 nf ?_⟩
    rw [← eN]
    simp only [wnums, List.reverse_nil, List.flatMap_nil, List.append_nil]
    exact hf

end
end G1

set_option maxRecDepth 100000
set_option maxHeartbeats 4000000
namespace G1
open PySem PySem.Spec PyProof.Rows L2 Gm
section
variable {P : Program} {w : World} {K : PySem.W.Frag} {mg : Str → Option Value} {base : Heap}
theorem tr_few {p : Pat} {z : List Nat} (hn : nr p = true) {s : Sta} {w : List Nat} {L : List Sta} (h : Tr z s w L) : SOk p z s → L.Nodup ∧ ∀ x ∈ L, SOk p z x ∧ nu p z x ≤ nu p z s := by
  have grow : ∀ {s a : Sta} {L : List Sta}, SOk p z s → a ∈ step z s → (SOk p z a → L.Nodup ∧ ∀ x ∈ L, SOk p z x ∧ nu p z x ≤ nu p z a) → (s :: L).Nodup ∧ ∀ x ∈ s :: L, SOk p z x ∧ nu p z x ≤ nu p z s := fun {s a L} h hm ih => by
    have hd := nu_dec hn h a hm
    obtain ⟨h2, h3⟩ := ih (h.step hn a hm)
    refine ⟨List.nodup_cons.mpr ⟨fun hx => by have := (h3 s hx).2; omega, h2⟩, fun x hx => ?_⟩
    rcases List.mem_cons.mp hx with rfl | hx
    · exact ⟨h, Nat.le_refl _⟩
    · have := h3 x hx
      exact ⟨this.1, by omega⟩
  induction h with
  | nil => exact fun h => ⟨by simp, fun x hx => by rw [List.mem_singleton.mp hx]; exact ⟨h, Nat.le_refl _⟩⟩
  | one h _ ih => exact fun hs => grow hs (by rw [h]; simp) ih
  | left h _ ih => exact fun hs => grow hs (by rw [h]; simp) ih
  | right h _ ih => exact fun hs => grow hs (by rw [h]; simp) ih
/-- the texts of what has been closed -/
def CAt (H : Hp) (z : Str) (f : Int → Option (Nat × Nat)) (d : Addr) (m : Nat) : Prop := ∃ kvs : List (L2.Key × V), H d = some (.dK kvs) ∧ kvs.length ≤ m ∧ ∀ n, valV kvs (.inl n) = (f n).map fun be => PV z (some be)
theorem CAt.put {H : Hp} {z : Str} {f : Int → Option (Nat × Nat)} {d : Addr} {m : Nat} {kvs : List (L2.Key × V)} (h2 : kvs.length ≤ m) (h3 : ∀ n, valV kvs (.inl n) = (f n).map fun be => PV z (some be)) (n : Int) (be : Nat × Nat) :
    CAt (upd H d (.dK (putK kvs (.inl n) (PV z (some be))))) z (setF f n be) d (m + 1) := by
  refine ⟨_, upd_same, by have := length_putK kvs (.inl n : L2.Key) (PV z (some be)); omega, fun j => ?_⟩
  rw [valV_put]
  unfold setF
  by_cases e : j = n
  · subst e
    rw [if_pos rfl, if_pos rfl]
    rfl
  · rw [if_neg (fun z => e (Sum.inl.inj z)), if_neg e]
    exact h3 j
def dInv (K : PySem.W.Frag) (H : Hp) (v : V) (z : Str) (a bd cd : Addr) (ws : List Nat) (p : Pat) (Tm : Sta → Nat) (L0 : List Sta) (m : Nat) (σ' : L2.St) (H' : Hp) : Prop :=
  ∃ (A L : List Sta) (st : Sta) (sv : V) (u : Nat) (gl : Addr) (gv : List V) (y8 y9 : Option V), σ' = [some v, some (.str z), some (.ref a), some sv, some (.ref bd), some (.ref cd), some (.int (u : Int)), some (.ref gl), y8, y9, none] ∧ Same H H' ∧ SAt K H' st sv ∧ H' gl = some (.lst gv) ∧
    SAts K H' (step z.cps.toList st) gv ∧ SOk p z.cps.toList st ∧ u ≤ ws.length ∧ Tr z.cps.toList st (ws.drop u) L ∧ L0 = A ++ L ∧ BAt H' (mfold A).1 bd A.length ∧ CAt H' z (mfold A).2 cd A.length ∧ MOk (nums (subs p)) (mfold A) st ∧ m = Tm st
/-- the pairs of numbers and texts -/
def DueAt (K : PySem.W.Frag) (H : Hp) (z : Str) (f : Int → Option (Nat × Nat)) : List Int → List V → Prop := Paired fun (n : Int) (u : V) => ∃ t, u = .ref t ∧ SqT K H t [.int n, PV z (f n)]
def sp_due (K : PySem.W.Frag) : Sp := fun vs H Q _ => ∃ (p : Pat) (v : V) (z : Str) (a : Addr) (ws : List Nat) (L : List Sta), vs = [v, .str z, .ref a] ∧ PAt K H p v ∧ siz p ≤ 1000 ∧ dep p ≤ 50 ∧ goodP p ∧ z.length ≤ 1000 ∧ H a = some (.lst (nat2 ws)) ∧
  Tr z.cps.toList ([.pat p], 0) ws L ∧ ∀ (r : Addr) (us : List V) (H' : Hp), Same H H' → H' r = some (.lst us) → DueAt K H' z (mfold L.dropLast).2 (nums (subs p)) us → Q (.ref r) H'
theorem ok__law_due (T : Txt w K mg) : FnOk P w K mg base CX0 2 T.f__law_due T.fd__law_due ["_law_pattern", "_law_text", "_law_way"] (sp_due K) := by
  refine T.F__law_due.ok sc__law_due (fun vs H Q E h => ?_) (fun cdv A outer s H vs Q E hr h => ?_)
  · obtain ⟨p, v, z, a, ws, L, rfl, _⟩ := h
    rfl
  obtain ⟨p, v, z, a, ws, L0, rfl, hp, hsz, hdp, hg, hz, ha, htr, q⟩ := h
  have hn := hg.nr
  obtain ⟨Tm, hT⟩ := cost_ex hn z.cps.toList
  have okz : ∀ {st : Sta}, SOk p z.cps.toList st → st.1.length ≤ 1000 ∧ st.2 ≤ z.length ∧ gd 50 st.1 := fun {st} h => by
    have h1 := allr_ok hn _ h.1
    have h2 := h1.len
    have h3 := h.2
    rw [str_len] at h3
    exact ⟨by omega, h3, fun t ht => Nat.le_trans (h1.gd t ht) hdp⟩
  have few : L0.length < 3000000 := by
    obtain ⟨h1, h2⟩ := tr_few hn htr (SOk.first p _)
    exact states_few h1 (fun s hs => (h2 s hs).1) hsz (by rw [str_len]; exact hz)
  refine ⟨_, (pss_cons (ps_set (i := 3) sc__law_due.nd rfl (.inl rfl) (pe_tup (pa_cons (pe_tup (pa_cons (pv 0) pa_nil)) (pa_cons pe_int pa_nil))))
  (pss_cons (ps_set (i := 4) sc__law_due.nd rfl (.inl rfl) pe_dnewK)
  (pss_cons (ps_set (i := 5) sc__law_due.nd rfl (.inr rfl) pe_dnewK)
  (pss_cons (ps_set (i := 6) sc__law_due.nd rfl (.inl rfl) pe_int)
  (pss_cons (ps_set (i := 7) sc__law_due.nd rfl (.inl rfl) (pe_call (ok__law_onward T) (hr.mono (by decide)) (by rfl) T.m__law_onward T.F__law_onward.kp T.b__law_onward .nil pass0 (pa_cons (pv 3) (pa_cons (pv 1) pa_nil))))
  (pss_cons (ps_while PassesOwn.never (pt_cmpR op_gt (pe_callB call_len_seq (by rfl) T.n_len PySem.boot_len (pa_cons (pv 7) pa_nil)) pe_int (nomark _))
   (pss_cons (ps_set (i := 8) sc__law_due.nd rfl (.inl rfl) (pe_ix ix_tup (pe_ix ix_tup (pv 3) pe_int (fun _ _ => rfl)) pe_int (fun _ _ => rfl)))
  (C8.pss_cut (ps_if (pt_cmpR op_eq (pe_ix ix_tup (pv 8) pe_int (fun _ _ => rfl)) pe_str (nomark _))
    (pss_one (ps_dput (hu_of hr) (pv 4) (pe_ix ix_tup (pv 8) pe_int (fun _ _ => rfl)) (pe_ix ix_tup (pv 3) pe_int (fun _ _ => rfl)) rfl))
    pss_nil)
  (C8.pss_cut (ps_if (pt_cmpR op_eq (pe_ix ix_tup (pv 8) pe_int (fun _ _ => rfl)) pe_str (nomark _))
    (pss_one (ps_dput (hu_of hr) (pv 5) (pe_ix ix_tup (pv 8) pe_int (fun _ _ => rfl)) (pe_slice sl_str (pv 1) (po_some (pe_dget (hu_of hr) (pv 4) (pe_ix ix_tup (pv 8) pe_int (fun _ _ => rfl)) (fun _ _ => rfl))) (po_some (pe_ix ix_tup (pv 3) pe_int (fun _ _ => rfl)))) rfl))
    pss_nil)
  (pss_cons (ps_set (i := 9) sc__law_due.nd rfl (.inl rfl) pe_int)
  (pss_cons (ps_if (pt_cmpR op_eq (pe_callB call_len_seq (by rfl) T.n_len PySem.boot_len (pa_cons (pv 7) pa_nil)) pe_int (nomark _))
    (pss_cons (ps_if (PW.pt (pw_or (pt_cmpR op_eq (pv 6) (pe_callB call_len_seq (by rfl) T.n_len PySem.boot_len (pa_cons (pv 2) pa_nil)) (nomark _)) (pw_or1 (pt_cmpR op_notIn_seq (pe_ix ix_list (pv 2) (pv 6) (fun _ _ => rfl)) (pe_tup (pa_cons pe_int (pa_cons pe_int pa_nil))) (by rfl)))))
    (pss_one (ps_ret (pe_lst pa_nil)))
    pss_nil)
  (pss_cons (ps_set (i := 9) sc__law_due.nd rfl (.inl rfl) (pe_ix ix_list (pv 2) (pv 6) (fun _ _ => rfl)))
  (pss_one (ps_set (i := 6) sc__law_due.nd rfl (.inl rfl) (pe_op op_add (pv 6) pe_int)))))
    pss_nil)
  (pss_cons (ps_set (i := 3) sc__law_due.nd rfl (.inl rfl) (pe_ix ix_list (pv 7) (pv 9) (fun _ _ => rfl)))
  (pss_one (ps_set (i := 7) sc__law_due.nd rfl (.inl rfl) (pe_call (ok__law_onward T) (hr.mono (by decide)) (by rfl) T.m__law_onward T.F__law_onward.kp T.b__law_onward .nil pass0 (pa_cons (pv 3) (pa_cons (pv 1) pa_nil))))))))))))
  (pss_one (ps_ret (pe_lc (own := [("_law_number", 10)]) (g := gName 10) (te := tTup (tCons (tVar 10) (tCons (tDGet1 (tVar 5) (tVar 10)) tNil))) rfl sc__law_due.nd (pi_list (pe_call (ok__law_numbers T) (hr.mono (by decide)) (by rfl) T.m__law_numbers T.F__law_numbers.kp T.b__law_numbers .nil pass0 (pa_cons (pv 0) pa_nil))) (blkOk_by (own := [("_law_number", 10)]) (N := N__law_due) (sc := defScope s__law_due) (by decide +kernel)) (fun _ _ _ _ _ => by exact (pg_name (i := 10) sc__law_due.nd rfl (.inl rfl))) (fun _ _ _ _ _ => by exact pts_nil) (fun _ _ _ _ _ => by exact (pe_tup (pa_cons (pv 10) (pa_cons (pe_dget1 (hu_of hr) (pv 5) (pv 10) ⟨rfl, rfl, rfl, rfl⟩) pa_nil))))))))))))), ?_⟩
  refine ⟨_, rfl, sz (by show 1 ≤ 10000; decide), fun t1 n1 => ⟨sz (by show 2 ≤ 10000; decide), fun t2 n2 => ?_⟩⟩
  have s1 := (same_new (o := .tup [v]) n1).trans (same_new (o := .tup [.ref t1, .int 0]) n2)
  have hs : SAt K (upd (upd H t1 (.tup [v])) t2 (.tup [.ref t1, .int 0])) ([.pat p], 0) (.ref t2) := ⟨t2, .ref t1, rfl, SqT.of upd_same, t1, [v], rfl, TS.of (K := K) (same_new n2) _ _ (SqT.of upd_same), .cons (hp.mono (TS.of s1)) .nil⟩
  refine fun bd nbd cd ncd => ?_
  have s2 := (same_new (o := .dK []) nbd).trans (same_new (o := .dK []) ncd)
  have nbd0 := s1.free nbd
  have ncd0 := (s1.trans (same_new (o := .dK []) nbd)).free ncd
  have nbc : bd ≠ cd := fun e => by
    rw [← e, upd_same] at ncd
    cases ncd
  have hb2 := (same_new (o := .dK []) ncd) _ _ (upd_same (H := upd (upd H t1 (.tup [v])) t2 (.tup [.ref t1, .int 0])) (a := bd) (o := .dK []))
  have hc2 := upd_same (H := upd (upd (upd H t1 (.tup [v])) t2 (.tup [.ref t1, .int 0])) bd (.dK [])) (a := cd) (o := .dK [])
  have s12 := s1.trans s2
  have hs2 := hs.mono (TS.of (K := K) s2)
  generalize upd (upd (upd (upd H t1 (.tup [v])) t2 (.tup [.ref t1, .int 0])) bd (.dK [])) cd (.dK []) = H2 at s12 hs2 hb2 hc2 s2
  obtain ⟨o1, o2, _⟩ := okz (SOk.first p z.cps.toList)
  refine ⟨_, rfl, _, rfl, [.pat p], .ref t2, 0, z, rfl, hs2, o1, o2, hz, fun gl gv H3 s3 ngl hgl pg => ?_⟩
  refine ⟨dInv K H v z a bd cd ws p Tm L0, ⟨_, [], L0, _, _, 0, gl, gv, none, none, rfl, s12.trans s3, hs2.mono (TS.of s3), hgl, pg, SOk.first _ _, Nat.zero_le _, htr, rfl, ⟨[], s3 _ _ hb2, Nat.le_refl _, fun n => rfl⟩, ⟨[], s3 _ _ hc2, Nat.le_refl _, fun n => rfl⟩, MOk.first p _, rfl⟩, ?_⟩
  clear pg hgl ngl s3 hs2 hc2 hb2 s12 hs s1 s2 ncd nbd n2 n1
  rintro m σ' H4 ⟨A', L, st, sv, u, gl, gv, y8, y9, rfl, s1, hs, hgl, pg, hok, hu, tr, eL, bA, cA, mok, rfl⟩
  have lgv : (step z.cps.toList st).length = gv.length := Paired.length pg
  have lA : A'.length ≤ 3000000 := by
    have := congrArg List.length eL
    rw [List.length_append] at this
    omega
  refine ⟨_, rfl, gl, _, rfl, .inl (SqL.of hgl), _, _, rfl, rfl, _, rfl, ?_⟩
  by_cases h0 : st = endS z.cps.toList
  · subst h0
    have g0 : gv = [] := List.length_eq_zero_iff.mp (by rw [← lgv]; rfl)
    subst g0
    refine iteF ?_
    have eL2 : L = [endS z.cps.toList] := by
      rcases tr.inv with ⟨_, _, e⟩ | ⟨s', M, e1, _⟩ | ⟨sa, sb, c, w', s', M, e1, _⟩
      · exact e
      · rw [step_end] at e1
        cases e1
      · rw [step_end] at e1
        cases e1
    have ed : L0.dropLast = A' := by rw [eL, eL2, List.dropLast_concat]
    refine ⟨_, rfl, p, v, rfl, hp.mono (TS.of s1), hsz, fun rn H5 s5 nrn hrn => ⟨rn, rfl, ⟨_, SqL.of hrn⟩, fun D nD => ?_⟩⟩
    have s15 := s1.trans s5
    obtain ⟨kc, hc, lc, vc⟩ := cA
    have hc5 := s5 _ _ hc
    have nDc : cd ≠ D := ne_of_none hc5 nD
    have nDr : rn ≠ D := ne_of_none hrn nD
    refine lc_list (K := K) (a := rn) (xs := (nums (subs p)).map V.int) (fun i H' => Same H H' ∧ H' rn = some (.lst ((nums (subs p)).map V.int)) ∧ H' cd = some (.dK kc) ∧ ∃ us, H' D = some (.lst us) ∧ DueAt K H' z (mfold A').2 ((nums (subs p)).take i) us)
      ⟨s15.trans (same_new nD), (same_new nD) _ _ hrn, (same_new nD) _ _ hc5, [], upd_same, by rw [List.take_zero]; exact .nil⟩ (fun i H' _ hI => SqL.of hI.2.1) ?_ ?_
    · rintro i x H6 hi ⟨s6, hrn6, hc6, us, hD6, du⟩
      rw [List.getElem?_map] at hi
      obtain ⟨n, hn', rfl⟩ : ∃ n, (nums (subs p))[i]? = some n ∧ x = V.int n := by
        cases e : (nums (subs p))[i]? with
        | none => rw [e] at hi; cases hi
        | some u => rw [e] at hi; exact ⟨u, rfl, (Option.some.inj hi).symm⟩
      obtain ⟨hil, hie⟩ := List.getElem?_eq_some_iff.mp hn'
      have lk := Paired.length du
      have nn : (nums (subs p)).length ≤ 1000 := Nat.le_trans (List.length_filterMap_le _ _) hsz
      rw [List.length_take] at lk
      refine ⟨rfl, yes_if ?_⟩
      refine ⟨_, rfl, _, rfl, cd, rfl, .inl ⟨kc, .inl hc6⟩, _, rfl, _, DGet.k (k := .inl n) hc6, sz (by show 2 ≤ 10000; decide), fun t7 n7 => ?_⟩
      have ev : (valV kc (.inl n)).getD .non = PV z ((mfold A').2 n) := by
        rw [vc n]
        cases (mfold A').2 n <;> rfl
      rw [ev]
      have s7 := same_new (o := .tup [.int n, PV z ((mfold A').2 n)]) n7
      have hD7 := s7 _ _ hD6
      refine ⟨us, hD7, szl (by omega), Same.mut (s6.trans s7) (s15.free nD), by rw [upd_ne nDr]; exact s7 _ _ hrn6, by rw [upd_ne nDc]; exact s7 _ _ hc6, us ++ [.ref t7], upd_same, ?_⟩
      rw [← List.take_append_getElem hil, hie]
      have e9 := TS.lst (K := K) (ys := us ++ [.ref t7]) hD7
      exact Paired.snoc (Paired.mapP du fun _ _ ⟨t, h1, h2⟩ => ⟨t, h1, e9 _ _ (TS.of (K := K) s7 _ _ h2)⟩) ⟨t7, rfl, e9 _ _ (SqT.of upd_same)⟩
    · rintro H6 ⟨s6, _, _, us, hD6, du⟩
      rw [List.length_map, List.take_length] at du
      refine q D us H6 s6 hD6 ?_
      rw [ed]
      exact du
  have hpos : 0 < gv.length := by
    rcases tr.inv with ⟨e, _⟩ | ⟨_, _, e1, _⟩ | ⟨_, _, _, _, _, _, e1, _⟩
    · exact absurd e h0
    · rw [← lgv, e1]
      exact Nat.zero_lt_succ _
    · rw [← lgv, e1]
      exact Nat.zero_lt_succ _
  have ct := hT st hok
  refine ite2 (fun _ => ?_) (fun c => absurd (decide_eq_true (by omega)) c)
  refine ⟨fun σ' H' => ∃ m', m' < Tm st ∧ dInv K H v z a bd cd ws p Tm L0 m' σ' H', fun σ' H' h => h, ?_⟩
  obtain ⟨t, R, eR⟩ : ∃ t R, st.1 = t :: R := by
    obtain ⟨R0, k⟩ := st
    cases R0 with
    | nil =>
      rw [step_nil] at lgv
      have : gv.length = 0 := lgv.symm
      omega
    | cons t R => exact ⟨t, R, rfl⟩
  have hsK := hs
  obtain ⟨sa, sx, rfl, hsa, ⟨b, tvs, rfl, hb, pts⟩⟩ := hs
  rw [eR] at pts
  cases pts with
  | @cons _ tv _ vR pt pR =>
  refine ⟨_, rfl, _, _, _, _, rfl, rfl, hsa, at0 rfl, _, _, _, _, rfl, rfl, hb, at0 rfl, ?_⟩
  have ho : ∀ n, (∃ q, t = .pat (.group n q)) ∨ t = .close n → True := fun _ _ => trivial
  refine ⟨fun σ' H' => σ' = [some v, some (.str z), some (.ref a), some (.ref sa), some (.ref bd), some (.ref cd), some (.int (u : Int)), some (.ref gl), some tv, y9, none] ∧ Same H H' ∧ TS K H4 H' ∧ H' gl = some (.lst gv) ∧ BAt H' (mstep (mfold A') st).1 bd (A'.length + 1) ∧ CAt H' z (mfold A').2 cd A'.length, ?_, ?_⟩
  · obtain ⟨kb, hb5, lb, vb⟩ := bA
    by_cases g1 : ∃ n q, t = .pat (.group n q)
    · obtain ⟨n, q0, rfl⟩ := g1
      obtain ⟨c, x, rfl, _, hc, _⟩ := pt
      refine ⟨_, rfl, _, _, _, _, rfl, rfl, hc, at0 rfl, rfl, _, rfl, iteT ?_⟩
      refine ⟨_, rfl, _, _, _, _, rfl, rfl, hsa, at1 rfl, _, rfl, _, rfl, _, _, _, _, rfl, rfl, hc, at1 rfl, bd, _, rfl, DPut.k (k := .inl n) hb5 (by rw [sizeLine_eq]; omega), ?_⟩
      have e9 : TS K H4 (upd H4 bd (.dK (putK kb (.inl n) (.int (st.2 : Int))))) := ts_but hb5 nt_dK But.upd'
      obtain ⟨kc, hcc, lc, vc⟩ := cA
      refine ⟨rfl, Same.mut s1 nbd0, e9, by rw [upd_ne (fun z => by rw [z, hb5] at hgl; cases hgl)]; exact hgl, ?_, kc, by rw [upd_ne nbc.symm]; exact hcc, lc, vc⟩
      unfold mstep
      rw [eR]
      exact BAt.put lb vb n st.2
    · obtain ⟨c, ws', rfl, hc⟩ := TAt.node pt
      have ng : V.str (tnm t) ≠ V.str "group" := fun e => g1 (tnm_group (V.str.inj e))
      refine ⟨_, rfl, _, _, _, _, rfl, rfl, hc, at0 rfl, rfl, _, rfl, ite2 (fun z => absurd (of_decide_eq_true z) ng) (fun _ => ?_)⟩
      refine ⟨rfl, s1, TS.of (Same.refl _), hgl, ⟨kb, hb5, by omega, ?_⟩, cA⟩
      have e1 : (mstep (mfold A') st).1 = (mfold A').1 := by
        unfold mstep
        rw [eR]
        split
        · rename_i e
          exact absurd ⟨_, _, (List.cons.inj e).1⟩ g1
        · rfl
        · rfl
      rw [e1]
      exact vb
  clear cA bA
  rintro σ5 H5 ⟨rfl, s5, e5, hgl5, ⟨kb, hb5, lb, vb⟩, ⟨kc, hc5, lc, vc⟩⟩
  have pt5 := pt.mono e5
  have hsa5 := e5 _ _ hsa
  refine ⟨fun σ' H' => σ' = [some v, some (.str z), some (.ref a), some (.ref sa), some (.ref bd), some (.ref cd), some (.int (u : Int)), some (.ref gl), some tv, y9, none] ∧ Same H H' ∧ TS K H4 H' ∧ H' gl = some (.lst gv) ∧ BAt H' (mstep (mfold A') st).1 bd (A'.length + 1) ∧ CAt H' z (mstep (mfold A') st).2 cd (A'.length + 1), ?_, ?_⟩
  · by_cases g2 : ∃ n, t = .close n
    · obtain ⟨n, rfl⟩ := g2
      obtain ⟨c, rfl, hc⟩ := pt5
      refine ⟨_, rfl, _, _, _, _, rfl, rfl, hc, at0 rfl, rfl, _, rfl, iteT ?_⟩
      have em : mstep (mfold A') st = ((mfold A').1, setF (mfold A').2 n (((mfold A').1 n).getD 0, st.2)) := by
        unfold mstep
        rw [eR]
      have em1 : (mstep (mfold A') st).1 = (mfold A').1 := by rw [em]
      rw [em1] at vb
      have hbg := mok.cl n (by rw [eR]; exact List.mem_cons_self)
      obtain ⟨k0, hk0⟩ := Option.isSome_iff_exists.mp hbg
      have hv := vb n
      rw [hk0] at hv
      have hv : valV kb (.inl n) = some (V.int (k0 : Int)) := hv
      refine ⟨_, rfl, _, rfl, _, rfl, _, _, _, _, rfl, rfl, hc, at1 rfl, bd, _, rfl, (by rw [← hv]; exact DGet.k (k := .inl n) hb5), _, rfl, _, rfl, _, _, _, _, rfl, rfl, hsa5, at1 rfl, _, rfl, _, rfl, sz (by omega), _, rfl, _, rfl, _, _, _, _, rfl, rfl, hc, at1 rfl, cd, _, rfl, DPut.k (k := .inl n) hc5 (by rw [sizeLine_eq]; omega), ?_⟩
      have e9 : TS K H5 (upd H5 cd (.dK (putK kc (.inl n) (.str (cutS z (some (k0 : Int)) (some (st.2 : Int))))))) := ts_but hc5 nt_dK But.upd'
      refine ⟨rfl, Same.mut s5 ncd0, e5.trans e9, by rw [upd_ne (fun z => by rw [z, hc5] at hgl5; cases hgl5)]; exact hgl5, ⟨kb, by rw [upd_ne nbc]; exact hb5, lb, by rw [em1]; exact vb⟩, ?_⟩
      rw [em, hk0]
      exact CAt.put lc vc n (k0, st.2)
    · obtain ⟨c, ws', rfl, hc⟩ := TAt.node pt5
      have nc : V.str (tnm t) ≠ V.str "close" := fun e => g2 (tnm_close (V.str.inj e))
      refine ⟨_, rfl, _, _, _, _, rfl, rfl, hc, at0 rfl, rfl, _, rfl, ite2 (fun z => absurd (of_decide_eq_true z) nc) (fun _ => ?_)⟩
      refine ⟨rfl, s5, e5, hgl5, ⟨kb, hb5, lb, vb⟩, ⟨kc, hc5, by omega, ?_⟩⟩
      have e1 : (mstep (mfold A') st).2 = (mfold A').2 := by
        unfold mstep
        rw [eR]
        split
        · rfl
        · rename_i e
          exact absurd ⟨_, (List.cons.inj e).1⟩ g2
        · rfl
      rw [e1]
      exact vc
  clear vc lc hc5 vb lb hb5 kb kc hgl5 hsa5 pt5 e5 s5
  rintro σ6 H6 ⟨rfl, s6, e6, hgl6, bA6, cA6⟩
  have pg6 := SAts.mono e6 pg
  have ha6 := s6 _ _ ha
  have elen : (A' ++ [st]).length = A'.length + 1 := by rw [List.length_append]; rfl
  rcases tr.inv with ⟨e, _⟩ | ⟨s', M, e1, rfl, tr'⟩ | ⟨sx1, sx2, c, w', s', M, e1, ew, hc1, e2, rfl, tr'⟩
  · exact absurd e h0
  · rw [e1] at pg6 ct
    simp only [List.map_cons, List.map_nil, List.sum_cons, List.sum_nil] at ct
    have hm : s' ∈ step z.cps.toList st := by rw [e1]; simp
    obtain ⟨g0, rfl⟩ : ∃ g, gv = [g] := List.length_eq_one_iff.mp (by rw [← lgv, e1]; rfl)
    have hs' : SAt K H6 s' g0 := by
      cases pg6 with
      | cons h _ => exact h
    have hok' := hok.step hn s' hm
    obtain ⟨o1, o2, _⟩ := okz hok'
    refine ⟨_, rfl, gl, _, rfl, .inl (SqL.of hgl6), rfl, _, rfl, iteF ?_⟩
    refine ⟨_, rfl, _, rfl, gl, _, _, _, rfl, rfl, SqL.of hgl6, at0 rfl, ?_⟩
    refine ⟨_, rfl, _, rfl, s'.1, g0, s'.2, z, rfl, hs', o1, o2, hz, fun gl2 gv2 H7 s7 _ hg2 pg2 => ?_⟩
    obtain ⟨kb, hb5, lb, vb⟩ := bA6
    obtain ⟨kc, hc5, lc, vc⟩ := cA6
    refine ⟨_, by omega, A' ++ [st], M, s', g0, u, gl2, gv2, _, _, rfl, s6.trans s7, hs'.mono (TS.of s7), hg2, pg2, hok', hu, tr', by rw [eL]; simp, ⟨kb, s7 _ _ hb5, by rw [elen]; exact lb, by rw [mfold_snoc]; exact vb⟩, ⟨kc, s7 _ _ hc5, by rw [elen]; exact lc, by rw [mfold_snoc]; exact vc⟩, by rw [mfold_snoc]; exact mok.step hm, rfl⟩
  · have hm : s' ∈ step z.cps.toList st := List.mem_of_getElem? e2
    have hok' := hok.step hn s' hm
    obtain ⟨o1, o2, _⟩ := okz hok'
    have lt : Tm s' < Tm st := by
      have := mem_le_sum (l := (step z.cps.toList st).map fun s' => 1 + Tm s') (List.mem_map.mpr ⟨s', hm, rfl⟩)
      omega
    have hc2 := (List.getElem?_eq_some_iff.mp e2).1
    have lg6 := Paired.length pg6
    obtain ⟨y, e0, u0⟩ := Paired.at pg6 (List.getElem?_eq_getElem (show c < gv.length by omega))
    rw [e2] at e0
    cases Option.some.inj e0
    have ex := List.getElem?_eq_getElem (show c < gv.length by omega)
    generalize gv[c]'(show c < gv.length by omega) = g at u0 ex
    have u0 : SAt K H6 s' g := u0
    obtain ⟨g0, g1, rfl⟩ : ∃ g0 g1, gv = [g0, g1] := by
      rcases gv with _ | ⟨g0, _ | ⟨g1, _ | ⟨g2, gs⟩⟩⟩ <;> first | exact ⟨_, _, rfl⟩ | (rw [e1] at lgv; simp at lgv)
    have hul : u < ws.length := by
      have := congrArg List.length ew
      rw [List.length_drop, List.length_cons] at this
      omega
    have ec : ws[u]? = some c := by
      have := congrArg (fun l => l[0]?) ew
      simpa [List.getElem?_drop] using this
    have ed : ws.drop (u + 1) = w' := by
      have := congrArg List.tail ew
      simpa [List.tail_drop] using this
    have ln : (nat2 ws).length = ws.length := by unfold nat2; rw [List.length_map]
    have ewc : (nat2 ws)[u]? = some (V.int (c : Int)) := by unfold nat2; rw [List.getElem?_map, ec]; rfl
    refine ⟨_, rfl, gl, _, rfl, .inl (SqL.of hgl6), rfl, _, rfl, iteT ?_⟩
    refine ⟨_, rfl, _, rfl, a, _, rfl, .inl (SqL.of ha6), rfl, _, rfl, ite2 (fun c1 => ?_) (fun _ => ?_)⟩
    · have := V.int.inj (of_decide_eq_true c1)
      rw [ln] at this
      omega
    refine ⟨_, rfl, _, rfl, a, _, _, _, rfl, rfl, SqL.of ha6, atI_nat ewc, sz (by show 2 ≤ 10000; decide), fun t7 n7 => ⟨t7, [.int 0, .int 1], rfl, .inr (SqT.of upd_same), rfl, rfl, _, rfl, ?_⟩⟩
    have s7 := same_new (o := .tup [.int 0, .int 1]) n7
    have ein : inV (.int (c : Int)) [.int 0, .int 1] = true := by
      match c, hc1 with
      | 0, _ => rfl
      | 1, _ => rfl
    refine ite2 (fun c1 => ?_) (fun _ => ?_)
    · have c1 : (!inV (.int (c : Int)) [.int 0, .int 1]) = true := c1
      rw [ein] at c1
      cases c1
    have hgl7 := s7 _ _ hgl6
    have ha7 := s7 _ _ ha6
    refine ⟨_, rfl, _, rfl, a, _, _, _, rfl, rfl, SqL.of ha7, atI_nat ewc, ?_⟩
    refine ⟨_, rfl, _, _, rfl, rfl, ?_⟩
    refine ⟨_, rfl, _, rfl, gl, _, _, g, rfl, rfl, SqL.of hgl7, atI_nat ex, ?_⟩
    refine ⟨_, rfl, _, rfl, s'.1, g, s'.2, z, rfl, u0.mono (TS.of s7), o1, o2, hz, fun gl2 gv2 H8 s8 _ hg2 pg2 => ?_⟩
    obtain ⟨kb, hb5, lb, vb⟩ := bA6
    obtain ⟨kc, hc5, lc, vc⟩ := cA6
    have s78 := s7.trans s8
    refine ⟨_, lt, A' ++ [st], M, s', g, u + 1, gl2, gv2, _, _, rfl, s6.trans s78, u0.mono (TS.of s78), hg2, pg2, hok', hul, by rw [ed]; exact tr', by rw [eL]; simp, ⟨kb, s78 _ _ hb5, by rw [elen]; exact lb, by rw [mfold_snoc]; exact vb⟩, ⟨kc, s78 _ _ hc5, by rw [elen]; exact lc, by rw [mfold_snoc]; exact vc⟩, by rw [mfold_snoc]; exact mok.step hm, rfl⟩

end
end G1

set_option maxRecDepth 100000
set_option maxHeartbeats 4000000
namespace G1
open PySem PySem.Spec PyProof.Rows L2 Gm
section
variable {P : Program} {w : World} {K : PySem.W.Frag} {mg : Str → Option Value} {base : Heap}
/-! ### the two outer groups -/
/-- what stands behind stays behind -/
theorem step_app (z : List Nat) (k : List Th) : ∀ (t : Th) (r : List Th) (j : Nat) (a : Sta), a ∈ step z ((t :: r) ++ k, j) → ∃ r' : List Th, a.1 = r' ++ k ∧ ((r', a.2) : Sta) ∈ step z (t :: r, j) ∧ j ≤ a.2 ∧ a.2 ≤ max j z.length
  | .close n, r, j, a, hm => by
    have h' : a ∈ [((r ++ k, j) : Sta)] := hm
    rw [List.mem_singleton.mp h']
    exact ⟨r, rfl, List.mem_singleton.mpr rfl, Nat.le_refl _, Nat.le_max_left _ _⟩
  | .pat (.sign c), r, j, a, hm => by
    have h' : a ∈ (if z[j]? = some c then [(r ++ k, j + 1)] else [] : List Sta) := hm
    split at h'
    · rename_i hz
      have := (List.getElem?_eq_some_iff.mp hz).1
      rw [List.mem_singleton.mp h']
      refine ⟨r, rfl, ?_, Nat.le_succ _, by simp only; omega⟩
      show ((r, j + 1) : Sta) ∈ (if z[j]? = some c then [(r, j + 1)] else [] : List Sta)
      rw [if_pos hz]
      exact List.mem_singleton.mpr rfl
    · cases h'
  | .pat .any, r, j, a, hm => by
    have h' : a ∈ (if j < z.length then [(r ++ k, j + 1)] else [] : List Sta) := hm
    split at h'
    · rename_i hz
      rw [List.mem_singleton.mp h']
      refine ⟨r, rfl, ?_, Nat.le_succ _, by simp only; omega⟩
      show ((r, j + 1) : Sta) ∈ (if j < z.length then [(r, j + 1)] else [] : List Sta)
      rw [if_pos hz]
      exact List.mem_singleton.mpr rfl
    · cases h'
  | .pat .none, r, j, a, hm => by
    have h' : a ∈ [((r ++ k, j) : Sta)] := hm
    rw [List.mem_singleton.mp h']
    exact ⟨r, rfl, List.mem_singleton.mpr rfl, Nat.le_refl _, Nat.le_max_left _ _⟩
  | .pat (.row p q), r, j, a, hm => by
    have h' : a ∈ [((.pat p :: .pat q :: (r ++ k), j) : Sta)] := hm
    rw [List.mem_singleton.mp h']
    exact ⟨.pat p :: .pat q :: r, rfl, List.mem_singleton.mpr rfl, Nat.le_refl _, Nat.le_max_left _ _⟩
  | .pat (.or p q), r, j, a, hm => by
    have h' : a ∈ [((.pat p :: (r ++ k), j) : Sta), (.pat q :: (r ++ k), j)] := hm
    rcases List.mem_cons.mp h' with rfl | h'
    · exact ⟨.pat p :: r, rfl, List.mem_cons_self, Nat.le_refl _, Nat.le_max_left _ _⟩
    · rw [List.mem_singleton.mp h']
      exact ⟨.pat q :: r, rfl, List.mem_cons_of_mem _ (List.mem_singleton.mpr rfl), Nat.le_refl _, Nat.le_max_left _ _⟩
  | .pat (.more p), r, j, a, hm => by
    have h' : a ∈ [((.pat p :: .pat (.more p) :: (r ++ k), j) : Sta), (r ++ k, j)] := hm
    rcases List.mem_cons.mp h' with rfl | h'
    · exact ⟨.pat p :: .pat (.more p) :: r, rfl, List.mem_cons_self, Nat.le_refl _, Nat.le_max_left _ _⟩
    · rw [List.mem_singleton.mp h']
      exact ⟨r, rfl, List.mem_cons_of_mem _ (List.mem_singleton.mpr rfl), Nat.le_refl _, Nat.le_max_left _ _⟩
  | .pat (.less p), r, j, a, hm => by
    have h' : a ∈ [((r ++ k, j) : Sta), (.pat p :: .pat (.less p) :: (r ++ k), j)] := hm
    rcases List.mem_cons.mp h' with rfl | h'
    · exact ⟨r, rfl, List.mem_cons_self, Nat.le_refl _, Nat.le_max_left _ _⟩
    · rw [List.mem_singleton.mp h']
      exact ⟨.pat p :: .pat (.less p) :: r, rfl, List.mem_cons_of_mem _ (List.mem_singleton.mpr rfl), Nat.le_refl _, Nat.le_max_left _ _⟩
  | .pat (.group n p), r, j, a, hm => by
    have h' : a ∈ [((.pat p :: .close n :: (r ++ k), j) : Sta)] := hm
    rw [List.mem_singleton.mp h']
    exact ⟨.pat p :: .close n :: r, rfl, List.mem_singleton.mpr rfl, Nat.le_refl _, Nat.le_max_left _ _⟩
/-- a walk does what is in front of k, then k -/
theorem tr_cut {z : List Nat} {k : List Th} {N : List Int} : ∀ {s : Sta} {w : List Nat} {L : List Sta}, Tr z s w L → ∀ {r : List Th}, s.1 = r ++ k → (∀ t ∈ r, ∀ n ∈ thn t, n ∈ N) → ∃ (A M : List Sta) (j : Nat) (w' : List Nat), L = A ++ M ∧ Tr z (k, j) w' M ∧ s.2 ≤ j ∧ j ≤ max s.2 z.length ∧
    (∀ x ∈ A, ∃ t R, x.1 = t :: R ∧ ∀ n ∈ thn t, n ∈ N) := by
  have go : ∀ {s a : Sta} {L : List Sta}, a ∈ step z s → (∀ {r : List Th}, a.1 = r ++ k → (∀ t ∈ r, ∀ n ∈ thn t, n ∈ N) → ∃ (A M : List Sta) (j : Nat) (w' : List Nat), L = A ++ M ∧ Tr z (k, j) w' M ∧ a.2 ≤ j ∧ j ≤ max a.2 z.length ∧ (∀ x ∈ A, ∃ t R, x.1 = t :: R ∧ ∀ n ∈ thn t, n ∈ N)) →
      ∀ {t : Th} {r : List Th}, s.1 = (t :: r) ++ k → (∀ t' ∈ t :: r, ∀ n ∈ thn t', n ∈ N) → ∃ (A M : List Sta) (j : Nat) (w' : List Nat), s :: L = A ++ M ∧ Tr z (k, j) w' M ∧ s.2 ≤ j ∧ j ≤ max s.2 z.length ∧ (∀ x ∈ A, ∃ t R, x.1 = t :: R ∧ ∀ n ∈ thn t, n ∈ N) := fun {s a L} hm ih {t r} e hN => by
    obtain ⟨R, j⟩ := s
    have e : R = (t :: r) ++ k := e
    subst e
    obtain ⟨r', er, hm', l1, l2⟩ := step_app z k t r j a hm
    obtain ⟨A, M, j', w', e1, e2, e3, e4, e5⟩ := ih er fun t' ht' n hn => by
      obtain ⟨t0, h1, h2⟩ := (step_from z _ _ hm').1 t' ht' n hn
      exact hN t0 h1 n h2
    refine ⟨_ :: A, M, j', w', by rw [e1]; rfl, e2, by show j ≤ j'; omega, by show j' ≤ max j z.length; omega, fun x hx => ?_⟩
    rcases List.mem_cons.mp hx with rfl | hx
    · exact ⟨t, r ++ k, rfl, fun n hn => hN t List.mem_cons_self n hn⟩
    · exact e5 x hx
  intro s w L h
  induction h with
  | nil =>
    intro r e _
    have e : ([] : List Th) = r ++ k := e
    obtain ⟨_, rfl⟩ := List.append_eq_nil_iff.mp e.symm
    exact ⟨[], _, z.length, [], rfl, .nil, Nat.le_refl _, Nat.le_max_left _ _, fun x hx => by cases hx⟩
  | @one s a w L h r0 ih =>
    intro r e hN
    cases r with
    | nil =>
      obtain ⟨R, j⟩ := s
      have e : R = k := e
      subst e
      exact ⟨[], _, j, w, rfl, .one h r0, Nat.le_refl _, Nat.le_max_left _ _, fun x hx => by cases hx⟩
    | cons t r => exact go (by rw [h]; simp) ih e hN
  | @left s a b w L h r0 ih =>
    intro r e hN
    cases r with
    | nil =>
      obtain ⟨R, j⟩ := s
      have e : R = k := e
      subst e
      exact ⟨[], _, j, 0 :: w, rfl, .left h r0, Nat.le_refl _, Nat.le_max_left _ _, fun x hx => by cases hx⟩
    | cons t r => exact go (by rw [h]; simp) ih e hN
  | @right s a b w L h r0 ih =>
    intro r e hN
    cases r with
    | nil =>
      obtain ⟨R, j⟩ := s
      have e : R = k := e
      subst e
      exact ⟨[], _, j, 1 :: w, rfl, .right h r0, Nat.le_refl _, Nat.le_max_left _ _, fun x hx => by cases hx⟩
    | cons t r => exact go (by rw [h]; simp) ih e hN
theorem mstep_keep {bf : BF} {x : Sta} {t : Th} {R : List Th} {m : Int} (e : x.1 = t :: R) (h : m ∉ thn t) : (mstep bf x).1 m = bf.1 m ∧ (mstep bf x).2 m = bf.2 m := by
  unfold mstep
  rw [e]
  split
  · rename_i n q r e2
    have e3 := (List.cons.inj e2).1
    subst e3
    refine ⟨?_, rfl⟩
    show setF bf.1 n x.2 m = _
    unfold setF
    rw [if_neg (fun z => h (by rw [z]; show n ∈ nums (subs (.group n q)); rw [ns_group]; exact List.mem_cons_self))]
  · rename_i n r e2
    have e3 := (List.cons.inj e2).1
    subst e3
    refine ⟨rfl, ?_⟩
    show setF bf.2 n _ m = _
    unfold setF
    rw [if_neg (fun z => h (by rw [z]; exact List.mem_cons_self))]
  · exact ⟨rfl, rfl⟩
theorem fold_keep {N : List Int} {m : Int} (hm : m ∉ N) : ∀ {A : List Sta} {bf : BF}, (∀ x ∈ A, ∃ t R, x.1 = t :: R ∧ ∀ n ∈ thn t, n ∈ N) → (A.foldl mstep bf).1 m = bf.1 m ∧ (A.foldl mstep bf).2 m = bf.2 m
  | [], _, _ => ⟨rfl, rfl⟩
  | x :: A, bf, h => by
    obtain ⟨t, R, e, ht⟩ := h x List.mem_cons_self
    obtain ⟨k1, k2⟩ := mstep_keep (bf := bf) e fun z => hm (ht m z)
    obtain ⟨k3, k4⟩ := fold_keep hm (A := A) (bf := mstep bf x) fun y hy => h y (List.mem_cons_of_mem _ hy)
    rw [List.foldl_cons]
    exact ⟨k3.trans k1, k4.trans k2⟩
theorem Tr.next1 {z : List Nat} {s a : Sta} {w : List Nat} {L : List Sta} (h : Tr z s w L) (e : step z s = [a]) : ∃ M, L = s :: M ∧ Tr z a w M := by
  rcases h.inv with ⟨e1, _, _⟩ | ⟨a', M, e1, e2, r⟩ | ⟨a1, b1, c, w', t, M, e1, _⟩
  · rw [e1, step_end] at e
    cases e
  · rw [e] at e1
    cases e1
    exact ⟨M, e2, r⟩
  · rw [e] at e1
    cases e1
theorem Tr.last {z : List Nat} {j : Nat} {w : List Nat} {L : List Sta} (h : Tr z ([], j) w L) : j = z.length ∧ L = [endS z] := by
  rcases h.inv with ⟨e1, _, e2⟩ | ⟨a', M, e1, _⟩ | ⟨a1, b1, c, w', t, M, e1, _⟩
  · exact ⟨congrArg Prod.snd e1, e2⟩
  · rw [step_nil] at e1
    cases e1
  · rw [step_nil] at e1
    cases e1
theorem outer {z : List Nat} {n1 n2 : Int} {p q : Pat} {w : List Nat} {L : List Sta} (h : Tr z ([.pat (.row (.group n1 p) (.group n2 q))], 0) w L) (hne : n1 ≠ n2) (h11 : n1 ∉ nums (subs p)) (h12 : n1 ∉ nums (subs q)) (h21 : n2 ∉ nums (subs p)) (h22 : n2 ∉ nums (subs q)) :
    ∃ j, j ≤ z.length ∧ (mfold L.dropLast).2 n1 = some (0, j) ∧ (mfold L.dropLast).2 n2 = some (j, z.length) := by
  obtain ⟨L1, rfl, h1⟩ := h.next1 (a := ([.pat (.group n1 p), .pat (.group n2 q)], 0)) rfl
  obtain ⟨L2, rfl, h2⟩ := h1.next1 (a := ([.pat p, .close n1, .pat (.group n2 q)], 0)) rfl
  obtain ⟨A, M, j, w', rfl, h3, _, hj, hA⟩ := tr_cut (k := [.close n1, .pat (.group n2 q)]) (N := nums (subs p)) h2 (r := [.pat p]) rfl (fun t ht n hn => by rw [List.mem_singleton.mp ht] at hn; exact hn)
  obtain ⟨M1, rfl, h4⟩ := h3.next1 (a := ([.pat (.group n2 q)], j)) rfl
  obtain ⟨M2, rfl, h5⟩ := h4.next1 (a := ([.pat q, .close n2], j)) rfl
  obtain ⟨B, M3, j2, w'', rfl, h6, _, _, hB⟩ := tr_cut (k := [.close n2]) (N := nums (subs q)) h5 (r := [.pat q]) rfl (fun t ht n hn => by rw [List.mem_singleton.mp ht] at hn; exact hn)
  obtain ⟨M4, rfl, h7⟩ := h6.next1 (a := ([], j2)) rfl
  obtain ⟨rfl, rfl⟩ := h7.last
  refine ⟨j, by have : j ≤ max 0 z.length := hj; omega, ?_⟩
  have ed : (([.pat (.row (.group n1 p) (.group n2 q))], 0) :: ([.pat (.group n1 p), .pat (.group n2 q)], 0) :: (A ++ ([.close n1, .pat (.group n2 q)], j) :: ([.pat (.group n2 q)], j) :: (B ++ ([.close n2], z.length) :: [endS z])) : List Sta).dropLast
      = ([.pat (.row (.group n1 p) (.group n2 q))], 0) :: ([.pat (.group n1 p), .pat (.group n2 q)], 0) :: (A ++ ([.close n1, .pat (.group n2 q)], j) :: ([.pat (.group n2 q)], j) :: (B ++ [([.close n2], z.length)])) := by
    have : (([.pat (.row (.group n1 p) (.group n2 q))], 0) :: ([.pat (.group n1 p), .pat (.group n2 q)], 0) :: (A ++ ([.close n1, .pat (.group n2 q)], j) :: ([.pat (.group n2 q)], j) :: (B ++ ([.close n2], z.length) :: [endS z])) : List Sta)
      = (([.pat (.row (.group n1 p) (.group n2 q))], 0) :: ([.pat (.group n1 p), .pat (.group n2 q)], 0) :: (A ++ ([.close n1, .pat (.group n2 q)], j) :: ([.pat (.group n2 q)], j) :: (B ++ [([.close n2], z.length)]))) ++ [endS z] := by simp
    rw [this, List.dropLast_concat]
  rw [ed]
  unfold mfold
  rw [List.foldl_cons, List.foldl_cons, List.foldl_append, List.foldl_cons, List.foldl_cons, List.foldl_append, List.foldl_cons, List.foldl_nil]
  generalize hb0 : mstep (mstep (fun _ => none, fun _ => none) ([.pat (.row (.group n1 p) (.group n2 q))], 0)) ([.pat (.group n1 p), .pat (.group n2 q)], 0) = b0
  have b01 : b0.1 n1 = some 0 := by
    rw [← hb0]
    show setF _ n1 0 n1 = _
    unfold setF
    rw [if_pos rfl]
  obtain ⟨k1, k2⟩ := fold_keep h11 (bf := b0) hA
  generalize A.foldl mstep b0 = b1 at k1 k2
  generalize hb2 : mstep (mstep b1 ([.close n1, .pat (.group n2 q)], j)) ([.pat (.group n2 q)], j) = b2
  have b2a : b2.2 n1 = some (0, j) := by
    rw [← hb2]
    show setF b1.2 n1 ((b1.1 n1).getD 0, j) n1 = _
    unfold setF
    rw [if_pos rfl, k1, b01]
    rfl
  have b2b : b2.1 n2 = some j := by
    rw [← hb2]
    show setF _ n2 j n2 = _
    unfold setF
    rw [if_pos rfl]
  obtain ⟨k3, k4⟩ := fold_keep h12 (bf := b2) hB
  obtain ⟨k5, k6⟩ := fold_keep h22 (bf := b2) hB
  generalize B.foldl mstep b2 = b3 at k3 k4 k5 k6
  refine ⟨?_, ?_⟩
  · show setF b3.2 n2 ((b3.1 n2).getD 0, z.length) n1 = _
    unfold setF
    rw [if_neg hne, k4, b2a]
  · show setF b3.2 n2 ((b3.1 n2).getD 0, z.length) n2 = _
    unfold setF
    rw [if_pos rfl, k5, b2b]
    rfl

end
end G1

set_option maxRecDepth 100000
set_option maxHeartbeats 4000000
namespace G1
open PySem PySem.Spec PyProof.Rows L2 Gm
section
variable {P : Program} {w : World} {K : PySem.W.Frag} {mg : Str → Option Value} {base : Heap}
theorem pow6 : (10 : Int) ^ (6 : Int).toNat = 1000000 := by decide +kernel
theorem pow7 : (10 : Int) ^ (7 : Int).toNat = 10000000 := by decide +kernel
theorem pow8 : (10 : Int) ^ (8 : Int).toNat = 100000000 := by decide +kernel
def pvd (z : Str) : Option (Nat × Nat) → PyData
  | none => .none
  | some be => .str (cutS z (some (be.1 : Int)) (some (be.2 : Int)))
theorem cut_parts (z : Str) (j : Nat) (h : j ≤ z.length) : cutS z (some ((0 : Nat) : Int)) (some (j : Int)) ++ cutS z (some (j : Int)) (some ((z.length : Nat) : Int)) = z := by
  unfold cutS
  simp only [HT.sIx_nat]
  rw [Nat.min_eq_left h, Nat.zero_min, Nat.min_self, Nat.sub_zero, List.drop_zero, List.take_of_length_le (l := List.drop j z.cps.toList) (by rw [List.length_drop, str_len]; omega)]
  show (⟨(List.take j z.cps.toList).toArray ++ (List.drop j z.cps.toList).toArray⟩ : Str) = z
  have e : (List.take j z.cps.toList).toArray ++ (List.drop j z.cps.toList).toArray = z.cps := by simp
  rw [e]
theorem kv_val {g : Int → V} {n : Int} : ∀ {N : List Int}, n ∈ N → valV (N.map fun n => ((.inl n : L2.Key), g n)) (.inl n) = some (g n)
  | m :: N, h => by
    rw [List.map_cons]
    by_cases e : m = n
    · subst e
      exact valV_pos rfl
    · rw [valV_neg (fun z => e (Sum.inl.inj z))]
      rcases List.mem_cons.mp h with h | h
      · exact absurd h.symm e
      · exact kv_val h
theorem okS.lay {z : Str} (h : okS z) : PyData.strOk z = true := by
  unfold PyData.strOk
  rw [← Array.all_toList, List.all_eq_true]
  intro c hc
  exact decide_eq_true (h c hc)
def dueD (z : Str) (f : Int → Option (Nat × Nat)) (N : List Int) : PyData := .list (N.map fun n => .tuple [.int n, pvd z (f n)])
theorem due_dp {H : Hp} {z : Str} {f : Int → Option (Nat × Nat)} : ∀ {N : List Int} {us : List V}, DueAt K H z f N us → DpAll K H us (N.map fun n => .tuple [.int n, pvd z (f n)])
  | _, _, .nil => .nil
  | _, _, .cons (a := n) ⟨t, rfl, ht⟩ r => .cons (.tup ht (.cons (.int _) (.cons (by
      cases f n with
      | none => exact .non
      | some be => exact .str _) .nil))) (due_dp r)
theorem due_lay {z : Str} (hz : okS z) (f : Int → Option (Nat × Nat)) : ∀ N : List Int, PyData.canLayAll0 (N.map fun n => PyData.tuple [.int n, pvd z (f n)]) = true
  | [] => lay_nil
  | n :: N => lay_cons (lay_tup (lay_cons (lay_int _) (lay_cons (by
      cases f n with
      | none => show PyData.none.canLay0 = true; rw [PyData.canLay0]
      | some be => exact lay_str (hz.cut _ _).lay) lay_nil))) (due_lay hz f N)
theorem due_depth (z : Str) (f : Int → Option (Nat × Nat)) : ∀ N : List Int, PyData.depthAll (N.map fun n => PyData.tuple [.int n, pvd z (f n)]) ≤ 2
  | [] => by simp [PyData.depthAll]
  | n :: N => by
    have h := due_depth z f N
    have hx : ∀ o, PyData.depth (.tuple [.int n, pvd z o]) ≤ 2 := fun o => by
      cases o <;> simp [PyData.depth, PyData.depthAll, pvd]
    have := hx (f n)
    rw [List.map_cons, PyData.depthAll]
    omega
def spLaw (K : PySem.W.Frag) : Sp := fun vs H Q _ => ∃ (a : Addr) (ns : List Int), vs = [.ref a] ∧ SqL K H a (ns.map V.int) ∧ ns.length ≤ 63 ∧ ∀ H', Q (.bl true) H'
theorem ok_law (T : Txt w K mg) : FnOk P w K mg base CX0 8 T.f_law T.fd_law ["_law_script"] (spLaw K) := by
  refine T.F_law.ok sc_law (fun vs H Q E h => ?_) (fun cdv A outer s H vs Q E hr h => ?_)
  · obtain ⟨a, ns, rfl, _⟩ := h
    rfl
  obtain ⟨a, ns, rfl, ha, h63, q⟩ := h
  have p6 : (0 : Int) < (10 : Int) ^ (6 : Int).toNat := by rw [pow6]; decide
  refine ⟨_, (pss_cons (ps_set (i := 1) sc_law.nd rfl (.inl rfl) (pe_call (ok__law_cell_at T) (hr.mono (by decide)) (by rfl) T.m__law_cell_at T.F__law_cell_at.kp T.b__law_cell_at .nil pass0 (pa_cons (pv 0) (pa_cons pe_int pa_nil))))
  (pss_cons (ps_set (i := 2) sc_law.nd rfl (.inl rfl) (pe_op op_add pe_int (pe_op op_mod (pe_op op_fdiv (pv 1) pe_int) (pe_op op_pow pe_int pe_int))))
  (pss_cons (ps_set (i := 3) sc_law.nd rfl (.inl rfl) (pe_call (ok__law_made T) (hr.mono (by decide)) (by rfl) T.m__law_made T.F__law_made.kp T.b__law_made .nil pass0 (pa_cons (pe_slice sl_list (pv 0) (po_some pe_int) (po_some pe_int)) (pa_cons (pv 1) (pa_cons (pe_op op_pow pe_int pe_int) pa_nil)))))
  (pss_cons (ps_set (i := 4) sc_law.nd rfl (.inl rfl) (pe_call (ok__law_made T) (hr.mono (by decide)) (by rfl) T.m__law_made T.F__law_made.kp T.b__law_made .nil pass0 (pa_cons (pe_slice sl_list (pv 0) (po_some pe_int) (po_some pe_int)) (pa_cons (pv 1) (pa_cons (pe_op op_pow pe_int pe_int) pa_nil)))))
  (pss_cons (ps_set (i := 5) sc_law.nd rfl (.inl rfl) (pe_tup (pa_cons pe_str (pa_cons (pe_tup (pa_cons pe_str (pa_cons (pv 2) (pa_cons (pe_ix ix_tup (pv 3) pe_int (fun _ _ => rfl)) pa_nil)))) (pa_cons (pe_tup (pa_cons pe_str (pa_cons (pe_op op_add (pv 2) (pe_op op_pow pe_int pe_int)) (pa_cons (pe_ix ix_tup (pv 4) pe_int (fun _ _ => rfl)) pa_nil)))) pa_nil)))))
  (pss_cons (ps_set (i := 6) sc_law.nd rfl (.inl rfl) (pe_cmpR op_eq (pe_op op_mod (pe_op op_fdiv (pe_call (ok__law_cell_at T) (hr.mono (by decide)) (by rfl) T.m__law_cell_at T.F__law_cell_at.kp T.b__law_cell_at .nil pass0 (pa_cons (pv 0) (pa_cons pe_int pa_nil))) pe_int) pe_int) pe_int (nomark _)))
  (C8.pss_cut (ps_if (pt_val (pv 6))
    (pss_cons (ps_set (i := 3) sc_law.nd rfl (.inl rfl) (pe_call (ok__law_made T) (hr.mono (by decide)) (by rfl) T.m__law_made T.F__law_made.kp T.b__law_made .nil pass0 (pa_cons (pe_slice sl_list (pv 0) (po_some pe_int) (po_some pe_int)) (pa_cons (pv 1) (pa_cons (pe_op op_pow pe_int pe_int) pa_nil)))))
  (pss_cons (ps_set (i := 4) sc_law.nd rfl (.inl rfl) (pe_call (ok__law_made T) (hr.mono (by decide)) (by rfl) T.m__law_made T.F__law_made.kp T.b__law_made .nil pass0 (pa_cons (pe_slice sl_list (pv 0) (po_some pe_int) (po_some pe_int)) (pa_cons (pv 1) (pa_cons (pe_op op_pow pe_int pe_int) pa_nil)))))
  (pss_one (ps_set (i := 5) sc_law.nd rfl (.inl rfl) (pe_tup (pa_cons pe_str (pa_cons (pe_ix ix_tup (pv 3) pe_int (fun _ _ => rfl)) (pa_cons (pe_ix ix_tup (pv 4) pe_int (fun _ _ => rfl)) pa_nil))))))))
    pss_nil)
  (pss_cons (ps_set (i := 7) sc_law.nd rfl (.inl rfl) (pe_op op_add_str (pe_ix ix_tup (pv 3) pe_int (fun _ _ => rfl)) (pe_ix ix_tup (pv 4) pe_int (fun _ _ => rfl))))
  (C8.pss_cut (ps_if (pt_cmpR op_eq (pe_op op_mod (pe_call (ok__law_cell_at T) (hr.mono (by decide)) (by rfl) T.m__law_cell_at T.F__law_cell_at.kp T.b__law_cell_at .nil pass0 (pa_cons (pv 0) (pa_cons pe_int pa_nil))) pe_int) pe_int (nomark _))
    (pss_one (ps_set (i := 7) sc_law.nd rfl (.inl rfl) (pe_call (ok__law_changed T) (hr.mono (by decide)) (by rfl) T.m__law_changed T.F__law_changed.kp T.b__law_changed .nil pass0 (pa_cons (pv 7) (pa_cons (pe_call (ok__law_cell_at T) (hr.mono (by decide)) (by rfl) T.m__law_cell_at T.F__law_cell_at.kp T.b__law_cell_at .nil pass0 (pa_cons (pv 0) (pa_cons pe_int pa_nil))) (pa_cons (pv 1) pa_nil))))))
    pss_nil)
  (pss_cons (ps_set (i := 8) sc_law.nd rfl (.inr rfl) (pe_call (ok_taken T) (hr.mono (by decide)) (by rfl) T.m_taken T.F_taken.kp T.b_taken .nil pass0 (pa_cons (pv 5) (pa_cons (pv 7) pa_nil))))
  (pss_cons (ps_set (i := 9) sc_law.nd rfl (.inl rfl) (pe_call (ok_first_way T) (hr.mono (by decide)) (by rfl) T.m_first_way T.F_first_way.kp T.b_first_way .nil pass0 (pa_cons (pv 5) (pa_cons (pv 7) pa_nil))))
  (pss_cons (ps_if (PW.pt (pw_or (pt_cmpR op_isN (pv 8) pe_non (nomark _)) (pw_or1 (pt_cmpR op_isN (pv 9) pe_non (nomark _)))))
    (pss_one (ps_ret (pe_and (pe_cmpR op_isN (pv 8) pe_non (nomark _)) (pe_one (pe_cmpR op_isN (pv 9) pe_non (nomark _))))))
    pss_nil)
  (pss_cons (ps_if (PW.pt (pw_or (pt_not (pt_val (pe_callB call_isi (by rfl) T.n_isinstance (by decide +kernel) (pa_cons (pv 8) (pa_cons (pe_bltn (v := .ty "dict") (by rfl) T.n_dict (by decide +kernel) rfl) pa_nil))))) (pw_or1 (pt_not (pt_val (pe_callB call_isi (by rfl) T.n_isinstance (by decide +kernel) (pa_cons (pv 9) (pa_cons (pe_bltn (v := .ty "list") (by rfl) T.n_list (by decide +kernel) rfl) pa_nil))))))))
    (pss_one (ps_ret pe_bl))
    pss_nil)
  (pss_cons (ps_for PassesOwn.never rfl (pi_list (pe_listK rfl (pv 8) (by rfl) T.n_list PyProof.Rows.boot_list)) (pg_name (i := 10) sc_law.nd rfl (.inl rfl))
   (pss_one (ps_if (PW.pt (pw_or (pt_not (pt_val (pe_callB call_isi (by rfl) T.n_isinstance (by decide +kernel) (pa_cons (pv 10) (pa_cons (pe_bltn (v := .ty "int") (by rfl) T.n_int (by decide +kernel) rfl) pa_nil))))) (pw_or1 (pt_not (PW.pt (pw_or (pt_cmpR op_isN (pe_dget (hu_of hr) (pv 8) (pv 10) (fun _ _ => rfl)) pe_non (nomark _)) (pw_or1 (pt_val (pe_callB call_isi (by rfl) T.n_isinstance (by decide +kernel) (pa_cons (pe_dget (hu_of hr) (pv 8) (pv 10) (fun _ _ => rfl)) (pa_cons (pe_bltn (v := .ty "str") (by rfl) T.n_str (by decide +kernel) rfl) pa_nil)))))))))))
    (pss_one (ps_ret pe_bl))
    pss_nil)))
  (pss_cons (ps_if (pt_cmpR (op_neD hr.units) (pe_lc (own := [("_law_number", 10)]) (g := gName 10) (te := tTup (tCons (tVar 10) (tCons (tDGet (tVar 8) (tVar 10)) tNil))) rfl sc_law.nd (pi_list (pe_listK rfl (pv 8) (by rfl) T.n_list PyProof.Rows.boot_list)) (blkOk_by (own := [("_law_number", 10)]) (N := N_law) (sc := defScope s_law) (by decide +kernel)) (fun _ _ _ _ _ => by exact (pg_name (i := 10) sc_law.nd rfl (.inl rfl))) (fun _ _ _ _ _ => by exact pts_nil) (fun _ _ _ _ _ => by exact (pe_tup (pa_cons (pv 10) (pa_cons (pe_dget (hu_of hr) (pv 8) (pv 10) (fun _ _ => rfl)) pa_nil))))) (pe_call (ok__law_due T) (hr.mono (by decide)) (by rfl) T.m__law_due T.F__law_due.kp T.b__law_due .nil pass0 (pa_cons (pv 5) (pa_cons (pv 7) (pa_cons (pv 9) pa_nil)))) (nomark _))
    (pss_one (ps_ret pe_bl))
    pss_nil)
  (C8.pss_cut (ps_if (pt_val (pv 6))
    (pss_one (ps_ret pe_bl))
    pss_nil)
  (pss_one (ps_ret (pe_and (pe_cmpR op_notN (pe_dget (hu_of hr) (pv 8) (pv 2) (fun _ _ => rfl)) pe_non (nomark _)) (pe_and (pe_cmpR op_notN (pe_dget (hu_of hr) (pv 8) (pe_op op_add (pv 2) (pe_op op_pow pe_int pe_int)) (fun _ _ => rfl)) pe_non (nomark _)) (pe_one (pe_cmpR op_eq (pe_op op_add_str (pe_dget (hu_of hr) (pv 8) (pv 2) (fun _ _ => rfl)) (pe_dget (hu_of hr) (pv 8) (pe_op op_add (pv 2) (pe_op op_pow pe_int pe_int)) (fun _ _ => rfl))) (pv 7) (nomark _))))))))))))))))))))))), ?_⟩
  refine ⟨_, rfl, a, ns, 0, rfl, ha, ?_⟩
  refine ⟨_, rfl, _, _, rfl, rfl, ⟨by decide, by decide⟩, _, _, rfl, rfl, ⟨by decide, by decide, by decide⟩, _, _, rfl, rfl, p6, _, _, rfl, rfl, ?_⟩
  obtain ⟨one, hone⟩ : ∃ one : Int, one = 1 + cellAt ns 0 / 9025 % (10 : Int) ^ (6 : Int).toNat := ⟨_, rfl⟩
  have o1 : 0 < one ∧ one ≤ 1000000 := by
    rw [hone, pow6]
    have := Int.emod_nonneg (cellAt ns 0 / 9025) (show (1000000 : Int) ≠ 0 by decide)
    have := Int.emod_lt_of_pos (cellAt ns 0 / 9025) (show (0 : Int) < 1000000 by decide)
    omega
  -- the left one
  refine ⟨_, rfl, _, rfl, _, rfl, a, _, rfl, ha, fun l1 n1 => ?_⟩
  obtain ⟨ns1, e1, z1⟩ := cut_int ns 3 11
  have s1 := same_new (o := .lst (cutV (ns.map V.int) (some 3) (some 11))) n1
  refine ⟨_, rfl, _, _, rfl, rfl, ⟨by decide, by decide, by decide⟩, l1, ns1, cellAt ns 0, _, rfl, by rw [pow7]; decide, by rw [← e1]; exact SqL.of upd_same, by omega, fun v1 m1 H1 s2 u1 md1 => ?_⟩
  have s12 := s1.trans s2
  -- the right one
  refine ⟨_, rfl, _, rfl, _, rfl, a, _, rfl, s12.seq ha, fun l2 n2 => ?_⟩
  obtain ⟨ns2, e2, z2⟩ := cut_int ns 11 19
  have s3 := same_new (o := .lst (cutV (ns.map V.int) (some 11) (some 19))) n2
  refine ⟨_, rfl, _, _, rfl, rfl, ⟨by decide, by decide, by decide⟩, l2, ns2, cellAt ns 0, _, rfl, by rw [pow8]; decide, by rw [← e2]; exact SqL.of upd_same, by omega, fun v2 m2 H2 s4 u2 md2 => ?_⟩
  have s34 := s3.trans s4
  have s14 := s12.trans s34
  have u1' := u1.mono (TS.of (K := K) s34)
  rw [pow7] at md1
  rw [pow8] at md2
  obtain ⟨t1, x1, rfl, ht1, hp1, hn1, _, ok1⟩ := u1'
  obtain ⟨t2, x2, rfl, ht2, hp2, hn2, _, ok2⟩ := u2
  refine ⟨_, rfl, _, rfl, _, _, _, _, rfl, rfl, ht1, at0 rfl, sz (by show 3 ≤ 10000; decide), fun t3 m3 => ?_⟩
  have s5 := same_new (o := .tup [.str "group", .int (1 + cellAt ns 0 / 9025 % (10 : Int) ^ (6 : Int).toNat), x1]) m3
  have ht25 := TS.of (K := K) s5 _ _ ht2
  refine ⟨_, rfl, _, _, rfl, rfl, ⟨by decide, by decide, by decide⟩, _, _, rfl, rfl, _, rfl, _, _, _, _, rfl, rfl, ht25, at0 rfl, sz (by show 3 ≤ 10000; decide), fun t4 m4 => ⟨sz (by show 3 ≤ 10000; decide), fun t5 m5 => ?_⟩⟩
  have s6 := same_new (o := .tup [.str "group", .int (1 + cellAt ns 0 / 9025 % (10 : Int) ^ (6 : Int).toNat + (10 : Int) ^ (6 : Int).toNat), x2]) m4
  have s7 := same_new (o := .tup [.str "row", .ref t3, .ref t4]) m5
  have s67 := s6.trans s7
  have s57 := s5.trans s67
  have s17 := s14.trans s57
  have d1 := md1.sz
  have d2 := md1.dp
  have d3 := md1.ln
  have d4 := md2.sz
  have d5 := md2.dp
  have d6 := md2.ln
  have c1 : ∀ n ∈ nums (subs m1.1), 2000000 < n ∧ n < 100000000 := fun n hn => by have := md1.rg n hn; omega
  have c2 : ∀ n ∈ nums (subs m2.1), 100000000 < n := fun n hn => by have := md2.rg n hn; omega
  have up : PAt K (upd (upd (upd H2 t3 (.tup [.str "group", .int (1 + cellAt ns 0 / 9025 % (10 : Int) ^ (6 : Int).toNat), x1])) t4 (.tup [.str "group", .int ((1 + cellAt ns 0 / 9025 % (10 : Int) ^ (6 : Int).toNat) + (10 : Int) ^ (6 : Int).toNat), x2])) t5 (.tup [.str "row", .ref t3, .ref t4])) (.row (.group one m1.1) (.group (one + (10 : Int) ^ (6 : Int).toNat) m2.1)) (.ref t5) := by
    rw [hone]
    exact ⟨t5, .ref t3, .ref t4, rfl, SqT.of upd_same, ⟨t3, x1, rfl, by rw [← hone]; omega, TS.of (K := K) s67 _ _ (SqT.of upd_same), hp1.mono (TS.of s57)⟩, ⟨t4, x2, rfl, by rw [← hone, pow6]; omega, TS.of (K := K) s7 _ _ (SqT.of upd_same), hp2.mono (TS.of s57)⟩⟩
  have ndM : ∀ {mL mR : Pat × Str}, (nums (subs mL.1)).Nodup → (nums (subs mR.1)).Nodup → (∀ n ∈ nums (subs mL.1), 2000000 < n ∧ n < 100000000) → (∀ n ∈ nums (subs mR.1), 100000000 < n) → (nums (subs mL.1) ++ nums (subs mR.1)).Nodup := fun h1 h2 h3 h4 => by
    rw [List.nodup_append]
    refine ⟨h1, h2, fun x hx y hy e => ?_⟩
    have := (h3 x hx).2
    have := h4 y hy
    omega
  have goodG : goodP (.row (.group one m1.1) (.group (one + (10 : Int) ^ (6 : Int).toNat) m2.1)) := by
    refine good_of ?_ (by show (nr m1.1 && nr m2.1) = true; rw [hn1, hn2]; rfl)
    rw [ns_row, ns_group, ns_group, pow6, List.cons_append, List.nodup_cons, List.nodup_append]
    refine ⟨fun hm => ?_, md1.nd, List.nodup_cons.mpr ⟨fun hm => by have := c2 _ hm; omega, md2.nd⟩, fun x hx y hy e => ?_⟩
    · rcases List.mem_append.mp hm with hm | hm
      · have := c1 _ hm; omega
      · rcases List.mem_cons.mp hm with hm | hm
        · omega
        · have := c2 _ hm; omega
    · have h1 := c1 x hx
      rcases List.mem_cons.mp hy with hy | hy
      · omega
      · have := c2 _ hy; omega
  refine ⟨_, rfl, a, ns, 1, rfl, s17.seq ha, _, _, rfl, rfl, ⟨by decide, by decide⟩, _, _, rfl, rfl, (by show (0 : Int) < 6; decide), rfl, ?_⟩
  obtain ⟨bare, hbare⟩ : ∃ b : Bool, b = decide (V.int (cellAt ns 1 / 2 % 6) = V.int 1) := ⟨_, rfl⟩
  refine ⟨fun σ' H' => ∃ (tL tR : Addr) (xL xR vP : V) (bL bR : Bool) (yL yR : Str) (p : Pat), σ' = [some (.ref a), some (.int (cellAt ns 0)), some (.int one), some (.ref tL), some (.ref tR), some vP, some (.bl bare), none, none, none, none] ∧ Same H H' ∧ SqT K H' tL [xL, .bl bL, .str yL] ∧ SqT K H' tR [xR, .bl bR, .str yR] ∧ yL.length ≤ 110 ∧ yR.length ≤ 110 ∧ okS yL ∧ okS yR ∧
    PAt K H' p vP ∧ siz p ≤ 1000 ∧ dep p ≤ 50 ∧ goodP p ∧ (bare = false → ∃ p1 p2 : Pat, p = .row (.group one p1) (.group (one + (10 : Int) ^ (6 : Int).toNat) p2) ∧ one ∉ nums (subs p1) ∧ one ∉ nums (subs p2) ∧ one + (10 : Int) ^ (6 : Int).toNat ∉ nums (subs p1) ∧ one + (10 : Int) ^ (6 : Int).toNat ∉ nums (subs p2)), ?_, ?_⟩
  · refine ⟨_, rfl, _, rfl, ?_⟩
    refine ite2 (fun cb => ?_) (fun cb => ?_)
    · refine ⟨_, rfl, _, rfl, _, rfl, a, _, rfl, s17.seq ha, fun l3 n3 => ?_⟩
      obtain ⟨ns3, e3, z3⟩ := cut_int ns 3 6
      have r1 := same_new (o := .lst (cutV (ns.map V.int) (some 3) (some 6))) n3
      refine ⟨_, rfl, _, _, rfl, rfl, ⟨by decide, by decide, by decide⟩, l3, ns3, cellAt ns 0, _, rfl, by rw [pow7]; decide, by rw [← e3]; exact SqL.of upd_same, by omega, fun v3 m3 H3 r2 u3 md3 => ?_⟩
      have r12 := s17.trans (r1.trans r2)
      refine ⟨_, rfl, _, rfl, _, rfl, a, _, rfl, r12.seq ha, fun l4 n4 => ?_⟩
      obtain ⟨ns4, e4, z4⟩ := cut_int ns 11 14
      have r3 := same_new (o := .lst (cutV (ns.map V.int) (some 11) (some 14))) n4
      refine ⟨_, rfl, _, _, rfl, rfl, ⟨by decide, by decide, by decide⟩, l4, ns4, cellAt ns 0, _, rfl, by rw [pow8]; decide, by rw [← e4]; exact SqL.of upd_same, by omega, fun v4 m4 H4 r4 u4 md4 => ?_⟩
      have r34 := r3.trans r4
      have r14 := r12.trans r34
      have u3' := u3.mono (TS.of (K := K) r34)
      rw [pow7] at md3
      rw [pow8] at md4
      have g1 := md3.sz
      have g2 := md3.dp
      have g3 := md3.ln
      have g4 := md4.sz
      have g5 := md4.dp
      have g6 := md4.ln
      obtain ⟨t6, x6, rfl, ht6, hp6, hn6, _, ok6⟩ := u3'
      obtain ⟨t7, x7, rfl, ht7, hp7, hn7, _, ok7⟩ := u4
      refine ⟨_, rfl, _, _, _, _, rfl, rfl, ht6, at0 rfl, _, rfl, _, _, _, _, rfl, rfl, ht7, at0 rfl, sz (by show 3 ≤ 10000; decide), fun t8 m8 => ?_⟩
      have r8 := same_new (o := .tup [.str "row", x6, x7]) m8
      refine ⟨t6, t7, x6, x7, .ref t8, _, _, m3.2, m4.2, .row m3.1 m4.1, by rw [hbare, hone]; rfl, r14.trans r8, TS.of (K := K) r8 _ _ ht6, TS.of (K := K) r8 _ _ ht7, by omega, by omega, ok6, ok7, ⟨t8, x6, x7, rfl, SqT.of upd_same, hp6.mono (TS.of r8), hp7.mono (TS.of r8)⟩, by rw [siz_row]; omega, by show 1 + max (dep m3.1) (dep m4.1) ≤ 50; omega, good_of (by rw [ns_row]; exact ndM md3.nd md4.nd (fun n hn => by have := md3.rg n hn; omega) (fun n hn => by have := md4.rg n hn; omega)) (by show (nr m3.1 && nr m4.1) = true; rw [hn6, hn7]; rfl), fun h => ?_⟩
      rw [hbare, cb] at h
      cases h
    · refine ⟨t1, t2, x1, x2, .ref t5, _, _, m1.2, m2.2, _, by rw [hbare, hone]; rfl, s17, TS.of (K := K) s57 _ _ ht1, TS.of (K := K) s57 _ _ ht2, by omega, by omega, ok1, ok2, up, by rw [siz_row, siz_group, siz_group]; omega, by show 1 + max (1 + dep m1.1) (1 + dep m2.1) ≤ 50; omega, goodG, fun _ => ⟨m1.1, m2.1, rfl, fun h => ?_, fun h => ?_, fun h => ?_, fun h => ?_⟩⟩
      · have := c1 _ h; omega
      · have := c2 _ h; omega
      · have := c1 _ h; rw [pow6] at this; omega
      · have := c2 _ h; rw [pow6] at this; omega
  clear goodG up c1 c2 d1 d2 d3 d4 d5 d6 s57 s17 s67 s7 s6 s5 ht25 s14 s34 s4 s3 s12 s2 s1
  rintro σ' H3 ⟨tL, tR, xL, xR, vP, bL, bR, yL, yR, p, rfl, s1, hL, hR, lL, lR, okL, okR, hp, hz, hd, hg, hrow⟩
  refine ⟨_, rfl, _, _, _, _, rfl, rfl, hL, at2 rfl, _, rfl, _, _, _, _, rfl, rfl, hR, at2 rfl, _, _, rfl, rfl, sz (by omega), ?_⟩
  refine ⟨fun σ' H' => ∃ z : Str, σ' = [some (.ref a), some (.int (cellAt ns 0)), some (.int one), some (.ref tL), some (.ref tR), some vP, some (.bl bare), some (.str z), none, none, none] ∧ Same H3 H' ∧ z.length ≤ 1000 ∧ okS z, ?_, ?_⟩
  · have ly : (yL ++ yR).length ≤ 220 := by rw [str_app_len]; omega
    refine ⟨_, rfl, a, ns, 1, rfl, s1.seq ha, _, _, rfl, rfl, (by show (0 : Int) < 2; decide), rfl, _, rfl, ?_⟩
    refine ite2 (fun _ => ?_) (fun _ => ?_)
    · refine ⟨_, rfl, _, rfl, a, ns, 2, rfl, s1.seq ha, _, rfl, yL ++ yR, cellAt ns 2, cellAt ns 0, rfl, by omega, okL.app okR, fun y H4 s2 ly2 oy => ⟨y, rfl, s2, by omega, oy⟩⟩
    · exact ⟨_, rfl, Same.refl _, by omega, okL.app okR⟩
  rintro σ' H4 ⟨z, rfl, s2, lz, okz⟩
  have hp4 := hp.mono (TS.of (K := K) s2)
  refine ⟨_, rfl, _, rfl, p, vP, z, rfl, hp4, hz, hd, hg, lz, fun xv H5 s5 hc => ?_⟩
  refine ⟨_, rfl, _, rfl, p, vP, z, rfl, hp4.mono (TS.of s5), hz, hd, hg, lz, fun yv H6 s6 hw => ?_⟩
  rcases hc with ⟨rfl, hno⟩ | ⟨d, ws, L, rfl, nd, hf, hL, hdk⟩
  · refine ⟨_, rfl, rfl, _, rfl, iteT ?_⟩
    rcases hw with ⟨rfl, _⟩ | ⟨d2, ws2, rfl, _, _, hf2, _, _⟩
    · exact ⟨_, rfl, rfl, _, rfl, iteT ⟨_, rfl, rfl, q _⟩⟩
    · exact absurd ⟨_, hf2.walk⟩ hno
  rcases hw with ⟨rfl, hno⟩ | ⟨d2, ws2, rfl, _, hd2, hf2, _, _⟩
  · exact absurd ⟨_, hf.walk⟩ hno
  obtain rfl := hf.uniq hf2
  refine ⟨_, rfl, rfl, _, rfl, iteF ⟨_, rfl, rfl, _, rfl, iteF ?_⟩⟩
  have hd6 := s6 _ _ hdk
  refine ⟨_, rfl, _, _, _, _, true, rfl, .ty _, .base (.dK hd6), kit_ty (by decide +kernel), _, rfl, iteF ?_⟩
  refine ⟨_, rfl, _, _, _, _, true, rfl, .ty _, .base (.lst hd2), kit_ty (by decide +kernel), _, rfl, iteF ?_⟩
  refine ⟨_, rfl, d, _, rfl, hd6, fun lk nlk => ⟨lk, rfl, ⟨_, SqL.of upd_same⟩, ?_⟩⟩
  have sk := same_new (o := .lst (((nums (subs p)).map fun n => ((.inl n : L2.Key), PV z ((mfold L.dropLast).2 n))).map fun kv => kV kv.1)) nlk
  have hdk7 := sk _ _ hd6
  have hlk := upd_same (H := H6) (a := lk) (o := .lst (((nums (subs p)).map fun n => ((.inl n : L2.Key), PV z ((mfold L.dropLast).2 n))).map fun kv => kV kv.1))
  have hw7 := sk _ _ hd2
  have hp7 := (hp4.mono (TS.of (K := K) s5)).mono (TS.of (K := K) (s6.trans sk))
  generalize upd H6 lk (.lst (((nums (subs p)).map fun n => ((.inl n : L2.Key), PV z ((mfold L.dropLast).2 n))).map fun kv => kV kv.1)) = H7 at hdk7 hlk hw7 hp7
  have item : ∀ {i : Nat} {y : V}, (((nums (subs p)).map fun n => ((.inl n : L2.Key), PV z ((mfold L.dropLast).2 n))).map fun kv => kV kv.1)[i]? = some y → ∃ n, (nums (subs p))[i]? = some n ∧ y = V.int n := fun {i y} hi => by
    rw [List.map_map, List.getElem?_map] at hi
    cases e : (nums (subs p))[i]? with
    | none => rw [e] at hi; cases hi
    | some u => rw [e] at hi; exact ⟨u, rfl, (Option.some.inj hi).symm⟩
  refine for_list (K := K) (a := lk) (xs := ((nums (subs p)).map fun n => ((.inl n : L2.Key), PV z ((mfold L.dropLast).2 n))).map fun kv => kV kv.1) (fun _ σ H' => H' = H7 ∧ ∃ y : Option V, σ = [some (.ref a), some (.int (cellAt ns 0)), some (.int one), some (.ref tL), some (.ref tR), some vP, some (.bl bare), some (.str z), some (.ref d), some (.ref d2), y]) ⟨rfl, none, rfl⟩
    (fun i σ H' _ hI => by rw [hI.1]; exact SqL.of hlk) ?_ ?_
  · rintro i y σ H' hi ⟨rfl, y', rfl⟩
    obtain ⟨n, hn, rfl⟩ := item hi
    have hv := kv_val (g := fun n => PV z ((mfold L.dropLast).2 n)) (List.mem_of_getElem? hn)
    have dg : DGet H' d (V.int n) (some (PV z ((mfold L.dropLast).2 n))) := .inl ⟨_, .inl n, .inl hdk7, rfl, hv.symm⟩
    refine ⟨_, rfl, _, _, _, _, true, rfl, .ty _, .base (.int _), kit_ty (by decide +kernel), _, rfl, iteF ?_⟩
    cases eF : (mfold L.dropLast).2 n with
    | none =>
      rw [eF] at dg
      refine ⟨_, rfl, _, rfl, d, _, rfl, dg, rfl, _, rfl, iteT ?_⟩
      exact ⟨rfl, _, rfl⟩
    | some be =>
      rw [eF] at dg
      refine ⟨_, rfl, _, rfl, d, _, rfl, dg, rfl, _, rfl, iteF ?_⟩
      refine ⟨_, rfl, _, rfl, d, _, rfl, dg, _, _, _, _, true, rfl, .ty _, .base (.str _), kit_ty (by decide +kernel), _, rfl, ?_⟩
      exact ⟨rfl, _, rfl⟩
  · rintro σ H' ⟨rfl, y', rfl⟩
    refine ⟨_, rfl, d, _, rfl, hdk7, fun lk2 nlk2 => ⟨lk2, rfl, ⟨_, SqL.of upd_same⟩, fun D nD => ?_⟩⟩
    have sm := same_new (o := .lst (((nums (subs p)).map fun n => ((.inl n : L2.Key), PV z ((mfold L.dropLast).2 n))).map fun kv => kV kv.1)) nlk2
    have hlk2 := upd_same (H := H') (a := lk2) (o := .lst (((nums (subs p)).map fun n => ((.inl n : L2.Key), PV z ((mfold L.dropLast).2 n))).map fun kv => kV kv.1))
    have hdk8 := sm _ _ hdk7
    have nDl : lk2 ≠ D := ne_of_none hlk2 nD
    have nDd : d ≠ D := ne_of_none hdk8 nD
    have nD7 := sm.free nD
    have nn : (nums (subs p)).length ≤ 1000 := Nat.le_trans (List.length_filterMap_le _ _) hz
    refine lc_list (K := K) (a := lk2) (xs := ((nums (subs p)).map fun n => ((.inl n : L2.Key), PV z ((mfold L.dropLast).2 n))).map fun kv => kV kv.1) (fun i H9 => Same H' H9 ∧ H9 lk2 = some (.lst (((nums (subs p)).map fun n => ((.inl n : L2.Key), PV z ((mfold L.dropLast).2 n))).map fun kv => kV kv.1)) ∧ ∃ us, H9 D = some (.lst us) ∧ DueAt K H9 z (mfold L.dropLast).2 ((nums (subs p)).take i) us)
      ⟨Same.mut sm nD7, by rw [upd_ne nDl]; exact hlk2, [], upd_same, by rw [List.take_zero]; exact .nil⟩ (fun i H9 _ hI => SqL.of hI.2.1) ?_ ?_
    · rintro i y H9 hi ⟨s9, hl9, us, hD9, du⟩
      obtain ⟨n, hn, rfl⟩ := item hi
      obtain ⟨hil, hie⟩ := List.getElem?_eq_some_iff.mp hn
      have hv := kv_val (g := fun n => PV z ((mfold L.dropLast).2 n)) (List.mem_of_getElem? hn)
      have dg : DGet H9 d (V.int n) (some (PV z ((mfold L.dropLast).2 n))) := .inl ⟨_, .inl n, .inl (s9 _ _ hdk7), rfl, hv.symm⟩
      have lk := Paired.length du
      rw [List.length_take] at lk
      refine ⟨rfl, yes_if ?_⟩
      refine ⟨_, rfl, _, rfl, _, rfl, d, _, rfl, dg, sz (by show 2 ≤ 10000; decide), fun t7 n7 => ?_⟩
      have s7 := same_new (o := .tup [.int n, PV z ((mfold L.dropLast).2 n)]) n7
      have hD7 := s7 _ _ hD9
      refine ⟨us, hD7, szl (by omega), Same.mut (s9.trans s7) nD7, by rw [upd_ne nDl]; exact s7 _ _ hl9, us ++ [.ref t7], upd_same, ?_⟩
      rw [← List.take_append_getElem hil, hie]
      have e9 := TS.lst (K := K) (ys := us ++ [.ref t7]) hD7
      exact Paired.snoc (Paired.mapP du fun _ _ ⟨t, h1, h2⟩ => ⟨t, h1, e9 _ _ (TS.of (K := K) s7 _ _ h2)⟩) ⟨t7, rfl, e9 _ _ (SqT.of upd_same)⟩
    · rintro H9 ⟨s9, _, us, hD9, du⟩
      rw [List.length_map, List.length_map, List.take_length] at du
      refine ⟨_, rfl, _, rfl, _, rfl, p, vP, z, d2, ws, L, rfl, hp7.mono (TS.of s9), hz, hd, hg, lz, s9 _ _ hw7, hL, fun r us2 H10 s10 hr10 du2 => ?_⟩
      have sh : SeqAt.shaped (dueD z (mfold L.dropLast).2 (nums (subs p))) = true := shaped_of (lay_list (due_lay okz _ _)) (by
        have := due_depth z (mfold L.dropLast).2 (nums (subs p))
        unfold dueD
        rw [PyData.depth]
        omega)
      have dun : DueAt K H10 z (mfold L.dropLast).2 (nums (subs p)) us := Paired.mapP du fun _ _ ⟨t, h1, h2⟩ => ⟨t, h1, TS.of (K := K) s10 _ _ h2⟩
      refine ⟨dueD z (mfold L.dropLast).2 (nums (subs p)), dueD z (mfold L.dropLast).2 (nums (subs p)), .lst (SqL.of (s10 _ _ hD9)) (due_dp dun), .lst (SqL.of hr10) (due_dp du2), sh, sh, ?_⟩
      have er : PyData.eqv (dueD z (mfold L.dropLast).2 (nums (subs p))) (dueD z (mfold L.dropLast).2 (nums (subs p))) = true := SeqAt.eqv_refl _ (lay_list (due_lay okz _ _))
      rw [er]
      refine ⟨_, rfl, iteF ?_⟩
      have dk10 := (s9.trans s10) _ _ hdk7
      refine ⟨fun σ' H' => H' = H10 ∧ bare = false ∧ σ' = [some (.ref a), some (.int (cellAt ns 0)), some (.int one), some (.ref tL), some (.ref tR), some vP, some (.bl bare), some (.str z), some (.ref d), some (.ref d2), y'], ?_, ?_⟩
      · refine ⟨_, rfl, _, rfl, ite2 (fun cb => q _) (fun cb => ⟨rfl, Bool.eq_false_iff.mpr cb, rfl⟩)⟩
      · rintro σ' H' ⟨rfl, hb, rfl⟩
        obtain ⟨q1, q2, rfl, h11, h12, h21, h22⟩ := hrow hb
        obtain ⟨j, hj, e1, e2⟩ := G1.outer hL (by rw [pow6]; omega) h11 h12 h21 h22
        rw [str_len] at hj e2
        have v1 := kv_val (g := fun n => PV z ((mfold L.dropLast).2 n)) (n := one) (N := nums (subs (.row (.group one q1) (.group (one + (10 : Int) ^ (6 : Int).toNat) q2)))) (by rw [ns_row, ns_group, ns_group]; simp)
        have v2 := kv_val (g := fun n => PV z ((mfold L.dropLast).2 n)) (n := one + (10 : Int) ^ (6 : Int).toNat) (N := nums (subs (.row (.group one q1) (.group (one + (10 : Int) ^ (6 : Int).toNat) q2)))) (by rw [ns_row, ns_group, ns_group]; simp)
        rw [e1] at v1
        rw [e2] at v2
        have dg1 : DGet H' d (V.int one) (some (PV z (some (0, j)))) := .inl ⟨_, .inl one, .inl dk10, rfl, v1.symm⟩
        have dg2 : DGet H' d (V.int (one + (10 : Int) ^ (6 : Int).toNat)) (some (PV z (some (j, z.length)))) := .inl ⟨_, .inl _, .inl dk10, rfl, v2.symm⟩
        have c1 := cutS_length z (some ((0 : Nat) : Int)) (some (j : Int))
        have c2 := cutS_length z (some (j : Int)) (some ((z.length : Nat) : Int))
        refine ⟨_, rfl, _, rfl, d, _, rfl, dg1, rfl, _, rfl, iteT ?_⟩
        refine ⟨_, rfl, _, rfl, _, _, rfl, rfl, ⟨by decide, by decide, by decide⟩, _, _, rfl, rfl, d, _, rfl, dg2, rfl, _, rfl, iteT ?_⟩
        refine ⟨_, rfl, _, rfl, d, _, rfl, dg1, _, rfl, _, rfl, _, _, rfl, rfl, ⟨by decide, by decide, by decide⟩, _, _, rfl, rfl, d, _, rfl, dg2, _, _, rfl, rfl, sz (Nat.le_trans (Nat.add_le_add c1 c2) (by omega)), _, rfl, rfl, ?_⟩
        have ef : decide (V.str (cutS z (some ((0 : Nat) : Int)) (some (j : Int)) ++ cutS z (some (j : Int)) (some ((z.length : Nat) : Int))) = V.str z) = true := decide_eq_true (by rw [cut_parts z j hj])
        show Q (.bl (decide (V.str (cutS z (some ((0 : Nat) : Int)) (some (j : Int)) ++ cutS z (some (j : Int)) (some ((z.length : Nat) : Int))) = V.str z))) _
        rw [ef]
        exact q _

end
end G1

set_option maxRecDepth 100000
set_option maxHeartbeats 4000000
namespace G1
open PySem PySem.Spec PyProof.Rows L2 Gm
theorem all_mk {l : PySem.W.OpenLaw} {w : World} {K : PySem.W.Frag} {h : Heap} {mg : Str → Option Value} {fa : Addr} (X : K.In h) (G : h.Ns mainGlobals mg) (hfa : mg "law" = some (.ref fa))
    {f0 : Addr} {od0 an0 : Option Addr} {sl0 : Array (Option Value)} {oc0 kV0 dc0 pm0 cd0 ct0 : Value}
    {f1 : Addr} {od1 an1 : Option Addr} {sl1 : Array (Option Value)} {oc1 kV1 dc1 pm1 cd1 ct1 : Value}
    {f2 : Addr} {od2 an2 : Option Addr} {sl2 : Array (Option Value)} {oc2 kV2 dc2 pm2 cd2 ct2 : Value}
    {f3 : Addr} {od3 an3 : Option Addr} {sl3 : Array (Option Value)} {oc3 kV3 dc3 pm3 cd3 ct3 : Value}
    {f4 : Addr} {od4 an4 : Option Addr} {sl4 : Array (Option Value)} {oc4 kV4 dc4 pm4 cd4 ct4 : Value}
    {f5 : Addr} {od5 an5 : Option Addr} {sl5 : Array (Option Value)} {oc5 kV5 dc5 pm5 cd5 ct5 : Value}
    {f6 : Addr} {od6 an6 : Option Addr} {sl6 : Array (Option Value)} {oc6 kV6 dc6 pm6 cd6 ct6 : Value}
    {f7 : Addr} {od7 an7 : Option Addr} {sl7 : Array (Option Value)} {oc7 kV7 dc7 pm7 cd7 ct7 : Value}
    {f8 : Addr} {od8 an8 : Option Addr} {sl8 : Array (Option Value)} {oc8 kV8 dc8 pm8 cd8 ct8 : Value}
    {f9 : Addr} {od9 an9 : Option Addr} {sl9 : Array (Option Value)} {oc9 kV9 dc9 pm9 cd9 ct9 : Value}
    {f10 : Addr} {od10 an10 : Option Addr} {sl10 : Array (Option Value)} {oc10 kV10 dc10 pm10 cd10 ct10 : Value}
    {f11 : Addr} {od11 an11 : Option Addr} {sl11 : Array (Option Value)} {oc11 kV11 dc11 pm11 cd11 ct11 : Value}
    {f12 : Addr} {od12 an12 : Option Addr} {sl12 : Array (Option Value)} {oc12 kV12 dc12 pm12 cd12 ct12 : Value}
    {f13 : Addr} {od13 an13 : Option Addr} {sl13 : Array (Option Value)} {oc13 kV13 dc13 pm13 cd13 ct13 : Value}
    {f14 : Addr} {od14 an14 : Option Addr} {sl14 : Array (Option Value)} {oc14 kV14 dc14 pm14 cd14 ct14 : Value}
    {f15 : Addr} {od15 an15 : Option Addr} {sl15 : Array (Option Value)} {oc15 kV15 dc15 pm15 cd15 ct15 : Value}
    {f16 : Addr} {od16 an16 : Option Addr} {sl16 : Array (Option Value)} {oc16 kV16 dc16 pm16 cd16 ct16 : Value}
    {f17 : Addr} {od17 an17 : Option Addr} {sl17 : Array (Option Value)} {oc17 kV17 dc17 pm17 cd17 ct17 : Value}
    {f18 : Addr} {od18 an18 : Option Addr} {sl18 : Array (Option Value)} {oc18 kV18 dc18 pm18 cd18 ct18 : Value}
    {f19 : Addr} {od19 an19 : Option Addr} {sl19 : Array (Option Value)} {oc19 kV19 dc19 pm19 cd19 ct19 : Value}
    {f20 : Addr} {od20 an20 : Option Addr} {sl20 : Array (Option Value)} {oc20 kV20 dc20 pm20 cd20 ct20 : Value}
    {f21 : Addr} {od21 an21 : Option Addr} {sl21 : Array (Option Value)} {oc21 kV21 dc21 pm21 cd21 ct21 : Value}
    {CStep : Addr}
    {f22 : Addr} {od22 an22 : Option Addr} {sl22 : Array (Option Value)} {oc22 kV22 dc22 pm22 cd22 ct22 : Value}
    {f23 : Addr} {od23 an23 : Option Addr} {sl23 : Array (Option Value)} {oc23 kV23 dc23 pm23 cd23 ct23 : Value}
    {f24 : Addr} {od24 an24 : Option Addr} {sl24 : Array (Option Value)} {oc24 kV24 dc24 pm24 cd24 ct24 : Value}
    {f25 : Addr} {od25 an25 : Option Addr} {sl25 : Array (Option Value)} {oc25 kV25 dc25 pm25 cd25 ct25 : Value}
    {f26 : Addr} {od26 an26 : Option Addr} {sl26 : Array (Option Value)} {oc26 kV26 dc26 pm26 cd26 ct26 : Value}
    {f27 : Addr} {od27 an27 : Option Addr} {sl27 : Array (Option Value)} {oc27 kV27 dc27 pm27 cd27 ct27 : Value}
    {f28 : Addr} {od28 an28 : Option Addr} {sl28 : Array (Option Value)} {oc28 kV28 dc28 pm28 cd28 ct28 : Value}
    {f29 : Addr} {od29 an29 : Option Addr} {sl29 : Array (Option Value)} {oc29 kV29 dc29 pm29 cd29 ct29 : Value}
    {f30 : Addr} {od30 an30 : Option Addr} {sl30 : Array (Option Value)} {oc30 kV30 dc30 pm30 cd30 ct30 : Value}
    {f31 : Addr} {od31 an31 : Option Addr} {sl31 : Array (Option Value)} {oc31 kV31 dc31 pm31 cd31 ct31 : Value}
    {f32 : Addr} {od32 an32 : Option Addr} {sl32 : Array (Option Value)} {oc32 kV32 dc32 pm32 cd32 ct32 : Value}
    {f33 : Addr} {od33 an33 : Option Addr} {sl33 : Array (Option Value)} {oc33 kV33 dc33 pm33 cd33 ct33 : Value}
    {f34 : Addr} {od34 an34 : Option Addr} {sl34 : Array (Option Value)} {oc34 kV34 dc34 pm34 cd34 ct34 : Value}
    {f35 : Addr} {od35 an35 : Option Addr} {sl35 : Array (Option Value)} {oc35 kV35 dc35 pm35 cd35 ct35 : Value}
    {f36 : Addr} {od36 an36 : Option Addr} {sl36 : Array (Option Value)} {oc36 kV36 dc36 pm36 cd36 ct36 : Value}
    {f37 : Addr} {od37 an37 : Option Addr} {sl37 : Array (Option Value)} {oc37 kV37 dc37 pm37 cd37 ct37 : Value}
    {f38 : Addr} {od38 an38 : Option Addr} {sl38 : Array (Option Value)} {oc38 kV38 dc38 pm38 cd38 ct38 : Value}
    {f39 : Addr} {od39 an39 : Option Addr} {sl39 : Array (Option Value)} {oc39 kV39 dc39 pm39 cd39 ct39 : Value}
    {f40 : Addr} {od40 an40 : Option Addr} {sl40 : Array (Option Value)} {oc40 kV40 dc40 pm40 cd40 ct40 : Value}
    {f41 : Addr} {od41 an41 : Option Addr} {sl41 : Array (Option Value)} {oc41 kV41 dc41 pm41 cd41 ct41 : Value}
    {dL : Addr} {esL : Array DictEntry} {nL : Nat}
    {tk0 : Tok}
    {tk1 : Tok}
    {tk2 : Tok}
    {tk3 : Tok}
    {tk4 : Tok}
    {tk5 : Tok}
    {tk6 : Tok}
    {tk7 : Tok}
    (a0 : PySem.W.nsIn K mainGlobals "parts" = some (some (.ref f0))) (l0 : K.lookup f0 = some ⟨oc0, od0, .func (PySem.W.fnOf "parts" "parts" (defArgs s_parts) (defBody s_parts) (defScope s_parts) .none kV0 dc0 pm0 an0 cd0 ct0), sl0⟩) (c0 : PySem.W.codeIn K cd0 "parts" = true) (k0 : PySem.W.keepIn K (.ref f0) = true)
    (a1 : PySem.W.nsIn K mainGlobals "numbers" = some (some (.ref f1))) (l1 : K.lookup f1 = some ⟨oc1, od1, .func (PySem.W.fnOf "numbers" "numbers" (defArgs s_numbers) (defBody s_numbers) (defScope s_numbers) .none kV1 dc1 pm1 an1 cd1 ct1), sl1⟩) (c1 : PySem.W.codeIn K cd1 "numbers" = true) (k1 : PySem.W.keepIn K (.ref f1) = true)
    (a2 : PySem.W.nsIn K mainGlobals "checked" = some (some (.ref f2))) (l2 : K.lookup f2 = some ⟨oc2, od2, .func (PySem.W.fnOf "checked" "checked" (defArgs s_checked) (defBody s_checked) (defScope s_checked) .none kV2 dc2 pm2 an2 cd2 ct2), sl2⟩) (c2 : PySem.W.codeIn K cd2 "checked" = true) (k2 : PySem.W.keepIn K (.ref f2) = true)
    (a3 : PySem.W.nsIn K mainGlobals "_has_form" = some (some (.ref f3))) (l3 : K.lookup f3 = some ⟨oc3, od3, .func (PySem.W.fnOf "_has_form" "_has_form" (defArgs s__has_form) (defBody s__has_form) (defScope s__has_form) .none kV3 dc3 pm3 an3 cd3 ct3), sl3⟩) (c3 : PySem.W.codeIn K cd3 "_has_form" = true) (k3 : PySem.W.keepIn K (.ref f3) = true)
    (a4 : PySem.W.nsIn K mainGlobals "_is_sign" = some (some (.ref f4))) (l4 : K.lookup f4 = some ⟨oc4, od4, .func (PySem.W.fnOf "_is_sign" "_is_sign" (defArgs s__is_sign) (defBody s__is_sign) (defScope s__is_sign) .none kV4 dc4 pm4 an4 cd4 ct4), sl4⟩) (c4 : PySem.W.codeIn K cd4 "_is_sign" = true) (k4 : PySem.W.keepIn K (.ref f4) = true)
    (a5 : PySem.W.nsIn K mainGlobals "_is_group_number" = some (some (.ref f5))) (l5 : K.lookup f5 = some ⟨oc5, od5, .func (PySem.W.fnOf "_is_group_number" "_is_group_number" (defArgs s__is_group_number) (defBody s__is_group_number) (defScope s__is_group_number) .none kV5 dc5 pm5 an5 cd5 ct5), sl5⟩) (c5 : PySem.W.codeIn K cd5 "_is_group_number" = true) (k5 : PySem.W.keepIn K (.ref f5) = true)
    (a6 : PySem.W.nsIn K mainGlobals "_inner" = some (some (.ref f6))) (l6 : K.lookup f6 = some ⟨oc6, od6, .func (PySem.W.fnOf "_inner" "_inner" (defArgs s__inner) (defBody s__inner) (defScope s__inner) .none kV6 dc6 pm6 an6 cd6 ct6), sl6⟩) (c6 : PySem.W.codeIn K cd6 "_inner" = true) (k6 : PySem.W.keepIn K (.ref f6) = true)
    (a7 : PySem.W.nsIn K mainGlobals "_numbers_among" = some (some (.ref f7))) (l7 : K.lookup f7 = some ⟨oc7, od7, .func (PySem.W.fnOf "_numbers_among" "_numbers_among" (defArgs s__numbers_among) (defBody s__numbers_among) (defScope s__numbers_among) .none kV7 dc7 pm7 an7 cd7 ct7), sl7⟩) (c7 : PySem.W.codeIn K cd7 "_numbers_among" = true) (k7 : PySem.W.keepIn K (.ref f7) = true)
    (a8 : PySem.W.nsIn K mainGlobals "_has_twins" = some (some (.ref f8))) (l8 : K.lookup f8 = some ⟨oc8, od8, .func (PySem.W.fnOf "_has_twins" "_has_twins" (defArgs s__has_twins) (defBody s__has_twins) (defScope s__has_twins) .none kV8 dc8 pm8 an8 cd8 ct8), sl8⟩) (c8 : PySem.W.codeIn K cd8 "_has_twins" = true) (k8 : PySem.W.keepIn K (.ref f8) = true)
    (a9 : PySem.W.nsIn K mainGlobals "_takings" = some (some (.ref f9))) (l9 : K.lookup f9 = some ⟨oc9, od9, .func (PySem.W.fnOf "_takings" "_takings" (defArgs s__takings) (defBody s__takings) (defScope s__takings) .none kV9 dc9 pm9 an9 cd9 ct9), sl9⟩) (c9 : PySem.W.codeIn K cd9 "_takings" = true) (k9 : PySem.W.keepIn K (.ref f9) = true)
    (a10 : PySem.W.nsIn K mainGlobals "_may_take_nothing" = some (some (.ref f10))) (l10 : K.lookup f10 = some ⟨oc10, od10, .func (PySem.W.fnOf "_may_take_nothing" "_may_take_nothing" (defArgs s__may_take_nothing) (defBody s__may_take_nothing) (defScope s__may_take_nothing) .none kV10 dc10 pm10 an10 cd10 ct10), sl10⟩) (c10 : PySem.W.codeIn K cd10 "_may_take_nothing" = true) (k10 : PySem.W.keepIn K (.ref f10) = true)
    (a11 : PySem.W.nsIn K mainGlobals "_has_empty_round" = some (some (.ref f11))) (l11 : K.lookup f11 = some ⟨oc11, od11, .func (PySem.W.fnOf "_has_empty_round" "_has_empty_round" (defArgs s__has_empty_round) (defBody s__has_empty_round) (defScope s__has_empty_round) .none kV11 dc11 pm11 an11 cd11 ct11), sl11⟩) (c11 : PySem.W.codeIn K cd11 "_has_empty_round" = true) (k11 : PySem.W.keepIn K (.ref f11) = true)
    (a12 : PySem.W.nsIn K mainGlobals "first_state" = some (some (.ref f12))) (l12 : K.lookup f12 = some ⟨oc12, od12, .func (PySem.W.fnOf "first_state" "first_state" (defArgs s_first_state) (defBody s_first_state) (defScope s_first_state) .none kV12 dc12 pm12 an12 cd12 ct12), sl12⟩) (c12 : PySem.W.codeIn K cd12 "first_state" = true) (k12 : PySem.W.keepIn K (.ref f12) = true)
    (a13 : PySem.W.nsIn K mainGlobals "is_end" = some (some (.ref f13))) (l13 : K.lookup f13 = some ⟨oc13, od13, .func (PySem.W.fnOf "is_end" "is_end" (defArgs s_is_end) (defBody s_is_end) (defScope s_is_end) .none kV13 dc13 pm13 an13 cd13 ct13), sl13⟩) (c13 : PySem.W.codeIn K cd13 "is_end" = true) (k13 : PySem.W.keepIn K (.ref f13) = true)
    (a14 : PySem.W.nsIn K mainGlobals "onward" = some (some (.ref f14))) (l14 : K.lookup f14 = some ⟨oc14, od14, .func (PySem.W.fnOf "onward" "onward" (defArgs s_onward) (defBody s_onward) (defScope s_onward) .none kV14 dc14 pm14 an14 cd14 ct14), sl14⟩) (c14 : PySem.W.codeIn K cd14 "onward" = true) (k14 : PySem.W.keepIn K (.ref f14) = true)
    (a15 : PySem.W.nsIn K mainGlobals "_takes" = some (some (.ref f15))) (l15 : K.lookup f15 = some ⟨oc15, od15, .func (PySem.W.fnOf "_takes" "_takes" (defArgs s__takes) (defBody s__takes) (defScope s__takes) .none kV15 dc15 pm15 an15 cd15 ct15), sl15⟩) (c15 : PySem.W.codeIn K cd15 "_takes" = true) (k15 : PySem.W.keepIn K (.ref f15) = true)
    (a16 : PySem.W.nsIn K mainGlobals "_unfolded" = some (some (.ref f16))) (l16 : K.lookup f16 = some ⟨oc16, od16, .func (PySem.W.fnOf "_unfolded" "_unfolded" (defArgs s__unfolded) (defBody s__unfolded) (defScope s__unfolded) .none kV16 dc16 pm16 an16 cd16 ct16), sl16⟩) (c16 : PySem.W.codeIn K cd16 "_unfolded" = true) (k16 : PySem.W.keepIn K (.ref f16) = true)
    (a17 : PySem.W.nsIn K mainGlobals "numbers_ahead" = some (some (.ref f17))) (l17 : K.lookup f17 = some ⟨oc17, od17, .func (PySem.W.fnOf "numbers_ahead" "numbers_ahead" (defArgs s_numbers_ahead) (defBody s_numbers_ahead) (defScope s_numbers_ahead) .none kV17 dc17 pm17 an17 cd17 ct17), sl17⟩) (c17 : PySem.W.codeIn K cd17 "numbers_ahead" = true) (k17 : PySem.W.keepIn K (.ref f17) = true)
    (a18 : PySem.W.nsIn K mainGlobals "_number" = some (some (.ref f18))) (l18 : K.lookup f18 = some ⟨oc18, od18, .func (PySem.W.fnOf "_number" "_number" (defArgs s__number) (defBody s__number) (defScope s__number) .none kV18 dc18 pm18 an18 cd18 ct18), sl18⟩) (c18 : PySem.W.codeIn K cd18 "_number" = true) (k18 : PySem.W.keepIn K (.ref f18) = true)
    (a19 : PySem.W.nsIn K mainGlobals "_led_on_to" = some (some (.ref f19))) (l19 : K.lookup f19 = some ⟨oc19, od19, .func (PySem.W.fnOf "_led_on_to" "_led_on_to" (defArgs s__led_on_to) (defBody s__led_on_to) (defScope s__led_on_to) .none kV19 dc19 pm19 an19 cd19 ct19), sl19⟩) (c19 : PySem.W.codeIn K cd19 "_led_on_to" = true) (k19 : PySem.W.keepIn K (.ref f19) = true)
    (a20 : PySem.W.nsIn K mainGlobals "_wanted_sign" = some (some (.ref f20))) (l20 : K.lookup f20 = some ⟨oc20, od20, .func (PySem.W.fnOf "_wanted_sign" "_wanted_sign" (defArgs s__wanted_sign) (defBody s__wanted_sign) (defScope s__wanted_sign) .none kV20 dc20 pm20 an20 cd20 ct20), sl20⟩) (c20 : PySem.W.codeIn K cd20 "_wanted_sign" = true) (k20 : PySem.W.keepIn K (.ref f20) = true)
    (aCStep : PySem.W.nsIn K mainGlobals "Step" = some (some (.ref CStep))) (a21 : PySem.W.findIn K (.ref CStep) "__init__" = some (some (.ref f21))) (i21 : PySem.W.isFn K (.ref f21) = true)
    (pgStep : PySem.W.plainGet K CStep Str.empty = true) (hdStep : PySem.W.hasDictIn K CStep = true) (poStep : PySem.W.plainOver K CStep = true) (saStep : PySem.W.findIn K (.ref CStep) "__setattr__" = some (some (.builtin "object.__setattr__"))) (mkStep : PySem.W.makesIn K CStep = true) (kcStep : PySem.W.keepIn K (.ref CStep) = true)
    (noStepkey : PySem.W.findIn K (.ref CStep) "key" = some none)
    (noStepstate : PySem.W.findIn K (.ref CStep) "state" = some none)
    (noStepfollowing : PySem.W.findIn K (.ref CStep) "following" = some none)
    (noStepchoice : PySem.W.findIn K (.ref CStep) "choice" = some none)
    (l21 : K.lookup f21 = some ⟨oc21, od21, .func (PySem.W.fnOf "__init__" "Step.__init__" (defArgs s_Step__init) (defBody s_Step__init) (defScope s_Step__init) .none kV21 dc21 pm21 an21 cd21 ct21), sl21⟩) (c21 : PySem.W.codeIn K cd21 "Step.__init__" = true) (k21 : PySem.W.keepIn K (.ref f21) = true)
    (a22 : PySem.W.nsIn K mainGlobals "first_way" = some (some (.ref f22))) (l22 : K.lookup f22 = some ⟨oc22, od22, .func (PySem.W.fnOf "first_way" "first_way" (defArgs s_first_way) (defBody s_first_way) (defScope s_first_way) .none kV22 dc22 pm22 an22 cd22 ct22), sl22⟩) (c22 : PySem.W.codeIn K cd22 "first_way" = true) (k22 : PySem.W.keepIn K (.ref f22) = true)
    (a23 : PySem.W.nsIn K mainGlobals "_tried" = some (some (.ref f23))) (l23 : K.lookup f23 = some ⟨oc23, od23, .func (PySem.W.fnOf "_tried" "_tried" (defArgs s__tried) (defBody s__tried) (defScope s__tried) .none kV23 dc23 pm23 an23 cd23 ct23), sl23⟩) (c23 : PySem.W.codeIn K cd23 "_tried" = true) (k23 : PySem.W.keepIn K (.ref f23) = true)
    (a24 : PySem.W.nsIn K mainGlobals "_step" = some (some (.ref f24))) (l24 : K.lookup f24 = some ⟨oc24, od24, .func (PySem.W.fnOf "_step" "_step" (defArgs s__step) (defBody s__step) (defScope s__step) .none kV24 dc24 pm24 an24 cd24 ct24), sl24⟩) (c24 : PySem.W.codeIn K cd24 "_step" = true) (k24 : PySem.W.keepIn K (.ref f24) = true)
    (a25 : PySem.W.nsIn K mainGlobals "walk" = some (some (.ref f25))) (l25 : K.lookup f25 = some ⟨oc25, od25, .func (PySem.W.fnOf "walk" "walk" (defArgs s_walk) (defBody s_walk) (defScope s_walk) .none kV25 dc25 pm25 an25 cd25 ct25), sl25⟩) (c25 : PySem.W.codeIn K cd25 "walk" = true) (k25 : PySem.W.keepIn K (.ref f25) = true)
    (a26 : PySem.W.nsIn K mainGlobals "marks" = some (some (.ref f26))) (l26 : K.lookup f26 = some ⟨oc26, od26, .func (PySem.W.fnOf "marks" "marks" (defArgs s_marks) (defBody s_marks) (defScope s_marks) .none kV26 dc26 pm26 an26 cd26 ct26), sl26⟩) (c26 : PySem.W.codeIn K cd26 "marks" = true) (k26 : PySem.W.keepIn K (.ref f26) = true)
    (a27 : PySem.W.nsIn K mainGlobals "_followed" = some (some (.ref f27))) (l27 : K.lookup f27 = some ⟨oc27, od27, .func (PySem.W.fnOf "_followed" "_followed" (defArgs s__followed) (defBody s__followed) (defScope s__followed) .none kV27 dc27 pm27 an27 cd27 ct27), sl27⟩) (c27 : PySem.W.codeIn K cd27 "_followed" = true) (k27 : PySem.W.keepIn K (.ref f27) = true)
    (a28 : PySem.W.nsIn K mainGlobals "_is_choice" = some (some (.ref f28))) (l28 : K.lookup f28 = some ⟨oc28, od28, .func (PySem.W.fnOf "_is_choice" "_is_choice" (defArgs s__is_choice) (defBody s__is_choice) (defScope s__is_choice) .none kV28 dc28 pm28 an28 cd28 ct28), sl28⟩) (c28 : PySem.W.codeIn K cd28 "_is_choice" = true) (k28 : PySem.W.keepIn K (.ref f28) = true)
    (a29 : PySem.W.nsIn K mainGlobals "taken" = some (some (.ref f29))) (l29 : K.lookup f29 = some ⟨oc29, od29, .func (PySem.W.fnOf "taken" "taken" (defArgs s_taken) (defBody s_taken) (defScope s_taken) .none kV29 dc29 pm29 an29 cd29 ct29), sl29⟩) (c29 : PySem.W.codeIn K cd29 "taken" = true) (k29 : PySem.W.keepIn K (.ref f29) = true)
    (a30 : PySem.W.nsIn K mainGlobals "_part" = some (some (.ref f30))) (l30 : K.lookup f30 = some ⟨oc30, od30, .func (PySem.W.fnOf "_part" "_part" (defArgs s__part) (defBody s__part) (defScope s__part) .none kV30 dc30 pm30 an30 cd30 ct30), sl30⟩) (c30 : PySem.W.codeIn K cd30 "_part" = true) (k30 : PySem.W.keepIn K (.ref f30) = true)
    (a31 : PySem.W.nsIn K mainGlobals "_law_cell_at" = some (some (.ref f31))) (l31 : K.lookup f31 = some ⟨oc31, od31, .func (PySem.W.fnOf "_law_cell_at" "_law_cell_at" (defArgs s__law_cell_at) (defBody s__law_cell_at) (defScope s__law_cell_at) .none kV31 dc31 pm31 an31 cd31 ct31), sl31⟩) (c31 : PySem.W.codeIn K cd31 "_law_cell_at" = true) (k31 : PySem.W.keepIn K (.ref f31) = true)
    (a32 : PySem.W.nsIn K mainGlobals "_law_sign" = some (some (.ref f32))) (l32 : K.lookup f32 = some ⟨oc32, od32, .func (PySem.W.fnOf "_law_sign" "_law_sign" (defArgs s__law_sign) (defBody s__law_sign) (defScope s__law_sign) .none kV32 dc32 pm32 an32 cd32 ct32), sl32⟩) (c32 : PySem.W.codeIn K cd32 "_law_sign" = true) (k32 : PySem.W.keepIn K (.ref f32) = true)
    (a33 : PySem.W.nsIn K mainGlobals "_law_leaf" = some (some (.ref f33))) (l33 : K.lookup f33 = some ⟨oc33, od33, .func (PySem.W.fnOf "_law_leaf" "_law_leaf" (defArgs s__law_leaf) (defBody s__law_leaf) (defScope s__law_leaf) .none kV33 dc33 pm33 an33 cd33 ct33), sl33⟩) (c33 : PySem.W.codeIn K cd33 "_law_leaf" = true) (k33 : PySem.W.keepIn K (.ref f33) = true)
    (a34 : PySem.W.nsIn K mainGlobals "_law_two" = some (some (.ref f34))) (l34 : K.lookup f34 = some ⟨oc34, od34, .func (PySem.W.fnOf "_law_two" "_law_two" (defArgs s__law_two) (defBody s__law_two) (defScope s__law_two) .none kV34 dc34 pm34 an34 cd34 ct34), sl34⟩) (c34 : PySem.W.codeIn K cd34 "_law_two" = true) (k34 : PySem.W.keepIn K (.ref f34) = true)
    (a35 : PySem.W.nsIn K mainGlobals "_law_round" = some (some (.ref f35))) (l35 : K.lookup f35 = some ⟨oc35, od35, .func (PySem.W.fnOf "_law_round" "_law_round" (defArgs s__law_round) (defBody s__law_round) (defScope s__law_round) .none kV35 dc35 pm35 an35 cd35 ct35), sl35⟩) (c35 : PySem.W.codeIn K cd35 "_law_round" = true) (k35 : PySem.W.keepIn K (.ref f35) = true)
    (a36 : PySem.W.nsIn K mainGlobals "_law_made" = some (some (.ref f36))) (l36 : K.lookup f36 = some ⟨oc36, od36, .func (PySem.W.fnOf "_law_made" "_law_made" (defArgs s__law_made) (defBody s__law_made) (defScope s__law_made) .none kV36 dc36 pm36 an36 cd36 ct36), sl36⟩) (c36 : PySem.W.codeIn K cd36 "_law_made" = true) (k36 : PySem.W.keepIn K (.ref f36) = true)
    (a37 : PySem.W.nsIn K mainGlobals "_law_changed" = some (some (.ref f37))) (l37 : K.lookup f37 = some ⟨oc37, od37, .func (PySem.W.fnOf "_law_changed" "_law_changed" (defArgs s__law_changed) (defBody s__law_changed) (defScope s__law_changed) .none kV37 dc37 pm37 an37 cd37 ct37), sl37⟩) (c37 : PySem.W.codeIn K cd37 "_law_changed" = true) (k37 : PySem.W.keepIn K (.ref f37) = true)
    (a38 : PySem.W.nsIn K mainGlobals "_law_onward" = some (some (.ref f38))) (l38 : K.lookup f38 = some ⟨oc38, od38, .func (PySem.W.fnOf "_law_onward" "_law_onward" (defArgs s__law_onward) (defBody s__law_onward) (defScope s__law_onward) .none kV38 dc38 pm38 an38 cd38 ct38), sl38⟩) (c38 : PySem.W.codeIn K cd38 "_law_onward" = true) (k38 : PySem.W.keepIn K (.ref f38) = true)
    (a39 : PySem.W.nsIn K mainGlobals "_law_numbers" = some (some (.ref f39))) (l39 : K.lookup f39 = some ⟨oc39, od39, .func (PySem.W.fnOf "_law_numbers" "_law_numbers" (defArgs s__law_numbers) (defBody s__law_numbers) (defScope s__law_numbers) .none kV39 dc39 pm39 an39 cd39 ct39), sl39⟩) (c39 : PySem.W.codeIn K cd39 "_law_numbers" = true) (k39 : PySem.W.keepIn K (.ref f39) = true)
    (a40 : PySem.W.nsIn K mainGlobals "_law_due" = some (some (.ref f40))) (l40 : K.lookup f40 = some ⟨oc40, od40, .func (PySem.W.fnOf "_law_due" "_law_due" (defArgs s__law_due) (defBody s__law_due) (defScope s__law_due) .none kV40 dc40 pm40 an40 cd40 ct40), sl40⟩) (c40 : PySem.W.codeIn K cd40 "_law_due" = true) (k40 : PySem.W.keepIn K (.ref f40) = true)
    (a41 : PySem.W.nsIn K mainGlobals "law" = some (some (.ref f41))) (l41 : K.lookup f41 = some ⟨oc41, od41, .func (PySem.W.fnOf "law" "law" (defArgs s_law) (defBody s_law) (defScope s_law) .none kV41 dc41 pm41 an41 cd41 ct41), sl41⟩) (c41 : PySem.W.codeIn K cd41 "law" = true) (k41 : PySem.W.keepIn K (.ref f41) = true)
    (z_all : PySem.W.nsIn K mainGlobals "all" = some none)
    (z_any : PySem.W.nsIn K mainGlobals "any" = some none)
    (z_dict : PySem.W.nsIn K mainGlobals "dict" = some none)
    (z_enumerate : PySem.W.nsIn K mainGlobals "enumerate" = some none)
    (z_int : PySem.W.nsIn K mainGlobals "int" = some none)
    (z_isinstance : PySem.W.nsIn K mainGlobals "isinstance" = some none)
    (z_len : PySem.W.nsIn K mainGlobals "len" = some none)
    (z_list : PySem.W.nsIn K mainGlobals "list" = some none)
    (z_reversed : PySem.W.nsIn K mainGlobals "reversed" = some none)
    (z_set : PySem.W.nsIn K mainGlobals "set" = some none)
    (z_str : PySem.W.nsIn K mainGlobals "str" = some none)
    (z_tuple : PySem.W.nsIn K mainGlobals "tuple" = some none)
    (z_type : PySem.W.nsIn K mainGlobals "type" = some none)
    (z_zip : PySem.W.nsIn K mainGlobals "zip" = some none)
    (aL : PySem.W.nsIn K mainGlobals "LENGTHS" = some (some (.ref dL)))
    (lL : K.lookup dL = some ⟨.type "dict", none, .dict esL nL, #[]⟩)
    (kL : PySem.W.KeysLit w.params esL.toList)
    (yL : (dL == sysModules) = false)
    (gL0 : PySem.W.nsIn K dL "sign" = some (some (.int 2 tk0)))
    (gL1 : PySem.W.nsIn K dL "any" = some (some (.int 1 tk1)))
    (gL2 : PySem.W.nsIn K dL "none" = some (some (.int 1 tk2)))
    (gL3 : PySem.W.nsIn K dL "row" = some (some (.int 3 tk3)))
    (gL4 : PySem.W.nsIn K dL "or" = some (some (.int 3 tk4)))
    (gL5 : PySem.W.nsIn K dL "more" = some (some (.int 2 tk5)))
    (gL6 : PySem.W.nsIn K dL "less" = some (some (.int 2 tk6)))
    (gL7 : PySem.W.nsIn K dL "group" = some (some (.int 3 tk7))) :
    ∃ fd : FuncData, (∀ (s : Shared) (v : Value), BindsTo s fd ⟨[v], []⟩ [("_law_script", v)]) ∧ ∀ base : Heap, K.In base → base.Ns mainGlobals mg → FnOk l.prog w K mg base CX0 8 fa fd ["_law_script"] (spLaw K) := by
  have e := hfa.symm.trans (PySem.W.mg_of X G a41)
  cases e
  have F0 := fun_mk (st := s_parts) l0 c0 k0
  have b0 := F0.binds (ps := ["pattern"]) fun _ _ _ _ _ _ us hl => match us, hl with | [_], _ => rfl
  have F1 := fun_mk (st := s_numbers) l1 c1 k1
  have b1 := F1.binds (ps := ["pattern"]) fun _ _ _ _ _ _ us hl => match us, hl with | [_], _ => rfl
  have F2 := fun_mk (st := s_checked) l2 c2 k2
  have b2 := F2.binds (ps := ["pattern"]) fun _ _ _ _ _ _ us hl => match us, hl with | [_], _ => rfl
  have F3 := fun_mk (st := s__has_form) l3 c3 k3
  have b3 := F3.binds (ps := ["thing"]) fun _ _ _ _ _ _ us hl => match us, hl with | [_], _ => rfl
  have F4 := fun_mk (st := s__is_sign) l4 c4 k4
  have b4 := F4.binds (ps := ["thing"]) fun _ _ _ _ _ _ us hl => match us, hl with | [_], _ => rfl
  have F5 := fun_mk (st := s__is_group_number) l5 c5 k5
  have b5 := F5.binds (ps := ["thing"]) fun _ _ _ _ _ _ us hl => match us, hl with | [_], _ => rfl
  have F6 := fun_mk (st := s__inner) l6 c6 k6
  have b6 := F6.binds (ps := ["part"]) fun _ _ _ _ _ _ us hl => match us, hl with | [_], _ => rfl
  have F7 := fun_mk (st := s__numbers_among) l7 c7 k7
  have b7 := F7.binds (ps := ["found"]) fun _ _ _ _ _ _ us hl => match us, hl with | [_], _ => rfl
  have F8 := fun_mk (st := s__has_twins) l8 c8 k8
  have b8 := F8.binds (ps := ["many"]) fun _ _ _ _ _ _ us hl => match us, hl with | [_], _ => rfl
  have F9 := fun_mk (st := s__takings) l9 c9 k9
  have b9 := F9.binds (ps := ["found"]) fun _ _ _ _ _ _ us hl => match us, hl with | [_], _ => rfl
  have F10 := fun_mk (st := s__may_take_nothing) l10 c10 k10
  have b10 := F10.binds (ps := ["name", "inner_answers"]) fun _ _ _ _ _ _ us hl => match us, hl with | [_, _], _ => rfl
  have F11 := fun_mk (st := s__has_empty_round) l11 c11 k11
  have b11 := F11.binds (ps := ["found"]) fun _ _ _ _ _ _ us hl => match us, hl with | [_], _ => rfl
  have F12 := fun_mk (st := s_first_state) l12 c12 k12
  have b12 := F12.binds (ps := ["pattern"]) fun _ _ _ _ _ _ us hl => match us, hl with | [_], _ => rfl
  have F13 := fun_mk (st := s_is_end) l13 c13 k13
  have b13 := F13.binds (ps := ["state", "text"]) fun _ _ _ _ _ _ us hl => match us, hl with | [_, _], _ => rfl
  have F14 := fun_mk (st := s_onward) l14 c14 k14
  have b14 := F14.binds (ps := ["state", "text"]) fun _ _ _ _ _ _ us hl => match us, hl with | [_, _], _ => rfl
  have F15 := fun_mk (st := s__takes) l15 c15 k15
  have b15 := F15.binds (ps := ["thing", "sign"]) fun _ _ _ _ _ _ us hl => match us, hl with | [_, _], _ => rfl
  have F16 := fun_mk (st := s__unfolded) l16 c16 k16
  have b16 := F16.binds (ps := ["thing"]) fun _ _ _ _ _ _ us hl => match us, hl with | [_], _ => rfl
  have F17 := fun_mk (st := s_numbers_ahead) l17 c17 k17
  have b17 := F17.binds (ps := ["pattern"]) fun _ _ _ _ _ _ us hl => match us, hl with | [_], _ => rfl
  have F18 := fun_mk (st := s__number) l18 c18 k18
  have b18 := F18.binds (ps := ["rest", "rests"]) fun _ _ _ _ _ _ us hl => match us, hl with | [_, _], _ => rfl
  have F19 := fun_mk (st := s__led_on_to) l19 c19 k19
  have b19 := F19.binds (ps := ["rest"]) fun _ _ _ _ _ _ us hl => match us, hl with | [_], _ => rfl
  have F20 := fun_mk (st := s__wanted_sign) l20 c20 k20
  have b20 := F20.binds (ps := ["rest"]) fun _ _ _ _ _ _ us hl => match us, hl with | [_], _ => rfl
  have F21 := fun_mk (st := s_Step__init) l21 c21 k21
  have b21 := F21.binds (ps := ["self", "number", "state", "following"]) fun _ _ _ _ _ _ us hl => match us, hl with | [_, _, _, _], _ => rfl
  have F22 := fun_mk (st := s_first_way) l22 c22 k22
  have b22 := F22.binds (ps := ["pattern", "text"]) fun _ _ _ _ _ _ us hl => match us, hl with | [_, _], _ => rfl
  have F23 := fun_mk (st := s__tried) l23 c23 k23
  have b23 := F23.binds (ps := ["pattern", "text"]) fun _ _ _ _ _ _ us hl => match us, hl with | [_, _], _ => rfl
  have F24 := fun_mk (st := s__step) l24 c24 k24
  have b24 := F24.binds (ps := ["number", "state", "text", "ahead"]) fun _ _ _ _ _ _ us hl => match us, hl with | [_, _, _, _], _ => rfl
  have F25 := fun_mk (st := s_walk) l25 c25 k25
  have b25 := F25.binds (ps := ["pattern", "text", "way"]) fun _ _ _ _ _ _ us hl => match us, hl with | [_, _, _], _ => rfl
  have F26 := fun_mk (st := s_marks) l26 c26 k26
  have b26 := F26.binds (ps := ["pattern", "text", "way"]) fun _ _ _ _ _ _ us hl => match us, hl with | [_, _, _], _ => rfl
  have F27 := fun_mk (st := s__followed) l27 c27 k27
  have b27 := F27.binds (ps := ["following", "left"]) fun _ _ _ _ _ _ us hl => match us, hl with | [_, _], _ => rfl
  have F28 := fun_mk (st := s__is_choice) l28 c28 k28
  have b28 := F28.binds (ps := ["thing"]) fun _ _ _ _ _ _ us hl => match us, hl with | [_], _ => rfl
  have F29 := fun_mk (st := s_taken) l29 c29 k29
  have b29 := F29.binds (ps := ["pattern", "text"]) fun _ _ _ _ _ _ us hl => match us, hl with | [_, _], _ => rfl
  have F30 := fun_mk (st := s__part) l30 c30 k30
  have b30 := F30.binds (ps := ["text", "mark"]) fun _ _ _ _ _ _ us hl => match us, hl with | [_, _], _ => rfl
  have F31 := fun_mk (st := s__law_cell_at) l31 c31 k31
  have b31 := F31.binds (ps := ["_law_script", "_law_k"]) fun _ _ _ _ _ _ us hl => match us, hl with | [_, _], _ => rfl
  have F32 := fun_mk (st := s__law_sign) l32 c32 k32
  have b32 := F32.binds (ps := ["_law_cell"]) fun _ _ _ _ _ _ us hl => match us, hl with | [_], _ => rfl
  have F33 := fun_mk (st := s__law_leaf) l33 c33 k33
  have b33 := F33.binds (ps := ["_law_cell", "_law_head"]) fun _ _ _ _ _ _ us hl => match us, hl with | [_, _], _ => rfl
  have F34 := fun_mk (st := s__law_two) l34 c34 k34
  have b34 := F34.binds (ps := ["_law_cell", "_law_left", "_law_right"]) fun _ _ _ _ _ _ us hl => match us, hl with | [_, _, _], _ => rfl
  have F35 := fun_mk (st := s__law_round) l35 c35 k35
  have b35 := F35.binds (ps := ["_law_cell", "_law_part", "_law_head"]) fun _ _ _ _ _ _ us hl => match us, hl with | [_, _, _], _ => rfl
  have F36 := fun_mk (st := s__law_made) l36 c36 k36
  have b36 := F36.binds (ps := ["_law_cells", "_law_head", "_law_number"]) fun _ _ _ _ _ _ us hl => match us, hl with | [_, _, _], _ => rfl
  have F37 := fun_mk (st := s__law_changed) l37 c37 k37
  have b37 := F37.binds (ps := ["_law_text", "_law_cell", "_law_head"]) fun _ _ _ _ _ _ us hl => match us, hl with | [_, _, _], _ => rfl
  have F38 := fun_mk (st := s__law_onward) l38 c38 k38
  have b38 := F38.binds (ps := ["_law_state", "_law_text"]) fun _ _ _ _ _ _ us hl => match us, hl with | [_, _], _ => rfl
  have F39 := fun_mk (st := s__law_numbers) l39 c39 k39
  have b39 := F39.binds (ps := ["_law_pattern"]) fun _ _ _ _ _ _ us hl => match us, hl with | [_], _ => rfl
  have F40 := fun_mk (st := s__law_due) l40 c40 k40
  have b40 := F40.binds (ps := ["_law_pattern", "_law_text", "_law_way"]) fun _ _ _ _ _ _ us hl => match us, hl with | [_, _, _], _ => rfl
  have F41 := fun_mk (st := s_law) l41 c41 k41
  have b41 := F41.binds (ps := ["_law_script"]) fun _ _ _ _ _ _ us hl => match us, hl with | [_], _ => rfl
  have T : { T : Txt w K mg // T.f_law = fa ∧ T.fd_law = PySem.W.fnOf "law" "law" (defArgs s_law) (defBody s_law) (defScope s_law) .none kV41 dc41 pm41 an41 cd41 ct41 } := ⟨⟨_, _, F0, PySem.W.mg_of X G a0, b0, _, _, F1, PySem.W.mg_of X G a1, b1, _, _, F2, PySem.W.mg_of X G a2, b2, _, _, F3, PySem.W.mg_of X G a3, b3, _, _, F4, PySem.W.mg_of X G a4, b4, _, _, F5, PySem.W.mg_of X G a5, b5, _, _, F6, PySem.W.mg_of X G a6, b6, _, _, F7, PySem.W.mg_of X G a7, b7, _, _, F8, PySem.W.mg_of X G a8, b8, _, _, F9, PySem.W.mg_of X G a9, b9, _, _, F10, PySem.W.mg_of X G a10, b10, _, _, F11, PySem.W.mg_of X G a11, b11, _, _, F12, PySem.W.mg_of X G a12, b12, _, _, F13, PySem.W.mg_of X G a13, b13, _, _, F14, PySem.W.mg_of X G a14, b14, _, _, F15, PySem.W.mg_of X G a15, b15, _, _, F16, PySem.W.mg_of X G a16, b16, _, _, F17, PySem.W.mg_of X G a17, b17, _, _, F18, PySem.W.mg_of X G a18, b18, _, _, F19, PySem.W.mg_of X G a19, b19, _, _, F20, PySem.W.mg_of X G a20, b20, _, _, F21, b21, _, _, F22, PySem.W.mg_of X G a22, b22, _, _, F23, PySem.W.mg_of X G a23, b23, _, _, F24, PySem.W.mg_of X G a24, b24, _, _, F25, PySem.W.mg_of X G a25, b25, _, _, F26, PySem.W.mg_of X G a26, b26, _, _, F27, PySem.W.mg_of X G a27, b27, _, _, F28, PySem.W.mg_of X G a28, b28, _, _, F29, PySem.W.mg_of X G a29, b29, _, _, F30, PySem.W.mg_of X G a30, b30, _, _, F31, PySem.W.mg_of X G a31, b31, _, _, F32, PySem.W.mg_of X G a32, b32, _, _, F33, PySem.W.mg_of X G a33, b33, _, _, F34, PySem.W.mg_of X G a34, b34, _, _, F35, PySem.W.mg_of X G a35, b35, _, _, F36, PySem.W.mg_of X G a36, b36, _, _, F37, PySem.W.mg_of X G a37, b37, _, _, F38, PySem.W.mg_of X G a38, b38, _, _, F39, PySem.W.mg_of X G a39, b39, _, _, F40, PySem.W.mg_of X G a40, b40, _, _, F41, PySem.W.mg_of X G a41, b41, PySem.W.mg_none_of X G z_all, PySem.W.mg_none_of X G z_any, PySem.W.mg_none_of X G z_dict, PySem.W.mg_none_of X G z_enumerate, PySem.W.mg_none_of X G z_int, PySem.W.mg_none_of X G z_isinstance, PySem.W.mg_none_of X G z_len, PySem.W.mg_none_of X G z_list, PySem.W.mg_none_of X G z_reversed, PySem.W.mg_none_of X G z_set, PySem.W.mg_none_of X G z_str, PySem.W.mg_none_of X G z_tuple, PySem.W.mg_none_of X G z_type, PySem.W.mg_none_of X G z_zip, CStep, PySem.W.mg_of X G aCStep, ⟨pgStep, hdStep, poStep, saStep⟩, noStepkey, noStepstate, noStepfollowing, noStepchoice, ⟨mkStep, a21, i21, kcStep⟩, dL, PySem.W.mg_of X G aL, ⟨esL, nL, lL, kL⟩, yL, ⟨esL, nL, _, lL, kL, gL0, ⟨tk0, rfl⟩⟩, ⟨esL, nL, _, lL, kL, gL1, ⟨tk1, rfl⟩⟩, ⟨esL, nL, _, lL, kL, gL2, ⟨tk2, rfl⟩⟩, ⟨esL, nL, _, lL, kL, gL3, ⟨tk3, rfl⟩⟩, ⟨esL, nL, _, lL, kL, gL4, ⟨tk4, rfl⟩⟩, ⟨esL, nL, _, lL, kL, gL5, ⟨tk5, rfl⟩⟩, ⟨esL, nL, _, lL, kL, gL6, ⟨tk6, rfl⟩⟩, ⟨esL, nL, _, lL, kL, gL7, ⟨tk7, rfl⟩⟩⟩, rfl, rfl⟩
  obtain ⟨T, rfl, e2⟩ := T
  refine ⟨T.fd_law, fun s v => ?_, fun base _ _ => ok_law T⟩
  rw [e2]
  exact .of_eq rfl
theorem walk {l : PySem.W.OpenLaw} {q : Program} {loose : List Str} {XP : (Str → Option Value) → Heap → Prop} {YP : World → Heap → Prop} {d : DefRec} {K : Params → PySem.W.Frag} (hn : l.most = some 63) (hdf : d.params.defaults = [])
    (hY : ∀ (w : World) (h : Heap), YP w h → (K w.params).In h)
    (F : ∀ (w : World) (mg : Str → Option Value) (fa : Addr) (h : Heap), (K w.params).In h → h.Ns mainGlobals mg → mg d.name = some (.ref fa) →
      ∃ fd : FuncData, (∀ (s : Shared) (u : Value), BindsTo s fd ⟨[u], []⟩ [("_law_script", u)]) ∧ ∀ base : Heap, (K w.params).In base → base.Ns mainGlobals mg → FnOk l.prog w (K w.params) mg base CX0 8 fa fd ["_law_script"] (spLaw (K w.params))) :
    PySem.W.WalkO q loose XP YP l.row.toRowW d [] (fun f vs => PySem.call f vs) :=
  L2.walk_of (n := 63) (k := 8) (x := "_law_script") (CX := fun _ => CX0) (sp := fun w => (spLaw (K w.params))) hn (by decide) hdf ⟨rfl, by decide, by decide⟩ hY F (fun _ _ a ns hl _ hS => ⟨a, ns, rfl, hS, hl, fun _ => rfl⟩) fun _ _ _ _ _ z => z
end G1

open PySem PySem.W PyProof.Rows
set_option maxRecDepth 100000 in
set_option maxHeartbeats 0 in
theorem PySem.Challenge.cw_groupmarks_k11_whole_parts_taken_holds : PySem.Challenge.rw_groupmarks_k11_whole_parts_taken.Holds := by
  w_on; o_law; k_head; (case hw => w_witness2)
  k_fill
  refine G1.walk (l := PySem.Challenge.rw_groupmarks_k11_whole_parts_taken) rfl rfl (fun w h Y => PySem.W.kIn_of Y) ?F
  case F =>
    intro w mg fa h KX G hmg
    refine' G1.all_mk KX G hmg ?a0 ?l0 ?c0 ?k0 ?a1 ?l1 ?c1 ?k1 ?a2 ?l2 ?c2 ?k2 ?a3 ?l3 ?c3 ?k3 ?a4 ?l4 ?c4 ?k4 ?a5 ?l5 ?c5 ?k5 ?a6 ?l6 ?c6 ?k6 ?a7 ?l7 ?c7 ?k7 ?a8 ?l8 ?c8 ?k8 ?a9 ?l9 ?c9 ?k9 ?a10 ?l10 ?c10 ?k10 ?a11 ?l11 ?c11 ?k11 ?a12 ?l12 ?c12 ?k12 ?a13 ?l13 ?c13 ?k13 ?a14 ?l14 ?c14 ?k14 ?a15 ?l15 ?c15 ?k15 ?a16 ?l16 ?c16 ?k16 ?a17 ?l17 ?c17 ?k17 ?a18 ?l18 ?c18 ?k18 ?a19 ?l19 ?c19 ?k19 ?a20 ?l20 ?c20 ?k20 ?aCStep ?a21 ?i21 ?pgStep ?hdStep ?poStep ?saStep ?mkStep ?kcStep ?noStepkey ?noStepstate ?noStepfollowing ?noStepchoice ?l21 ?c21 ?k21 ?a22 ?l22 ?c22 ?k22 ?a23 ?l23 ?c23 ?k23 ?a24 ?l24 ?c24 ?k24 ?a25 ?l25 ?c25 ?k25 ?a26 ?l26 ?c26 ?k26 ?a27 ?l27 ?c27 ?k27 ?a28 ?l28 ?c28 ?k28 ?a29 ?l29 ?c29 ?k29 ?a30 ?l30 ?c30 ?k30 ?a31 ?l31 ?c31 ?k31 ?a32 ?l32 ?c32 ?k32 ?a33 ?l33 ?c33 ?k33 ?a34 ?l34 ?c34 ?k34 ?a35 ?l35 ?c35 ?k35 ?a36 ?l36 ?c36 ?k36 ?a37 ?l37 ?c37 ?k37 ?a38 ?l38 ?c38 ?k38 ?a39 ?l39 ?c39 ?k39 ?a40 ?l40 ?c40 ?k40 ?a41 ?l41 ?c41 ?k41 ?z_all ?z_any ?z_dict ?z_enumerate ?z_int ?z_isinstance ?z_len ?z_list ?z_reversed ?z_set ?z_str ?z_tuple ?z_type ?z_zip ?aL ?lL ?kL ?yL ?gL0 ?gL1 ?gL2 ?gL3 ?gL4 ?gL5 ?gL6 ?gL7
    (case a0 => k_is)
    (case l0 => k_is)
    (case c0 => k_is)
    (case k0 => k_is)
    (case a1 => k_is)
    (case l1 => k_is)
    (case c1 => k_is)
    (case k1 => k_is)
    (case a2 => k_is)
    (case l2 => k_is)
    (case c2 => k_is)
    (case k2 => k_is)
    (case a3 => k_is)
    (case l3 => k_is)
    (case c3 => k_is)
    (case k3 => k_is)
    (case a4 => k_is)
    (case l4 => k_is)
    (case c4 => k_is)
    (case k4 => k_is)
    (case a5 => k_is)
    (case l5 => k_is)
    (case c5 => k_is)
    (case k5 => k_is)
    (case a6 => k_is)
    (case l6 => k_is)
    (case c6 => k_is)
    (case k6 => k_is)
    (case a7 => k_is)
    (case l7 => k_is)
    (case c7 => k_is)
    (case k7 => k_is)
    (case a8 => k_is)
    (case l8 => k_is)
    (case c8 => k_is)
    (case k8 => k_is)
    (case a9 => k_is)
    (case l9 => k_is)
    (case c9 => k_is)
    (case k9 => k_is)
    (case a10 => k_is)
    (case l10 => k_is)
    (case c10 => k_is)
    (case k10 => k_is)
    (case a11 => k_is)
    (case l11 => k_is)
    (case c11 => k_is)
    (case k11 => k_is)
    (case a12 => k_is)
    (case l12 => k_is)
    (case c12 => k_is)
    (case k12 => k_is)
    (case a13 => k_is)
    (case l13 => k_is)
    (case c13 => k_is)
    (case k13 => k_is)
    (case a14 => k_is)
    (case l14 => k_is)
    (case c14 => k_is)
    (case k14 => k_is)
    (case a15 => k_is)
    (case l15 => k_is)
    (case c15 => k_is)
    (case k15 => k_is)
    (case a16 => k_is)
    (case l16 => k_is)
    (case c16 => k_is)
    (case k16 => k_is)
    (case a17 => k_is)
    (case l17 => k_is)
    (case c17 => k_is)
    (case k17 => k_is)
    (case a18 => k_is)
    (case l18 => k_is)
    (case c18 => k_is)
    (case k18 => k_is)
    (case a19 => k_is)
    (case l19 => k_is)
    (case c19 => k_is)
    (case k19 => k_is)
    (case a20 => k_is)
    (case l20 => k_is)
    (case c20 => k_is)
    (case k20 => k_is)
    (case aCStep => k_is)
    (case a21 => k_is)
    (case i21 => k_is)
    (case pgStep => k_is)
    (case hdStep => k_is)
    (case poStep => k_is)
    (case saStep => k_is)
    (case mkStep => k_is)
    (case kcStep => k_is)
    (case noStepkey => k_is)
    (case noStepstate => k_is)
    (case noStepfollowing => k_is)
    (case noStepchoice => k_is)
    (case l21 => k_is)
    (case c21 => k_is)
    (case k21 => k_is)
    (case a22 => k_is)
    (case l22 => k_is)
    (case c22 => k_is)
    (case k22 => k_is)
    (case a23 => k_is)
    (case l23 => k_is)
    (case c23 => k_is)
    (case k23 => k_is)
    (case a24 => k_is)
    (case l24 => k_is)
    (case c24 => k_is)
    (case k24 => k_is)
    (case a25 => k_is)
    (case l25 => k_is)
    (case c25 => k_is)
    (case k25 => k_is)
    (case a26 => k_is)
    (case l26 => k_is)
    (case c26 => k_is)
    (case k26 => k_is)
    (case a27 => k_is)
    (case l27 => k_is)
    (case c27 => k_is)
    (case k27 => k_is)
    (case a28 => k_is)
    (case l28 => k_is)
    (case c28 => k_is)
    (case k28 => k_is)
    (case a29 => k_is)
    (case l29 => k_is)
    (case c29 => k_is)
    (case k29 => k_is)
    (case a30 => k_is)
    (case l30 => k_is)
    (case c30 => k_is)
    (case k30 => k_is)
    (case a31 => k_is)
    (case l31 => k_is)
    (case c31 => k_is)
    (case k31 => k_is)
    (case a32 => k_is)
    (case l32 => k_is)
    (case c32 => k_is)
    (case k32 => k_is)
    (case a33 => k_is)
    (case l33 => k_is)
    (case c33 => k_is)
    (case k33 => k_is)
    (case a34 => k_is)
    (case l34 => k_is)
    (case c34 => k_is)
    (case k34 => k_is)
    (case a35 => k_is)
    (case l35 => k_is)
    (case c35 => k_is)
    (case k35 => k_is)
    (case a36 => k_is)
    (case l36 => k_is)
    (case c36 => k_is)
    (case k36 => k_is)
    (case a37 => k_is)
    (case l37 => k_is)
    (case c37 => k_is)
    (case k37 => k_is)
    (case a38 => k_is)
    (case l38 => k_is)
    (case c38 => k_is)
    (case k38 => k_is)
    (case a39 => k_is)
    (case l39 => k_is)
    (case c39 => k_is)
    (case k39 => k_is)
    (case a40 => k_is)
    (case l40 => k_is)
    (case c40 => k_is)
    (case k40 => k_is)
    (case a41 => k_is)
    (case l41 => k_is)
    (case c41 => k_is)
    (case k41 => k_is)
    (case z_all => k_is)
    (case z_any => k_is)
    (case z_dict => k_is)
    (case z_enumerate => k_is)
    (case z_int => k_is)
    (case z_isinstance => k_is)
    (case z_len => k_is)
    (case z_list => k_is)
    (case z_reversed => k_is)
    (case z_set => k_is)
    (case z_str => k_is)
    (case z_tuple => k_is)
    (case z_type => k_is)
    (case z_zip => k_is)
    (case aL => k_is)
    (case lL => k_is)
    (case kL => first | k_is | exact ⟨⟨_, _, rfl, rfl⟩, ⟨_, _, rfl, rfl⟩, ⟨_, _, rfl, rfl⟩, ⟨_, _, rfl, rfl⟩, ⟨_, _, rfl, rfl⟩, ⟨_, _, rfl, rfl⟩, ⟨_, _, rfl, rfl⟩, ⟨_, _, rfl, rfl⟩, trivial⟩)
    (case yL => first | rfl | decide | k_is)
    (case gL0 => k_is)
    (case gL1 => k_is)
    (case gL2 => k_is)
    (case gL3 => k_is)
    (case gL4 => k_is)
    (case gL5 => k_is)
    (case gL6 => k_is)
    (case gL7 => k_is)
