import PyProof.Rows.All
import Wide.All
import OpenK.AllK
import Wide.FinOn
import KE.KStateDown
import Lean
import HandS.ForMost
import HandS.Exc
import HandS.TryOnly
import HandS.ExcOwn
import HandS.WordsExc
import HandS.ExcInit
import HandS.ExcField
import HandS.CallSlots
import KE.KExcIs
import HandS.ExcIs
import HandS.Conv
import HandS.SortKw
import KE.DataMinMax
import HandS.AnyAll
import HandS.IsInst
import HandS.Style
import HandS.Wide
import HandS.FStr
import HandS.Flow
import HandS.Codes
import HandS.Defaults
import HandS.More
import HandS.Head0
import HandS.Head1
import HandS.Head2
import HandS.HeadEnd
import HandS.HeadHook1
import HandS.HeadHook2
import HandS.HeadHook3
import HandS.HeadHook4
import HandS.EndBits
import HandS.EndTab
import HandS.HeadWalk
import HandS.RevRange
import KE.KDictZip
import HandS.TryMany
import HandS.ExcValue
import HandS.NoneIn
import HandS.Deep
import HandS.DictComp
import PySem.Challenge.RW_joinranks_k04_tables_refused
set_option Elab.async false
set_option linter.all false
set_option maxRecDepth 100000
set_option maxHeartbeats 2000000
namespace Jr
open PySem PySem.Spec PyProof.Rows L2
/-! ### list(text) -/
/-- the signs of a text, each a text -/
def sgn (c : Nat) : Str := ⟨#[c]⟩
def sgs (z : Str) : List Str := z.cps.toList.map sgn
theorem sgs_len (z : Str) : (sgs z).length = z.length := by simp [sgs, Str.length]
section
variable {X : Cx}
def rListStr : List V → Hp → VK → Prop := fun xs H Q => ∃ z : Str, xs = [.str z] ∧ z.length ≤ sizeLine ∧ ∀ l, H l = none → Q (.ref l) (upd H l (.lst ((sgs z).map V.str)))
theorem call_list_str (hc : X.calm = true) : CallR X (.type "list") rListStr := by
  intro pins s σ H xs us Q I r h
  obtain ⟨z, rfl, hz, q⟩ := h
  cases r with
  | cons r rr =>
    cases rr
    obtain ⟨t, rfl⟩ := r
    refine PySem.call_list_str (I.ok.hd hc) z t (fun h' tk acc c' hk e hi => ?_) hz
    refine ⟨.ref s.heap.objs.size, upd H s.heap.objs.size (.lst ((sgs z).map V.str)), I.laid hk (Nat.le_refl _) ⟨by rw [List.length_map, sgs_len]; exact hz, acc.toList, c', ?_, by rw [Array.toArray_toList]; exact e⟩, rfl, q _ (I.hok.fresh (Nat.le_refl _))⟩
    refine vals_of_idx _ _ (by rw [List.length_map, sgs_len, Array.length_toList]; exact hi.1) fun j u hj => ?_
    obtain ⟨c, t', hcx, rfl⟩ := hi.2 j u (by rw [← Array.getElem?_toList]; exact hj)
    refine ⟨.str (sgn c), ?_, ⟨_, rfl⟩⟩
    have e1 : z.cps.toList[j]? = some c := by rw [Array.getElem?_toList]; exact hcx
    simp [sgs, e1]
end
/-! ### enumerate(text) -/
def Ites (x : Str) : It :=
  ⟨fun i _ => i < x.cps.size, fun i H v H' => ∃ T c, v = .ref T ∧ H T = none ∧ x.cps[i]? = some c ∧ H' = upd H T (.tup [.int (i : Nat), .str (sgn c)]), fun i _ => x.cps.size ≤ i⟩
theorem turn_enumS {P : Program} {w : World} {K : PySem.W.Frag} {elts : List Expr} {kk : Nat} {tpos : Pos} (x : Str) (t : Tok) (ty : String) (hty : ty = "str_ascii_iterator" ∨ ty = "str_iterator") (e it : Addr) :
    Turn P w K (.Tuple elts kk tpos) (Ites x) [e, it] e (fun i h => i ≤ x.cps.size ∧ (∃ old, IsEnum h e it ((i : Nat) : Int) old) ∧ h.IsStrIter it ty x t i ∧ e ≠ it) where
  mem := by simp
  obj := fun i h st b hb => by
    obtain ⟨_, ⟨old, he⟩, ⟨o, ho, hc, hd⟩, _⟩ := st
    have e' : b = e ∨ b = it := by simpa using hb
    rcases e' with z | z
    · rw [z]; exact ⟨_, he, fun v q => nomatch q⟩
    · rw [z]; exact ⟨o, ho, fun v q => by rw [hd] at q; cases q⟩
  keep := fun i h h' st k => let ⟨hl, ⟨old, he⟩, ⟨o, ho, r⟩, hne⟩ := st; ⟨hl, ⟨old, k e (by simp) _ he⟩, ⟨o, k it (by simp) o ho, r⟩, hne⟩
  item := by
    intro X hP hw hK hc i pins s σ H E I hf st hg
    subst hP hw hK
    obtain ⟨hl0, ⟨old, he⟩, hit, hne⟩ := st
    have D : Draws X.prog X.w X.A.in1 it [it] x.cps.size (fun i v => ∃ c u, x.cps[i]? = some c ∧ v = .str ⟨#[c]⟩ u) (fun i h => h.IsStrIter it ty x t i) := by
      rcases hty with z | z
      · rw [z]; exact Draws.strAscii (A := X.A.in1) (I.ok.hd hc) it x t
      · rw [z]; exact Draws.strWide (A := X.A.in1) (I.ok.hd hc) it x t
    have hel : e < s.heap.objs.size := Heap.lt_size he
    have hil : it < s.heap.objs.size := by obtain ⟨_, q, _⟩ := hit; exact Heap.lt_size q
    refine wpAny_pyNext_enum_itemD D he hit hg hne (by simpa using hne) fun u h' tk hu ho hit' hT hsz hk => ?_
    obtain ⟨c, tu, hcx, rfl⟩ := hu
    refine ⟨_, rfl, wpAny_letOwnedTupleGo_enum (s := { s with heap := h', toks := tk + 1 }) ho fun h'' he' sb => ?_⟩
    have hT2 : h''.get? s.heap.objs.size = some { cls := .type "tuple", data := .seq #[.int i tk, .str ⟨#[c]⟩ tu] } := (sb.2 _ (Nat.ne_of_gt hel)).trans hT
    have new : ObjOk X.prog X.w (upd H s.heap.objs.size (.tup [.int (i : Nat), .str (sgn c)])) h'' s.heap.objs.size (.tup [.int (i : Nat), .str (sgn c)]) :=
      ⟨by show 2 ≤ sizeLine; decide, [.int i tk, .str ⟨#[c]⟩ tu], .cons ⟨_, rfl⟩ (.cons ⟨_, rfl⟩ .nil), ⟨_, hT2, rfl, _, rfl⟩⟩
    have I1 : Inv X pins σ (upd H s.heap.objs.size (.tup [.int (i : Nat), .str (sgn c)])) { s with heap := h'', toks := tk + 1 } :=
      I.turnedNew (ch := [e, it]) (fun b ob hb q => (sb.2 b (fun z => hb (by simp [z]))).trans (hk b ob (fun z => hb (by simp [z])) (fun z => hb (by simp [z])) q)) hf (Nat.le_refl _) new
    refine ⟨.ref s.heap.objs.size, _, I1, rfl, ⟨_, c, rfl, I.hok.fresh (Nat.le_refl _), hcx, rfl⟩, ⟨hg, ⟨.str ⟨#[c]⟩ tu, ?_⟩, ?_, hne⟩, fun b hb => ?_⟩
    · have e1 : ((i + 1 : Nat) : Int) = (i : Int) + 1 := by omega
      rw [e1]; exact he'
    · obtain ⟨o, q, r⟩ := hit'
      exact ⟨o, (sb.2 it (Ne.symm hne)).trans q, r⟩
    · have hb' : b < s.heap.objs.size := by
        have e' : b = e ∨ b = it := by simpa using hb
        rcases e' with z | z
        · rw [z]; exact hel
        · rw [z]; exact hil
      rw [upd_ne (Nat.ne_of_lt hb')]
      exact (hf b hb).1
  done := by
    intro X hP hw hK hc i pins s σ H E I hf st hg
    subst hP hw hK
    obtain ⟨hl0, ⟨old, he⟩, hit, hne⟩ := st
    have ei : i = x.cps.size := Nat.le_antisymm hl0 hg
    subst ei
    have D : Draws X.prog X.w X.A.in1 it [it] x.cps.size (fun i v => ∃ c u, x.cps[i]? = some c ∧ v = .str ⟨#[c]⟩ u) (fun i h => h.IsStrIter it ty x t i) := by
      rcases hty with z | z
      · rw [z]; exact Draws.strAscii (A := X.A.in1) (I.ok.hd hc) it x t
      · rw [z]; exact Draws.strWide (A := X.A.in1) (I.ok.hd hc) it x t
    obtain ⟨f0, f1, f2, f3, f4, f5⟩ := hf it (by simp)
    exact wpAny_pyNext_enum_endD D he hit fun h' eb => ⟨rfl, I.turned (t' := s.toks) (fun b o hb q => eb b o hb q) f0 f1 f3 f4 f5⟩
  self := fun A i s Q E st h => let ⟨_, ⟨_, he⟩, _⟩ := st; wpAny_pyIter_enum he h
def iEnumS (ta : TA) : TI := fun σ H R => ta σ H fun vs H1 => ∃ x : Str, vs = [.str x] ∧ R (Ites x) H1
theorem pi_enumS {X : Cx} {e : Expr} {ta : TA} {p pos tpos : Pos} {elts : List Expr} {kk : Nat} (hg : Gl X "enumerate") (hm : X.mg "enumerate" = none) (ha : PA X [e] ta) (hs : starEach [e] X.env = [(false, eval e X.env)] := by rfl) :
    PI X (.Tuple elts kk tpos) (.Call (.Name "enumerate" p) [e] [] pos) (iEnumS ta) := by
  refine ⟨fun pins s σ H R I h => ?_⟩
  refine Call_ (ld_blt I hg hm boot_enumerate (PyProof.Rows.callWith_type1 (thn (ha.run pos pins s σ H _ I h) fun us s1 ⟨vs, H1, I1, r1, q1⟩ => ?_) hs rfl))
  obtain ⟨x, ex, q⟩ := q1
  subst ex
  cases r1 with
  | cons r rr =>
    cases rr
    obtain ⟨t, rfl⟩ := r
    refine call_enumerate_str fun h' he hit hsz hk => wpAny_pyIter_enum he ?_
    have I2 : Inv X pins σ H1 { s1 with heap := h' } := I1.kept (t' := s1.toks) hk
    have hty : strIterType x = "str_ascii_iterator" ∨ strIterType x = "str_iterator" := by
      unfold strIterType
      split
      · exact .inl rfl
      · exact .inr rfl
    refine ⟨s1.heap.objs.size + 1, [s1.heap.objs.size + 1, s1.heap.objs.size], _, _, H1, rfl, I2, turn_enumS x t (strIterType x) hty (s1.heap.objs.size + 1) s1.heap.objs.size, ⟨Nat.zero_le _, ⟨.none, he⟩, hit, Nat.succ_ne_self _⟩, fun b hb => ?_, q⟩
    have e' : b = s1.heap.objs.size + 1 ∨ b = s1.heap.objs.size := by simpa using hb
    have hle : s1.heap.objs.size ≤ b := by
      rcases e' with z | z
      · rw [z]; exact Nat.le_add_right _ _
      · rw [z]; exact Nat.le_refl _
    exact I1.fpOk hle (I1.hok.fresh hle)
/-! ### loops in short -/
section
variable {g : TG} {tb : TS} {D : Ends} {σ : L2.St} {H : Hp}
theorem for_enumS {x : Str} (Pv : Nat → L2.St → Hp → Prop) (h0 : Pv 0 σ H)
    (hs : ∀ i c T σ H, x.cps.toList[i]? = some c → H T = none → Pv i σ H → g (.ref T) σ (upd H T (.tup [.int (i : Nat), .str (sgn c)])) fun σ2 H2 => tb { D with nx := Pv (i + 1), ct := Pv (i + 1), bk := D.nx } σ2 H2) (hd : ∀ σ H, Pv x.cps.toList.length σ H → D.nx σ H) :
    ∃ W : Nat → Nat → L2.St → Hp → Prop, (∃ m, W 0 m σ H) ∧ ∀ i m σ H, W i m σ H →
      ((Ites x).stop i H ∧ D.nx σ H) ∨ ((Ites x).go i H ∧ ∃ N : L2.St → Hp → Prop, (∀ σ' H', N σ' H' → ∃ m', m' < m ∧ W (i + 1) m' σ' H') ∧ ∀ y H', (Ites x).yld i H y H' → g y σ H' fun σ2 H2 => tb { D with nx := N, ct := N, bk := D.nx } σ2 H2) := by
  have es : x.cps.toList.length = x.cps.size := by simp
  rw [es] at hd
  refine ⟨fun i m σ H => m = x.cps.size - i ∧ i ≤ x.cps.size ∧ Pv i σ H, ⟨x.cps.size, by simp, Nat.zero_le _, h0⟩, ?_⟩
  rintro i m σ H ⟨rfl, hi, p⟩
  by_cases hlt : i < x.cps.size
  · refine .inr ⟨hlt, Pv (i + 1), fun σ' H' p' => ⟨x.cps.size - (i + 1), by omega, rfl, hlt, p'⟩, fun y H' z => ?_⟩
    obtain ⟨T, c, rfl, hT, hc, rfl⟩ := z
    exact hs i c T σ H (by rw [Array.getElem?_toList]; exact hc) hT p
  · have e : i = x.cps.size := by omega
    subst e
    exact .inl ⟨Nat.le_refl _, hd σ H p⟩
theorem for_str {x : Str} (Pv : Nat → L2.St → Hp → Prop) (h0 : Pv 0 σ H)
    (hs : ∀ i c σ H, x.cps.toList[i]? = some c → Pv i σ H → g (.str (sgn c)) σ H fun σ2 H2 => tb { D with nx := Pv (i + 1), ct := Pv (i + 1), bk := D.nx } σ2 H2) (hd : ∀ σ H, Pv x.cps.toList.length σ H → D.nx σ H) :
    ∃ W : Nat → Nat → L2.St → Hp → Prop, (∃ m, W 0 m σ H) ∧ ∀ i m σ H, W i m σ H →
      ((Its x).stop i H ∧ D.nx σ H) ∨ ((Its x).go i H ∧ ∃ N : L2.St → Hp → Prop, (∀ σ' H', N σ' H' → ∃ m', m' < m ∧ W (i + 1) m' σ' H') ∧ ∀ y H', (Its x).yld i H y H' → g y σ H' fun σ2 H2 => tb { D with nx := N, ct := N, bk := D.nx } σ2 H2) := by
  have es : x.cps.toList.length = x.cps.size := by simp
  rw [es] at hd
  refine ⟨fun i m σ H => m = x.cps.size - i ∧ i ≤ x.cps.size ∧ Pv i σ H, ⟨x.cps.size, by simp, Nat.zero_le _, h0⟩, ?_⟩
  rintro i m σ H ⟨rfl, hi, p⟩
  by_cases hlt : i < x.cps.size
  · refine .inr ⟨hlt, Pv (i + 1), fun σ' H' p' => ⟨x.cps.size - (i + 1), by omega, rfl, hlt, p'⟩, fun y H' z => ?_⟩
    obtain ⟨e, c, hc, rfl⟩ := z
    subst e
    exact hs i c σ _ (by rw [Array.getElem?_toList]; exact hc) p
  · have e : i = x.cps.size := by omega
    subst e
    exact .inl ⟨Nat.le_refl _, hd σ H p⟩
theorem for_enum {K : PySem.W.Frag} {a : Addr} {xs : List V} (Pv : Nat → L2.St → Hp → Prop) (h0 : Pv 0 σ H) (hl : ∀ i σ H, i ≤ xs.length → Pv i σ H → SqL K H a xs)
    (hs : ∀ i x T σ H, xs[i]? = some x → H T = none → Pv i σ H → g (.ref T) σ (upd H T (.tup [.int (i : Nat), x])) fun σ2 H2 => tb { D with nx := Pv (i + 1), ct := Pv (i + 1), bk := D.nx } σ2 H2) (hd : ∀ σ H, Pv xs.length σ H → D.nx σ H) :
    ∃ W : Nat → Nat → L2.St → Hp → Prop, (∃ m, W 0 m σ H) ∧ ∀ i m σ H, W i m σ H →
      ((Ite K a).stop i H ∧ D.nx σ H) ∨ ((Ite K a).go i H ∧ ∃ N : L2.St → Hp → Prop, (∀ σ' H', N σ' H' → ∃ m', m' < m ∧ W (i + 1) m' σ' H') ∧ ∀ y H', (Ite K a).yld i H y H' → g y σ H' fun σ2 H2 => tb { D with nx := N, ct := N, bk := D.nx } σ2 H2) := by
  refine ⟨fun i m σ H => m = xs.length - i ∧ i ≤ xs.length ∧ Pv i σ H, ⟨xs.length, by simp, Nat.zero_le _, h0⟩, ?_⟩
  rintro i m σ H ⟨rfl, hi, p⟩
  have q := hl i σ H hi p
  by_cases hlt : i < xs.length
  · refine .inr ⟨⟨xs, xs[i], q, by simp [hlt]⟩, Pv (i + 1), fun σ' H' p' => ⟨xs.length - (i + 1), by omega, rfl, hlt, p'⟩, fun y H' z => ?_⟩
    obtain ⟨T, x, rfl, hT, rfl, hx⟩ := z
    exact hs i x T σ H (hx xs q) hT p
  · have e : i = xs.length := by omega
    subst e
    exact .inl ⟨⟨xs, q, Nat.le_refl _⟩, hd σ H p⟩
end
/-! ### defs and methods that keep a promise, by name -/
structure Cal (P : Program) (w : World) (K : PySem.W.Frag) (mg : Str → Option Value) (base : Heap) (CX : CXT) (k : Nat) (x : Str) (sp : Sp) : Prop where
  ex : ∃ (f : Addr) (fd : FuncData) (ps : List Str), FnOk P w K mg base CX k f fd ps sp ∧ mg x = some (.ref f) ∧ PySem.W.keepIn K (.ref f) = true ∧ Binds K fd ps []
structure Met (P : Program) (w : World) (K : PySem.W.Frag) (mg : Str → Option Value) (base : Heap) (CX : CXT) (k : Nat) (C : Addr) (m : Str) (sp : Sp) : Prop where
  cl : Cls K C
  ex : ∃ (f : Addr) (fd : FuncData) (ps : List Str), FnOk P w K mg base CX k f fd ps sp ∧ Meth K C m f ∧ Binds K fd ps []
structure Mkc (P : Program) (w : World) (K : PySem.W.Frag) (mg : Str → Option Value) (base : Heap) (CX : CXT) (k : Nat) (x : Str) (C : Addr) (sp : Sp) : Prop where
  ex : ∃ (f : Addr) (fd : FuncData) (ps : List Str), FnOk P w K mg base CX k f fd ps sp ∧ Mk K C f ∧ Binds K fd ps []
  g : mg x = some (.ref C)
section
variable {X : Cx} {k : Nat} {x : Str} {sp : Sp} {e : Expr} {es : List Expr} {t : TA} {p pos apos : Pos} {C : Addr} {m : Str} {o : Expr} {ta : TE}
theorem pe_cal (F : Cal X.prog X.w X.K X.mg X.base CX0 k x sp) (hr : Room k X.A) (hg : Gl X x) (ha : PA X (e :: es) t) (hdb : (x == ("__debug__" : Str)) = false := by decide)
    (he : starEach (e :: es) X.env = (false, eval e X.env) :: starEach es X.env := by rfl) (hpl : (backTo pos (starEach es X.env)).any (·.1) = false := by rfl) :
    PE X (.Call (.Name x p) (e :: es) [] pos) (fun σ H Q => t σ H fun vs H1 => sp vs H1 Q E0) := by
  obtain ⟨f, fd, ps, G, gm, kp, b⟩ := F.ex
  have z := pe_call (p := p) (pos := pos) (es := es) G hr hg gm kp b .nil pass0 ha hdb he hpl
  refine ⟨fun pins s σ H Q I h => z.run pins s σ H Q I ?_⟩
  show t σ H fun vs H1 => sp (vs ++ []) H1 Q E0
  simpa only [List.append_nil] using h
theorem pe_cal0 (F : Cal X.prog X.w X.K X.mg X.base CX0 k x sp) (hr : Room k X.A) (hg : Gl X x) (hdb : (x == ("__debug__" : Str)) = false := by decide) :
    PE X (.Call (.Name x p) [] [] pos) (fun _ H Q => sp [] H Q E0) := by
  obtain ⟨f, fd, ps, G, gm, kp, b⟩ := F.ex
  have z := pe_call0 (p := p) (pos := pos) G hr hg gm kp b .nil pass0 hdb
  exact ⟨fun pins s σ H Q I h => z.run pins s σ H Q I h⟩
theorem pe_met {pl : Sem Bool} (F : Met X.prog X.w X.K X.mg X.base CX0 k C m sp) (ho : PE X o ta) (hr : Room k X.A) (ha : PA X (e :: es) t)
    (hc : eval (.Call (.Attribute o m apos) (e :: es) [] pos) X.env = (do
      let ov ← eval o X.env
      standAt apos.atName
      let (f, first) ← holding [ov] (getMethod ov m pl)
      callWith pos f first (backTo pos (starEach (e :: es) X.env)) (backToKw pos (keywordEach [] X.env))) := by rfl)
    (he : starEach (e :: es) X.env = (false, eval e X.env) :: starEach es X.env := by rfl) (hpl : (backTo pos (starEach es X.env)).any (·.1) = false := by rfl) :
    PE X (.Call (.Attribute o m apos) (e :: es) [] pos) (fun σ H Q => ta σ H fun x H1 => ∃ a dx fs, x = .ref a ∧ H1 a = some (.ins C dx fs) ∧ fs.lookup m = none ∧ t σ H1 fun vs H2 => sp (x :: vs) H2 Q E0) := by
  obtain ⟨f, fd, ps, G, mt, b⟩ := F.ex
  have z := pe_meth (apos := apos) (pos := pos) ho F.cl mt G hr b .nil pass0 ha he hpl hc
  refine ⟨fun pins s σ H Q I h => z.run pins s σ H Q I ?_⟩
  show ta σ H fun x H1 => ∃ a dx fs, x = .ref a ∧ H1 a = some (.ins C dx fs) ∧ fs.lookup m = none ∧ t σ H1 fun vs H2 => sp (x :: (vs ++ [])) H2 Q E0
  simpa only [List.append_nil] using h
theorem pe_met0 {pl : Sem Bool} (F : Met X.prog X.w X.K X.mg X.base CX0 k C m sp) (ho : PE X o ta) (hr : Room k X.A)
    (hc : eval (.Call (.Attribute o m apos) [] [] pos) X.env = (do
      let ov ← eval o X.env
      standAt apos.atName
      let (f, first) ← holding [ov] (getMethod ov m pl)
      callWith pos f first (backTo pos (starEach [] X.env)) (backToKw pos (keywordEach [] X.env))) := by rfl) :
    PE X (.Call (.Attribute o m apos) [] [] pos) (fun σ H Q => ta σ H fun x H1 => ∃ a dx fs, x = .ref a ∧ H1 a = some (.ins C dx fs) ∧ fs.lookup m = none ∧ sp [x] H1 Q E0) := by
  obtain ⟨f, fd, ps, G, mt, b⟩ := F.ex
  have z := pe_meth0 (apos := apos) (pos := pos) ho F.cl mt G hr b .nil pass0 hc
  exact ⟨fun pins s σ H Q I h => z.run pins s σ H Q I h⟩
theorem pe_mk (F : Mkc X.prog X.w X.K X.mg X.base CX0 k x C sp) (hr : Room (k + 1) X.A) (hg : Gl X x) (ha : PA X (e :: es) t) (hdb : (x == ("__debug__" : Str)) = false := by decide)
    (he : starEach (e :: es) X.env = (false, eval e X.env) :: starEach es X.env := by rfl) (hpl : (backTo pos (starEach es X.env)).any (·.1) = false := by rfl) :
    PE X (.Call (.Name x p) (e :: es) [] pos) (fun σ H Q => t σ H fun vs H1 => ∀ x dx, H1 x = none → H1 dx = none → dx ≠ x →
      sp (.ref x :: vs) (upd (upd H1 dx (.own x)) x (.ins C dx [])) (fun v H2 => v = .non ∧ Q (.ref x) H2) E0) := by
  obtain ⟨f, fd, ps, G, mk, b⟩ := F.ex
  have z := pe_make (p := p) (pos := pos) (es := es) mk G hr hg F.g b .nil pass0 ha hdb he hpl
  refine ⟨fun pins s σ H Q I h => z.run pins s σ H Q I ?_⟩
  show t σ H fun vs H1 => ∀ x dx, H1 x = none → H1 dx = none → dx ≠ x → sp (.ref x :: (vs ++ [])) (upd (upd H1 dx (.own x)) x (.ins C dx [])) (fun v H2 => v = .non ∧ Q (.ref x) H2) E0
  simpa only [List.append_nil] using h
end
/-! ### heaps -/
theorem Same.new {H : Hp} {p : Addr} {o : HO} (h : H p = none) : Same H (upd H p o) := fun b x e => by
  rw [upd_ne (ne_of_none e h)]
  exact e
/-- an object that H does not know may change -/
theorem Same.mut {H H' : Hp} {p : Addr} {o : HO} (s : Same H H') (h : H p = none) : Same H (upd H' p o) := fun b x e => by
  rw [upd_ne (ne_of_none e h)]
  exact s b x e
theorem Same.put {H H' : Hp} {p : Addr} {o : HO} (s : Same H H') (h : H' p = none) : Same H (upd H' p o) := s.trans (Same.new h)
theorem sz {n : Nat} (h : n ≤ 100000) : n ≤ sizeLine := Nat.le_trans h (by decide)
theorem szl {n : Nat} (h : n < 100000) : n < sizeLine := Nat.lt_of_lt_of_le h (by decide)
theorem ats {α : Type} {xs : List α} {i : Nat} {x : α} (h : xs[i]? = some x) : atI xs (i : Int) = some x := by
  have hl : i < xs.length := (List.getElem?_eq_some_iff.mp h).1
  unfold atI ixN
  rw [if_pos (by omega), if_pos (by omega)]
  simpa using h
/-- digits below their sizes -/
abbrev Digs : List Int → List Int → Prop := Paired fun z d => 0 ≤ d ∧ d < z
end Jr
namespace Jr
open PySem PySem.Spec PyProof.Rows L2
/-! ### xs + ys, lists that may be locked -/
def rCatL (K : PySem.W.Frag) : R2 := fun x y H Q => ∃ l b xs zs, x = .ref l ∧ y = .ref b ∧ SqL K H l xs ∧ SqL K H b zs ∧ xs.length + zs.length ≤ sizeLine ∧ ∀ p, H p = none → Q (.ref p) (upd H p (.lst (xs ++ zs)))
theorem op_catL {X : Cx} : OpR X (binaryOp .Add) (rCatL X.K) := by
  intro pins s σ H x y v u Q I rx ry h
  obtain ⟨l, b, xs, zs, rfl, rfl, hH, hB, hz, q⟩ := h
  cases rx
  cases ry
  obtain ⟨its, r, ⟨o1, n1, g1, c1, d1, t1⟩, z1⟩ := I.list hH
  obtain ⟨its2, r2, ⟨o2, n2, g2, c2, d2, t2⟩, z2⟩ := I.list hB
  obtain ⟨k1, e1, dt1, sl1⟩ := o1
  obtain ⟨k2, e2, dt2, sl2⟩ := o2
  simp only at c1 d1 t1 c2 d2 t2
  subst c1 d1 t1 c2 d2 t2
  have l1 := r.length
  have l2 := r2.length
  have ea : its.toArray ++ its2.toArray = (its ++ its2).toArray := by simp
  have fin := I.lnew (t' := s.toks) (r.append r2) (by rw [List.length_append]; omega)
  rw [← ea] at fin
  exact concat_meets ⟨_, g1, rfl⟩ ⟨_, g2, rfl⟩ noFill_list_add seq_list_add F.slot_list_add F.entry_list_add (F.args_list_add_2 _ _)
    (list_addW l b its.toArray its2.toArray n1 n2 none none sl1 sl2 (by rw [List.size_toArray, List.size_toArray]; omega)) ⟨g1, g2, ⟨.ref _, _, fin, rfl, q _ I.fresh⟩⟩
end Jr
namespace Jr
open PySem PySem.Spec PyProof.Rows L2
/-! ### rules whose reading names the written part, for comprehensions -/
section
variable {X : Cx} {K : PySem.W.Frag}
theorem call_len_seqK (h : X.K = K := by rfl) : CallR X (.builtin "len") (fun xs H Q => ∃ p ys, xs = [.ref p] ∧ (SqL K H p ys ∨ SqT K H p ys) ∧ Q (.int ys.length) H) := by subst h; exact call_len_seq
theorem ix_listK (h : X.K = K := by rfl) : IxR X (rIxL K) := by subst h; exact ix_list
theorem ix_tupK (h : X.K = K := by rfl) : IxR X (rIxT K) := by subst h; exact ix_tup
theorem sl_listK (h : X.K = K := by rfl) : SlR X (rSlL K) := by subst h; exact sl_list
theorem op_in_seqK (h : X.K = K := by rfl) : OpR X (compareOp .In) (rIn K false) := by subst h; exact op_in_seq
theorem op_notIn_seqK (h : X.K = K := by rfl) : OpR X (compareOp .NotIn) (rIn K true) := by subst h; exact op_notIn_seq
theorem op_eqDK (hu : X.A.units + 64 < cLine) (h : X.K = K := by rfl) : OpR X (compareOp .Eq) (rEqD K) := by subst h; exact op_eqD hu
theorem op_neDK (hu : X.A.units + 64 < cLine) (h : X.K = K := by rfl) : OpR X (compareOp .NotEq) (rNeD K) := by subst h; exact op_neD hu
theorem call_isiK' (h : X.K = K := by rfl) : CallR X (.builtin "isinstance") (rIsi K) := by subst h; exact call_isi
theorem call_list_ofK (h : X.K = K := by rfl) : CallR X (.type "list") (fun xs H Q => ∃ p ys, xs = [.ref p] ∧ (SqL K H p ys ∨ SqT K H p ys) ∧ ∀ l, H l = none → Q (.ref l) (upd H l (.lst ys))) := by subst h; exact call_list_of
end
end Jr
namespace Jr
open PySem PySem.Spec PyProof.Rows L2
/-! ### comprehensions whose element and test change nothing: a filter and a map -/
section
variable {α : Type} {item : α → V} {p : α → Bool} {f : α → V} {g : TG} {tt : TT} {te : TE} {vs : List Nat} {σ : L2.St} {H1 : Hp} {D : Addr} {Qd : Hp → Prop}
/-- one turn of such a comprehension -/
def LcTurn (item : α → V) (p : α → Bool) (f : α → V) (g : TG) (tt : TT) (te : TE) (vs : List Nat) (σ : L2.St) (H1 : Hp) (x : α) : Prop :=
  ∀ (H' : Hp), Same H1 H' → ∀ (N : Hp → Prop) (M : V → Hp → Prop), (p x = true → M (f x) H') → (p x = false → N H') →
    g (item x) (wipe σ vs) H' fun σ2 H2 => wipe σ2 vs = wipe σ vs ∧ tt σ2 H2 fun b H3 => if b = true then te σ2 H3 M else N H3
theorem lc_step {l : List α} {i : Nat} {x : α} {H : Hp} (hD : H1 D = none) (hx : l[i]? = some x) (hlen : l.length ≤ 100000) (turn : LcTurn item p f g tt te vs σ H1 x)
    (sm : Same H1 H) (hL : H D = some (.lst (((l.take i).filter p).map f))) :
    g (item x) (wipe σ vs) H fun σ2 H2 => wipe σ2 vs = wipe σ vs ∧ tt σ2 H2 fun b H3 =>
      if b = true then te σ2 H3 fun y H4 => ∃ acc, H4 D = some (.lst acc) ∧ acc.length < sizeLine ∧ (fun H' => Same H1 H' ∧ H' D = some (.lst (((l.take (i + 1)).filter p).map f))) (upd H4 D (.lst (acc ++ [y])))
      else (fun H' => Same H1 H' ∧ H' D = some (.lst (((l.take (i + 1)).filter p).map f))) H3 := by
  have e : l.take (i + 1) = l.take i ++ [x] := by rw [List.take_add_one, hx]; rfl
  refine turn H sm _ _ (fun hp => ?_) (fun hp => ?_)
  · refine ⟨_, hL, ?_, Same.mut sm hD, ?_⟩
    · have h1 : ((l.take i).filter p).length ≤ (l.take i).length := List.length_filter_le ..
      have h2 : (l.take i).length ≤ i := by rw [List.length_take]; omega
      have h3 : i < l.length := (List.getElem?_eq_some_iff.mp hx).1
      rw [List.length_map]
      exact szl (by omega)
    · rw [upd_same, e, List.filter_append, List.map_append]
      simp [hp]
  · refine ⟨sm, ?_⟩
    rw [hL, e, List.filter_append, List.map_append]
    simp [hp]
theorem lc_listM {K : PySem.W.Frag} {a : Addr} {l : List α} (hS : SqL K H1 a (l.map item)) (hD : H1 D = none) (hlen : l.length ≤ 100000) (turn : ∀ x ∈ l, LcTurn item p f g tt te vs σ H1 x)
    (hd : ∀ H, Same H1 H → H D = some (.lst ((l.filter p).map f)) → Qd H) :
    ∃ W : Nat → Nat → Hp → Prop, (∃ m, W 0 m (upd H1 D (.lst []))) ∧ ∀ i m H, W i m H →
      ((Itl K a).stop i H ∧ Qd H) ∨ ((Itl K a).go i H ∧ ∃ Nx : Hp → Prop, (∀ H', Nx H' → ∃ m', m' < m ∧ W (i + 1) m' H') ∧ ∀ x H', (Itl K a).yld i H x H' → g x (wipe σ vs) H' fun σ2 H2 => wipe σ2 vs = wipe σ vs ∧ tt σ2 H2 fun b H3 =>
        if b = true then te σ2 H3 fun y H4 => ∃ acc, H4 D = some (.lst acc) ∧ acc.length < sizeLine ∧ Nx (upd H4 D (.lst (acc ++ [y]))) else Nx H3) := by
  refine lc_list (K := K) (a := a) (xs := l.map item) (fun i H => Same H1 H ∧ H D = some (.lst (((l.take i).filter p).map f))) ⟨Same.new hD, upd_same⟩ (fun i H _ ⟨s, _⟩ => s.seq hS) ?_ ?_
  · rintro i x H hx ⟨sm, hL⟩
    rw [List.getElem?_map] at hx
    cases e : l[i]? with
    | none => rw [e] at hx; cases hx
    | some y =>
      rw [e] at hx
      cases hx
      exact lc_step hD e hlen (turn y (List.mem_of_getElem? e)) sm hL
  · rintro H ⟨sm, hL⟩
    rw [List.length_map, List.take_length] at hL
    exact hd H sm hL
theorem lc_strM {x : Str} {p : Nat → Bool} {f : Nat → V} (hD : H1 D = none) (hlen : x.cps.toList.length ≤ 100000) (turn : ∀ c ∈ x.cps.toList, LcTurn (fun c => V.str (sgn c)) p f g tt te vs σ H1 c)
    (hd : ∀ H, Same H1 H → H D = some (.lst ((x.cps.toList.filter p).map f)) → Qd H) :
    ∃ W : Nat → Nat → Hp → Prop, (∃ m, W 0 m (upd H1 D (.lst []))) ∧ ∀ i m H, W i m H →
      ((Its x).stop i H ∧ Qd H) ∨ ((Its x).go i H ∧ ∃ Nx : Hp → Prop, (∀ H', Nx H' → ∃ m', m' < m ∧ W (i + 1) m' H') ∧ ∀ y H', (Its x).yld i H y H' → g y (wipe σ vs) H' fun σ2 H2 => wipe σ2 vs = wipe σ vs ∧ tt σ2 H2 fun b H3 =>
        if b = true then te σ2 H3 fun y H4 => ∃ acc, H4 D = some (.lst acc) ∧ acc.length < sizeLine ∧ Nx (upd H4 D (.lst (acc ++ [y]))) else Nx H3) := by
  have es : x.cps.toList.length = x.cps.size := by simp
  refine ⟨fun i m H => m = x.cps.size - i ∧ i ≤ x.cps.size ∧ Same H1 H ∧ H D = some (.lst (((x.cps.toList.take i).filter p).map f)), ⟨x.cps.size, by simp, Nat.zero_le _, Same.new hD, upd_same⟩, ?_⟩
  rintro i m H ⟨rfl, hi, sm, hL⟩
  by_cases hlt : i < x.cps.size
  · refine .inr ⟨hlt, (fun H' => Same H1 H' ∧ H' D = some (.lst (((x.cps.toList.take (i + 1)).filter p).map f))), fun H' p' => ⟨x.cps.size - (i + 1), by omega, rfl, hlt, p'⟩, fun y H' z => ?_⟩
    obtain ⟨e, c, hc, rfl⟩ := z
    subst e
    have hc' : x.cps.toList[i]? = some c := by rw [Array.getElem?_toList]; exact hc
    exact lc_step (item := fun c => V.str (sgn c)) hD hc' hlen (turn c (List.mem_of_getElem? hc')) sm hL
  · have e : i = x.cps.size := by omega
    subst e
    rw [← es, List.take_length] at hL
    exact .inl ⟨Nat.le_refl _, hd H sm hL⟩
theorem lc_rangeM {lo : Int} {n : Nat} {p : Nat → Bool} {f : Nat → V} (hD : H1 D = none) (hlen : n ≤ 100000) (turn : ∀ i, i < n → LcTurn (fun i : Nat => V.int (lo + i)) p f g tt te vs σ H1 i)
    (hd : ∀ H, Same H1 H → H D = some (.lst (((List.range n).filter p).map f)) → Qd H) :
    ∃ W : Nat → Nat → Hp → Prop, (∃ m, W 0 m (upd H1 D (.lst []))) ∧ ∀ i m H, W i m H →
      ((Itr lo n).stop i H ∧ Qd H) ∨ ((Itr lo n).go i H ∧ ∃ Nx : Hp → Prop, (∀ H', Nx H' → ∃ m', m' < m ∧ W (i + 1) m' H') ∧ ∀ y H', (Itr lo n).yld i H y H' → g y (wipe σ vs) H' fun σ2 H2 => wipe σ2 vs = wipe σ vs ∧ tt σ2 H2 fun b H3 =>
        if b = true then te σ2 H3 fun y H4 => ∃ acc, H4 D = some (.lst acc) ∧ acc.length < sizeLine ∧ Nx (upd H4 D (.lst (acc ++ [y]))) else Nx H3) := by
  refine lc_range (lo := lo) (n := n) (fun i H => Same H1 H ∧ H D = some (.lst ((((List.range n).take i).filter p).map f))) ⟨Same.new hD, upd_same⟩ ?_ ?_
  · rintro i H hi ⟨sm, hL⟩
    exact lc_step (l := List.range n) (item := fun i : Nat => V.int (lo + i)) hD (by rw [List.getElem?_range hi]) (by rw [List.length_range]; exact hlen) (turn i hi) sm hL
  · rintro H ⟨sm, hL⟩
    have e : (List.range n).take n = List.range n := by
      have := List.take_length (l := List.range n)
      rw [List.length_range] at this
      exact this
    rw [e] at hL
    exact hd H sm hL
end
/-! ### lists -/
theorem pigeon {α : Type} [DecidableEq α] : ∀ (l m : List α), l.Nodup → (∀ x ∈ l, x ∈ m) → l.length ≤ m.length
  | [], _, _, _ => Nat.zero_le _
  | x :: l, m, nd, h => by
    have hx : x ∈ m := h x List.mem_cons_self
    have nd' := List.nodup_cons.mp nd
    have ih := pigeon l (m.erase x) nd'.2 fun y hy => by
      have hne : y ≠ x := fun e => nd'.1 (e ▸ hy)
      exact (List.mem_erase_of_ne hne).mpr (h y (List.mem_cons_of_mem _ hy))
    have hl := List.length_erase_of_mem hx
    have hp : 0 < m.length := List.length_pos_of_mem hx
    rw [List.length_cons]
    omega
theorem Paired.get {α β : Type} {F : α → β → Prop} : ∀ {l : List α} {m : List β} {i : Nat} {x : α}, Paired F l m → l[i]? = some x → ∃ y, m[i]? = some y ∧ F x y
  | _, _, _, _, .nil, h => by simp at h
  | _, _, 0, _, .cons r _, h => ⟨_, rfl, by have e := Option.some.inj h; subst e; exact r⟩
  | _, _, i + 1, _, .cons _ q, h => Paired.get (i := i) q h
theorem Paired.get2 {α β : Type} {F : α → β → Prop} : ∀ {l : List α} {m : List β} {i : Nat} {y : β}, Paired F l m → m[i]? = some y → ∃ x, l[i]? = some x ∧ F x y
  | _, _, _, _, .nil, h => by simp at h
  | _, _, 0, _, .cons r _, h => ⟨_, rfl, by have e := Option.some.inj h; subst e; exact r⟩
  | _, _, i + 1, _, .cons _ q, h => Paired.get2 (i := i) q h
theorem Paired.mem2 {α β : Type} {F : α → β → Prop} {l : List α} {m : List β} {y : β} (h : Paired F l m) (hy : y ∈ m) : ∃ x ∈ l, F x y := by
  obtain ⟨i, hi, e⟩ := List.mem_iff_getElem.mp hy
  obtain ⟨x, hx, r⟩ := Paired.get2 h (i := i) (by rw [List.getElem?_eq_getElem hi, e])
  exact ⟨x, List.mem_of_getElem? hx, r⟩
theorem Paired.app {α β : Type} {F : α → β → Prop} : ∀ {l : List α} {m : List β} {l' : List α} {m' : List β}, Paired F l m → Paired F l' m' → Paired F (l ++ l') (m ++ m')
  | _, _, _, _, .nil, h => h
  | _, _, _, _, .cons r q, h => .cons r (Paired.app q h)
theorem Paired.tk {α β : Type} {F : α → β → Prop} : ∀ {l : List α} {m : List β} (n : Nat), Paired F l m → Paired F (l.take n) (m.take n)
  | _, _, _, .nil => by simp only [List.take_nil]; exact .nil
  | _, _, 0, .cons _ _ => .nil
  | _, _, n + 1, .cons r q => .cons r (Paired.tk n q)
theorem Paired.dr {α β : Type} {F : α → β → Prop} : ∀ {l : List α} {m : List β} (n : Nat), Paired F l m → Paired F (l.drop n) (m.drop n)
  | _, _, _, .nil => by simp only [List.drop_nil]; exact .nil
  | _, _, 0, .cons r q => .cons r q
  | _, _, n + 1, .cons _ q => Paired.dr n q
theorem Paired.len {α β : Type} {F : α → β → Prop} {l : List α} {m : List β} (h : Paired F l m) : l.length = m.length := Paired.length h
/-! ### texts -/
theorem app_cps (a b : Str) : (a ++ b).cps.toList = a.cps.toList ++ b.cps.toList := by
  show (a.cps ++ b.cps).toList = _
  simp
theorem app_len (a b : Str) : (a ++ b).length = a.length + b.length := by
  show (a.cps ++ b.cps).size = a.cps.size + b.cps.size
  simp
theorem str_ext {a b : Str} (h : a.cps.toList = b.cps.toList) : a = b := by
  cases a; cases b
  simp only at h
  congr
  exact Array.toList_inj.mp h
theorem len_cps (a : Str) : a.cps.toList.length = a.length := by simp [Str.length]
theorem app_assoc (a b c : Str) : a ++ b ++ c = a ++ (b ++ c) := str_ext (by simp only [app_cps, List.append_assoc])
theorem sgn_inj {c d : Nat} (h : sgn c = sgn d) : c = d := by
  have e : (sgn c).cps.toList = (sgn d).cps.toList := by rw [h]
  simpa [sgn] using e
theorem sgn_len (c : Nat) : (sgn c).length = 1 := rfl
theorem cut_from (z : Str) (d : Nat) : (cutS z (some (d : Int)) none).cps.toList = z.cps.toList.drop d := by
  show ((z.cps.toList.drop (HT.sIx z.length 0 (some (d : Int)))).take (HT.sIx z.length z.length none - HT.sIx z.length 0 (some (d : Int)))).toArray.toList = _
  rw [HT.sIx_nat, HT.sIx_none, List.toList_toArray]
  have e : z.cps.toList.length = z.length := len_cps z
  by_cases h : d ≤ z.length
  · rw [Nat.min_eq_left h, List.take_of_length_le (by rw [List.length_drop, e]; exact Nat.le_refl _)]
  · rw [Nat.min_eq_right (by omega), List.drop_of_length_le (by omega), List.drop_of_length_le (by omega)]
    simp
theorem cut_to (z : Str) (d : Nat) : (cutS z none (some (d : Int))).cps.toList = z.cps.toList.take d := by
  show ((z.cps.toList.drop (HT.sIx z.length 0 none)).take (HT.sIx z.length z.length (some (d : Int)) - HT.sIx z.length 0 none)).toArray.toList = _
  rw [HT.sIx_nat, HT.sIx_none, List.toList_toArray, List.drop_zero, Nat.sub_zero]
  have e : z.cps.toList.length = z.length := len_cps z
  by_cases h : d ≤ z.length
  · rw [Nat.min_eq_left h]
  · rw [Nat.min_eq_right (by omega), List.take_of_length_le (by omega), List.take_of_length_le (by omega)]
theorem cutV_from (xs : List V) (d : Nat) : cutV xs (some (d : Int)) none = xs.drop d := by
  show (xs.drop (HT.sIx xs.length 0 (some (d : Int)))).take (HT.sIx xs.length xs.length none - HT.sIx xs.length 0 (some (d : Int))) = _
  rw [HT.sIx_nat, HT.sIx_none]
  by_cases h : d ≤ xs.length
  · rw [Nat.min_eq_left h, List.take_of_length_le (by rw [List.length_drop]; exact Nat.le_refl _)]
  · rw [Nat.min_eq_right (by omega), List.drop_of_length_le (Nat.le_refl _), List.drop_of_length_le (by omega)]
    simp
theorem cutV_to (xs : List V) (d : Nat) : cutV xs none (some (d : Int)) = xs.take d := by
  show (xs.drop (HT.sIx xs.length 0 none)).take (HT.sIx xs.length xs.length (some (d : Int)) - HT.sIx xs.length 0 none) = _
  rw [HT.sIx_nat, HT.sIx_none, List.drop_zero, Nat.sub_zero]
  by_cases h : d ≤ xs.length
  · rw [Nat.min_eq_left h]
  · rw [Nat.min_eq_right (by omega), List.take_of_length_le (Nat.le_refl _), List.take_of_length_le (by omega)]
theorem cutV_mid (xs : List V) (a b : Nat) : cutV xs (some (a : Int)) (some (b : Int)) = (xs.drop a).take (b - a) := by
  show (xs.drop (HT.sIx xs.length 0 (some (a : Int)))).take (HT.sIx xs.length xs.length (some (b : Int)) - HT.sIx xs.length 0 (some (a : Int))) = _
  rw [HT.sIx_nat, HT.sIx_nat]
  by_cases h : a ≤ xs.length
  · rw [Nat.min_eq_left h]
    by_cases h2 : b ≤ xs.length
    · rw [Nat.min_eq_left h2]
    · rw [Nat.min_eq_right (by omega), List.take_of_length_le (by rw [List.length_drop]; exact Nat.le_refl _), List.take_of_length_le (by rw [List.length_drop]; omega)]
  · rw [Nat.min_eq_right (show xs.length ≤ a by omega), List.drop_of_length_le (Nat.le_refl _), List.drop_of_length_le (by omega)]
    simp
/-- an item of a list of a kind, by its place -/
theorem atm {α : Type} {f : α → V} {xs : List α} {i : Nat} {x : α} (h : xs[i]? = some x) : atI (xs.map f) (i : Int) = some (f x) := ats (by rw [List.getElem?_map, h]; rfl)
end Jr
namespace Jr
open PySem PySem.Spec PyProof.Rows L2
/-! ### tables as data -/
/-- what the signs of a table are: unlike, from the blank to ~ but the percent sign -/
structure SignsOk (z : Str) : Prop where
  nd : z.cps.toList.Nodup
  ok : ∀ c ∈ z.cps.toList, 32 ≤ c ∧ c ≤ 126 ∧ c ≠ 37
abbrev Rws := List (Str × Str)
def jn (r : Str × Str) : Str := r.1 ++ r.2
/-- the pieces, by their numbers -/
def pcs (z : Str) (rs : Rws) : List Str := sgs z ++ rs.map jn
/-- each row's parts are pieces ahead of it, its joined text is none of these and has at most 16 signs -/
structure RowOk (z : Str) (rs : Rws) (r : Str × Str) : Prop where
  lm : r.1 ∈ pcs z rs
  rm : r.2 ∈ pcs z rs
  len : (jn r).length ≤ 16
  new : ¬ jn r ∈ pcs z rs
structure TabOk (z : Str) (rs : Rws) : Prop where
  sg : SignsOk z
  n1 : 1 ≤ z.length
  n12 : z.length ≤ 12
  many : rs.length ≤ 24
  rows : ∀ i r, rs[i]? = some r → RowOk z (rs.take i) r
theorem TabOk.nil {z : Str} (s : SignsOk z) (h1 : 1 ≤ z.length) (h2 : z.length ≤ 12) : TabOk z [] := ⟨s, h1, h2, Nat.zero_le _, fun i r h => by simp at h⟩
theorem TabOk.take {z : Str} {rs : Rws} (T : TabOk z rs) (n : Nat) : TabOk z (rs.take n) := by
  refine ⟨T.sg, T.n1, T.n12, Nat.le_trans (by rw [List.length_take]; omega) T.many, fun i r h => ?_⟩
  rw [List.getElem?_take] at h
  split at h
  · rename_i hi
    have := T.rows i r h
    rw [List.take_take, Nat.min_eq_left (by omega)]
    exact this
  · cases h
theorem TabOk.snoc {z : Str} {rs : Rws} {r : Str × Str} (T : TabOk z rs) (h : RowOk z rs r) (hl : rs.length < 24) : TabOk z (rs ++ [r]) := by
  refine ⟨T.sg, T.n1, T.n12, by rw [List.length_append]; simp; omega, fun i q hq => ?_⟩
  by_cases hi : i < rs.length
  · rw [List.getElem?_append_left hi] at hq
    rw [List.take_append_of_le_length (by omega)]
    exact T.rows i q hq
  · rw [List.getElem?_append_right (by omega)] at hq
    have e : i = rs.length := by
      by_cases e : i - rs.length = 0
      · omega
      · rw [List.getElem?_eq_none (by simp; omega)] at hq
        cases hq
    subst e
    rw [Nat.sub_self] at hq
    have e2 : r = q := Option.some.inj hq
    subst e2
    rw [List.take_left']
    · exact h
    · rfl
theorem pcs_len (z : Str) (rs : Rws) : (pcs z rs).length = z.length + rs.length := by
  unfold pcs
  rw [List.length_append, sgs_len, List.length_map]
theorem pcs_snoc (z : Str) (rs : Rws) (r : Str × Str) : pcs z (rs ++ [r]) = pcs z rs ++ [jn r] := by
  unfold pcs
  rw [List.map_append, ← List.append_assoc]
  rfl
theorem sgs_nodup {z : Str} (h : z.cps.toList.Nodup) : (sgs z).Nodup := by
  unfold sgs
  exact List.Pairwise.map _ (fun a b hab e => hab (sgn_inj e)) h
theorem TabOk.nodup {z : Str} {rs : Rws} (T : TabOk z rs) : (pcs z rs).Nodup := by
  have key : ∀ n, n ≤ rs.length → (pcs z (rs.take n)).Nodup := fun n => by
    induction n with
    | zero =>
      intro _
      show (sgs z ++ []).Nodup
      rw [List.append_nil]
      exact sgs_nodup T.sg.nd
    | succ n ih =>
      intro hn
      have hx : rs[n]? = some rs[n] := List.getElem?_eq_getElem (by omega)
      rw [List.take_add_one, hx]
      show (pcs z (rs.take n ++ [rs[n]])).Nodup
      rw [pcs_snoc, List.nodup_append]
      refine ⟨ih (by omega), by simp, fun x hx2 y hy => ?_⟩
      rw [List.mem_singleton] at hy
      rw [hy]
      exact fun e => (T.rows n _ hx).new (e ▸ hx2)
  have := key rs.length (Nat.le_refl _)
  rw [List.take_length] at this
  exact this
theorem TabOk.plen {z : Str} {rs : Rws} (T : TabOk z rs) {p : Str} (h : p ∈ pcs z rs) : 1 ≤ p.length ∧ p.length ≤ 16 := by
  have key : ∀ n, n ≤ rs.length → ∀ p ∈ pcs z (rs.take n), 1 ≤ p.length ∧ p.length ≤ 16 := fun n => by
    induction n with
    | zero =>
      intro _ p hp
      have hp2 : p ∈ sgs z ++ [] := hp
      rw [List.append_nil] at hp2
      obtain ⟨c, _, rfl⟩ := List.mem_map.mp hp2
      exact ⟨Nat.le_refl _, by rw [sgn_len]; omega⟩
    | succ n ih =>
      intro hn p hp
      have hx : rs[n]? = some rs[n] := List.getElem?_eq_getElem (by omega)
      rw [List.take_add_one, hx] at hp
      have hp2 : p ∈ pcs z (rs.take n ++ [rs[n]]) := hp
      rw [pcs_snoc] at hp2
      rcases List.mem_append.mp hp2 with hp3 | hp3
      · exact ih (by omega) p hp3
      · rw [List.mem_singleton] at hp3
        rw [hp3]
        have o := T.rows n _ hx
        have := (ih (by omega) _ o.lm).1
        refine ⟨?_, o.len⟩
        show 1 ≤ (rs[n].1 ++ rs[n].2).length
        rw [app_len]
        omega
  have := key rs.length (Nat.le_refl _) p
  rw [List.take_length] at this
  exact this h
/-! ### a list of rows in the heap -/
def TupAt (H : Hp) (a : Addr) (r : Str × Str) : Prop := H a = some (.tup [.str r.1, .str r.2])
def RowsAt (H : Hp) (l : Addr) (rs : Rws) : Prop := ∃ as : List Addr, H l = some (.lst (as.map V.ref)) ∧ Paired (TupAt H) as rs
theorem TupAt.same {H H' : Hp} (s : Same H H') {as : List Addr} {rs : Rws} (h : Paired (TupAt H) as rs) : Paired (TupAt H') as rs := L2.Paired.mapP h fun _ _ q => s _ _ q
theorem RowsAt.same {H H' : Hp} {l : Addr} {rs : Rws} (h : RowsAt H l rs) (s : Same H H') : RowsAt H' l rs := by
  obtain ⟨as, e, p⟩ := h
  exact ⟨as, s _ _ e, TupAt.same s p⟩
theorem inV_str (x : Str) (ps : List Str) : inV (.str x) (ps.map V.str) = decide (x ∈ ps) := by
  unfold inV
  rw [List.any_map]
  have e : ((fun y => eqV y (V.str x)) ∘ V.str) = fun y : Str => y == x := by
    funext y
    show eqV (V.str y) (V.str x) = (y == x)
    rfl
  rw [e]
  by_cases h : x ∈ ps
  · rw [decide_eq_true h]
    exact List.any_eq_true.mpr ⟨x, h, by simp⟩
  · rw [decide_eq_false h]
    rw [List.any_eq_false]
    intro y hy
    simp only [beq_iff_eq]
    exact fun e => h (e ▸ hy)
theorem flat_str (ps : List Str) : (ps.map V.str).all flatV = true := by
  rw [List.all_map]
  exact List.all_eq_true.mpr fun _ _ => rfl
end Jr
namespace Jr
open PySem PySem.Spec PyProof.Rows L2
/-! ### what a table holds -/
def numD : Nat → List Str → List (Key × V)
  | _, [] => []
  | i, p :: ps => (Sum.inr p, V.int (i : Nat)) :: numD (i + 1) ps
def rankD : Nat → Rws → List (List Key × V)
  | _, [] => []
  | i, r :: rs => ([Sum.inr r.1, Sum.inr r.2], V.int (i : Nat)) :: rankD (i + 1) rs
theorem numD_len : ∀ (i : Nat) (ps : List Str), (numD i ps).length = ps.length
  | _, [] => rfl
  | i, p :: ps => by show (numD (i + 1) ps).length + 1 = _; rw [numD_len (i + 1) ps]; rfl
theorem rankD_len : ∀ (i : Nat) (rs : Rws), (rankD i rs).length = rs.length
  | _, [] => rfl
  | i, r :: rs => by show (rankD (i + 1) rs).length + 1 = _; rw [rankD_len (i + 1) rs]; rfl
theorem numD_snoc : ∀ (i : Nat) (ps : List Str) (p : Str), numD i (ps ++ [p]) = numD i ps ++ [(Sum.inr p, V.int ((i + ps.length : Nat)))]
  | i, [], p => rfl
  | i, q :: ps, p => by
    show _ :: numD (i + 1) (ps ++ [p]) = _ :: (numD (i + 1) ps ++ _)
    rw [numD_snoc (i + 1) ps p, List.length_cons, show i + 1 + ps.length = i + (ps.length + 1) by omega]
theorem rankD_snoc : ∀ (i : Nat) (rs : Rws) (r : Str × Str), rankD i (rs ++ [r]) = rankD i rs ++ [([Sum.inr r.1, Sum.inr r.2], V.int ((i + rs.length : Nat)))]
  | i, [], r => rfl
  | i, q :: rs, r => by
    show _ :: rankD (i + 1) (rs ++ [r]) = _ :: (rankD (i + 1) rs ++ _)
    rw [rankD_snoc (i + 1) rs r, List.length_cons, show i + 1 + rs.length = i + (rs.length + 1) by omega]
theorem numD_none : ∀ (i : Nat) (ps : List Str) (p : Str), ¬ p ∈ ps → valV (numD i ps) (Sum.inr p) = none
  | _, [], _, _ => rfl
  | i, q :: ps, p, h => by
    have hq : ¬ (Sum.inr q : Key) = Sum.inr p := fun e => h (by rw [Sum.inr.inj e]; exact List.mem_cons_self)
    exact (valV_neg (p := (Sum.inr q, V.int (i : Nat))) hq).trans (numD_none (i + 1) ps p fun z => h (List.mem_cons_of_mem _ z))
theorem numD_at : ∀ (i : Nat) (ps : List Str) (p : Str) (j : Nat), ps.Nodup → ps[j]? = some p → valV (numD i ps) (Sum.inr p) = some (V.int ((i + j : Nat)))
  | _, [], _, _, _, h => by simp at h
  | i, q :: ps, p, 0, _, h => by
    have e : q = p := Option.some.inj h
    rw [e]
    exact valV_pos (p := ((Sum.inr p : Key), V.int (i : Nat))) rfl
  | i, q :: ps, p, j + 1, nd, h => by
    have nd' := List.nodup_cons.mp nd
    have hm : p ∈ ps := List.mem_of_getElem? (show ps[j]? = some p from h)
    have hq : ¬ (Sum.inr q : Key) = Sum.inr p := fun e => nd'.1 (by rw [Sum.inr.inj e]; exact hm)
    refine (valV_neg (p := (Sum.inr q, V.int (i : Nat))) hq).trans ?_
    rw [numD_at (i + 1) ps p j nd'.2 h, show i + 1 + j = i + (j + 1) by omega]
theorem rankD_none : ∀ (i : Nat) (rs : Rws) (l r : Str), ¬ (l, r) ∈ rs → valV (rankD i rs) [Sum.inr l, Sum.inr r] = none
  | _, [], _, _, _ => rfl
  | i, q :: rs, l, r, h => by
    have hq : ¬ ([Sum.inr q.1, Sum.inr q.2] : List Key) = [Sum.inr l, Sum.inr r] := fun e => h (by
      have e1 := (List.cons.inj e).1
      have e2 := (List.cons.inj (List.cons.inj e).2).1
      have e3 : q = (l, r) := Prod.ext (Sum.inr.inj e1) (Sum.inr.inj e2)
      rw [e3]; exact List.mem_cons_self)
    exact (valV_neg (p := (([Sum.inr q.1, Sum.inr q.2] : List Key), V.int (i : Nat))) hq).trans (rankD_none (i + 1) rs l r fun z => h (List.mem_cons_of_mem _ z))
theorem rankD_at : ∀ (i : Nat) (rs : Rws) (r : Str × Str) (j : Nat), rs.Nodup → rs[j]? = some r → valV (rankD i rs) [Sum.inr r.1, Sum.inr r.2] = some (V.int ((i + j : Nat)))
  | _, [], _, _, _, h => by simp at h
  | i, q :: rs, r, 0, _, h => by
    have e : q = r := Option.some.inj h
    rw [e]
    exact valV_pos (p := (([Sum.inr r.1, Sum.inr r.2] : List Key), V.int (i : Nat))) rfl
  | i, q :: rs, r, j + 1, nd, h => by
    have nd' := List.nodup_cons.mp nd
    have hm : r ∈ rs := List.mem_of_getElem? (show rs[j]? = some r from h)
    have hq : ¬ ([Sum.inr q.1, Sum.inr q.2] : List Key) = [Sum.inr r.1, Sum.inr r.2] := fun e => nd'.1 (by
      have e1 := (List.cons.inj e).1
      have e2 := (List.cons.inj (List.cons.inj e).2).1
      have e3 : q = r := Prod.ext (Sum.inr.inj e1) (Sum.inr.inj e2)
      rw [e3]; exact hm)
    refine (valV_neg (p := (([Sum.inr q.1, Sum.inr q.2] : List Key), V.int (i : Nat))) hq).trans ?_
    rw [rankD_at (i + 1) rs r j nd'.2 h, show i + 1 + j = i + (j + 1) by omega]
theorem TabOk.rnodup {z : Str} {rs : Rws} (T : TabOk z rs) : rs.Nodup := by
  have h := (List.nodup_append.mp T.nodup).2.1
  have key : ∀ l : Rws, (l.map jn).Nodup → l.Nodup := fun l => by
    induction l with
    | nil => intro _; exact List.nodup_nil
    | cons x l ih =>
      intro hn
      have h2 := List.nodup_cons.mp hn
      exact List.nodup_cons.mpr ⟨fun hx => h2.1 (List.mem_map.mpr ⟨x, hx, rfl⟩), ih h2.2⟩
  exact key rs h
def tf5 (z : Str) (lr lp dn dr : Addr) : List (Str × V) := [("sign_text", .str z), ("row_list", .ref lr), ("piece_list", .ref lp), ("number_by_piece", .ref dn), ("rank_by_row", .ref dr)]
def tf6 (z : Str) (lr lp dn dr : Addr) (m : Int) : List (Str × V) := [("sign_text", .str z), ("row_list", .ref lr), ("piece_list", .ref lp), ("number_by_piece", .ref dn), ("rank_by_row", .ref dr), ("most_signs", .int m)]
/-- a made table -/
structure TabAt (C : Addr) (H : Hp) (x : Addr) (z : Str) (rs : Rws) : Prop where
  ex : ∃ (dx lr lp dn dr : Addr) (m : Nat), H x = some (.ins C dx (tf6 z lr lp dn dr (m : Int))) ∧ RowsAt H lr rs ∧ H lp = some (.lst ((pcs z rs).map V.str)) ∧ H dn = some (.dK (numD 0 (pcs z rs))) ∧ H dr = some (.dT (rankD 0 rs)) ∧
    (∃ p ∈ pcs z rs, p.length = m) ∧ ∀ p ∈ pcs z rs, p.length ≤ m
  ok : TabOk z rs
theorem TabAt.same {C : Addr} {H H' : Hp} {x : Addr} {z : Str} {rs : Rws} (T : TabAt C H x z rs) (s : Same H H') : TabAt C H' x z rs := by
  obtain ⟨dx, lr, lp, dn, dr, m, h1, h2, h3, h4, h5, h6⟩ := T.ex
  exact ⟨⟨dx, lr, lp, dn, dr, m, s _ _ h1, h2.same s, s _ _ h3, s _ _ h4, s _ _ h5, h6⟩, T.ok⟩
section
variable (z : Str) (lr lp dn dr : Addr) (m : Int)
theorem l5_num : (tf5 z lr lp dn dr).lookup ("number_by_piece" : Str) = some (V.ref dn) := by kernel_rfl
theorem l5_pl : (tf5 z lr lp dn dr).lookup ("piece_list" : Str) = some (V.ref lp) := by kernel_rfl
theorem l5_rl : (tf5 z lr lp dn dr).lookup ("row_list" : Str) = some (V.ref lr) := by kernel_rfl
theorem l5_rk : (tf5 z lr lp dn dr).lookup ("rank_by_row" : Str) = some (V.ref dr) := by kernel_rfl
theorem l5_which : (tf5 z lr lp dn dr).lookup ("which" : Str) = none := by kernel_rfl
theorem l5_tp : (tf5 z lr lp dn dr).lookup ("take_piece" : Str) = none := by kernel_rfl
theorem l5_tr : (tf5 z lr lp dn dr).lookup ("take_row" : Str) = none := by kernel_rfl
theorem l5_mt : (tf5 z lr lp dn dr).lookup ("may_take_row" : Str) = none := by kernel_rfl
theorem l5_most : putF "most_signs" (.int m) (tf5 z lr lp dn dr) = tf6 z lr lp dn dr m := by kernel_rfl
theorem l5_put : putF "rank_by_row" (.ref dr) (putF "number_by_piece" (.ref dn) (putF "piece_list" (.ref lp) (putF "row_list" (.ref lr) (putF "sign_text" (.str z) [])))) = tf5 z lr lp dn dr := by kernel_rfl
theorem l6_st : (tf6 z lr lp dn dr m).lookup ("sign_text" : Str) = some (V.str z) := by kernel_rfl
theorem l6_num : (tf6 z lr lp dn dr m).lookup ("number_by_piece" : Str) = some (V.ref dn) := by kernel_rfl
theorem l6_pl : (tf6 z lr lp dn dr m).lookup ("piece_list" : Str) = some (V.ref lp) := by kernel_rfl
theorem l6_rl : (tf6 z lr lp dn dr m).lookup ("row_list" : Str) = some (V.ref lr) := by kernel_rfl
theorem l6_rk : (tf6 z lr lp dn dr m).lookup ("rank_by_row" : Str) = some (V.ref dr) := by kernel_rfl
theorem l6_ms : (tf6 z lr lp dn dr m).lookup ("most_signs" : Str) = some (V.int m) := by kernel_rfl
theorem l6_mw : (tf6 z lr lp dn dr m).lookup ("which" : Str) = none := by kernel_rfl
theorem l6_ms_ : (tf6 z lr lp dn dr m).lookup ("signs" : Str) = none := by kernel_rfl
theorem l6_mr : (tf6 z lr lp dn dr m).lookup ("rows" : Str) = none := by kernel_rfl
theorem l6_mp : (tf6 z lr lp dn dr m).lookup ("pieces" : Str) = none := by kernel_rfl
theorem l6_mp1 : (tf6 z lr lp dn dr m).lookup ("piece" : Str) = none := by kernel_rfl
theorem l6_mpa : (tf6 z lr lp dn dr m).lookup ("parts" : Str) = none := by kernel_rfl
theorem l6_mrk : (tf6 z lr lp dn dr m).lookup ("rank" : Str) = none := by kernel_rfl
theorem l6_ml : (tf6 z lr lp dn dr m).lookup ("longest" : Str) = none := by kernel_rfl
end
/-- no text -/
def NoStr (K : PySem.W.Frag) (H : Hp) (v : V) : Prop := ∃ t, TyX K H v t ∧ PySem.W.kitOne K t (.type "str") = some false
theorem isStr {K : PySem.W.Frag} : PySem.W.kitOne K (.type "str") (.type "str") = some true := kit_ty (by decide +kernel)
theorem isLst {K : PySem.W.Frag} : PySem.W.kitOne K (.type "list") (.type "list") = some true := kit_ty (by decide +kernel)
theorem isTup {K : PySem.W.Frag} : PySem.W.kitOne K (.type "tuple") (.type "tuple") = some true := kit_ty (by decide +kernel)
end Jr
namespace Jr
open PySem PySem.Spec PyProof.Rows L2
/-! ### == of lists of texts, of ints, of rows -/
def dS (xs : List Str) : PyData := .list (xs.map PyData.str)
def dI (xs : List Int) : PyData := .list (xs.map PyData.int)
def dR (rs : Rws) : PyData := .list (rs.map fun r => PyData.tuple [.str r.1, .str r.2])
/-- a text of plain signs -/
def Asc (x : Str) : Prop := ∀ c ∈ x.cps.toList, c ≤ 126
theorem asc_ok {x : Str} (h : Asc x) : PyData.strOk x = true := by
  unfold PyData.strOk
  rw [← Array.all_toList, List.all_eq_true]
  intro c hc
  have := h c hc
  simp
  omega
theorem asc_app {a b : Str} (ha : Asc a) (hb : Asc b) : Asc (a ++ b) := fun c hc => by
  rw [app_cps] at hc
  rcases List.mem_append.mp hc with h | h
  · exact ha c h
  · exact hb c h
theorem asc_sgn {c : Nat} (h : c ≤ 126) : Asc (sgn c) := fun d hd => by
  have e : d = c := by simpa [sgn] using hd
  omega
theorem TabOk.asc {z : Str} {rs : Rws} (T : TabOk z rs) {p : Str} (h : p ∈ pcs z rs) : Asc p := by
  have key : ∀ n, n ≤ rs.length → ∀ p ∈ pcs z (rs.take n), Asc p := fun n => by
    induction n with
    | zero =>
      intro _ p hp
      have hp2 : p ∈ sgs z ++ [] := hp
      rw [List.append_nil] at hp2
      obtain ⟨c, hc, rfl⟩ := List.mem_map.mp hp2
      exact asc_sgn (T.sg.ok c hc).2.1
    | succ n ih =>
      intro hn p hp
      have hx : rs[n]? = some rs[n] := List.getElem?_eq_getElem (by omega)
      rw [List.take_add_one, hx] at hp
      have hp2 : p ∈ pcs z (rs.take n ++ [rs[n]]) := hp
      rw [pcs_snoc] at hp2
      rcases List.mem_append.mp hp2 with hp3 | hp3
      · exact ih (by omega) p hp3
      · rw [List.mem_singleton] at hp3
        rw [hp3]
        have o := T.rows n _ hx
        exact asc_app (ih (by omega) _ o.lm) (ih (by omega) _ o.rm)
  have := key rs.length (Nat.le_refl _) p
  rw [List.take_length] at this
  exact this h
theorem lay_strs : ∀ xs : List Str, (∀ x ∈ xs, Asc x) → PyData.canLayAll0 (xs.map PyData.str) = true
  | [], _ => by simp [PyData.canLayAll0]
  | x :: xs, h => by
    have h1 := asc_ok (h x List.mem_cons_self)
    have h2 := lay_strs xs fun y hy => h y (List.mem_cons_of_mem _ hy)
    simp [PyData.canLayAll0, PyData.canLay0, h1, h2]
theorem dep_strs : ∀ xs : List Str, PyData.depthAll (xs.map PyData.str) = 0
  | [] => by simp [PyData.depthAll]
  | x :: xs => by simp [PyData.depthAll, PyData.depth, dep_strs xs]
theorem shS {xs : List Str} (h : ∀ x ∈ xs, Asc x) : SeqAt.shaped (dS xs) = true := by
  unfold SeqAt.shaped dS
  have h1 : PyData.canLay0 (.list (xs.map PyData.str)) = true := by simp [PyData.canLay0, lay_strs xs h]
  have h2 : PyData.depth (.list (xs.map PyData.str)) = 1 := by simp [PyData.depth, dep_strs]
  rw [h1, h2]; rfl
theorem eqvA_strs : ∀ xs ys : List Str, PyData.eqvAll (xs.map PyData.str) (ys.map PyData.str) = decide (xs = ys)
  | [], [] => by simp [PyData.eqvAll]
  | [], y :: ys => by simp [PyData.eqvAll]
  | x :: xs, [] => by simp [PyData.eqvAll]
  | x :: xs, y :: ys => by
    have ih := eqvA_strs xs ys
    simp only [List.map_cons, PyData.eqvAll, PyData.eqv, ih]
    by_cases h : x = y
    · subst h; simp
    · simp [h]
theorem eqS (xs ys : List Str) : PyData.eqv (dS xs) (dS ys) = decide (xs = ys) := by
  unfold dS
  rw [PyData.eqv]
  exact eqvA_strs xs ys
theorem dpA_strs {K : PySem.W.Frag} {H : Hp} : ∀ xs : List Str, DpAll K H (xs.map V.str) (xs.map PyData.str)
  | [] => .nil
  | x :: xs => .cons (.str x) (dpA_strs xs)
theorem dpS {K : PySem.W.Frag} {H : Hp} {a : Addr} {xs : List Str} (h : SqL K H a (xs.map V.str)) : Dp K H (.ref a) (dS xs) := .lst h (dpA_strs xs)
theorem lay_ints : ∀ xs : List Int, PyData.canLayAll0 (xs.map PyData.int) = true
  | [] => by simp [PyData.canLayAll0]
  | x :: xs => by simp [PyData.canLayAll0, PyData.canLay0, lay_ints xs]
theorem dep_ints : ∀ xs : List Int, PyData.depthAll (xs.map PyData.int) = 0
  | [] => by simp [PyData.depthAll]
  | x :: xs => by simp [PyData.depthAll, PyData.depth, dep_ints xs]
theorem shI (xs : List Int) : SeqAt.shaped (dI xs) = true := by
  unfold SeqAt.shaped dI
  have h1 : PyData.canLay0 (.list (xs.map PyData.int)) = true := by simp [PyData.canLay0, lay_ints xs]
  have h2 : PyData.depth (.list (xs.map PyData.int)) = 1 := by simp [PyData.depth, dep_ints]
  rw [h1, h2]; rfl
theorem eqvA_ints : ∀ xs ys : List Int, PyData.eqvAll (xs.map PyData.int) (ys.map PyData.int) = decide (xs = ys)
  | [], [] => by simp [PyData.eqvAll]
  | [], y :: ys => by simp [PyData.eqvAll]
  | x :: xs, [] => by simp [PyData.eqvAll]
  | x :: xs, y :: ys => by
    have ih := eqvA_ints xs ys
    simp only [List.map_cons, PyData.eqvAll, PyData.eqv, ih]
    by_cases h : x = y
    · subst h; simp
    · simp [h]
theorem eqI (xs ys : List Int) : PyData.eqv (dI xs) (dI ys) = decide (xs = ys) := by
  unfold dI
  rw [PyData.eqv]
  exact eqvA_ints xs ys
theorem dpA_ints {K : PySem.W.Frag} {H : Hp} : ∀ xs : List Int, DpAll K H (xs.map V.int) (xs.map PyData.int)
  | [] => .nil
  | x :: xs => .cons (.int x) (dpA_ints xs)
theorem dpI {K : PySem.W.Frag} {H : Hp} {a : Addr} {xs : List Int} (h : SqL K H a (xs.map V.int)) : Dp K H (.ref a) (dI xs) := .lst h (dpA_ints xs)
theorem lay_rows : ∀ rs : Rws, (∀ r ∈ rs, Asc r.1 ∧ Asc r.2) → PyData.canLayAll0 (rs.map fun r => PyData.tuple [.str r.1, .str r.2]) = true
  | [], _ => by simp [PyData.canLayAll0]
  | r :: rs, h => by
    obtain ⟨h1, h2⟩ := h r List.mem_cons_self
    have h3 := lay_rows rs fun y hy => h y (List.mem_cons_of_mem _ hy)
    simp [PyData.canLayAll0, PyData.canLay0, asc_ok h1, asc_ok h2, h3]
theorem dep_rows : ∀ rs : Rws, PyData.depthAll (rs.map fun r => PyData.tuple [.str r.1, .str r.2]) ≤ 1
  | [] => by simp [PyData.depthAll]
  | r :: rs => by
    have := dep_rows rs
    simp only [List.map_cons, PyData.depthAll, PyData.depth]
    omega
theorem shR {rs : Rws} (h : ∀ r ∈ rs, Asc r.1 ∧ Asc r.2) : SeqAt.shaped (dR rs) = true := by
  unfold SeqAt.shaped dR
  have h1 : PyData.canLay0 (.list (rs.map fun r => PyData.tuple [.str r.1, .str r.2])) = true := by simp [PyData.canLay0, lay_rows rs h]
  have h2 : PyData.depth (.list (rs.map fun r => PyData.tuple [.str r.1, .str r.2])) ≤ 2 := by
    have := dep_rows rs
    simp only [PyData.depth]
    omega
  rw [h1, decide_eq_true (Nat.le_trans h2 (by decide))]; rfl
theorem eqvA_rows : ∀ xs ys : Rws, PyData.eqvAll (xs.map fun r => PyData.tuple [.str r.1, .str r.2]) (ys.map fun r => PyData.tuple [.str r.1, .str r.2]) = decide (xs = ys)
  | [], [] => by simp [PyData.eqvAll]
  | [], y :: ys => by simp [PyData.eqvAll]
  | x :: xs, [] => by simp [PyData.eqvAll]
  | x :: xs, y :: ys => by
    have ih := eqvA_rows xs ys
    simp only [List.map_cons, PyData.eqvAll, PyData.eqv, ih]
    obtain ⟨a, b⟩ := x
    obtain ⟨c, d⟩ := y
    by_cases h : a = c
    · subst h
      by_cases h2 : b = d
      · subst h2; simp
      · simp [h2]
    · simp [h]
theorem eqR (xs ys : Rws) : PyData.eqv (dR xs) (dR ys) = decide (xs = ys) := by
  unfold dR
  rw [PyData.eqv]
  exact eqvA_rows xs ys
theorem dpA_rows {K : PySem.W.Frag} {H : Hp} : ∀ {as : List Addr} {rs : Rws}, Paired (TupAt H) as rs → DpAll K H (as.map V.ref) (rs.map fun r => PyData.tuple [.str r.1, .str r.2])
  | _, _, .nil => .nil
  | _, _, .cons h q => .cons (.tup (SqT.of h) (.cons (.str _) (.cons (.str _) .nil))) (dpA_rows q)
theorem dpR {K : PySem.W.Frag} {H : Hp} {a : Addr} {rs : Rws} (h : RowsAt H a rs) : Dp K H (.ref a) (dR rs) := by
  obtain ⟨as, e, p⟩ := h
  exact .lst (SqL.of e) (dpA_rows p)
/-! ### the pass of a rank -/
def pass1 (l r : Str) : List Str → List Str
  | a :: b :: t => if a = l ∧ b = r then (l ++ r) :: pass1 l r t else a :: pass1 l r (b :: t)
  | t => t
/-- the places of the borders that fall; n signs stand ahead -/
def plc (l r : Str) : Nat → List Str → List Nat
  | n, a :: b :: t => if a = l ∧ b = r then (n + a.length) :: plc l r (n + a.length + b.length) t else plc l r (n + a.length) (b :: t)
  | _, _ => []
def passAll (rs : Rws) (xs : List Str) : List Str := rs.foldl (fun ys r => pass1 r.1 r.2 ys) xs
def sweep (rs : Rws) (t : Str) : List Str := passAll rs (sgs t)
theorem pass1_one (l r a : Str) : pass1 l r [a] = [a] := by unfold pass1; rfl
theorem pass1_nil (l r : Str) : pass1 l r [] = [] := by unfold pass1; rfl
theorem pass1_yes (l r : Str) (t : List Str) : pass1 l r (l :: r :: t) = (l ++ r) :: pass1 l r t := by
  rw [pass1]; exact if_pos ⟨rfl, rfl⟩
theorem pass1_no {l r a b : Str} (t : List Str) (h : ¬ (a = l ∧ b = r)) : pass1 l r (a :: b :: t) = a :: pass1 l r (b :: t) := by
  rw [pass1]; exact if_neg h
theorem pass1_mem (l r : Str) : ∀ (xs : List Str) (p : Str), p ∈ pass1 l r xs → p ∈ xs ∨ p = l ++ r
  | [], p, h => by rw [pass1_nil] at h; cases h
  | [a], p, h => by rw [pass1_one] at h; exact .inl h
  | a :: b :: t, p, h => by
    by_cases c : a = l ∧ b = r
    · obtain ⟨rfl, rfl⟩ := c
      rw [pass1_yes] at h
      rcases List.mem_cons.mp h with e | e
      · exact .inr e
      · rcases pass1_mem a b t p e with q | q
        · exact .inl (List.mem_cons_of_mem _ (List.mem_cons_of_mem _ q))
        · exact .inr q
    · rw [pass1_no t c] at h
      rcases List.mem_cons.mp h with e | e
      · exact .inl (e ▸ List.mem_cons_self)
      · rcases pass1_mem l r (b :: t) p e with q | q
        · exact .inl (List.mem_cons_of_mem _ q)
        · exact .inr q
termination_by xs => xs.length
theorem pass1_len (l r : Str) : ∀ xs : List Str, (pass1 l r xs).length ≤ xs.length
  | [] => by rw [pass1_nil]; exact Nat.le_refl _
  | [a] => by rw [pass1_one]; exact Nat.le_refl _
  | a :: b :: t => by
    by_cases c : a = l ∧ b = r
    · obtain ⟨rfl, rfl⟩ := c
      rw [pass1_yes]
      have := pass1_len a b t
      simp only [List.length_cons]
      omega
    · rw [pass1_no t c]
      have := pass1_len l r (b :: t)
      simp only [List.length_cons] at this ⊢
      omega
termination_by xs => xs.length
theorem plc_len (l r : Str) : ∀ (n : Nat) (xs : List Str), (plc l r n xs).length ≤ xs.length
  | n, [] => by unfold plc; exact Nat.zero_le _
  | n, [a] => by unfold plc; exact Nat.zero_le _
  | n, a :: b :: t => by
    rw [plc]
    by_cases c : a = l ∧ b = r
    · rw [if_pos c]
      have := plc_len l r (n + a.length + b.length) t
      simp only [List.length_cons]
      omega
    · rw [if_neg c]
      have := plc_len l r (n + a.length) (b :: t)
      simp only [List.length_cons] at this ⊢
      omega
termination_by _ xs => xs.length
end Jr
namespace Jr
open PySem PySem.Spec PyProof.Rows L2
/-! ### texts joined; passes keep the text -/
def flat (xs : List Str) : List Nat := xs.flatMap fun x => x.cps.toList
theorem joinL_nil : ∀ xs : List (List Nat), TL.joinL [] xs = xs.flatten
  | [] => rfl
  | [a] => by show a = _; simp
  | a :: b :: r => by
    show a ++ ([] ++ TL.joinL [] (b :: r)) = _
    rw [joinL_nil (b :: r)]
    simp
theorem join_cps (xs : List Str) : (Txt.join (Str.ofString "") xs).cps.toList = flat xs := by
  have e := TL.tl_join (Str.ofString "") xs
  rw [TL.join_eq]
  have e2 : TL.tl (Str.ofString "") = [] := by decide +kernel
  rw [e2, joinL_nil] at e
  refine Eq.trans e ?_
  unfold flat
  rw [List.flatMap_def]
theorem flat_sgs (t : Str) : flat (sgs t) = t.cps.toList := by
  unfold flat sgs
  rw [List.flatMap_map]
  have : ∀ l : List Nat, l.flatMap (fun c => (sgn c).cps.toList) = l := fun l => by
    induction l with
    | nil => rfl
    | cons c l ih => rw [List.flatMap_cons, ih]; rfl
  exact this _
theorem flat_cons (x : Str) (xs : List Str) : flat (x :: xs) = x.cps.toList ++ flat xs := List.flatMap_cons
theorem flat_app (xs ys : List Str) : flat (xs ++ ys) = flat xs ++ flat ys := List.flatMap_append
theorem pass1_flat (l r : Str) : ∀ xs : List Str, flat (pass1 l r xs) = flat xs
  | [] => by rw [pass1_nil]
  | [a] => by rw [pass1_one]
  | a :: b :: t => by
    by_cases c : a = l ∧ b = r
    · obtain ⟨rfl, rfl⟩ := c
      rw [pass1_yes, flat_cons, flat_cons, flat_cons, pass1_flat a b t, app_cps, List.append_assoc]
    · rw [pass1_no t c, flat_cons, flat_cons, pass1_flat l r (b :: t)]
termination_by xs => xs.length
theorem passAll_flat : ∀ (rs : Rws) (xs : List Str), flat (passAll rs xs) = flat xs
  | [], _ => rfl
  | r :: rs, xs => by
    show flat (passAll rs (pass1 r.1 r.2 xs)) = _
    rw [passAll_flat rs, pass1_flat]
theorem sweep_flat (rs : Rws) (t : Str) : flat (sweep rs t) = t.cps.toList := by
  unfold sweep
  rw [passAll_flat, flat_sgs]
theorem passAll_take {rs : Rws} {i : Nat} {r : Str × Str} (xs : List Str) (h : rs[i]? = some r) : passAll (rs.take (i + 1)) xs = pass1 r.1 r.2 (passAll (rs.take i) xs) := by
  unfold passAll
  rw [List.take_add_one, h]
  simp [List.foldl_append]
theorem passAll_len : ∀ (rs : Rws) (xs : List Str), (passAll rs xs).length ≤ xs.length
  | [], _ => Nat.le_refl _
  | r :: rs, xs => Nat.le_trans (passAll_len rs (pass1 r.1 r.2 xs)) (pass1_len ..)
theorem passAll_mem : ∀ (rs : Rws) (xs : List Str) (p : Str), p ∈ passAll rs xs → p ∈ xs ∨ ∃ r ∈ rs, p = jn r
  | [], _, _, h => .inl h
  | r :: rs, xs, p, h => by
    rcases passAll_mem rs (pass1 r.1 r.2 xs) p h with q | ⟨s, hs, e⟩
    · rcases pass1_mem r.1 r.2 xs p q with z | z
      · exact .inl z
      · exact .inr ⟨r, List.mem_cons_self, z⟩
    · exact .inr ⟨s, List.mem_cons_of_mem _ hs, e⟩
/-! ### the law's own pass: from the left, the last piece looked at -/
def stp (l r : Str) (f : List Str) (p : Str) : List Str := if p = r ∧ f.getLast? = some l then f.dropLast ++ [l ++ r] else f ++ [p]
theorem stp_cons {l r a : Str} {f : List Str} (p : Str) (h : f ≠ []) : stp l r (a :: f) p = a :: stp l r f p := by
  unfold stp
  have e : (a :: f).getLast? = f.getLast? := by
    cases f with
    | nil => exact absurd rfl h
    | cons b t => exact List.getLast?_cons_cons
  have e2 : (a :: f).dropLast = a :: f.dropLast := List.dropLast_cons_of_ne_nil h
  rw [e, e2]
  by_cases c : p = r ∧ f.getLast? = some l
  · rw [if_pos c, if_pos c]; rfl
  · rw [if_neg c, if_neg c]; rfl
theorem pass1_ne (l r : Str) : ∀ xs : List Str, xs ≠ [] → pass1 l r xs ≠ []
  | [], h => absurd rfl h
  | [a], _ => by rw [pass1_one]; simp
  | a :: b :: t, _ => by
    by_cases c : a = l ∧ b = r
    · obtain ⟨rfl, rfl⟩ := c
      rw [pass1_yes]; simp
    · rw [pass1_no t c]; simp
theorem app_ne {l r : Str} (h : 1 ≤ r.length) : ¬ l ++ r = l := fun e => by
  have := congrArg Str.length e
  rw [app_len] at this
  omega
theorem pass1_snoc {l r : Str} (hr : 1 ≤ r.length) : ∀ (xs : List Str) (p : Str), pass1 l r (xs ++ [p]) = stp l r (pass1 l r xs) p
  | [], p => by
    rw [pass1_nil, List.nil_append, pass1_one]
    unfold stp
    rw [if_neg (by simp)]
    rfl
  | [a], p => by
    rw [pass1_one]
    show pass1 l r [a, p] = _
    unfold stp
    by_cases c : a = l ∧ p = r
    · obtain ⟨rfl, rfl⟩ := c
      rw [pass1_yes, pass1_nil, if_pos ⟨rfl, rfl⟩]; rfl
    · rw [pass1_no [] c, pass1_one, if_neg (fun z => c ⟨Option.some.inj z.2, z.1⟩)]; rfl
  | a :: b :: t, p => by
    by_cases c : a = l ∧ b = r
    · obtain ⟨rfl, rfl⟩ := c
      show pass1 a b (a :: b :: (t ++ [p])) = _
      rw [pass1_yes, pass1_yes, pass1_snoc hr t p]
      by_cases e : t = []
      · subst e
        rw [pass1_nil]
        unfold stp
        rw [if_neg (by simp), if_neg (fun z => app_ne hr (Option.some.inj z.2))]; rfl
      · rw [stp_cons p (pass1_ne a b t e)]
    · show pass1 l r (a :: b :: (t ++ [p])) = _
      rw [pass1_no _ c, pass1_no _ c]
      have ih := pass1_snoc (l := l) hr (b :: t) p
      have ih2 : pass1 l r (b :: (t ++ [p])) = stp l r (pass1 l r (b :: t)) p := ih
      rw [ih2, stp_cons p (pass1_ne l r (b :: t) (by simp))]
termination_by xs => xs.length
theorem pass1_take {l r : Str} (hr : 1 ≤ r.length) {xs : List Str} {i : Nat} {p : Str} (h : xs[i]? = some p) : pass1 l r (xs.take (i + 1)) = stp l r (pass1 l r (xs.take i)) p := by
  rw [List.take_add_one, h]
  exact pass1_snoc hr _ _
end Jr
namespace Jr
open PySem PySem.Spec PyProof.Rows L2
/-- a text of the table's signs -/
def TextOf (z t : Str) : Prop := ∀ c ∈ t.cps.toList, c ∈ z.cps.toList
theorem sweep_in {z : Str} {rs : Rws} {t : Str} (tx : TextOf z t) {n : Nat} {p : Str} (h : p ∈ passAll (rs.take n) (sgs t)) : p ∈ pcs z rs := by
  rcases passAll_mem _ _ p h with q | ⟨r, hr, rfl⟩
  · obtain ⟨c, hc, rfl⟩ := List.mem_map.mp q
    exact List.mem_append_left _ (List.mem_map.mpr ⟨c, tx c hc, rfl⟩)
  · exact List.mem_append_right _ (List.mem_map.mpr ⟨r, List.mem_of_mem_take hr, rfl⟩)
theorem sweep_pc {z : Str} {rs : Rws} {t : Str} (tx : TextOf z t) {p : Str} (h : p ∈ sweep rs t) : p ∈ pcs z rs := by
  have h2 : p ∈ passAll (rs.take rs.length) (sgs t) := by rw [List.take_length]; exact h
  exact sweep_in tx h2
theorem at_last {α : Type} {xs : List α} {x : α} (h : xs.getLast? = some x) : atI xs (-1) = some x := by
  have hl : 0 < xs.length := by
    cases xs with
    | nil => cases h
    | cons a t => simp
  unfold atI ixN
  rw [if_neg (by omega), if_pos (by omega)]
  have e : ((-1 : Int) + (xs.length : Int)).toNat = xs.length - 1 := by omega
  rw [e]
  rw [List.getLast?_eq_getElem?] at h
  exact h
theorem ix_last {n : Nat} (h : 0 < n) : ixN n (-1) = some (n - 1) := by
  unfold ixN
  rw [if_neg (by omega), if_pos (by omega)]
  have e : ((-1 : Int) + (n : Int)).toNat = n - 1 := by omega
  rw [e]
theorem set_last {α : Type} (y : α) : ∀ xs : List α, xs ≠ [] → xs.set (xs.length - 1) y = xs.dropLast ++ [y]
  | [], h => absurd rfl h
  | [a], _ => rfl
  | a :: b :: t, _ => by
    have ih := set_last y (b :: t) (by simp)
    show a :: (b :: t).set ((b :: t).length - 1) y = a :: ((b :: t).dropLast ++ [y])
    rw [ih]
theorem rep_one {α : Type} (n : Nat) (x : α) : (List.replicate n [x]).flatten = List.replicate n x := by simp
theorem map_rep {α β : Type} (f : α → β) (n : Nat) (x : α) : (List.replicate n x).map f = List.replicate n (f x) := by simp
theorem text_app {z a b : Str} (ha : TextOf z a) (hb : TextOf z b) : TextOf z (a ++ b) := fun c hc => by
  rw [app_cps] at hc
  rcases List.mem_append.mp hc with h | h
  · exact ha c h
  · exact hb c h
theorem text_nil (z : Str) : TextOf z (Str.ofString "") := fun c hc => by
  have e : (Str.ofString "").cps.toList = [] := by decide +kernel
  rw [e] at hc; cases hc
theorem text_to {z t : Str} (h : TextOf z t) (n : Nat) : TextOf z (cutS t none (some (n : Int))) := fun c hc => by
  rw [cut_to] at hc; exact h c (List.mem_of_mem_take hc)
theorem text_from {z t : Str} (h : TextOf z t) (n : Nat) : TextOf z (cutS t (some (n : Int)) none) := fun c hc => by
  rw [cut_from] at hc; exact h c (List.mem_of_mem_drop hc)
theorem RowsAt.copy {H : Hp} {p q : Addr} {rs : Rws} {as : List Addr} (h : Paired (TupAt H) as rs) (hq : H q = none) : RowsAt (upd H q (.lst (as.map V.ref))) q rs := ⟨as, upd_same, TupAt.same (Same.new hq) h⟩
/-- texts that a sweeping tells are the text -/
theorem join_sweep (rs : Rws) (t : Str) : Txt.join (Str.ofString "") (sweep rs t) = t := str_ext (by rw [join_cps, sweep_flat])
theorem flat_len : ∀ xs : List Str, (xs.map (·.length)).sum = (flat xs).length
  | [] => rfl
  | x :: xs => by rw [List.map_cons, List.sum_cons, flat_cons, List.length_append, flat_len xs, len_cps]
theorem zip_fst {α β γ : Type} {F : α → β → Prop} (f : α → γ) : ∀ {l : List α} {m : List β}, Paired F l m → (l.zip m).map (fun x => f x.1) = l.map f
  | _, _, .nil => rfl
  | _, _, .cons _ q => by rw [List.zip_cons_cons, List.map_cons, List.map_cons, zip_fst f q]
theorem zip_snd {α β γ : Type} {F : α → β → Prop} (f : β → γ) : ∀ {l : List α} {m : List β}, Paired F l m → (l.zip m).map (fun x => f x.2) = m.map f
  | _, _, .nil => rfl
  | _, _, .cons _ q => by rw [List.zip_cons_cons, List.map_cons, List.map_cons, zip_snd f q]
theorem zip_mem {α β : Type} {F : α → β → Prop} : ∀ {l : List α} {m : List β}, Paired F l m → ∀ x ∈ l.zip m, F x.1 x.2 ∧ x.2 ∈ m
  | _, _, .nil, x, h => by cases h
  | _, _, .cons r q, x, h => by
    rw [List.zip_cons_cons] at h
    rcases List.mem_cons.mp h with e | e
    · rw [e]; exact ⟨r, List.mem_cons_self⟩
    · obtain ⟨a, b⟩ := zip_mem q x e
      exact ⟨a, List.mem_cons_of_mem _ b⟩
theorem TabOk.rlen {z : Str} {rs : Rws} (T : TabOk z rs) : ∀ r ∈ rs, r.1.length + r.2.length ≤ 1000 := fun r hr => by
  obtain ⟨i, hi, e⟩ := List.mem_iff_getElem.mp hr
  have o := T.rows i r (by rw [List.getElem?_eq_getElem hi, e])
  have := o.len
  have q : (jn r).length = r.1.length + r.2.length := app_len _ _
  omega
def spLaw (K : PySem.W.Frag) : Sp := fun vs H Q _ => ∃ (a : Addr) (ns : List Int), vs = [.ref a] ∧ SqL K H a (ns.map V.int) ∧ ns.length ≤ 63 ∧ ∀ H', Q (.bl true) H'
theorem mod_at {α : Type} (f : α → V) (xs : List α) (h : 0 < xs.length) (d : Int) : ∃ x ∈ xs, atI (xs.map f) (d % ((xs.map f).length : Nat)) = some (f x) := by
  have h0 := Int.emod_nonneg d (show (((xs.map f).length : Nat) : Int) ≠ 0 by rw [List.length_map]; omega)
  have h1 := Int.emod_lt_of_pos d (show (0 : Int) < ((xs.map f).length : Nat) by rw [List.length_map]; omega)
  obtain ⟨m, hm⟩ := Int.eq_ofNat_of_zero_le h0
  rw [hm]
  rw [hm, List.length_map] at h1
  have hm2 : m < xs.length := by omega
  exact ⟨xs[m], List.getElem_mem hm2, atm (List.getElem?_eq_getElem hm2)⟩
end Jr
namespace Jr
open PySem PySem.Spec PyProof.Rows L2
/-! ### new objects, told by Same: nothing of the heap but what is known stays in a question -/
section
variable {X : Cx}
theorem pe_mono {e : Expr} {t t' : TE} (h : PE X e t) (m : ∀ σ H Q, t' σ H Q → t σ H Q) : PE X e t' := ⟨fun pins s σ H Q I q => h.run pins s σ H Q I (m σ H Q q)⟩
theorem ps_mono {e : Stmt} {t t' : TS} (h : PS X e t) (m : ∀ D σ H, t' D σ H → t D σ H) : PS X e t' := ⟨fun pins s σ H D I q => h.run pins s σ H D I (m D σ H q)⟩
theorem op_mono {f : Value → Value → Sem Value} {r r' : R2} (h : OpR X f r) (m : ∀ x y H Q, r' x y H Q → r x y H Q) : OpR X f r' := fun pins s σ H x y v u Q I rx ry q => h pins s σ H x y v u Q I rx ry (m x y H Q q)
theorem call_mono {f : Value} {r r' : List V → Hp → VK → Prop} (h : CallR X f r) (m : ∀ x H Q, r' x H Q → r x H Q) : CallR X f r' := fun pins s σ H x v Q I rx q => h pins s σ H x v Q I rx (m x H Q q)
theorem sl_mono {r r' : V → Option Int → Option Int → Hp → VK → Prop} (h : SlR X r) (m : ∀ x lo hi H Q, r' x lo hi H Q → r x lo hi H Q) : SlR X r' :=
  fun pins s σ H x v vl vu lo hi sl Q I rx hs pl pu q => h pins s σ H x v vl vu lo hi sl Q I rx hs pl pu (m x lo hi H Q q)
/-- a new object -/
def New (H : Hp) (o : HO) (Q : VK) : Prop := ∀ p H', H p = none → Same H H' → H' p = some o → Q (.ref p) H'
theorem New.of {H : Hp} {o : HO} {Q : VK} (h : New H o Q) : ∀ p, H p = none → Q (.ref p) (upd H p o) := fun p hp => h p _ hp (Same.new hp) upd_same
/-- arguments, what follows weakened -/
def clA (t : TA) : TA := fun σ H Q => ∃ Q', (∀ vs H, Q' vs H → Q vs H) ∧ t σ H Q'
def clE (t : TE) : TE := fun σ H Q => ∃ Q', (∀ v H, Q' v H → Q v H) ∧ t σ H Q'
theorem pa_cl {es : List Expr} {t : TA} (h : PA X es t) : PA X es (clA t) := ⟨fun pos pins s σ H Q I ⟨Q', m, q⟩ => thn (h.run pos pins s σ H Q' I q) fun _ _ ⟨vs, H', I', r, z⟩ => ⟨vs, H', I', r, m _ _ z⟩⟩
theorem pe_cl {e : Expr} {t : TE} (h : PE X e t) : PE X e (clE t) := ⟨fun pins s σ H Q I ⟨Q', m, q⟩ => thn (h.run pins s σ H Q' I q) fun _ _ ⟨v, H', I', r, z⟩ => ⟨v, H', I', r, m _ _ z⟩⟩
/-- a test, its answer told ahead -/
def clT (t : TT) : TT := fun σ H Q => ∃ Q' : Bool → Hp → Prop, t σ H Q' ∧ ∀ b H, Q' b H → Q b H
theorem pt_cl {e : Expr} {t : TT} (h : PT X e t) : PT X e (clT t) := ⟨fun pins s σ H Q I ⟨Q', q, m⟩ => thn (h.run pins s σ H Q' I q) fun _ _ ⟨H', I', z⟩ => ⟨H', I', m _ _ z⟩⟩
def tLstG (t : TA) : TE := fun σ H Q => t σ H fun xs H1 => xs.length ≤ sizeLine ∧ New H1 (.lst xs) Q
def tTupG (t : TA) : TE := fun σ H Q => t σ H fun xs H1 => xs.length ≤ sizeLine ∧ New H1 (.tup xs) Q
theorem pe_lstG {es : List Expr} {t : TA} {pos : Pos} (h : PA X es t) : PE X (.List es pos) (tLstG t) := pe_mono (pe_lst (pa_cl h)) fun _ _ _ q => ⟨_, fun _ _ ⟨z, n⟩ => ⟨z, n.of⟩, q⟩
theorem pe_tupG {es : List Expr} {t : TA} {pos : Pos} {x1} (h : PA X es t) : PE X (.Tuple es x1 pos) (tTupG t) := pe_mono (pe_tup (pa_cl h)) fun _ _ _ q => ⟨_, fun _ _ ⟨z, n⟩ => ⟨z, n.of⟩, q⟩
def rCatG (K : PySem.W.Frag) : R2 := fun x y H Q => ∃ l b xs zs, x = .ref l ∧ y = .ref b ∧ SqL K H l xs ∧ SqL K H b zs ∧ xs.length + zs.length ≤ sizeLine ∧ New H (.lst (xs ++ zs)) Q
theorem op_catG : OpR X (binaryOp .Add) (rCatG X.K) := op_mono op_catL fun _ _ _ _ ⟨l, b, xs, zs, e1, e2, h1, h2, z, n⟩ => ⟨l, b, xs, zs, e1, e2, h1, h2, z, n.of⟩
theorem sl_listG : SlR X (fun x lo hi H Q => ∃ a xs, x = .ref a ∧ SqL X.K H a xs ∧ New H (.lst (cutV xs lo hi)) Q) := sl_mono sl_list fun _ _ _ _ _ ⟨a, xs, e, h, n⟩ => ⟨a, xs, e, h, n.of⟩
theorem call_listG : CallR X (.type "list") (fun xs H Q => ∃ p ys, xs = [.ref p] ∧ (SqL X.K H p ys ∨ SqT X.K H p ys) ∧ New H (.lst ys) Q) := call_mono call_list_of fun _ _ _ ⟨p, ys, e, h, n⟩ => ⟨p, ys, e, h, n.of⟩
theorem call_listSG (hc : X.calm = true) : CallR X (.type "list") (fun xs H Q => ∃ z : Str, xs = [.str z] ∧ z.length ≤ sizeLine ∧ New H (.lst ((sgs z).map V.str)) Q) := call_mono (call_list_str hc) fun _ _ _ ⟨z, e, h, n⟩ => ⟨z, e, h, n.of⟩
theorem op_catGK {K : PySem.W.Frag} (h : X.K = K := by rfl) : OpR X (binaryOp .Add) (rCatG K) := by subst h; exact op_catG
theorem sl_listGK {K : PySem.W.Frag} (h : X.K = K := by rfl) : SlR X (fun x lo hi H Q => ∃ a xs, x = .ref a ∧ SqL K H a xs ∧ New H (.lst (cutV xs lo hi)) Q) := by subst h; exact sl_listG
theorem call_listGK {K : PySem.W.Frag} (h : X.K = K := by rfl) : CallR X (.type "list") (fun xs H Q => ∃ p ys, xs = [.ref p] ∧ (SqL K H p ys ∨ SqT K H p ys) ∧ New H (.lst ys) Q) := by subst h; exact call_listG
theorem op_repG : OpR X (binaryOp .Mult) (fun x y H Q => ∃ l k xs, x = .ref l ∧ y = .int k ∧ H l = some (.lst xs) ∧ -(2 ^ 63) ≤ k ∧ k < 2 ^ 63 ∧ xs.length * k.toNat ≤ sizeLine ∧ New H (.lst (List.replicate k.toNat xs).flatten) Q) :=
  op_mono op_rep fun _ _ _ _ ⟨l, k, xs, e1, e2, h, a, b, c, n⟩ => ⟨l, k, xs, e1, e2, h, a, b, c, n.of⟩
/-! ### a written list of ints -/
def tInts (ns : List Int) : TE := fun _ H Q => New H (.lst (ns.map V.int)) Q
theorem pe_litI {e : Expr} {t : TA} {ns : List Int} (h : PE X e (tLst t)) (ht : ∀ σ H Q, t σ H Q = Q (ns.map V.int) H) (hl : ns.length ≤ 1000) : PE X e (tInts ns) := pe_mono h fun σ H Q n => by
  show t σ H _
  rw [ht]
  exact ⟨by rw [List.length_map]; exact sz (by omega), n.of⟩
theorem pe_catI {a b : Expr} {ms ns : List Int} {pos : Pos} (ha : PE X a (tInts ms)) (hb : PE X b (tInts ns)) (hl : ms.length + ns.length ≤ 1000) : PE X (.BinOp a .Add b pos) (tInts (ms ++ ns)) :=
  pe_mono (pe_op op_catG ha hb) fun _ _ _ n p H1 np s1 h1 q H2 nq s2 h2 =>
    ⟨p, q, _, _, rfl, rfl, SqL.of (s2 _ _ h1), SqL.of h2, by rw [List.length_map, List.length_map]; exact sz (by omega), fun r H3 nr s3 h3 =>
      n r H3 (s1.free (s2.free nr)) ((s1.trans s2).trans s3) (by rw [h3, List.map_append])⟩
theorem pe_repI {a b : Expr} {ms : List Int} {k : Nat} {pos : Pos} (ha : PE X a (tInts ms)) (hb : PE X b (tC (.int (k : Int)))) (hl : ms.length * k ≤ 1000) (hk : k ≤ 1000) : PE X (.BinOp a .Mult b pos) (tInts (List.replicate k ms).flatten) :=
  pe_mono (pe_op op_rep ha hb) fun _ _ _ n p H1 np s1 h1 => by
    refine ⟨p, _, _, rfl, rfl, h1, ?_, ?_, ?_, fun q nq => n q _ (s1.free nq) (s1.trans (Same.new nq)) ?_⟩
    · omega
    · omega
    · rw [List.length_map, Int.toNat_natCast]; exact sz (by omega)
    · rw [upd_same, Int.toNat_natCast]
      congr 2
      rw [List.map_flatten, List.map_replicate]
theorem pe_intsAs {e : Expr} {ms ns : List Int} (h : PE X e (tInts ms)) (q : ms = ns) : PE X e (tInts ns) := q ▸ h
end
end Jr
namespace Jr
open PySem PySem.Spec PyProof.Rows L2
/-! ### calls of defs, methods, classes that may raise -/
section
variable {X : Cx} {k : Nat} {x : Str} {sp : Sp} {e : Expr} {es : List Expr} {t : TA} {p pos apos : Pos} {C : Addr} {m : Str} {o : Expr} {ta : TE} {W : WX}
theorem pe_calX (F : Cal X.prog X.w X.K X.mg X.base (L2.CX X.prog X.w) k x sp) (hr : Room k X.A) (hg : Gl X x) (tk : Takes X W) (ha : PA X (e :: es) t) (hdb : (x == ("__debug__" : Str)) = false := by decide)
    (he : starEach (e :: es) X.env = (false, eval e X.env) :: starEach es X.env := by rfl) (hpl : (backTo pos (starEach es X.env)).any (·.1) = false := by rfl) :
    PE X (.Call (.Name x p) (e :: es) [] pos) (fun σ H Q => t σ H fun vs H1 => sp vs H1 Q (WE W σ)) := by
  obtain ⟨f, fd, ps, G, gm, kp, b⟩ := F.ex
  exact pe_callS G hr hg gm kp b (fun σ => passAt tk σ) ha hdb he hpl
theorem pe_calL (F : Cal X.prog X.w X.K X.mg X.base (L2.CX X.prog X.w) k x sp) (hr : Room k X.A) (hg : Gl X x) (ha : PA X (e :: es) t) (hdb : (x == ("__debug__" : Str)) = false := by decide)
    (he : starEach (e :: es) X.env = (false, eval e X.env) :: starEach es X.env := by rfl) (hpl : (backTo pos (starEach es X.env)).any (·.1) = false := by rfl) :
    PE X (.Call (.Name x p) (e :: es) [] pos) (fun σ H Q => t σ H fun vs H1 => sp vs H1 Q E0) := by
  obtain ⟨f, fd, ps, G, gm, kp, b⟩ := F.ex
  have z := pe_call (p := p) (pos := pos) (es := es) G hr hg gm kp b .nil passL ha hdb he hpl
  refine ⟨fun pins s σ H Q I h => z.run pins s σ H Q I ?_⟩
  show t σ H fun vs H1 => sp (vs ++ []) H1 Q E0
  simpa only [List.append_nil] using h
theorem pe_metL {pl : Sem Bool} (F : Met X.prog X.w X.K X.mg X.base (L2.CX X.prog X.w) k C m sp) (ho : PE X o ta) (hr : Room k X.A) (ha : PA X (e :: es) t)
    (hc : eval (.Call (.Attribute o m apos) (e :: es) [] pos) X.env = (do
      let ov ← eval o X.env
      standAt apos.atName
      let (f, first) ← holding [ov] (getMethod ov m pl)
      callWith pos f first (backTo pos (starEach (e :: es) X.env)) (backToKw pos (keywordEach [] X.env))) := by rfl)
    (he : starEach (e :: es) X.env = (false, eval e X.env) :: starEach es X.env := by rfl) (hpl : (backTo pos (starEach es X.env)).any (·.1) = false := by rfl) :
    PE X (.Call (.Attribute o m apos) (e :: es) [] pos) (fun σ H Q => ta σ H fun x H1 => ∃ a dx fs, x = .ref a ∧ H1 a = some (.ins C dx fs) ∧ fs.lookup m = none ∧ t σ H1 fun vs H2 => sp (x :: vs) H2 Q E0) := by
  obtain ⟨f, fd, ps, G, mt, b⟩ := F.ex
  have z := pe_meth (apos := apos) (pos := pos) ho F.cl mt G hr b .nil passL ha he hpl hc
  refine ⟨fun pins s σ H Q I h => z.run pins s σ H Q I ?_⟩
  show ta σ H fun x H1 => ∃ a dx fs, x = .ref a ∧ H1 a = some (.ins C dx fs) ∧ fs.lookup m = none ∧ t σ H1 fun vs H2 => sp (x :: (vs ++ [])) H2 Q E0
  simpa only [List.append_nil] using h
theorem pe_metX {pl : Sem Bool} (F : Met X.prog X.w X.K X.mg X.base (L2.CX X.prog X.w) k C m sp) (ho : PE X o ta) (hr : Room k X.A) (tk : Takes X W) (ha : PA X (e :: es) t)
    (hc : eval (.Call (.Attribute o m apos) (e :: es) [] pos) X.env = (do
      let ov ← eval o X.env
      standAt apos.atName
      let (f, first) ← holding [ov] (getMethod ov m pl)
      callWith pos f first (backTo pos (starEach (e :: es) X.env)) (backToKw pos (keywordEach [] X.env))) := by rfl)
    (he : starEach (e :: es) X.env = (false, eval e X.env) :: starEach es X.env := by rfl) (hpl : (backTo pos (starEach es X.env)).any (·.1) = false := by rfl) :
    PE X (.Call (.Attribute o m apos) (e :: es) [] pos) (fun σ H Q => ta σ H fun x H1 => ∃ a dx fs, x = .ref a ∧ H1 a = some (.ins C dx fs) ∧ fs.lookup m = none ∧ t σ H1 fun vs H2 => sp (x :: vs) H2 Q (WE W σ)) := by
  obtain ⟨f, fd, ps, G, mt, b⟩ := F.ex
  constructor
  intro pins s σ H Q I h
  refine PySem.W.methodCall_KW (pl := pl) (thn (ho.run pins s σ H _ I h) ?_) hc
  rintro u s1 ⟨v, H1, I1, rv, a, dx, fs, ev, ea, hl, q⟩
  subst ev
  obtain rfl : u = Value.ref a := rv
  refine getmeth_ok I1 ea F.cl mt hl (PySem.W.callWith_K (first := [.ref a]) (h₀ := X.base) I1.ok.mod.kin mt.kp (thn (ha.run pos pins s1 σ H1 _ I1 q) ?_) he hpl)
  rintro us s2 ⟨vs, H2, I2, r, q2⟩
  exact ⟨I2.kIn, run_fnS (us := .ref a :: us) (vs := .ref a :: vs) (E := WE W) G hr b (passAt tk σ) I2 (.cons rfl r) q2⟩
/-- C(..) of an own class whose __init__ may raise -/
theorem pe_mkX (F : Mkc X.prog X.w X.K X.mg X.base (L2.CX X.prog X.w) k x C sp) (hr : Room (k + 1) X.A) (hg : Gl X x) (tk : Takes X W) (ha : PA X (e :: es) t) (hdb : (x == ("__debug__" : Str)) = false := by decide)
    (he : starEach (e :: es) X.env = (false, eval e X.env) :: starEach es X.env := by rfl) (hpl : (backTo pos (starEach es X.env)).any (·.1) = false := by rfl) :
    PE X (.Call (.Name x p) (e :: es) [] pos) (fun σ H Q => t σ H fun vs H1 => ∀ x dx, H1 x = none → H1 dx = none → dx ≠ x →
      sp (.ref x :: vs) (upd (upd H1 dx (.own x)) x (.ins C dx [])) (fun v H2 => v = .non ∧ Q (.ref x) H2) (WE W σ)) := by
  obtain ⟨f, fd, ps, G, mk, b⟩ := F.ex
  constructor
  intro pins s σ H Q I h
  refine wpAny_Call_Name_kw (ld_glob I hg F.g (PySem.W.callWith_K (h₀ := X.base) I.ok.mod.kin mk.kp (thn (ha.run pos pins s σ H _ I h) ?_) he hpl) hdb)
  rintro us s1 ⟨vs, H1, I1, r, q⟩
  refine ⟨I1.kIn, ?_⟩
  have hq := q (s1.heap.objs.size + 1) s1.heap.objs.size (I1.hok.fresh (Nat.le_succ _)) (I1.hok.fresh (Nat.le_refl _)) (Nat.ne_of_lt (Nat.lt_succ_self _))
  have I2 := Inv.made (C := C) I1
  have r2 : Vals (V.ref (s1.heap.objs.size + 1) :: vs) (Value.ref (s1.heap.objs.size + 1) :: us) := .cons rfl r
  have hl : (Value.ref (s1.heap.objs.size + 1) :: us).length = ps.length := by
    rw [← r2.length]
    exact G.len _ _ _ _ hq
  have bb := b { s1 with heap := _ } (Value.ref (s1.heap.objs.size + 1) :: us) I2.kIn (by rw [List.append_nil]; exact hl)
  rw [List.append_nil] at bb
  have G2 := G.run _ X.stack _ _ ⟨Value.ref (s1.heap.objs.size + 1) :: us, []⟩ (Value.ref (s1.heap.objs.size + 1) :: us) _ _ (WE W σ) (hr.make C us []) (I2.env0.make C us []) bb r2 hq
  refine wpAny_call (make_map (f := f) I1.kIn mk.makes mk.init (beq_iff_eq.mp mk.fn) (codeAny_mono G2 ?_))
  intro r' s' hq'
  cases r' with
  | error er => exact passAt tk σ pins _ _ er s' I2 hq'
  | ok fl =>
    cases fl with
    | ret u =>
      obtain ⟨v, H', I3, rv, ev, q3⟩ := I2.after hq'
      subst ev
      exact ⟨rv, ⟨V.ref (s1.heap.objs.size + 1), H', I3, rfl, q3⟩⟩
    | next => exact hq'.elim
    | brk => exact hq'.elim
    | cont => exact hq'.elim
theorem pe_mkL (F : Mkc X.prog X.w X.K X.mg X.base (L2.CX X.prog X.w) k x C sp) (hr : Room (k + 1) X.A) (hg : Gl X x) (ha : PA X (e :: es) t) (hdb : (x == ("__debug__" : Str)) = false := by decide)
    (he : starEach (e :: es) X.env = (false, eval e X.env) :: starEach es X.env := by rfl) (hpl : (backTo pos (starEach es X.env)).any (·.1) = false := by rfl) :
    PE X (.Call (.Name x p) (e :: es) [] pos) (fun σ H Q => t σ H fun vs H1 => ∀ x dx, H1 x = none → H1 dx = none → dx ≠ x →
      sp (.ref x :: vs) (upd (upd H1 dx (.own x)) x (.ins C dx [])) (fun v H2 => v = .non ∧ Q (.ref x) H2) E0) := by
  obtain ⟨f, fd, ps, G, mk, b⟩ := F.ex
  have z := pe_make (p := p) (pos := pos) (es := es) mk G hr hg F.g b .nil passL ha hdb he hpl
  refine ⟨fun pins s σ H Q I h => z.run pins s σ H Q I ?_⟩
  show t σ H fun vs H1 => ∀ x dx, H1 x = none → H1 dx = none → dx ≠ x → sp (.ref x :: (vs ++ [])) (upd (upd H1 dx (.own x)) x (.ins C dx [])) (fun v H2 => v = .non ∧ Q (.ref x) H2) E0
  simpa only [List.append_nil] using h
end
/-! ### a def read off its class: C.m(self, ..) -/
theorem vV (K : PySem.W.Frag) : PySem.W.findCls K (.type "ValueError") (.type "type") "__init__" = some (.val (.builtin "ValueError.__init__")) := by kernel_rfl
structure Cdf (P : Program) (w : World) (K : PySem.W.Frag) (mg : Str → Option Value) (base : Heap) (k : Nat) (x : Str) (C : Addr) (m : Str) (sp : Sp) : Prop where
  ex : ∃ (f : Addr) (fd : FuncData) (ps : List Str), FnOk P w K mg base CX0 k f fd ps sp ∧ PySem.W.readsIn K C (.type "type") = true ∧ PySem.W.specialIn K (.ref C) "__getattribute__" = some (some (.builtin "type.__getattribute__")) ∧
    PySem.W.findCls K (.ref C) (.type "type") m = some (.val (.ref f)) ∧ PySem.W.keepIn K (.ref f) = true ∧ Binds K fd ps []
  g : mg x = some (.ref C)
theorem pe_cdef {X : Cx} {k : Nat} {x m : Str} {C : Addr} {sp : Sp} {e : Expr} {es : List Expr} {t : TA} {p1 p2 pos : Pos} {pl : Sem Bool} (F : Cdf X.prog X.w X.K X.mg X.base k x C m sp) (hr : Room k X.A) (hg : Gl X x) (ha : PA X (e :: es) t)
    (hc : eval (.Call (.Attribute (.Name x p1) m p2) (e :: es) [] pos) X.env = (do
      let ov ← eval (.Name x p1) X.env
      standAt p2.atName
      let (f, first) ← holding [ov] (getMethod ov m pl)
      callWith pos f first (backTo pos (starEach (e :: es) X.env)) (backToKw pos (keywordEach [] X.env))) := by rfl)
    (hdb : (x == ("__debug__" : Str)) = false := by decide) (he : starEach (e :: es) X.env = (false, eval e X.env) :: starEach es X.env := by rfl) (hpl : (backTo pos (starEach es X.env)).any (·.1) = false := by rfl) :
    PE X (.Call (.Attribute (.Name x p1) m p2) (e :: es) [] pos) (fun σ H Q => t σ H fun vs H1 => sp vs H1 Q E0) := by
  obtain ⟨f, fd, ps, G, rd, ga, fc, kp, b⟩ := F.ex
  constructor
  intro pins s σ H Q I h
  refine PySem.W.methodCall_KW (pl := pl) (ld_glob I hg F.g (PySem.W.method_cls I.kIn ga (PySem.W.cls_value I.kIn rd fc rfl ?_)) hdb) hc
  refine PySem.W.callWith_K (first := []) (h₀ := X.base) I.ok.mod.kin kp (thn (ha.run pos pins _ σ H _ (I.tok _) h) ?_) he hpl
  rintro us s1 ⟨vs, H1, I1, r, q⟩
  exact ⟨I1.kIn, run_fn (us := us) G hr b .nil pass0 I1 r (by rw [List.append_nil]; exact q)⟩
/-! ### {x} of None, an int, a text -/
def Fmt (v : V) : Prop := v = .non ∨ (∃ i : Int, v = .int i ∧ i.natAbs.log2 < 1920) ∨ ∃ y : Str, v = .str y ∧ y.length ≤ 1000
def tFmtN (te : TE) : TE := fun σ H Q => te σ H fun x H1 => Fmt x ∧ ∀ y : Str, y.length ≤ 2000 → Q (.str y) H1
theorem pe_fmtN {X : Cx} {e : Expr} {te : TE} {pos : Pos} (he : PE X e te) : PE X (.FormattedValue e (-1) none pos) (tFmtN te) := by
  constructor
  intro pins s σ H Q I h
  refine wpAny_FormattedValue_plain (thn (he.run pins s σ H _ I h) ?_)
  rintro v s1 ⟨x, H1, I1, r1, fm, q⟩
  rcases fm with rfl | ⟨i, rfl, hz⟩ | ⟨y, rfl, hz⟩
  · cases r1
    exact wpAny_formatField_none ⟨.str "None", H1, I1.tok _, ⟨_, rfl⟩, q _ (by decide +kernel)⟩
  · obtain ⟨t, rfl⟩ := r1
    have l := int_text_length_le (k := 1920) (by decide) hz
    refine wpAny_formatField_int hz ⟨.str (Str.ofString (toString i)), H1, I1.tok _, ⟨_, rfl⟩, q _ ?_⟩
    rw [PySem.ofString_length]
    omega
  · obtain ⟨t, rfl⟩ := r1
    exact wpAny_formatField_str ⟨.str y, H1, I1, ⟨t, rfl⟩, q y (by omega)⟩ ⟨.str y, H1, I1.tok _, ⟨_, rfl⟩, q y (by omega)⟩ (sz (by omega))
/-! ### what the text says of an own exception class, as a Bool -/
def clsB (K : PySem.W.Frag) (C : Addr) : Bool := match K.lookup C with
  | some ⟨.type "type", _, .cls cd, sl⟩ => (match cd.mro, sl.toList with
    | .ref D :: bm, [_, _, _, _, some (.builtin n), _] => (D == C && n == "ValueError.__new__") && (!cd.hasDel && (cd.hasDict && PySem.HandSPX.refsVE bm))
    | _, _ => false)
  | _ => false
theorem clsB_ok {K : PySem.W.Frag} {C : Addr} (h : clsB K C = true) : ∃ nm q N bs bm sn sub ab col dd k0 k1 k2 k3 k5, K.lookup C = some (excClassObj nm q C N bs bm true sn sub ab col dd k0 k1 k2 k3 k5 "ValueError.__new__") ∧ PySem.HandSPX.refsVE bm = true := by
  unfold clsB at h
  split at h
  · rename_i dd cd sl ho
    split at h
    · rename_i D bm k0 k1 k2 k3 n k5 e1 e2
      rw [Bool.and_eq_true, Bool.and_eq_true, Bool.and_eq_true, Bool.and_eq_true, beq_iff_eq, beq_iff_eq, Bool.not_eq_true'] at h
      obtain ⟨⟨h1, h2⟩, h3, h4, h5⟩ := h
      subst h1 h2
      obtain ⟨nm, bs, mro, ns, qn, hd, sn, sub, ab, col, de⟩ := cd
      simp only at e1 h3 h4
      subst e1 h3 h4
      have e3 : sl = #[k0, k1, k2, k3, some (.builtin "ValueError.__new__"), k5] := by
        obtain ⟨l⟩ := sl
        simp only at e2
        rw [e2]
      subst e3
      exact ⟨nm, qn, ns, bs, bm, sn, sub, ab, col, dd, k0, k1, k2, k3, k5, ho, h5⟩
    · cases h
  · cases h
def fcB (K : PySem.W.Frag) (C f : Addr) : Bool := match PySem.W.findCls K (.ref C) (.type "type") "__init__" with
  | some (.val (.ref g)) => decide (g = f)
  | _ => false
theorem fcB_ok {K : PySem.W.Frag} {C f : Addr} (h : fcB K C f = true) : PySem.W.findCls K (.ref C) (.type "type") "__init__" = some (.val (.ref f)) := by
  unfold fcB at h
  split at h
  · rename_i g e
    rw [e, of_decide_eq_true h]
  · cases h
/-- all that is asked of a class -/
structure XcC (K : PySem.W.Frag) (C : Addr) : Prop where
  oex : OexC K C
  xf : XfC K C
  ic : (PySem.W.clsIn K C).isSome = true
  ca : PySem.W.findIn K (.ref C) "__class__" = some (some (.builtin "object.__class__"))
  cg : PySem.W.specialIn K (.builtin "object.__class__") "__get__" = some (some (.builtin "getset_descriptor.__get__"))
  ct : PySem.W.takesIn K (.builtin "object.__class__") = some true
  cm : PySem.W.mroIn K C (.type "object") = some true
def xcB (K : PySem.W.Frag) (C : Addr) : Bool := clsB K C && (decide (PySem.W.findIn K (.ref C) "__setattr__" = some (some (.builtin "object.__setattr__"))) && (decide (PySem.W.typeIn K (.ref C) = some (.type "type")) && (PySem.W.keepIn K (.ref C) && (xfB K C && ((PySem.W.clsIn K C).isSome &&
  (decide (PySem.W.findIn K (.ref C) "__class__" = some (some (.builtin "object.__class__"))) && (decide (PySem.W.specialIn K (.builtin "object.__class__") "__get__" = some (some (.builtin "getset_descriptor.__get__"))) &&
    (decide (PySem.W.takesIn K (.builtin "object.__class__") = some true) && decide (PySem.W.mroIn K C (.type "object") = some true)))))))))
theorem xcB_ok {K : PySem.W.Frag} {C : Addr} (h : xcB K C = true) : XcC K C := by
  unfold xcB at h
  simp only [Bool.and_eq_true, decide_eq_true_eq] at h
  obtain ⟨h1, h2, h3, h4, h5, h6, h7, h8, h9, h10⟩ := h
  have xf := xfB_ok h5
  exact ⟨⟨clsB_ok h1, h2, xf.exC, h3, h4⟩, xf, h6, h7, h8, h9, h10⟩
/-! ### promises of __init__, and what is raised -/
/-- __init__(self, v): one field -/
def spX1 (C : Addr) (f : Str) : Sp := fun vs H Q _ => ∃ (a : Addr) (v : V), vs = [.ref a, v] ∧ Fmt v ∧ H a = some (exo a C none) ∧ ∀ d, H d = none → d ≠ a → Q .non (upd (upd H d (exd d [(f, v)])) a (exo a C (some d)))
/-- __init__(self, v, u): two fields -/
def spX2 (C : Addr) (f g : Str) : Sp := fun vs H Q _ => ∃ (a : Addr) (v u : V), vs = [.ref a, v, u] ∧ Fmt v ∧ Fmt u ∧ H a = some (exo a C none) ∧ ∀ d, H d = none → d ≠ a → Q .non (upd (upd (upd H d (exd d [(f, v)])) a (exo a C (some d))) d (exd d [(g, u), (f, v)]))
structure Exk (P : Program) (w : World) (K : PySem.W.Frag) (mg : Str → Option Value) (base : Heap) (k : Nat) (x : Str) (C : Addr) (sp : Sp) : Prop where
  ex : ∃ (f : Addr) (fd : FuncData) (ps : List Str), FnOk P w K mg base CX0 k f fd ps sp ∧ PySem.W.findIn K (.ref C) "__init__" = some (some (.ref f)) ∧ PySem.W.typeIn K (.ref f) = some (.type "function") ∧ Binds K fd ps []
  xc : XcC K C
  g : mg x = some (.ref C)
section
variable {X : Cx} {k : Nat} {x f g : Str} {C : Addr} {e e2 : Expr} {ta : TA} {p pos : Pos}
def tMk1 (C : Addr) (f : Str) (ta : TA) : L2.St → Hp → XK → Prop := fun σ H Q => ta σ H fun vs H1 => ∃ v, vs = [v] ∧ Fmt v ∧ ∀ d, H1 d = none → Q (.ref C) (some d) (upd H1 d (.xd [(f, v)]))
def tMk2 (C : Addr) (f g : Str) (ta : TA) : L2.St → Hp → XK → Prop := fun σ H Q => ta σ H fun vs H1 => ∃ v u, vs = [v, u] ∧ Fmt v ∧ Fmt u ∧ ∀ d, H1 d = none → Q (.ref C) (some d) (upd H1 d (.xd [(g, u), (f, v)]))
theorem pmk_mono {e : Expr} {t t' : L2.St → Hp → XK → Prop} (h : PMk X e t) (m : ∀ σ H Q, t' σ H Q → t σ H Q) : PMk X e t' := fun pins s σ H Q I q => h pins s σ H Q I (m σ H Q q)
theorem pass0F {X : Cx} : Passes CX0 X (fun _ _ _ => False) := pass0
theorem upd_del {H1 H2 : Hp} {a d : Addr} {o : HO} (ha : H1 a = none) (h : ∀ b, b ≠ a → b ≠ d → H2 b = H1 b) : upd (del H2 a) d o = upd H1 d o := by
  funext b
  by_cases hd : b = d
  · rw [hd, upd_same, upd_same]
  · rw [upd_ne hd, upd_ne hd]
    by_cases hb : b = a
    · rw [hb, del_same, ha]
    · rw [del_ne hb, h b hb hd]
theorem Exk.mk1 (F : Exk X.prog X.w X.K X.mg X.base k x C (spX1 C f)) (hr : Room (k + 1) X.A) (ha : PA X [e] ta) (hg : Gl X x := by rfl) (hdb : (x == ("__debug__" : Str)) = false := by decide)
    (he : starEach [e] X.env = (false, eval e X.env) :: starEach [] X.env := by rfl) (hpl : (backTo pos (starEach [] X.env)).any (·.1) = false := by rfl) : PMk X (.Call (.Name x p) [e] [] pos) (tMk1 C f ta) := by
  obtain ⟨fI, fd, ps, G, iC, tI, b⟩ := F.ex
  refine pmk_mono (pmk_oex F.xc.oex iC tI G hr b .nil pass0F hg F.g (pa_cl ha) hdb he hpl) fun σ H Q q => ⟨_, ?_, q⟩
  rintro vs H1 ⟨v, rfl, fm, q⟩
  refine ⟨by show 1 ≤ 1000; decide, fun a na => ⟨a, v, rfl, fm, upd_same, fun d nd ne => ⟨rfl, d, [(f, v)], upd_same, ?_, ?_, ?_⟩⟩⟩
  · rw [upd_ne ne, upd_same]
  · rw [upd_ne ne] at nd
    exact nd
  · rw [upd_ne ne] at nd
    rw [upd_del na fun b hb hd => by rw [upd_ne hb, upd_ne hd, upd_ne hb]]
    exact q d nd
theorem Exk.mk2 (F : Exk X.prog X.w X.K X.mg X.base k x C (spX2 C f g)) (hr : Room (k + 1) X.A) (ha : PA X [e, e2] ta) (hg : Gl X x := by rfl) (hdb : (x == ("__debug__" : Str)) = false := by decide)
    (he : starEach [e, e2] X.env = (false, eval e X.env) :: starEach [e2] X.env := by rfl) (hpl : (backTo pos (starEach [e2] X.env)).any (·.1) = false := by rfl) : PMk X (.Call (.Name x p) [e, e2] [] pos) (tMk2 C f g ta) := by
  obtain ⟨fI, fd, ps, G, iC, tI, b⟩ := F.ex
  refine pmk_mono (pmk_oex F.xc.oex iC tI G hr b .nil pass0F hg F.g (pa_cl ha) hdb he hpl) fun σ H Q q => ⟨_, ?_, q⟩
  rintro vs H1 ⟨v, u, rfl, fv, fu, q⟩
  refine ⟨by show 2 ≤ 1000; decide, fun a na => ⟨a, v, u, rfl, fv, fu, upd_same, fun d nd ne => ⟨rfl, d, [(g, u), (f, v)], ?_, upd_same, ?_, ?_⟩⟩⟩
  · rw [upd_ne (Ne.symm ne), upd_same]
  · rw [upd_ne ne] at nd
    exact nd
  · rw [upd_ne ne] at nd
    rw [upd_del na fun b hb hd => by rw [upd_ne hd, upd_ne hb, upd_ne hd, upd_ne hb]]
    exact q d nd
end
/-! ### isinstance of a caught error with fields -/
def rIsD (K : PySem.W.Frag) (a : Addr) (cls : Value) (d : Option Addr) (D : Addr) : List V → Hp → VK → Prop := fun xs H Q => ∃ (c : V) (cv : Value) (b : Bool) (dd : Addr) (fs : List (Str × V)), xs = [.ref a, c] ∧ cls = .ref D ∧ d = some dd ∧ H dd = some (.xd fs) ∧
  (∀ u, RelV c u → u = cv) ∧ PySem.W.kitOne K (.ref D) cv = some b ∧ Q (.bl b) H
theorem call_isD {X : Cx} {a D : Addr} {oe : Obj} {cls : Value} {d : Option Addr} {pn : List (Addr × Obj)} (C : XcC X.K D) (hz : Zc cls d oe) (hf : ∃ vs, oe.data = .fields vs) : CallR (X.suite a ((a, oe) :: pn)) (.builtin "isinstance") (rIsD X.K a cls d D) := by
  intro pins s σ H xs us Q I r h
  obtain ⟨c, cv, b, dd, fs, rfl, ec, ed, hdd, hcv, e, q⟩ := h
  cases r with
  | cons rx rr =>
    cases rr with
    | cons rt rr =>
      cases rr
      cases rx
      have e1 := hcv _ rt
      subst e1
      obtain ⟨hget, _⟩ := I.pin (a, oe) (List.mem_append.mpr (.inl List.mem_cons_self))
      obtain ⟨vs, hv⟩ := hf
      have hx : ObjOk X.prog X.w H s.heap dd (.xd fs) := I.hok dd _ hdd
      obtain ⟨mA, hns, _⟩ := hx
      obtain ⟨od, ho, _⟩ := lookIn_ns hns
      have J : PySem.W.InstAt s.heap a oe D (some od) := ⟨hget, by rw [hz.1, ec], by unfold PySem.W.notCls; rw [hv] <;> rfl, by rw [hz.2, ed]; exact ho⟩
      exact PySem.W.kia_one (PySem.W.kitx_exc C.ic C.xf.ga C.xf.gg C.xf.exC C.ca C.cg C.ct C.cm) I.kIn J e (fun z => nomatch z) fun tk => ⟨.bl b, H, I.kept (t' := tk) fun _ _ z => z, rfl, q⟩
end Jr

namespace Jr
open PySem PySem.Spec PyProof.Rows L2
/-! ### the head's facts, the interpreter's own statics among them -/
def asC (g : Addr → Option Obj) (n : Nat) : List Addr := He.asD g n ++ [cStatics]
def obsC (n : Nat) (fa : List He.Fa) (fn : List He.DefD) (ex : PySem.W.Frag → Bool) (g : Addr → Option Obj) : He.AlX := (He.obsT fa fn [] (He.frT g (asC g n)), ex (He.frT g (asC g n)))
structure SaysC (fa : List He.Fa) (fn : List He.DefD) (ex : PySem.W.Frag → Bool) (w : World) (K : PySem.W.Frag) : Prop where
  t : He.SaysT fa fn [] w K
  more : ex K = true
theorem saysC_of {n : Nat} {fa : List He.Fa} {fn : List He.DefD} {ex : PySem.W.Frag → Bool} {w : World} {h : Heap} (e : obsC n fa fn ex h.get? = He.valX fn [] w) : SaysC fa fn ex w (He.frT h.get? (asC h.get? n)) :=
  ⟨congrArg (fun z : He.AlX => z.1) e, congrArg (fun z : He.AlX => z.2) e⟩
def hookC (n : Nat) (fa : List He.Fa) (fn : List He.DefD) (ex : PySem.W.Frag → Bool) : PySem.W.Hook where
  α := He.AlX
  obs := fun s => obsC n fa fn ex s.heap.get?
  val := fun w => He.valX fn [] w
  says := fun w h => ∃ K : PySem.W.Frag, K.In h ∧ SaysC fa fn ex w K
  of := fun _ _ e => ⟨_, He.frT_in, saysC_of e⟩
  keeps := fun _ _ _ ⟨K, hK, c⟩ k => ⟨K, PySem.W.Frag.In.keeps hK k, c⟩
theorem obsC_eq {n : Nat} {fa : List He.Fa} {fn : List He.DefD} {ex : PySem.W.Frag → Bool} {g : Addr → Option Obj} {s : Shared} (h : ∀ a, g a = s.heap.get? a) : obsC n fa fn ex g = (hookC n fa fn ex).obs s := by
  have e : g = s.heap.get? := funext h
  rw [e]; rfl
end Jr
namespace Jr
open PySem PySem.Spec PyProof.Rows L2
/-! ### the text -/
def top (i : Nat) : Stmt := PySem.Challenge.pw_joinranks_k04_tables_refused.main.body.getD i (.Pass ⟨0, 0, 0, 0⟩)
abbrev s__wall : Stmt := (top 0)
abbrev N__wall : List Str := ["k"]
abbrev P__wall : List Str := ["k"]
theorem sc__wall : FnScope N__wall P__wall (defScope s__wall) := ⟨rfl, rfl, rfl, by decide +kernel, rfl, by decide +kernel, by decide +kernel⟩
abbrev s_JoinError___init__ : Stmt := (inClass (top 2) 0)
abbrev N_JoinError___init__ : List Str := ["self", "words"]
abbrev P_JoinError___init__ : List Str := ["self", "words"]
theorem sc_JoinError___init__ : FnScope N_JoinError___init__ P_JoinError___init__ (defScope s_JoinError___init__) := ⟨rfl, rfl, rfl, by decide +kernel, rfl, by decide +kernel, by decide +kernel⟩
abbrev s_NoTable___init__ : Stmt := (inClass (top 3) 0)
abbrev N_NoTable___init__ : List Str := ["self", "part", "number"]
abbrev P_NoTable___init__ : List Str := ["self", "part", "number"]
theorem sc_NoTable___init__ : FnScope N_NoTable___init__ P_NoTable___init__ (defScope s_NoTable___init__) := ⟨rfl, rfl, rfl, by decide +kernel, rfl, by decide +kernel, by decide +kernel⟩
abbrev s_NoNumber___init__ : Stmt := (inClass (top 4) 0)
abbrev N_NoNumber___init__ : List Str := ["self", "place"]
abbrev P_NoNumber___init__ : List Str := ["self", "place"]
theorem sc_NoNumber___init__ : FnScope N_NoNumber___init__ P_NoNumber___init__ (defScope s_NoNumber___init__) := ⟨rfl, rfl, rfl, by decide +kernel, rfl, by decide +kernel, by decide +kernel⟩
abbrev s_is_whole : Stmt := (top 6)
abbrev N_is_whole : List Str := ["thing"]
abbrev P_is_whole : List Str := ["thing"]
theorem sc_is_whole : FnScope N_is_whole P_is_whole (defScope s_is_whole) := ⟨rfl, rfl, rfl, by decide +kernel, rfl, by decide +kernel, by decide +kernel⟩
abbrev s_is_up_to : Stmt := (top 7)
abbrev N_is_up_to : List Str := ["thing", "most"]
abbrev P_is_up_to : List Str := ["thing", "most"]
theorem sc_is_up_to : FnScope N_is_up_to P_is_up_to (defScope s_is_up_to) := ⟨rfl, rfl, rfl, by decide +kernel, rfl, by decide +kernel, by decide +kernel⟩
abbrev s_may_be_sign : Stmt := (top 15)
abbrev N_may_be_sign : List Str := ["sign", "code"]
abbrev P_may_be_sign : List Str := ["sign"]
theorem sc_may_be_sign : FnScope N_may_be_sign P_may_be_sign (defScope s_may_be_sign) := ⟨rfl, rfl, rfl, by decide +kernel, rfl, by decide +kernel, by decide +kernel⟩
abbrev s_check_signs : Stmt := (top 16)
abbrev N_check_signs : List Str := ["signs", "place", "sign"]
abbrev P_check_signs : List Str := ["signs"]
theorem sc_check_signs : FnScope N_check_signs P_check_signs (defScope s_check_signs) := ⟨rfl, rfl, rfl, by decide +kernel, rfl, by decide +kernel, by decide +kernel⟩
abbrev s_Table___init__ : Stmt := (inClass (top 17) 0)
abbrev N_Table___init__ : List Str := ["self", "signs", "rows", "sign", "number", "row", "piece"]
abbrev P_Table___init__ : List Str := ["self", "signs", "rows"]
theorem sc_Table___init__ : FnScope N_Table___init__ P_Table___init__ (defScope s_Table___init__) := ⟨rfl, rfl, rfl, by decide +kernel, rfl, by decide +kernel, by decide +kernel⟩
abbrev s_Table_take_piece : Stmt := (inClass (top 17) 1)
abbrev N_Table_take_piece : List Str := ["self", "piece"]
abbrev P_Table_take_piece : List Str := ["self", "piece"]
theorem sc_Table_take_piece : FnScope N_Table_take_piece P_Table_take_piece (defScope s_Table_take_piece) := ⟨rfl, rfl, rfl, by decide +kernel, rfl, by decide +kernel, by decide +kernel⟩
abbrev s_Table_may_take_row : Stmt := (inClass (top 17) 2)
abbrev N_Table_may_take_row : List Str := ["self", "row", "left", "right", "joined"]
abbrev P_Table_may_take_row : List Str := ["self", "row"]
theorem sc_Table_may_take_row : FnScope N_Table_may_take_row P_Table_may_take_row (defScope s_Table_may_take_row) := ⟨rfl, rfl, rfl, by decide +kernel, rfl, by decide +kernel, by decide +kernel⟩
abbrev s_Table_take_row : Stmt := (inClass (top 17) 3)
abbrev N_Table_take_row : List Str := ["self", "row", "left", "right"]
abbrev P_Table_take_row : List Str := ["self", "row"]
theorem sc_Table_take_row : FnScope N_Table_take_row P_Table_take_row (defScope s_Table_take_row) := ⟨rfl, rfl, rfl, by decide +kernel, rfl, by decide +kernel, by decide +kernel⟩
abbrev s_Table_signs : Stmt := (inClass (top 17) 4)
abbrev N_Table_signs : List Str := ["self"]
abbrev P_Table_signs : List Str := ["self"]
theorem sc_Table_signs : FnScope N_Table_signs P_Table_signs (defScope s_Table_signs) := ⟨rfl, rfl, rfl, by decide +kernel, rfl, by decide +kernel, by decide +kernel⟩
abbrev s_Table_rows : Stmt := (inClass (top 17) 5)
abbrev N_Table_rows : List Str := ["self"]
abbrev P_Table_rows : List Str := ["self"]
theorem sc_Table_rows : FnScope N_Table_rows P_Table_rows (defScope s_Table_rows) := ⟨rfl, rfl, rfl, by decide +kernel, rfl, by decide +kernel, by decide +kernel⟩
abbrev s_Table_pieces : Stmt := (inClass (top 17) 6)
abbrev N_Table_pieces : List Str := ["self"]
abbrev P_Table_pieces : List Str := ["self"]
theorem sc_Table_pieces : FnScope N_Table_pieces P_Table_pieces (defScope s_Table_pieces) := ⟨rfl, rfl, rfl, by decide +kernel, rfl, by decide +kernel, by decide +kernel⟩
abbrev s_Table_which : Stmt := (inClass (top 17) 7)
abbrev N_Table_which : List Str := ["self", "thing"]
abbrev P_Table_which : List Str := ["self", "thing"]
theorem sc_Table_which : FnScope N_Table_which P_Table_which (defScope s_Table_which) := ⟨rfl, rfl, rfl, by decide +kernel, rfl, by decide +kernel, by decide +kernel⟩
abbrev s_Table_piece : Stmt := (inClass (top 17) 8)
abbrev N_Table_piece : List Str := ["self", "number"]
abbrev P_Table_piece : List Str := ["self", "number"]
theorem sc_Table_piece : FnScope N_Table_piece P_Table_piece (defScope s_Table_piece) := ⟨rfl, rfl, rfl, by decide +kernel, rfl, by decide +kernel, by decide +kernel⟩
abbrev s_Table_parts : Stmt := (inClass (top 17) 9)
abbrev N_Table_parts : List Str := ["self", "piece"]
abbrev P_Table_parts : List Str := ["self", "piece"]
theorem sc_Table_parts : FnScope N_Table_parts P_Table_parts (defScope s_Table_parts) := ⟨rfl, rfl, rfl, by decide +kernel, rfl, by decide +kernel, by decide +kernel⟩
abbrev s_Table_rank : Stmt := (inClass (top 17) 10)
abbrev N_Table_rank : List Str := ["self", "left", "right"]
abbrev P_Table_rank : List Str := ["self", "left", "right"]
theorem sc_Table_rank : FnScope N_Table_rank P_Table_rank (defScope s_Table_rank) := ⟨rfl, rfl, rfl, by decide +kernel, rfl, by decide +kernel, by decide +kernel⟩
abbrev s_Table_longest : Stmt := (inClass (top 17) 11)
abbrev N_Table_longest : List Str := ["self"]
abbrev P_Table_longest : List Str := ["self"]
theorem sc_Table_longest : FnScope N_Table_longest P_Table_longest (defScope s_Table_longest) := ⟨rfl, rfl, rfl, by decide +kernel, rfl, by decide +kernel, by decide +kernel⟩
abbrev s__law_numbers : Stmt := (top 19)
abbrev N__law_numbers : List Str := ["_law_cell", "_law_salt", "_law_sizes", "_law_number", "_law_left", "_law_found", "_law_k", "_law_one"]
abbrev P__law_numbers : List Str := ["_law_cell", "_law_salt", "_law_sizes"]
theorem sc__law_numbers : FnScope N__law_numbers P__law_numbers (defScope s__law_numbers) := ⟨rfl, rfl, rfl, by decide +kernel, rfl, by decide +kernel, by decide +kernel⟩
abbrev s__law_signs : Stmt := (top 20)
abbrev N__law_signs : List Str := ["_law_digits", "_law_some", "_law_signs_here", "_law_digit", "_law_turned", "_law_sign"]
abbrev P__law_signs : List Str := ["_law_digits"]
theorem sc__law_signs : FnScope N__law_signs P__law_signs (defScope s__law_signs) := ⟨rfl, rfl, rfl, by decide +kernel, rfl, by decide +kernel, by decide +kernel⟩
abbrev s__law_rows : Stmt := (top 21)
abbrev N__law_rows : List Str := ["_law_signs_here", "_law_digits", "_law_pieces", "_law_rows_here", "_law_k", "_law_one", "_law_other"]
abbrev P__law_rows : List Str := ["_law_signs_here", "_law_digits"]
theorem sc__law_rows : FnScope N__law_rows P__law_rows (defScope s__law_rows) := ⟨rfl, rfl, rfl, by decide +kernel, rfl, by decide +kernel, by decide +kernel⟩
abbrev s__law_wrong_signs : Stmt := (top 22)
abbrev N__law_wrong_signs : List Str := ["_law_signs_here", "_law_k"]
abbrev P__law_wrong_signs : List Str := ["_law_signs_here"]
theorem sc__law_wrong_signs : FnScope N__law_wrong_signs P__law_wrong_signs (defScope s__law_wrong_signs) := ⟨rfl, rfl, rfl, by decide +kernel, rfl, by decide +kernel, by decide +kernel⟩
abbrev s__law_wrong : Stmt := (top 23)
abbrev N__law_wrong : List Str := ["_law_signs_here", "_law_rows_here", "_law_wrong_here", "_law_pieces", "_law_k", "_law_row"]
abbrev P__law_wrong : List Str := ["_law_signs_here", "_law_rows_here"]
theorem sc__law_wrong : FnScope N__law_wrong P__law_wrong (defScope s__law_wrong) := ⟨rfl, rfl, rfl, by decide +kernel, rfl, by decide +kernel, by decide +kernel⟩
abbrev s__law_spoilt_signs : Stmt := (top 24)
abbrev N__law_spoilt_signs : List Str := ["_law_signs_here", "_law_digits", "_law_at", "_law_some", "_law_put", "_law_things"]
abbrev P__law_spoilt_signs : List Str := ["_law_signs_here", "_law_digits"]
theorem sc__law_spoilt_signs : FnScope N__law_spoilt_signs P__law_spoilt_signs (defScope s__law_spoilt_signs) := ⟨rfl, rfl, rfl, by decide +kernel, rfl, by decide +kernel, by decide +kernel⟩
abbrev s__law_spoilt_row : Stmt := (top 25)
abbrev N__law_spoilt_row : List Str := ["_law_rows_here", "_law_pieces", "_law_digits", "_law_at", "_law_row", "_law_other", "_law_piece", "_law_news"]
abbrev P__law_spoilt_row : List Str := ["_law_rows_here", "_law_pieces", "_law_digits"]
theorem sc__law_spoilt_row : FnScope N__law_spoilt_row P__law_spoilt_row (defScope s__law_spoilt_row) := ⟨rfl, rfl, rfl, by decide +kernel, rfl, by decide +kernel, by decide +kernel⟩
abbrev s__law_spoilt_rows : Stmt := (top 26)
abbrev N__law_spoilt_rows : List Str := ["_law_rows_here", "_law_pieces", "_law_digits", "_law_at", "_law_new", "_law_to", "_law_left"]
abbrev P__law_spoilt_rows : List Str := ["_law_rows_here", "_law_pieces", "_law_digits"]
theorem sc__law_spoilt_rows : FnScope N__law_spoilt_rows P__law_spoilt_rows (defScope s__law_spoilt_rows) := ⟨rfl, rfl, rfl, by decide +kernel, rfl, by decide +kernel, by decide +kernel⟩
abbrev s__law_made : Stmt := (top 27)
abbrev N__law_made : List Str := ["_law_signs_here", "_law_rows_here", "_law_found", "e"]
abbrev P__law_made : List Str := ["_law_signs_here", "_law_rows_here"]
theorem sc__law_made : FnScope N__law_made P__law_made (defScope s__law_made) := ⟨rfl, rfl, rfl, by decide +kernel, rfl, by decide +kernel, by decide +kernel⟩
abbrev s__law_right : Stmt := (top 28)
abbrev N__law_right : List Str := ["_law_signs_here", "_law_rows_here", "_law_kept", "_law_wrong_here", "_law_word", "_law_thing", "_law_number"]
abbrev P__law_right : List Str := ["_law_signs_here", "_law_rows_here"]
theorem sc__law_right : FnScope N__law_right P__law_right (defScope s__law_right) := ⟨rfl, rfl, rfl, by decide +kernel, rfl, by decide +kernel, by decide +kernel⟩
abbrev s_law : Stmt := (top 29)
abbrev N_law : List Str := ["_law_script", "_law_at", "_law_cell", "_law_sizes", "_law_head", "_law_many", "_law_signs_here", "_law_rows_here", "_law_pieces", "_law_other", "_law_other_signs", "_law_left", "_law_right_here"]
abbrev P_law : List Str := ["_law_script"]
theorem sc_law : FnScope N_law P_law (defScope s_law) := ⟨rfl, rfl, rfl, by decide +kernel, rfl, by decide +kernel, by decide +kernel⟩
/-- what the top has written -/
structure Tx (K : PySem.W.Frag) (mg : Str → Option Value) : Prop where
  n_len : mg "len" = none
  n_range : mg "range" = none
  n_max : mg "max" = none
  n_isinstance : mg "isinstance" = none
  n_str : mg "str" = none
  n_bool : mg "bool" = none
  n_list : mg "list" = none
  n_tuple : mg "tuple" = none
  n_ord : mg "ord" = none
  n_enumerate : mg "enumerate" = none
  n_ValueError : mg "ValueError" = none
  c_MOST_SIGNS : ∃ t, mg "MOST_SIGNS" = some (.int 12 t)
  c_MOST_ROWS : ∃ t, mg "MOST_ROWS" = some (.int 24 t)
  c_MOST_JOINED : ∃ t, mg "MOST_JOINED" = some (.int 16 t)
  c_BLANK_CODE : ∃ t, mg "BLANK_CODE" = some (.int 32 t)
  c_PERCENT_CODE : ∃ t, mg "PERCENT_CODE" = some (.int 37 t)
  c_TILDE_CODE : ∃ t, mg "TILDE_CODE" = some (.int 126 t)
  g_JoinError : mg "JoinError" = some (.ref (He.ga K "JoinError"))
  rd_JoinError : PySem.W.readsIn K (He.ga K "JoinError") (.type "type") = true
  ga_JoinError : PySem.W.specialIn K (.ref (He.ga K "JoinError")) "__getattribute__" = some (some (.builtin "type.__getattribute__"))
  fc_JoinError : PySem.W.findCls K (.ref (He.ga K "JoinError")) (.type "type") "__init__" = some (.val (.ref (He.fAd K ("JoinError", some "__init__"))))
  g_NoTable : mg "NoTable" = some (.ref (He.ga K "NoTable"))
  xc_NoTable : XcC K (He.ga K "NoTable")
  in_NoTable : PySem.W.findIn K (.ref (He.ga K "NoTable")) "__init__" = some (some (.ref (He.fAd K ("NoTable", some "__init__"))))
  it_NoTable : PySem.W.typeIn K (.ref (He.fAd K ("NoTable", some "__init__"))) = some (.type "function")
  no_NoTable_part : PySem.W.findIn K (.ref (He.ga K "NoTable")) "part" = some none
  no_NoTable_number : PySem.W.findIn K (.ref (He.ga K "NoTable")) "number" = some none
  exm_NoTable_NoTable : PySem.W.exmOne K (.ref (He.ga K "NoTable")) (.ref (He.ga K "NoTable")) = some true
  g_Table : mg "Table" = some (.ref (He.ga K "Table"))
  cl_Table : Cls K (He.ga K "Table")
  no_Table_sign_text : NoAttr K (He.ga K "Table") "sign_text"
  no_Table_row_list : NoAttr K (He.ga K "Table") "row_list"
  no_Table_piece_list : NoAttr K (He.ga K "Table") "piece_list"
  no_Table_number_by_piece : NoAttr K (He.ga K "Table") "number_by_piece"
  no_Table_rank_by_row : NoAttr K (He.ga K "Table") "rank_by_row"
  no_Table_most_signs : NoAttr K (He.ga K "Table") "most_signs"
  mk_Table : Mk K (He.ga K "Table") (He.fAd K ("Table", some "__init__"))
  m_Table_take_piece : Meth K (He.ga K "Table") "take_piece" (He.fAd K ("Table", some "take_piece"))
  m_Table_may_take_row : Meth K (He.ga K "Table") "may_take_row" (He.fAd K ("Table", some "may_take_row"))
  m_Table_take_row : Meth K (He.ga K "Table") "take_row" (He.fAd K ("Table", some "take_row"))
  m_Table_signs : Meth K (He.ga K "Table") "signs" (He.fAd K ("Table", some "signs"))
  m_Table_rows : Meth K (He.ga K "Table") "rows" (He.fAd K ("Table", some "rows"))
  m_Table_which : Meth K (He.ga K "Table") "which" (He.fAd K ("Table", some "which"))
  d_JoinError___init__ : ∃ fd, FunD K "__init__" "JoinError.__init__" (defArgs s_JoinError___init__) (defBody s_JoinError___init__) (defScope s_JoinError___init__) [] [] (He.fAd K ("JoinError", some "__init__")) fd
  d_NoTable___init__ : ∃ fd, FunD K "__init__" "NoTable.__init__" (defArgs s_NoTable___init__) (defBody s_NoTable___init__) (defScope s_NoTable___init__) [] [] (He.fAd K ("NoTable", some "__init__")) fd
  g_may_be_sign : mg "may_be_sign" = some (.ref (He.fAd K ("may_be_sign", none)))
  d_may_be_sign : ∃ fd, FunD K "may_be_sign" "may_be_sign" (defArgs s_may_be_sign) (defBody s_may_be_sign) (defScope s_may_be_sign) [] [] (He.fAd K ("may_be_sign", none)) fd
  g_check_signs : mg "check_signs" = some (.ref (He.fAd K ("check_signs", none)))
  d_check_signs : ∃ fd, FunD K "check_signs" "check_signs" (defArgs s_check_signs) (defBody s_check_signs) (defScope s_check_signs) [] [] (He.fAd K ("check_signs", none)) fd
  d_Table___init__ : ∃ fd, FunD K "__init__" "Table.__init__" (defArgs s_Table___init__) (defBody s_Table___init__) (defScope s_Table___init__) [] [] (He.fAd K ("Table", some "__init__")) fd
  d_Table_take_piece : ∃ fd, FunD K "take_piece" "Table.take_piece" (defArgs s_Table_take_piece) (defBody s_Table_take_piece) (defScope s_Table_take_piece) [] [] (He.fAd K ("Table", some "take_piece")) fd
  d_Table_may_take_row : ∃ fd, FunD K "may_take_row" "Table.may_take_row" (defArgs s_Table_may_take_row) (defBody s_Table_may_take_row) (defScope s_Table_may_take_row) [] [] (He.fAd K ("Table", some "may_take_row")) fd
  d_Table_take_row : ∃ fd, FunD K "take_row" "Table.take_row" (defArgs s_Table_take_row) (defBody s_Table_take_row) (defScope s_Table_take_row) [] [] (He.fAd K ("Table", some "take_row")) fd
  d_Table_signs : ∃ fd, FunD K "signs" "Table.signs" (defArgs s_Table_signs) (defBody s_Table_signs) (defScope s_Table_signs) [] [] (He.fAd K ("Table", some "signs")) fd
  d_Table_rows : ∃ fd, FunD K "rows" "Table.rows" (defArgs s_Table_rows) (defBody s_Table_rows) (defScope s_Table_rows) [] [] (He.fAd K ("Table", some "rows")) fd
  d_Table_which : ∃ fd, FunD K "which" "Table.which" (defArgs s_Table_which) (defBody s_Table_which) (defScope s_Table_which) [] [] (He.fAd K ("Table", some "which")) fd
  g__law_numbers : mg "_law_numbers" = some (.ref (He.fAd K ("_law_numbers", none)))
  d__law_numbers : ∃ fd, FunD K "_law_numbers" "_law_numbers" (defArgs s__law_numbers) (defBody s__law_numbers) (defScope s__law_numbers) [] [] (He.fAd K ("_law_numbers", none)) fd
  g__law_signs : mg "_law_signs" = some (.ref (He.fAd K ("_law_signs", none)))
  d__law_signs : ∃ fd, FunD K "_law_signs" "_law_signs" (defArgs s__law_signs) (defBody s__law_signs) (defScope s__law_signs) [] [] (He.fAd K ("_law_signs", none)) fd
  g__law_rows : mg "_law_rows" = some (.ref (He.fAd K ("_law_rows", none)))
  d__law_rows : ∃ fd, FunD K "_law_rows" "_law_rows" (defArgs s__law_rows) (defBody s__law_rows) (defScope s__law_rows) [] [] (He.fAd K ("_law_rows", none)) fd
  g__law_wrong_signs : mg "_law_wrong_signs" = some (.ref (He.fAd K ("_law_wrong_signs", none)))
  d__law_wrong_signs : ∃ fd, FunD K "_law_wrong_signs" "_law_wrong_signs" (defArgs s__law_wrong_signs) (defBody s__law_wrong_signs) (defScope s__law_wrong_signs) [] [] (He.fAd K ("_law_wrong_signs", none)) fd
  g__law_wrong : mg "_law_wrong" = some (.ref (He.fAd K ("_law_wrong", none)))
  d__law_wrong : ∃ fd, FunD K "_law_wrong" "_law_wrong" (defArgs s__law_wrong) (defBody s__law_wrong) (defScope s__law_wrong) [] [] (He.fAd K ("_law_wrong", none)) fd
  g__law_spoilt_signs : mg "_law_spoilt_signs" = some (.ref (He.fAd K ("_law_spoilt_signs", none)))
  d__law_spoilt_signs : ∃ fd, FunD K "_law_spoilt_signs" "_law_spoilt_signs" (defArgs s__law_spoilt_signs) (defBody s__law_spoilt_signs) (defScope s__law_spoilt_signs) [] [] (He.fAd K ("_law_spoilt_signs", none)) fd
  g__law_spoilt_row : mg "_law_spoilt_row" = some (.ref (He.fAd K ("_law_spoilt_row", none)))
  d__law_spoilt_row : ∃ fd, FunD K "_law_spoilt_row" "_law_spoilt_row" (defArgs s__law_spoilt_row) (defBody s__law_spoilt_row) (defScope s__law_spoilt_row) [] [] (He.fAd K ("_law_spoilt_row", none)) fd
  g__law_spoilt_rows : mg "_law_spoilt_rows" = some (.ref (He.fAd K ("_law_spoilt_rows", none)))
  d__law_spoilt_rows : ∃ fd, FunD K "_law_spoilt_rows" "_law_spoilt_rows" (defArgs s__law_spoilt_rows) (defBody s__law_spoilt_rows) (defScope s__law_spoilt_rows) [] [] (He.fAd K ("_law_spoilt_rows", none)) fd
  g__law_made : mg "_law_made" = some (.ref (He.fAd K ("_law_made", none)))
  d__law_made : ∃ fd, FunD K "_law_made" "_law_made" (defArgs s__law_made) (defBody s__law_made) (defScope s__law_made) [] [] (He.fAd K ("_law_made", none)) fd
  g__law_right : mg "_law_right" = some (.ref (He.fAd K ("_law_right", none)))
  d__law_right : ∃ fd, FunD K "_law_right" "_law_right" (defArgs s__law_right) (defBody s__law_right) (defScope s__law_right) [] [] (He.fAd K ("_law_right", none)) fd
  g_law : mg "law" = some (.ref (He.fAd K ("law", none)))
  d_law : ∃ fd, FunD K "law" "law" (defArgs s_law) (defBody s_law) (defScope s_law) [] [] (He.fAd K ("law", none)) fd
end Jr
namespace Jr
open PySem PySem.Spec PyProof.Rows L2
def exs (K : PySem.W.Frag) : List Bool := [PySem.W.readsIn K (He.ga K "JoinError") (.type "type"),
  decide (PySem.W.specialIn K (.ref (He.ga K "JoinError")) "__getattribute__" = some (some (.builtin "type.__getattribute__"))),
  fcB K (He.ga K "JoinError") (He.fAd K ("JoinError", some "__init__")),
  xcB K (He.ga K "NoTable"),
  decide (PySem.W.findIn K (.ref (He.ga K "NoTable")) "__init__" = some (some (.ref (He.fAd K ("NoTable", some "__init__"))))),
  decide (PySem.W.typeIn K (.ref (He.fAd K ("NoTable", some "__init__"))) = some (.type "function")),
  decide (PySem.W.findIn K (.ref (He.ga K "NoTable")) "part" = some none),
  decide (PySem.W.findIn K (.ref (He.ga K "NoTable")) "number" = some none),
  decide (PySem.W.exmOne K (.ref (He.ga K "NoTable")) (.ref (He.ga K "NoTable")) = some true)]
theorem exAt {l : List Bool} {i : Nat} {b : Bool} (h : l.all id = true) (e : l[i]? = some b) : b = true := List.all_eq_true.mp h b (List.mem_of_getElem? e)
def fa : List He.Fa := [.free "len",
  .free "range",
  .free "max",
  .free "isinstance",
  .free "str",
  .free "bool",
  .free "list",
  .free "tuple",
  .free "ord",
  .free "enumerate",
  .free "ValueError",
  .int "MOST_SIGNS" 12,
  .int "MOST_ROWS" 24,
  .int "MOST_JOINED" 16,
  .int "BLANK_CODE" 32,
  .int "PERCENT_CODE" 37,
  .int "TILDE_CODE" 126,
  .glo "JoinError",
  .glo "NoTable",
  .glo "Table",
  .cls "Table",
  .noat "Table" "sign_text",
  .noat "Table" "row_list",
  .noat "Table" "piece_list",
  .noat "Table" "number_by_piece",
  .noat "Table" "rank_by_row",
  .noat "Table" "most_signs",
  .mkr "Table",
  .meth "Table" "take_piece",
  .meth "Table" "may_take_row",
  .meth "Table" "take_row",
  .meth "Table" "signs",
  .meth "Table" "rows",
  .meth "Table" "which",
  .glo "may_be_sign",
  .glo "check_signs",
  .glo "_law_numbers",
  .glo "_law_signs",
  .glo "_law_rows",
  .glo "_law_wrong_signs",
  .glo "_law_wrong",
  .glo "_law_spoilt_signs",
  .glo "_law_spoilt_row",
  .glo "_law_spoilt_rows",
  .glo "_law_made",
  .glo "_law_right",
  .glo "law"]
def fn : List He.DefD := [⟨("JoinError", some "__init__"), "__init__", "JoinError.__init__", defArgs s_JoinError___init__, defBody s_JoinError___init__, defScope s_JoinError___init__, [], []⟩,
  ⟨("NoTable", some "__init__"), "__init__", "NoTable.__init__", defArgs s_NoTable___init__, defBody s_NoTable___init__, defScope s_NoTable___init__, [], []⟩,
  ⟨("may_be_sign", none), "may_be_sign", "may_be_sign", defArgs s_may_be_sign, defBody s_may_be_sign, defScope s_may_be_sign, [], []⟩,
  ⟨("check_signs", none), "check_signs", "check_signs", defArgs s_check_signs, defBody s_check_signs, defScope s_check_signs, [], []⟩,
  ⟨("Table", some "__init__"), "__init__", "Table.__init__", defArgs s_Table___init__, defBody s_Table___init__, defScope s_Table___init__, [], []⟩,
  ⟨("Table", some "take_piece"), "take_piece", "Table.take_piece", defArgs s_Table_take_piece, defBody s_Table_take_piece, defScope s_Table_take_piece, [], []⟩,
  ⟨("Table", some "may_take_row"), "may_take_row", "Table.may_take_row", defArgs s_Table_may_take_row, defBody s_Table_may_take_row, defScope s_Table_may_take_row, [], []⟩,
  ⟨("Table", some "take_row"), "take_row", "Table.take_row", defArgs s_Table_take_row, defBody s_Table_take_row, defScope s_Table_take_row, [], []⟩,
  ⟨("Table", some "signs"), "signs", "Table.signs", defArgs s_Table_signs, defBody s_Table_signs, defScope s_Table_signs, [], []⟩,
  ⟨("Table", some "rows"), "rows", "Table.rows", defArgs s_Table_rows, defBody s_Table_rows, defScope s_Table_rows, [], []⟩,
  ⟨("Table", some "which"), "which", "Table.which", defArgs s_Table_which, defBody s_Table_which, defScope s_Table_which, [], []⟩,
  ⟨("_law_numbers", none), "_law_numbers", "_law_numbers", defArgs s__law_numbers, defBody s__law_numbers, defScope s__law_numbers, [], []⟩,
  ⟨("_law_signs", none), "_law_signs", "_law_signs", defArgs s__law_signs, defBody s__law_signs, defScope s__law_signs, [], []⟩,
  ⟨("_law_rows", none), "_law_rows", "_law_rows", defArgs s__law_rows, defBody s__law_rows, defScope s__law_rows, [], []⟩,
  ⟨("_law_wrong_signs", none), "_law_wrong_signs", "_law_wrong_signs", defArgs s__law_wrong_signs, defBody s__law_wrong_signs, defScope s__law_wrong_signs, [], []⟩,
  ⟨("_law_wrong", none), "_law_wrong", "_law_wrong", defArgs s__law_wrong, defBody s__law_wrong, defScope s__law_wrong, [], []⟩,
  ⟨("_law_spoilt_signs", none), "_law_spoilt_signs", "_law_spoilt_signs", defArgs s__law_spoilt_signs, defBody s__law_spoilt_signs, defScope s__law_spoilt_signs, [], []⟩,
  ⟨("_law_spoilt_row", none), "_law_spoilt_row", "_law_spoilt_row", defArgs s__law_spoilt_row, defBody s__law_spoilt_row, defScope s__law_spoilt_row, [], []⟩,
  ⟨("_law_spoilt_rows", none), "_law_spoilt_rows", "_law_spoilt_rows", defArgs s__law_spoilt_rows, defBody s__law_spoilt_rows, defScope s__law_spoilt_rows, [], []⟩,
  ⟨("_law_made", none), "_law_made", "_law_made", defArgs s__law_made, defBody s__law_made, defScope s__law_made, [], []⟩,
  ⟨("_law_right", none), "_law_right", "_law_right", defArgs s__law_right, defBody s__law_right, defScope s__law_right, [], []⟩,
  ⟨("law", none), "law", "law", defArgs s_law, defBody s_law, defScope s_law, [], []⟩]

abbrev RR : PySem.W.OpenRow := PySem.W.OpenLaw.row PySem.Challenge.rw_joinranks_k04_tables_refused
def loose : List PySem.Str := (["_wall", "JoinError", "NoTable", "NoNumber", "is_whole", "is_up_to", "MOST_SIGNS", "MOST_ROWS", "MOST_JOINED", "BLANK_CODE", "PERCENT_CODE", "TILDE_CODE", "may_be_sign", "check_signs", "Table", "_law_numbers", "_law_signs", "_law_rows", "_law_wrong_signs", "_law_wrong", "_law_spoilt_signs", "_law_spoilt_row", "_law_spoilt_rows", "_law_made", "_law_right"] : List PySem.Str)
abbrev hk : PySem.W.Hook := hookC 4 fa fn (fun K => (exs K).all id)
def ob (s : PySem.W.SharedT) : He.AlX := obsC 4 fa fn (fun K => (exs K).all id) (HandSHeadRun.getT s)
theorem ob_eq (s : PySem.W.SharedT) : ob s = hk.obs s.abs := obsC_eq (HandSHeadRun.getT_eq s)
theorem run (w : World) : HandSHeadRun.RunEq RR (PySem.W.view RR.prog [29]) hk ob 4000 loose w := by
  intro os
  kernel_rfl
end Jr
namespace Jr
open PySem PySem.Spec PyProof.Rows L2
/-! ### what is refused, and with what -/
theorem tyx_same {K : PySem.W.Frag} {H H' : Hp} {v : V} {t : Value} (h : TyX K H v t) (s : Same H H') : TyX K H' v t := by
  cases h with
  | base b =>
    cases b with
    | non => exact .base .non
    | bl x => exact .base (.bl x)
    | int i => exact .base (.int i)
    | str x => exact .base (.str x)
    | flt x => exact .base (.flt x)
    | lst e => exact .base (.lst (s _ _ e))
    | frz e => exact .base (.frz (s _ _ e))
    | tup e => exact .base (.tup (s _ _ e))
    | dK e => exact .base (.dK (s _ _ e))
    | dT e => exact .base (.dT (s _ _ e))
    | ins e cl ha hn htk hm => exact .base (.ins (s _ _ e) cl ha hn htk hm)
  | byt b => exact .byt b
  | set e => exact .set (s _ _ e)
  | kList e c => exact .kList e c
  | kTuple e c => exact .kTuple e c
  | kDict e c => exact .kDict e c
  | fTuple e => exact .fTuple (s _ _ e)
  | fDict e => exact .fDict (s _ _ e)
theorem NoStr.same {K : PySem.W.Frag} {H H' : Hp} {v : V} (h : NoStr K H v) (s : Same H H') : NoStr K H' v := by
  obtain ⟨t, a, b⟩ := h
  exact ⟨t, tyx_same a s, b⟩
section
variable {K : PySem.W.Frag} {H : Hp}
theorem noStr_non : NoStr K H .non := ⟨_, .base .non, kit_ty (by decide +kernel)⟩
theorem noStr_bl (b : Bool) : NoStr K H (.bl b) := ⟨_, .base (.bl b), kit_ty (by decide +kernel)⟩
theorem noStr_int (i : Int) : NoStr K H (.int i) := ⟨_, .base (.int i), kit_ty (by decide +kernel)⟩
theorem noStr_lst {a : Addr} {xs : List V} (h : H a = some (.lst xs)) : NoStr K H (.ref a) := ⟨_, .base (.lst h), kit_ty (by decide +kernel)⟩
theorem noStr_tup {a : Addr} {xs : List V} (h : H a = some (.tup xs)) : NoStr K H (.ref a) := ⟨_, .base (.tup h), kit_ty (by decide +kernel)⟩
theorem noStr_dK {a : Addr} {xs : List (Key × V)} (h : H a = some (.dK xs)) : NoStr K H (.ref a) := ⟨_, .base (.dK h), kit_ty (by decide +kernel)⟩
end
/-- the place of the first sign that is not z's -/
def wrong1 (z t : Str) : Option Nat := t.cps.toList.findIdx? fun c => !decide (c ∈ z.cps.toList)
theorem wrong1_none {z t : Str} : wrong1 z t = none ↔ TextOf z t := by
  unfold wrong1
  rw [List.findIdx?_eq_none_iff]
  exact ⟨fun h c hc => by simpa using h c hc, fun h c hc => by simpa using h c hc⟩
theorem wrong1_at {z t : Str} {i c : Nat} (h : ∀ j d, j < i → t.cps.toList[j]? = some d → d ∈ z.cps.toList) (hc : t.cps.toList[i]? = some c) (n : ¬ c ∈ z.cps.toList) : wrong1 z t = some i := by
  unfold wrong1
  obtain ⟨hi, e⟩ := List.getElem?_eq_some_iff.mp hc
  rw [List.findIdx?_eq_some_iff_getElem]
  refine ⟨hi, ?_, fun j hj => ?_⟩
  · rw [e]; simpa using n
  · have := h j _ hj (List.getElem?_eq_getElem (by omega))
    simpa using this
theorem wrong1_lt {z t : Str} {i : Nat} (h : wrong1 z t = some i) : i < t.length := by
  unfold wrong1 at h
  obtain ⟨hi, _⟩ := List.findIdx?_eq_some_iff_getElem.mp h
  rw [← len_cps]; exact hi
/-- v is refused as a text of z's signs, w the place -/
def Bad (K : PySem.W.Frag) (H : Hp) (z : Str) (v w : V) : Prop := (∃ t i, v = .str t ∧ wrong1 z t = some i ∧ w = .int (i : Nat)) ∨ (NoStr K H v ∧ w = .non)
theorem Bad.same {K : PySem.W.Frag} {H H' : Hp} {z : Str} {v w : V} (h : Bad K H z v w) (s : Same H H') : Bad K H' z v w := by
  rcases h with h | ⟨h, e⟩
  · exact .inl h
  · exact .inr ⟨h.same s, e⟩
/-- an error of the class at C with one field is wanted -/
def Rz (C : Addr) (f : Str) (v : V) (H : Hp) (E : XK) : Prop := ∀ H' d, Same H H' → H d = none → H' d = some (.xd [(f, v)]) → E (.ref C) (some d) H'
theorem Rz.same {C : Addr} {f : Str} {v : V} {H H1 : Hp} {E : XK} (h : Rz C f v H E) (s : Same H H1) : Rz C f v H1 E := fun H' d s1 n e => h H' d (s.trans s1) (s.free n) e
theorem Rz.now {C : Addr} {f : Str} {v : V} {H : Hp} {E : XK} (h : Rz C f v H E) : ∀ d, H d = none → E (.ref C) (some d) (upd H d (.xd [(f, v)])) := fun d n => h _ d (Same.new n) n upd_same
theorem fmt_nat (i : Nat) (h : i ≤ 100000) : Fmt (.int (i : Nat)) := .inr (.inl ⟨_, rfl, by
  have e : ((i : Nat) : Int).natAbs = i := by omega
  rw [e]
  rcases Nat.eq_zero_or_pos i with h0 | h0
  · rw [h0]; decide
  · have : i.log2 < 20 := (Nat.log2_lt (by omega)).mpr (by omega)
    omega⟩)
end Jr
namespace Jr
open PySem PySem.Spec PyProof.Rows L2
/-- v is no piece -/
def NoPc (K : PySem.W.Frag) (H : Hp) (z : Str) (rs : Rws) (v : V) : Prop := (∃ t, v = .str t ∧ ¬ t ∈ pcs z rs) ∨ NoStr K H v
theorem NoPc.same {K : PySem.W.Frag} {H H' : Hp} {z : Str} {rs : Rws} {v : V} (h : NoPc K H z rs v) (s : Same H H') : NoPc K H' z rs v := by
  rcases h with h | h
  · exact .inl h
  · exact .inr (h.same s)
/-- the first of us that is no piece stands at i -/
structure FirstPc (K : PySem.W.Frag) (H : Hp) (z : Str) (rs : Rws) (us : List V) (i : Nat) : Prop where
  good : ∀ j v, j < i → us[j]? = some v → ∃ p, p ∈ pcs z rs ∧ v = .str p
  bad : ∃ v, us[i]? = some v ∧ NoPc K H z rs v
theorem FirstPc.same {K : PySem.W.Frag} {H H' : Hp} {z : Str} {rs : Rws} {us : List V} {i : Nat} (h : FirstPc K H z rs us i) (s : Same H H') : FirstPc K H' z rs us i :=
  ⟨h.good, let ⟨v, a, b⟩ := h.bad; ⟨v, a, b.same s⟩⟩
theorem FirstPc.lt {K : PySem.W.Frag} {H : Hp} {z : Str} {rs : Rws} {us : List V} {i : Nat} (h : FirstPc K H z rs us i) : i < us.length := by
  obtain ⟨v, e, _⟩ := h.bad
  exact (List.getElem?_eq_some_iff.mp e).1
theorem noPc_str {K : PySem.W.Frag} {H : Hp} {z : Str} {rs : Rws} {p : Str} (h : NoPc K H z rs (.str p)) : ¬ p ∈ pcs z rs := by
  rcases h with ⟨t, e, n⟩ | ⟨t, a, b⟩
  · cases e; exact n
  · cases a with
    | base a => cases a; rw [isStr] at b; cases b
end Jr
namespace Jr
open PySem PySem.Spec PyProof.Rows L2
/-- v is no list -/
def NoLst (K : PySem.W.Frag) (H : Hp) (v : V) : Prop := ∃ t, TyX K H v t ∧ PySem.W.kitOne K t (.type "list") = some false
theorem NoLst.same {K : PySem.W.Frag} {H H' : Hp} {v : V} (h : NoLst K H v) (s : Same H H') : NoLst K H' v := by
  obtain ⟨t, a, b⟩ := h
  exact ⟨t, tyx_same a s, b⟩
section
variable {K : PySem.W.Frag} {H : Hp}
theorem noLst_non : NoLst K H .non := ⟨_, .base .non, kit_ty (by decide +kernel)⟩
theorem noLst_bl (b : Bool) : NoLst K H (.bl b) := ⟨_, .base (.bl b), kit_ty (by decide +kernel)⟩
theorem noLst_int (i : Int) : NoLst K H (.int i) := ⟨_, .base (.int i), kit_ty (by decide +kernel)⟩
theorem noLst_str (x : Str) : NoLst K H (.str x) := ⟨_, .base (.str x), kit_ty (by decide +kernel)⟩
theorem noLst_tup {a : Addr} {xs : List V} (h : H a = some (.tup xs)) : NoLst K H (.ref a) := ⟨_, .base (.tup h), kit_ty (by decide +kernel)⟩
theorem noLst_dK {a : Addr} {xs : List (Key × V)} (h : H a = some (.dK xs)) : NoLst K H (.ref a) := ⟨_, .base (.dK h), kit_ty (by decide +kernel)⟩
end
end Jr
namespace Jr
open PySem PySem.Spec PyProof.Rows L2
/-! ### what makes no table -/
def SgnOk (c : Nat) : Prop := 32 ≤ c ∧ c ≤ 126 ∧ c ≠ 37
/-- the first wrong sign of z stands at i -/
structure WSign (z : Str) (i : Nat) : Prop where
  bad : ∃ c, z.cps.toList[i]? = some c ∧ (¬ SgnOk c ∨ c ∈ z.cps.toList.take i)
  good : ∀ j d, j < i → z.cps.toList[j]? = some d → SgnOk d ∧ ¬ d ∈ z.cps.toList.take j
def WSigns (K : PySem.W.Frag) (H : Hp) (sv u : V) : Prop := (NoStr K H sv ∧ u = .non) ∨ (∃ z, sv = .str z ∧ z.length ≤ 100000 ∧ ¬ (1 ≤ z.length ∧ z.length ≤ 12) ∧ u = .non) ∨ ∃ z i, sv = .str z ∧ 1 ≤ z.length ∧ z.length ≤ 12 ∧ WSign z i ∧ u = .int (i : Nat)
/-- v is no tuple -/
def NoTup (K : PySem.W.Frag) (H : Hp) (v : V) : Prop := ∃ t, TyX K H v t ∧ PySem.W.kitOne K t (.type "tuple") = some false
theorem NoTup.same {K : PySem.W.Frag} {H H' : Hp} {v : V} (h : NoTup K H v) (s : Same H H') : NoTup K H' v := by
  obtain ⟨t, a, b⟩ := h
  exact ⟨t, tyx_same a s, b⟩
section
variable {K : PySem.W.Frag} {H : Hp}
theorem noTup_non : NoTup K H .non := ⟨_, .base .non, kit_ty (by decide +kernel)⟩
theorem noTup_bl (b : Bool) : NoTup K H (.bl b) := ⟨_, .base (.bl b), kit_ty (by decide +kernel)⟩
theorem noTup_int (i : Int) : NoTup K H (.int i) := ⟨_, .base (.int i), kit_ty (by decide +kernel)⟩
theorem noTup_str (x : Str) : NoTup K H (.str x) := ⟨_, .base (.str x), kit_ty (by decide +kernel)⟩
theorem noTup_lst {a : Addr} {xs : List V} (h : H a = some (.lst xs)) : NoTup K H (.ref a) := ⟨_, .base (.lst h), kit_ty (by decide +kernel)⟩
theorem noTup_dK {a : Addr} {xs : List (Key × V)} (h : H a = some (.dK xs)) : NoTup K H (.ref a) := ⟨_, .base (.dK h), kit_ty (by decide +kernel)⟩
end
/-- two parts that make no row behind rs -/
def BadParts (K : PySem.W.Frag) (H : Hp) (z : Str) (rs : Rws) (u1 u2 : V) : Prop := NoPc K H z rs u1 ∨ ∃ l, u1 = .str l ∧ l ∈ pcs z rs ∧ (NoPc K H z rs u2 ∨ ∃ r, u2 = .str r ∧ r ∈ pcs z rs ∧ (16 < (l ++ r).length ∨ l ++ r ∈ pcs z rs))
/-- v is no row that may stand behind rs -/
def BadRow (K : PySem.W.Frag) (H : Hp) (z : Str) (rs : Rws) (v : V) : Prop := NoTup K H v ∨ ∃ a us, v = .ref a ∧ H a = some (.tup us) ∧ us.length ≤ 1000 ∧ (us.length ≠ 2 ∨ ∃ u1 u2, us = [u1, u2] ∧ BadParts K H z rs u1 u2)
theorem BadParts.same {K : PySem.W.Frag} {H H' : Hp} {z : Str} {rs : Rws} {u1 u2 : V} (h : BadParts K H z rs u1 u2) (s : Same H H') : BadParts K H' z rs u1 u2 := by
  rcases h with h | ⟨l, e, hl, h | h⟩
  · exact .inl (h.same s)
  · exact .inr ⟨l, e, hl, .inl (h.same s)⟩
  · exact .inr ⟨l, e, hl, .inr h⟩
theorem BadRow.same {K : PySem.W.Frag} {H H' : Hp} {z : Str} {rs : Rws} {v : V} (h : BadRow K H z rs v) (s : Same H H') : BadRow K H' z rs v := by
  rcases h with h | ⟨a, us, e, hA, ul, h⟩
  · exact .inl (h.same s)
  · refine .inr ⟨a, us, e, s _ _ hA, ul, ?_⟩
    rcases h with h | ⟨u1, u2, e2, h⟩
    · exact .inl h
    · exact .inr ⟨u1, u2, e2, h.same s⟩
/-- the list us: its first things are the rows rs; the next one, if there is one, may not stand -/
structure RowsTo (K : PySem.W.Frag) (H : Hp) (z : Str) (us : List V) (rs : Rws) : Prop where
  pre : ∃ as, us.take rs.length = as.map V.ref ∧ Paired (TupAt H) as rs
  le : rs.length ≤ us.length
  ok : TabOk z rs
  nx : ∀ v, us[rs.length]? = some v → BadRow K H z rs v
theorem RowsTo.same {K : PySem.W.Frag} {H H' : Hp} {z : Str} {us : List V} {rs : Rws} (h : RowsTo K H z us rs) (s : Same H H') : RowsTo K H' z us rs :=
  ⟨let ⟨as, e, p⟩ := h.pre; ⟨as, e, TupAt.same s p⟩, h.le, h.ok, fun v e => (h.nx v e).same s⟩
def WRows (K : PySem.W.Frag) (H : Hp) (z : Str) (rv u : V) : Prop := (NoLst K H rv ∧ u = .non) ∨ (∃ a us, rv = .ref a ∧ H a = some (.lst us) ∧ us.length ≤ 1000 ∧ 24 < us.length ∧ u = .non) ∨
  ∃ a us rs, rv = .ref a ∧ H a = some (.lst us) ∧ us.length ≤ 24 ∧ RowsTo K H z us rs ∧ rs.length < us.length ∧ u = .int (rs.length : Nat)
/-- what is wrong with signs and rows: the part and the number -/
def WTab (K : PySem.W.Frag) (H : Hp) (sv rv : V) (part : Str) (u : V) : Prop := (part = Str.ofString "signs" ∧ WSigns K H sv u) ∨ (part = Str.ofString "rows" ∧ ∃ z, sv = .str z ∧ SignsOk z ∧ 1 ≤ z.length ∧ z.length ≤ 12 ∧ WRows K H z rv u)
theorem WSigns.same {K : PySem.W.Frag} {H H' : Hp} {sv u : V} (h : WSigns K H sv u) (s : Same H H') : WSigns K H' sv u := by
  rcases h with ⟨h, e⟩ | h | h
  · exact .inl ⟨h.same s, e⟩
  · exact .inr (.inl h)
  · exact .inr (.inr h)
theorem WRows.same {K : PySem.W.Frag} {H H' : Hp} {z : Str} {rv u : V} (h : WRows K H z rv u) (s : Same H H') : WRows K H' z rv u := by
  rcases h with ⟨h, e⟩ | ⟨a, us, e, hA, h⟩ | ⟨a, us, rs, e, hA, ul, rt, h⟩
  · exact .inl ⟨h.same s, e⟩
  · exact .inr (.inl ⟨a, us, e, s _ _ hA, h⟩)
  · exact .inr (.inr ⟨a, us, rs, e, s _ _ hA, ul, rt.same s, h⟩)
theorem WTab.same {K : PySem.W.Frag} {H H' : Hp} {sv rv : V} {p : Str} {u : V} (h : WTab K H sv rv p u) (s : Same H H') : WTab K H' sv rv p u := by
  rcases h with ⟨e, h⟩ | ⟨e, z, e2, a, b, c, h⟩
  · exact .inl ⟨e, h.same s⟩
  · exact .inr ⟨e, z, e2, a, b, c, h.same s⟩
theorem WTab.fmt {K : PySem.W.Frag} {H : Hp} {sv rv : V} {p : Str} {u : V} (h : WTab K H sv rv p u) : (p = Str.ofString "signs" ∨ p = Str.ofString "rows") ∧ (u = .non ∨ ∃ i : Nat, i ≤ 24 ∧ u = .int (i : Nat)) := by
  rcases h with ⟨e, ⟨_, h⟩ | ⟨_, _, _, _, h⟩ | ⟨z, i, _, _, z12, w, h⟩⟩ | ⟨e, z, _, _, _, _, ⟨_, h⟩ | ⟨_, _, _, _, _, _, h⟩ | ⟨a, us, rs, _, _, ul, _, rl, h⟩⟩
  · exact ⟨.inl e, .inl h⟩
  · exact ⟨.inl e, .inl h⟩
  · obtain ⟨c, hc, _⟩ := w.bad
    have := (List.getElem?_eq_some_iff.mp hc).1
    rw [len_cps] at this
    exact ⟨.inl e, .inr ⟨i, by omega, h⟩⟩
  · exact ⟨.inr e, .inl h⟩
  · exact ⟨.inr e, .inl h⟩
  · exact ⟨.inr e, .inr ⟨_, by omega, h⟩⟩
theorem signs_ok_of {z : Str} (h : ∀ j d, z.cps.toList[j]? = some d → SgnOk d ∧ ¬ d ∈ z.cps.toList.take j) : SignsOk z := by
  refine ⟨?_, fun c hc => ?_⟩
  · rw [List.Nodup, List.pairwise_iff_getElem]
    intro i j hi hj hij e
    have ej := List.getElem?_eq_getElem hj
    refine (h j _ ej).2 ?_
    refine List.mem_of_getElem? (i := i) ?_
    rw [List.getElem?_take, if_pos hij, List.getElem?_eq_getElem hi, e]
  · obtain ⟨j, hj, e⟩ := List.mem_iff_getElem.mp hc
    exact (h j c (by rw [List.getElem?_eq_getElem hj, e])).1
/-- every text of one to twelve signs is good, or has a first wrong one -/
theorem wsign_or (z : Str) : SignsOk z ∨ ∃ i, WSign z i := by
  by_cases h : ∃ i, ∃ c, z.cps.toList[i]? = some c ∧ (¬ SgnOk c ∨ c ∈ z.cps.toList.take i)
  · have key : ∀ n, (∃ i, i ≤ n ∧ ∃ c, z.cps.toList[i]? = some c ∧ (¬ SgnOk c ∨ c ∈ z.cps.toList.take i)) → ∃ i, WSign z i := fun n => by
      induction n with
      | zero =>
        rintro ⟨i, hi, c, hc, b⟩
        exact ⟨i, ⟨c, hc, b⟩, fun j d hj => by omega⟩
      | succ n ih =>
        rintro ⟨i, hi, c, hc, b⟩
        by_cases e : ∃ i, i ≤ n ∧ ∃ c, z.cps.toList[i]? = some c ∧ (¬ SgnOk c ∨ c ∈ z.cps.toList.take i)
        · exact ih e
        · refine ⟨i, ⟨c, hc, b⟩, fun j d hj hd => ?_⟩
          have no : ¬ (¬ SgnOk d ∨ d ∈ z.cps.toList.take j) := fun x => e ⟨j, by omega, d, hd, x⟩
          exact ⟨Classical.byContradiction fun x => no (.inl x), fun x => no (.inr x)⟩
    obtain ⟨i, hi⟩ := h
    exact .inr (key i ⟨i, Nat.le_refl _, hi⟩)
  · refine .inl (signs_ok_of fun j d hd => ?_)
    have no : ¬ (¬ SgnOk d ∨ d ∈ z.cps.toList.take j) := fun x => h ⟨j, d, hd, x⟩
    exact ⟨Classical.byContradiction fun x => no (.inl x), fun x => no (.inr x)⟩
end Jr
namespace Jr
open PySem PySem.Spec PyProof.Rows L2
theorem pc_text {z : Str} {rs : Rws} (T : TabOk z rs) {p : Str} (h : p ∈ pcs z rs) : TextOf z p := by
  have key : ∀ n, n ≤ rs.length → ∀ p ∈ pcs z (rs.take n), TextOf z p := fun n => by
    induction n with
    | zero =>
      intro _ p hp
      have hp2 : p ∈ sgs z ++ [] := hp
      rw [List.append_nil] at hp2
      obtain ⟨c, hc, rfl⟩ := List.mem_map.mp hp2
      intro d hd
      have e : d = c := by simpa [sgn] using hd
      rw [e]; exact hc
    | succ n ih =>
      intro hn p hp
      have hx : rs[n]? = some rs[n] := List.getElem?_eq_getElem (by omega)
      rw [List.take_add_one, hx] at hp
      have hp2 : p ∈ pcs z (rs.take n ++ [rs[n]]) := hp
      rw [pcs_snoc] at hp2
      rcases List.mem_append.mp hp2 with hp3 | hp3
      · exact ih (by omega) p hp3
      · rw [List.mem_singleton] at hp3
        rw [hp3]
        have o := T.rows n _ hx
        exact text_app (ih (by omega) _ o.lm) (ih (by omega) _ o.rm)
  have := key rs.length (Nat.le_refl _) p
  rw [List.take_length] at this
  exact this h
end Jr
namespace Jr
open PySem PySem.Spec PyProof.Rows L2
def InSig (z : Str) : Prop := ∀ c ∈ z.cps.toList, SgnOk c ∨ c = 9 ∨ c = 10
def SigV (K : PySem.W.Frag) (H : Hp) (v : V) : Prop := NoStr K H v ∨ ∃ z, v = .str z ∧ z.length ≤ 1000 ∧ InSig z
def Tu (K : PySem.W.Frag) (H : Hp) (u : V) : Prop := NoStr K H u ∨ ∃ t, u = .str t ∧ t.length ≤ 100
def RowTh (K : PySem.W.Frag) (H : Hp) (v : V) : Prop := NoTup K H v ∨ ∃ a us, v = .ref a ∧ H a = some (.tup us) ∧ us.length ≤ 1000 ∧ (us.length ≠ 2 ∨ ∃ u1 u2, us = [u1, u2] ∧ Tu K H u1 ∧ Tu K H u2)
theorem SigV.same {K : PySem.W.Frag} {H H' : Hp} {v : V} (h : SigV K H v) (s : Same H H') : SigV K H' v := h.imp (fun h => h.same s) id
theorem Tu.same {K : PySem.W.Frag} {H H' : Hp} {v : V} (h : Tu K H v) (s : Same H H') : Tu K H' v := Or.imp (fun h => NoStr.same h s) id h
theorem RowTh.same {K : PySem.W.Frag} {H H' : Hp} {v : V} (h : RowTh K H v) (s : Same H H') : RowTh K H' v := by
  rcases h with h | ⟨a, us, e, hA, ul, h⟩
  · exact .inl (h.same s)
  · refine .inr ⟨a, us, e, s _ _ hA, ul, ?_⟩
    rcases h with h | ⟨u1, u2, e2, h1, h2⟩
    · exact .inl h
    · exact .inr ⟨u1, u2, e2, h1.same s, h2.same s⟩
theorem rows_scan {K : PySem.W.Frag} {H : Hp} {z : Str} {us : List V} (sg : SignsOk z) (z1 : 1 ≤ z.length) (z12 : z.length ≤ 12) (h : ∀ v ∈ us, RowTh K H v) (l24 : us.length ≤ 24) : ∃ rs, RowsTo K H z us rs := by
  have key : ∀ n, n ≤ us.length → ∃ rs : Rws, RowsTo K H z us rs ∨ (rs.length = n ∧ (∃ as, us.take rs.length = as.map V.ref ∧ Paired (TupAt H) as rs) ∧ TabOk z rs) := by
    intro n
    induction n with
    | zero => exact fun _ => ⟨[], .inr ⟨rfl, ⟨[], rfl, .nil⟩, TabOk.nil sg z1 z12⟩⟩
    | succ n ih =>
      intro hn
      obtain ⟨rs, h1 | ⟨rl, ⟨as, eas, pas⟩, tk⟩⟩ := ih (by omega)
      · exact ⟨rs, .inl h1⟩
      obtain ⟨v, hv⟩ : ∃ v, us[n]? = some v := ⟨_, List.getElem?_eq_getElem (by omega)⟩
      have bad : BadRow K H z rs v → ∃ rs : Rws, RowsTo K H z us rs ∨ (rs.length = n + 1 ∧ (∃ as, us.take rs.length = as.map V.ref ∧ Paired (TupAt H) as rs) ∧ TabOk z rs) := fun b =>
        ⟨rs, .inl ⟨⟨as, eas, pas⟩, by omega, tk, fun v' e => by rw [rl, hv] at e; cases e; exact b⟩⟩
      rcases h v (List.mem_of_getElem? hv) with nt | ⟨a, us', rfl, hA, ul, n2 | ⟨u1, u2, rfl, t1, t2⟩⟩
      · exact bad (.inl nt)
      · exact bad (.inr ⟨a, us', rfl, hA, ul, .inl n2⟩)
      have badp : BadParts K H z rs u1 u2 → ∃ rs : Rws, RowsTo K H z us rs ∨ (rs.length = n + 1 ∧ (∃ as, us.take rs.length = as.map V.ref ∧ Paired (TupAt H) as rs) ∧ TabOk z rs) := fun b => bad (.inr ⟨a, _, rfl, hA, ul, .inr ⟨u1, u2, rfl, b⟩⟩)
      rcases t1 with t1 | ⟨l, rfl, _⟩
      · exact badp (.inl (.inr t1))
      by_cases lm : l ∈ pcs z rs
      · rcases t2 with t2 | ⟨r, rfl, _⟩
        · exact badp (.inr ⟨l, rfl, lm, .inl (.inr t2)⟩)
        by_cases rm : r ∈ pcs z rs
        · by_cases c : 16 < (l ++ r).length ∨ l ++ r ∈ pcs z rs
          · exact badp (.inr ⟨l, rfl, lm, .inr ⟨r, rfl, rm, c⟩⟩)
          · refine ⟨rs ++ [(l, r)], .inr ⟨by rw [List.length_append, rl]; rfl, ⟨as ++ [a], ?_, Paired.app pas (.cons hA .nil)⟩, tk.snoc ⟨lm, rm, ?_, fun h => c (.inr h)⟩ (by omega)⟩⟩
            · rw [List.length_append, List.length_singleton, List.take_add_one, eas, rl, hv, List.map_append]
              rfl
            · have : ¬ 16 < (l ++ r).length := fun h => c (.inl h)
              show (l ++ r).length ≤ 16
              omega
        · exact badp (.inr ⟨l, rfl, lm, .inl (.inl ⟨r, rfl, rm⟩)⟩)
      · exact badp (.inl (.inl ⟨l, rfl, lm⟩))
  obtain ⟨rs, h1 | ⟨rl, pre, tk⟩⟩ := key us.length (Nat.le_refl _)
  · exact ⟨rs, h1⟩
  · exact ⟨rs, pre, by omega, tk, fun v e => by
      have := (List.getElem?_eq_some_iff.mp e).1
      omega⟩
theorem rows_full {K : PySem.W.Frag} {H : Hp} {z : Str} {us : List V} {rs : Rws} {p : Addr} (hp : H p = some (.lst us)) (rt : RowsTo K H z us rs) (e : rs.length = us.length) : RowsAt H p rs := by
  obtain ⟨as, eas, pas⟩ := rt.pre
  rw [e, List.take_length] at eas
  exact ⟨as, by rw [← eas]; exact hp, pas⟩
section
variable {P : Program} {w : World} {K : PySem.W.Frag} {mg : Str → Option Value} {base : Heap}
def spWS4 (K : PySem.W.Frag) : Sp := fun vs H Q _ => ∃ sv : V, vs = [sv] ∧ SigV K H sv ∧ ((∃ u, WSigns K H sv u ∧ ∀ H' q, Same H H' → H' q = some (.tup [.str (Str.ofString "signs"), u]) → Q (.ref q) H') ∨ ∃ z, sv = .str z ∧ SignsOk z ∧ 1 ≤ z.length ∧ z.length ≤ 12 ∧ ∀ H', Same H H' → Q .non H')
theorem cal__law_wrong_signs (T : Tx K mg) : Cal P w K mg base CX0 1 "_law_wrong_signs" (spWS4 K) := by
  obtain ⟨fd, F⟩ := T.d__law_wrong_signs
  refine ⟨_, fd, P__law_wrong_signs, F.ok sc__law_wrong_signs (fun vs H Q E h => ?_) (fun cdv A outer s H vs Q E hr h => ?_), T.g__law_wrong_signs, F.kp, F.bindsN (ps := P__law_wrong_signs) fun _ _ _ _ _ _ us hl => match us, hl with | [_], _ => rfl⟩
  · obtain ⟨sv, rfl, _⟩ := h
    rfl
  · obtain ⟨sv, rfl, sg, h⟩ := h
    refine ⟨_, (PSs.nox (pss_cons (ps_if (PW.pt (pw_or (pt_not (pt_val (pe_callB (id := "isinstance") call_isi (by rfl) T.n_isinstance (by decide +kernel) (pa_cons (pv 0) (pa_cons (pe_bltn (v := .ty "str") (by rfl) T.n_str (by decide +kernel) rfl) pa_nil))))) (pw_or (pt_cmpR op_lt (pe_callB (id := "len") call_len_str (by rfl) T.n_len (by decide +kernel) (pa_cons (pv 0) pa_nil)) pe_int (nomark _)) (pw_or1 (pt_cmpR op_gt (pe_callB (id := "len") call_len_str (by rfl) T.n_len (by decide +kernel) (pa_cons (pv 0) pa_nil)) pe_int (nomark _)))))) (pss_one (ps_ret (pe_tupG (pa_cons pe_str (pa_cons pe_non pa_nil))))) pss_nil)
      (pss_cons (ps_for PassesOwn.never rfl (pi_range1 (by rfl) T.n_range (pa_cons (pe_callB (id := "len") call_len_str (by rfl) T.n_len (by decide +kernel) (pa_cons (pv 0) pa_nil)) pa_nil)) (pg_name (i := 1) sc__law_wrong_signs.nd rfl (Or.inl rfl)) (pss_one (ps_if (PW.pt (pw_or (pt_cmpR op_in_sign (pe_ix ix_str (pv 0) (pv 1) (fun _ _ => rfl)) pe_str rfl) (pw_or1 (pt_cmpR op_in_sign (pe_ix ix_str (pv 0) (pv 1) (fun _ _ => rfl)) (pe_slice sl_str (pv 0) po_none (po_some (pv 1))) rfl)))) (pss_one (ps_ret (pe_tupG (pa_cons pe_str (pa_cons (pv 1) pa_nil))))) pss_nil)))
      (pss_one (ps_ret pe_non))))), ?_⟩
    have non : ((∃ ty, TyX K H sv ty ∧ PySem.W.kitOne K ty (.type "str") = some false) ∧ ∀ H' q, Same H H' → H' q = some (.tup [.str (Str.ofString "signs"), .non]) → Q (.ref q) H') ∨ ∃ z, sv = .str z ∧ z.length ≤ 1000 ∧ InSig z ∧ ((¬ (1 ≤ z.length ∧ z.length ≤ 12) ∧ ∀ H' q, Same H H' → H' q = some (.tup [.str (Str.ofString "signs"), .non]) → Q (.ref q) H') ∨
        ((1 ≤ z.length ∧ z.length ≤ 12) ∧ ((∃ i, WSign z i ∧ ∀ H' q, Same H H' → H' q = some (.tup [.str (Str.ofString "signs"), .int (i : Nat)]) → Q (.ref q) H') ∨ (SignsOk z ∧ ∀ H', Same H H' → Q .non H')))) := by
      have nstr : ∀ {z : Str}, NoStr K H (.str z) → False := fun h => by
        obtain ⟨t, a, b⟩ := h
        cases a with
        | base a => cases a; rw [isStr] at b; cases b
      rcases h with ⟨u, ⟨ns, rfl⟩ | ⟨z, rfl, zl, nz, rfl⟩ | ⟨z, i, rfl, z1, z12, wi, rfl⟩, k⟩ | ⟨z, rfl, so, z1, z12, k⟩
      · exact .inl ⟨ns, k⟩
      all_goals
        rcases sg with sg | ⟨z', e, zl', ins⟩
        · exact (nstr sg).elim
        cases e
      · exact .inr ⟨z, rfl, zl', ins, .inl ⟨nz, k⟩⟩
      · exact .inr ⟨z, rfl, zl', ins, .inr ⟨⟨z1, z12⟩, .inl ⟨i, wi, k⟩⟩⟩
      · exact .inr ⟨z, rfl, zl', ins, .inr ⟨⟨z1, z12⟩, .inr ⟨so, k⟩⟩⟩
    rcases non with ⟨⟨ty, hty, hk⟩, k⟩ | ⟨z, rfl, zl, ins, h⟩
    · exact ⟨_, rfl, _, _, _, _, _, rfl, .ty "str", hty, hk, _, rfl, iteT ⟨(by show 2 ≤ sizeLine; decide), fun q H1 nq s1 hq => k _ q s1 hq⟩⟩
    refine ⟨_, rfl, _, _, _, _, _, rfl, .ty "str", .base (.str _), isStr, _, rfl, iteF ?_⟩
    refine ⟨_, rfl, z, rfl, sz (by omega), _, _, rfl, rfl, _, rfl, ?_⟩
    rcases h with ⟨nz, k⟩ | ⟨⟨z1, z12⟩, h⟩
    · by_cases c1 : z.length < 1
      · rw [decide_eq_true (show ((z.length : Nat) : Int) < 1 by omega)]
        exact iteT ⟨(by show 2 ≤ sizeLine; decide), fun q H1 nq s1 hq => k _ q s1 hq⟩
      · rw [decide_eq_false (show ¬ ((z.length : Nat) : Int) < 1 by omega)]
        refine iteF ⟨_, rfl, z, rfl, sz (by omega), _, _, rfl, rfl, _, rfl, ?_⟩
        rw [decide_eq_true (show (12 : Int) < ((z.length : Nat) : Int) by omega)]
        exact iteT ⟨(by show 2 ≤ sizeLine; decide), fun q H1 nq s1 hq => k _ q s1 hq⟩
    rw [decide_eq_false (show ¬ ((z.length : Nat) : Int) < 1 by omega)]
    refine iteF ⟨_, rfl, z, rfl, sz (by omega), _, _, rfl, rfl, _, rfl, ?_⟩
    rw [decide_eq_false (show ¬ (12 : Int) < ((z.length : Nat) : Int) by omega)]
    refine iteF ?_
    refine ⟨_, rfl, z, rfl, sz (by omega), _, rfl, by omega, by omega, for_range (lo := 0) (n := z.length) (fun j σ H' => ∃ u1 : Option V, σ = [some (.str z), u1] ∧ Same H H' ∧ ∀ i c, i < j → z.cps.toList[i]? = some c → SgnOk c ∧ ¬ c ∈ z.cps.toList.take i)
      ⟨_, rfl, Same.refl _, fun i c h => absurd h (Nat.not_lt_zero _)⟩ ?_ ?_⟩
    · rintro j σ H1 hj ⟨u1, rfl, s1, ah⟩
      have tln : z.cps.toList.length = z.length := len_cps z
      obtain ⟨c, ec⟩ : ∃ c, z.cps.toList[j]? = some c := ⟨_, List.getElem?_eq_getElem (by omega)⟩
      have key : (SgnOk c ∧ ¬ c ∈ z.cps.toList.take j) ∨ ((¬ SgnOk c ∨ c ∈ z.cps.toList.take j) ∧ ∀ H' q, Same H H' → H' q = some (.tup [.str (Str.ofString "signs"), .int (j : Nat)]) → Q (.ref q) H') := by
        by_cases g : SgnOk c ∧ ¬ c ∈ z.cps.toList.take j
        · exact .inl g
        · have g' : ¬ SgnOk c ∨ c ∈ z.cps.toList.take j := by
            by_cases g1 : SgnOk c
            · exact .inr (Classical.byContradiction fun x => g ⟨g1, x⟩)
            · exact .inl g1
          refine .inr ⟨g', ?_⟩
          rcases h with ⟨i, wi, k⟩ | ⟨so, k⟩
          · have e : i = j := by
              rcases Nat.lt_trichotomy i j with x | x | x
              · obtain ⟨d, hd, b⟩ := wi.bad
                obtain ⟨h1, h2⟩ := ah i d x hd
                rcases b with b | b
                · exact absurd h1 b
                · exact absurd b h2
              · exact x
              · obtain ⟨h1, h2⟩ := wi.good j c x ec
                rcases g' with b | b
                · exact absurd h1 b
                · exact absurd b h2
            rw [e] at k
            exact k
          · exfalso
            rcases g' with b | b
            · exact b (so.ok c (List.mem_of_getElem? ec))
            · have nd := so.nd
              rw [← List.take_append_drop j z.cps.toList, List.nodup_append] at nd
              refine nd.2.2 c b c (List.mem_of_getElem? (i := 0) ?_) rfl
              rw [List.getElem?_drop]; exact ec
      have eA : atI z.cps.toList (0 + (j : Int)) = some c := by rw [Int.zero_add]; exact ats ec
      have etn : ∀ c, c ∈ (Str.ofString "\t\n").cps.toList ↔ c = 9 ∨ c = 10 := by
        have : (Str.ofString "\t\n").cps.toList = [9, 10] := by decide +kernel
        rw [this]; simp
      refine ⟨_, rfl, _, rfl, z, _, c, rfl, rfl, sz (by omega), eA, c, _, rfl, rfl, _, rfl, ?_⟩
      by_cases c1 : c ∈ (Str.ofString "\t\n").cps.toList
      · rw [decide_eq_true c1]
        have ng : ¬ SgnOk c := fun g => by
          have g1 := g.1
          rcases (etn c).mp c1 with e | e <;> omega
        rcases key with ⟨g, _⟩ | ⟨_, k⟩
        · exact absurd g ng
        · exact iteT ⟨_, rfl, (by show 2 ≤ sizeLine; decide), fun q H2 nq s2 hq => k _ q (s1.trans s2) (by rw [Int.zero_add] at hq; exact hq)⟩
      rw [decide_eq_false c1]
      refine iteF ⟨_, rfl, _, rfl, z, _, c, rfl, rfl, sz (by omega), eA, _, rfl, _, rfl, _, rfl, z, rfl, sz (by omega), c, _, rfl, rfl, _, rfl, ?_⟩
      have es : (cutS z none (some (0 + ((j : Nat) : Int)))).cps.toList = z.cps.toList.take j := by rw [Int.zero_add, cut_to]
      rw [es]
      by_cases c2 : c ∈ z.cps.toList.take j
      · rw [decide_eq_true c2]
        rcases key with ⟨_, g⟩ | ⟨_, k⟩
        · exact absurd c2 g
        · exact iteT ⟨_, rfl, (by show 2 ≤ sizeLine; decide), fun q H2 nq s2 hq => k _ q (s1.trans s2) (by rw [Int.zero_add] at hq; exact hq)⟩
      · rw [decide_eq_false c2]
        have sok : SgnOk c := (ins c (List.mem_of_getElem? ec)).resolve_right fun h => c1 ((etn c).mpr h)
        refine iteF ⟨_, rfl, s1, fun i d hi hd => ?_⟩
        by_cases e : i = j
        · subst e
          rw [ec] at hd
          cases hd
          exact ⟨sok, c2⟩
        · exact ah i d (by omega) hd
    · rintro σ H1 ⟨u1, rfl, s1, ah⟩
      rcases h with ⟨i, wi, k⟩ | ⟨so, k⟩
      · exfalso
        obtain ⟨c, hc, b⟩ := wi.bad
        have il := (List.getElem?_eq_some_iff.mp hc).1
        rw [len_cps] at il
        obtain ⟨h1, h2⟩ := ah i c il hc
        rcases b with b | b
        · exact b h1
        · exact h2 b
      · exact k _ s1
def spWr4 (K : PySem.W.Frag) : Sp := fun vs H Q _ => ∃ sv rv : V, vs = [sv, rv] ∧ SigV K H sv ∧ (∀ a us, rv = .ref a → H a = some (.lst us) → ∀ u ∈ us, RowTh K H u) ∧
  ((∃ part u, WTab K H sv rv part u ∧ ∀ H' q, Same H H' → H' q = some (.tup [.str part, u]) → Q (.ref q) H') ∨ ∃ z pr rs, sv = .str z ∧ rv = .ref pr ∧ RowsAt H pr rs ∧ TabOk z rs ∧ ∀ H', Same H H' → Q .non H')
theorem cal__law_wrong4 (T : Tx K mg) : Cal P w K mg base CX0 2 "_law_wrong" (spWr4 K) := by
  have C__law_wrong_signs := cal__law_wrong_signs (P := P) (w := w) (base := base) T
  obtain ⟨fd, F⟩ := T.d__law_wrong
  refine ⟨_, fd, P__law_wrong, F.ok sc__law_wrong (fun vs H Q E h => ?_) (fun cdv A outer s H vs Q E hr h => ?_), T.g__law_wrong, F.kp, F.bindsN (ps := P__law_wrong) fun _ _ _ _ _ _ us hl => match us, hl with | [_, _], _ => rfl⟩
  · obtain ⟨sv, rv, rfl, _⟩ := h
    rfl
  · obtain ⟨sv, rv, rfl, sg, rg, h⟩ := h
    refine ⟨_, (PSs.nox (pss_cons (ps_set (i := 2) sc__law_wrong.nd rfl (Or.inl rfl) (pe_cal C__law_wrong_signs (by first | exact hr | exact hr.mono (by decide)) (by rfl) (pa_cons (pv 0) pa_nil)))
      (pss_cons (ps_if (pt_cmpR op_notN (pv 2) pe_non (nomark _)) (pss_one (ps_ret (pv 2))) pss_nil)
      (pss_cons (ps_if (PW.pt (pw_or (pt_not (pt_val (pe_callB (id := "isinstance") call_isi (by rfl) T.n_isinstance (by decide +kernel) (pa_cons (pv 1) (pa_cons (pe_bltn (v := .ty "list") (by rfl) T.n_list (by decide +kernel) rfl) pa_nil))))) (pw_or1 (pt_cmpR op_gt (pe_callB (id := "len") call_len_seq (by rfl) T.n_len (by decide +kernel) (pa_cons (pv 1) pa_nil)) pe_int (nomark _))))) (pss_one (ps_ret (pe_tupG (pa_cons pe_str (pa_cons pe_non pa_nil))))) pss_nil)
      (pss_cons (ps_set (i := 3) sc__law_wrong.nd rfl (Or.inl rfl) (pe_callTy (T := "list") (call_listSG rfl) (by rfl) T.n_list (by decide +kernel) (pa_cons (pv 0) pa_nil)))
      (pss_cons (ps_for PassesOwn.never rfl (pi_enum (by rfl) T.n_enumerate (pa_cons (pv 1) pa_nil)) (pg_tup rfl (pgs_cons (pg_name (i := 4) sc__law_wrong.nd rfl (Or.inl rfl)) (pgs_cons (pg_name (i := 5) sc__law_wrong.nd rfl (Or.inl rfl)) pgs_nil))) (pss_cons (ps_if (PW.pt (pw_or (pt_not (pt_val (pe_callB (id := "isinstance") call_isi (by rfl) T.n_isinstance (by decide +kernel) (pa_cons (pv 5) (pa_cons (pe_bltn (v := .ty "tuple") (by rfl) T.n_tuple (by decide +kernel) rfl) pa_nil))))) (pw_or1 (pt_cmpR op_ne (pe_callB (id := "len") call_len_seq (by rfl) T.n_len (by decide +kernel) (pa_cons (pv 5) pa_nil)) pe_int (nomark _))))) (pss_one (ps_ret (pe_tupG (pa_cons pe_str (pa_cons (pv 4) pa_nil))))) pss_nil)
      (pss_cons (ps_if (PW.pt (pw_or (pt_not (pt_val (pe_callB (id := "isinstance") call_isi (by rfl) T.n_isinstance (by decide +kernel) (pa_cons (pe_ix ix_tup (pv 5) pe_int (fun _ _ => rfl)) (pa_cons (pe_bltn (v := .ty "str") (by rfl) T.n_str (by decide +kernel) rfl) pa_nil))))) (pw_or1 (pt_not (pt_val (pe_callB (id := "isinstance") call_isi (by rfl) T.n_isinstance (by decide +kernel) (pa_cons (pe_ix ix_tup (pv 5) pe_int (fun _ _ => rfl)) (pa_cons (pe_bltn (v := .ty "str") (by rfl) T.n_str (by decide +kernel) rfl) pa_nil)))))))) (pss_one (ps_ret (pe_tupG (pa_cons pe_str (pa_cons (pv 4) pa_nil))))) pss_nil)
      (pss_cons (ps_if (PW.pt (pw_or (pt_cmpR op_notIn_seq (pe_ix ix_tup (pv 5) pe_int (fun _ _ => rfl)) (pv 3) rfl) (pw_or (pt_cmpR op_notIn_seq (pe_ix ix_tup (pv 5) pe_int (fun _ _ => rfl)) (pv 3) rfl) (pw_or1 (pt_cmpR op_in_seq (pe_op op_add_str (pe_ix ix_tup (pv 5) pe_int (fun _ _ => rfl)) (pe_ix ix_tup (pv 5) pe_int (fun _ _ => rfl))) (pv 3) rfl))))) (pss_one (ps_ret (pe_tupG (pa_cons pe_str (pa_cons (pv 4) pa_nil))))) pss_nil)
      (pss_cons (ps_if (pt_cmpR op_gt (pe_callB (id := "len") call_len_str (by rfl) T.n_len (by decide +kernel) (pa_cons (pe_op op_add_str (pe_ix ix_tup (pv 5) pe_int (fun _ _ => rfl)) (pe_ix ix_tup (pv 5) pe_int (fun _ _ => rfl))) pa_nil)) pe_int (nomark _)) (pss_one (ps_ret (pe_tupG (pa_cons pe_str (pa_cons (pv 4) pa_nil))))) pss_nil)
      (pss_one (ps_expr (pe_bm PySem.F.plainAttrs_list PySem.F.slot_list_append PySem.F.type_list_append mt_append (pv 3) (pa_cons (pe_op op_add_str (pe_ix ix_tup (pv 5) pe_int (fun _ _ => rfl)) (pe_ix ix_tup (pv 5) pe_int (fun _ _ => rfl))) pa_nil)))))))))
      (pss_one (ps_ret pe_non)))))))), ?_⟩
    have h' : (∃ u, WSigns K H sv u ∧ ∀ H' q, Same H H' → H' q = some (.tup [.str (Str.ofString "signs"), u]) → Q (.ref q) H') ∨ ∃ z, sv = .str z ∧ SignsOk z ∧ 1 ≤ z.length ∧ z.length ≤ 12 ∧ ((NoLst K H rv ∧ ∀ H' q, Same H H' → H' q = some (.tup [.str (Str.ofString "rows"), .non]) → Q (.ref q) H') ∨
        ∃ a us, rv = .ref a ∧ H a = some (.lst us) ∧ us.length ≤ 1000 ∧ ((24 < us.length ∧ ∀ H' q, Same H H' → H' q = some (.tup [.str (Str.ofString "rows"), .non]) → Q (.ref q) H') ∨
          (us.length ≤ 24 ∧ ∃ rs, RowsTo K H z us rs ∧ ((rs.length < us.length ∧ ∀ H' q, Same H H' → H' q = some (.tup [.str (Str.ofString "rows"), .int (rs.length : Nat)]) → Q (.ref q) H') ∨ (rs.length = us.length ∧ ∀ H', Same H H' → Q .non H'))))) := by
      rcases h with ⟨part, u, ⟨rfl, ws⟩ | ⟨rfl, z, rfl, so, z1, z12, ⟨nl, rfl⟩ | ⟨a, us, rfl, hA, ul, l24, rfl⟩ | ⟨a, us, rs, rfl, hA, ul, rt, rl, rfl⟩⟩, k⟩ | ⟨z, pr, rs, rfl, rfl, ⟨as, hpr, hts⟩, tk, k⟩
      · exact .inl ⟨u, ws, k⟩
      · exact .inr ⟨z, rfl, so, z1, z12, .inl ⟨nl, k⟩⟩
      · exact .inr ⟨z, rfl, so, z1, z12, .inr ⟨a, us, rfl, hA, ul, .inl ⟨l24, k⟩⟩⟩
      · exact .inr ⟨z, rfl, so, z1, z12, .inr ⟨a, us, rfl, hA, by omega, .inr ⟨ul, rs, rt, .inl ⟨rl, k⟩⟩⟩⟩
      · have al := Paired.len hts
        have many := tk.many
        refine .inr ⟨z, rfl, tk.sg, tk.n1, tk.n12, .inr ⟨pr, _, rfl, hpr, by rw [List.length_map]; omega, .inr ⟨by rw [List.length_map]; omega, rs, ⟨⟨as, by rw [← al, ← List.length_map (f := V.ref) (as := as), List.take_length], hts⟩, by rw [List.length_map]; omega, tk, fun v e => ?_⟩, .inr ⟨by rw [List.length_map]; omega, k⟩⟩⟩⟩
        have := (List.getElem?_eq_some_iff.mp e).1
        rw [List.length_map] at this
        omega
    rcases h' with ⟨u, ws, k⟩ | ⟨z, rfl, so, z1, z12, h'⟩
    · refine ⟨_, rfl, sv, rfl, sg, .inl ⟨u, ws, fun H1 q s1 hq => ⟨_, rfl, rfl, _, rfl, iteT ⟨_, rfl, k _ q s1 hq⟩⟩⟩⟩
    refine ⟨_, rfl, _, rfl, sg, .inr ⟨z, rfl, so, z1, z12, fun H1 s1 => ⟨_, rfl, rfl, _, rfl, iteF ?_⟩⟩⟩
    rcases h' with ⟨⟨ty, hty, hk⟩, k⟩ | ⟨a, us, rfl, hA, ul, h'⟩
    · exact ⟨_, rfl, _, _, _, _, _, rfl, .ty "list", tyx_same hty s1, hk, _, rfl, iteT ⟨(by show 2 ≤ sizeLine; decide), fun q H2 nq s2 hq => k _ q (s1.trans s2) hq⟩⟩
    have hA1 := s1 _ _ hA
    refine ⟨_, rfl, _, _, _, _, _, rfl, .ty "list", .base (.lst hA1), isLst, _, rfl, iteF ?_⟩
    refine ⟨_, rfl, a, _, rfl, .inl (SqL.of hA1), _, _, rfl, rfl, _, rfl, ?_⟩
    rcases h' with ⟨l24, k⟩ | ⟨l24, rs, rt, hk⟩
    · rw [decide_eq_true (show (24 : Int) < ((us.length : Nat) : Int) by omega)]
      exact iteT ⟨(by show 2 ≤ sizeLine; decide), fun q H2 nq s2 hq => k _ q (s1.trans s2) hq⟩
    rw [decide_eq_false (show ¬ (24 : Int) < ((us.length : Nat) : Int) by omega)]
    refine iteF ?_
    refine ⟨_, rfl, z, rfl, sz (by omega), fun lp H2 nlp s2 hlp => ?_⟩
    have e0 : (sgs z).map V.str = (pcs z (rs.take 0)).map V.str := by rw [List.take_zero]; unfold pcs; rw [List.map_nil, List.append_nil]
    rw [e0] at hlp
    have s02 := s1.trans s2
    have nlpH := s1.free nlp
    obtain ⟨as, eas, pas⟩ := rt.pre
    have rle := rt.le
    have tk := rt.ok
    refine ⟨_, rfl, a, _, rfl, SqL.of (s02 _ _ hA), for_enum (K := K) (a := a) (xs := us) (fun i σ H' => ∃ u1 u2 : Option V, σ = [some (.str z), some (.ref a), some .non, some (.ref lp), u1, u2] ∧ i ≤ rs.length ∧ Same H H' ∧ H' lp = some (.lst ((pcs z (rs.take i)).map V.str)))
      ⟨_, _, rfl, Nat.zero_le _, s02, hlp⟩ (fun i σ H' _ ⟨_, _, _, _, s, _⟩ => SqL.of (s _ _ hA)) ?_ ?_⟩
    · rintro i y e σ H3 hi he ⟨u1, u2, rfl, il, s3, hl3⟩
      have se := Same.new (o := .tup [.int (i : Nat), y]) he
      refine ⟨e, _, rfl, SqT.of upd_same, rfl, _, _, rfl, _, _, rfl, rfl, ?_⟩
      have s4 := s3.trans se
      have hl4 := se _ _ hl3
      revert s4 hl4
      generalize (upd H3 e (.tup [.int (i : Nat), y])) = H4
      intro s4 hl4
      have rowcase : (i < rs.length ∧ ∃ b l r, y = .ref b ∧ H b = some (.tup [.str l, .str r]) ∧ rs[i]? = some (l, r)) ∨ ((NoTup K H y ∨ ∃ b us', y = .ref b ∧ H b = some (.tup us') ∧ (us'.length ≠ 2 ∨ ∃ v1 v2, us' = [v1, v2] ∧ Tu K H v1 ∧ Tu K H v2 ∧ BadParts K H z (rs.take i) v1 v2)) ∧ ∀ H' q, Same H H' → H' q = some (.tup [.str (Str.ofString "rows"), .int (i : Nat)]) → Q (.ref q) H') := by
        by_cases c : i < rs.length
        · refine .inl ⟨c, ?_⟩
          have h1 : (us.take rs.length)[i]? = some y := by rw [List.getElem?_take, if_pos c]; exact hi
          rw [eas, List.getElem?_map] at h1
          cases eb : as[i]? with
          | none => rw [eb] at h1; cases h1
          | some b =>
            rw [eb] at h1
            cases h1
            obtain ⟨r, hr, hb⟩ := Paired.get pas eb
            exact ⟨b, r.1, r.2, rfl, hb, hr⟩
        · have ei : i = rs.length := by omega
          subst ei
          have iu := (List.getElem?_eq_some_iff.mp hi).1
          rcases hk with ⟨_, k⟩ | ⟨e, _⟩
          · refine .inr ⟨?_, k⟩
            rcases rt.nx y hi with nt | ⟨b, us', rfl, hB, _, n2 | ⟨v1, v2, rfl, bp⟩⟩
            · exact .inl nt
            · exact .inr ⟨b, us', rfl, hB, .inl n2⟩
            · rcases rg a us rfl hA (.ref b) (List.mem_of_getElem? hi) with nt | ⟨b', us2, e, hB', _, n2 | ⟨w1, w2, rfl, t1, t2⟩⟩
              · exact .inl nt
              · cases e
                rw [hB] at hB'
                cases hB'
                exact absurd rfl n2
              · cases e
                rw [hB] at hB'
                cases hB'
                rw [List.take_length]
                exact .inr ⟨b, _, rfl, hB, .inr ⟨v1, v2, rfl, t1, t2, bp⟩⟩
          · omega
      have at0 : ∀ (u v : V), atI [u, v] 0 = some u := fun u v => (show atI _ ((0 : Nat) : Int) = _ from ats rfl)
      have at1 : ∀ (u v : V), atI [u, v] 1 = some v := fun u v => (show atI _ ((1 : Nat) : Int) = _ from ats rfl)
      have e22 : ∀ u v : V, decide (V.int ((([u, v] : List V).length : Nat) : Int) = V.int 2) = true := fun u v => decide_eq_true rfl
      rcases rowcase with ⟨c, b, l, r, rfl, hB, hri⟩ | ⟨⟨ty, hty, hk'⟩ | ⟨b, us', rfl, hB, n2 | ⟨v1, v2, rfl, t1, t2, bp⟩⟩, k⟩
      · have hB4 := s4 _ _ hB
        have ro := tk.rows i _ hri
        have lm : l ∈ pcs z (rs.take i) := ro.lm
        have rm : r ∈ pcs z (rs.take i) := ro.rm
        have ln : (l ++ r).length ≤ 16 := ro.len
        have nw : ¬ l ++ r ∈ pcs z (rs.take i) := ro.new
        have la := app_len l r
        refine ⟨_, rfl, _, _, _, _, _, rfl, .ty "tuple", .base (.tup hB4), isTup, _, rfl, iteF ⟨_, rfl, b, _, rfl, .inr (SqT.of hB4), rfl, _, rfl, ?_⟩⟩
        rw [e22]
        refine iteF ⟨_, rfl, b, _, _, _, rfl, rfl, SqT.of hB4, at0 _ _, _, _, _, _, _, rfl, .ty "str", .base (.str _), isStr, _, rfl, iteF ⟨_, rfl, b, _, _, _, rfl, rfl, SqT.of hB4, at1 _ _, _, _, _, _, _, rfl, .ty "str", .base (.str _), isStr, _, rfl, iteF ?_⟩⟩
        refine ⟨_, rfl, b, _, _, _, rfl, rfl, SqT.of hB4, at0 _ _, _, rfl, lp, _, rfl, .inl (SqL.of hl4), rfl, flat_str _, _, rfl, ?_⟩
        rw [inV_str, decide_eq_true lm]
        refine iteF ⟨_, rfl, b, _, _, _, rfl, rfl, SqT.of hB4, at1 _ _, _, rfl, lp, _, rfl, .inl (SqL.of hl4), rfl, flat_str _, _, rfl, ?_⟩
        rw [inV_str, decide_eq_true rm]
        refine iteF ⟨_, rfl, b, _, _, _, rfl, rfl, SqT.of hB4, at0 _ _, _, rfl, b, _, _, _, rfl, rfl, SqT.of hB4, at1 _ _, _, _, rfl, rfl, sz (by omega), _, rfl, lp, _, rfl, .inl (SqL.of hl4), rfl, flat_str _, _, rfl, ?_⟩
        rw [inV_str, decide_eq_false nw]
        refine iteF ⟨_, rfl, b, _, _, _, rfl, rfl, SqT.of hB4, at0 _ _, _, rfl, b, _, _, _, rfl, rfl, SqT.of hB4, at1 _ _, _, _, rfl, rfl, sz (by omega), _, rfl, sz (by omega), _, _, rfl, rfl, _, rfl, ?_⟩
        rw [decide_eq_false (show ¬ (16 : Int) < (((l ++ r).length : Nat) : Int) by omega)]
        have pl := pcs_len z (rs.take i)
        have tkl : (rs.take i).length ≤ 24 := by rw [List.length_take]; omega
        refine iteF ⟨_, rfl, .inl ⟨rfl, _, SqL.of hl4⟩, _, rfl, b, _, _, _, rfl, rfl, SqT.of hB4, at0 _ _, _, rfl, b, _, _, _, rfl, rfl, SqT.of hB4, at1 _ _, _, _, rfl, rfl, sz (by omega), lp, _, _, rfl, rfl, hl4, (by rw [List.length_map, pl]; exact szl (by omega)), _, _, rfl, c, Same.mut s4 nlpH, ?_⟩
        rw [upd_same, List.take_add_one, hri]
        show some (HO.lst _) = some (HO.lst ((pcs z (rs.take i ++ [(l, r)])).map V.str))
        rw [pcs_snoc, List.map_append]
        rfl
      · exact ⟨_, rfl, _, _, _, _, _, rfl, .ty "tuple", tyx_same hty s4, hk', _, rfl, iteT ⟨_, rfl, (by show 2 ≤ sizeLine; decide), fun q H5 nq s5 hq => k _ q (s4.trans s5) hq⟩⟩
      · have hB4 := s4 _ _ hB
        refine ⟨_, rfl, _, _, _, _, _, rfl, .ty "tuple", .base (.tup hB4), isTup, _, rfl, iteF ⟨_, rfl, b, _, rfl, .inr (SqT.of hB4), rfl, _, rfl, ?_⟩⟩
        have e2 : decide (V.int ((us'.length : Nat) : Int) = V.int 2) = false := decide_eq_false fun e => n2 (by have := V.int.inj e; omega)
        rw [e2]
        exact iteT ⟨_, rfl, (by show 2 ≤ sizeLine; decide), fun q H5 nq s5 hq => k _ q (s4.trans s5) hq⟩
      · have hB4 := s4 _ _ hB
        have ret : ∀ {H5 : Hp}, Same H4 H5 → ∀ q, H5 q = some (.tup [.str (Str.ofString "rows"), .int (i : Nat)]) → Q (.ref q) H5 := fun s5 q hq => k _ q (s4.trans s5) hq
        refine ⟨_, rfl, _, _, _, _, _, rfl, .ty "tuple", .base (.tup hB4), isTup, _, rfl, iteF ⟨_, rfl, b, _, rfl, .inr (SqT.of hB4), rfl, _, rfl, ?_⟩⟩
        rw [e22]
        refine iteF ?_
        rcases t1 with ⟨ty, hty, hk'⟩ | ⟨l, rfl, ll⟩
        · exact ⟨_, rfl, b, _, _, _, rfl, rfl, SqT.of hB4, at0 _ _, _, _, _, _, _, rfl, .ty "str", tyx_same hty s4, hk', _, rfl, iteT ⟨_, rfl, (by show 2 ≤ sizeLine; decide), fun q H5 nq s5 hq => ret s5 q hq⟩⟩
        refine ⟨_, rfl, b, _, _, _, rfl, rfl, SqT.of hB4, at0 _ _, _, _, _, _, _, rfl, .ty "str", .base (.str _), isStr, _, rfl, iteF ?_⟩
        rcases t2 with ⟨ty, hty, hk'⟩ | ⟨r, rfl, rl2⟩
        · exact ⟨_, rfl, b, _, _, _, rfl, rfl, SqT.of hB4, at1 _ _, _, _, _, _, _, rfl, .ty "str", tyx_same hty s4, hk', _, rfl, iteT ⟨_, rfl, (by show 2 ≤ sizeLine; decide), fun q H5 nq s5 hq => ret s5 q hq⟩⟩
        refine ⟨_, rfl, b, _, _, _, rfl, rfl, SqT.of hB4, at1 _ _, _, _, _, _, _, rfl, .ty "str", .base (.str _), isStr, _, rfl, iteF ?_⟩
        have la := app_len l r
        refine ⟨_, rfl, b, _, _, _, rfl, rfl, SqT.of hB4, at0 _ _, _, rfl, lp, _, rfl, .inl (SqL.of hl4), rfl, flat_str _, _, rfl, ?_⟩
        rw [inV_str]
        by_cases lm : l ∈ pcs z (rs.take i)
        · rw [decide_eq_true lm]
          refine iteF ⟨_, rfl, b, _, _, _, rfl, rfl, SqT.of hB4, at1 _ _, _, rfl, lp, _, rfl, .inl (SqL.of hl4), rfl, flat_str _, _, rfl, ?_⟩
          rw [inV_str]
          by_cases rm : r ∈ pcs z (rs.take i)
          · rw [decide_eq_true rm]
            refine iteF ⟨_, rfl, b, _, _, _, rfl, rfl, SqT.of hB4, at0 _ _, _, rfl, b, _, _, _, rfl, rfl, SqT.of hB4, at1 _ _, _, _, rfl, rfl, sz (by omega), _, rfl, lp, _, rfl, .inl (SqL.of hl4), rfl, flat_str _, _, rfl, ?_⟩
            rw [inV_str]
            by_cases nw : l ++ r ∈ pcs z (rs.take i)
            · rw [decide_eq_true nw]
              exact iteT ⟨_, rfl, (by show 2 ≤ sizeLine; decide), fun q H5 nq s5 hq => ret s5 q hq⟩
            rw [decide_eq_false nw]
            refine iteF ⟨_, rfl, b, _, _, _, rfl, rfl, SqT.of hB4, at0 _ _, _, rfl, b, _, _, _, rfl, rfl, SqT.of hB4, at1 _ _, _, _, rfl, rfl, sz (by omega), _, rfl, sz (by omega), _, _, rfl, rfl, _, rfl, ?_⟩
            have lng : 16 < (l ++ r).length := by
              rcases bp with bp | ⟨l', e, _, bp | ⟨r', e2, _, bp | bp⟩⟩
              · exact absurd lm (noPc_str bp)
              · exact absurd rm (noPc_str bp)
              · cases e; cases e2; exact bp
              · cases e; cases e2; exact absurd bp nw
            rw [decide_eq_true (show (16 : Int) < (((l ++ r).length : Nat) : Int) by omega)]
            exact iteT ⟨_, rfl, (by show 2 ≤ sizeLine; decide), fun q H5 nq s5 hq => ret s5 q hq⟩
          · rw [decide_eq_false rm]
            exact iteT ⟨_, rfl, (by show 2 ≤ sizeLine; decide), fun q H5 nq s5 hq => ret s5 q hq⟩
        · rw [decide_eq_false lm]
          exact iteT ⟨_, rfl, (by show 2 ≤ sizeLine; decide), fun q H5 nq s5 hq => ret s5 q hq⟩
    · rintro σ H3 ⟨u1, u2, rfl, il, s3, hl3⟩
      rcases hk with ⟨e, _⟩ | ⟨_, k⟩
      · omega
      · exact k _ s3
end
end Jr
namespace Jr
open PySem PySem.Spec PyProof.Rows L2
/-! ### lists of flat things: == -/
def fdV : V → PyData
  | .bl b => .bool b
  | .int i => .int i
  | .str s => .str s
  | _ => .none
def Fl : V → Prop
  | .non => True
  | .bl _ => True
  | .int _ => True
  | .str s => Asc s
  | _ => False
section
variable {K : PySem.W.Frag} {H : Hp}
theorem dpFl {v : V} (h : Fl v) : Dp K H v (fdV v) := by
  cases v with
  | non => exact .non
  | bl b => exact .bl b
  | int i => exact .int i
  | str s => exact .str s
  | _ => exact h.elim
theorem dpAFl : ∀ {xs : List V}, (∀ x ∈ xs, Fl x) → DpAll K H xs (xs.map fdV)
  | [], _ => .nil
  | x :: xs, h => .cons (dpFl (h x List.mem_cons_self)) (dpAFl fun y hy => h y (List.mem_cons_of_mem _ hy))
theorem dpL {a : Addr} {xs : List V} (h : SqL K H a xs) (f : ∀ x ∈ xs, Fl x) : Dp K H (.ref a) (.list (xs.map fdV)) := .lst h (dpAFl f)
theorem dpT {a : Addr} {xs : List V} (h : SqT K H a xs) (f : ∀ x ∈ xs, Fl x) : Dp K H (.ref a) (.tuple (xs.map fdV)) := .tup h (dpAFl f)
end
theorem lay_fl {v : V} (h : Fl v) : PyData.canLay0 (fdV v) = true := by
  cases v with
  | str s => exact asc_ok h
  | non => rfl
  | bl b => rfl
  | int i => rfl
  | _ => exact h.elim
theorem layA_fl : ∀ {xs : List V}, (∀ x ∈ xs, Fl x) → PyData.canLayAll0 (xs.map fdV) = true
  | [], _ => by simp [PyData.canLayAll0]
  | x :: xs, h => by
    have h1 := lay_fl (h x List.mem_cons_self)
    have h2 := layA_fl fun y hy => h y (List.mem_cons_of_mem _ hy)
    simp [PyData.canLayAll0, h1, h2]
theorem dep_fl (v : V) : PyData.depth (fdV v) = 0 := by cases v <;> rfl
theorem depA_fl : ∀ xs : List V, PyData.depthAll (xs.map fdV) = 0
  | [] => by simp [PyData.depthAll]
  | x :: xs => by simp [PyData.depthAll, dep_fl, depA_fl xs]
theorem shL {xs : List V} (h : ∀ x ∈ xs, Fl x) : SeqAt.shaped (.list (xs.map fdV)) = true := by
  unfold SeqAt.shaped
  have h1 : PyData.canLay0 (.list (xs.map fdV)) = true := by simp [PyData.canLay0, layA_fl h]
  have h2 : PyData.depth (.list (xs.map fdV)) = 1 := by simp [PyData.depth, depA_fl]
  rw [h1, h2]; rfl
theorem shT {xs : List V} (h : ∀ x ∈ xs, Fl x) : SeqAt.shaped (.tuple (xs.map fdV)) = true := by
  unfold SeqAt.shaped
  have h1 : PyData.canLay0 (.tuple (xs.map fdV)) = true := by simp [PyData.canLay0, layA_fl h]
  have h2 : PyData.depth (.tuple (xs.map fdV)) = 1 := by simp [PyData.depth, depA_fl]
  rw [h1, h2]; rfl
theorem eqL {xs : List V} (h : ∀ x ∈ xs, Fl x) : PyData.eqv (.list (xs.map fdV)) (.list (xs.map fdV)) = true := SeqAt.eqv_refl _ (by simp [PyData.canLay0, layA_fl h])
theorem eqT {xs : List V} (h : ∀ x ∈ xs, Fl x) : PyData.eqv (.tuple (xs.map fdV)) (.tuple (xs.map fdV)) = true := SeqAt.eqv_refl _ (by simp [PyData.canLay0, layA_fl h])
/-! ### comprehensions over enumerate(text) -/
section
variable {g : TG} {tt : TT} {te : TE} {vs : List Nat} {σ : L2.St} {H1 : Hp} {D : Addr} {Qd : Hp → Prop}
def enL (x : Str) (p : Nat → Nat → Bool) (f : Nat → Nat → V) (n : Nat) : List V := ((x.cps.toList.zipIdx.take n).filter fun q => p q.2 q.1).map fun q => f q.2 q.1
theorem lc_enumSM {x : Str} {p : Nat → Nat → Bool} {f : Nat → Nat → V} (hD : H1 D = none) (hlen : x.cps.toList.length ≤ 100000)
    (turn : ∀ i c, x.cps.toList[i]? = some c → ∀ (H' : Hp) (T : Addr), Same H1 H' → H' T = some (.tup [.int (i : Nat), .str (sgn c)]) → ∀ (N : Hp → Prop) (M : V → Hp → Prop), (p i c = true → M (f i c) H') → (p i c = false → N H') →
      g (.ref T) (wipe σ vs) H' fun σ2 H2 => wipe σ2 vs = wipe σ vs ∧ tt σ2 H2 fun b H3 => if b = true then te σ2 H3 M else N H3)
    (hd : ∀ H, Same H1 H → H D = some (.lst (enL x p f x.cps.toList.length)) → Qd H) :
    ∃ W : Nat → Nat → Hp → Prop, (∃ m, W 0 m (upd H1 D (.lst []))) ∧ ∀ i m H, W i m H →
      ((Ites x).stop i H ∧ Qd H) ∨ ((Ites x).go i H ∧ ∃ Nx : Hp → Prop, (∀ H', Nx H' → ∃ m', m' < m ∧ W (i + 1) m' H') ∧ ∀ y H', (Ites x).yld i H y H' → g y (wipe σ vs) H' fun σ2 H2 => wipe σ2 vs = wipe σ vs ∧ tt σ2 H2 fun b H3 =>
        if b = true then te σ2 H3 fun y H4 => ∃ acc, H4 D = some (.lst acc) ∧ acc.length < sizeLine ∧ Nx (upd H4 D (.lst (acc ++ [y]))) else Nx H3) := by
  have es : x.cps.toList.length = x.cps.size := by simp
  refine ⟨fun i m H => m = x.cps.size - i ∧ i ≤ x.cps.size ∧ Same H1 H ∧ H D = some (.lst (enL x p f i)), ⟨x.cps.size, by simp, Nat.zero_le _, Same.new hD, upd_same⟩, ?_⟩
  rintro i m H ⟨rfl, hi, sm, hL⟩
  by_cases hlt : i < x.cps.size
  · refine .inr ⟨hlt, (fun H' => Same H1 H' ∧ H' D = some (.lst (enL x p f (i + 1)))), fun H' p' => ⟨x.cps.size - (i + 1), by omega, rfl, hlt, p'⟩, fun y H' z => ?_⟩
    obtain ⟨T, c, rfl, hT, hc, rfl⟩ := z
    have hc' : x.cps.toList[i]? = some c := by rw [Array.getElem?_toList]; exact hc
    have hz : x.cps.toList.zipIdx[i]? = some (c, i) := by rw [List.getElem?_zipIdx, hc']; simp
    have e : x.cps.toList.zipIdx.take (i + 1) = x.cps.toList.zipIdx.take i ++ [(c, i)] := by rw [List.take_add_one, hz]; rfl
    have tD : T ≠ D := fun z => by rw [z, hL] at hT; cases hT
    have hL2 := Same.new (o := .tup [.int (i : Nat), .str (sgn c)]) hT _ _ hL
    refine turn i c hc' _ T (Same.put sm hT) upd_same _ _ (fun hp => ⟨_, hL2, ?_, Same.mut (Same.put sm hT) hD, ?_⟩) (fun hp => ⟨Same.put sm hT, ?_⟩)
    · unfold enL
      have h1 : ((x.cps.toList.zipIdx.take i).filter fun q => p q.2 q.1).length ≤ (x.cps.toList.zipIdx.take i).length := List.length_filter_le ..
      have h2 : (x.cps.toList.zipIdx.take i).length ≤ i := by rw [List.length_take]; omega
      rw [List.length_map]
      exact szl (by omega)
    · rw [upd_same]
      unfold enL
      rw [e, List.filter_append, List.map_append]
      simp [hp]
    · rw [hL2]
      unfold enL
      rw [e, List.filter_append, List.map_append]
      simp [hp]
  · have e : i = x.cps.size := by omega
    subst e
    exact .inl ⟨Nat.le_refl _, hd H sm (by rw [es]; exact hL)⟩
theorem enL_first (x : Str) (P : Nat → Bool) : (enL x (fun _ c => P c) (fun i _ => V.int (i : Nat)) x.cps.toList.length).take 1 = (x.cps.toList.findIdx? P).toList.map fun i => V.int (i : Nat) := by
  unfold enL
  have e0 : x.cps.toList.zipIdx.take x.cps.toList.length = x.cps.toList.zipIdx := List.take_of_length_le (by rw [List.length_zipIdx]; exact Nat.le_refl _)
  rw [e0]
  have key : ∀ (l : List Nat) (k : Nat), (((l.zipIdx k).filter fun q => P q.1).map fun q => V.int ((q.2 : Nat) : Int)).take 1 = (l.findIdx? P).toList.map fun i => V.int ((i + k : Nat) : Int) := fun l => by
    induction l with
    | nil => intro k; rfl
    | cons c l ih =>
      intro k
      rw [List.zipIdx_cons, List.filter_cons, List.findIdx?_cons]
      by_cases h : P c = true
      · rw [if_pos h, if_pos h]
        simp
      · rw [if_neg h, if_neg h, ih (k + 1)]
        cases l.findIdx? P with
        | none => rfl
        | some j =>
          show [V.int ((j + (k + 1) : Nat) : Int)] = [V.int ((j + 1 + k : Nat) : Int)]
          rw [show j + (k + 1) = j + 1 + k by omega]
  have := key x.cps.toList 0
  simpa using this
end
end Jr
namespace Jr
open PySem PySem.Spec PyProof.Rows L2
/-! ### deep data: what == reads, and its depth -/
section
variable {K : PySem.W.Frag} {H H' : Hp}
theorem sqT_same' {a : Addr} {xs : List V} (s : Same H H') (h : SqT K H a xs) : SqT K H' a xs := by
  rcases h with (h | ⟨o, h⟩) | h
  · exact .inl (.inl (s _ _ h))
  · exact .inl (.inr ⟨o, s _ _ h⟩)
  · exact .inr h
mutual
theorem dp_same (s : Same H H') : ∀ (d : PyData) (v : V), Dp K H v d → Dp K H' v d
  | .none, _, h => by cases h; exact .non
  | .bool b, _, h => by cases h; exact .bl b
  | .int i, _, h => by cases h; exact .int i
  | .str x, _, h => by cases h; exact .str x
  | .list ds, _, h => by cases h with | lst g t => exact .lst (s.seq g) (dpA_same s ds _ t)
  | .tuple ds, _, h => by cases h with | tup g t => exact .tup (sqT_same' s g) (dpA_same s ds _ t)
  | .dict _, _, h => by cases h
theorem dpA_same (s : Same H H') : ∀ (ds : List PyData) (vs : List V), DpAll K H vs ds → DpAll K H' vs ds
  | [], _, h => by cases h; exact .nil
  | d :: ds, _, h => by cases h with | cons g t => exact .cons (dp_same s d _ g) (dpA_same s ds _ t)
end
/-- v is d to ==, at most n deep -/
structure Ly (K : PySem.W.Frag) (H : Hp) (n : Nat) (v : V) (d : PyData) : Prop where
  dp : Dp K H v d
  lay : PyData.canLay0 d = true
  dep : PyData.depth d ≤ n
structure LyA (K : PySem.W.Frag) (H : Hp) (n : Nat) (vs : List V) (ds : List PyData) : Prop where
  dp : DpAll K H vs ds
  lay : PyData.canLayAll0 ds = true
  dep : PyData.depthAll ds ≤ n
theorem Ly.same {n : Nat} {v : V} {d : PyData} (h : Ly K H n v d) (s : Same H H') : Ly K H' n v d := ⟨dp_same s _ _ h.dp, h.lay, h.dep⟩
theorem LyA.same {n : Nat} {v : List V} {d : List PyData} (h : LyA K H n v d) (s : Same H H') : LyA K H' n v d := ⟨dpA_same s _ _ h.dp, h.lay, h.dep⟩
theorem Ly.mono {n m : Nat} {v : V} {d : PyData} (h : Ly K H n v d) (l : n ≤ m) : Ly K H m v d := ⟨h.dp, h.lay, Nat.le_trans h.dep l⟩
theorem LyA.mono {n m : Nat} {v : List V} {d : List PyData} (h : LyA K H n v d) (l : n ≤ m) : LyA K H m v d := ⟨h.dp, h.lay, Nat.le_trans h.dep l⟩
theorem Ly.fl {v : V} (h : Fl v) : Ly K H 0 v (fdV v) := ⟨dpFl h, lay_fl h, by rw [dep_fl]; exact Nat.le_refl _⟩
theorem LyA.nil {n : Nat} : LyA K H n [] [] := ⟨.nil, by simp [PyData.canLayAll0], by simp [PyData.depthAll]⟩
theorem LyA.cons {n : Nat} {v : V} {vs : List V} {d : PyData} {ds : List PyData} (h : Ly K H n v d) (t : LyA K H n vs ds) : LyA K H n (v :: vs) (d :: ds) :=
  ⟨.cons h.dp t.dp, by simp [PyData.canLayAll0, h.lay, t.lay], by simp only [PyData.depthAll]; exact Nat.max_le.mpr ⟨h.dep, t.dep⟩⟩
theorem LyA.fl {n : Nat} : ∀ {xs : List V}, (∀ x ∈ xs, Fl x) → LyA K H n xs (xs.map fdV)
  | [], _ => .nil
  | x :: xs, h => .cons ((Ly.fl (h x List.mem_cons_self)).mono (Nat.zero_le _)) (LyA.fl fun y hy => h y (List.mem_cons_of_mem _ hy))
theorem LyA.app {n : Nat} : ∀ {vs ws : List V} {ds es : List PyData}, LyA K H n vs ds → LyA K H n ws es → LyA K H n (vs ++ ws) (ds ++ es)
  | [], ws, ds, es, h, g => by
    have hd := h.dp
    cases ds with
    | nil => exact g
    | cons => cases hd
  | v :: vs, ws, ds, es, h, g => by
    have hd := h.dp
    cases hd with
    | @cons _ _ d ds' a b =>
      have hl := h.lay
      simp only [PyData.canLayAll0, Bool.and_eq_true] at hl
      have hp := h.dep
      simp only [PyData.depthAll] at hp
      exact .cons ⟨a, hl.1, Nat.le_trans (Nat.le_max_left _ _) hp⟩ (LyA.app ⟨b, hl.2, Nat.le_trans (Nat.le_max_right _ _) hp⟩ g)
theorem Ly.lst {n : Nat} {a : Addr} {us : List V} {ds : List PyData} (h : SqL K H a us) (t : LyA K H n us ds) : Ly K H (n + 1) (.ref a) (.list ds) :=
  ⟨.lst h t.dp, by simp [PyData.canLay0, t.lay], by simp only [PyData.depth]; have := t.dep; omega⟩
theorem Ly.tup {n : Nat} {a : Addr} {us : List V} {ds : List PyData} (h : SqT K H a us) (t : LyA K H n us ds) : Ly K H (n + 1) (.ref a) (.tuple ds) :=
  ⟨.tup h t.dp, by simp [PyData.canLay0, t.lay], by simp only [PyData.depth]; have := t.dep; omega⟩
theorem Ly.sh {n : Nat} {v : V} {d : PyData} (h : Ly K H n v d) (l : n ≤ 64 := by decide) : SeqAt.shaped d = true := by
  unfold SeqAt.shaped
  rw [h.lay, decide_eq_true (Nat.le_trans h.dep l)]
  rfl
theorem Ly.eqv {n : Nat} {v : V} {d : PyData} (h : Ly K H n v d) : PyData.eqv d d = true := SeqAt.eqv_refl _ h.lay
theorem Ly.strs {a : Addr} {xs : List Str} (h : SqL K H a (xs.map V.str)) (f : ∀ x ∈ xs, Asc x) : Ly K H 1 (.ref a) (.list ((xs.map V.str).map fdV)) :=
  .lst h (.fl fun x hx => by
    obtain ⟨y, hy, rfl⟩ := List.mem_map.mp hx
    exact f y hy)
end
end Jr
namespace Jr
open PySem PySem.Spec PyProof.Rows L2
/-- text[::-1] -/
def revT (z : Str) : Str := ⟨z.cps.toList.reverse.toArray⟩
theorem revT_cps (z : Str) : (revT z).cps.toList = z.cps.toList.reverse := by simp [revT]
theorem revT_len (z : Str) : (revT z).length = z.length := by
  rw [← len_cps, revT_cps, List.length_reverse, len_cps]
theorem pick_rev (z : Str) : ((Builtin.Str.strSliceIndices none none (-1) z.length).filterMap (z.cps[·]?)).toArray = z.cps.toList.reverse.toArray := by
  have e : Builtin.Str.strSliceIndices none none (-1) z.length = (List.range z.cps.size).map fun k => z.cps.size - 1 - k := PySem.W.krv_sliceRange z.cps.size
  rw [e, PySem.W.krv_range, List.filterMap_reverse, PySem.W.krv_all]
theorem pe_revS {X : Cx} {e : Expr} {te : TE} {k : Nat} {p1 p2 p3 pos : Pos} (he : PE X e te) :
    PE X (.Subscript e (.Slice none none (some (.UnaryOp .USub (.Constant (.int 1) k p1) p2)) p3) pos) (fun σ H Q => te σ H fun x H1 => ∃ z : Str, x = .str z ∧ z.length ≤ sizeLine ∧ Q (.str (revT z)) H1) := by
  refine ⟨fun pins s σ H Q I h => ?_⟩
  refine Subscript_ (thn (he.run pins s σ H _ I h) fun v s1 ⟨x, H1, I1, r1, q1⟩ => ?_)
  obtain ⟨z, ex, hz, q⟩ := q1
  subst ex
  obtain ⟨t, rfl⟩ := r1
  have hst : PO X (some (.UnaryOp .USub (.Constant (.int 1) k p1) p2)) (tPart (tUn (rU fun i => .int (-i)) (tC (.int 1)))) := po_some (pe_un un_neg pe_int)
  refine wpAny_Slice (thn (po_none.run pins s1 σ H1 (fun o H2 => o = none ∧ H2 = H1) I1 ⟨rfl, rfl⟩) fun vl s2 ⟨l, H2, I2, pl, el, e2⟩ => ?_)
  subst el e2
  refine thn (po_none.run pins s2 σ H2 (fun o H3 => o = none ∧ H3 = H2) I2 ⟨rfl, rfl⟩) fun vu s3 ⟨u, H3, I3, pu, eu, e3⟩ => ?_
  subst eu e3
  refine thn (hst.run pins s3 σ H3 (fun o H4 => o = some (-1) ∧ H4 = H3) I3 ⟨1, rfl, -1, rfl, rfl, rfl⟩) fun vs s4 ⟨o, H4, I4, ps, eo, e4⟩ => ?_
  subst eo e4
  have I5 : Inv X pins σ H4 { s4 with heap := s4.heap.push { cls := .type "slice", data := .fields #[vl, vu, vs] } } := I4.kept (t' := s4.toks) fun b ob q => Heap.get?_push_of_some _ q
  obtain ⟨l', rfl, el⟩ := IsPart.raw pl
  obtain ⟨u', rfl, eu⟩ := IsPart.raw pu
  obtain ⟨st', rfl, es⟩ := IsPart.raw ps
  show wpAny (model X.prog X.w) X.A (subscriptTail e (.Slice none none (some (.UnaryOp .USub (.Constant (.int 1) k p1) p2)) p3) (.str z t) (.ref s4.heap.objs.size)) (EP X pins σ Q) X.xe { s4 with heap := s4.heap.push { cls := .type "slice", data := .fields #[partValue l', partValue u', partValue st'] } }
  refine tail_any (ops := [.str z t, .ref s4.heap.objs.size]) (typeIs_str _ _ _) (F.slot_str_getitem.lookup) ?_ (by with_unfolding_all rfl)
  have el2 : l' = none := by cases l' with | none => rfl | some a => cases el
  have eu2 : u' = none := by cases u' with | none => rfl | some a => cases eu
  subst el2 eu2
  obtain ⟨tk, rfl⟩ : ∃ tk, st' = some (-1, tk) := by
    cases st' with
    | none => cases es
    | some a =>
      obtain ⟨a1, a2⟩ := a
      have e1 : a1 = -1 := Option.some.inj es
      subst e1
      exact ⟨a2, rfl⟩
  refine wpAny_getItem_str_slice (l := none) (u := none) (st := some (-1, tk)) ⟨_, Heap.get?_push_size _ rfl, rfl, rfl⟩ rfl ?_
  show Made.post (if ((-1 : Int) == 1 && (Builtin.Str.strSliceIndices none none (-1) z.length).length == z.length) = true then Made.val (.str z t)
    else Made.str ⟨((Builtin.Str.strSliceIndices none none (-1) z.length).filterMap (z.cps[·]?)).toArray⟩) (EP X pins σ Q) _
  rw [if_neg (by simp), pick_rev]
  refine ⟨?_, .str (revT z), H4, I5.tok _, ⟨_, rfl⟩, q⟩
  have := revT_len z
  show (revT z).length ≤ sizeLine
  omega
end Jr
namespace Jr
open PySem PySem.Spec PyProof.Rows L2
theorem insig_app {a b : Str} (h1 : InSig a) (h2 : InSig b) : InSig (a ++ b) := fun c hc => by
  rw [app_cps] at hc
  rcases List.mem_append.mp hc with h | h
  · exact h1 c h
  · exact h2 c h
theorem insig_sub {a b : Str} (h : InSig a) (s : ∀ c ∈ b.cps.toList, c ∈ a.cps.toList) : InSig b := fun c hc => h c (s c hc)
theorem insig_to {a : Str} (h : InSig a) (n : Nat) : InSig (cutS a none (some (n : Int))) := insig_sub h fun c hc => by rw [cut_to] at hc; exact List.mem_of_mem_take hc
theorem insig_from {a : Str} (h : InSig a) (n : Nat) : InSig (cutS a (some (n : Int)) none) := insig_sub h fun c hc => by rw [cut_from] at hc; exact List.mem_of_mem_drop hc
theorem insig_of {z : Str} (h : SignsOk z) : InSig z := fun c hc => .inl (h.ok c hc)
theorem mod_nat (d m : Nat) (hm : 0 < m) : ∃ j : Nat, (d : Int) % (m : Int) = (j : Int) ∧ j < m := by
  have h0 := Int.emod_nonneg (d : Int) (show (m : Int) ≠ 0 by omega)
  have h1 := Int.emod_lt_of_pos (d : Int) (show (0 : Int) < (m : Int) by omega)
  obtain ⟨j, hj⟩ := Int.eq_ofNat_of_zero_le h0
  exact ⟨j, hj, by omega⟩
section
variable {P : Program} {w : World} {K : PySem.W.Frag} {mg : Str → Option Value} {base : Heap}
def spSpS4 (K : PySem.W.Frag) : Sp := fun vs H Q _ => ∃ (z : Str) (pd : Addr) (d0 d1 d2 d3 : Nat), vs = [.str z, .ref pd] ∧ SignsOk z ∧ 1 ≤ z.length ∧ z.length ≤ 12 ∧ H pd = some (.lst [.int (d0 : Nat), .int (d1 : Nat), .int (d2 : Nat), .int (d3 : Nat)]) ∧ ∀ H' v, Same H H' → SigV K H' v → Q v H'
theorem cal__law_spoilt_signs (T : Tx K mg) : Cal P w K mg base CX0 1 "_law_spoilt_signs" (spSpS4 K) := by
  obtain ⟨fd, F⟩ := T.d__law_spoilt_signs
  refine ⟨_, fd, P__law_spoilt_signs, F.ok sc__law_spoilt_signs (fun vs H Q E h => ?_) (fun cdv A outer s H vs Q E hr h => ?_), T.g__law_spoilt_signs, F.kp, F.bindsN (ps := P__law_spoilt_signs) fun _ _ _ _ _ _ us hl => match us, hl with | [_, _], _ => rfl⟩
  · obtain ⟨z, pd, d0, d1, d2, d3, rfl, _⟩ := h
    rfl
  · obtain ⟨z, pd, d0, d1, d2, d3, rfl, so, z1, z12, hpd, k⟩ := h
    refine ⟨_, (PSs.nox (pss_cons (ps_set (i := 2) sc__law_spoilt_signs.nd rfl (Or.inl rfl) (pe_op op_mod (pe_ix ix_list (pv 1) pe_int (fun _ _ => rfl)) (pe_op op_add (pe_callB (id := "len") call_len_str (by rfl) T.n_len (by decide +kernel) (pa_cons (pv 0) pa_nil)) pe_int)))
      (pss_cons (ps_set (i := 3) sc__law_spoilt_signs.nd rfl (Or.inl rfl) (pe_lstG (pa_cons (pe_ix ix_str (pv 0) (pe_op op_mod (pe_ix ix_list (pv 1) pe_int (fun _ _ => rfl)) (pe_callB (id := "len") call_len_str (by rfl) T.n_len (by decide +kernel) (pa_cons (pv 0) pa_nil))) (fun _ _ => rfl)) (pa_cons pe_str (pa_cons pe_str (pa_cons (pe_op op_add_str pe_str (pv 0)) (pa_cons pe_str pa_nil)))))))
      (pss_cons (ps_set (i := 4) sc__law_spoilt_signs.nd rfl (Or.inl rfl) (pe_ix ix_list (pv 3) (pe_op op_mod (pe_ix ix_list (pv 1) pe_int (fun _ _ => rfl)) pe_int) (fun _ _ => rfl)))
      (pss_cons (ps_set (i := 5) sc__law_spoilt_signs.nd rfl (Or.inl rfl) (pe_lstG (pa_cons (pe_op op_add_str (pe_op op_add_str (pe_slice sl_str (pv 0) po_none (po_some (pv 2))) (pv 4)) (pe_slice sl_str (pv 0) (po_some (pv 2)) po_none)) (pa_cons (pe_op op_add_str (pe_op op_add_str (pe_slice sl_str (pv 0) po_none (po_some (pv 2))) (pv 4)) (pe_slice sl_str (pv 0) (po_some (pe_op op_add (pv 2) pe_int)) po_none)) (pa_cons (pe_op op_add_str (pe_slice sl_str (pv 0) po_none (po_some (pv 2))) (pe_slice sl_str (pv 0) (po_some (pe_op op_add (pv 2) pe_int)) po_none)) pa_nil)))))
      (pss_cons (ps_set (i := 5) sc__law_spoilt_signs.nd rfl (Or.inl rfl) (pe_op op_catG (pv 5) (pe_lstG (pa_cons (pe_op op_add_str (pv 0) (pv 0)) (pa_cons pe_str (pa_cons pe_non (pa_cons (pe_callTy (T := "list") (call_listSG rfl) (by rfl) T.n_list (by decide +kernel) (pa_cons (pv 0) pa_nil)) (pa_cons (pe_tupG (pa_cons (pv 0) pa_nil)) (pa_cons (pe_callB (id := "len") call_len_str (by rfl) T.n_len (by decide +kernel) (pa_cons (pv 0) pa_nil)) (pa_cons (pe_revS (pv 0)) pa_nil))))))))))
      (pss_one (ps_ret (pe_ix ix_list (pv 5) (pe_op op_mod (pe_ix ix_list (pv 1) pe_int (fun _ _ => rfl)) pe_int) (fun _ _ => rfl)))))))))), ?_⟩
    have inz := insig_of so
    have tln : z.cps.toList.length = z.length := len_cps z
    have D0 : atI [V.int (d0 : Int), V.int (d1 : Int), V.int (d2 : Int), V.int (d3 : Int)] 0 = some (V.int (d0 : Int)) := (show atI _ ((0 : Nat) : Int) = _ from ats rfl)
    have D1 : atI [V.int (d0 : Int), V.int (d1 : Int), V.int (d2 : Int), V.int (d3 : Int)] 1 = some (V.int (d1 : Int)) := (show atI _ ((1 : Nat) : Int) = _ from ats rfl)
    have D2 : atI [V.int (d0 : Int), V.int (d1 : Int), V.int (d2 : Int), V.int (d3 : Int)] 2 = some (V.int (d2 : Int)) := (show atI _ ((2 : Nat) : Int) = _ from ats rfl)
    have D3 : atI [V.int (d0 : Int), V.int (d1 : Int), V.int (d2 : Int), V.int (d3 : Int)] 3 = some (V.int (d3 : Int)) := (show atI _ ((3 : Nat) : Int) = _ from ats rfl)
    obtain ⟨n, en, nl⟩ := mod_nat d0 (z.length + 1) (by omega)
    refine ⟨_, rfl, pd, _, _, _, rfl, rfl, SqL.of hpd, D0, _, rfl, z, rfl, sz (by omega), _, _, rfl, rfl, _, _, rfl, rfl, (by show (0 : Int) < _; omega), ?_⟩
    show gName 2 (V.int ((d0 : Int) % (((z.length : Nat) : Int) + 1))) _ _ _
    rw [show (((z.length : Nat) : Int) + 1) = ((z.length + 1 : Nat) : Int) by omega, en]
    obtain ⟨j1, e1, l1⟩ := mod_nat d1 z.length (by omega)
    obtain ⟨c, ec⟩ : ∃ c, z.cps.toList[j1]? = some c := ⟨_, List.getElem?_eq_getElem (by omega)⟩
    have cs : SgnOk c := so.ok c (List.mem_of_getElem? ec)
    refine ⟨_, rfl, _, rfl, pd, _, _, _, rfl, rfl, SqL.of hpd, D1, _, rfl, z, rfl, sz (by omega), _, _, rfl, rfl, (by show (0 : Int) < _; omega), z, _, c, rfl, rfl, sz (by omega), (by rw [e1]; exact ats ec), ?_⟩
    have eab : (Str.ofString "ab").length = 2 := by decide +kernel
    have lab := app_len (Str.ofString "ab") z
    refine ⟨_, rfl, _, _, rfl, rfl, sz (by omega), (by show 5 ≤ sizeLine; decide), fun q1 H1 n1 s1 h1 => ?_⟩
    obtain ⟨put, A, hput, pl⟩ : ∃ put, atI [V.str (sgn c), V.str (Str.ofString "\t"), V.str (Str.ofString "\n"), V.str (Str.ofString "ab" ++ z), V.str (Str.ofString "+")] ((d2 : Int) % 5) = some (V.str put) ∧ InSig put ∧ put.length ≤ 14 := by
      clear k
      obtain ⟨j, ej, hj⟩ := mod_nat d2 5 (by decide)
      rw [show (5 : Int) = ((5 : Nat) : Int) from rfl, ej]
      have key : ∀ {s : Str} {l : List Nat}, s.cps.toList = l → (∀ c ∈ l, SgnOk c ∨ c = 9 ∨ c = 10) → InSig s := fun e h c hc => h c (e ▸ hc)
      rcases (show j = 0 ∨ j = 1 ∨ j = 2 ∨ j = 3 ∨ j = 4 by omega) with rfl | rfl | rfl | rfl | rfl
      · exact ⟨_, ats (i := 0) rfl, key (l := [c]) rfl (fun x hx => by rw [List.mem_singleton.mp hx]; exact .inl cs), by show 1 ≤ 14; decide⟩
      · exact ⟨_, ats (i := 1) rfl, key (l := [9]) (by decide +kernel) (fun x hx => by rw [List.mem_singleton.mp hx]; exact .inr (.inl rfl)), by decide +kernel⟩
      · exact ⟨_, ats (i := 2) rfl, key (l := [10]) (by decide +kernel) (fun x hx => by rw [List.mem_singleton.mp hx]; exact .inr (.inr rfl)), by decide +kernel⟩
      · exact ⟨_, ats (i := 3) rfl, insig_app (key (l := [97, 98]) (by decide +kernel) (fun x hx => by
          simp only [List.mem_cons, List.not_mem_nil, or_false] at hx
          rcases hx with rfl | rfl
          · exact .inl ⟨by decide, by decide, by decide⟩
          · exact .inl ⟨by decide, by decide, by decide⟩)) inz, by omega⟩
      · exact ⟨_, ats (i := 4) rfl, key (l := [43]) (by decide +kernel) (fun x hx => by rw [List.mem_singleton.mp hx]; exact .inl ⟨by decide, by decide, by decide⟩), by decide +kernel⟩
    refine ⟨_, rfl, _, rfl, pd, _, _, _, rfl, rfl, SqL.of (s1 _ _ hpd), D2, _, _, rfl, rfl, (by show (0 : Int) < 5; decide), q1, _, _, _, rfl, rfl, SqL.of h1, A, ?_⟩
    have lc : ∀ lo hi, (cutS z lo hi).length ≤ z.length := fun lo hi => cutS_length z lo hi
    have c1 := lc none (some (n : Int))
    have c2 := lc (some (n : Int)) none
    have c3 := lc (some ((n : Int) + 1)) none
    have a1 := app_len (cutS z none (some (n : Int))) put
    have a2 := app_len (cutS z none (some (n : Int)) ++ put) (cutS z (some (n : Int)) none)
    have a3 := app_len (cutS z none (some (n : Int)) ++ put) (cutS z (some ((n : Int) + 1)) none)
    have a4 := app_len (cutS z none (some (n : Int))) (cutS z (some ((n : Int) + 1)) none)
    have a5 := app_len z z
    refine ⟨_, rfl, _, rfl, _, rfl, z, rfl, sz (by omega), _, rfl, _, _, rfl, rfl, sz (by omega), _, rfl, _, rfl, _, rfl, z, rfl, sz (by omega), _, _, rfl, rfl, sz (by omega), ?_⟩
    refine ⟨_, rfl, _, rfl, _, rfl, z, rfl, sz (by omega), _, rfl, _, _, rfl, rfl, sz (by omega), _, rfl, _, rfl, _, _, rfl, rfl, _, rfl, z, rfl, sz (by omega), _, _, rfl, rfl, sz (by omega), ?_⟩
    refine ⟨_, rfl, _, rfl, _, rfl, z, rfl, sz (by omega), _, rfl, _, rfl, _, _, rfl, rfl, _, rfl, z, rfl, sz (by omega), _, _, rfl, rfl, sz (by omega), ?_⟩
    refine ⟨(by show 3 ≤ sizeLine; decide), fun q2 H2 n2 s2 h2 => ?_⟩
    refine ⟨_, rfl, _, rfl, _, rfl, _, _, rfl, rfl, sz (by omega), _, rfl, z, rfl, sz (by omega), fun l3 H3 n3 s3 h3 => ?_⟩
    refine ⟨_, rfl, (by show 1 ≤ sizeLine; decide), fun t4 H4 n4 s4 h4 => ?_⟩
    refine ⟨_, rfl, z, rfl, sz (by omega), _, rfl, z, rfl, sz (by omega), (by show 7 ≤ sizeLine; decide), fun q5 H5 n5 s5 h5 => ?_⟩
    have s25 := (s3.trans s4).trans s5
    refine ⟨q2, q5, _, _, rfl, rfl, SqL.of (s25 _ _ h2), SqL.of h5, (by show 3 + 7 ≤ sizeLine; decide), fun q6 H6 n6 s6 h6 => ?_⟩
    have b3 := (s4.trans (s5.trans s6)) _ _ h3
    have b4 := (s5.trans s6) _ _ h4
    have p1 := insig_to inz n
    have p2 := insig_from inz n
    have p3 : InSig (cutS z (some ((n : Int) + 1)) none) := by rw [show ((n : Int) + 1) = ((n + 1 : Nat) : Int) by omega]; exact insig_from inz (n + 1)
    obtain ⟨v, A9, hv⟩ : ∃ v, atI [V.str (cutS z none (some (n : Int)) ++ put ++ cutS z (some (n : Int)) none), V.str (cutS z none (some (n : Int)) ++ put ++ cutS z (some ((n : Int) + 1)) none), V.str (cutS z none (some (n : Int)) ++ cutS z (some ((n : Int) + 1)) none), V.str (z ++ z), V.str (Str.ofString ""), V.non, V.ref l3, V.ref t4, V.int (z.length : Nat), V.str (revT z)] ((d3 : Int) % 10) = some v ∧ SigV K H6 v := by
      clear k
      obtain ⟨j, ej, hj⟩ := mod_nat d3 10 (by decide)
      rw [show (10 : Int) = ((10 : Nat) : Int) from rfl, ej]
      rcases (show j = 0 ∨ j = 1 ∨ j = 2 ∨ j = 3 ∨ j = 4 ∨ j = 5 ∨ j = 6 ∨ j = 7 ∨ j = 8 ∨ j = 9 by omega) with rfl | rfl | rfl | rfl | rfl | rfl | rfl | rfl | rfl | rfl
      · exact ⟨_, ats (i := 0) rfl, .inr ⟨_, rfl, by omega, insig_app (insig_app p1 hput) p2⟩⟩
      · exact ⟨_, ats (i := 1) rfl, .inr ⟨_, rfl, by omega, insig_app (insig_app p1 hput) p3⟩⟩
      · exact ⟨_, ats (i := 2) rfl, .inr ⟨_, rfl, by omega, insig_app p1 p3⟩⟩
      · exact ⟨_, ats (i := 3) rfl, .inr ⟨_, rfl, by omega, insig_app inz inz⟩⟩
      · exact ⟨_, ats (i := 4) rfl, .inr ⟨_, rfl, by decide +kernel, fun c hc => by
          have : (Str.ofString "").cps.toList = [] := by decide +kernel
          rw [this] at hc; cases hc⟩⟩
      · exact ⟨_, ats (i := 5) rfl, .inl noStr_non⟩
      · exact ⟨_, ats (i := 6) rfl, .inl (noStr_lst b3)⟩
      · exact ⟨_, ats (i := 7) rfl, .inl (noStr_tup b4)⟩
      · exact ⟨_, ats (i := 8) rfl, .inl (noStr_int _)⟩
      · exact ⟨_, ats (i := 9) rfl, .inr ⟨_, rfl, by rw [revT_len]; omega, insig_sub inz fun c hc => by rw [revT_cps] at hc; exact List.mem_reverse.mp hc⟩⟩
    have s16 := ((s1.trans s2).trans s25).trans s6
    exact ⟨_, rfl, _, rfl, pd, _, _, _, rfl, rfl, SqL.of (s16 _ _ hpd), D3, _, _, rfl, rfl, (by show (0 : Int) < 10; decide), q6, _, _, _, rfl, rfl, SqL.of h6, A9, k _ v s16 hv⟩
/-- a thing among rows, that may be compared -/
def Th (K : PySem.W.Frag) (H : Hp) (v : V) : Prop := RowTh K H v ∧ ∃ d, Ly K H 2 v d
theorem Th.same {K : PySem.W.Frag} {H H' : Hp} {v : V} (h : Th K H v) (s : Same H H') : Th K H' v := ⟨h.1.same s, let ⟨d, l⟩ := h.2; ⟨d, l.same s⟩⟩
theorem th_row {K : PySem.W.Frag} {H : Hp} {a : Addr} {l r : Str} (h : H a = some (.tup [.str l, .str r])) (hl : Asc l ∧ l.length ≤ 100) (hr : Asc r ∧ r.length ≤ 100) : Th K H (.ref a) :=
  ⟨.inr ⟨a, _, rfl, h, (by show 2 ≤ 1000; decide), .inr ⟨_, _, rfl, .inr ⟨_, rfl, hl.2⟩, .inr ⟨_, rfl, hr.2⟩⟩⟩, _, (Ly.tup (SqT.of h) (.cons (Ly.fl (v := .str l) hl.1) (.cons (Ly.fl (v := .str r) hr.1) .nil))).mono (by decide)⟩
theorem asc_a04 : Asc (Str.ofString "a") := fun c hc => by
  have : (Str.ofString "a").cps.toList = [97] := by decide +kernel
  rw [this] at hc
  rw [List.mem_singleton.mp hc]
  decide
theorem asc_e04 : Asc (Str.ofString "") := fun c hc => by
  have : (Str.ofString "").cps.toList = [] := by decide +kernel
  rw [this] at hc
  cases hc
theorem asc_app04 {a b : Str} (h1 : Asc a) (h2 : Asc b) : Asc (a ++ b) := fun c hc => by
  rw [app_cps] at hc
  rcases List.mem_append.mp hc with h | h
  · exact h1 c h
  · exact h2 c h
theorem pcs_sub04 {z : Str} {rs : Rws} {i : Nat} {p : Str} (h : p ∈ pcs z (rs.take i)) : p ∈ pcs z rs := by
  unfold pcs at h ⊢
  rcases List.mem_append.mp h with h | h
  · exact List.mem_append_left _ h
  · obtain ⟨r, hr, e⟩ := List.mem_map.mp h
    exact List.mem_append_right _ (List.mem_map.mpr ⟨r, List.mem_of_mem_take hr, e⟩)
theorem at_last04 {xs : List V} {x : V} (h : xs[xs.length - 1]? = some x) : atI xs (-1) = some x := by
  have hj := (List.getElem?_eq_some_iff.mp h).1
  unfold atI ixN
  rw [if_neg (by omega), if_pos (by omega)]
  have e : ((-1 : Int) + (xs.length : Int)).toNat = xs.length - 1 := by omega
  rw [e]
  exact h
theorem th_tup {K : PySem.W.Frag} {H : Hp} {a : Addr} {us : List V} {ds : List PyData} (h : H a = some (.tup us)) (ul : us.length ≤ 1000) (hu : us.length ≠ 2 ∨ ∃ u1 u2, us = [u1, u2] ∧ Tu K H u1 ∧ Tu K H u2) (ly : LyA K H 1 us ds) : Th K H (.ref a) :=
  ⟨.inr ⟨a, us, rfl, h, ul, hu⟩, _, Ly.tup (SqT.of h) ly⟩
theorem rows_th {K : PySem.W.Frag} {H : Hp} {z : Str} {rs : Rws} {as : List Addr} (tk : TabOk z rs) (h : Paired (TupAt H) as rs) : ∀ u ∈ as.map V.ref, Th K H u := fun u hu => by
  obtain ⟨a, ha, rfl⟩ := List.mem_map.mp hu
  obtain ⟨i, hi, ea⟩ := List.mem_iff_getElem.mp ha
  obtain ⟨r, hr, ht⟩ := Paired.get h (show as[i]? = some a by rw [List.getElem?_eq_getElem hi, ea])
  have ro := tk.rows i r hr
  have sub : ∀ p, p ∈ pcs z (rs.take i) → Asc p ∧ p.length ≤ 100 := fun p hp => by
    have hp' := pcs_sub04 hp
    exact ⟨tk.asc hp', by have := (tk.plen hp').2; omega⟩
  exact th_row ht (sub _ ro.lm) (sub _ ro.rm)
def spSpR4 (K : PySem.W.Frag) : Sp := fun vs H Q _ => ∃ (z : Str) (rs : Rws) (p lp pd : Addr) (d0 d1 d2 d3 d4 : Nat), vs = [.ref p, .ref lp, .ref pd] ∧ TabOk z rs ∧ RowsAt H p rs ∧ H lp = some (.lst ((pcs z rs).map V.str)) ∧ H pd = some (.lst [.int (d0 : Nat), .int (d1 : Nat), .int (d2 : Nat), .int (d3 : Nat), .int (d4 : Nat)]) ∧
  ∀ H' q n v, Same H H' → n ≤ rs.length → H' q = some (.tup [.int (n : Nat), v]) → Th K H' v → Q (.ref q) H'
theorem cal__law_spoilt_row (T : Tx K mg) : Cal P w K mg base CX0 1 "_law_spoilt_row" (spSpR4 K) := by
  obtain ⟨fd, F⟩ := T.d__law_spoilt_row
  refine ⟨_, fd, P__law_spoilt_row, F.ok sc__law_spoilt_row (fun vs H Q E h => ?_) (fun cdv A outer s H vs Q E hr h => ?_), T.g__law_spoilt_row, F.kp, F.bindsN (ps := P__law_spoilt_row) fun _ _ _ _ _ _ us hl => match us, hl with | [_, _, _], _ => rfl⟩
  · obtain ⟨z, rs, p, lp, pd, d0, d1, d2, d3, d4, rfl, _⟩ := h
    rfl
  · obtain ⟨z, rs, p, lp, pd, d0, d1, d2, d3, d4, rfl, tk, ⟨as, hp, hts⟩, hlp, hpd, k⟩ := h
    refine ⟨_, (PSs.nox (pss_cons (ps_set (i := 3) sc__law_spoilt_row.nd rfl (Or.inl rfl) (pe_op op_mod (pe_ix ix_list (pv 2) pe_int (fun _ _ => rfl)) (pe_callB (id := "max") (call_max2 rfl) (by rfl) T.n_max (by decide +kernel) (pa_cons pe_int (pa_cons (pe_callB (id := "len") call_len_seq (by rfl) T.n_len (by decide +kernel) (pa_cons (pv 0) pa_nil)) pa_nil)))))
      (pss_cons (ps_set (i := 4) sc__law_spoilt_row.nd rfl (Or.inl rfl) (pe_ix ix_list (pe_op op_catG (pv 0) (pe_lstG (pa_cons (pe_tupG (pa_cons (pe_ix ix_list (pv 1) pe_int (fun _ _ => rfl)) (pa_cons (pe_ix ix_list (pv 1) (pe_un un_neg pe_int) (fun _ _ => rfl)) pa_nil))) pa_nil))) (pv 3) (fun _ _ => rfl)))
      (pss_cons (ps_set (i := 5) sc__law_spoilt_row.nd rfl (Or.inl rfl) (pe_ix ix_list (pe_op op_catG (pv 0) (pe_lstG (pa_cons (pe_tupG (pa_cons (pe_ix ix_list (pv 1) (pe_un un_neg pe_int) (fun _ _ => rfl)) (pa_cons (pe_ix ix_list (pv 1) pe_int (fun _ _ => rfl)) pa_nil))) pa_nil))) (pe_op op_mod (pe_ix ix_list (pv 2) pe_int (fun _ _ => rfl)) (pe_op op_add (pe_callB (id := "len") call_len_seq (by rfl) T.n_len (by decide +kernel) (pa_cons (pv 0) pa_nil)) pe_int)) (fun _ _ => rfl)))
      (pss_cons (ps_set (i := 6) sc__law_spoilt_row.nd rfl (Or.inl rfl) (pe_ix ix_list (pv 1) (pe_op op_mod (pe_ix ix_list (pv 2) pe_int (fun _ _ => rfl)) (pe_callB (id := "len") call_len_seq (by rfl) T.n_len (by decide +kernel) (pa_cons (pv 1) pa_nil))) (fun _ _ => rfl)))
      (pss_cons (ps_set (i := 7) sc__law_spoilt_row.nd rfl (Or.inl rfl) (pe_lstG (pa_cons (pe_tupG (pa_cons (pe_ix ix_tup (pv 4) pe_int (fun _ _ => rfl)) (pa_cons (pv 6) pa_nil))) (pa_cons (pe_tupG (pa_cons (pv 6) (pa_cons (pe_ix ix_tup (pv 4) pe_int (fun _ _ => rfl)) pa_nil))) (pa_cons (pe_tupG (pa_cons (pe_ix ix_tup (pv 4) pe_int (fun _ _ => rfl)) (pa_cons (pe_ix ix_tup (pv 4) pe_int (fun _ _ => rfl)) pa_nil))) (pa_cons (pv 5) (pa_cons (pe_tupG (pa_cons (pe_ix ix_tup (pv 4) pe_int (fun _ _ => rfl)) (pa_cons (pe_op op_add_str (pe_ix ix_tup (pv 4) pe_int (fun _ _ => rfl)) pe_str) pa_nil))) (pa_cons (pe_tupG (pa_cons (pe_ix ix_tup (pv 4) pe_int (fun _ _ => rfl)) (pa_cons pe_str pa_nil))) pa_nil))))))))
      (pss_cons (ps_set (i := 7) sc__law_spoilt_row.nd rfl (Or.inl rfl) (pe_op op_catG (pv 7) (pe_lstG (pa_cons (pe_callTy (T := "list") call_listG (by rfl) T.n_list (by decide +kernel) (pa_cons (pv 4) pa_nil)) (pa_cons (pe_op op_catT (pv 4) (pe_tupG (pa_cons (pv 6) pa_nil))) (pa_cons (pe_tupG (pa_cons (pe_ix ix_tup (pv 4) pe_int (fun _ _ => rfl)) pa_nil)) (pa_cons (pe_tupG pa_nil) (pa_cons pe_non (pa_cons (pe_ix ix_tup (pv 4) pe_int (fun _ _ => rfl)) (pa_cons (pe_tupG (pa_cons (pe_ix ix_tup (pv 4) pe_int (fun _ _ => rfl)) (pa_cons pe_int pa_nil))) (pa_cons (pe_tupG (pa_cons pe_non (pa_cons (pe_ix ix_tup (pv 4) pe_int (fun _ _ => rfl)) pa_nil))) pa_nil)))))))))))
      (pss_cons (ps_set (i := 7) sc__law_spoilt_row.nd rfl (Or.inl rfl) (pe_op op_catG (pv 7) (pe_lstG (pa_cons (pe_tupG (pa_cons (pe_lstG (pa_cons (pe_ix ix_tup (pv 4) pe_int (fun _ _ => rfl)) pa_nil)) (pa_cons (pe_ix ix_tup (pv 4) pe_int (fun _ _ => rfl)) pa_nil))) (pa_cons (pe_tupG (pa_cons (pe_op op_add_str (pe_ix ix_tup (pv 4) pe_int (fun _ _ => rfl)) (pe_ix ix_tup (pv 4) pe_int (fun _ _ => rfl))) (pa_cons (pe_ix ix_tup (pv 4) pe_int (fun _ _ => rfl)) pa_nil))) (pa_cons (pe_tupG (pa_cons (pv 6) (pa_cons (pv 6) pa_nil))) pa_nil))))))
      (pss_one (ps_ret (pe_tupG (pa_cons (pv 3) (pa_cons (pe_ix ix_list (pv 7) (pe_op op_mod (pe_ix ix_list (pv 2) pe_int (fun _ _ => rfl)) pe_int) (fun _ _ => rfl)) pa_nil))))))))))))), ?_⟩
    have al := Paired.len hts
    have many := tk.many
    have al2 : (as.map V.ref).length = rs.length := by rw [List.length_map]; exact al
    have D0 : atI [V.int (d0 : Int), V.int (d1 : Int), V.int (d2 : Int), V.int (d3 : Int), V.int (d4 : Int)] 0 = some (V.int (d0 : Int)) := (show atI _ ((0 : Nat) : Int) = _ from ats rfl)
    have D1 : atI [V.int (d0 : Int), V.int (d1 : Int), V.int (d2 : Int), V.int (d3 : Int), V.int (d4 : Int)] 1 = some (V.int (d1 : Int)) := (show atI _ ((1 : Nat) : Int) = _ from ats rfl)
    have D2 : atI [V.int (d0 : Int), V.int (d1 : Int), V.int (d2 : Int), V.int (d3 : Int), V.int (d4 : Int)] 2 = some (V.int (d2 : Int)) := (show atI _ ((2 : Nat) : Int) = _ from ats rfl)
    have D3 : atI [V.int (d0 : Int), V.int (d1 : Int), V.int (d2 : Int), V.int (d3 : Int), V.int (d4 : Int)] 3 = some (V.int (d3 : Int)) := (show atI _ ((3 : Nat) : Int) = _ from ats rfl)
    have np : 0 < (pcs z rs).length := by rw [pcs_len]; have := tk.n1; omega
    obtain ⟨n, en, nl⟩ := mod_nat d0 (max 1 rs.length) (by omega)
    refine ⟨_, rfl, pd, _, _, _, rfl, rfl, SqL.of hpd, D0, ?_⟩
    refine ⟨_, rfl, p, _, rfl, .inl (SqL.of hp), _, _, rfl, ?_⟩
    rw [al2]
    have emx : (if ((rs.length : Nat) : Int) > 1 then ((rs.length : Nat) : Int) else 1) = ((max 1 rs.length : Nat) : Int) := by
      by_cases c : rs.length ≤ 1
      · rw [if_neg (by omega), Nat.max_eq_left c]; rfl
      · rw [if_pos (by omega), Nat.max_eq_right (by omega)]
    refine ⟨_, _, rfl, rfl, (by show (0 : Int) < _; rw [emx]; omega), ?_⟩
    show gName 3 (V.int ((d0 : Int) % (if ((rs.length : Nat) : Int) > 1 then ((rs.length : Nat) : Int) else 1))) _ _ _
    rw [emx, en]
    have asub : ∀ {p : Str}, p ∈ pcs z rs → Asc p ∧ p.length ≤ 16 := fun hp => ⟨tk.asc hp, (tk.plen hp).2⟩
    have pick : ∀ {G : Hp} {t : Addr} {l0 r0 : Str}, Same H G → G t = some (.tup [.str l0, .str r0]) → l0 ∈ pcs z rs → r0 ∈ pcs z rs → ∀ j, j ≤ rs.length → ∃ b l r, atI (as.map V.ref ++ [V.ref t]) (j : Int) = some (.ref b) ∧ G b = some (.tup [.str l, .str r]) ∧ l ∈ pcs z rs ∧ r ∈ pcs z rs := fun {G t l0 r0} sG ht hl0 hr0 j hj => by
      by_cases c : j < rs.length
      · obtain ⟨a, ea⟩ : ∃ a, as[j]? = some a := ⟨_, List.getElem?_eq_getElem (by omega)⟩
        obtain ⟨r, hr, hta⟩ := Paired.get hts ea
        have ro := tk.rows j r hr
        refine ⟨a, r.1, r.2, ats ?_, sG _ _ hta, pcs_sub04 ro.lm, pcs_sub04 ro.rm⟩
        rw [List.getElem?_append_left (by rw [al2]; exact c), List.getElem?_map, ea]; rfl
      · refine ⟨t, l0, r0, ats ?_, ht, hl0, hr0⟩
        rw [List.getElem?_append_right (by rw [al2]; omega), al2, show j - rs.length = 0 by omega]; rfl
    obtain ⟨pa, hpa⟩ : ∃ x, (pcs z rs)[0]? = some x := ⟨_, List.getElem?_eq_getElem np⟩
    obtain ⟨pb, hpb⟩ : ∃ x, (pcs z rs)[(pcs z rs).length - 1]? = some x := ⟨_, List.getElem?_eq_getElem (by omega)⟩
    have ma := List.mem_of_getElem? hpa
    have mb := List.mem_of_getElem? hpb
    have PA : atI ((pcs z rs).map V.str) 0 = some (.str pa) := atm (i := 0) hpa
    have PB : atI ((pcs z rs).map V.str) (-1) = some (.str pb) := at_last04 (by rw [List.length_map, List.getElem?_map, hpb]; rfl)
    obtain ⟨pc, hpc, PC⟩ := mod_at V.str (pcs z rs) np (d2 : Int)
    refine ⟨_, rfl, _, rfl, lp, _, _, _, rfl, rfl, SqL.of hlp, PA, _, rfl, _, rfl, lp, _, _, _, rfl, rfl, SqL.of hlp, PB, (by show 2 ≤ sizeLine; decide), fun x1 H1 m1 s1 k1 => ⟨(by show 1 ≤ sizeLine; decide), fun x2 H2 m2 s2 k2 => ?_⟩⟩
    have s12 := s1.trans s2
    refine ⟨p, x2, _, _, rfl, rfl, SqL.of (s12 _ _ hp), SqL.of k2, (by rw [al2]; exact sz (by show _ + 1 ≤ _; omega)), fun x3 H3 m3 s3 k3 => ?_⟩
    have s13 := s12.trans s3
    obtain ⟨b, l, r, AB, hb, hl, hr⟩ := pick s13 ((s2.trans s3) _ _ k1) ma mb n (by omega)
    refine ⟨_, rfl, x3, _, _, _, rfl, rfl, SqL.of k3, AB, ?_⟩
    have hlp3 := s13 _ _ hlp
    obtain ⟨n1, en1, nl1⟩ := mod_nat d1 (rs.length + 1) (by omega)
    refine ⟨_, rfl, _, rfl, _, rfl, lp, _, _, _, rfl, rfl, SqL.of hlp3, PB, _, rfl, lp, _, _, _, rfl, rfl, SqL.of hlp3, PA, (by show 2 ≤ sizeLine; decide), fun x4 H4 m4 s4 k4 => ⟨(by show 1 ≤ sizeLine; decide), fun x5 H5 m5 s5 k5 => ?_⟩⟩
    have s15 := s13.trans (s4.trans s5)
    refine ⟨p, x5, _, _, rfl, rfl, SqL.of (s15 _ _ hp), SqL.of k5, (by rw [al2]; exact sz (by show _ + 1 ≤ _; omega)), fun x6 H6 m6 s6 k6 => ?_⟩
    have s16 := s15.trans s6
    obtain ⟨b2, l2, r2, AB2, hb2, hl2, hr2⟩ := pick s16 ((s5.trans s6) _ _ k4) mb ma n1 (by omega)
    have s36 := (s4.trans s5).trans s6
    refine ⟨_, rfl, pd, _, _, _, rfl, rfl, SqL.of (s16 _ _ hpd), D1, _, rfl, p, _, rfl, .inl (SqL.of (s16 _ _ hp)), _, _, rfl, rfl, _, _, rfl, rfl, ?_⟩
    rw [al2, show ((rs.length : Nat) : Int) + 1 = ((rs.length + 1 : Nat) : Int) by omega]
    refine ⟨(by show (0 : Int) < _; omega), x6, _, _, _, rfl, rfl, SqL.of k6, (by rw [en1]; exact AB2), ?_⟩
    refine ⟨_, rfl, _, rfl, pd, _, _, _, rfl, rfl, SqL.of (s16 _ _ hpd), D2, _, rfl, lp, _, rfl, .inl (SqL.of (s16 _ _ hlp)), _, _, rfl, rfl, (by show (0 : Int) < _; rw [List.length_map]; omega), lp, _, _, _, rfl, rfl, SqL.of (s16 _ _ hlp), PC, ?_⟩
    have hbT := s36 _ _ hb
    have at0 : ∀ (u v : V), atI [u, v] 0 = some u := fun u v => (show atI _ ((0 : Nat) : Int) = _ from ats rfl)
    have at1 : ∀ (u v : V), atI [u, v] 1 = some v := fun u v => (show atI _ ((1 : Nat) : Int) = _ from ats rfl)
    obtain ⟨ascl, ll⟩ := asub hl
    obtain ⟨ascr, lr⟩ := asub hr
    obtain ⟨ascp, lpl⟩ := asub hpc
    have ea1 : (Str.ofString "a").length = 1 := by decide +kernel
    have la1 := app_len r (Str.ofString "a")
    have la2 := app_len l r
    have asca := asc_a04
    have asc0 := asc_e04
    have le0 : (Str.ofString "").length = 0 := by decide +kernel
    have E0 := Same.refl H6
    refine ⟨_, rfl, b, _, _, _, rfl, rfl, SqT.of (E0 _ _ hbT), at0 _ _, _, rfl, (by show 2 ≤ sizeLine; decide), fun t1 G1 nn1 r1 g1 => ?_⟩
    have E1 := E0.trans r1
    refine ⟨_, rfl, _, rfl, b, _, _, _, rfl, rfl, SqT.of (E1 _ _ hbT), at1 _ _, (by show 2 ≤ sizeLine; decide), fun t2 G2 nn2 r2 g2 => ?_⟩
    have E2 := E1.trans r2
    refine ⟨_, rfl, b, _, _, _, rfl, rfl, SqT.of (E2 _ _ hbT), at1 _ _, _, rfl, b, _, _, _, rfl, rfl, SqT.of (E2 _ _ hbT), at0 _ _, (by show 2 ≤ sizeLine; decide), fun t3 G3 nn3 r3 g3 => ?_⟩
    have E3 := E2.trans r3
    refine ⟨_, rfl, _, rfl, b, _, _, _, rfl, rfl, SqT.of (E3 _ _ hbT), at0 _ _, _, rfl, b, _, _, _, rfl, rfl, SqT.of (E3 _ _ hbT), at1 _ _, _, _, rfl, rfl, sz (by omega), (by show 2 ≤ sizeLine; decide), fun t4 G4 nn4 r4 g4 => ?_⟩
    have E4 := E3.trans r4
    refine ⟨_, rfl, b, _, _, _, rfl, rfl, SqT.of (E4 _ _ hbT), at0 _ _, (by show 2 ≤ sizeLine; decide), fun t5 G5 nn5 r5 g5 => ?_⟩
    have E5 := E4.trans r5
    refine ⟨(by show 6 ≤ sizeLine; decide), fun t6 G6 nn6 r6 g6 => ?_⟩
    have E6 := E5.trans r6
    refine ⟨_, rfl, _, rfl, b, _, rfl, .inr (SqT.of (E6 _ _ hbT)), fun t7 G7 nn7 r7 g7 => ?_⟩
    have E7 := E6.trans r7
    refine ⟨_, rfl, _, rfl, (by show 1 ≤ sizeLine; decide), fun t8 G8 nn8 r8 g8 => ?_⟩
    have E8 := E7.trans r8
    refine ⟨b, t8, _, _, rfl, rfl, SqT.of (E8 _ _ hbT), SqT.of g8, (fun h => by cases h), (by show 2 + 1 ≤ sizeLine; decide), (fun h => by cases h), fun _ t9 nn9 => ?_⟩
    have r9 := Same.new (o := .tup ([V.str l, V.str r] ++ [V.str pc])) nn9
    have g9 : (upd G8 t9 (.tup ([V.str l, V.str r] ++ [V.str pc]))) t9 = some (.tup ([V.str l, V.str r] ++ [V.str pc])) := upd_same
    revert r9 g9
    generalize (upd G8 t9 (.tup ([V.str l, V.str r] ++ [V.str pc]))) = G9
    intro r9 g9
    have E9 := E8.trans r9
    refine ⟨_, rfl, b, _, _, _, rfl, rfl, SqT.of (E9 _ _ hbT), at0 _ _, (by show 1 ≤ sizeLine; decide), fun t10 G10 nn10 r10 g10 => ?_⟩
    have E10 := E9.trans r10
    refine ⟨(by show 0 ≤ sizeLine; decide), fun t11 G11 nn11 r11 g11 => ?_⟩
    have E11 := E10.trans r11
    refine ⟨_, rfl, b, _, _, _, rfl, rfl, SqT.of (E11 _ _ hbT), at0 _ _, _, rfl, b, _, _, _, rfl, rfl, SqT.of (E11 _ _ hbT), at0 _ _, (by show 2 ≤ sizeLine; decide), fun t12 G12 nn12 r12 g12 => ?_⟩
    have E12 := E11.trans r12
    refine ⟨_, rfl, b, _, _, _, rfl, rfl, SqT.of (E12 _ _ hbT), at1 _ _, (by show 2 ≤ sizeLine; decide), fun t13 G13 nn13 r13 g13 => ?_⟩
    have E13 := E12.trans r13
    refine ⟨(by show 8 ≤ sizeLine; decide), fun t14 G14 nn14 r14 g14 => ?_⟩
    have E14 := E13.trans r14
    refine ⟨t6, t14, _, _, rfl, rfl, SqL.of (((((((((r7).trans r8).trans r9).trans r10).trans r11).trans r12).trans r13).trans r14) _ _ g6), SqL.of g14, (by show 6 + 8 ≤ sizeLine; decide), fun t15 G15 nn15 r15 g15 => ?_⟩
    have E15 := E14.trans r15
    refine ⟨_, rfl, _, rfl, b, _, _, _, rfl, rfl, SqT.of (E15 _ _ hbT), at0 _ _, (by show 1 ≤ sizeLine; decide), fun t16 G16 nn16 r16 g16 => ?_⟩
    have E16 := E15.trans r16
    refine ⟨_, rfl, b, _, _, _, rfl, rfl, SqT.of (E16 _ _ hbT), at1 _ _, (by show 2 ≤ sizeLine; decide), fun t17 G17 nn17 r17 g17 => ?_⟩
    have E17 := E16.trans r17
    refine ⟨_, rfl, b, _, _, _, rfl, rfl, SqT.of (E17 _ _ hbT), at0 _ _, _, rfl, b, _, _, _, rfl, rfl, SqT.of (E17 _ _ hbT), at1 _ _, _, _, rfl, rfl, sz (by omega), _, rfl, b, _, _, _, rfl, rfl, SqT.of (E17 _ _ hbT), at1 _ _, (by show 2 ≤ sizeLine; decide), fun t18 G18 nn18 r18 g18 => ?_⟩
    have E18 := E17.trans r18
    refine ⟨_, rfl, _, rfl, (by show 2 ≤ sizeLine; decide), fun t19 G19 nn19 r19 g19 => ?_⟩
    have E19 := E18.trans r19
    refine ⟨(by show 3 ≤ sizeLine; decide), fun t20 G20 nn20 r20 g20 => ?_⟩
    have E20 := E19.trans r20
    refine ⟨t15, t20, _, _, rfl, rfl, SqL.of ((((((r16).trans r17).trans r18).trans r19).trans r20) _ _ g15), SqL.of g20, (by show 14 + 3 ≤ sizeLine; decide), fun t21 G21 nn21 r21 g21 => ?_⟩
    have E21 := E20.trans r21
    have F21 : Same G21 G21 := Same.refl _
    have F20 := r21.trans F21
    have F19 := r20.trans F20
    have F18 := r19.trans F19
    have F17 := r18.trans F18
    have F16 := r17.trans F17
    have F15 := r16.trans F16
    have F14 := r15.trans F15
    have F13 := r14.trans F14
    have F12 := r13.trans F13
    have F11 := r12.trans F12
    have F10 := r11.trans F11
    have F9 := r10.trans F10
    have F8 := r9.trans F9
    have F7 := r8.trans F8
    have F6 := r7.trans F7
    have F5 := r6.trans F6
    have F4 := r5.trans F5
    have F3 := r4.trans F4
    have F2 := r3.trans F3
    have F1 := r2.trans F2
    have F0 := r1.trans F1
    have za := F1 _ _ g1
    have zb0 := F2 _ _ g2
    have zc := F3 _ _ g3
    have ze := F4 _ _ g4
    have zf := F5 _ _ g5
    have zg := F7 _ _ g7
    have zh1 := F8 _ _ g8
    have zh := F9 _ _ g9
    have zi := F10 _ _ g10
    have zj := F11 _ _ g11
    have zk := F12 _ _ g12
    have zl := F13 _ _ g13
    have zm1 := F16 _ _ g16
    have zm := F17 _ _ g17
    have zn := F18 _ _ g18
    have zo := F19 _ _ g19
    have zb := F0 _ _ hbT
    have zb2 := F0 _ _ hb2
    have fl : ∀ {x : Str}, Asc x → ∀ {G : Hp}, Ly K G 1 (.str x) (fdV (.str x)) := fun h => (Ly.fl (v := .str _) h).mono (by decide)
    have l16 : ∀ {x : Str}, x.length ≤ 40 → x.length ≤ 100 := fun h => by omega
    have ascra : Asc (r ++ Str.ofString "a") := asc_app04 ascr asca
    have asclr : Asc (l ++ r) := asc_app04 ascl ascr
    have fi : ∀ (i : Int) {G : Hp}, Ly K G 1 (.int i) (fdV (.int i)) := fun i => (Ly.fl (v := .int i) trivial).mono (by decide)
    have fn : ∀ {G : Hp}, Ly K G 1 .non (fdV .non) := (Ly.fl (v := .non) trivial).mono (by decide)
    obtain ⟨v, AV, hv⟩ : ∃ v, atI [V.ref t1, V.ref t2, V.ref t3, V.ref b2, V.ref t4, V.ref t5, V.ref t7, V.ref t9, V.ref t10, V.ref t11, V.non, V.str l, V.ref t12, V.ref t13, V.ref t17, V.ref t18, V.ref t19] ((d3 : Int) % 17) = some v ∧ Th K G21 v := by
      clear k
      obtain ⟨j, ej, hj⟩ := mod_nat d3 17 (by decide)
      rw [show (17 : Int) = ((17 : Nat) : Int) from rfl, ej]
      rcases (show j = 0 ∨ j = 1 ∨ j = 2 ∨ j = 3 ∨ j = 4 ∨ j = 5 ∨ j = 6 ∨ j = 7 ∨ j = 8 ∨ j = 9 ∨ j = 10 ∨ j = 11 ∨ j = 12 ∨ j = 13 ∨ j = 14 ∨ j = 15 ∨ j = 16 by omega) with rfl | rfl | rfl | rfl | rfl | rfl | rfl | rfl | rfl | rfl | rfl | rfl | rfl | rfl | rfl | rfl | rfl
      · exact ⟨_, ats (i := 0) rfl, th_row za ⟨ascl, by omega⟩ ⟨ascp, by omega⟩⟩
      · exact ⟨_, ats (i := 1) rfl, th_row zb0 ⟨ascp, by omega⟩ ⟨ascr, by omega⟩⟩
      · exact ⟨_, ats (i := 2) rfl, th_row zc ⟨ascr, by omega⟩ ⟨ascl, by omega⟩⟩
      · exact ⟨_, ats (i := 3) rfl, th_row zb2 ⟨(asub hl2).1, by have := (asub hl2).2; omega⟩ ⟨(asub hr2).1, by have := (asub hr2).2; omega⟩⟩
      · exact ⟨_, ats (i := 4) rfl, th_row ze ⟨ascl, by omega⟩ ⟨ascra, by omega⟩⟩
      · exact ⟨_, ats (i := 5) rfl, th_row zf ⟨ascl, by omega⟩ ⟨asc0, by omega⟩⟩
      · exact ⟨_, ats (i := 6) rfl, ⟨.inl (noTup_lst zg), _, (Ly.strs (xs := [l, r]) (SqL.of zg) (fun x hx => by
          simp only [List.mem_cons, List.not_mem_nil, or_false] at hx
          rcases hx with rfl | rfl
          · exact ascl
          · exact ascr)).mono (by decide)⟩⟩
      · exact ⟨_, ats (i := 7) rfl, th_tup zh (by show 3 ≤ 1000; decide) (.inl (by show 3 ≠ 2; decide)) (.cons (fl ascl) (.cons (fl ascr) (.cons (fl ascp) .nil)))⟩
      · exact ⟨_, ats (i := 8) rfl, th_tup zi (by show 1 ≤ 1000; decide) (.inl (by show 1 ≠ 2; decide)) (.cons (fl ascl) .nil)⟩
      · exact ⟨_, ats (i := 9) rfl, th_tup zj (by show 0 ≤ 1000; decide) (.inl (by show 0 ≠ 2; decide)) .nil⟩
      · exact ⟨_, ats (i := 10) rfl, ⟨.inl noTup_non, _, fn.mono (by decide)⟩⟩
      · exact ⟨_, ats (i := 11) rfl, ⟨.inl (noTup_str _), _, (fl ascl).mono (by decide)⟩⟩
      · exact ⟨_, ats (i := 12) rfl, th_tup zk (by show 2 ≤ 1000; decide) (.inr ⟨_, _, rfl, .inr ⟨_, rfl, by omega⟩, .inl (noStr_int _)⟩) (.cons (fl ascl) (.cons (fi _) .nil))⟩
      · exact ⟨_, ats (i := 13) rfl, th_tup zl (by show 2 ≤ 1000; decide) (.inr ⟨_, _, rfl, .inl noStr_non, .inr ⟨_, rfl, by omega⟩⟩) (.cons fn (.cons (fl ascr) .nil))⟩
      · exact ⟨_, ats (i := 14) rfl, th_tup zm (by show 2 ≤ 1000; decide) (.inr ⟨_, _, rfl, .inl (noStr_lst zm1), .inr ⟨_, rfl, by omega⟩⟩) (.cons (Ly.strs (xs := [l]) (SqL.of zm1) (fun x hx => by rw [List.mem_singleton.mp hx]; exact ascl)) (.cons (fl ascr) .nil))⟩
      · exact ⟨_, ats (i := 15) rfl, th_row zn ⟨asclr, by omega⟩ ⟨ascr, by omega⟩⟩
      · exact ⟨_, ats (i := 16) rfl, th_row zo ⟨ascp, by omega⟩ ⟨ascp, by omega⟩⟩
    have s6N := F0
    have s0N := s16.trans F0
    refine ⟨_, rfl, _, rfl, _, rfl, pd, _, _, _, rfl, rfl, SqL.of (s0N _ _ hpd), D3, _, _, rfl, rfl, (by show (0 : Int) < 17; decide), t21, _, _, _, rfl, rfl, SqL.of g21, AV, (by show 2 ≤ sizeLine; decide), fun tq G nq sq hq => k G tq n v (s0N.trans sq) (by omega) hq (hv.same sq)⟩
end
end Jr
namespace Jr
open PySem PySem.Spec PyProof.Rows L2
/-! ### texts of texts -/
theorem join_text {z : Str} {ps : List Str} (h : ∀ p ∈ ps, TextOf z p) : TextOf z (Txt.join (Str.ofString "") ps) := fun c hc => by
  rw [join_cps] at hc
  obtain ⟨y, hy, hxy⟩ := List.mem_flatMap.mp hc
  exact h y hy c hxy
theorem sum_le : ∀ (ps : List Str) (n : Nat), (∀ p ∈ ps, p.length ≤ n) → (ps.map (·.length)).sum ≤ ps.length * n
  | [], n, _ => by simp
  | p :: ps, n, h => by
    have h1 := h p List.mem_cons_self
    have h2 := sum_le ps n fun q hq => h q (List.mem_cons_of_mem _ hq)
    rw [List.map_cons, List.sum_cons, List.length_cons, Nat.succ_mul]
    omega
theorem join_len {ps : List Str} : (Txt.join (Str.ofString "") ps).length = (ps.map (·.length)).sum := by
  rw [← len_cps, join_cps, flat_len]
end Jr
namespace Jr
open PySem PySem.Spec PyProof.Rows L2
theorem lya_of {K : PySem.W.Frag} {H : Hp} {n : Nat} : ∀ {us : List V}, (∀ u ∈ us, ∃ d, Ly K H n u d) → ∃ ds, LyA K H n us ds
  | [], _ => ⟨[], .nil⟩
  | u :: us, h => by
    obtain ⟨d, hd⟩ := h u List.mem_cons_self
    obtain ⟨ds, hds⟩ := lya_of (us := us) fun x hx => h x (List.mem_cons_of_mem _ hx)
    exact ⟨d :: ds, .cons hd hds⟩
/-- what may come as rows -/
def RowsV (K : PySem.W.Frag) (H : Hp) (v : V) : Prop := (NoLst K H v ∧ (((v = .non ∨ (∃ x, v = .str x) ∨ ∃ a us, v = .ref a ∧ H a = some (.tup us)) ∧ ∃ d, Ly K H 3 v d) ∨ ∃ a, v = .ref a ∧ H a = some (.dK []))) ∨ ∃ a us, v = .ref a ∧ H a = some (.lst us) ∧ us.length ≤ 100 ∧ ∀ u ∈ us, Th K H u
section
variable {P : Program} {w : World} {K : PySem.W.Frag} {mg : Str → Option Value} {base : Heap}
def spSpRs4 (K : PySem.W.Frag) : Sp := fun vs H Q _ => ∃ (z : Str) (rs : Rws) (p lp pd : Addr) (d0 d1 d2 d3 d4 : Nat), vs = [.ref p, .ref lp, .ref pd] ∧ TabOk z rs ∧ RowsAt H p rs ∧ H lp = some (.lst ((pcs z rs).map V.str)) ∧ H pd = some (.lst [.int (d0 : Nat), .int (d1 : Nat), .int (d2 : Nat), .int (d3 : Nat), .int (d4 : Nat)]) ∧
  ∀ H' v, Same H H' → RowsV K H' v → Q v H'
theorem cal__law_spoilt_rows (T : Tx K mg) : Cal P w K mg base CX0 2 "_law_spoilt_rows" (spSpRs4 K) := by
  have C__law_spoilt_row := cal__law_spoilt_row (P := P) (w := w) (base := base) T
  obtain ⟨fd, F⟩ := T.d__law_spoilt_rows
  refine ⟨_, fd, P__law_spoilt_rows, F.ok sc__law_spoilt_rows (fun vs H Q E h => ?_) (fun cdv A outer s H vs Q E hr h => ?_), T.g__law_spoilt_rows, F.kp, F.bindsN (ps := P__law_spoilt_rows) fun _ _ _ _ _ _ us hl => match us, hl with | [_, _, _], _ => rfl⟩
  · obtain ⟨z, rs, p, lp, pd, d0, d1, d2, d3, d4, rfl, _⟩ := h
    rfl
  · obtain ⟨z, rs, p, lp, pd, d0, d1, d2, d3, d4, rfl, tk, hR, hlp, hpd, k⟩ := h
    refine ⟨_, (PSs.nox (pss_cons (ps_asg (pe_cal C__law_spoilt_row (by first | exact hr | exact hr.mono (by decide)) (by rfl) (pa_cons (pv 0) (pa_cons (pv 1) (pa_cons (pv 2) pa_nil)))) (pg_tup rfl (pgs_cons (pg_name (i := 3) sc__law_spoilt_rows.nd rfl (Or.inl rfl)) (pgs_cons (pg_name (i := 4) sc__law_spoilt_rows.nd rfl (Or.inl rfl)) pgs_nil))))
      (pss_cons (ps_set (i := 5) sc__law_spoilt_rows.nd rfl (Or.inl rfl) (pe_op op_mod (pe_ix ix_list (pv 2) pe_int (fun _ _ => rfl)) (pe_op op_add (pe_callB (id := "len") call_len_seq (by rfl) T.n_len (by decide +kernel) (pa_cons (pv 0) pa_nil)) pe_int)))
      (pss_cons (ps_if (pt_cmpR op_lt (pe_ix ix_list (pv 2) pe_int (fun _ _ => rfl)) pe_int (nomark _)) (pss_one (ps_ret (pe_op op_catG (pe_op op_catG (pe_slice sl_listG (pv 0) po_none (po_some (pv 3))) (pe_lstG (pa_cons (pv 4) pa_nil))) (pe_slice sl_listG (pv 0) (po_some (pe_op op_add (pv 3) pe_int)) po_none)))) pss_nil)
      (pss_cons (ps_if (pt_cmpR op_lt (pe_ix ix_list (pv 2) pe_int (fun _ _ => rfl)) pe_int (nomark _)) (pss_one (ps_ret (pe_op op_catG (pe_op op_catG (pe_slice sl_listG (pv 0) po_none (po_some (pv 3))) (pe_lstG (pa_cons (pv 4) pa_nil))) (pe_slice sl_listG (pv 0) (po_some (pv 3)) po_none)))) pss_nil)
      (pss_cons (ps_if (pt_cmpR op_eq (pe_ix ix_list (pv 2) pe_int (fun _ _ => rfl)) pe_int (nomark _)) (pss_one (ps_ret (pe_op op_catG (pe_slice sl_listG (pv 0) po_none (po_some (pv 3))) (pe_slice sl_listG (pv 0) (po_some (pe_op op_add (pv 3) pe_int)) po_none)))) pss_nil)
      (pss_cons (ps_if (pt_cmpR op_eq (pe_ix ix_list (pv 2) pe_int (fun _ _ => rfl)) pe_int (nomark _)) (pss_cons (ps_set (i := 6) sc__law_spoilt_rows.nd rfl (Or.inl rfl) (pe_op op_catG (pe_slice sl_listG (pv 0) po_none (po_some (pv 3))) (pe_slice sl_listG (pv 0) (po_some (pe_op op_add (pv 3) pe_int)) po_none)))
      (pss_one (ps_ret (pe_op op_catG (pe_op op_catG (pe_slice sl_listG (pv 6) po_none (po_some (pv 5))) (pe_slice sl_listG (pv 0) (po_some (pv 3)) (po_some (pe_op op_add (pv 3) pe_int)))) (pe_slice sl_listG (pv 6) (po_some (pv 5)) po_none))))) pss_nil)
      (pss_one (ps_ret (pe_ix ix_list (pe_lstG (pa_cons (pe_callTy (T := "tuple") call_tuple_of (by rfl) T.n_tuple (by decide +kernel) (pa_cons (pv 0) pa_nil)) (pa_cons pe_non (pa_cons (pe_op op_catG (pv 0) (pv 0)) (pa_cons pe_dnewK (pa_cons (pe_join pe_str (pv 1)) pa_nil)))))) (pe_op op_mod (pe_ix ix_list (pv 2) pe_int (fun _ _ => rfl)) pe_int) (fun _ _ => rfl))))))))))), ?_⟩
    obtain ⟨as, hp, hts⟩ := id hR
    have al := Paired.len hts
    have many := tk.many
    have al2 : (as.map V.ref).length = rs.length := by rw [List.length_map]; exact al
    have D1 : atI [V.int (d0 : Int), V.int (d1 : Int), V.int (d2 : Int), V.int (d3 : Int), V.int (d4 : Int)] 1 = some (V.int (d1 : Int)) := (show atI _ ((1 : Nat) : Int) = _ from ats rfl)
    have D3 : atI [V.int (d0 : Int), V.int (d1 : Int), V.int (d2 : Int), V.int (d3 : Int), V.int (d4 : Int)] 3 = some (V.int (d3 : Int)) := (show atI _ ((3 : Nat) : Int) = _ from ats rfl)
    have D4 : atI [V.int (d0 : Int), V.int (d1 : Int), V.int (d2 : Int), V.int (d3 : Int), V.int (d4 : Int)] 4 = some (V.int (d4 : Int)) := (show atI _ ((4 : Nat) : Int) = _ from ats rfl)
    refine ⟨_, rfl, _, rfl, _, rfl, z, rs, p, lp, pd, d0, d1, d2, d3, d4, rfl, tk, hR, hlp, hpd, fun H1 q n v s1 nl hq hv => ?_⟩
    refine ⟨q, _, rfl, SqT.of hq, rfl, _, _, rfl, _, _, rfl, rfl, ?_⟩
    have hp1 := s1 _ _ hp
    have hpd1 := s1 _ _ hpd
    have hlp1 := s1 _ _ hlp
    have thr := rows_th (K := K) tk (TupAt.same s1 hts)
    obtain ⟨m, em, ml⟩ := mod_nat d1 (rs.length + 1) (by omega)
    refine ⟨_, rfl, pd, _, _, _, rfl, rfl, SqL.of hpd1, D1, _, rfl, p, _, rfl, .inl (SqL.of hp1), _, _, rfl, rfl, _, _, rfl, rfl, ?_⟩
    rw [al2, show ((rs.length : Nat) : Int) + 1 = ((rs.length + 1 : Nat) : Int) by omega]
    refine ⟨(by show (0 : Int) < _; omega), ?_⟩
    show gName 5 (V.int ((d1 : Int) % ((rs.length + 1 : Nat) : Int))) _ _ _
    rw [em]
    obtain ⟨bs, ebs⟩ : ∃ bs, bs = as.map V.ref := ⟨_, rfl⟩
    rw [← ebs] at hp1 thr al2
    have fin : ∀ {H' : Hp} {c : Addr} {us : List V}, Same H1 H' → H' c = some (.lst us) → us.length ≤ 100 → (∀ u ∈ us, u ∈ bs ∨ u = v) → RowsV K H' (.ref c) := fun {H' c us} s h ul hu => .inr ⟨c, us, rfl, h, ul, fun u h => by
      rcases hu u h with h | rfl
      · exact (thr u h).same s
      · exact hv.same s⟩
    have mt : ∀ {i : Nat} {u : V}, u ∈ bs.take i → u ∈ bs := fun h => List.mem_of_mem_take h
    have md : ∀ {i : Nat} {u : V}, u ∈ bs.drop i → u ∈ bs := fun h => List.mem_of_mem_drop h
    refine ⟨_, rfl, pd, _, _, _, rfl, rfl, SqL.of hpd1, D4, _, _, rfl, rfl, _, rfl, ite2 (fun _ => ?_) (fun _ => ?_)⟩
    · refine ⟨_, rfl, _, rfl, _, rfl, p, _, rfl, SqL.of hp1, fun c2 H2 n2 s2 h2 => ?_⟩
      rw [cutV_to] at h2
      refine ⟨_, rfl, (by show 1 ≤ sizeLine; decide), fun c3 H3 n3 s3 h3 => ?_⟩
      refine ⟨c2, c3, _, _, rfl, rfl, SqL.of (s3 _ _ h2), SqL.of h3, (by rw [List.length_take]; exact sz (by show _ + 1 ≤ _; omega)), fun c4 H4 n4 s4 h4 => ?_⟩
      have s14 := (s2.trans s3).trans s4
      refine ⟨_, rfl, _, rfl, _, _, rfl, rfl, _, rfl, p, _, rfl, SqL.of (s14 _ _ hp1), fun c5 H5 n5 s5 h5 => ?_⟩
      rw [show ((n : Nat) : Int) + 1 = ((n + 1 : Nat) : Int) by omega, cutV_from] at h5
      refine ⟨c4, c5, _, _, rfl, rfl, SqL.of (s5 _ _ h4), SqL.of h5, (by rw [List.length_append, List.length_take, List.length_drop]; exact sz (by show _ + 1 + _ ≤ _; omega)), fun c6 H6 n6 s6 h6 => ?_⟩
      have s16 := (s14.trans s5).trans s6
      refine k _ _ (s1.trans s16) (fin s16 h6 ?_ fun u hu => ?_)
      · rw [List.length_append, List.length_append, List.length_take, List.length_drop]; show _ + 1 + _ ≤ _; omega
      · simp only [List.mem_append, List.mem_singleton] at hu
        rcases hu with (hu | hu) | hu
        · exact .inl (mt hu)
        · exact .inr hu
        · exact .inl (md hu)
    refine ⟨_, rfl, pd, _, _, _, rfl, rfl, SqL.of hpd1, D4, _, _, rfl, rfl, _, rfl, ite2 (fun _ => ?_) (fun _ => ?_)⟩
    · refine ⟨_, rfl, _, rfl, _, rfl, p, _, rfl, SqL.of hp1, fun c2 H2 n2 s2 h2 => ?_⟩
      rw [cutV_to] at h2
      refine ⟨_, rfl, (by show 1 ≤ sizeLine; decide), fun c3 H3 n3 s3 h3 => ?_⟩
      refine ⟨c2, c3, _, _, rfl, rfl, SqL.of (s3 _ _ h2), SqL.of h3, (by rw [List.length_take]; exact sz (by show _ + 1 ≤ _; omega)), fun c4 H4 n4 s4 h4 => ?_⟩
      have s14 := (s2.trans s3).trans s4
      refine ⟨_, rfl, _, rfl, _, rfl, p, _, rfl, SqL.of (s14 _ _ hp1), fun c5 H5 n5 s5 h5 => ?_⟩
      rw [cutV_from] at h5
      refine ⟨c4, c5, _, _, rfl, rfl, SqL.of (s5 _ _ h4), SqL.of h5, (by rw [List.length_append, List.length_take, List.length_drop]; exact sz (by show _ + 1 + _ ≤ _; omega)), fun c6 H6 n6 s6 h6 => ?_⟩
      have s16 := (s14.trans s5).trans s6
      refine k _ _ (s1.trans s16) (fin s16 h6 ?_ fun u hu => ?_)
      · rw [List.length_append, List.length_append, List.length_take, List.length_drop]; show _ + 1 + _ ≤ _; omega
      · simp only [List.mem_append, List.mem_singleton] at hu
        rcases hu with (hu | hu) | hu
        · exact .inl (mt hu)
        · exact .inr hu
        · exact .inl (md hu)
    refine ⟨_, rfl, pd, _, _, _, rfl, rfl, SqL.of hpd1, D4, rfl, _, rfl, ite2 (fun _ => ?_) (fun _ => ?_)⟩
    · refine ⟨_, rfl, _, rfl, _, rfl, p, _, rfl, SqL.of hp1, fun c2 H2 n2 s2 h2 => ?_⟩
      rw [cutV_to] at h2
      refine ⟨_, rfl, _, rfl, _, _, rfl, rfl, _, rfl, p, _, rfl, SqL.of (s2 _ _ hp1), fun c5 H5 n5 s5 h5 => ?_⟩
      rw [show ((n : Nat) : Int) + 1 = ((n + 1 : Nat) : Int) by omega, cutV_from] at h5
      refine ⟨c2, c5, _, _, rfl, rfl, SqL.of (s5 _ _ h2), SqL.of h5, (by rw [List.length_take, List.length_drop]; exact sz (by omega)), fun c6 H6 n6 s6 h6 => ?_⟩
      have s16 := (s2.trans s5).trans s6
      refine k _ _ (s1.trans s16) (fin s16 h6 (by rw [List.length_append, List.length_take, List.length_drop]; omega) fun u hu => ?_)
      rcases List.mem_append.mp hu with hu | hu
      · exact .inl (mt hu)
      · exact .inl (md hu)
    refine ⟨_, rfl, pd, _, _, _, rfl, rfl, SqL.of hpd1, D4, rfl, _, rfl, ite2 (fun _ => ?_) (fun _ => ?_)⟩
    · refine ⟨_, rfl, _, rfl, _, rfl, p, _, rfl, SqL.of hp1, fun c2 H2 n2 s2 h2 => ?_⟩
      rw [cutV_to] at h2
      refine ⟨_, rfl, _, rfl, _, _, rfl, rfl, _, rfl, p, _, rfl, SqL.of (s2 _ _ hp1), fun c5 H5 n5 s5 h5 => ?_⟩
      rw [show ((n : Nat) : Int) + 1 = ((n + 1 : Nat) : Int) by omega, cutV_from] at h5
      refine ⟨c2, c5, _, _, rfl, rfl, SqL.of (s5 _ _ h2), SqL.of h5, (by rw [List.length_take, List.length_drop]; exact sz (by omega)), fun lf H6 n6 s6 h6 => ?_⟩
      have s16 := (s2.trans s5).trans s6
      obtain ⟨ls, els⟩ : ∃ ls, ls = bs.take n ++ bs.drop (n + 1) := ⟨_, rfl⟩
      rw [← els] at h6
      have lsl : ls.length ≤ 24 := by rw [els, List.length_append, List.length_take, List.length_drop]; omega
      have lsm : ∀ u ∈ ls, u ∈ bs := fun u hu => by
        rw [els] at hu
        rcases List.mem_append.mp hu with hu | hu
        · exact mt hu
        · exact md hu
      refine ⟨_, rfl, _, rfl, _, rfl, lf, _, rfl, SqL.of h6, fun c7 H7 n7 s7 h7 => ?_⟩
      rw [cutV_to] at h7
      refine ⟨_, rfl, _, rfl, _, rfl, _, rfl, _, _, rfl, rfl, _, rfl, p, _, rfl, SqL.of ((s16.trans s7) _ _ hp1), fun c8 H8 n8 s8 h8 => ?_⟩
      rw [show ((n : Nat) : Int) + 1 = ((n + 1 : Nat) : Int) by omega, cutV_mid] at h8
      refine ⟨c7, c8, _, _, rfl, rfl, SqL.of (s8 _ _ h7), SqL.of h8, (by rw [List.length_take, List.length_take, List.length_drop]; exact sz (by omega)), fun c9 H9 n9 s9 h9 => ?_⟩
      have s69 := (s7.trans s8).trans s9
      refine ⟨_, rfl, _, rfl, _, rfl, lf, _, rfl, SqL.of (s69 _ _ h6), fun c10 H10 n10 s10 h10 => ?_⟩
      rw [cutV_from] at h10
      refine ⟨c9, c10, _, _, rfl, rfl, SqL.of (s10 _ _ h9), SqL.of h10, (by rw [List.length_append, List.length_take, List.length_take, List.length_drop, List.length_drop]; exact sz (by omega)), fun c11 H11 n11 s11 h11 => ?_⟩
      have sA := ((s16.trans s69).trans s10).trans s11
      refine k _ _ (s1.trans sA) (fin sA h11 (by rw [List.length_append, List.length_append, List.length_take, List.length_take, List.length_drop, List.length_drop]; omega) fun u hu => ?_)
      rcases List.mem_append.mp hu with hu | hu
      · rcases List.mem_append.mp hu with hu | hu
        · exact .inl (lsm u (List.mem_of_mem_take hu))
        · exact .inl (md (List.mem_of_mem_take hu))
      · exact .inl (lsm u (List.mem_of_mem_drop hu))
    refine ⟨_, rfl, p, _, rfl, .inl ⟨SqL.of hp1, fun l1 nl1 => ?_⟩⟩
    have s2 := Same.new (o := .tup bs) nl1
    have hl1 : (upd H1 l1 (.tup bs)) l1 = some (.tup bs) := upd_same
    revert s2 hl1
    generalize (upd H1 l1 (.tup bs)) = H2
    intro s2 hl1
    have hp2 := s2 _ _ hp1
    refine ⟨_, rfl, _, rfl, p, p, _, _, rfl, rfl, SqL.of hp2, SqL.of hp2, sz (by omega), fun c3 H3 n3 s3 h3 => ?_⟩
    intro l4 n4
    have s4 := Same.new (o := .dK []) n4
    have h4 : (upd H3 l4 (.dK [])) l4 = some (.dK []) := upd_same
    revert s4 h4
    generalize (upd H3 l4 (.dK [])) = H4
    intro s4 h4
    have el0 : (Str.ofString "").length = 0 := by decide +kernel
    have hin : ∀ y ∈ pcs z rs, Asc y ∧ y.length ≤ 16 := fun y hy => ⟨tk.asc hy, (tk.plen hy).2⟩
    have sl := sum_le (pcs z rs) 16 fun y hy => (hin y hy).2
    have pl := pcs_len z rs
    have n12 := tk.n12
    have s14 := (s2.trans s3).trans s4
    refine ⟨⟨_, rfl⟩, _, rfl, _, lp, pcs z rs, rfl, rfl, .inl (SqL.of (s14 _ _ hlp1)), (by rw [el0]; omega), ?_⟩
    refine ⟨(by show 5 ≤ sizeLine; decide), fun c6 H6 n6 s6 h6 => ?_⟩
    have b1 := ((s3.trans s4).trans s6) _ _ hl1
    have b3 := (s4.trans s6) _ _ h3
    have b4 := s6 _ _ h4
    have s16 := s14.trans s6
    have lyb : ∃ ds, LyA K H6 2 bs ds := lya_of fun u hu => ((thr u hu).same s16).2
    have ascj : Asc (Txt.join (Str.ofString "") (pcs z rs)) := fun c hc => by
      rw [join_cps] at hc
      obtain ⟨y, hy, hc⟩ := List.mem_flatMap.mp hc
      exact (hin y hy).1 c hc
    obtain ⟨v9, A, hv9⟩ : ∃ v, atI [V.ref l1, V.non, V.ref c3, V.ref l4, V.str (Txt.join (Str.ofString "") (pcs z rs))] ((d3 : Int) % 5) = some v ∧ RowsV K H6 v := by
      clear k
      obtain ⟨j, ej, hj⟩ := mod_nat d3 5 (by decide)
      rw [show (5 : Int) = ((5 : Nat) : Int) from rfl, ej]
      rcases (show j = 0 ∨ j = 1 ∨ j = 2 ∨ j = 3 ∨ j = 4 by omega) with rfl | rfl | rfl | rfl | rfl
      · obtain ⟨ds, hd⟩ := lyb
        exact ⟨_, ats (i := 0) rfl, .inl ⟨noLst_tup b1, .inl ⟨.inr (.inr ⟨l1, _, rfl, b1⟩), _, Ly.tup (SqT.of b1) hd⟩⟩⟩
      · exact ⟨_, ats (i := 1) rfl, .inl ⟨noLst_non, .inl ⟨.inl rfl, _, (Ly.fl (v := .non) trivial).mono (by decide)⟩⟩⟩
      · refine ⟨_, ats (i := 2) rfl, fin s16 b3 (by rw [List.length_append]; omega) fun u hu => ?_⟩
        rcases List.mem_append.mp hu with hu | hu
        · exact .inl hu
        · exact .inl hu
      · exact ⟨_, ats (i := 3) rfl, .inl ⟨noLst_dK b4, .inr ⟨l4, rfl, b4⟩⟩⟩
      · exact ⟨_, ats (i := 4) rfl, .inl ⟨noLst_str _, .inl ⟨.inr (.inl ⟨_, rfl⟩), _, (Ly.fl (v := .str (Txt.join (Str.ofString "") (pcs z rs))) ascj).mono (by decide)⟩⟩⟩
    exact ⟨_, rfl, pd, _, _, _, rfl, rfl, SqL.of (s16 _ _ hpd1), D3, _, _, rfl, rfl, (by show (0 : Int) < 5; decide), c6, _, _, _, rfl, rfl, SqL.of h6, A, k _ v9 (s1.trans s16) hv9⟩
end
end Jr
namespace Jr
open PySem PySem.Spec PyProof.Rows L2
/-- raised with two fields -/
def Rz2 (C : Addr) (f g : Str) (v u : V) (H : Hp) (E : XK) : Prop := ∀ H' d, Same H H' → H d = none → H' d = some (.xd [(g, u), (f, v)]) → E (.ref C) (some d) H'
theorem Rz2.same {C : Addr} {f g : Str} {v u : V} {H H1 : Hp} {E : XK} (h : Rz2 C f g v u H E) (s : Same H H1) : Rz2 C f g v u H1 E := fun H' d s1 n e => h H' d (s.trans s1) (s.free n) e
theorem Rz2.now {C : Addr} {f g : Str} {v u : V} {H : Hp} {E : XK} (h : Rz2 C f g v u H E) : ∀ d, H d = none → E (.ref C) (some d) (upd H d (.xd [(g, u), (f, v)])) := fun d n => h _ d (Same.new n) n upd_same
end Jr
namespace Jr
open PySem PySem.Spec PyProof.Rows L2
section
variable {P : Program} {w : World} {K : PySem.W.Frag} {mg : Str → Option Value} {base : Heap}
def spMayBe : Sp := fun vs H Q _ => ∃ c : Nat, vs = [.str (sgn c)] ∧ Q (.bl (decide (32 ≤ c ∧ c ≤ 126 ∧ c ≠ 37))) H
theorem cal_may_be_sign (T : Tx K mg) : Cal P w K mg base CX0 1 "may_be_sign" spMayBe := by
  obtain ⟨fd, F⟩ := T.d_may_be_sign
  refine ⟨_, fd, P_may_be_sign, F.ok sc_may_be_sign (fun vs H Q E h => ?_) (fun cdv A outer s H vs Q E hr h => ?_), T.g_may_be_sign, F.kp, F.bindsN (ps := P_may_be_sign) fun _ _ _ _ _ _ us hl => match us, hl with | [_], _ => rfl⟩
  · obtain ⟨c, rfl, _⟩ := h
    rfl
  · obtain ⟨c, rfl, k⟩ := h
    refine ⟨_, (PSs.nox (pss_cons (ps_set (i := 1) sc_may_be_sign.nd rfl (Or.inl rfl) (pe_callB (id := "ord") call_ord (by rfl) T.n_ord (by decide +kernel) (pa_cons (pv 0) pa_nil)))
      (pss_one (ps_ret (pe_and (pe_chain op_le op_le (pe_glob (v := .int 32) (by rfl) T.c_BLANK_CODE.choose_spec ⟨_, rfl⟩) (pv 1) (pe_glob (v := .int 126) (by rfl) T.c_TILDE_CODE.choose_spec ⟨_, rfl⟩)) (pe_one (pe_cmpR op_ne (pv 1) (pe_glob (v := .int 37) (by rfl) T.c_PERCENT_CODE.choose_spec ⟨_, rfl⟩) (nomark _)))))))), ?_⟩
    refine ⟨_, rfl, _, rfl, rfl, ?_⟩
    have ec : (((sgn c).cps.getD 0 0 : Nat) : Int) = (c : Int) := rfl
    rw [ec]
    refine ⟨_, rfl, _, _, rfl, rfl, _, rfl, ite2 (fun c1 => ⟨_, _, rfl, rfl, _, rfl, ite2 (fun c2 => ⟨_, rfl, rfl, ?_⟩) (fun c2 => ?_)⟩) (fun c1 => ⟨_, rfl, iteF ?_⟩)⟩
    · have h1 : (32 : Int) ≤ c := of_decide_eq_true c1
      have h2 : (c : Int) ≤ 126 := of_decide_eq_true c2
      have e : (!decide (V.int (c : Int) = V.int 37)) = decide (32 ≤ c ∧ c ≤ 126 ∧ c ≠ 37) := by
        by_cases h3 : c = 37
        · subst h3; decide
        · have h4 : ¬ V.int (c : Int) = V.int 37 := fun z => h3 (by have := V.int.inj z; omega)
          rw [decide_eq_false h4, decide_eq_true ⟨by omega, by omega, h3⟩]; rfl
      show Q (V.bl (!decide (V.int (c : Int) = V.int 37))) H
      rw [e]
      exact k
    · have h2 : ¬ (c : Int) ≤ 126 := of_decide_eq_false (by simpa using c2)
      have e : decide (32 ≤ c ∧ c ≤ 126 ∧ c ≠ 37) = false := decide_eq_false (by omega)
      rw [e] at k
      exact k
    · have h1 : ¬ (32 : Int) ≤ c := of_decide_eq_false (by simpa using c1)
      have e : decide (32 ≤ c ∧ c ≤ 126 ∧ c ≠ 37) = false := decide_eq_false (by omega)
      rw [e] at k
      exact k
end
end Jr
namespace Jr
open PySem PySem.Spec PyProof.Rows L2
section
variable {P : Program} {w : World} {K : PySem.W.Frag} {mg : Str → Option Value} {base : Heap}
/-! ### may_be_sign, check_signs -/
def spCheckSigns : Sp := fun vs H Q _ => ∃ z : Str, vs = [.str z] ∧ SignsOk z ∧ 1 ≤ z.length ∧ z.length ≤ 12 ∧ ∀ H', Same H H' → Q .non H'
theorem cal_check_signs (T : Tx K mg) : Cal P w K mg base CX0 2 "check_signs" spCheckSigns := by
  have C_may_be_sign := cal_may_be_sign (P := P) (w := w) (base := base) T
  obtain ⟨fd, F⟩ := T.d_check_signs
  refine ⟨_, fd, P_check_signs, F.ok sc_check_signs (fun vs H Q E h => ?_) (fun cdv A outer s H vs Q E hr h => ?_), T.g_check_signs, F.kp, F.bindsN (ps := P_check_signs) fun _ _ _ _ _ _ us hl => match us, hl with | [_], _ => rfl⟩
  · obtain ⟨z, rfl, _⟩ := h
    rfl
  · obtain ⟨z, rfl, ok, z1, z12, k⟩ := h
    refine ⟨_, (PSs.nox (pss_cons (ps_if (PW.pt (pw_or (pt_not (pt_val (pe_callB (id := "isinstance") call_isi (by rfl) T.n_isinstance (by decide +kernel) (pa_cons (pv 0) (pa_cons (pe_bltn (v := .ty "str") (by rfl) T.n_str (by decide +kernel) rfl) pa_nil))))) (pw_or1 (pt_not (pt_chain op_le op_le pe_int (pe_callB (id := "len") call_len_str (by rfl) T.n_len (by decide +kernel) (pa_cons (pv 0) pa_nil)) (pe_glob (v := .int 12) (by rfl) T.c_MOST_SIGNS.choose_spec ⟨_, rfl⟩)))))) (pss_one ps_never) pss_nil)
      (pss_one (ps_for PassesOwn.never rfl (pi_enumS (by rfl) T.n_enumerate (pa_cons (pv 0) pa_nil)) (pg_tup rfl (pgs_cons (pg_name (i := 1) sc_check_signs.nd rfl (Or.inl rfl)) (pgs_cons (pg_name (i := 2) sc_check_signs.nd rfl (Or.inl rfl)) pgs_nil))) (pss_one (ps_if (PW.pt (pw_or (pt_not (pt_val (pe_cal C_may_be_sign (by first | exact hr | exact hr.mono (by decide)) (by rfl) (pa_cons (pv 2) pa_nil)))) (pw_or1 (pt_cmpR op_in_sign (pv 2) (pe_slice sl_str (pv 0) po_none (po_some (pv 1))) rfl)))) (pss_one ps_never) pss_nil)))))), ?_⟩
    have hz : z.length ≤ sizeLine := sz (by omega)
    refine ⟨_, rfl, _, _, _, _, _, rfl, .ty "str", .base (.str z), isStr, _, rfl, iteF ?_⟩
    refine ⟨_, rfl, _, rfl, hz, _, _, rfl, rfl, _, rfl, ?_⟩
    rw [decide_eq_true (show (1 : Int) ≤ (z.length : Int) by omega)]
    refine iteT ⟨_, _, rfl, rfl, _, rfl, ?_⟩
    rw [decide_eq_true (show (z.length : Int) ≤ 12 by omega)]
    refine iteF ?_
    refine ⟨_, rfl, z, rfl, for_enumS (x := z) (fun i σ H' => ∃ u v : Option V, σ = [some (.str z), u, v] ∧ Same H H') ⟨none, none, rfl, Same.refl H⟩ ?_ ?_⟩
    · rintro i c t σ H' hi ht ⟨u, v, rfl, sm⟩
      have oc := ok.ok c (List.mem_of_getElem? hi)
      have s2 := Same.put (o := .tup [.int (i : Nat), .str (sgn c)]) sm ht
      refine ⟨t, _, rfl, SqT.of upd_same, rfl, _, _, rfl, _, _, rfl, rfl, ?_⟩
      refine ⟨_, rfl, c, rfl, _, rfl, ?_⟩
      rw [decide_eq_true oc]
      refine iteF ⟨_, rfl, _, rfl, _, rfl, _, rfl, _, rfl, hz, c, _, rfl, rfl, _, rfl, ?_⟩
      have hn : ¬ c ∈ (cutS z none (some (i : Int))).cps.toList := by
        rw [cut_to]
        intro hm
        have e : z.cps.toList = z.cps.toList.take i ++ z.cps.toList.drop i := (List.take_append_drop _ _).symm
        have nd := ok.nd
        rw [e, List.nodup_append] at nd
        have hd : c ∈ z.cps.toList.drop i := by
          refine List.mem_of_getElem? (i := 0) ?_
          rw [List.getElem?_drop]
          exact hi
        exact nd.2.2 c hm c hd rfl
      rw [decide_eq_false hn]
      exact iteF ⟨_, _, rfl, s2⟩
    · rintro σ H' ⟨u, v, rfl, sm⟩
      exact k _ sm
/-! ### methods, while the table is being made -/
abbrev TC (K : PySem.W.Frag) : Addr := He.ga K "Table"
def spTakePiece (K : PySem.W.Frag) : Sp := fun vs H Q _ => ∃ (x dx : Addr) (z : Str) (lr lp dn dr : Addr) (ps : List Str) (p : Str), vs = [.ref x, .str p] ∧ H x = some (.ins (TC K) dx (tf5 z lr lp dn dr)) ∧ H lp = some (.lst (ps.map V.str)) ∧ H dn = some (.dK (numD 0 ps)) ∧
  ¬ p ∈ ps ∧ ps.length ≤ 1000 ∧ Q .non (upd (upd H dn (.dK (numD 0 (ps ++ [p])))) lp (.lst ((ps ++ [p]).map V.str)))
theorem met_take_piece (T : Tx K mg) : Met P w K mg base CX0 1 (TC K) "take_piece" (spTakePiece K) := by
  obtain ⟨fd, F⟩ := T.d_Table_take_piece
  refine ⟨T.cl_Table, _, fd, P_Table_take_piece, F.ok sc_Table_take_piece (fun vs H Q E h => ?_) (fun cdv A outer s H vs Q E hr h => ?_), T.m_Table_take_piece, F.bindsN (ps := P_Table_take_piece) fun _ _ _ _ _ _ us hl => match us, hl with | [_, _], _ => rfl⟩
  · obtain ⟨x, dx, z, lr, lp, dn, dr, ps, p, rfl, _⟩ := h
    rfl
  · obtain ⟨x, dx, z, lr, lp, dn, dr, ps, p, rfl, hx, hp, hn, np, hl, k⟩ := h
    refine ⟨_, (PSs.nox (pss_cons (ps_dput (hu_of hr) (pe_fld (pv 0) rfl) (pv 1) (pe_callB (id := "len") call_len_seq (by rfl) T.n_len (by decide +kernel) (pa_cons (pe_fld (pv 0) rfl) pa_nil)) rfl)
      (pss_one (ps_expr (pe_bm PySem.F.plainAttrs_list PySem.F.slot_list_append PySem.F.type_list_append mt_append (pe_fld (pv 0) rfl) (pa_cons (pv 1) pa_nil)))))), ?_⟩
    have nxn : x ≠ dn := ne_of hx hn (by intro q; cases q)
    have npn : lp ≠ dn := ne_of hp hn (by intro q; cases q)
    refine ⟨_, rfl, x, _, dx, _, _, rfl, hx, T.cl_Table, T.no_Table_piece_list, l5_pl _ _ _ _ _, _, _, rfl, .inl (SqL.of hp), _, rfl, x, _, dx, _, _, rfl, hx, T.cl_Table, T.no_Table_number_by_piece, l5_num _ _ _ _ _, _, rfl, dn, _, rfl, DPut.k (k := Sum.inr p) hn ?_, ?_⟩
    · rw [numD_len]; exact szl (by omega)
    rw [putK_new _ (numD_none 0 ps p np), List.length_map]
    have e : numD 0 ps ++ [(Sum.inr p, V.int ((ps.length : Nat) : Int))] = numD 0 (ps ++ [p]) := by rw [numD_snoc, Nat.zero_add]
    rw [e]
    refine ⟨_, rfl, x, _, dx, _, _, rfl, (by rw [upd_ne nxn]; exact hx), T.cl_Table, T.no_Table_piece_list, l5_pl _ _ _ _ _, .inl ⟨rfl, _, SqL.of (by rw [upd_ne npn]; exact hp)⟩, _, rfl, lp, _, _, rfl, rfl, (by rw [upd_ne npn]; exact hp), ?_, ?_⟩
    · rw [List.length_map]; exact szl (by omega)
    · have e2 : ps.map V.str ++ [V.str p] = (ps ++ [p]).map V.str := by rw [List.map_append]; rfl
      rw [e2]
      exact k
/-- which: of a text its number, of all else None -/
def spWhich (K : PySem.W.Frag) : Sp := fun vs H Q _ => ∃ (x dx : Addr) (fs : List (Str × V)) (dn : Addr) (ps : List Str) (v : V), vs = [.ref x, v] ∧ H x = some (.ins (TC K) dx fs) ∧ fs.lookup ("number_by_piece" : Str) = some (.ref dn) ∧ H dn = some (.dK (numD 0 ps)) ∧
  ((∃ p : Str, v = .str p ∧ Q ((valV (numD 0 ps) (Sum.inr p)).getD .non) H) ∨ (NoStr K H v ∧ Q .non H))
theorem met_which (T : Tx K mg) : Met P w K mg base CX0 1 (TC K) "which" (spWhich K) := by
  obtain ⟨fd, F⟩ := T.d_Table_which
  refine ⟨T.cl_Table, _, fd, P_Table_which, F.ok sc_Table_which (fun vs H Q E h => ?_) (fun cdv A outer s H vs Q E hr h => ?_), T.m_Table_which, F.bindsN (ps := P_Table_which) fun _ _ _ _ _ _ us hl => match us, hl with | [_, _], _ => rfl⟩
  · obtain ⟨x, dx, fs, dn, ps, v, rfl, _⟩ := h
    rfl
  · obtain ⟨x, dx, fs, dn, ps, v, rfl, hx, hf, hn, k⟩ := h
    refine ⟨_, (PSs.nox (pss_cons (ps_if (pt_not (pt_val (pe_callB (id := "isinstance") call_isi (by rfl) T.n_isinstance (by decide +kernel) (pa_cons (pv 1) (pa_cons (pe_bltn (v := .ty "str") (by rfl) T.n_str (by decide +kernel) rfl) pa_nil))))) (pss_one (ps_ret pe_non)) pss_nil)
      (pss_one (ps_ret (pe_dget1 (hu_of hr) (pe_fld (pv 0) rfl) (pv 1) ⟨by rfl, by rfl, by rfl, by rfl⟩))))), ?_⟩
    rcases k with ⟨p, rfl, k⟩ | ⟨⟨t, ht, hk⟩, k⟩
    · refine ⟨_, rfl, _, _, _, _, _, rfl, .ty "str", .base (.str p), isStr, _, rfl, iteF ?_⟩
      exact ⟨_, rfl, x, _, dx, _, _, rfl, hx, T.cl_Table, T.no_Table_number_by_piece, hf, dn, rfl, .inl ⟨_, .inl hn⟩, _, rfl, _, DGet.k (k := Sum.inr p) hn, k⟩
    · exact ⟨_, rfl, _, _, _, _, _, rfl, .ty "str", ht, hk, _, rfl, iteT k⟩
def spMayTake (K : PySem.W.Frag) : Sp := fun vs H Q _ => ∃ (x dx : Addr) (z : Str) (lr lp dn dr : Addr) (ps : List Str) (a : Addr) (l r : Str), vs = [.ref x, .ref a] ∧ H x = some (.ins (TC K) dx (tf5 z lr lp dn dr)) ∧ H dn = some (.dK (numD 0 ps)) ∧ ps.Nodup ∧
  H a = some (.tup [.str l, .str r]) ∧ l ∈ ps ∧ r ∈ ps ∧ (l ++ r).length ≤ 16 ∧ ¬ (l ++ r) ∈ ps ∧ Q (.bl true) H
theorem num_some {ps : List Str} {p : Str} (nd : ps.Nodup) (h : p ∈ ps) : ∃ i : Nat, ps[i]? = some p ∧ valV (numD 0 ps) (Sum.inr p) = some (V.int (i : Nat)) := by
  obtain ⟨i, hi, e⟩ := List.mem_iff_getElem.mp h
  have e2 : ps[i]? = some p := by rw [List.getElem?_eq_getElem hi, e]
  have e3 := numD_at 0 ps p i nd e2
  rw [Nat.zero_add] at e3
  exact ⟨i, e2, e3⟩
theorem met_may_take_row (T : Tx K mg) : Met P w K mg base CX0 2 (TC K) "may_take_row" (spMayTake K) := by
  have M_Table_which := met_which (P := P) (w := w) (base := base) T
  obtain ⟨fd, F⟩ := T.d_Table_may_take_row
  refine ⟨T.cl_Table, _, fd, P_Table_may_take_row, F.ok sc_Table_may_take_row (fun vs H Q E h => ?_) (fun cdv A outer s H vs Q E hr h => ?_), T.m_Table_may_take_row, F.bindsN (ps := P_Table_may_take_row) fun _ _ _ _ _ _ us hl => match us, hl with | [_, _], _ => rfl⟩
  · obtain ⟨x, dx, z, lr, lp, dn, dr, ps, a, l, r, rfl, _⟩ := h
    rfl
  · obtain ⟨x, dx, z, lr, lp, dn, dr, ps, a, l, r, rfl, hx, hn, nd, ha, hl, hr', hlen, hnew, k⟩ := h
    refine ⟨_, (PSs.nox (pss_cons (ps_if (PW.pt (pw_or (pt_not (pt_val (pe_callB (id := "isinstance") call_isi (by rfl) T.n_isinstance (by decide +kernel) (pa_cons (pv 1) (pa_cons (pe_bltn (v := .ty "tuple") (by rfl) T.n_tuple (by decide +kernel) rfl) pa_nil))))) (pw_or1 (pt_cmpR op_ne (pe_callB (id := "len") call_len_seq (by rfl) T.n_len (by decide +kernel) (pa_cons (pv 1) pa_nil)) pe_int (nomark _))))) (pss_one (ps_ret pe_bl)) pss_nil)
      (pss_cons (ps_asg (pv 1) (pg_tup rfl (pgs_cons (pg_name (i := 2) sc_Table_may_take_row.nd rfl (Or.inl rfl)) (pgs_cons (pg_name (i := 3) sc_Table_may_take_row.nd rfl (Or.inl rfl)) pgs_nil))))
      (pss_cons (ps_if (PW.pt (pw_or (pt_cmpR op_isN (pe_met M_Table_which (pv 0) (by first | exact hr | exact hr.mono (by decide)) (pa_cons (pv 2) pa_nil)) pe_non (nomark _)) (pw_or1 (pt_cmpR op_isN (pe_met M_Table_which (pv 0) (by first | exact hr | exact hr.mono (by decide)) (pa_cons (pv 3) pa_nil)) pe_non (nomark _))))) (pss_one (ps_ret pe_bl)) pss_nil)
      (pss_cons (ps_set (i := 4) sc_Table_may_take_row.nd rfl (Or.inl rfl) (pe_op op_add_str (pv 2) (pv 3)))
      (pss_one (ps_ret (pe_and (pe_cmpR op_le (pe_callB (id := "len") call_len_str (by rfl) T.n_len (by decide +kernel) (pa_cons (pv 4) pa_nil)) (pe_glob (v := .int 16) (by rfl) T.c_MOST_JOINED.choose_spec ⟨_, rfl⟩) (nomark _)) (pe_one (pe_cmpR op_isN (pe_met M_Table_which (pv 0) (by first | exact hr | exact hr.mono (by decide)) (pa_cons (pv 4) pa_nil)) pe_non (nomark _))))))))))), ?_⟩
    obtain ⟨i, _, ei⟩ := num_some nd hl
    obtain ⟨j, _, ej⟩ := num_some nd hr'
    have la := app_len l r
    refine ⟨_, rfl, _, _, _, _, _, rfl, .ty "tuple", .base (.tup ha), isTup, _, rfl, iteF ⟨_, rfl, a, _, rfl, .inr (SqT.of ha), rfl, _, rfl, iteF ?_⟩⟩
    refine ⟨_, rfl, a, _, rfl, SqT.of ha, rfl, _, _, rfl, _, _, rfl, rfl, ?_⟩
    refine ⟨_, rfl, x, dx, _, rfl, hx, l5_which _ _ _ _ _, _, rfl, x, dx, _, dn, ps, _, rfl, hx, l5_num _ _ _ _ _, hn, .inl ⟨l, rfl, ?_⟩⟩
    rw [ei]
    refine ⟨rfl, _, rfl, iteF ?_⟩
    refine ⟨_, rfl, x, dx, _, rfl, hx, l5_which _ _ _ _ _, _, rfl, x, dx, _, dn, ps, _, rfl, hx, l5_num _ _ _ _ _, hn, .inl ⟨r, rfl, ?_⟩⟩
    rw [ej]
    refine ⟨rfl, _, rfl, iteF ?_⟩
    refine ⟨_, rfl, _, rfl, _, _, rfl, rfl, sz (by omega), ?_⟩
    refine ⟨_, rfl, _, rfl, sz (by omega), _, _, rfl, rfl, _, rfl, ?_⟩
    rw [decide_eq_true (show ((l ++ r).length : Int) ≤ 16 by omega)]
    refine iteT ⟨_, rfl, x, dx, _, rfl, hx, l5_which _ _ _ _ _, _, rfl, x, dx, _, dn, ps, _, rfl, hx, l5_num _ _ _ _ _, hn, .inl ⟨l ++ r, rfl, ?_⟩⟩
    rw [numD_none 0 ps _ hnew]
    exact ⟨rfl, k⟩
def spTakeRow (K : PySem.W.Frag) : Sp := fun vs H Q _ => ∃ (x dx : Addr) (z : Str) (lr lp dn dr : Addr) (ps : List Str) (as : List Addr) (rs : Rws) (a : Addr) (l r : Str), vs = [.ref x, .ref a] ∧ H x = some (.ins (TC K) dx (tf5 z lr lp dn dr)) ∧
  H lr = some (.lst (as.map V.ref)) ∧ lr ≠ lp ∧ H lp = some (.lst (ps.map V.str)) ∧ H dn = some (.dK (numD 0 ps)) ∧ H dr = some (.dT (rankD 0 rs)) ∧ as.length = rs.length ∧ rs.length ≤ 1000 ∧ ps.length ≤ 1000 ∧
  H a = some (.tup [.str l, .str r]) ∧ ¬ (l ++ r) ∈ ps ∧ (l ++ r).length ≤ 1000 ∧ ¬ (l, r) ∈ rs ∧
  ∀ H' t, (∀ b o, b ≠ lr → b ≠ lp → b ≠ dn → b ≠ dr → H b = some o → H' b = some o) → H t = none → H' t = some (.tup [.str l, .str r]) → H' lr = some (.lst ((as ++ [t]).map V.ref)) → H' lp = some (.lst ((ps ++ [l ++ r]).map V.str)) →
    H' dn = some (.dK (numD 0 (ps ++ [l ++ r]))) → H' dr = some (.dT (rankD 0 (rs ++ [(l, r)]))) → Q .non H'
theorem met_take_row (T : Tx K mg) : Met P w K mg base CX0 2 (TC K) "take_row" (spTakeRow K) := by
  have M_Table_take_piece := met_take_piece (P := P) (w := w) (base := base) T
  obtain ⟨fd, F⟩ := T.d_Table_take_row
  refine ⟨T.cl_Table, _, fd, P_Table_take_row, F.ok sc_Table_take_row (fun vs H Q E h => ?_) (fun cdv A outer s H vs Q E hr h => ?_), T.m_Table_take_row, F.bindsN (ps := P_Table_take_row) fun _ _ _ _ _ _ us hl => match us, hl with | [_, _], _ => rfl⟩
  · obtain ⟨x, dx, z, lr, lp, dn, dr, ps, as, rs, a, l, r, rfl, _⟩ := h
    rfl
  · obtain ⟨x, dx, z, lr, lp, dn, dr, ps, as, rs, a, l, r, rfl, hx, hlr, nrp, hlp, hdn, hdr, hl1, hl2, hl3, ha, hnew, hlen, hnr, k⟩ := h
    refine ⟨_, (PSs.nox (pss_cons (ps_asg (pv 1) (pg_tup rfl (pgs_cons (pg_name (i := 2) sc_Table_take_row.nd rfl (Or.inl rfl)) (pgs_cons (pg_name (i := 3) sc_Table_take_row.nd rfl (Or.inl rfl)) pgs_nil))))
      (pss_cons (ps_dput (hu_of hr) (pe_fld (pv 0) rfl) (pe_tup (pa_cons (pv 2) (pa_cons (pv 3) pa_nil))) (pe_callB (id := "len") call_len_seq (by rfl) T.n_len (by decide +kernel) (pa_cons (pe_fld (pv 0) rfl) pa_nil)) rfl)
      (pss_cons (ps_expr (pe_bm PySem.F.plainAttrs_list PySem.F.slot_list_append PySem.F.type_list_append mt_append (pe_fld (pv 0) rfl) (pa_cons (pe_tup (pa_cons (pv 2) (pa_cons (pv 3) pa_nil))) pa_nil)))
      (pss_one (ps_expr (pe_met M_Table_take_piece (pv 0) (by first | exact hr | exact hr.mono (by decide)) (pa_cons (pe_op op_add_str (pv 2) (pv 3)) pa_nil)))))))), ?_⟩
    have la := app_len l r
    have x1 : x ≠ lr := ne_of hx hlr (by intro q; cases q)
    have x2 : x ≠ lp := ne_of hx hlp (by intro q; cases q)
    have x3 : x ≠ dn := ne_of hx hdn (by intro q; cases q)
    have x4 : x ≠ dr := ne_of hx hdr (by intro q; cases q)
    have r1 : lr ≠ dn := ne_of hlr hdn (by intro q; cases q)
    have r2 : lr ≠ dr := ne_of hlr hdr (by intro q; cases q)
    have p1 : lp ≠ dn := ne_of hlp hdn (by intro q; cases q)
    have p2 : lp ≠ dr := ne_of hlp hdr (by intro q; cases q)
    have d1 : dn ≠ dr := ne_of hdn hdr (by intro q; cases q)
    refine ⟨_, rfl, a, _, rfl, SqT.of ha, rfl, _, _, rfl, _, _, rfl, rfl, ?_⟩
    refine ⟨_, rfl, x, _, dx, _, _, rfl, hx, T.cl_Table, T.no_Table_row_list, l5_rl _ _ _ _ _, _, _, rfl, .inl (SqL.of hlr), _, rfl, x, _, dx, _, _, rfl, hx, T.cl_Table, T.no_Table_rank_by_row, l5_rk _ _ _ _ _, ?_⟩
    refine ⟨_, rfl, _, rfl, (by show 2 ≤ sizeLine; decide), fun t ht => ?_⟩
    have tr : t ≠ dr := fun e => by rw [e, hdr] at ht; cases ht
    have s1 := Same.new (o := .tup [V.str l, V.str r]) ht
    refine ⟨dr, _, rfl, DPut.t (k := [Sum.inr l, Sum.inr r]) (s1 _ _ hdr) upd_same ?_, ?_⟩
    · rw [rankD_len]; exact szl (by omega)
    rw [putK_new _ (rankD_none 0 rs l r hnr), List.length_map, hl1]
    have e : rankD 0 rs ++ [([Sum.inr l, Sum.inr r], V.int ((rs.length : Nat) : Int))] = rankD 0 (rs ++ [(l, r)]) := by rw [rankD_snoc, Nat.zero_add]
    rw [e]
    refine ⟨_, rfl, x, _, dx, _, _, rfl, (by rw [upd_ne x4]; exact s1 _ _ hx), T.cl_Table, T.no_Table_row_list, l5_rl _ _ _ _ _, .inl ⟨rfl, _, SqL.of (by rw [upd_ne r2]; exact s1 _ _ hlr)⟩, _, rfl, _, rfl, (by show 2 ≤ sizeLine; decide), fun u hu => ?_⟩
    have hu1 : (upd H t (.tup [V.str l, V.str r])) u = none := by
      by_cases e1 : u = dr
      · rw [e1, upd_same] at hu; cases hu
      · rw [upd_ne e1] at hu; exact hu
    have huH : H u = none := s1.free hu1
    have ut : u ≠ t := fun e1 => by rw [e1, upd_same] at hu1; cases hu1
    have ur : u ≠ lr := fun e1 => by rw [e1, hlr] at huH; cases huH
    have up : u ≠ lp := fun e1 => by rw [e1, hlp] at huH; cases huH
    have un : u ≠ dn := fun e1 => by rw [e1, hdn] at huH; cases huH
    have ud : u ≠ dr := fun e1 => by rw [e1, hdr] at huH; cases huH
    have ux : u ≠ x := fun e1 => by rw [e1, hx] at huH; cases huH
    refine ⟨lr, _, _, rfl, rfl, (by rw [upd_ne (Ne.symm ur), upd_ne r2]; exact s1 _ _ hlr), ?_, ?_⟩
    · rw [List.length_map, hl1]; exact szl (by omega)
    have hx2 : (upd (upd (upd (upd H t (.tup [V.str l, V.str r])) dr (.dT (rankD 0 (rs ++ [(l, r)])))) u (.tup [V.str l, V.str r])) lr (.lst (as.map V.ref ++ [V.ref u]))) x = some (.ins (TC K) dx (tf5 z lr lp dn dr)) := by
      rw [upd_ne x1, upd_ne (Ne.symm ux), upd_ne x4]; exact s1 _ _ hx
    refine ⟨_, rfl, x, dx, _, rfl, hx2, l5_tp _ _ _ _ _, _, rfl, _, rfl, _, _, rfl, rfl, sz (by omega), x, dx, z, lr, lp, dn, dr, ps, l ++ r, rfl, hx2, ?_, ?_, hnew, hl3, ?_⟩
    · rw [upd_ne (Ne.symm nrp), upd_ne (Ne.symm up), upd_ne p2]; exact s1 _ _ hlp
    · rw [upd_ne (Ne.symm r1), upd_ne (Ne.symm un), upd_ne d1]; exact s1 _ _ hdn
    · refine k _ u (fun b o b1 b2 b3 b4 hb => ?_) huH ?_ ?_ upd_same ?_ ?_
      · have bu : b ≠ u := ne_of_none hb huH
        rw [upd_ne b2, upd_ne b3, upd_ne b1, upd_ne bu, upd_ne b4]; exact s1 _ _ hb
      · rw [upd_ne up, upd_ne un, upd_ne ur, upd_same]
      · rw [upd_ne nrp, upd_ne r1, upd_same, List.map_append]; rfl
      · rw [upd_ne (Ne.symm p1), upd_same]
      · rw [upd_ne (Ne.symm p2), upd_ne (Ne.symm d1), upd_ne (Ne.symm r2), upd_ne (Ne.symm ud), upd_same]
end
end Jr
namespace Jr
open PySem PySem.Spec PyProof.Rows L2
/-- a table that is being made -/
structure Mid (K : PySem.W.Frag) (H0 H : Hp) (x dx : Addr) (z : Str) (lr lp dn dr : Addr) (as : List Addr) (ps : List Str) (rs : Rws) : Prop where
  hx : H x = some (.ins (TC K) dx (tf5 z lr lp dn dr))
  hlr : H lr = some (.lst (as.map V.ref))
  hts : Paired (TupAt H) as rs
  hlp : H lp = some (.lst (ps.map V.str))
  hdn : H dn = some (.dK (numD 0 ps))
  hdr : H dr = some (.dT (rankD 0 rs))
  sm : Same H0 H
  fra : ∀ a ∈ as, H0 a = none
structure Fre (H0 : Hp) (x lr lp dn dr : Addr) : Prop where
  fx : H0 x = none
  flr : H0 lr = none
  flp : H0 lp = none
  fdn : H0 dn = none
  fdr : H0 dr = none
  rp : lr ≠ lp
theorem Mid.new {K : PySem.W.Frag} {H0 H : Hp} {x dx : Addr} {z : Str} {lr lp dn dr t : Addr} {as : List Addr} {ps : List Str} {rs : Rws} {o : HO} (M : Mid K H0 H x dx z lr lp dn dr as ps rs) (ht : H t = none) : Mid K H0 (upd H t o) x dx z lr lp dn dr as ps rs :=
  ⟨Same.new ht _ _ M.hx, Same.new ht _ _ M.hlr, TupAt.same (Same.new ht) M.hts, Same.new ht _ _ M.hlp, Same.new ht _ _ M.hdn, Same.new ht _ _ M.hdr, Same.put M.sm ht, M.fra⟩
theorem Mid.piece {K : PySem.W.Frag} {H0 H : Hp} {x dx : Addr} {z : Str} {lr lp dn dr : Addr} {as : List Addr} {ps : List Str} {rs : Rws} {p : Str} (F : Fre H0 x lr lp dn dr) (M : Mid K H0 H x dx z lr lp dn dr as ps rs) :
    Mid K H0 (upd (upd H dn (.dK (numD 0 (ps ++ [p])))) lp (.lst ((ps ++ [p]).map V.str))) x dx z lr lp dn dr as (ps ++ [p]) rs := by
  have x2 : x ≠ lp := ne_of M.hx M.hlp (by intro q; cases q)
  have x3 : x ≠ dn := ne_of M.hx M.hdn (by intro q; cases q)
  have r1 : lr ≠ dn := ne_of M.hlr M.hdn (by intro q; cases q)
  have p1 : lp ≠ dn := ne_of M.hlp M.hdn (by intro q; cases q)
  have p2 : lp ≠ dr := ne_of M.hlp M.hdr (by intro q; cases q)
  have d1 : dn ≠ dr := ne_of M.hdn M.hdr (by intro q; cases q)
  refine ⟨?_, ?_, ?_, upd_same, ?_, ?_, ?_, M.fra⟩
  · rw [upd_ne x2, upd_ne x3]; exact M.hx
  · rw [upd_ne F.rp, upd_ne r1]; exact M.hlr
  · refine L2.Paired.mapP M.hts fun b r hb => ?_
    show upd _ _ _ b = _
    have hb2 : H b = _ := hb
    have b1 : b ≠ lp := ne_of hb2 M.hlp (by intro q; cases q)
    have b2 : b ≠ dn := ne_of hb2 M.hdn (by intro q; cases q)
    rw [upd_ne b1, upd_ne b2]
    exact hb
  · rw [upd_ne (Ne.symm p1), upd_same]
  · rw [upd_ne (Ne.symm p2), upd_ne (Ne.symm d1)]; exact M.hdr
  · exact Same.mut (Same.mut M.sm F.fdn) F.flp
/-- a made table, all of it new behind H0 -/
def TabFr (C : Addr) (H0 H : Hp) (x : Addr) (z : Str) (rs : Rws) : Prop := ∃ (dx lr lp dn dr : Addr) (m : Nat) (as : List Addr), H x = some (.ins C dx (tf6 z lr lp dn dr (m : Int))) ∧ H lr = some (.lst (as.map V.ref)) ∧ Paired (TupAt H) as rs ∧ H lp = some (.lst ((pcs z rs).map V.str)) ∧ H dn = some (.dK (numD 0 (pcs z rs))) ∧ H dr = some (.dT (rankD 0 rs)) ∧
  (∃ p ∈ pcs z rs, p.length = m) ∧ (∀ p ∈ pcs z rs, p.length ≤ m) ∧ TabOk z rs ∧ H0 x = none ∧ H0 lr = none ∧ H0 lp = none ∧ H0 dn = none ∧ H0 dr = none ∧ ∀ a ∈ as, H0 a = none
theorem TabFr.tab {C : Addr} {H0 H : Hp} {x : Addr} {z : Str} {rs : Rws} (h : TabFr C H0 H x z rs) : TabAt C H x z rs := by
  obtain ⟨dx, lr, lp, dn, dr, m, as, h1, h2, h2', h3, h4, h5, h6, h7, ok, _⟩ := h
  exact ⟨⟨dx, lr, lp, dn, dr, m, h1, ⟨as, h2, h2'⟩, h3, h4, h5, h6, h7⟩, ok⟩
/-- what is done to objects that stood ahead leaves the table -/
theorem TabFr.keep {C : Addr} {H0 H H' : Hp} {x : Addr} {z : Str} {rs : Rws} (h : TabFr C H0 H x z rs) (k : ∀ b o, H0 b = none → H b = some o → H' b = some o) : TabFr C H0 H' x z rs := by
  obtain ⟨dx, lr, lp, dn, dr, m, as, h1, h2, h2', h3, h4, h5, h6, h7, ok, f1, f2, f3, f4, f5, f6⟩ := h
  refine ⟨dx, lr, lp, dn, dr, m, as, k _ _ f1 h1, k _ _ f2 h2, ?_, k _ _ f3 h3, k _ _ f4 h4, k _ _ f5 h5, h6, h7, ok, f1, f2, f3, f4, f5, f6⟩
  have key : ∀ {l : List Addr} {r : Rws}, Paired (TupAt H) l r → (∀ a ∈ l, H0 a = none) → Paired (TupAt H') l r := fun {l r} hp => by
    induction hp with
    | nil => intro _; exact .nil
    | cons q _ ih => intro hf; exact .cons (k _ _ (hf _ List.mem_cons_self) q) (ih fun a ha => hf a (List.mem_cons_of_mem _ ha))
  exact key h2' f6
theorem TabFr.same {C : Addr} {H0 H H' : Hp} {x : Addr} {z : Str} {rs : Rws} (h : TabFr C H0 H x z rs) (s : Same H H') : TabFr C H0 H' x z rs := h.keep fun b o _ e => s b o e
def spTInit2 (K : PySem.W.Frag) : Sp := fun vs H Q _ => ∃ (H0 : Hp) (x dx pr : Addr) (z : Str) (rs : Rws), vs = [.ref x, .str z, .ref pr] ∧ H = upd (upd H0 dx (.own x)) x (.ins (TC K) dx []) ∧ H0 x = none ∧ H0 dx = none ∧ dx ≠ x ∧ RowsAt H0 pr rs ∧ TabOk z rs ∧
  ∀ H', Same H0 H' → TabFr (TC K) H0 H' x z rs → Q .non H'
def spTInit (K : PySem.W.Frag) : Sp := fun vs H Q _ => ∃ (H0 : Hp) (x dx pr : Addr) (z : Str) (rs : Rws), vs = [.ref x, .str z, .ref pr] ∧ H = upd (upd H0 dx (.own x)) x (.ins (TC K) dx []) ∧ H0 x = none ∧ H0 dx = none ∧ dx ≠ x ∧ RowsAt H0 pr rs ∧ TabOk z rs ∧
  ∀ H', Same H0 H' → TabAt (TC K) H' x z rs → Q .non H'
theorem list_max : ∀ (l : List Str), l ≠ [] → ∃ p ∈ l, ∀ q ∈ l, q.length ≤ p.length
  | [], h => absurd rfl h
  | [a], _ => ⟨a, List.mem_cons_self, fun q hq => by rw [List.mem_singleton.mp hq]; exact Nat.le_refl _⟩
  | a :: b :: l, _ => by
    obtain ⟨p, hp, hm⟩ := list_max (b :: l) (by simp)
    by_cases h : p.length ≤ a.length
    · exact ⟨a, List.mem_cons_self, fun q hq => by
        rcases List.mem_cons.mp hq with e | e
        · rw [e]; exact Nat.le_refl _
        · exact Nat.le_trans (hm q e) h⟩
    · exact ⟨p, List.mem_cons_of_mem _ hp, fun q hq => by
        rcases List.mem_cons.mp hq with e | e
        · rw [e]; omega
        · exact hm q e⟩
section
variable {P : Program} {w : World} {K : PySem.W.Frag} {mg : Str → Option Value} {base : Heap}
theorem mkc_Table2 (T : Tx K mg) : Mkc P w K mg base CX0 3 "Table" (TC K) (spTInit2 K) := by
  have C_check_signs := cal_check_signs (P := P) (w := w) (base := base) T
  have M_Table_take_piece := met_take_piece (P := P) (w := w) (base := base) T
  have M_Table_may_take_row := met_may_take_row (P := P) (w := w) (base := base) T
  have M_Table_take_row := met_take_row (P := P) (w := w) (base := base) T
  obtain ⟨fd, F⟩ := T.d_Table___init__
  refine ⟨⟨_, fd, P_Table___init__, F.ok sc_Table___init__ (fun vs H Q E h => ?_) (fun cdv A outer s H vs Q E hr h => ?_), T.mk_Table, F.bindsN (ps := P_Table___init__) fun _ _ _ _ _ _ us hl => match us, hl with | [_, _, _], _ => rfl⟩, T.g_Table⟩
  · obtain ⟨H0, x, dx, pr, z, rs, rfl, _⟩ := h
    rfl
  · obtain ⟨H0, x, dx, pr, z, rs, rfl, rfl, x0, dx0, ndx, ⟨as0, hpr, hts0⟩, tk, k⟩ := h
    refine ⟨_, (PSs.nox (pss_cons (ps_expr (pe_cal C_check_signs (by first | exact hr | exact hr.mono (by decide)) (by rfl) (pa_cons (pv 1) pa_nil)))
      (pss_cons (ps_if (PW.pt (pw_or (pt_not (pt_val (pe_callB (id := "isinstance") call_isi (by rfl) T.n_isinstance (by decide +kernel) (pa_cons (pv 2) (pa_cons (pe_bltn (v := .ty "list") (by rfl) T.n_list (by decide +kernel) rfl) pa_nil))))) (pw_or1 (pt_cmpR op_gt (pe_callB (id := "len") call_len_seq (by rfl) T.n_len (by decide +kernel) (pa_cons (pv 2) pa_nil)) (pe_glob (v := .int 24) (by rfl) T.c_MOST_ROWS.choose_spec ⟨_, rfl⟩) (nomark _))))) (pss_one ps_never) pss_nil)
      (pss_cons (ps_fld (pv 0) (pv 1) rfl)
      (pss_cons (ps_fld (pv 0) (pe_lst pa_nil) rfl)
      (pss_cons (ps_fld (pv 0) (pe_lst pa_nil) rfl)
      (pss_cons (ps_fld (pv 0) pe_dnewK rfl)
      (pss_cons (ps_fld (pv 0) pe_dnewT rfl)
      (pss_cons (ps_for PassesOwn.never rfl (pi_str (pv 1)) (pg_name (i := 3) sc_Table___init__.nd rfl (Or.inl rfl)) (pss_one (ps_expr (pe_met M_Table_take_piece (pv 0) (by first | exact hr | exact hr.mono (by decide)) (pa_cons (pv 3) pa_nil)))))
      (pss_cons (ps_for PassesOwn.never rfl (pi_enum (by rfl) T.n_enumerate (pa_cons (pv 2) pa_nil)) (pg_tup rfl (pgs_cons (pg_name (i := 4) sc_Table___init__.nd rfl (Or.inl rfl)) (pgs_cons (pg_name (i := 5) sc_Table___init__.nd rfl (Or.inl rfl)) pgs_nil))) (pss_cons (ps_if (pt_not (pt_val (pe_met M_Table_may_take_row (pv 0) (by first | exact hr | exact hr.mono (by decide)) (pa_cons (pv 5) pa_nil)))) (pss_one ps_never) pss_nil)
      (pss_one (ps_expr (pe_met M_Table_take_row (pv 0) (by first | exact hr | exact hr.mono (by decide)) (pa_cons (pv 5) pa_nil))))))
      (pss_one (ps_fld (pv 0) (pe_callB (id := "max") (cr_max rfl) (by rfl) T.n_max (by decide +kernel) (pa_cons (pe_lc (own := [("piece", 6)]) (g := gName 6) (by rfl) sc_Table___init__.nd (pi_list (pe_fld (pv 0) rfl)) (blkOk_by (own := [("piece", 6)]) (N := N_Table___init__) (sc := defScope s_Table___init__) (by decide +kernel)) (fun _ _ _ _ _ => (pg_name (i := 6) sc_Table___init__.nd rfl (Or.inl rfl))) (fun _ _ _ _ _ => pts_nil) (fun _ _ _ _ _ => (pe_callB (id := "len") call_len_str (by rfl) T.n_len (by decide +kernel) (pa_cons (pv 6) pa_nil)))) pa_nil)) rfl)))))))))))), ?_⟩
    have n12 := tk.n12
    have n1 := tk.n1
    have many := tk.many
    have s00 : Same H0 (upd (upd H0 dx (.own x)) x (.ins (TC K) dx [])) := Same.mut (Same.new dx0) x0
    refine ⟨_, rfl, z, rfl, tk.sg, tk.n1, tk.n12, fun H1 s1 => ?_⟩
    have hx1 : H1 x = some (.ins (TC K) dx []) := s1 _ _ upd_same
    have s01 := s00.trans s1
    have hpr1 : H1 pr = some (.lst (as0.map V.ref)) := s01 _ _ hpr
    refine ⟨_, rfl, _, _, _, _, _, rfl, .ty "list", .base (.lst hpr1), isLst, _, rfl, iteF ⟨_, rfl, _, _, rfl, .inl (SqL.of hpr1), _, _, rfl, rfl, _, rfl, ?_⟩⟩
    rw [decide_eq_false (show ¬ (24 : Int) < ((as0.map V.ref).length : Nat) by rw [List.length_map, Paired.len hts0]; omega)]
    refine iteF ⟨_, rfl, _, rfl, x, _, dx, _, rfl, hx1, T.cl_Table, T.no_Table_sign_text, (by show 0 < 1000; decide), ?_⟩
    have s02 := Same.mut (o := .ins (TC K) dx (putF "sign_text" (.str z) [])) s01 x0
    refine ⟨Nat.zero_le _, fun lr hlr => ⟨_, rfl, x, _, dx, _, rfl, Same.new hlr _ _ upd_same, T.cl_Table, T.no_Table_row_list, (by show 1 < 1000; decide), ?_⟩⟩
    have s03 := Same.mut (o := .ins (TC K) dx (putF "row_list" (.ref lr) (putF "sign_text" (.str z) []))) (Same.put (o := .lst []) s02 hlr) x0
    refine ⟨Nat.zero_le _, fun lp hlp => ⟨_, rfl, x, _, dx, _, rfl, Same.new hlp _ _ upd_same, T.cl_Table, T.no_Table_piece_list, (by show 2 < 1000; decide), ?_⟩⟩
    have s04 := Same.mut (o := .ins (TC K) dx (putF "piece_list" (.ref lp) (putF "row_list" (.ref lr) (putF "sign_text" (.str z) [])))) (Same.put (o := .lst []) s03 hlp) x0
    intro dn hdn
    refine ⟨_, rfl, x, _, dx, _, rfl, Same.new hdn _ _ upd_same, T.cl_Table, T.no_Table_number_by_piece, (by show 3 < 1000; decide), ?_⟩
    have s05 := Same.mut (o := .ins (TC K) dx (putF "number_by_piece" (.ref dn) (putF "piece_list" (.ref lp) (putF "row_list" (.ref lr) (putF "sign_text" (.str z) []))))) (Same.put (o := .dK []) s04 hdn) x0
    intro dr hdr
    refine ⟨_, rfl, x, _, dx, _, rfl, Same.new hdr _ _ upd_same, T.cl_Table, T.no_Table_rank_by_row, (by show 4 < 1000; decide), ?_⟩
    rw [l5_put]
    have s06 := Same.mut (o := .ins (TC K) dx (tf5 z lr lp dn dr)) (Same.put (o := .dT []) s05 hdr) x0
    have fr : Fre H0 x lr lp dn dr := ⟨x0, s02.free hlr, s03.free hlp, s04.free hdn, s05.free hdr, fun e => by
      rw [← e] at hlp
      have xl : lr ≠ x := fun e2 => by rw [e2, upd_same] at hlr; cases hlr
      rw [upd_ne xl, upd_same] at hlp
      cases hlp⟩
    have xlr : lr ≠ x := fun e2 => by rw [e2, upd_same] at hlr; cases hlr
    have xlp : lp ≠ x := fun e2 => by rw [e2, upd_same] at hlp; cases hlp
    have xdn : dn ≠ x := fun e2 => by rw [e2, upd_same] at hdn; cases hdn
    have xdr : dr ≠ x := fun e2 => by rw [e2, upd_same] at hdr; cases hdr
    have q1 := hlp
    have q2 := hdn
    have q3 := hdr
    have a1 : lr ≠ dn := fun e => by
      rw [← e, upd_ne xlr, upd_ne fr.rp, upd_ne xlr, upd_same] at q2; cases q2
    have a2 : lp ≠ dn := fun e => by
      rw [← e, upd_ne xlp, upd_same] at q2; cases q2
    have a3 : lr ≠ dr := fun e => by
      rw [← e, upd_ne xlr, upd_ne a1, upd_ne xlr, upd_ne fr.rp, upd_ne xlr, upd_same] at q3; cases q3
    have a4 : lp ≠ dr := fun e => by
      rw [← e, upd_ne xlp, upd_ne a2, upd_ne xlp, upd_same] at q3; cases q3
    have a5 : dn ≠ dr := fun e => by
      rw [← e, upd_ne xdn, upd_same] at q3; cases q3
    have mid0 : Mid K H0 (upd (upd (upd (upd (upd (upd (upd (upd (upd H1 x (.ins (TC K) dx (putF "sign_text" (.str z) []))) lr (.lst [])) x (.ins (TC K) dx (putF "row_list" (.ref lr) (putF "sign_text" (.str z) [])))) lp (.lst [])) x (.ins (TC K) dx (putF "piece_list" (.ref lp) (putF "row_list" (.ref lr) (putF "sign_text" (.str z) []))))) dn (.dK [])) x (.ins (TC K) dx (putF "number_by_piece" (.ref dn) (putF "piece_list" (.ref lp) (putF "row_list" (.ref lr) (putF "sign_text" (.str z) [])))))) dr (.dT [])) x (.ins (TC K) dx (tf5 z lr lp dn dr))) x dx z lr lp dn dr [] [] [] := by
      refine ⟨upd_same, ?_, .nil, ?_, ?_, ?_, s06, fun a ha => by cases ha⟩
      · rw [upd_ne xlr, upd_ne a3, upd_ne xlr, upd_ne a1, upd_ne xlr, upd_ne fr.rp, upd_ne xlr, upd_same]; rfl
      · rw [upd_ne xlp, upd_ne a4, upd_ne xlp, upd_ne a2, upd_ne xlp, upd_same]; rfl
      · rw [upd_ne xdn, upd_ne a5, upd_ne xdn, upd_same]; rfl
      · rw [upd_ne xdr, upd_same]; rfl
    revert mid0
    generalize (upd (upd (upd (upd (upd (upd (upd (upd (upd H1 x (.ins (TC K) dx (putF "sign_text" (.str z) []))) lr (.lst [])) x (.ins (TC K) dx (putF "row_list" (.ref lr) (putF "sign_text" (.str z) [])))) lp (.lst [])) x (.ins (TC K) dx (putF "piece_list" (.ref lp) (putF "row_list" (.ref lr) (putF "sign_text" (.str z) []))))) dn (.dK [])) x (.ins (TC K) dx (putF "number_by_piece" (.ref dn) (putF "piece_list" (.ref lp) (putF "row_list" (.ref lr) (putF "sign_text" (.str z) [])))))) dr (.dT [])) x (.ins (TC K) dx (tf5 z lr lp dn dr))) = H6
    intro mid0
    refine ⟨_, rfl, z, rfl, for_str (x := z) (fun i σ H' => ∃ u, σ = [some (.ref x), some (.str z), some (.ref pr), u, none, none, none] ∧ Mid K H0 H' x dx z lr lp dn dr [] ((sgs z).take i) []) ⟨none, rfl, mid0⟩ ?_ ?_⟩
    · rintro i c σ H' hi ⟨u, rfl, M⟩
      have hsg : (sgs z)[i]? = some (sgn c) := by unfold sgs; rw [List.getElem?_map, hi]; rfl
      have hnew : ¬ sgn c ∈ (sgs z).take i := fun hm => by
        have nd := sgs_nodup tk.sg.nd
        rw [← List.take_append_drop i (sgs z), List.nodup_append] at nd
        refine nd.2.2 _ hm (sgn c) (List.mem_of_getElem? (i := 0) ?_) rfl
        rw [List.getElem?_drop]; exact hsg
      refine ⟨_, rfl, x, dx, _, rfl, M.hx, l5_tp _ _ _ _ _, _, rfl, x, dx, z, lr, lp, dn, dr, (sgs z).take i, sgn c, rfl, M.hx, M.hlp, M.hdn, hnew, ?_, ?_⟩
      · rw [List.length_take]; have := sgs_len z; omega
      · refine ⟨_, rfl, ?_⟩
        have e : (sgs z).take (i + 1) = (sgs z).take i ++ [sgn c] := by rw [List.take_add_one, hsg]; rfl
        rw [e]
        exact M.piece fr
    · rintro σ H' ⟨u, rfl, M⟩
      have e0 : (sgs z).take z.cps.toList.length = sgs z := by
        rw [List.take_of_length_le]; unfold sgs; rw [List.length_map]; exact Nat.le_refl _
      rw [e0] at M
      have ep : sgs z = pcs z [] := by unfold pcs; rw [List.map_nil, List.append_nil]
      rw [ep] at M
      refine ⟨_, rfl, pr, _, rfl, SqL.of (M.sm _ _ hpr), for_enum (K := K) (a := pr) (xs := as0.map V.ref) (fun i σ H' => ∃ (u v y : Option V) (as : List Addr), σ = [some (.ref x), some (.str z), some (.ref pr), u, v, y, none] ∧ Mid K H0 H' x dx z lr lp dn dr as (pcs z (rs.take i)) (rs.take i))
        ⟨u, none, none, [], rfl, M⟩ (fun i σ H' _ ⟨_, _, _, _, _, M⟩ => SqL.of (M.sm _ _ hpr)) ?_ ?_⟩
      · rintro i y t σ H' hi ht ⟨u, v, y', as, rfl, M0⟩
        have M := M0.new (o := .tup [.int (i : Nat), y]) ht
        rw [List.getElem?_map] at hi
        cases ea : as0[i]? with
        | none => rw [ea] at hi; cases hi
        | some a =>
          rw [ea] at hi
          cases hi
          obtain ⟨r, hri, hta⟩ := Paired.get hts0 ea
          obtain ⟨l, r⟩ := r
          have ro := tk.rows i _ hri
          have ha : upd H' t (.tup [.int (i : Nat), .ref a]) a = some (.tup [.str l, .str r]) := M.sm _ _ hta
          have tki := tk.take i
          have pln : (pcs z (rs.take i)).length ≤ 1000 := by rw [pcs_len, List.length_take]; omega
          refine ⟨t, _, rfl, SqT.of upd_same, rfl, _, _, rfl, _, _, rfl, rfl, ?_⟩
          refine ⟨_, rfl, x, dx, _, rfl, M.hx, l5_mt _ _ _ _ _, _, rfl, x, dx, z, lr, lp, dn, dr, pcs z (rs.take i), a, l, r, rfl, M.hx, M.hdn, tki.nodup, ha, ro.lm, ro.rm, ro.len, ro.new, _, rfl, iteF ?_⟩
          have hnr : ¬ (l, r) ∈ rs.take i := fun hm => ro.new (by unfold pcs; exact List.mem_append_right _ (List.mem_map.mpr ⟨_, hm, rfl⟩))
          have rlen : (rs.take i).length ≤ 1000 := by rw [List.length_take]; omega
          refine ⟨_, rfl, x, dx, _, rfl, M.hx, l5_tr _ _ _ _ _, _, rfl, x, dx, z, lr, lp, dn, dr, pcs z (rs.take i), as, rs.take i, a, l, r, rfl, M.hx, M.hlr, fr.rp, M.hlp, M.hdn, M.hdr, Paired.len M.hts, rlen, pln, ha, ro.new, Nat.le_trans ro.len (by decide), hnr, ?_⟩
          intro H7 t7 keep ht7 h7t h7r h7p h7n h7d
          have x1 : x ≠ lr := ne_of M.hx M.hlr (by intro q; cases q)
          have x2 : x ≠ lp := ne_of M.hx M.hlp (by intro q; cases q)
          have x3 : x ≠ dn := ne_of M.hx M.hdn (by intro q; cases q)
          have x4 : x ≠ dr := ne_of M.hx M.hdr (by intro q; cases q)
          have et : rs.take (i + 1) = rs.take i ++ [(l, r)] := by rw [List.take_add_one, hri]; rfl
          refine ⟨_, _, _, as ++ [t7], rfl, ?_⟩
          rw [et, pcs_snoc]
          refine ⟨keep _ _ x1 x2 x3 x4 M.hx, h7r, Paired.snoc (L2.Paired.mapP M.hts fun b q hb => ?_) h7t, h7p, h7n, h7d, fun b o hb => ?_, fun b hb => ?_⟩
          · have hb2 : upd H' t (.tup [.int (i : Nat), .ref a]) b = _ := hb
            exact keep _ _ (ne_of hb2 M.hlr (by intro q; cases q)) (ne_of hb2 M.hlp (by intro q; cases q)) (ne_of hb2 M.hdn (by intro q; cases q)) (ne_of hb2 M.hdr (by intro q; cases q)) hb2
          · exact keep _ _ (ne_of_none hb fr.flr) (ne_of_none hb fr.flp) (ne_of_none hb fr.fdn) (ne_of_none hb fr.fdr) (M.sm _ _ hb)
          · rcases List.mem_append.mp hb with hb | hb
            · exact M.fra b hb
            · rw [List.mem_singleton.mp hb]; exact M.sm.free ht7
      · rintro σ H' ⟨u, v, y, as, rfl, M⟩
        have e1 : rs.take (as0.map V.ref).length = rs := by rw [List.length_map, Paired.len hts0, List.take_length]
        rw [e1] at M
        refine ⟨_, rfl, x, _, dx, _, _, rfl, M.hx, T.cl_Table, T.no_Table_piece_list, l5_pl _ _ _ _ _, lp, rfl, ⟨_, SqL.of M.hlp⟩, fun D hD => lc_listM (K := K) (item := V.str) (p := fun _ => true) (f := fun q => V.int (q.length : Nat)) (l := pcs z rs) (SqL.of M.hlp) hD ?_ (fun q hq H2 _ N Mm hM _ => ?_) (fun H2 s2 hL => ?_)⟩
        · rw [pcs_len]; omega
        · exact ⟨rfl, _, rfl, _, rfl, sz (by have := (tk.plen hq).2; omega), hM rfl⟩
        · have ef : (pcs z rs).filter (fun _ => true) = pcs z rs := List.filter_eq_self.mpr fun _ _ => rfl
          rw [ef] at hL
          obtain ⟨p, hp, hmx⟩ := list_max (pcs z rs) (fun e => by have := congrArg List.length e; rw [pcs_len] at this; simp at this; omega)
          refine ⟨D, (pcs z rs).map fun q => ((q.length : Nat) : Int), rfl, SqL.of ?_, ?_, ?_⟩
          · rw [hL, List.map_map]; rfl
          · rw [List.length_map, pcs_len]; omega
          · intro m hm hmm
            obtain ⟨pm, hpm, rfl⟩ := List.mem_map.mp hm
            have M2hx := s2 _ _ M.hx
            refine ⟨_, rfl, x, _, dx, _, rfl, M2hx, T.cl_Table, T.no_Table_most_signs, (by show 5 < 1000; decide), ?_⟩
            rw [l5_most]
            have x1 : x ≠ lr := ne_of M.hx M.hlr (by intro q; cases q)
            have x2 : x ≠ lp := ne_of M.hx M.hlp (by intro q; cases q)
            have x3 : x ≠ dn := ne_of M.hx M.hdn (by intro q; cases q)
            have x4 : x ≠ dr := ne_of M.hx M.hdr (by intro q; cases q)
            refine k _ (Same.mut (M.sm.trans s2) x0) ⟨dx, lr, lp, dn, dr, pm.length, as, upd_same, ?_, ?_, ?_, ?_, ?_, ⟨pm, hpm, rfl⟩, fun q hq => ?_, tk, fr.fx, fr.flr, fr.flp, fr.fdn, fr.fdr, M.fra⟩
            · rw [upd_ne (Ne.symm x1)]; exact s2 _ _ M.hlr
            · refine L2.Paired.mapP M.hts fun b q hb => ?_
              have hb2 : H' b = _ := hb
              show upd H2 x _ b = _
              rw [upd_ne (ne_of hb2 M.hx (by intro q; cases q))]
              exact s2 _ _ hb2
            · rw [upd_ne (Ne.symm x2)]; exact s2 _ _ M.hlp
            · rw [upd_ne (Ne.symm x3)]; exact s2 _ _ M.hdn
            · rw [upd_ne (Ne.symm x4)]; exact s2 _ _ M.hdr
            · have := hmm _ (List.mem_map.mpr ⟨q, hq, rfl⟩)
              omega
theorem mkc_Table (T : Tx K mg) : Mkc P w K mg base CX0 3 "Table" (TC K) (spTInit K) := by
  obtain ⟨⟨f, fd, ps, G, mk, b⟩, g⟩ := mkc_Table2 (P := P) (w := w) (base := base) T
  refine ⟨⟨f, fd, ps, G.imp fun vs H Q E h => ?_, mk, b⟩, g⟩
  obtain ⟨H0, x, dx, pr, z, rs, e1, e2, e3, e4, e5, e6, e7, k⟩ := h
  exact ⟨H0, x, dx, pr, z, rs, e1, e2, e3, e4, e5, e6, e7, fun H' s t => k H' s t.tab⟩
end
end Jr
namespace Jr
open PySem PySem.Spec PyProof.Rows L2
theorem len2 {s y : Str} {n m : Nat} (h : s.length ≤ n) (hy : y.length ≤ m) : (s ++ y).length ≤ n + m := by rw [app_len]; omega
section
variable {P : Program} {w : World} {K : PySem.W.Frag} {mg : Str → Option Value} {base : Heap}
def spJE (K : PySem.W.Frag) : Sp := fun vs H Q _ => ∃ (a C : Addr) (v : V), vs = [.ref a, v] ∧ OexC K C ∧ H a = some (exo a C none) ∧ Q .non H
theorem cdf_JoinError (T : Tx K mg) : Cdf P w K mg base 1 "JoinError" (He.ga K "JoinError") "__init__" (spJE K) := by
  obtain ⟨fd, F⟩ := T.d_JoinError___init__
  refine ⟨⟨_, fd, P_JoinError___init__, F.ok sc_JoinError___init__ (fun vs H Q E h => ?_) (fun cdv A outer s H vs Q E hr h => ?_), T.rd_JoinError, T.ga_JoinError, T.fc_JoinError, F.kp,
    F.bindsN (ps := P_JoinError___init__) fun _ _ _ _ _ _ us hl => match us, hl with | [_, _], _ => rfl⟩, T.g_JoinError⟩
  · obtain ⟨a, C, v, rfl, _⟩ := h
    rfl
  · obtain ⟨a, C, v, rfl, ox, ha, k⟩ := h
    refine ⟨_, (PSs.nox (pss_one (ps_expr (pe_veinit (by rfl) T.n_ValueError (vV _) (pa_cons (pv 0) (pa_cons (pv 1) pa_nil)))))), ?_⟩
    exact ⟨_, rfl, _, rfl, a, C, [v], rfl, (by show 1 ≤ 1000; decide), ox, ha, k⟩
end
end Jr
namespace Jr
open PySem PySem.Spec PyProof.Rows L2
section
variable {P : Program} {w : World} {K : PySem.W.Frag} {mg : Str → Option Value} {base : Heap}
theorem exk_NoTable (T : Tx K mg) : Exk P w K mg base 2 "NoTable" (He.ga K "NoTable") (spX2 (He.ga K "NoTable") "part" "number") := by
  have D_JoinError___init__ := cdf_JoinError (P := P) (w := w) (base := base) T
  obtain ⟨fd, F⟩ := T.d_NoTable___init__
  refine ⟨⟨_, fd, P_NoTable___init__, F.ok sc_NoTable___init__ (fun vs H Q E h => ?_) (fun cdv A outer s H vs Q E hr h => ?_), T.in_NoTable, T.it_NoTable,
    F.bindsN (ps := P_NoTable___init__) fun _ _ _ _ _ _ us hl => match us, hl with | [_, _, _], _ => rfl⟩, T.xc_NoTable, T.g_NoTable⟩
  · obtain ⟨a, v, u, rfl, _⟩ := h
    rfl
  · obtain ⟨a, v, u, rfl, fv, fu, ha, k⟩ := h
    refine ⟨_, (PSs.nox (pss_cons (ps_expr (pe_cdef D_JoinError___init__ (by first | exact hr | exact hr.mono (by decide)) (by rfl) (pa_cons (pv 0) (pa_cons (pe_joined (.cons pe_str (.cons (pe_fmtN (pv 1)) (.cons pe_str (.cons (pe_fmtN (pv 2)) .nil))))) pa_nil))))
      (pss_cons (ps_ost (pv 0) (pv 1))
      (pss_one (ps_ost (pv 0) (pv 2)))))), ?_⟩
    refine ⟨_, rfl, _, rfl, (by decide +kernel), _, rfl, fv, fun y hy => ?_⟩
    have l1 := len2 (s := Str.empty ++ (Str.ofString "no table: ")) (n := 100) (by decide +kernel) hy
    have l2 := len2 l1 (show (Str.ofString ", ").length ≤ 10 by decide +kernel)
    refine ⟨y, rfl, sz (by omega), _, rfl, sz (by omega), _, rfl, fu, fun y2 hy2 => ?_⟩
    have l3 := len2 l2 hy2
    refine ⟨y2, rfl, sz (by omega), a, _, _, rfl, T.xc_NoTable.oex, ha, ?_⟩
    refine ⟨_, rfl, _, rfl, a, _, rfl, T.xc_NoTable.oex, T.no_NoTable_part, .inl ⟨ha, fun d nd ne => ?_⟩⟩
    refine ⟨_, rfl, _, rfl, a, _, rfl, T.xc_NoTable.oex, T.no_NoTable_number, .inr ⟨d, _, upd_same, ?_, (by show 1 ≤ 900; decide), k d nd ne⟩⟩
    rw [upd_ne ne, upd_same]
end
end Jr
namespace Jr
open PySem PySem.Spec PyProof.Rows L2
section
variable {P : Program} {w : World} {K : PySem.W.Frag} {mg : Str → Option Value} {base : Heap}
abbrev CTable (K : PySem.W.Frag) : Addr := He.ga K "NoTable"
theorem fmt_part {p : Str} (h : p = Str.ofString "signs" ∨ p = Str.ofString "rows") : Fmt (.str p) := .inr (.inr ⟨p, rfl, by rcases h with h | h <;> rw [h] <;> decide +kernel⟩)
def spCheckSignsX (K : PySem.W.Frag) : Sp := fun vs H Q E => ∃ sv : V, vs = [sv] ∧ ((∃ z, sv = .str z ∧ SignsOk z ∧ 1 ≤ z.length ∧ z.length ≤ 12 ∧ ∀ H', Same H H' → Q .non H') ∨ ∃ u, WSigns K H sv u ∧ Rz2 (CTable K) "part" "number" (.str (Str.ofString "signs")) u H E)
theorem calx_check_signs (T : Tx K mg) : Cal P w K mg base (L2.CX P w) 4 "check_signs" (spCheckSignsX K) := by
  have C_may_be_sign := cal_may_be_sign (P := P) (w := w) (base := base) T
  have E_NoTable := exk_NoTable (P := P) (w := w) (base := base) T
  obtain ⟨fd, F⟩ := T.d_check_signs
  refine ⟨_, fd, P_check_signs, F.ok sc_check_signs (fun vs H Q E h => ?_) (fun cdv A outer s H vs Q E hr h => ?_), T.g_check_signs, F.kp, F.bindsN (ps := P_check_signs) fun _ _ _ _ _ _ us hl => match us, hl with | [_], _ => rfl⟩
  · obtain ⟨z, rfl, _⟩ := h
    rfl
  · obtain ⟨sv, rfl, h⟩ := h
    refine ⟨_, (pss_cons (ps_if (PW.pt (pw_or (pt_not (pt_val (pe_callB (id := "isinstance") call_isi (by rfl) T.n_isinstance (by decide +kernel) (pa_cons (pv 0) (pa_cons (pe_bltn (v := .ty "str") (by rfl) T.n_str (by decide +kernel) rfl) pa_nil))))) (pw_or1 (pt_not (pt_chain op_le op_le pe_int (pe_callB (id := "len") call_len_str (by rfl) T.n_len (by decide +kernel) (pa_cons (pv 0) pa_nil)) (pe_glob (v := .int 12) (by rfl) T.c_MOST_SIGNS.choose_spec ⟨_, rfl⟩)))))) (pss_one (ps_raise rfl (takes_of rfl rfl rfl rfl) (E_NoTable.mk2 (by first | exact hr | exact hr.mono (by decide)) (pa_cons pe_str (pa_cons pe_non pa_nil))))) pss_nil)
      (pss_one (ps_for (passes_of rfl) rfl (pi_enumS (by rfl) T.n_enumerate (pa_cons (pv 0) pa_nil)) (pg_tup rfl (pgs_cons (pg_name (i := 1) sc_check_signs.nd rfl (Or.inl rfl)) (pgs_cons (pg_name (i := 2) sc_check_signs.nd rfl (Or.inl rfl)) pgs_nil))) (pss_one (ps_if (PW.pt (pw_or (pt_not (pt_val (pe_cal C_may_be_sign (by first | exact hr | exact hr.mono (by decide)) (by rfl) (pa_cons (pv 2) pa_nil)))) (pw_or1 (pt_cmpR op_in_sign (pv 2) (pe_slice sl_str (pv 0) po_none (po_some (pv 1))) rfl)))) (pss_one (ps_raise rfl (takes_of rfl rfl rfl rfl) (E_NoTable.mk2 (by first | exact hr | exact hr.mono (by decide)) (pa_cons pe_str (pa_cons (pv 1) pa_nil))))) pss_nil))))), ?_⟩
    have fs := fmt_part (.inl rfl : Str.ofString "signs" = Str.ofString "signs" ∨ Str.ofString "signs" = Str.ofString "rows")
    have h' : (NoStr K H sv ∧ Rz2 (CTable K) "part" "number" (.str (Str.ofString "signs")) .non H E) ∨ (∃ z, sv = .str z ∧ z.length ≤ 100000 ∧ ¬ (1 ≤ z.length ∧ z.length ≤ 12) ∧ Rz2 (CTable K) "part" "number" (.str (Str.ofString "signs")) .non H E) ∨
        ∃ z, sv = .str z ∧ 1 ≤ z.length ∧ z.length ≤ 12 ∧ ((∀ i, ¬ WSign z i) → ∀ H', Same H H' → Q .non H') ∧ ∀ i, WSign z i → Rz2 (CTable K) "part" "number" (.str (Str.ofString "signs")) (.int (i : Nat)) H E := by
      rcases h with ⟨z, e, ok, z1, z12, k⟩ | ⟨u, ⟨a, rfl⟩ | ⟨z, e, zl, a, rfl⟩ | ⟨z, i, e, z1, z12, w, rfl⟩, k⟩
      · refine .inr (.inr ⟨z, e, z1, z12, fun _ => k, fun i w => ?_⟩)
        obtain ⟨c, hc, b⟩ := w.bad
        exfalso
        rcases b with b | b
        · exact b (ok.ok c (List.mem_of_getElem? hc))
        · have nd := ok.nd
          rw [← List.take_append_drop i z.cps.toList, List.nodup_append] at nd
          refine nd.2.2 c b c (List.mem_of_getElem? (i := 0) ?_) rfl
          rw [List.getElem?_drop]
          exact hc
      · exact .inl ⟨a, k⟩
      · exact .inr (.inl ⟨z, e, zl, a, k⟩)
      · refine .inr (.inr ⟨z, e, z1, z12, fun no => absurd w (no i), fun j w2 => ?_⟩)
        have ij : i = j := by
          rcases Nat.lt_trichotomy i j with l | l | l
          · obtain ⟨c, hc, b⟩ := w.bad
            obtain ⟨g1, g2⟩ := w2.good i c l hc
            rcases b with b | b
            · exact absurd g1 b
            · exact absurd b g2
          · exact l
          · obtain ⟨c, hc, b⟩ := w2.bad
            obtain ⟨g1, g2⟩ := w.good j c l hc
            rcases b with b | b
            · exact absurd g1 b
            · exact absurd b g2
        rw [← ij]
        exact k
    rcases h' with ⟨⟨ty, hty, hk⟩, k⟩ | ⟨z, rfl, zl, nz, k⟩ | ⟨z, rfl, z1, z12, kg, kb⟩
    · exact ⟨_, rfl, _, _, _, _, _, rfl, .ty "str", hty, hk, _, rfl, iteT ⟨_, _, rfl, fs, .inl rfl, k.now⟩⟩
    · refine ⟨_, rfl, _, _, _, _, _, rfl, .ty "str", .base (.str z), isStr, _, rfl, iteF ?_⟩
      refine ⟨_, rfl, _, rfl, sz zl, _, _, rfl, rfl, _, rfl, ?_⟩
      by_cases c : 1 ≤ z.length
      · rw [decide_eq_true (show (1 : Int) ≤ (z.length : Int) by omega)]
        refine iteT ⟨_, _, rfl, rfl, _, rfl, ?_⟩
        rw [decide_eq_false (show ¬ (z.length : Int) ≤ 12 by omega)]
        exact iteT ⟨_, _, rfl, fs, .inl rfl, k.now⟩
      · rw [decide_eq_false (show ¬ (1 : Int) ≤ (z.length : Int) by omega)]
        exact iteF ⟨_, rfl, iteT ⟨_, _, rfl, fs, .inl rfl, k.now⟩⟩
    have hz : z.length ≤ sizeLine := sz (by omega)
    refine ⟨_, rfl, _, _, _, _, _, rfl, .ty "str", .base (.str z), isStr, _, rfl, iteF ?_⟩
    refine ⟨_, rfl, _, rfl, hz, _, _, rfl, rfl, _, rfl, ?_⟩
    rw [decide_eq_true (show (1 : Int) ≤ (z.length : Int) by omega)]
    refine iteT ⟨_, _, rfl, rfl, _, rfl, ?_⟩
    rw [decide_eq_true (show (z.length : Int) ≤ 12 by omega)]
    refine iteF ?_
    refine ⟨_, rfl, z, rfl, for_enumS (x := z) (fun i σ H' => ∃ u v : Option V, σ = [some (.str z), u, v] ∧ Same H H' ∧ ∀ j d, j < i → z.cps.toList[j]? = some d → SgnOk d ∧ ¬ d ∈ z.cps.toList.take j) ⟨none, none, rfl, Same.refl H, fun j d hj => absurd hj (Nat.not_lt_zero _)⟩ ?_ ?_⟩
    · rintro i c t σ H' hi ht ⟨u, v, rfl, sm, ah⟩
      have s2 := Same.put (o := .tup [.int (i : Nat), .str (sgn c)]) sm ht
      have il := (List.getElem?_eq_some_iff.mp hi).1
      rw [len_cps] at il
      refine ⟨t, _, rfl, SqT.of upd_same, rfl, _, _, rfl, _, _, rfl, rfl, ?_⟩
      refine ⟨_, rfl, c, rfl, _, rfl, ?_⟩
      by_cases oc : 32 ≤ c ∧ c ≤ 126 ∧ c ≠ 37
      · rw [decide_eq_true oc]
        refine iteF ⟨_, rfl, _, rfl, _, rfl, _, rfl, _, rfl, hz, c, _, rfl, rfl, _, rfl, ?_⟩
        rw [cut_to]
        by_cases hm : c ∈ z.cps.toList.take i
        · rw [decide_eq_true hm]
          exact iteT ⟨_, rfl, _, _, rfl, fs, fmt_nat i (by omega), ((kb i ⟨⟨c, hi, .inr hm⟩, ah⟩).same s2).now⟩
        · rw [decide_eq_false hm]
          refine iteF ⟨_, _, rfl, s2, fun j d hj hd => ?_⟩
          by_cases e : j = i
          · rw [e] at hd ⊢
            rw [hi] at hd
            rw [← Option.some.inj hd]
            exact ⟨oc, hm⟩
          · exact ah j d (by omega) hd
      · rw [decide_eq_false oc]
        exact iteT ⟨_, rfl, _, _, rfl, fs, fmt_nat i (by omega), ((kb i ⟨⟨c, hi, .inl oc⟩, ah⟩).same s2).now⟩
    · rintro σ H' ⟨u, v, rfl, sm, ah⟩
      refine kg (fun i w => ?_) _ sm
      obtain ⟨c, hc, b⟩ := w.bad
      obtain ⟨g1, g2⟩ := ah i c (List.getElem?_eq_some_iff.mp hc).1 hc
      rcases b with b | b
      · exact b g1
      · exact g2 b
/-- may_take_row of anything -/
def spMayTakeX (K : PySem.W.Frag) : Sp := fun vs H Q _ => ∃ (x dx : Addr) (z : Str) (rs : Rws) (lr lp dn dr : Addr) (v : V), vs = [.ref x, v] ∧ H x = some (.ins (TC K) dx (tf5 z lr lp dn dr)) ∧ H dn = some (.dK (numD 0 (pcs z rs))) ∧ TabOk z rs ∧
  ((BadRow K H z rs v ∧ Q (.bl false) H) ∨ ∃ a l r, v = .ref a ∧ H a = some (.tup [.str l, .str r]) ∧ l ∈ pcs z rs ∧ r ∈ pcs z rs ∧ (l ++ r).length ≤ 16 ∧ ¬ (l ++ r) ∈ pcs z rs ∧ Q (.bl true) H)
theorem metU_may_take_row (T : Tx K mg) : Met P w K mg base CX0 2 (TC K) "may_take_row" (spMayTakeX K) := by
  have M_Table_which := met_which (P := P) (w := w) (base := base) T
  obtain ⟨fd, F⟩ := T.d_Table_may_take_row
  refine ⟨T.cl_Table, _, fd, P_Table_may_take_row, F.ok sc_Table_may_take_row (fun vs H Q E h => ?_) (fun cdv A outer s H vs Q E hr h => ?_), T.m_Table_may_take_row, F.bindsN (ps := P_Table_may_take_row) fun _ _ _ _ _ _ us hl => match us, hl with | [_, _], _ => rfl⟩
  · obtain ⟨x, dx, z, rs, lr, lp, dn, dr, v, rfl, _⟩ := h
    rfl
  · obtain ⟨x, dx, z, rs, lr, lp, dn, dr, v, rfl, hx, hn, tk, h⟩ := h
    refine ⟨_, (PSs.nox (pss_cons (ps_if (PW.pt (pw_or (pt_not (pt_val (pe_callB (id := "isinstance") call_isi (by rfl) T.n_isinstance (by decide +kernel) (pa_cons (pv 1) (pa_cons (pe_bltn (v := .ty "tuple") (by rfl) T.n_tuple (by decide +kernel) rfl) pa_nil))))) (pw_or1 (pt_cmpR op_ne (pe_callB (id := "len") call_len_seq (by rfl) T.n_len (by decide +kernel) (pa_cons (pv 1) pa_nil)) pe_int (nomark _))))) (pss_one (ps_ret pe_bl)) pss_nil)
      (pss_cons (ps_asg (pv 1) (pg_tup rfl (pgs_cons (pg_name (i := 2) sc_Table_may_take_row.nd rfl (Or.inl rfl)) (pgs_cons (pg_name (i := 3) sc_Table_may_take_row.nd rfl (Or.inl rfl)) pgs_nil))))
      (pss_cons (ps_if (PW.pt (pw_or (pt_cmpR op_isN (pe_met M_Table_which (pv 0) (by first | exact hr | exact hr.mono (by decide)) (pa_cons (pv 2) pa_nil)) pe_non (nomark _)) (pw_or1 (pt_cmpR op_isN (pe_met M_Table_which (pv 0) (by first | exact hr | exact hr.mono (by decide)) (pa_cons (pv 3) pa_nil)) pe_non (nomark _))))) (pss_one (ps_ret pe_bl)) pss_nil)
      (pss_cons (ps_set (i := 4) sc_Table_may_take_row.nd rfl (Or.inl rfl) (pe_op op_add_str (pv 2) (pv 3)))
      (pss_one (ps_ret (pe_and (pe_cmpR op_le (pe_callB (id := "len") call_len_str (by rfl) T.n_len (by decide +kernel) (pa_cons (pv 4) pa_nil)) (pe_glob (v := .int 16) (by rfl) T.c_MOST_JOINED.choose_spec ⟨_, rfl⟩) (nomark _)) (pe_one (pe_cmpR op_isN (pe_met M_Table_which (pv 0) (by first | exact hr | exact hr.mono (by decide)) (pa_cons (pv 4) pa_nil)) pe_non (nomark _))))))))))), ?_⟩
    have nd := tk.nodup
    rcases h with ⟨⟨ty, hty, hk⟩ | ⟨a, us, rfl, hA, ul, h⟩, k⟩ | ⟨a, l, r, rfl, ha, hl, hr', hlen, hnew, k⟩
    · exact ⟨_, rfl, _, _, _, _, _, rfl, .ty "tuple", hty, hk, _, rfl, iteT k⟩
    · refine ⟨_, rfl, _, _, _, _, _, rfl, .ty "tuple", .base (.tup hA), isTup, _, rfl, iteF ⟨_, rfl, a, _, rfl, .inr (SqT.of hA), rfl, _, rfl, ?_⟩⟩
      rcases h with h | ⟨u1, u2, rfl, h⟩
      · have e : decide (V.int ((us.length : Nat) : Int) = V.int 2) = false := decide_eq_false fun e => h (by have := V.int.inj e; omega)
        rw [e]
        exact iteT k
      · have e : decide (V.int ((([u1, u2] : List V).length : Nat) : Int) = V.int 2) = true := decide_eq_true rfl
        rw [e]
        refine iteF ⟨_, rfl, a, _, rfl, SqT.of hA, rfl, _, _, rfl, _, _, rfl, rfl, ?_⟩
        rcases h with n1 | ⟨l, rfl, hl, h⟩
        · refine ⟨_, rfl, x, dx, _, rfl, hx, l5_which _ _ _ _ _, _, rfl, x, dx, _, dn, _, _, rfl, hx, l5_num _ _ _ _ _, hn, ?_⟩
          rcases n1 with ⟨t, rfl, nt⟩ | n
          · refine .inl ⟨t, rfl, ?_⟩
            rw [numD_none 0 _ _ nt]
            exact ⟨rfl, _, rfl, iteT k⟩
          · exact .inr ⟨n, rfl, _, rfl, iteT k⟩
        obtain ⟨i, _, ei⟩ := num_some nd hl
        refine ⟨_, rfl, x, dx, _, rfl, hx, l5_which _ _ _ _ _, _, rfl, x, dx, _, dn, _, _, rfl, hx, l5_num _ _ _ _ _, hn, .inl ⟨l, rfl, ?_⟩⟩
        rw [ei]
        refine ⟨rfl, _, rfl, iteF ?_⟩
        rcases h with n2 | ⟨r, rfl, hr', h⟩
        · refine ⟨_, rfl, x, dx, _, rfl, hx, l5_which _ _ _ _ _, _, rfl, x, dx, _, dn, _, _, rfl, hx, l5_num _ _ _ _ _, hn, ?_⟩
          rcases n2 with ⟨t, rfl, nt⟩ | n
          · refine .inl ⟨t, rfl, ?_⟩
            rw [numD_none 0 _ _ nt]
            exact ⟨rfl, _, rfl, iteT k⟩
          · exact .inr ⟨n, rfl, _, rfl, iteT k⟩
        obtain ⟨j, _, ej⟩ := num_some nd hr'
        refine ⟨_, rfl, x, dx, _, rfl, hx, l5_which _ _ _ _ _, _, rfl, x, dx, _, dn, _, _, rfl, hx, l5_num _ _ _ _ _, hn, .inl ⟨r, rfl, ?_⟩⟩
        rw [ej]
        refine ⟨rfl, _, rfl, iteF ?_⟩
        have la := app_len l r
        have pl1 := (tk.plen hl).2
        have pl2 := (tk.plen hr').2
        refine ⟨_, rfl, _, rfl, _, _, rfl, rfl, sz (by omega), ?_⟩
        refine ⟨_, rfl, _, rfl, sz (by omega), _, _, rfl, rfl, _, rfl, ?_⟩
        by_cases c : (l ++ r).length ≤ 16
        · rw [decide_eq_true (show ((l ++ r).length : Int) ≤ 16 by omega)]
          have hm : l ++ r ∈ pcs z rs := by
            rcases h with h | h
            · omega
            · exact h
          obtain ⟨q, _, eq⟩ := num_some nd hm
          refine iteT ⟨_, rfl, x, dx, _, rfl, hx, l5_which _ _ _ _ _, _, rfl, x, dx, _, dn, _, _, rfl, hx, l5_num _ _ _ _ _, hn, .inl ⟨l ++ r, rfl, ?_⟩⟩
          rw [eq]
          exact ⟨rfl, k⟩
        · rw [decide_eq_false (show ¬ ((l ++ r).length : Int) ≤ 16 by omega)]
          exact iteF k
    · obtain ⟨i, _, ei⟩ := num_some nd hl
      obtain ⟨j, _, ej⟩ := num_some nd hr'
      have la := app_len l r
      refine ⟨_, rfl, _, _, _, _, _, rfl, .ty "tuple", .base (.tup ha), isTup, _, rfl, iteF ⟨_, rfl, a, _, rfl, .inr (SqT.of ha), rfl, _, rfl, iteF ?_⟩⟩
      refine ⟨_, rfl, a, _, rfl, SqT.of ha, rfl, _, _, rfl, _, _, rfl, rfl, ?_⟩
      refine ⟨_, rfl, x, dx, _, rfl, hx, l5_which _ _ _ _ _, _, rfl, x, dx, _, dn, _, _, rfl, hx, l5_num _ _ _ _ _, hn, .inl ⟨l, rfl, ?_⟩⟩
      rw [ei]
      refine ⟨rfl, _, rfl, iteF ?_⟩
      refine ⟨_, rfl, x, dx, _, rfl, hx, l5_which _ _ _ _ _, _, rfl, x, dx, _, dn, _, _, rfl, hx, l5_num _ _ _ _ _, hn, .inl ⟨r, rfl, ?_⟩⟩
      rw [ej]
      refine ⟨rfl, _, rfl, iteF ?_⟩
      refine ⟨_, rfl, _, rfl, _, _, rfl, rfl, sz (by omega), ?_⟩
      refine ⟨_, rfl, _, rfl, sz (by omega), _, _, rfl, rfl, _, rfl, ?_⟩
      rw [decide_eq_true (show ((l ++ r).length : Int) ≤ 16 by omega)]
      refine iteT ⟨_, rfl, x, dx, _, rfl, hx, l5_which _ _ _ _ _, _, rfl, x, dx, _, dn, _, _, rfl, hx, l5_num _ _ _ _ _, hn, .inl ⟨l ++ r, rfl, ?_⟩⟩
      rw [numD_none 0 _ _ hnew]
      exact ⟨rfl, k⟩
/-- Table(signs, rows): refused, or made -/
def spTInitX (K : PySem.W.Frag) : Sp := fun vs H Q E => ∃ (H0 : Hp) (x dx : Addr) (sv rv : V), vs = [.ref x, sv, rv] ∧ H = upd (upd H0 dx (.own x)) x (.ins (TC K) dx []) ∧ H0 x = none ∧ H0 dx = none ∧ dx ≠ x ∧
  ((∃ part u, WTab K H0 sv rv part u ∧ Rz2 (CTable K) "part" "number" (.str part) u H0 E) ∨ ∃ (pr : Addr) (z : Str) (rs : Rws), sv = .str z ∧ rv = .ref pr ∧ RowsAt H0 pr rs ∧ TabOk z rs ∧ ∀ H', Same H0 H' → TabFr (TC K) H0 H' x z rs → Q .non H')
theorem mkx_Table (T : Tx K mg) : Mkc P w K mg base (L2.CX P w) 5 "Table" (TC K) (spTInitX K) := by
  have CX_check_signs := calx_check_signs (P := P) (w := w) (base := base) T
  have E_NoTable := exk_NoTable (P := P) (w := w) (base := base) T
  have M_Table_take_piece := met_take_piece (P := P) (w := w) (base := base) T
  have M_Table_may_take_row := metU_may_take_row (P := P) (w := w) (base := base) T
  have M_Table_take_row := met_take_row (P := P) (w := w) (base := base) T
  obtain ⟨fd, F⟩ := T.d_Table___init__
  refine ⟨⟨_, fd, P_Table___init__, F.ok sc_Table___init__ (fun vs H Q E h => ?_) (fun cdv A outer s H vs Q E hr h => ?_), T.mk_Table, F.bindsN (ps := P_Table___init__) fun _ _ _ _ _ _ us hl => match us, hl with | [_, _, _], _ => rfl⟩, T.g_Table⟩
  · obtain ⟨H0, x, dx, sv, rv, rfl, _⟩ := h
    rfl
  · obtain ⟨H0, x, dx, sv, rv, rfl, rfl, x0, dx0, ndx, h⟩ := h
    refine ⟨_, (pss_cons (ps_expr (pe_calX CX_check_signs (by first | exact hr | exact hr.mono (by decide)) (by rfl) (takes_of rfl rfl rfl rfl) (pa_cons (pv 1) pa_nil)))
      (pss_cons (ps_if (PW.pt (pw_or (pt_not (pt_val (pe_callB (id := "isinstance") call_isi (by rfl) T.n_isinstance (by decide +kernel) (pa_cons (pv 2) (pa_cons (pe_bltn (v := .ty "list") (by rfl) T.n_list (by decide +kernel) rfl) pa_nil))))) (pw_or1 (pt_cmpR op_gt (pe_callB (id := "len") call_len_seq (by rfl) T.n_len (by decide +kernel) (pa_cons (pv 2) pa_nil)) (pe_glob (v := .int 24) (by rfl) T.c_MOST_ROWS.choose_spec ⟨_, rfl⟩) (nomark _))))) (pss_one (ps_raise rfl (takes_of rfl rfl rfl rfl) (E_NoTable.mk2 (by first | exact hr | exact hr.mono (by decide)) (pa_cons pe_str (pa_cons pe_non pa_nil))))) pss_nil)
      (pss_cons (ps_fld (pv 0) (pv 1) rfl)
      (pss_cons (ps_fld (pv 0) (pe_lst pa_nil) rfl)
      (pss_cons (ps_fld (pv 0) (pe_lst pa_nil) rfl)
      (pss_cons (ps_fld (pv 0) pe_dnewK rfl)
      (pss_cons (ps_fld (pv 0) pe_dnewT rfl)
      (pss_cons (ps_for (passes_of rfl) rfl (pi_str (pv 1)) (pg_name (i := 3) sc_Table___init__.nd rfl (Or.inl rfl)) (pss_one (ps_expr (pe_met M_Table_take_piece (pv 0) (by first | exact hr | exact hr.mono (by decide)) (pa_cons (pv 3) pa_nil)))))
      (pss_cons (ps_for (passes_of rfl) rfl (pi_enum (by rfl) T.n_enumerate (pa_cons (pv 2) pa_nil)) (pg_tup rfl (pgs_cons (pg_name (i := 4) sc_Table___init__.nd rfl (Or.inl rfl)) (pgs_cons (pg_name (i := 5) sc_Table___init__.nd rfl (Or.inl rfl)) pgs_nil))) (pss_cons (ps_if (pt_not (pt_val (pe_met M_Table_may_take_row (pv 0) (by first | exact hr | exact hr.mono (by decide)) (pa_cons (pv 5) pa_nil)))) (pss_one (ps_raise rfl (takes_of rfl rfl rfl rfl) (E_NoTable.mk2 (by first | exact hr | exact hr.mono (by decide)) (pa_cons pe_str (pa_cons (pv 4) pa_nil))))) pss_nil)
      (pss_one (ps_expr (pe_met M_Table_take_row (pv 0) (by first | exact hr | exact hr.mono (by decide)) (pa_cons (pv 5) pa_nil))))))
      (pss_one (ps_fld (pv 0) (pe_callB (id := "max") (cr_max rfl) (by rfl) T.n_max (by decide +kernel) (pa_cons (pe_lc (own := [("piece", 6)]) (g := gName 6) (by rfl) sc_Table___init__.nd (pi_list (pe_fld (pv 0) rfl)) (blkOk_by (own := [("piece", 6)]) (N := N_Table___init__) (sc := defScope s_Table___init__) (by decide +kernel)) (fun _ _ _ _ _ => (pg_name (i := 6) sc_Table___init__.nd rfl (Or.inl rfl))) (fun _ _ _ _ _ => pts_nil) (fun _ _ _ _ _ => (pe_callB (id := "len") call_len_str (by rfl) T.n_len (by decide +kernel) (pa_cons (pv 6) pa_nil)))) pa_nil)) rfl))))))))))), ?_⟩
    have s00 : Same H0 (upd (upd H0 dx (.own x)) x (.ins (TC K) dx [])) := Same.mut (Same.new dx0) x0
    have fr := fmt_part (.inr rfl : Str.ofString "rows" = Str.ofString "signs" ∨ Str.ofString "rows" = Str.ofString "rows")
    have h' : (∃ u, WSigns K H0 sv u ∧ Rz2 (CTable K) "part" "number" (.str (Str.ofString "signs")) u H0 E) ∨ ∃ z, sv = .str z ∧ SignsOk z ∧ 1 ≤ z.length ∧ z.length ≤ 12 ∧ ((NoLst K H0 rv ∧ Rz2 (CTable K) "part" "number" (.str (Str.ofString "rows")) .non H0 E) ∨ ∃ pr us, rv = .ref pr ∧ H0 pr = some (.lst us) ∧
        ((24 < us.length ∧ us.length ≤ 1000 ∧ Rz2 (CTable K) "part" "number" (.str (Str.ofString "rows")) .non H0 E) ∨ (us.length ≤ 24 ∧ ∃ rs, RowsTo K H0 z us rs ∧ ((rs.length < us.length ∧ Rz2 (CTable K) "part" "number" (.str (Str.ofString "rows")) (.int (rs.length : Nat)) H0 E) ∨
          (rs.length = us.length ∧ ∀ H', Same H0 H' → TabFr (TC K) H0 H' x z rs → Q .non H'))))) := by
      rcases h with ⟨part, u, ⟨rfl, ws⟩ | ⟨rfl, z, e, ok, z1, z12, ⟨nl, rfl⟩ | ⟨a, us, e2, hA, ul, u24, rfl⟩ | ⟨a, us, rs, e2, hA, ul, rt, rl, rfl⟩⟩, k⟩ | ⟨pr, z, rs, e, e2, ⟨as, hp, hrs⟩, tk, k⟩
      · exact .inl ⟨u, ws, k⟩
      · exact .inr ⟨z, e, ok, z1, z12, .inl ⟨nl, k⟩⟩
      · exact .inr ⟨z, e, ok, z1, z12, .inr ⟨a, us, e2, hA, .inl ⟨u24, ul, k⟩⟩⟩
      · exact .inr ⟨z, e, ok, z1, z12, .inr ⟨a, us, e2, hA, .inr ⟨ul, rs, rt, .inl ⟨rl, k⟩⟩⟩⟩
      · have al : (as.map V.ref).length = rs.length := by rw [List.length_map, Paired.len hrs]
        have many := tk.many
        exact .inr ⟨z, e, tk.sg, tk.n1, tk.n12, .inr ⟨pr, as.map V.ref, e2, hp, .inr ⟨by omega, rs, ⟨⟨as, by rw [← al, List.take_length], hrs⟩, by omega, tk, fun v hv => by rw [← al, List.getElem?_eq_none (Nat.le_refl _)] at hv; cases hv⟩, .inr ⟨al.symm, k⟩⟩⟩⟩
    rcases h' with ⟨u, ws, k⟩ | ⟨z, rfl, sgk, n1, n12, h⟩
    · exact ⟨_, rfl, _, rfl, .inr ⟨u, ws.same s00, k.same s00⟩⟩
    refine ⟨_, rfl, _, rfl, .inl ⟨z, rfl, sgk, n1, n12, fun H1 s1 => ?_⟩⟩
    have hx1 : H1 x = some (.ins (TC K) dx []) := s1 _ _ upd_same
    have s01 := s00.trans s1
    rcases h with ⟨⟨ty, hty, hk⟩, k⟩ | ⟨pr, us, rfl, hpr, h⟩
    · exact ⟨_, rfl, _, _, _, _, _, rfl, .ty "list", tyx_same hty s01, hk, _, rfl, iteT ⟨_, _, rfl, fr, .inl rfl, (k.same s01).now⟩⟩
    have hpr1 : H1 pr = some (.lst us) := s01 _ _ hpr
    refine ⟨_, rfl, _, _, _, _, _, rfl, .ty "list", .base (.lst hpr1), isLst, _, rfl, iteF ⟨_, rfl, _, _, rfl, .inl (SqL.of hpr1), _, _, rfl, rfl, _, rfl, ?_⟩⟩
    rcases h with ⟨u24, ul, k⟩ | ⟨ul, rs, rt, hrt⟩
    · rw [decide_eq_true (show (24 : Int) < (us.length : Nat) by omega)]
      exact iteT ⟨_, _, rfl, fr, .inl rfl, (k.same s01).now⟩
    rw [decide_eq_false (show ¬ (24 : Int) < (us.length : Nat) by omega)]
    have tk := rt.ok
    have many := tk.many
    obtain ⟨as0, eas, hts0⟩ := rt.pre
    refine iteF ⟨_, rfl, _, rfl, x, _, dx, _, rfl, hx1, T.cl_Table, T.no_Table_sign_text, (by show 0 < 1000; decide), ?_⟩
    have s02 := Same.mut (o := .ins (TC K) dx (putF "sign_text" (.str z) [])) s01 x0
    refine ⟨Nat.zero_le _, fun lr hlr => ⟨_, rfl, x, _, dx, _, rfl, Same.new hlr _ _ upd_same, T.cl_Table, T.no_Table_row_list, (by show 1 < 1000; decide), ?_⟩⟩
    have s03 := Same.mut (o := .ins (TC K) dx (putF "row_list" (.ref lr) (putF "sign_text" (.str z) []))) (Same.put (o := .lst []) s02 hlr) x0
    refine ⟨Nat.zero_le _, fun lp hlp => ⟨_, rfl, x, _, dx, _, rfl, Same.new hlp _ _ upd_same, T.cl_Table, T.no_Table_piece_list, (by show 2 < 1000; decide), ?_⟩⟩
    have s04 := Same.mut (o := .ins (TC K) dx (putF "piece_list" (.ref lp) (putF "row_list" (.ref lr) (putF "sign_text" (.str z) [])))) (Same.put (o := .lst []) s03 hlp) x0
    intro dn hdn
    refine ⟨_, rfl, x, _, dx, _, rfl, Same.new hdn _ _ upd_same, T.cl_Table, T.no_Table_number_by_piece, (by show 3 < 1000; decide), ?_⟩
    have s05 := Same.mut (o := .ins (TC K) dx (putF "number_by_piece" (.ref dn) (putF "piece_list" (.ref lp) (putF "row_list" (.ref lr) (putF "sign_text" (.str z) []))))) (Same.put (o := .dK []) s04 hdn) x0
    intro dr hdr
    refine ⟨_, rfl, x, _, dx, _, rfl, Same.new hdr _ _ upd_same, T.cl_Table, T.no_Table_rank_by_row, (by show 4 < 1000; decide), ?_⟩
    rw [l5_put]
    have s06 := Same.mut (o := .ins (TC K) dx (tf5 z lr lp dn dr)) (Same.put (o := .dT []) s05 hdr) x0
    have fr0 : Fre H0 x lr lp dn dr := ⟨x0, s02.free hlr, s03.free hlp, s04.free hdn, s05.free hdr, fun e => by
      rw [← e] at hlp
      have xl : lr ≠ x := fun e2 => by rw [e2, upd_same] at hlr; cases hlr
      rw [upd_ne xl, upd_same] at hlp
      cases hlp⟩
    have xlr : lr ≠ x := fun e2 => by rw [e2, upd_same] at hlr; cases hlr
    have xlp : lp ≠ x := fun e2 => by rw [e2, upd_same] at hlp; cases hlp
    have xdn : dn ≠ x := fun e2 => by rw [e2, upd_same] at hdn; cases hdn
    have xdr : dr ≠ x := fun e2 => by rw [e2, upd_same] at hdr; cases hdr
    have q1 := hlp
    have q2 := hdn
    have q3 := hdr
    have a1 : lr ≠ dn := fun e => by
      rw [← e, upd_ne xlr, upd_ne fr0.rp, upd_ne xlr, upd_same] at q2; cases q2
    have a2 : lp ≠ dn := fun e => by
      rw [← e, upd_ne xlp, upd_same] at q2; cases q2
    have a3 : lr ≠ dr := fun e => by
      rw [← e, upd_ne xlr, upd_ne a1, upd_ne xlr, upd_ne fr0.rp, upd_ne xlr, upd_same] at q3; cases q3
    have a4 : lp ≠ dr := fun e => by
      rw [← e, upd_ne xlp, upd_ne a2, upd_ne xlp, upd_same] at q3; cases q3
    have a5 : dn ≠ dr := fun e => by
      rw [← e, upd_ne xdn, upd_same] at q3; cases q3
    have mid0 : Mid K H0 (upd (upd (upd (upd (upd (upd (upd (upd (upd H1 x (.ins (TC K) dx (putF "sign_text" (.str z) []))) lr (.lst [])) x (.ins (TC K) dx (putF "row_list" (.ref lr) (putF "sign_text" (.str z) [])))) lp (.lst [])) x (.ins (TC K) dx (putF "piece_list" (.ref lp) (putF "row_list" (.ref lr) (putF "sign_text" (.str z) []))))) dn (.dK [])) x (.ins (TC K) dx (putF "number_by_piece" (.ref dn) (putF "piece_list" (.ref lp) (putF "row_list" (.ref lr) (putF "sign_text" (.str z) [])))))) dr (.dT [])) x (.ins (TC K) dx (tf5 z lr lp dn dr))) x dx z lr lp dn dr [] [] [] := by
      refine ⟨upd_same, ?_, .nil, ?_, ?_, ?_, s06, fun a ha => by cases ha⟩
      · rw [upd_ne xlr, upd_ne a3, upd_ne xlr, upd_ne a1, upd_ne xlr, upd_ne fr0.rp, upd_ne xlr, upd_same]; rfl
      · rw [upd_ne xlp, upd_ne a4, upd_ne xlp, upd_ne a2, upd_ne xlp, upd_same]; rfl
      · rw [upd_ne xdn, upd_ne a5, upd_ne xdn, upd_same]; rfl
      · rw [upd_ne xdr, upd_same]; rfl
    revert mid0
    generalize (upd (upd (upd (upd (upd (upd (upd (upd (upd H1 x (.ins (TC K) dx (putF "sign_text" (.str z) []))) lr (.lst [])) x (.ins (TC K) dx (putF "row_list" (.ref lr) (putF "sign_text" (.str z) [])))) lp (.lst [])) x (.ins (TC K) dx (putF "piece_list" (.ref lp) (putF "row_list" (.ref lr) (putF "sign_text" (.str z) []))))) dn (.dK [])) x (.ins (TC K) dx (putF "number_by_piece" (.ref dn) (putF "piece_list" (.ref lp) (putF "row_list" (.ref lr) (putF "sign_text" (.str z) [])))))) dr (.dT [])) x (.ins (TC K) dx (tf5 z lr lp dn dr))) = H6
    intro mid0
    refine ⟨_, rfl, z, rfl, for_str (x := z) (fun i σ H' => ∃ u, σ = [some (.ref x), some (.str z), some (.ref pr), u, none, none, none] ∧ Mid K H0 H' x dx z lr lp dn dr [] ((sgs z).take i) []) ⟨none, rfl, mid0⟩ ?_ ?_⟩
    · rintro i c σ H' hi ⟨u, rfl, M⟩
      have hsg : (sgs z)[i]? = some (sgn c) := by unfold sgs; rw [List.getElem?_map, hi]; rfl
      have hnew : ¬ sgn c ∈ (sgs z).take i := fun hm => by
        have nd := sgs_nodup sgk.nd
        rw [← List.take_append_drop i (sgs z), List.nodup_append] at nd
        refine nd.2.2 _ hm (sgn c) (List.mem_of_getElem? (i := 0) ?_) rfl
        rw [List.getElem?_drop]; exact hsg
      refine ⟨_, rfl, x, dx, _, rfl, M.hx, l5_tp _ _ _ _ _, _, rfl, x, dx, z, lr, lp, dn, dr, (sgs z).take i, sgn c, rfl, M.hx, M.hlp, M.hdn, hnew, ?_, ?_⟩
      · rw [List.length_take]; have := sgs_len z; omega
      · refine ⟨_, rfl, ?_⟩
        have e : (sgs z).take (i + 1) = (sgs z).take i ++ [sgn c] := by rw [List.take_add_one, hsg]; rfl
        rw [e]
        exact M.piece fr0
    · rintro σ H' ⟨u, rfl, M⟩
      have e0 : (sgs z).take z.cps.toList.length = sgs z := by
        rw [List.take_of_length_le]; unfold sgs; rw [List.length_map]; exact Nat.le_refl _
      rw [e0] at M
      have ep : sgs z = pcs z [] := by unfold pcs; rw [List.map_nil, List.append_nil]
      rw [ep] at M
      refine ⟨_, rfl, pr, _, rfl, SqL.of (M.sm _ _ hpr), for_enum (K := K) (a := pr) (xs := us) (fun i σ H' => ∃ (u v y : Option V) (as : List Addr), σ = [some (.ref x), some (.str z), some (.ref pr), u, v, y, none] ∧ i ≤ rs.length ∧ Mid K H0 H' x dx z lr lp dn dr as (pcs z (rs.take i)) (rs.take i))
        ⟨u, none, none, [], rfl, Nat.zero_le _, M⟩ (fun i σ H' _ ⟨_, _, _, _, _, _, M⟩ => SqL.of (M.sm _ _ hpr)) ?_ ?_⟩
      · rintro i y t σ H' hi ht ⟨u, v, y', as, rfl, il, M0⟩
        have M := M0.new (o := .tup [.int (i : Nat), y]) ht
        have sm0 : Same H0 (upd H' t (.tup [.int (i : Nat), y])) := M.sm
        by_cases c : i = rs.length
        · subst c
          have bad := (rt.nx y hi).same sm0
          have ul2 := (List.getElem?_eq_some_iff.mp hi).1
          rw [List.take_length] at M
          rcases hrt with ⟨rl, k⟩ | ⟨rl, _⟩
          · refine ⟨t, _, rfl, SqT.of upd_same, rfl, _, _, rfl, _, _, rfl, rfl, ?_⟩
            exact ⟨_, rfl, x, dx, _, rfl, M.hx, l5_mt _ _ _ _ _, _, rfl, x, dx, z, rs, lr, lp, dn, dr, y, rfl, M.hx, M.hdn, tk, .inl ⟨bad, _, rfl, iteT ⟨_, rfl, _, _, rfl, fr, fmt_nat rs.length (by omega), (k.same sm0).now⟩⟩⟩
          · omega
        have il2 : i < rs.length := by omega
        have ea0 : (us.take rs.length)[i]? = some y := by rw [List.getElem?_take, if_pos il2]; exact hi
        rw [eas, List.getElem?_map] at ea0
        cases ea : as0[i]? with
        | none => rw [ea] at ea0; cases ea0
        | some a =>
          rw [ea] at ea0
          cases ea0
          obtain ⟨r, hri, hta⟩ := Paired.get hts0 ea
          obtain ⟨l, r⟩ := r
          have ro := tk.rows i _ hri
          have ha : upd H' t (.tup [.int (i : Nat), .ref a]) a = some (.tup [.str l, .str r]) := M.sm _ _ hta
          have tki := tk.take i
          have pln : (pcs z (rs.take i)).length ≤ 1000 := by rw [pcs_len, List.length_take]; omega
          refine ⟨t, _, rfl, SqT.of upd_same, rfl, _, _, rfl, _, _, rfl, rfl, ?_⟩
          refine ⟨_, rfl, x, dx, _, rfl, M.hx, l5_mt _ _ _ _ _, _, rfl, x, dx, z, rs.take i, lr, lp, dn, dr, _, rfl, M.hx, M.hdn, tki, .inr ⟨a, l, r, rfl, ha, ro.lm, ro.rm, ro.len, ro.new, _, rfl, iteF ?_⟩⟩
          have hnr : ¬ (l, r) ∈ rs.take i := fun hm => ro.new (by unfold pcs; exact List.mem_append_right _ (List.mem_map.mpr ⟨_, hm, rfl⟩))
          have rlen : (rs.take i).length ≤ 1000 := by rw [List.length_take]; omega
          refine ⟨_, rfl, x, dx, _, rfl, M.hx, l5_tr _ _ _ _ _, _, rfl, x, dx, z, lr, lp, dn, dr, pcs z (rs.take i), as, rs.take i, a, l, r, rfl, M.hx, M.hlr, fr0.rp, M.hlp, M.hdn, M.hdr, Paired.len M.hts, rlen, pln, ha, ro.new, Nat.le_trans ro.len (by decide), hnr, ?_⟩
          intro H7 t7 keep ht7 h7t h7r h7p h7n h7d
          have x1 : x ≠ lr := ne_of M.hx M.hlr (by intro q; cases q)
          have x2 : x ≠ lp := ne_of M.hx M.hlp (by intro q; cases q)
          have x3 : x ≠ dn := ne_of M.hx M.hdn (by intro q; cases q)
          have x4 : x ≠ dr := ne_of M.hx M.hdr (by intro q; cases q)
          have et : rs.take (i + 1) = rs.take i ++ [(l, r)] := by rw [List.take_add_one, hri]; rfl
          refine ⟨_, _, _, as ++ [t7], rfl, il2, ?_⟩
          rw [et, pcs_snoc]
          refine ⟨keep _ _ x1 x2 x3 x4 M.hx, h7r, Paired.snoc (L2.Paired.mapP M.hts fun b q hb => ?_) h7t, h7p, h7n, h7d, fun b o hb => ?_, fun b hb => ?_⟩
          · have hb2 : upd H' t (.tup [.int (i : Nat), .ref a]) b = _ := hb
            exact keep _ _ (ne_of hb2 M.hlr (by intro q; cases q)) (ne_of hb2 M.hlp (by intro q; cases q)) (ne_of hb2 M.hdn (by intro q; cases q)) (ne_of hb2 M.hdr (by intro q; cases q)) hb2
          · exact keep _ _ (ne_of_none hb fr0.flr) (ne_of_none hb fr0.flp) (ne_of_none hb fr0.fdn) (ne_of_none hb fr0.fdr) (M.sm _ _ hb)
          · rcases List.mem_append.mp hb with hb | hb
            · exact M.fra b hb
            · rw [List.mem_singleton.mp hb]; exact M.sm.free ht7
      · rintro σ H' ⟨u, v, y, as, rfl, il, M⟩
        have erl : rs.length = us.length := by have := rt.le; omega
        rcases hrt with ⟨rl, _⟩ | ⟨_, k⟩
        · omega
        rw [← erl, List.take_length] at M
        refine ⟨_, rfl, x, _, dx, _, _, rfl, M.hx, T.cl_Table, T.no_Table_piece_list, l5_pl _ _ _ _ _, lp, rfl, ⟨_, SqL.of M.hlp⟩, fun D hD => lc_listM (K := K) (item := V.str) (p := fun _ => true) (f := fun q => V.int (q.length : Nat)) (l := pcs z rs) (SqL.of M.hlp) hD ?_ (fun q hq H2 _ N Mm hM _ => ?_) (fun H2 s2 hL => ?_)⟩
        · rw [pcs_len]; omega
        · exact ⟨rfl, _, rfl, _, rfl, sz (by have := (tk.plen hq).2; omega), hM rfl⟩
        · have ef : (pcs z rs).filter (fun _ => true) = pcs z rs := List.filter_eq_self.mpr fun _ _ => rfl
          rw [ef] at hL
          obtain ⟨p, hp, hmx⟩ := list_max (pcs z rs) (fun e => by have := congrArg List.length e; rw [pcs_len] at this; simp at this; omega)
          refine ⟨D, (pcs z rs).map fun q => ((q.length : Nat) : Int), rfl, SqL.of ?_, ?_, ?_⟩
          · rw [hL, List.map_map]; rfl
          · rw [List.length_map, pcs_len]; omega
          · intro m hm hmm
            obtain ⟨pm, hpm, rfl⟩ := List.mem_map.mp hm
            have M2hx := s2 _ _ M.hx
            refine ⟨_, rfl, x, _, dx, _, rfl, M2hx, T.cl_Table, T.no_Table_most_signs, (by show 5 < 1000; decide), ?_⟩
            rw [l5_most]
            have x1 : x ≠ lr := ne_of M.hx M.hlr (by intro q; cases q)
            have x2 : x ≠ lp := ne_of M.hx M.hlp (by intro q; cases q)
            have x3 : x ≠ dn := ne_of M.hx M.hdn (by intro q; cases q)
            have x4 : x ≠ dr := ne_of M.hx M.hdr (by intro q; cases q)
            refine k _ (Same.mut (M.sm.trans s2) x0) ⟨dx, lr, lp, dn, dr, pm.length, as, upd_same, ?_, ?_, ?_, ?_, ?_, ⟨pm, hpm, rfl⟩, fun q hq => ?_, tk, fr0.fx, fr0.flr, fr0.flp, fr0.fdn, fr0.fdr, M.fra⟩
            · rw [upd_ne (Ne.symm x1)]; exact s2 _ _ M.hlr
            · refine L2.Paired.mapP M.hts fun b q hb => ?_
              have hb2 : H' b = _ := hb
              show upd H2 x _ b = _
              rw [upd_ne (ne_of hb2 M.hx (by intro q; cases q))]
              exact s2 _ _ hb2
            · rw [upd_ne (Ne.symm x2)]; exact s2 _ _ M.hlp
            · rw [upd_ne (Ne.symm x3)]; exact s2 _ _ M.hdn
            · rw [upd_ne (Ne.symm x4)]; exact s2 _ _ M.hdr
            · have := hmm _ (List.mem_map.mpr ⟨q, hq, rfl⟩)
              omega
end
end Jr
namespace Jr
open PySem PySem.Spec PyProof.Rows L2
/-! ### several except clauses, some of them with 'as' -/
/-- what the clauses wish of an exception of the body, one after the other -/
def asEnds (D : Ends) (i : Nat) : Ends := { nx := fun σ' H' => D.nx (σ'.set i none) H', rt := D.rt, bk := fun σ' H' => D.bk (σ'.set i none) H', ct := fun σ' H' => D.ct (σ'.set i none) H' }
def wManyA (K : PySem.W.Frag) (Wout : WX) (D : Ends) : List (Value × Option Nat × (Addr → Value → Option Addr → TS)) → WX
  | [] => Wout
  | (c, none, ts) :: r => fun cls d σ H => ∃ b, PySem.W.exmOne K cls c = some b ∧ (b = true → ∀ a, H a = none → ts a cls d D σ H) ∧ (b = false → wManyA K Wout D r cls d σ H)
  | (c, some i, ts) :: r => fun cls d σ H => ∃ b, PySem.W.exmOne K cls c = some b ∧ (b = true → ∀ a, H a = none → ts a cls d (asEnds D i) (σ.set i (some (.ref a))) H) ∧ (b = false → wManyA K Wout D r cls d σ H)
inductive HdsA (X : Cx) : List ExceptHandler → List (Value × Option Nat × (Addr → Value → Option Addr → TS)) → Prop
  | nil : HdsA X [] []
  | cons {x : Str} {c : Value} {ts : Addr → Value → Option Addr → TS} {b₀ : Stmt} {suite : List Stmt} {np pos' : Pos} {hds : List ExceptHandler} {l : List (Value × Option Nat × (Addr → Value → Option Addr → TS))} (hc : Names X x c)
      (hsu : ∀ (a : Addr) (oe : Obj) (cls : Value) (d : Option Addr) (pn : List (Addr × Obj)), Zc cls d oe → (∃ vs, oe.data = .fields vs) → PSs (X.suite a ((a, oe) :: pn)) (b₀ :: suite) (ts a cls d)) (r : HdsA X hds l) :
      HdsA X (.ExceptHandler (some (.Name x np)) none (b₀ :: suite) pos' :: hds) ((c, none, ts) :: l)
  | consA {x n : Str} {i : Nat} {c : Value} {ts : Addr → Value → Option Addr → TS} {b₀ : Stmt} {suite : List Stmt} {np pos' : Pos} {hds : List ExceptHandler} {l : List (Value × Option Nat × (Addr → Value → Option Addr → TS))} (hN : X.N.Nodup) (hi : X.N[i]? = some n) (hln : X.env.kindOf n = some .local) (hc : Names X x c)
      (hsu : ∀ (a : Addr) (oe : Obj) (cls : Value) (d : Option Addr) (pn : List (Addr × Obj)), Zc cls d oe → (∃ vs, oe.data = .fields vs) → PSs (X.suite a ((a, oe) :: pn)) (b₀ :: suite) (ts a cls d)) (r : HdsA X hds l) :
      HdsA X (.ExceptHandler (some (.Name x np)) (some n) (b₀ :: suite) pos' :: hds) ((c, some i, ts) :: l)
section
variable {X : Cx} {body : List Stmt} {h₀ : ExceptHandler} {hds : List ExceptHandler} {l : List (Value × Option Nat × (Addr → Value → Option Addr → TS))} {pos : Pos} {tb : WX → TS} {Wout : WX}
theorem ps_try_manyA (hs : X.stack = X.env :: X.outer) (hf : X.env.frame = some X.env.locals) (tk : Takes X Wout)
    (hb : ∀ (W : WX) (pn : List (Addr × Obj)) (xe : Value → Shared → Prop), Takes (X.tr pn xe) W → PassesOwn (model X.prog X.w) X.A X.env xe → PSs (X.tr pn xe) body (tb W))
    (hh : HdsA X (h₀ :: hds) l) : PS X (.Try body (h₀ :: hds) [] [] pos) (fun D σ H => tb (wManyA X.K Wout D l) D σ H) := by
  refine ⟨fun pins s σ H D I h => ?_⟩
  have ok := I.ok
  have hfr : X.A.frames = some (X.env :: X.outer) := by rw [ok.frames, hs]
  refine wpAny_Try_except ?_
  refine wpAny_mono ((hb (wManyA X.K Wout D l) (X.pn ++ pins) (fun e s₁ => wpAny (model X.prog X.w) X.A (noteFrame e X.env) (fun _ s₂ => wpAny (model X.prog X.w) X.A (setFlight e none) (fun _ s₃ =>
    wpAny (model X.prog X.w) X.A (handleBy e X.env (h₀ :: hds)) (SP X pins D) X.xe s₃) X.xe s₂) X.xe s₁) (fun u s' xx => ?_) PassesOwn.looking).run [] s σ H D (I.toTry _) h) (fun f s1 hsp => ?_) (fun e s1 he => he)
  · -- the catch
    obtain ⟨a, B, sI, pins', σ', H', cls, d, rfl, J', nb, up, sky, na, os, ag, w⟩ := xx
    have J : Inv X pins σ' H' sI := J'.ofTry ok
    have sky' : Sky B (X.env :: X.outer) a (Zc cls d) X.env.locals s'.heap := by rw [← hs]; exact sky
    show wpAny (model X.prog X.w) X.A (noteFrame (.ref a) X.env) _ _ _
    refine Sky.land Zc.steady hfr hf sky' fun h3 fl3 up3 => ?_
    have J3 : Inv X pins σ' H' { s' with heap := h3 } := J.landed nb fl3.1 (up.trans up3) os ag
    obtain ⟨oe3, vs3, he3, hz3, hd3⟩ := fl3.there
    have notFr : ∀ {h : Heap} {o : Obj} {vs : Array Value}, h.FunFrames B (X.env :: X.outer) → h.get? a = some o → o.data = .fields vs → a ∉ frs (X.env :: X.outer) := fun {h o vs} ff e dd hm => by
      obtain ⟨_, o', e', hnf⟩ := ff.mem hm
      rw [e] at e'; cases e'
      exact hnf _ dd
    have nfr := notFr fl3.2.2.1 he3 hd3
    have nL : a ≠ X.env.locals := fun z => nfr (List.mem_filterMap.mpr ⟨X.env, List.mem_cons_self, by rw [hf, z]⟩)
    have nF : a ∉ X.fs := fun hm => by
      obtain ⟨e, he, q⟩ := List.mem_filterMap.mp hm
      exact nfr (List.mem_filterMap.mpr ⟨e, List.mem_cons_of_mem _ he, q⟩)
    have S3 := J3.suite he3 hd3 na nL nF
    have go : ∀ {hds' : List ExceptHandler} {l' : List (Value × Option Nat × (Addr → Value → Option Addr → TS))}, HdsA X hds' l' → wManyA X.K Wout D l' cls d σ' H' →
        wpAny (model X.prog X.w) X.A (handleBy (.ref a) X.env hds') (SP X pins D) X.xe { s' with heap := h3 } := by
      intro hds' l' hk
      induction hk with
      | nil =>
        intro w
        refine wpAny_handleBy_nil ?_
        obtain ⟨k1, k2, k3, oe, vs, T, oT, ts', he, hz, hd, h1, hr⟩ := id fl3
        unfold PySem.passOn
        refine wpAny_bind (wpAny_field he hd h1 ?_)
        rw [if_neg (show ¬ ((Value.ref T == Value.none) = true) from by simp)]
        have fin : wpAny (model X.prog X.w) X.A (setFlight (.ref a) X.env.frame) (fun _ s4 => wpAny (model X.prog X.w) X.A (throw (.ref a) : Sem Flow) (SP X pins D) X.xe s4) X.xe { s' with heap := h3 } := by
          rw [hf]
          refine HandSPX.setFlight_upZ fl3 fun h4 hh4 up4 => wpAny_throw (tk _ _ ?_)
          exact ⟨a, B, sI, pins, σ', H', cls, d, rfl, J, nb, (up.trans up3).trans up4, .inr (.inr (by rw [hs]; exact hh4)), na, os, ag, w⟩
        first
          | exact wpAny_bind (wpAny_pure (wpAny_bind fin))
          | exact wpAny_bind fin
      | @cons x c ts b₀ suite np pos' hds2 l2 hc hsu r ih =>
        intro w
        obtain ⟨b, hb1, hyes, hno⟩ := w
        refine wpAny_handleBy_cons (codeAny_handlers_test ?_) (by intro q; cases q)
        have LT : PySem.W.Looks (model X.prog X.w) h3 (typeOf (.ref a)) cls := fun A Q E s k q => wpAny_typeOf_ref (k _ _ he3) (by rw [hz3.1]; exact q)
        have LM := PySem.W.exm_one (M := model X.prog X.w) (J3.kIn) LT hb1
        have test : ∀ {Q : Value → Shared → Prop} {E : Value → Shared → Prop}, Q c { s' with heap := h3 } → wpAny (model X.prog X.w) (X.A.mark (some (.ref a))) (eval (.Name x np) X.env) Q E { s' with heap := h3 } := fun {Q E} q => by
          obtain ⟨hg, hdbg, hm | ⟨hm, hv, hnn⟩⟩ := hc
          · exact ld_glob (X := X.suite a ((a, oe3) :: (X.pn ++ pins))) S3 hg hm q hdbg
          · exact ld_blt (X := X.suite a ((a, oe3) :: (X.pn ++ pins))) S3 hg hm hv q hnn hdbg
        refine test (LM.here ?_)
        cases b with
        | true =>
          refine codeAny_handlers_suite ?_
          refine HandSPX.lands_againZ fl3 fun h4 fl4 up4 => ?_
          have J4 : Inv X pins σ' H' { s' with heap := h4 } := J.landed nb fl4.1 ((up.trans up3).trans up4) os ag
          obtain ⟨oe4, vs4, he4, hz4, hd4⟩ := fl4.there
          have S4 := J4.suite he4 hd4 na nL nF
          refine wpAny_mono ((hsu a oe4 cls d (X.pn ++ pins) hz4 ⟨_, hd4⟩).run [] _ _ H' _ S4 (hyes rfl a na)) (fun f s6 hsp => ?_) (fun _ _ z => False.elim z)
          cases f with
          | next =>
            obtain ⟨σ6, H6, S6, q6⟩ := hsp
            exact ⟨_, _, S6.unsuite ok, q6⟩
          | brk =>
            obtain ⟨σ6, H6, S6, q6⟩ := hsp
            exact ⟨_, _, S6.unsuite ok, q6⟩
          | cont =>
            obtain ⟨σ6, H6, S6, q6⟩ := hsp
            exact ⟨_, _, S6.unsuite ok, q6⟩
          | ret u =>
            obtain ⟨v6, σ6, H6, S6, r6, q6⟩ := hsp
            exact ⟨_, _, _, S6.unsuite ok, r6, q6⟩
        | false =>
          show wpAny _ X.A (handleBy (.ref a) X.env hds2) _ _ _
          exact ih (hno rfl)
      | @consA x n i c ts b₀ suite np pos' hds2 l2 hN hi hln hc hsu r ih =>
        intro w
        obtain ⟨b, hb1, hyes, hno⟩ := w
        refine wpAny_handleBy_cons (codeAny_handlers_test ?_) (by intro q; cases q)
        have LT : PySem.W.Looks (model X.prog X.w) h3 (typeOf (.ref a)) cls := fun A Q E s k q => wpAny_typeOf_ref (k _ _ he3) (by rw [hz3.1]; exact q)
        have LM := PySem.W.exm_one (M := model X.prog X.w) (J3.kIn) LT hb1
        have test : ∀ {Q : Value → Shared → Prop} {E : Value → Shared → Prop}, Q c { s' with heap := h3 } → wpAny (model X.prog X.w) (X.A.mark (some (.ref a))) (eval (.Name x np) X.env) Q E { s' with heap := h3 } := fun {Q E} q => by
          obtain ⟨hg, hdbg, hm | ⟨hm, hv, hnn⟩⟩ := hc
          · exact ld_glob (X := X.suite a ((a, oe3) :: (X.pn ++ pins))) S3 hg hm q hdbg
          · exact ld_blt (X := X.suite a ((a, oe3) :: (X.pn ++ pins))) S3 hg hm hv q hnn hdbg
        refine test (LM.here ?_)
        cases b with
        | true =>
          have hloc : Loc X.env.scope n := .inl hln
          refine codeAny_handlers_suite_as ?_
          refine HandSPX.lands_againZ fl3 fun h4 fl4 up4 => ?_
          have J4 : Inv X pins σ' H' { s' with heap := h4 } := J.landed nb fl4.1 ((up.trans up3).trans up4) os ag
          obtain ⟨oe4, vs4, he4, hz4, hd4⟩ := fl4.there
          have S4 := J4.suite he4 hd4 na nL nF
          refine store_ok (X := X.suite a ((a, oe4) :: (X.pn ++ pins))) (v := .ref a) S4 hN hi hloc rfl (fun s5 S5 => ?_) (.inr hln)
          refine wpAny_mono ((hsu a oe4 cls d (X.pn ++ pins) hz4 ⟨_, hd4⟩).run [] s5 _ H' _ S5 (hyes rfl a na)) (fun f s6 hsp => ?_) (fun _ _ z => False.elim z)
          have end_ : ∀ {σ6 : L2.St} {H6 : Hp} {Q : Shared → Prop}, Inv (X.suite a ((a, oe4) :: (X.pn ++ pins))) [] σ6 H6 s6 → (∀ s7, Inv X pins (σ6.set i none) H6 s7 → Q s7) →
              wpAny (model X.prog X.w) X.A (do bindName X.env n .none; unbindBehindTheSuite X.env n pos') (fun _ s7 => Q s7) X.xe s6 := fun {σ6 H6 Q} S6 hq => gone_ok (S6.unsuite ok) hN hi hln hq
          cases f with
          | next =>
            obtain ⟨σ6, H6, S6, q6⟩ := hsp
            exact end_ S6 fun s7 J7 => ⟨_, _, J7, q6⟩
          | brk =>
            obtain ⟨σ6, H6, S6, q6⟩ := hsp
            exact end_ S6 fun s7 J7 => ⟨_, _, J7, q6⟩
          | cont =>
            obtain ⟨σ6, H6, S6, q6⟩ := hsp
            exact end_ S6 fun s7 J7 => ⟨_, _, J7, q6⟩
          | ret u =>
            obtain ⟨v6, σ6, H6, S6, r6, q6⟩ := hsp
            exact end_ S6 fun s7 J7 => ⟨_, _, _, J7, r6, q6⟩
        | false =>
          show wpAny _ X.A (handleBy (.ref a) X.env hds2) _ _ _
          exact ih (hno rfl)
    exact go hh w
  · cases f with
    | next =>
      obtain ⟨σ', H', J', q⟩ := hsp
      exact wpAny_execs_nil ⟨σ', H', J'.ofTry ok, q⟩
    | brk =>
      obtain ⟨σ', H', J', q⟩ := hsp
      exact ⟨σ', H', J'.ofTry ok, q⟩
    | cont =>
      obtain ⟨σ', H', J', q⟩ := hsp
      exact ⟨σ', H', J'.ofTry ok, q⟩
    | ret u =>
      obtain ⟨v, σ', H', J', r, q⟩ := hsp
      exact ⟨v, σ', H', J'.ofTry ok, r, q⟩
end
/-! ### isinstance of a caught error, with fields or without -/
def rIsE (K : PySem.W.Frag) (a : Addr) (cls : Value) (d : Option Addr) (D : Addr) : List V → Hp → VK → Prop := fun xs H Q => ∃ (c : V) (cv : Value) (b : Bool), xs = [.ref a, c] ∧ cls = .ref D ∧ (d = none ∨ ∃ (dd : Addr) (fs : List (Str × V)), d = some dd ∧ H dd = some (.xd fs)) ∧
  (∀ u, RelV c u → u = cv) ∧ PySem.W.kitOne K (.ref D) cv = some b ∧ Q (.bl b) H
theorem call_isE {X : Cx} {a D : Addr} {oe : Obj} {cls : Value} {d : Option Addr} {pn : List (Addr × Obj)} (C : XcC X.K D) (hz : Zc cls d oe) (hf : ∃ vs, oe.data = .fields vs) : CallR (X.suite a ((a, oe) :: pn)) (.builtin "isinstance") (rIsE X.K a cls d D) := by
  intro pins s σ H xs us Q I r h
  obtain ⟨c, cv, b, rfl, ec, hd, hcv, e, q⟩ := h
  cases r with
  | cons rx rr =>
    cases rr with
    | cons rt rr =>
      cases rr
      cases rx
      have e1 := hcv _ rt
      subst e1
      obtain ⟨hget, _⟩ := I.pin (a, oe) (List.mem_append.mpr (.inl List.mem_cons_self))
      obtain ⟨vs, hv⟩ := hf
      obtain ⟨od, J⟩ : ∃ od, PySem.W.InstAt s.heap a oe D od := by
        rcases hd with ed | ⟨dd, fs, ed, hdd⟩
        · exact ⟨none, hget, by rw [hz.1, ec], by unfold PySem.W.notCls; rw [hv] <;> rfl, by rw [hz.2, ed]; trivial⟩
        · have hx : ObjOk X.prog X.w H s.heap dd (.xd fs) := I.hok dd _ hdd
          obtain ⟨mA, hns, _⟩ := hx
          obtain ⟨od, ho, _⟩ := lookIn_ns hns
          exact ⟨some od, hget, by rw [hz.1, ec], by unfold PySem.W.notCls; rw [hv] <;> rfl, by rw [hz.2, ed]; exact ho⟩
      exact PySem.W.kia_one (PySem.W.kitx_exc C.ic C.xf.ga C.xf.gg C.xf.exC C.ca C.cg C.ct C.cm) I.kIn J e (fun z => nomatch z) fun tk => ⟨.bl b, H, I.kept (t' := tk) fun _ _ z => z, rfl, q⟩
end Jr
namespace Jr
open PySem PySem.Spec PyProof.Rows L2
section
variable {P : Program} {w : World} {K : PySem.W.Frag} {mg : Str → Option Value} {base : Heap}
def spMade5 (K : PySem.W.Frag) : Sp := fun vs H Q _ => ∃ (sv rv : V), vs = [sv, rv] ∧
  ((∃ part u, WTab K H sv rv part u ∧ ∀ H' q, Same H H' → H' q = some (.tup [.str (Str.ofString "no"), .str part, u]) → Q (.ref q) H') ∨
    ∃ (pr : Addr) (z : Str) (rs : Rws), sv = .str z ∧ rv = .ref pr ∧ RowsAt H pr rs ∧ TabOk z rs ∧ ∀ H' q x, Same H H' → TabAt (TC K) H' x z rs → H' q = some (.tup [.str (Str.ofString "table"), .ref x, .non]) → Q (.ref q) H')
theorem cal__law_made5 (T : Tx K mg) : Cal P w K mg base CX0 7 "_law_made" (spMade5 K) := by
  have CX_Table := mkx_Table (P := P) (w := w) (base := base) T
  obtain ⟨fd, F⟩ := T.d__law_made
  refine ⟨_, fd, P__law_made, F.ok sc__law_made (fun vs H Q E h => ?_) (fun cdv A outer s H vs Q E hr h => ?_), T.g__law_made, F.kp, F.bindsN (ps := P__law_made) fun _ _ _ _ _ _ us hl => match us, hl with | [_, _], _ => rfl⟩
  · obtain ⟨sv, rv, rfl, _⟩ := h
    rfl
  · obtain ⟨sv, rv, rfl, h⟩ := h
    refine ⟨_, (PSs.nox (pss_cons (ps_set (i := 2) sc__law_made.nd rfl (Or.inl rfl) (pe_tupG (pa_cons pe_str (pa_cons pe_non (pa_cons pe_non pa_nil)))))
      (pss_cons (ps_try_as (i := 3) rfl rfl sc__law_made.nd rfl rfl ⟨rfl, by decide, .inl T.g_NoTable⟩ takes0 (fun W pn xe tk _ => (pss_one (ps_set (i := 2) sc__law_made.nd rfl (Or.inl rfl) (pe_tupG (pa_cons pe_str (pa_cons (pe_mkX CX_Table (by first | exact hr | exact hr.mono (by decide)) rfl tk (pa_cons (pv 0) (pa_cons (pv 1) pa_nil))) (pa_cons pe_non pa_nil))))))) (fun a oe cls d pn hz hf => (pss_one (ps_set (i := 2) sc__law_made.nd rfl (Or.inl rfl) (pe_tupG (pa_cons pe_str (pa_cons (pe_xf T.xc_NoTable.xf T.no_NoTable_part hz hf (pv 3)) (pa_cons (pe_xf T.xc_NoTable.xf T.no_NoTable_number hz hf (pv 3)) pa_nil))))))))
      (pss_one (ps_ret (pv 2)))))), ?_⟩
    refine ⟨(by show 3 ≤ sizeLine; decide), fun q0 H0 n0 s0 h0 => ?_⟩
    refine ⟨_, rfl, _, rfl, fun x dx hx hdx ndx => ?_⟩
    rcases h with ⟨part, u, wt, k⟩ | ⟨pr, z, rs, rfl, rfl, hR, tk, k⟩
    · refine ⟨H0, x, dx, sv, rv, rfl, rfl, hx, hdx, ndx, .inl ⟨part, u, wt.same s0, fun H1 d s1 nd hd => ?_⟩⟩
      refine ⟨true, T.exm_NoTable_NoTable, fun _ a na => ?_, fun q => nomatch q⟩
      exact ⟨_, rfl, rfl, rfl, d, _, _, rfl, hd, rfl, _, rfl, rfl, rfl, d, _, _, rfl, hd, rfl, (by show 3 ≤ sizeLine; decide), fun q H2 nq s2 hq => ⟨_, rfl, k _ q ((s0.trans s1).trans s2) hq⟩⟩
    · refine ⟨H0, x, dx, _, _, rfl, rfl, hx, hdx, ndx, .inr ⟨pr, z, rs, rfl, rfl, hR.same s0, tk, fun H1 s1 tf => ⟨rfl, ?_⟩⟩⟩
      exact ⟨(by show 3 ≤ sizeLine; decide), fun q H2 nq s2 hq => ⟨_, rfl, k _ q x ((s0.trans s1).trans s2) (tf.tab.same s2) hq⟩⟩
end
end Jr
namespace Jr
open PySem PySem.Spec PyProof.Rows L2
/-! ### what a made table tells -/
def spTSigns (K : PySem.W.Frag) : Sp := fun vs H Q _ => ∃ (x : Addr) (z : Str) (rs : Rws), vs = [.ref x] ∧ TabAt (TC K) H x z rs ∧ Q (.str z) H
def spTRows (K : PySem.W.Frag) : Sp := fun vs H Q _ => ∃ (x : Addr) (z : Str) (rs : Rws), vs = [.ref x] ∧ TabAt (TC K) H x z rs ∧ ∀ H' p, Same H H' → H p = none → RowsAt H' p rs → Q (.ref p) H'
def spTPieces (K : PySem.W.Frag) : Sp := fun vs H Q _ => ∃ (x : Addr) (z : Str) (rs : Rws), vs = [.ref x] ∧ TabAt (TC K) H x z rs ∧ ∀ H' p, Same H H' → H p = none → H' p = some (.lst ((pcs z rs).map V.str)) → Q (.ref p) H'
section
variable {P : Program} {w : World} {K : PySem.W.Frag} {mg : Str → Option Value} {base : Heap}
theorem met_signs (T : Tx K mg) : Met P w K mg base CX0 1 (TC K) "signs" (spTSigns K) := by
  obtain ⟨fd, F⟩ := T.d_Table_signs
  refine ⟨T.cl_Table, _, fd, P_Table_signs, F.ok sc_Table_signs (fun vs H Q E h => ?_) (fun cdv A outer s H vs Q E hr h => ?_), T.m_Table_signs, F.bindsN (ps := P_Table_signs) fun _ _ _ _ _ _ us hl => match us, hl with | [_], _ => rfl⟩
  · obtain ⟨x, z, rs, rfl, _⟩ := h
    rfl
  · obtain ⟨x, z, rs, rfl, ta, k⟩ := h
    obtain ⟨dx, lr, lp, dn, dr, m, h1, _⟩ := ta.ex
    refine ⟨_, (PSs.nox (pss_one (ps_ret (pe_fld (pv 0) rfl)))), ?_⟩
    exact ⟨_, rfl, x, _, dx, _, _, rfl, h1, T.cl_Table, T.no_Table_sign_text, l6_st _ _ _ _ _ _, k⟩
theorem met_rows (T : Tx K mg) : Met P w K mg base CX0 1 (TC K) "rows" (spTRows K) := by
  obtain ⟨fd, F⟩ := T.d_Table_rows
  refine ⟨T.cl_Table, _, fd, P_Table_rows, F.ok sc_Table_rows (fun vs H Q E h => ?_) (fun cdv A outer s H vs Q E hr h => ?_), T.m_Table_rows, F.bindsN (ps := P_Table_rows) fun _ _ _ _ _ _ us hl => match us, hl with | [_], _ => rfl⟩
  · obtain ⟨x, z, rs, rfl, _⟩ := h
    rfl
  · obtain ⟨x, z, rs, rfl, ta, k⟩ := h
    obtain ⟨dx, lr, lp, dn, dr, m, h1, ⟨as, h2, h2'⟩, _⟩ := ta.ex
    refine ⟨_, (PSs.nox (pss_one (ps_ret (pe_callTy (T := "list") call_list_of (by rfl) T.n_list (by decide +kernel) (pa_cons (pe_fld (pv 0) rfl) pa_nil))))), ?_⟩
    exact ⟨_, rfl, x, _, dx, _, _, rfl, h1, T.cl_Table, T.no_Table_row_list, l6_rl _ _ _ _ _ _, lr, _, rfl, .inl (SqL.of h2), fun l hl => k _ l (Same.new hl) hl ⟨as, upd_same, TupAt.same (Same.new hl) h2'⟩⟩
end
end Jr
namespace Jr
open PySem PySem.Spec PyProof.Rows L2
/-- != of deep data or of dicts -/
theorem op_neX {X : Cx} (hu : X.A.units + 64 < cLine) : OpR X (compareOp .NotEq) (fun x y H Q => rNeD X.K x y H Q ∨ rNeDA x y H Q) := by
  intro pins s σ H x y v u Q I rx ry h
  rcases h with h | h
  · exact op_neD hu pins s σ H x y v u Q I rx ry h
  · exact op_ne_dictA (by omega) pins s σ H x y v u Q I rx ry h
theorem tab_cases {K : PySem.W.Frag} {H : Hp} {sv rv : V} (sg : SigV K H sv) (rg : RowsV K H rv) : (∃ part u, WTab K H sv rv part u) ∨ ∃ z pr rs, sv = .str z ∧ rv = .ref pr ∧ RowsAt H pr rs ∧ TabOk z rs := by
  rcases sg with sg | ⟨z, rfl, zl, ins⟩
  · exact .inl ⟨_, _, .inl ⟨rfl, .inl ⟨sg, rfl⟩⟩⟩
  by_cases c : 1 ≤ z.length ∧ z.length ≤ 12
  · obtain ⟨z1, z12⟩ := c
    rcases wsign_or z with so | ⟨i, wi⟩
    · rcases rg with ⟨nl, _⟩ | ⟨a, us, rfl, hA, ul, hus⟩
      · exact .inl ⟨_, _, .inr ⟨rfl, z, rfl, so, z1, z12, .inl ⟨nl, rfl⟩⟩⟩
      by_cases l24 : 24 < us.length
      · exact .inl ⟨_, _, .inr ⟨rfl, z, rfl, so, z1, z12, .inr (.inl ⟨a, us, rfl, hA, by omega, l24, rfl⟩)⟩⟩
      obtain ⟨rs, rt⟩ := rows_scan so z1 z12 (fun v hv => (hus v hv).1) (by omega)
      by_cases rl : rs.length < us.length
      · exact .inl ⟨_, _, .inr ⟨rfl, z, rfl, so, z1, z12, .inr (.inr ⟨a, us, rs, rfl, hA, by omega, rt, rl, rfl⟩)⟩⟩
      · exact .inr ⟨z, a, rs, rfl, rfl, rows_full hA rt (by have := rt.le; omega), rt.ok⟩
    · exact .inl ⟨_, _, .inl ⟨rfl, .inr (.inr ⟨z, i, rfl, z1, z12, wi, rfl⟩)⟩⟩
  · exact .inl ⟨_, _, .inl ⟨rfl, .inr (.inl ⟨z, rfl, by omega, c, rfl⟩)⟩⟩
theorem rows_ths {K : PySem.W.Frag} {H : Hp} {rv : V} (rg : RowsV K H rv) : ∀ a us, rv = .ref a → H a = some (.lst us) → ∀ u ∈ us, RowTh K H u := fun a us e hA u hu => by
  rcases rg with ⟨_, ⟨h | ⟨x, h⟩ | ⟨b, vs, h, hB⟩, _⟩ | ⟨b, h, hB⟩⟩ | ⟨b, vs, h, hB, _, hus⟩
  · rw [h] at e; cases e
  · rw [h] at e; cases e
  · rw [h] at e; cases e; rw [hA] at hB; cases hB
  · rw [h] at e; cases e; rw [hA] at hB; cases hB
  · rw [h] at e; cases e; rw [hA] at hB; cases hB; exact (hus u hu).1
theorem rowsV_same {K : PySem.W.Frag} {H H' : Hp} {v : V} (h : RowsV K H v) (s : Same H H') : RowsV K H' v := by
  rcases h with ⟨nl, ⟨h, d, l⟩ | ⟨a, e, hA⟩⟩ | ⟨a, us, e, hA, ul, hus⟩
  · refine .inl ⟨nl.same s, .inl ⟨?_, d, l.same s⟩⟩
    rcases h with h | h | ⟨b, vs, e, hB⟩
    · exact .inl h
    · exact .inr (.inl h)
    · exact .inr (.inr ⟨b, vs, e, s _ _ hB⟩)
  · exact .inl ⟨nl.same s, .inr ⟨a, e, s _ _ hA⟩⟩
  · exact .inr ⟨a, us, e, s _ _ hA, ul, fun u hu => (hus u hu).same s⟩
section
variable {P : Program} {w : World} {K : PySem.W.Frag} {mg : Str → Option Value} {base : Heap}
def spRight4 (K : PySem.W.Frag) : Sp := fun vs H Q _ => ∃ sv rv : V, vs = [sv, rv] ∧ SigV K H sv ∧ RowsV K H rv ∧ ∀ H', Same H H' → Q (.bl true) H'
theorem cal__law_right4 (T : Tx K mg) : Cal P w K mg base CX0 8 "_law_right" (spRight4 K) := by
  have C__law_wrong := cal__law_wrong4 (P := P) (w := w) (base := base) T
  have C__law_made := cal__law_made5 (P := P) (w := w) (base := base) T
  have M_Table_signs := met_signs (P := P) (w := w) (base := base) T
  have M_Table_rows := met_rows (P := P) (w := w) (base := base) T
  obtain ⟨fd, F⟩ := T.d__law_right
  refine ⟨_, fd, P__law_right, F.ok sc__law_right (fun vs H Q E h => ?_) (fun cdv A outer s H vs Q E hr h => ?_), T.g__law_right, F.kp, F.bindsN (ps := P__law_right) fun _ _ _ _ _ _ us hl => match us, hl with | [_, _], _ => rfl⟩
  · obtain ⟨sv, rv, rfl, _⟩ := h
    rfl
  · obtain ⟨sv, rv, rfl, sg, rg, k⟩ := h
    refine ⟨_, (PSs.nox (pss_cons (ps_set (i := 2) sc__law_right.nd rfl (Or.inl rfl) (pv 1))
      (C8.pss_cut (ps_if (pt_val (pe_callB (id := "isinstance") call_isi (by rfl) T.n_isinstance (by decide +kernel) (pa_cons (pv 1) (pa_cons (pe_bltn (v := .ty "list") (by rfl) T.n_list (by decide +kernel) rfl) pa_nil)))) (pss_one (ps_set (i := 2) sc__law_right.nd rfl (Or.inl rfl) (pe_callTy (T := "list") call_listG (by rfl) T.n_list (by decide +kernel) (pa_cons (pv 1) pa_nil)))) pss_nil)
      (pss_cons (ps_set (i := 3) sc__law_right.nd rfl (Or.inl rfl) (pe_cal C__law_wrong (by first | exact hr | exact hr.mono (by decide)) (by rfl) (pa_cons (pv 0) (pa_cons (pv 1) pa_nil))))
      (pss_cons (ps_asg (pe_cal C__law_made (by first | exact hr | exact hr.mono (by decide)) (by rfl) (pa_cons (pv 0) (pa_cons (pv 1) pa_nil))) (pg_tup rfl (pgs_cons (pg_name (i := 4) sc__law_right.nd rfl (Or.inl rfl)) (pgs_cons (pg_name (i := 5) sc__law_right.nd rfl (Or.inl rfl)) (pgs_cons (pg_name (i := 6) sc__law_right.nd rfl (Or.inl rfl)) pgs_nil)))))
      (pss_cons (ps_if (pt_cmpR (op_neX hr.units) (pv 1) (pv 2) (nomark _)) (pss_one (ps_ret pe_bl)) pss_nil)
      (pss_cons (ps_if (pt_cmpR op_isN (pv 3) pe_non (nomark _)) (pss_one (ps_ret (pe_and (pe_cmpR op_eq (pv 4) pe_str (nomark _)) (pe_and (pe_cmpR (op_eqD hr.units) (pe_met0 M_Table_signs (pv 5) (by first | exact hr | exact hr.mono (by decide))) (pv 0) (nomark _)) (pe_one (pe_cmpR (op_eqD hr.units) (pe_met0 M_Table_rows (pv 5) (by first | exact hr | exact hr.mono (by decide))) (pv 1) (nomark _))))))) pss_nil)
      (pss_cons (ps_if (PW.pt (pw_or (pt_cmpR op_ne (pv 4) pe_str (nomark _)) (pw_or1 (pt_val (pe_callB (id := "isinstance") call_isi (by rfl) T.n_isinstance (by decide +kernel) (pa_cons (pv 6) (pa_cons (pe_bltn (v := .ty "bool") (by rfl) T.n_bool (by decide +kernel) rfl) pa_nil))))))) (pss_one (ps_ret pe_bl)) pss_nil)
      (pss_one (ps_ret (pe_cmpR (op_eqD hr.units) (pe_tupG (pa_cons (pv 5) (pa_cons (pv 6) pa_nil))) (pv 3) (nomark _)))))))))))), ?_⟩
    refine ⟨_, rfl, ?_⟩
    refine ⟨fun σ H' => ∃ kv : V, σ = [some sv, some rv, some kv, none, none, none, none] ∧ Same H H' ∧ (kv = rv ∨ ∃ a b us, rv = .ref a ∧ kv = .ref b ∧ H a = some (.lst us) ∧ H' b = some (.lst us)), ?_, ?_⟩
    · rcases rg with ⟨⟨ty, hty, hk⟩, _⟩ | ⟨a, us, rfl, hA, ul, hus⟩
      · exact ⟨_, rfl, _, _, _, _, _, rfl, .ty "list", hty, hk, _, rfl, iteF ⟨rv, rfl, Same.refl _, .inl rfl⟩⟩
      · exact ⟨_, rfl, _, _, _, _, _, rfl, .ty "list", .base (.lst hA), isLst, _, rfl, iteT ⟨_, rfl, a, _, rfl, .inl (SqL.of hA), fun b H1 nb s1 hb => ⟨_, rfl, s1, .inr ⟨a, b, us, rfl, rfl, hA, hb⟩⟩⟩⟩
    rintro σ H1 ⟨kv, rfl, s1, hkv⟩
    have cmp : ∀ {H3 : Hp}, Same H1 H3 → ∀ {R : VK}, R (.bl false) H3 → rNeD K rv kv H3 R ∨ rNeDA rv kv H3 R := fun {H3} s3 {R} r => by
      rcases hkv with rfl | ⟨a, b, us, rfl, rfl, hA, hB⟩
      · rcases rg with ⟨_, ⟨_, d, l⟩ | ⟨a, rfl, hA⟩⟩ | ⟨a, us, rfl, hA, ul, hus⟩
        · have l3 := l.same (s1.trans s3)
          refine .inl ⟨_, _, l3.dp, l3.dp, l3.sh, l3.sh, ?_⟩
          rw [l3.eqv]
          exact r
        · have hA3 := (s1.trans s3) _ _ hA
          exact .inr ⟨a, a, [], [], rfl, rfl, hA3, hA3, rfl, (fun p hp => nomatch hp), r⟩
        · obtain ⟨ds, hd⟩ := lya_of fun u hu => (hus u hu).2
          have l3 := Ly.lst (SqL.of ((s1.trans s3) _ _ hA)) (hd.same (s1.trans s3))
          refine .inl ⟨_, _, l3.dp, l3.dp, l3.sh, l3.sh, ?_⟩
          rw [l3.eqv]
          exact r
      · rcases rg with ⟨_, ⟨h | ⟨x, h⟩ | ⟨b', vs, h, hB'⟩, _⟩ | ⟨b', h, hB'⟩⟩ | ⟨b', vs, h, hB', _, hus⟩
        · cases h
        · cases h
        · cases h; rw [hA] at hB'; cases hB'
        · cases h; rw [hA] at hB'; cases hB'
        · cases h
          rw [hA] at hB'
          cases hB'
          obtain ⟨ds, hd⟩ := lya_of fun u hu => (hus u hu).2
          have hd3 := hd.same (s1.trans s3)
          have l3 := Ly.lst (SqL.of ((s1.trans s3) _ _ hA)) hd3
          have l4 := Ly.lst (SqL.of (s3 _ _ hB)) hd3
          refine .inl ⟨_, _, l3.dp, l4.dp, l3.sh, l4.sh, ?_⟩
          rw [l3.eqv]
          exact r
    have rg1 := rowsV_same rg s1
    have key : ∀ {s : Str}, s.cps.toList.all (fun c => decide (c ≤ 126)) = true → Asc s := fun h c hc => of_decide_eq_true (List.all_eq_true.mp h c hc)
    rcases tab_cases (sg.same s1) rg1 with ⟨part, u, wt⟩ | ⟨z, pr, rs, rfl, rfl, hR, tk⟩
    · obtain ⟨hpart, hu⟩ := wt.fmt
      have ap : Asc part := by rcases hpart with h | h <;> rw [h] <;> exact key (by decide +kernel)
      refine ⟨_, rfl, _, rfl, sv, rv, rfl, sg.same s1, rows_ths rg1, .inl ⟨part, u, wt, fun H2 q s2 hq => ?_⟩⟩
      refine ⟨_, rfl, _, rfl, sv, rv, rfl, .inl ⟨part, u, wt.same s2, fun H3 t s3 ht => ?_⟩⟩
      refine ⟨t, _, rfl, SqT.of ht, rfl, _, _, rfl, _, _, rfl, _, _, rfl, rfl, ?_⟩
      refine ⟨_, rfl, _, rfl, cmp (s2.trans s3) ⟨_, rfl, iteF ?_⟩⟩
      refine ⟨_, rfl, rfl, _, rfl, iteF ?_⟩
      refine ⟨_, rfl, rfl, _, rfl, ?_⟩
      rw [decide_eq_true (rfl : V.str (Str.ofString "no") = V.str (Str.ofString "no"))]
      have fin : ∀ H4, Same H3 H4 → ∀ t2, H4 t2 = some (.tup [.str part, u]) → ∃ d e, Dp K H4 (.ref t2) d ∧ Dp K H4 (.ref q) e ∧ SeqAt.shaped d = true ∧ SeqAt.shaped e = true ∧ Q (.bl (PyData.eqv d e)) H4 := fun H4 s4 t2 ht2 => by
        have f : ∀ x ∈ [V.str part, u], Fl x := fun x hx => by
          simp only [List.mem_cons, List.not_mem_nil, or_false] at hx
          rcases hx with rfl | rfl
          · exact ap
          · rcases hu with rfl | ⟨n, _, rfl⟩ <;> exact trivial
        have l1 := Ly.tup (SqT.of (K := K) ht2) (.fl (n := 0) f)
        have l2 := Ly.tup (SqT.of (K := K) ((s3.trans s4) _ _ hq)) (.fl (n := 0) f)
        refine ⟨_, _, l1.dp, l2.dp, l1.sh, l2.sh, ?_⟩
        rw [l1.eqv]
        exact k _ (((s1.trans s2).trans s3).trans s4)
      rcases hu with rfl | ⟨n, _, rfl⟩
      · exact iteF ⟨_, rfl, _, _, _, _, _, rfl, .ty "bool", .base .non, kit_ty (by decide +kernel), _, rfl, iteF ⟨_, rfl, _, rfl, (by show 2 ≤ sizeLine; decide), fun t2 H4 nt2 s4 ht2 => ⟨_, rfl, fin H4 s4 t2 ht2⟩⟩⟩
      · exact iteF ⟨_, rfl, _, _, _, _, _, rfl, .ty "bool", (.base (.int n)), kit_ty (by decide +kernel), _, rfl, iteF ⟨_, rfl, _, rfl, (by show 2 ≤ sizeLine; decide), fun t2 H4 nt2 s4 ht2 => ⟨_, rfl, fin H4 s4 t2 ht2⟩⟩⟩
    · refine ⟨_, rfl, _, rfl, _, _, rfl, sg.same s1, rows_ths rg1, .inr ⟨z, pr, rs, rfl, rfl, hR, tk, fun H2 s2 => ?_⟩⟩
      refine ⟨_, rfl, _, rfl, _, _, rfl, .inr ⟨pr, z, rs, rfl, rfl, hR.same s2, tk, fun H3 t x s3 ta ht => ?_⟩⟩
      refine ⟨t, _, rfl, SqT.of ht, rfl, _, _, rfl, _, _, rfl, _, _, rfl, rfl, ?_⟩
      refine ⟨_, rfl, _, rfl, cmp (s2.trans s3) ⟨_, rfl, iteF ?_⟩⟩
      refine ⟨_, rfl, rfl, _, rfl, iteT ?_⟩
      refine ⟨_, rfl, rfl, _, rfl, ?_⟩
      rw [decide_eq_true (rfl : V.str (Str.ofString "table") = V.str (Str.ofString "table"))]
      refine iteT ?_
      obtain ⟨dx, lr, lp, dn, dr, m, h1, h1', h2', h4, h5, h6, h7⟩ := id ta.ex
      have ascr : ∀ r ∈ rs, Asc r.1 ∧ Asc r.2 := fun r hr => by
        obtain ⟨i, hi, e⟩ := List.mem_iff_getElem.mp hr
        have ro := tk.rows i r (by rw [List.getElem?_eq_getElem hi, e])
        exact ⟨tk.asc (pcs_sub04 ro.lm), tk.asc (pcs_sub04 ro.rm)⟩
      refine ⟨_, rfl, x, dx, _, rfl, h1, l6_ms_ _ _ _ _ _ _, x, z, rs, rfl, ta, ?_⟩
      have ascz : Asc z := fun c hc => (tk.sg.ok c hc).2.1
      have lz := Ly.fl (K := K) (H := H3) (v := .str z) ascz
      refine ⟨_, rfl, _, _, lz.dp, lz.dp, lz.sh, lz.sh, _, rfl, ?_⟩
      rw [lz.eqv]
      refine iteT ⟨_, rfl, x, dx, _, rfl, h1, l6_mr _ _ _ _ _ _, x, z, rs, rfl, ta, fun H4 pr2 s4 npr hR4 => ?_⟩
      refine ⟨_, rfl, _, _, dpR hR4, dpR (((hR.same s2).same s3).same s4), shR ascr, shR ascr, ?_⟩
      rw [eqR, decide_eq_true rfl]
      exact k _ (((s1.trans s2).trans s3).trans s4)
end
end Jr
namespace Jr
open PySem PySem.Spec PyProof.Rows L2
/-- digits by sizes: a new list, each digit from 0 to below its size -/
def spNumbers (K : PySem.W.Frag) : Sp := fun vs H Q _ => ∃ (c salt : Int) (a : Addr) (ns : List Int), vs = [.int c, .int salt, .ref a] ∧ 0 ≤ salt ∧ salt ≤ 100000 ∧ SqL K H a (ns.map V.int) ∧ ns.length ≤ 1000 ∧
  (∀ z ∈ ns, 0 < z ∧ z.natAbs.log2 < 9000) ∧ ∀ H' p ds, Same H H' → H p = none → H' p = some (.lst (ds.map V.int)) → Digs ns ds → Q (.ref p) H'
theorem Digs.snoc {ns ds : List Int} {i : Nat} {z d : Int} (h : Digs (ns.take i) ds) (hz : ns[i]? = some z) (h0 : 0 ≤ d) (h1 : d < z) : Digs (ns.take (i + 1)) (ds ++ [d]) := by
  have e : ns.take (i + 1) = ns.take i ++ [z] := by
    rw [List.take_add_one, hz]
    rfl
  rw [e]
  exact Paired.snoc h ⟨h0, h1⟩
theorem digs_end {H' : Hp} {p : Addr} {ns ds : List Int} {i : Nat} {z x : Int} (h : Digs (ns.take i) ds) (hz : ns[i]? = some z) (zp : 0 < z) :
    ∃ es : List Int, (upd H' p (.lst (ds.map V.int ++ [V.int (x % z)]))) p = some (.lst (es.map V.int)) ∧ Digs (ns.take (i + 1)) es :=
  ⟨ds ++ [x % z], by rw [upd_same, List.map_append]; rfl, h.snoc hz (Int.emod_nonneg _ (by omega)) (Int.emod_lt_of_pos _ zp)⟩
theorem nab {x m : Int} (h : 0 < m) (hm : m ≤ 2 ^ 62) : (x % m).natAbs < 2 ^ 64 := by
  have := Int.emod_nonneg x (show m ≠ 0 by omega)
  have := Int.emod_lt_of_pos x h
  omega
theorem mulb {x m : Int} (h : 0 < m) (hm : m ≤ 2 ^ 62) : -(2 ^ 64) < x % m ∧ x % m < 2 ^ 64 := by
  have := Int.emod_nonneg x (show m ≠ 0 by omega)
  have := Int.emod_lt_of_pos x h
  omega
theorem mulb2 {x : Int} {i : Nat} (hi : i ≤ 1000) : -(2 ^ 64) < x % 2147483647 + 104729 * (0 + (i : Int) + 1) ∧ x % 2147483647 + 104729 * (0 + (i : Int) + 1) < 2 ^ 64 := by
  have := Int.emod_nonneg x (show (2147483647 : Int) ≠ 0 by omega)
  have := Int.emod_lt_of_pos x (show (0 : Int) < 2147483647 by omega)
  omega
section
variable {P : Program} {w : World} {K : PySem.W.Frag} {mg : Str → Option Value} {base : Heap}
theorem cal__law_numbers (T : Tx K mg) : Cal P w K mg base CX0 1 "_law_numbers" (spNumbers K) := by
  obtain ⟨fd, F⟩ := T.d__law_numbers
  refine ⟨_, fd, P__law_numbers, F.ok sc__law_numbers (fun vs H Q E h => ?_) (fun cdv A outer s H vs Q E hr h => ?_), T.g__law_numbers, F.kp, F.bindsN (ps := P__law_numbers) fun _ _ _ _ _ _ us hl => match us, hl with | [_, _, _], _ => rfl⟩
  · obtain ⟨c, salt, a, ns, rfl, _⟩ := h
    rfl
  · obtain ⟨c, salt, a, ns, rfl, s0, s1, hS, hlen, hns, k⟩ := h
    refine ⟨_, (PSs.nox (pss_cons (ps_set (i := 3) sc__law_numbers.nd rfl (Or.inl rfl) (pe_callB (id := "max") (call_max2 rfl) (by rfl) T.n_max (by decide +kernel) (pa_cons (pv 0) (pa_cons (pe_op op_sub (pe_un un_neg pe_int) (pv 0)) pa_nil))))
      (pss_cons (ps_set (i := 4) sc__law_numbers.nd rfl (Or.inl rfl) (pv 3))
      (pss_cons (ps_set (i := 5) sc__law_numbers.nd rfl (Or.inl rfl) (pe_lst pa_nil))
      (pss_cons (ps_for PassesOwn.never rfl (pi_range1 (by rfl) T.n_range (pa_cons (pe_callB (id := "len") call_len_seq (by rfl) T.n_len (by decide +kernel) (pa_cons (pv 2) pa_nil)) pa_nil)) (pg_name (i := 6) sc__law_numbers.nd rfl (Or.inl rfl)) (pss_one (ps_if (PW.pt (pw_and (pt_cmpR op_ge (pv 3) (pe_op op_pow pe_int pe_int) (nomark _)) (pw_and1 (pt_cmpR op_gt (pv 4) pe_int (nomark _))))) (pss_cons (ps_expr (pe_bm PySem.F.plainAttrs_list PySem.F.slot_list_append PySem.F.type_list_append mt_append (pv 5) (pa_cons (pe_op op_mod (pv 4) (pe_ix ix_list (pv 2) (pv 6) (fun _ _ => rfl))) pa_nil)))
      (pss_one (ps_set (i := 4) sc__law_numbers.nd rfl (Or.inl rfl) (pe_op op_fdivW (pv 4) (pe_ix ix_list (pv 2) (pv 6) (fun _ _ => rfl)))))) (pss_cons (ps_set (i := 7) sc__law_numbers.nd rfl (Or.inl rfl) (pe_op op_mod (pe_op op_pow (pe_op op_add (pe_op op_add (pe_op op_mod (pv 3) pe_int) (pe_op op_mul pe_int (pv 1))) pe_int) pe_int) pe_int))
      (pss_cons (ps_set (i := 7) sc__law_numbers.nd rfl (Or.inl rfl) (pe_op op_mod (pe_op op_mul (pe_op op_add (pv 7) (pe_op op_mul pe_int (pe_op op_add (pv 6) pe_int))) (pe_op op_add (pv 6) pe_int)) pe_int))
      (pss_cons (ps_set (i := 7) sc__law_numbers.nd rfl (Or.inl rfl) (pe_op op_mod (pe_op op_mul (pe_op op_mod (pe_op op_pow (pv 7) pe_int) pe_int) pe_int) pe_int))
      (pss_one (ps_expr (pe_bm PySem.F.plainAttrs_list PySem.F.slot_list_append PySem.F.type_list_append mt_append (pv 5) (pa_cons (pe_op op_mod (pe_op op_fdiv (pv 7) pe_int) (pe_ix ix_list (pv 2) (pv 6) (fun _ _ => rfl))) pa_nil))))))))))
      (pss_one (ps_ret (pv 5)))))))), ?_⟩
    refine ⟨_, rfl, _, rfl, _, rfl, _, _, rfl, rfl, _, _, rfl, ?_⟩
    obtain ⟨nu, hnu⟩ : ∃ nu : Int, nu = (if -1 - c > c then -1 - c else c) := ⟨_, rfl⟩
    refine ⟨_, rfl, Nat.zero_le _, fun p hp => ?_⟩
    refine ⟨_, rfl, _, _, rfl, .inl ((Same.new hp).seq hS), _, rfl, ?_, ?_, ?_⟩
    · show -(2 ^ 62) ≤ (((ns.map V.int).length : Nat) : Int)
      omega
    · show (((ns.map V.int).length : Nat) : Int) < 2 ^ 62
      rw [List.length_map]
      omega
    have en : ((((ns.map V.int).length : Nat) : Int)).toNat = ns.length := by rw [List.length_map]; rfl
    rw [en]
    rw [← hnu]
    refine for_range (lo := 0) (n := ns.length) (fun i σ H' => ∃ (l : Int) (kk one : Option V), σ = [some (.int c), some (.int salt), some (.ref a), some (.int nu), some (.int l), some (.ref p), kk, one] ∧
      Same H H' ∧ ∃ ds : List Int, H' p = some (.lst (ds.map V.int)) ∧ Digs (ns.take i) ds) ⟨nu, none, none, rfl, Same.new hp, [], upd_same, .nil⟩ ?_ ?_
    · rintro i σ H' hi ⟨l, kk, one, rfl, sm, ds, hL, hD⟩
      have hz : ns[i]? = some ns[i] := List.getElem?_eq_getElem hi
      obtain ⟨z, ez⟩ : ∃ z, z = ns[i] := ⟨_, rfl⟩
      rw [← ez] at hz
      have zp : 0 < z ∧ z.natAbs.log2 < 9000 := hns z (by rw [ez]; exact List.getElem_mem hi)
      have hS' : SqL K H' a (ns.map V.int) := sm.seq hS
      have hat : atI (ns.map V.int) (0 + (i : Int)) = some (V.int z) := by
        rw [Int.zero_add]
        exact ats (by rw [List.getElem?_map, hz]; rfl)
      have hlen2 : (ds.map V.int).length < sizeLine := by
        rw [List.length_map, ← hD.length, List.length_take]
        exact szl (by omega)
      have keep : ∀ d : Int, Same H (upd H' p (.lst ((ds.map V.int) ++ [V.int d]))) := fun d => Same.mut sm hp
      have hnn : 0 ≤ nu := by
        rw [hnu]
        split <;> omega
      refine ⟨_, rfl, _, _, rfl, rfl, ⟨by decide, by decide, by decide⟩, _, _, rfl, rfl, _, rfl, ite2 (fun c1 => ⟨_, rfl, _, _, rfl, rfl, _, rfl, ite2 (fun c2 => ?A) (fun c2 => ?B1)⟩) (fun c1 => iteF ?B2)⟩
      case A =>
        refine ⟨_, rfl, .inl ⟨rfl, _, SqL.of hL⟩, _, rfl, _, rfl, _, rfl, _, _, _, _, rfl, rfl, hS', hat, _, _, rfl, rfl, zp.1, _, _, _, rfl, rfl, hL, hlen2, ?_⟩
        refine ⟨_, rfl, _, rfl, _, rfl, _, _, _, _, rfl, rfl, (keep _).seq hS, hat, _, _, rfl, rfl, zp, ?_⟩
        exact ⟨_, _, one, rfl, keep _, digs_end hD hz zp.1⟩
      all_goals
        have m1 : 0 ≤ nu % 2147483629 ∧ nu % 2147483629 < 2147483629 := ⟨Int.emod_nonneg _ (by decide), Int.emod_lt_of_pos _ (by decide)⟩
        refine ⟨_, rfl, _, _, rfl, rfl, (by show (0 : Int) < 2147483629; decide), _, rfl, _, _, rfl, rfl, .inl ⟨by decide, by decide⟩, _, _, rfl, rfl, _, _, rfl, rfl, _, _, rfl, rfl, ⟨by decide, by decide, ?_⟩, _, _, rfl, rfl, (by show (0 : Int) < 2147483647; decide), ?_⟩
        · show (nu % 2147483629 + 7919 * salt + 1).natAbs < 2 ^ 64
          omega
        refine ⟨_, rfl, _, rfl, _, _, rfl, rfl, _, _, rfl, rfl, .inl ⟨by decide, by decide⟩, _, _, rfl, rfl, _, rfl, _, _, rfl, rfl, _, _, rfl, rfl, .inl (mulb2 (by omega)), _, _, rfl, rfl, (by show (0 : Int) < 2147483629; decide), ?_⟩
        refine ⟨_, rfl, _, _, rfl, rfl, ⟨by decide, by decide, nab (by decide) (by decide)⟩, _, _, rfl, rfl, (by show (0 : Int) < 2147483647; decide), _, _, rfl, rfl, .inl (mulb (by decide) (by decide)), _, _, rfl, rfl, (by show (0 : Int) < 2147483629; decide), ?_⟩
        refine ⟨_, rfl, .inl ⟨rfl, _, SqL.of hL⟩, _, rfl, _, _, rfl, rfl, ⟨by decide, by decide⟩, _, rfl, _, rfl, _, _, _, _, rfl, rfl, hS', hat, _, _, rfl, rfl, zp.1, _, _, _, rfl, rfl, hL, hlen2, ?_⟩
        exact ⟨_, _, _, rfl, keep _, digs_end hD hz zp.1⟩
    · rintro σ H' ⟨l, kk, one, rfl, sm, ds, hL, hD⟩
      rw [List.take_length] at hD
      exact ⟨_, rfl, k _ p ds sm hp hL hD⟩
end
end Jr
namespace Jr
open PySem PySem.Spec PyProof.Rows L2
def some94 : Str := Str.ofString " !\"#$&'()*+,-./0123456789:;<=>?@ABCDEFGHIJKLMNOPQRSTUVWXYZ[\\]^_`" ++ Str.ofString "abcdefghijklmnopqrstuvwxyz{|}~"
theorem some94_len : some94.cps.toList.length = 94 := by decide +kernel
theorem some94_nd : some94.cps.toList.Nodup := by decide +kernel
theorem some94_ok : ∀ c ∈ some94.cps.toList, 32 ≤ c ∧ c ≤ 126 ∧ c ≠ 37 := by decide +kernel
def spSigns (K : PySem.W.Frag) : Sp := fun vs H Q _ => ∃ (a : Addr) (ds : List Int), vs = [.ref a] ∧ SqL K H a (ds.map V.int) ∧ ds.length ≤ 40 ∧ (∀ d ∈ ds, 0 ≤ d ∧ d < 94) ∧
  ∀ H' z, Same H H' → SignsOk z → z.length = ds.length → Q (.str z) H'
section
variable {P : Program} {w : World} {K : PySem.W.Frag} {mg : Str → Option Value} {base : Heap}
theorem cal__law_signs (T : Tx K mg) : Cal P w K mg base CX0 1 "_law_signs" (spSigns K) := by
  obtain ⟨fd, F⟩ := T.d__law_signs
  refine ⟨_, fd, P__law_signs, F.ok sc__law_signs (fun vs H Q E h => ?_) (fun cdv A outer s H vs Q E hr h => ?_), T.g__law_signs, F.kp, F.bindsN (ps := P__law_signs) fun _ _ _ _ _ _ us hl => match us, hl with | [_], _ => rfl⟩
  · obtain ⟨a, ds, rfl, _⟩ := h
    rfl
  · obtain ⟨a, ds, rfl, hS, hlen, hds, k⟩ := h
    refine ⟨_, (PSs.nox (pss_cons (ps_set (i := 1) sc__law_signs.nd rfl (Or.inl rfl) pe_str)
      (pss_cons (ps_set (i := 1) sc__law_signs.nd rfl (Or.inl rfl) (pe_op op_add_str (pv 1) pe_str))
      (pss_cons (ps_set (i := 2) sc__law_signs.nd rfl (Or.inr rfl) pe_str)
      (pss_cons (ps_for PassesOwn.never rfl (pi_list (pv 0)) (pg_name (i := 3) sc__law_signs.nd rfl (Or.inl rfl)) (pss_cons (ps_set (i := 4) sc__law_signs.nd rfl (Or.inl rfl) (pe_op op_add_str (pe_slice sl_str (pv 1) (po_some (pv 3)) po_none) (pe_slice sl_str (pv 1) po_none (po_some (pv 3)))))
      (pss_one (ps_set (i := 2) sc__law_signs.nd rfl (Or.inr rfl) (pe_op op_add_str (pv 2) (pe_ix ix_list (pe_lc (own := [("_law_sign", 5)]) (g := gName 5) (by rfl) sc__law_signs.nd (pi_str (pv 4)) (blkOk_by (own := [("_law_sign", 5)]) (N := N__law_signs) (sc := defScope s__law_signs) (by decide +kernel)) (fun _ _ _ _ _ => (pg_name (i := 5) sc__law_signs.nd rfl (Or.inl rfl))) (fun _ _ _ _ _ => (pts_one (pt_cmpR op_notIn_sign (pv 5) (pv 2) rfl))) (fun _ _ _ _ _ => (pv 5))) pe_int (fun _ _ => rfl)))))))
      (pss_one (ps_ret (pv 2)))))))), ?_⟩
    refine ⟨_, rfl, _, _, rfl, rfl, (by decide +kernel), ?_⟩
    refine ⟨_, rfl, a, rfl, ⟨_, hS⟩, for_list (K := K) (a := a) (xs := ds.map V.int) (fun i σ H' => ∃ (z : Str) (u v x : Option V), σ = [some (.ref a), some (.str some94), some (.str z), u, v, x] ∧ Same H H' ∧ SignsOk z ∧ z.length = i)
      ⟨Str.ofString "", none, none, none, rfl, Same.refl H, ⟨by decide +kernel, by decide +kernel⟩, by decide +kernel⟩ (fun i σ H' _ ⟨_, _, _, _, _, s, _⟩ => s.seq hS) ?_ ?_⟩
    · rintro i y σ H' hi ⟨z, u, v, x, rfl, sm, ok, ez⟩
      have hi2 : i < ds.length := by
        have q := (List.getElem?_eq_some_iff.mp hi).1
        rw [List.length_map] at q
        exact q
      obtain ⟨d, hd, rfl⟩ : ∃ d, d ∈ ds ∧ y = V.int d := by
        rw [List.getElem?_map, List.getElem?_eq_getElem hi2] at hi
        exact ⟨_, List.getElem_mem hi2, (Option.some.inj hi).symm⟩
      obtain ⟨d0, d1⟩ := hds d hd
      obtain ⟨n, rfl⟩ := Int.eq_ofNat_of_zero_le d0
      have hz94 : some94.length ≤ sizeLine := by decide +kernel
      have l94 : some94.length = 94 := by decide +kernel
      have lt : (cutS some94 (some (n : Int)) none).length + (cutS some94 none (some (n : Int))).length = 94 := by
        have e1 := cut_from some94 n
        have e2 := cut_to some94 n
        have l1 := congrArg List.length e1
        have l2 := congrArg List.length e2
        rw [len_cps, List.length_drop, some94_len] at l1
        rw [len_cps, List.length_take, some94_len] at l2
        omega
      refine ⟨_, rfl, _, rfl, _, rfl, _, rfl, hz94, _, rfl, _, rfl, _, rfl, _, rfl, hz94, _, _, rfl, rfl, (by rw [lt]; decide), ?_⟩
      obtain ⟨t, et⟩ : ∃ t : Str, t = cutS some94 (some (n : Int)) none ++ cutS some94 none (some (n : Int)) := ⟨_, rfl⟩
      have tp : t.cps.toList.Perm some94.cps.toList := by
        rw [et, app_cps, cut_from, cut_to]
        exact List.perm_append_comm.trans (List.Perm.of_eq (List.take_append_drop _ _))
      have tl : t.cps.toList.length = 94 := by rw [tp.length_eq, some94_len]
      refine ⟨_, rfl, _, rfl, t, by rw [et], fun D hD => lc_strM (p := fun c => !decide (c ∈ z.cps.toList)) (f := fun c => V.str (sgn c)) hD (by rw [tl]; decide) (fun c _ H2 _ N M hM hN => ?_) (fun H2 sm2 hL => ?_)⟩
      · refine ⟨rfl, _, rfl, _, rfl, _, _, rfl, rfl, _, rfl, ?_⟩
        by_cases hc : c ∈ z.cps.toList
        · rw [decide_eq_true hc]
          exact iteF (hN (by simp [hc]))
        · rw [decide_eq_false hc]
          exact iteT ⟨_, rfl, hM (by simp [hc])⟩
      · have hne : ∃ c r, t.cps.toList.filter (fun c => !decide (c ∈ z.cps.toList)) = c :: r := by
          cases e : t.cps.toList.filter (fun c => !decide (c ∈ z.cps.toList)) with
          | cons c r => exact ⟨c, r, rfl⟩
          | nil =>
            exfalso
            have all : ∀ c ∈ t.cps.toList, c ∈ z.cps.toList := fun c hc => by
              have q := List.filter_eq_nil_iff.mp e c hc
              simpa using q
            have q := pigeon t.cps.toList z.cps.toList (tp.symm.nodup some94_nd) all
            rw [tl, len_cps, ez] at q
            omega
        obtain ⟨c, r, er⟩ := hne
        have hc : c ∈ t.cps.toList ∧ ¬ c ∈ z.cps.toList := by
          have q : c ∈ t.cps.toList.filter (fun c => !decide (c ∈ z.cps.toList)) := by rw [er]; exact List.mem_cons_self
          have q2 := List.mem_filter.mp q
          exact ⟨q2.1, by simpa using q2.2⟩
        rw [er] at hL
        refine ⟨D, _, _, _, rfl, rfl, SqL.of hL, (show atI _ ((0 : Nat) : Int) = _ from ats rfl), _, _, rfl, rfl, ?_, ?_⟩
        · show z.length + 1 ≤ sizeLine
          exact sz (by omega)
        · refine ⟨_, _, _, _, rfl, sm.trans sm2, ⟨?_, ?_⟩, ?_⟩
          · rw [app_cps]
            show (z.cps.toList ++ [c]).Nodup
            rw [List.nodup_append]
            refine ⟨ok.nd, by simp, fun x hx y hy => ?_⟩
            rw [List.mem_singleton] at hy
            rw [hy]
            exact fun e => hc.2 (e ▸ hx)
          · intro x hx
            rw [app_cps] at hx
            rcases List.mem_append.mp hx with hx | hx
            · exact ok.ok x hx
            · have e : x = c := by simpa [sgn] using hx
              rw [e]
              exact some94_ok c (tp.mem_iff.mp hc.1)
          · rw [app_len, ez]; rfl
    · rintro σ H' ⟨z, u, v, x, rfl, sm, ok, ez⟩
      rw [List.length_map] at ez
      exact ⟨_, rfl, k _ z sm ok ez⟩
end
end Jr
namespace Jr
open PySem PySem.Spec PyProof.Rows L2
def spRows (K : PySem.W.Frag) : Sp := fun vs H Q _ => ∃ (z : Str) (a : Addr) (ds : List Int), vs = [.str z, .ref a] ∧ SqL K H a (ds.map V.int) ∧ ds.length ≤ 1000 ∧ SignsOk z ∧ 1 ≤ z.length ∧ z.length ≤ 12 ∧
  ∀ H' p rs, Same H H' → H p = none → RowsAt H' p rs → TabOk z rs → Q (.ref p) H'
section
variable {P : Program} {w : World} {K : PySem.W.Frag} {mg : Str → Option Value} {base : Heap}
theorem cal__law_rows (T : Tx K mg) : Cal P w K mg base CX0 1 "_law_rows" (spRows K) := by
  obtain ⟨fd, F⟩ := T.d__law_rows
  refine ⟨_, fd, P__law_rows, F.ok sc__law_rows (fun vs H Q E h => ?_) (fun cdv A outer s H vs Q E hr h => ?_), T.g__law_rows, F.kp, F.bindsN (ps := P__law_rows) fun _ _ _ _ _ _ us hl => match us, hl with | [_, _], _ => rfl⟩
  · obtain ⟨z, a, ds, rfl, _⟩ := h
    rfl
  · obtain ⟨z, a, ds, rfl, hS, hlen, so, z1, z12, k⟩ := h
    refine ⟨_, (PSs.nox (pss_cons (ps_set (i := 2) sc__law_rows.nd rfl (Or.inl rfl) (pe_callTy (T := "list") (call_list_str rfl) (by rfl) T.n_list (by decide +kernel) (pa_cons (pv 0) pa_nil)))
      (pss_cons (ps_set (i := 3) sc__law_rows.nd rfl (Or.inl rfl) (pe_lst pa_nil))
      (pss_cons (ps_for PassesOwn.never rfl (pi_range1 (by rfl) T.n_range (pa_cons (pe_op op_fdiv (pe_callB (id := "len") call_len_seq (by rfl) T.n_len (by decide +kernel) (pa_cons (pv 1) pa_nil)) pe_int) pa_nil)) (pg_name (i := 4) sc__law_rows.nd rfl (Or.inl rfl)) (pss_cons (ps_set (i := 5) sc__law_rows.nd rfl (Or.inl rfl) (pe_ix ix_list (pv 2) (pe_op op_mod (pe_ix ix_list (pv 1) (pe_op op_mul pe_int (pv 4)) (fun _ _ => rfl)) (pe_callB (id := "len") call_len_seq (by rfl) T.n_len (by decide +kernel) (pa_cons (pv 2) pa_nil))) (fun _ _ => rfl)))
      (pss_cons (ps_set (i := 6) sc__law_rows.nd rfl (Or.inl rfl) (pe_ix ix_list (pv 2) (pe_op op_mod (pe_ix ix_list (pv 1) (pe_op op_add (pe_op op_mul pe_int (pv 4)) pe_int) (fun _ _ => rfl)) (pe_callB (id := "len") call_len_seq (by rfl) T.n_len (by decide +kernel) (pa_cons (pv 2) pa_nil))) (fun _ _ => rfl)))
      (pss_one (ps_if (PW.pt (pw_and (pt_cmpR op_le (pe_callB (id := "len") call_len_str (by rfl) T.n_len (by decide +kernel) (pa_cons (pe_op op_add_str (pv 5) (pv 6)) pa_nil)) pe_int (nomark _)) (pw_and (pt_cmpR op_notIn_seq (pe_op op_add_str (pv 5) (pv 6)) (pv 2) rfl) (pw_and1 (pt_cmpR op_lt (pe_callB (id := "len") call_len_seq (by rfl) T.n_len (by decide +kernel) (pa_cons (pv 3) pa_nil)) pe_int (nomark _)))))) (pss_cons (ps_expr (pe_bm PySem.F.plainAttrs_list PySem.F.slot_list_append PySem.F.type_list_append mt_append (pv 3) (pa_cons (pe_tup (pa_cons (pv 5) (pa_cons (pv 6) pa_nil))) pa_nil)))
      (pss_one (ps_expr (pe_bm PySem.F.plainAttrs_list PySem.F.slot_list_append PySem.F.type_list_append mt_append (pv 2) (pa_cons (pe_op op_add_str (pv 5) (pv 6)) pa_nil))))) pss_nil)))))
      (pss_one (ps_ret (pv 3))))))), ?_⟩
    refine ⟨_, rfl, _, rfl, sz (by omega), fun q hq => ?_⟩
    refine ⟨Nat.zero_le _, fun p hp => ?_⟩
    have hpH : H p = none := by
      by_cases e : p = q
      · rw [e]; exact hq
      · rw [upd_ne e] at hp; exact hp
    have hqp : q ≠ p := fun e => by
      rw [← e, upd_same] at hp
      cases hp
    have s0 : Same H (upd (upd H q (.lst ((sgs z).map V.str))) p (.lst [])) := Same.mut (Same.new hq) hpH
    refine ⟨_, rfl, _, _, rfl, .inl (s0.seq hS), _, _, rfl, rfl, ⟨by decide, by decide⟩, _, rfl, ?_, ?_, ?_⟩
    · show -(2 ^ 62) ≤ (((ds.map V.int).length : Nat) : Int) / 2
      omega
    · show (((ds.map V.int).length : Nat) : Int) / 2 < 2 ^ 62
      rw [List.length_map]
      omega
    have en : ((((ds.map V.int).length : Nat) : Int) / 2).toNat = ds.length / 2 := by rw [List.length_map]; omega
    show ∃ W, _
    refine for_range (lo := 0) (n := ((((ds.map V.int).length : Nat) : Int) / 2).toNat) (fun i σ H' => ∃ (rs : Rws) (u v x : Option V), σ = [some (.str z), some (.ref a), some (.ref q), some (.ref p), u, v, x] ∧
      Same H H' ∧ H' q = some (.lst ((pcs z rs).map V.str)) ∧ RowsAt H' p rs ∧ TabOk z rs) ⟨[], none, none, none, rfl, s0, ?_, ⟨[], upd_same, .nil⟩, TabOk.nil so z1 z12⟩ ?_ ?_
    · rw [upd_ne hqp, upd_same]
      unfold pcs
      rw [List.map_nil, List.append_nil]
    · rintro i σ H' hi ⟨rs, u, v, x, rfl, sm, hq', ⟨as, hp', hrs⟩, tk⟩
      rw [en] at hi
      have hS' := sm.seq hS
      have pl : (pcs z rs).length = z.length + rs.length := pcs_len z rs
      have plm : ((pcs z rs).map V.str).length = z.length + rs.length := by rw [List.length_map, pl]
      have many := tk.many
      have dig : ∀ j : Nat, j < ds.length → ∃ d, atI (ds.map V.int) (j : Int) = some (V.int d) := fun j hj => ⟨ds[j], atm (List.getElem?_eq_getElem hj)⟩
      have pce : ∀ d : Int, ∃ x, x ∈ pcs z rs ∧ atI ((pcs z rs).map V.str) (d % (((pcs z rs).map V.str).length : Nat)) = some (V.str x) := fun d => by
        have h0 := Int.emod_nonneg d (show ((((pcs z rs).map V.str).length : Nat) : Int) ≠ 0 by omega)
        have h1 := Int.emod_lt_of_pos d (show (0 : Int) < (((pcs z rs).map V.str).length : Nat) by omega)
        obtain ⟨m, hm⟩ := Int.eq_ofNat_of_zero_le h0
        rw [hm]
        have hm2 : m < (pcs z rs).length := by omega
        exact ⟨(pcs z rs)[m], List.getElem_mem hm2, atm (List.getElem?_eq_getElem hm2)⟩
      have e1 : (2 : Int) * (0 + (i : Int)) = ((2 * i : Nat) : Int) := by omega
      have e2 : (2 : Int) * (0 + (i : Int)) + 1 = ((2 * i + 1 : Nat) : Int) := by omega
      obtain ⟨d1, hd1⟩ := dig (2 * i) (by omega)
      obtain ⟨d2, hd2⟩ := dig (2 * i + 1) (by omega)
      obtain ⟨x1, m1, a1⟩ := pce d1
      obtain ⟨x2, m2, a2⟩ := pce d2
      rw [← e1] at hd1
      rw [← e2] at hd2
      have pos : (0 : Int) < (((pcs z rs).map V.str).length : Nat) := by omega
      refine ⟨_, rfl, _, rfl, _, rfl, _, _, rfl, rfl, .inl ⟨by decide, by decide⟩, _, _, _, _, rfl, rfl, hS', hd1, _, rfl, _, _, rfl, .inl (SqL.of hq'), _, _, rfl, rfl, pos, _, _, _, _, rfl, rfl, SqL.of hq', a1, ?_⟩
      refine ⟨_, rfl, _, rfl, _, rfl, _, _, rfl, rfl, .inl ⟨by decide, by decide⟩, _, _, rfl, rfl, _, _, _, _, rfl, rfl, hS', hd2, _, rfl, _, _, rfl, .inl (SqL.of hq'), _, _, rfl, rfl, pos, _, _, _, _, rfl, rfl, SqL.of hq', a2, ?_⟩
      have l1 := tk.plen m1
      have l2 := tk.plen m2
      have la := app_len x1 x2
      have stay : ∀ {u' v' x' : Option V}, ∃ (rs : Rws) (u v x : Option V), [some (V.str z), some (.ref a), some (.ref q), some (.ref p), u', v', x'] = [some (.str z), some (.ref a), some (.ref q), some (.ref p), u, v, x] ∧
          Same H H' ∧ H' q = some (.lst ((pcs z rs).map V.str)) ∧ RowsAt H' p rs ∧ TabOk z rs := ⟨rs, _, _, _, rfl, sm, hq', ⟨as, hp', hrs⟩, tk⟩
      refine ⟨_, rfl, _, rfl, _, _, rfl, rfl, sz (by omega), _, rfl, sz (by omega), _, _, rfl, rfl, _, rfl, ite2 (fun c1 => ?_) (fun c1 => iteF stay)⟩
      refine ⟨_, rfl, _, rfl, _, _, rfl, rfl, sz (by omega), _, rfl, _, _, rfl, .inl (SqL.of hq'), rfl, flat_str _, _, rfl, ?_⟩
      show if (!inV (V.str (x1 ++ x2)) ((pcs z rs).map V.str)) = true then _ else _
      rw [inV_str]
      refine ite2 (fun c2 => ?_) (fun c2 => iteF stay)
      have c2' : ¬ (x1 ++ x2) ∈ pcs z rs := by simpa using c2
      refine ⟨_, rfl, _, _, rfl, .inl (SqL.of hp'), _, _, rfl, rfl, _, rfl, ite2 (fun c3 => ?_) (fun c3 => stay)⟩
      have c3' : rs.length < 24 := by
        have q1 := of_decide_eq_true c3
        rw [List.length_map, Paired.len hrs] at q1
        omega
      have c1' : (x1 ++ x2).length ≤ 16 := by
        have q1 := of_decide_eq_true c1
        omega
      refine ⟨_, rfl, .inl ⟨rfl, _, SqL.of hp'⟩, _, rfl, _, rfl, (by show 2 ≤ sizeLine; decide), fun t ht => ?_⟩
      have tp : t ≠ p := fun e => by rw [e, hp'] at ht; cases ht
      have tq : t ≠ q := fun e => by rw [e, hq'] at ht; cases ht
      have tH : H t = none := sm.free ht
      refine ⟨_, _, _, rfl, rfl, (by rw [upd_ne (Ne.symm tp)]; exact hp'), ?_, ?_⟩
      · rw [List.length_map, Paired.len hrs]
        exact szl (by omega)
      refine ⟨_, rfl, .inl ⟨rfl, _, SqL.of (show upd _ _ _ q = _ by rw [upd_ne hqp, upd_ne (Ne.symm tq)]; exact hq')⟩, _, rfl, _, rfl, _, _, rfl, rfl, sz (by omega), _, _, _, rfl, rfl, (by rw [upd_ne hqp, upd_ne (Ne.symm tq)]; exact hq'), szl (by omega), ?_⟩
      have ro : RowOk z rs (x1, x2) := ⟨m1, m2, c1', c2'⟩
      refine ⟨rs ++ [(x1, x2)], _, _, _, rfl, Same.mut (Same.mut (Same.put sm ht) hpH) hq, ?_, ⟨as ++ [t], ?_, ?_⟩, tk.snoc ro c3'⟩
      · rw [upd_same, pcs_snoc, List.map_append]
        rfl
      · rw [upd_ne (Ne.symm hqp), upd_same, List.map_append]
        rfl
      · refine Paired.snoc ?_ ?_
        · refine L2.Paired.mapP hrs fun b r hb => ?_
          show upd _ _ _ b = _
          have b1 : b ≠ q := fun e => by
            have hb2 : H' b = _ := hb
            rw [e, hq'] at hb2; cases hb2
          have b2 : b ≠ p := fun e => by
            have hb2 : H' b = _ := hb
            rw [e, hp'] at hb2; cases hb2
          rw [upd_ne b1, upd_ne b2, upd_ne (ne_of_none hb ht)]
          exact hb
        · show upd _ _ _ t = _
          rw [upd_ne tq, upd_ne tp, upd_same]
    · rintro σ H' ⟨rs, u, v, x, rfl, sm, hq', hp', tk⟩
      exact ⟨_, rfl, k _ p rs sm hpH hp' tk⟩
end
end Jr
namespace Jr
open PySem PySem.Spec PyProof.Rows L2
/-! ### what the laws' heads share -/
theorem cells_eq (ns ms : List Int) : cutV (ns.map V.int ++ ms.map V.int) none (some 63) = ((ns ++ ms).take 63).map V.int := by
  rw [show (some (63 : Int)) = some ((63 : Nat) : Int) from rfl, cutV_to, List.map_take, List.map_append]
theorem rest_eq (cs : List Int) : cutV (cs.map V.int) (some 1) none = (cs.drop 1).map V.int := by
  rw [show (some (1 : Int)) = some ((1 : Nat) : Int) from rfl, cutV_from, List.map_drop]
theorem sizes_ok {ns : List Int} (h : ns.all (fun z => decide (0 < z) && decide (z ≤ 1000000)) = true) : ∀ z ∈ ns, 0 < z ∧ z.natAbs.log2 < 9000 := fun z hz => by
  have := List.all_eq_true.mp h z hz
  simp only [Bool.and_eq_true, decide_eq_true_eq] at this
  refine ⟨this.1, ?_⟩
  have : z.natAbs.log2 < 20 := (Nat.log2_lt (by omega)).mpr (by omega)
  omega
/-- a digit, by its place -/
theorem dig {ns ds : List Int} (h : Paired (fun z d => 0 ≤ d ∧ d < z) ns ds) {j : Nat} {z : Int} (hz : ns[j]? = some z) : ∃ n : Nat, ds[j]? = some (n : Int) ∧ (n : Int) < z ∧ atI (ds.map V.int) (j : Int) = some (V.int (n : Int)) := by
  obtain ⟨d, e, b⟩ := Paired.get h hz
  obtain ⟨n, rfl⟩ := Int.eq_ofNat_of_zero_le b.1
  exact ⟨n, e, b.2, atm (f := V.int) e⟩
theorem cut_mid (xs : List Int) (a b : Nat) : cutV (xs.map V.int) (some (a : Int)) (some (b : Int)) = ((xs.drop a).take (b - a)).map V.int := by
  rw [cutV_mid, List.map_take, List.map_drop]
end Jr
namespace Jr
open PySem PySem.Spec PyProof.Rows L2
/-! ### comprehensions whose test and element may make new things: a filter and a map -/
section
variable {α : Type} {item : α → V} {p : α → Bool} {f : α → V} {g : TG} {tt : TT} {te : TE} {vs : List Nat} {σ : L2.St} {H1 : Hp} {D : Addr} {Qd : Hp → Prop}
/-- one turn of such a comprehension -/
def LcTurnC (item : α → V) (p : α → Bool) (f : α → V) (g : TG) (tt : TT) (te : TE) (vs : List Nat) (σ : L2.St) (H1 : Hp) (x : α) : Prop :=
  ∀ (H' : Hp), Same H1 H' → ∀ (N : Hp → Prop) (M : V → Hp → Prop), (p x = true → ∀ H2, Same H' H2 → M (f x) H2) → (p x = false → ∀ H2, Same H' H2 → N H2) →
    g (item x) (wipe σ vs) H' fun σ2 H2 => wipe σ2 vs = wipe σ vs ∧ tt σ2 H2 fun b H3 => if b = true then te σ2 H3 M else N H3
theorem lc_stepC {l : List α} {i : Nat} {x : α} {H : Hp} (hD : H1 D = none) (hx : l[i]? = some x) (hlen : l.length ≤ 100000) (turn : LcTurnC item p f g tt te vs σ H1 x)
    (sm : Same H1 H) (hL : H D = some (.lst (((l.take i).filter p).map f))) :
    g (item x) (wipe σ vs) H fun σ2 H2 => wipe σ2 vs = wipe σ vs ∧ tt σ2 H2 fun b H3 =>
      if b = true then te σ2 H3 fun y H4 => ∃ acc, H4 D = some (.lst acc) ∧ acc.length < sizeLine ∧ (fun H' => Same H1 H' ∧ H' D = some (.lst (((l.take (i + 1)).filter p).map f))) (upd H4 D (.lst (acc ++ [y])))
      else (fun H' => Same H1 H' ∧ H' D = some (.lst (((l.take (i + 1)).filter p).map f))) H3 := by
  have e : l.take (i + 1) = l.take i ++ [x] := by rw [List.take_add_one, hx]; rfl
  refine turn H sm _ _ (fun hp H2 s2 => ?_) (fun hp H2 s2 => ?_)
  · refine ⟨_, s2 _ _ hL, ?_, Same.mut (sm.trans s2) hD, ?_⟩
    · have h1 : ((l.take i).filter p).length ≤ (l.take i).length := List.length_filter_le ..
      have h2 : (l.take i).length ≤ i := by rw [List.length_take]; omega
      have h3 : i < l.length := (List.getElem?_eq_some_iff.mp hx).1
      rw [List.length_map]
      exact szl (by omega)
    · rw [upd_same, e, List.filter_append, List.map_append]
      simp [hp]
  · refine ⟨sm.trans s2, ?_⟩
    rw [s2 _ _ hL, e, List.filter_append, List.map_append]
    simp [hp]
theorem lc_listC {K : PySem.W.Frag} {a : Addr} {l : List α} (hS : SqL K H1 a (l.map item)) (hD : H1 D = none) (hlen : l.length ≤ 100000) (turn : ∀ x ∈ l, LcTurnC item p f g tt te vs σ H1 x)
    (hd : ∀ H, Same H1 H → H D = some (.lst ((l.filter p).map f)) → Qd H) :
    ∃ W : Nat → Nat → Hp → Prop, (∃ m, W 0 m (upd H1 D (.lst []))) ∧ ∀ i m H, W i m H →
      ((Itl K a).stop i H ∧ Qd H) ∨ ((Itl K a).go i H ∧ ∃ Nx : Hp → Prop, (∀ H', Nx H' → ∃ m', m' < m ∧ W (i + 1) m' H') ∧ ∀ x H', (Itl K a).yld i H x H' → g x (wipe σ vs) H' fun σ2 H2 => wipe σ2 vs = wipe σ vs ∧ tt σ2 H2 fun b H3 =>
        if b = true then te σ2 H3 fun y H4 => ∃ acc, H4 D = some (.lst acc) ∧ acc.length < sizeLine ∧ Nx (upd H4 D (.lst (acc ++ [y]))) else Nx H3) := by
  refine lc_list (K := K) (a := a) (xs := l.map item) (fun i H => Same H1 H ∧ H D = some (.lst (((l.take i).filter p).map f))) ⟨Same.new hD, upd_same⟩ (fun i H _ ⟨s, _⟩ => s.seq hS) ?_ ?_
  · rintro i x H hx ⟨sm, hL⟩
    rw [List.getElem?_map] at hx
    cases e : l[i]? with
    | none => rw [e] at hx; cases hx
    | some y =>
      rw [e] at hx
      cases hx
      exact lc_stepC hD e hlen (turn y (List.mem_of_getElem? e)) sm hL
  · rintro H ⟨sm, hL⟩
    rw [List.length_map, List.take_length] at hL
    exact hd H sm hL
end
end Jr
namespace Jr
open PySem PySem.Spec PyProof.Rows L2
/-! ### comprehensions whose elements are told by a relation that holds without the list that grows -/
/-- the heap without one object -/
def hide (H : Hp) (D : Addr) : Hp := fun b => if b = D then none else H b
theorem hide_same (H : Hp) (D : Addr) : Same (hide H D) H := fun b x h => by
  unfold hide at h
  by_cases c : b = D
  · rw [if_pos c] at h; cases h
  · rw [if_neg c] at h; exact h
theorem hide_of {H : Hp} {D b : Addr} {x : HO} (h : H b = some x) (n : b ≠ D) : hide H D b = some x := by
  unfold hide
  rw [if_neg n]; exact h
theorem hide_step {H H' : Hp} {D : Addr} (s : Same H H') : Same (hide H D) (hide H' D) := fun b x h => by
  unfold hide at h
  by_cases c : b = D
  · rw [if_pos c] at h; cases h
  · rw [if_neg c] at h; exact hide_of (s _ _ h) c
theorem hide_upd (H : Hp) (D : Addr) (o : HO) : hide (upd H D o) D = hide H D := by
  funext b
  unfold hide
  by_cases c : b = D
  · rw [if_pos c, if_pos c]
  · rw [if_neg c, if_neg c, upd_ne c]
theorem hide_new {H H' : Hp} {D : Addr} (n : H D = none) (s : Same H H') : Same H (hide H' D) := fun b x h => hide_of (s _ _ h) fun e => by rw [e, n] at h; cases h
/-- what stands in the heap behind, but was not there ahead, is none of what was there -/
theorem hide_fresh {H H' : Hp} {a : Addr} {x : HO} (n : H a = none) (h : H' a = some x) : ∀ D, H D ≠ none → hide H' D a = some x := fun D hD => hide_of h fun e => hD (e ▸ n)
section
variable {α : Type} {item : α → V} {p : α → Bool} {R : α → V → Hp → Prop} {g : TG} {tt : TT} {te : TE} {vs : List Nat} {σ : L2.St} {H1 : Hp} {D : Addr} {Qd : Hp → Prop}
def LcTurnY (item : α → V) (p : α → Bool) (R : α → V → Hp → Prop) (g : TG) (tt : TT) (te : TE) (vs : List Nat) (σ : L2.St) (H1 : Hp) (x : α) : Prop :=
  ∀ (H' : Hp), Same H1 H' → ∀ (N : Hp → Prop) (M : V → Hp → Prop), (p x = true → ∀ v H2, Same H' H2 → (∀ D, H' D ≠ none → R x v (hide H2 D)) → M v H2) → (p x = false → ∀ H2, Same H' H2 → N H2) →
    g (item x) (wipe σ vs) H' fun σ2 H2 => wipe σ2 vs = wipe σ vs ∧ tt σ2 H2 fun b H3 => if b = true then te σ2 H3 M else N H3
def YSo (p : α → Bool) (R : α → V → Hp → Prop) (H1 : Hp) (D : Addr) (l : List α) (H : Hp) : Prop := Same H1 H ∧ ∃ us, H D = some (.lst us) ∧ Paired (fun v x => R x v (hide H D)) us (l.filter p)
theorem lc_stepY (hR : ∀ x v H H', Same H H' → R x v H → R x v H') {l : List α} {i : Nat} {x : α} {H : Hp} (hD : H1 D = none) (hx : l[i]? = some x) (hlen : l.length ≤ 90000) (turn : LcTurnY item p R g tt te vs σ H1 x)
    (hp : YSo p R H1 D (l.take i) H) :
    g (item x) (wipe σ vs) H fun σ2 H2 => wipe σ2 vs = wipe σ vs ∧ tt σ2 H2 fun b H3 =>
      if b = true then te σ2 H3 fun y H4 => ∃ acc, H4 D = some (.lst acc) ∧ acc.length < sizeLine ∧ YSo p R H1 D (l.take (i + 1)) (upd H4 D (.lst (acc ++ [y])))
      else YSo p R H1 D (l.take (i + 1)) H3 := by
  obtain ⟨sm, us, hL, hP⟩ := hp
  have e : l.take (i + 1) = l.take i ++ [x] := by rw [List.take_add_one, hx]; rfl
  refine turn H sm _ _ (fun px v H2 s2 hv => ?_) (fun px H2 s2 => ?_)
  · refine ⟨us, s2 _ _ hL, ?_, Same.mut (sm.trans s2) hD, us ++ [v], upd_same, ?_⟩
    · have h1 := Paired.len hP
      have h2 : ((l.take i).filter p).length ≤ (l.take i).length := List.length_filter_le ..
      have h3 : (l.take i).length ≤ i := by rw [List.length_take]; omega
      have h4 : i < l.length := (List.getElem?_eq_some_iff.mp hx).1
      exact szl (by omega)
    · rw [e, List.filter_append, hide_upd]
      have ef : [x].filter p = [x] := by simp [px]
      rw [ef]
      refine Paired.app (L2.Paired.mapP hP fun w y hw => hR _ _ _ _ (hide_step s2) hw) (.cons (hv D (fun z => by rw [hL] at z; cases z)) .nil)
  · refine ⟨sm.trans s2, us, s2 _ _ hL, ?_⟩
    have ef : [x].filter p = [] := by simp [px]
    rw [e, List.filter_append, ef, List.append_nil]
    exact L2.Paired.mapP hP fun w y hw => hR _ _ _ _ (hide_step s2) hw
theorem lc_listY {K : PySem.W.Frag} {a : Addr} {l : List α} (hR : ∀ x v H H', Same H H' → R x v H → R x v H') (hS : SqL K H1 a (l.map item)) (hD : H1 D = none) (hlen : l.length ≤ 90000) (turn : ∀ x ∈ l, LcTurnY item p R g tt te vs σ H1 x)
    (hd : ∀ H us, Same H1 H → H D = some (.lst us) → Paired (fun v x => R x v (hide H D)) us (l.filter p) → Qd H) :
    ∃ W : Nat → Nat → Hp → Prop, (∃ m, W 0 m (upd H1 D (.lst []))) ∧ ∀ i m H, W i m H →
      ((Itl K a).stop i H ∧ Qd H) ∨ ((Itl K a).go i H ∧ ∃ Nx : Hp → Prop, (∀ H', Nx H' → ∃ m', m' < m ∧ W (i + 1) m' H') ∧ ∀ x H', (Itl K a).yld i H x H' → g x (wipe σ vs) H' fun σ2 H2 => wipe σ2 vs = wipe σ vs ∧ tt σ2 H2 fun b H3 =>
        if b = true then te σ2 H3 fun y H4 => ∃ acc, H4 D = some (.lst acc) ∧ acc.length < sizeLine ∧ Nx (upd H4 D (.lst (acc ++ [y]))) else Nx H3) := by
  refine lc_list (K := K) (a := a) (xs := l.map item) (fun i H => YSo p R H1 D (l.take i) H) ⟨Same.new hD, [], upd_same, .nil⟩ (fun i H _ ⟨s, _⟩ => s.seq hS) ?_ ?_
  · rintro i x H hx hp
    rw [List.getElem?_map] at hx
    cases e : l[i]? with
    | none => rw [e] at hx; cases hx
    | some y =>
      rw [e] at hx
      cases hx
      exact lc_stepY hR hD e hlen (turn y (List.mem_of_getElem? e)) hp
  · rintro H ⟨sm, us, hL, hP⟩
    rw [List.length_map, List.take_length] at hP
    exact hd H us sm hL hP
end
section
variable {p : Nat → Bool} {R : Nat → V → Hp → Prop} {g : TG} {tt : TT} {te : TE} {vs : List Nat} {σ : L2.St} {H1 : Hp} {D : Addr} {Qd : Hp → Prop}
theorem lc_rangeY {lo : Int} {n : Nat} (hR : ∀ x v H H', Same H H' → R x v H → R x v H') (hD : H1 D = none) (hlen : n ≤ 90000) (turn : ∀ i, i < n → LcTurnY (fun i : Nat => V.int (lo + i)) p R g tt te vs σ H1 i)
    (hd : ∀ H us, Same H1 H → H D = some (.lst us) → Paired (fun v x => R x v (hide H D)) us ((List.range n).filter p) → Qd H) :
    ∃ W : Nat → Nat → Hp → Prop, (∃ m, W 0 m (upd H1 D (.lst []))) ∧ ∀ i m H, W i m H →
      ((Itr lo n).stop i H ∧ Qd H) ∨ ((Itr lo n).go i H ∧ ∃ Nx : Hp → Prop, (∀ H', Nx H' → ∃ m', m' < m ∧ W (i + 1) m' H') ∧ ∀ y H', (Itr lo n).yld i H y H' → g y (wipe σ vs) H' fun σ2 H2 => wipe σ2 vs = wipe σ vs ∧ tt σ2 H2 fun b H3 =>
        if b = true then te σ2 H3 fun y H4 => ∃ acc, H4 D = some (.lst acc) ∧ acc.length < sizeLine ∧ Nx (upd H4 D (.lst (acc ++ [y]))) else Nx H3) := by
  refine lc_range (lo := lo) (n := n) (fun i H => YSo p R H1 D ((List.range n).take i) H) ⟨Same.new hD, [], upd_same, .nil⟩ ?_ ?_
  · rintro i H hi hp
    exact lc_stepY (item := fun i : Nat => V.int (lo + i)) hR (l := List.range n) hD (by rw [List.getElem?_range hi]) (by rw [List.length_range]; exact hlen) (turn i hi) hp
  · rintro H ⟨sm, us, hL, hP⟩
    have e : (List.range n).take n = List.range n := by
      have := List.take_length (l := List.range n)
      rw [List.length_range] at this
      exact this
    rw [e] at hP
    exact hd H us sm hL hP
end
/-- the heap told of a list of new rows -/
theorem paired_hide {α : Type} {R : α → V → Hp → Prop} {H : Hp} {D : Addr} (hR : ∀ x v H H', Same H H' → R x v H → R x v H') {us : List V} {l : List α} (h : Paired (fun v x => R x v (hide H D)) us l) : Paired (fun v x => R x v H) us l := L2.Paired.mapP h fun _ _ q => hR _ _ _ _ (hide_same H D) q
theorem filt_true {α : Type} (l : List α) : l.filter (fun _ => true) = l := List.filter_eq_self.mpr fun _ _ => rfl
end Jr
namespace Jr
open PySem PySem.Spec PyProof.Rows L2
def szs04 : List Int := [4, 12, 4, 4] ++ List.replicate 8 120 ++ [9] ++ List.replicate 12 94 ++ List.replicate 48 36 ++ [4, 4]
section
variable {P : Program} {w : World} {K : PySem.W.Frag} {mg : Str → Option Value}
theorem fn_law (T : Tx K mg) : ∃ fd, FunD K "law" "law" (defArgs s_law) (defBody s_law) (defScope s_law) [] [] (He.fAd K ("law", none)) fd ∧ ∀ base : Heap, FnOk P w K mg base CX0 9 (He.fAd K ("law", none)) fd P_law (spLaw K) := by
  obtain ⟨fd, F⟩ := T.d_law
  refine ⟨fd, F, fun base => ?_⟩
  have C__law_numbers := cal__law_numbers (P := P) (w := w) (base := base) T
  have C__law_signs := cal__law_signs (P := P) (w := w) (base := base) T
  have C__law_rows := cal__law_rows (P := P) (w := w) (base := base) T
  have C__law_spoilt_rows := cal__law_spoilt_rows (P := P) (w := w) (base := base) T
  have C__law_spoilt_signs := cal__law_spoilt_signs (P := P) (w := w) (base := base) T
  have C__law_right := cal__law_right4 (P := P) (w := w) (base := base) T
  refine F.ok sc_law (fun vs H Q E h => ?_) (fun cdv A outer s H vs Q E hr h => ?_)
  · obtain ⟨a, ns, rfl, _⟩ := h
    rfl
  · obtain ⟨a, ns, rfl, hS, hlen, k⟩ := h
    refine ⟨_, (PSs.nox (pss_cons (ps_for PassesOwn.never rfl (pi_enum (by rfl) T.n_enumerate (pa_cons (pe_op op_catG (pe_intsAs (ns := [0]) (pe_litI (ns := [0]) (pe_lst (pa_cons pe_int pa_nil)) (fun _ _ _ => rfl) (by decide)) (by decide)) (pe_slice sl_listG (pv 0) po_none (po_some pe_int))) pa_nil)) (pg_tup rfl (pgs_cons (pg_name (i := 1) sc_law.nd rfl (Or.inl rfl)) (pgs_cons (pg_name (i := 2) sc_law.nd rfl (Or.inl rfl)) pgs_nil))) (pss_cons (ps_set (i := 3) sc_law.nd rfl (Or.inl rfl) (pe_intsAs (ns := [4, 12, 4, 4, 120, 120, 120, 120, 120, 120, 120, 120, 9, 94, 94, 94, 94, 94, 94, 94, 94, 94, 94, 94, 94, 36, 36, 36, 36, 36, 36, 36, 36, 36, 36, 36, 36, 36, 36, 36, 36, 36, 36, 36, 36, 36, 36, 36, 36, 36, 36, 36, 36, 36, 36, 36, 36, 36, 36, 36, 36, 36, 36, 36, 36, 36, 36, 36, 36, 36, 36, 36, 36, 4, 4]) (pe_catI (pe_catI (pe_catI (pe_catI (pe_catI (pe_litI (ns := [4, 12, 4, 4]) (pe_lst (pa_cons pe_int (pa_cons pe_int (pa_cons pe_int (pa_cons pe_int pa_nil))))) (fun _ _ _ => rfl) (by decide)) (pe_repI (k := 8) (pe_litI (ns := [120]) (pe_lst (pa_cons pe_int pa_nil)) (fun _ _ _ => rfl) (by decide)) pe_int (by decide) (by decide)) (by decide)) (pe_litI (ns := [9]) (pe_lst (pa_cons pe_int pa_nil)) (fun _ _ _ => rfl) (by decide)) (by decide)) (pe_repI (k := 12) (pe_litI (ns := [94]) (pe_lst (pa_cons pe_int pa_nil)) (fun _ _ _ => rfl) (by decide)) pe_int (by decide) (by decide)) (by decide)) (pe_repI (k := 48) (pe_litI (ns := [36]) (pe_lst (pa_cons pe_int pa_nil)) (fun _ _ _ => rfl) (by decide)) pe_int (by decide) (by decide)) (by decide)) (pe_litI (ns := [4, 4]) (pe_lst (pa_cons pe_int (pa_cons pe_int pa_nil))) (fun _ _ _ => rfl) (by decide)) (by decide)) (by decide)))
      (pss_cons (ps_set (i := 4) sc_law.nd rfl (Or.inl rfl) (pe_cal C__law_numbers (by first | exact hr | exact hr.mono (by decide)) (by rfl) (pa_cons (pv 2) (pa_cons (pe_op op_add pe_int (pv 1)) (pa_cons (pv 3) pa_nil)))))
      (pss_cons (ps_set (i := 5) sc_law.nd rfl (Or.inl rfl) (pe_op op_add pe_int (pe_ix ix_list (pe_lstG (pa_cons (pe_ix ix_list (pv 4) pe_int (fun _ _ => rfl)) (pa_cons (pe_ix ix_list (pv 4) pe_int (fun _ _ => rfl)) (pa_cons (pe_ix ix_list (pv 4) pe_int (fun _ _ => rfl)) (pa_cons (pe_ix ix_list (pv 4) pe_int (fun _ _ => rfl)) pa_nil))))) (pe_ix ix_list (pv 4) pe_int (fun _ _ => rfl)) (fun _ _ => rfl))))
      (pss_cons (ps_set (i := 6) sc_law.nd rfl (Or.inl rfl) (pe_cal C__law_signs (by first | exact hr | exact hr.mono (by decide)) (by rfl) (pa_cons (pe_slice sl_listG (pv 4) (po_some pe_int) (po_some (pe_op op_add pe_int (pv 5)))) pa_nil)))
      (pss_cons (ps_set (i := 7) sc_law.nd rfl (Or.inl rfl) (pe_cal C__law_rows (by first | exact hr | exact hr.mono (by decide)) (by rfl) (pa_cons (pv 6) (pa_cons (pe_slice sl_listG (pv 4) (po_some pe_int) (po_some pe_int)) pa_nil))))
      (pss_cons (ps_set (i := 8) sc_law.nd rfl (Or.inl rfl) (pe_op op_catG (pe_callTy (T := "list") (call_listSG rfl) (by rfl) T.n_list (by decide +kernel) (pa_cons (pv 6) pa_nil)) (pe_lc (own := [("_law_left", 11), ("_law_right_here", 12)]) (g := gTup K 2 (gCons (gName 11) (gCons (gName 12) gNil))) (by rfl) sc_law.nd (pi_list (pv 7)) (blkOk_by (own := [("_law_left", 11), ("_law_right_here", 12)]) (N := N_law) (sc := defScope s_law) (by decide +kernel)) (fun _ _ _ _ _ => (pg_tup rfl (pgs_cons (pg_name (i := 11) sc_law.nd rfl (Or.inl rfl)) (pgs_cons (pg_name (i := 12) sc_law.nd rfl (Or.inl rfl)) pgs_nil)))) (fun _ _ _ _ _ => pts_nil) (fun _ _ _ _ _ => (pe_op op_add_str (pv 11) (pv 12))))))
      (pss_cons (ps_set (i := 9) sc_law.nd rfl (Or.inl rfl) (pv 7))
      (pss_cons (ps_set (i := 10) sc_law.nd rfl (Or.inl rfl) (pv 6))
      (C8.pss_cut (ps_if (pt_cmpR op_gt (pe_ix ix_list (pv 4) pe_int (fun _ _ => rfl)) pe_int (nomark _)) (pss_one (ps_set (i := 9) sc_law.nd rfl (Or.inl rfl) (pe_cal C__law_spoilt_rows (by first | exact hr | exact hr.mono (by decide)) (by rfl) (pa_cons (pv 7) (pa_cons (pv 8) (pa_cons (pe_slice sl_listG (pv 4) (po_some pe_int) (po_some pe_int)) pa_nil)))))) pss_nil)
      (C8.pss_cut (ps_if (pt_cmpR op_eq (pe_ix ix_list (pv 4) pe_int (fun _ _ => rfl)) pe_int (nomark _)) (pss_one (ps_set (i := 10) sc_law.nd rfl (Or.inl rfl) (pe_cal C__law_spoilt_signs (by first | exact hr | exact hr.mono (by decide)) (by rfl) (pa_cons (pv 6) (pa_cons (pe_slice sl_listG (pv 4) (po_some pe_int) (po_some pe_int)) pa_nil))))) pss_nil)
      (pss_cons (ps_if (PW.pt (pw_or (pt_not (pt_val (pe_cal C__law_right (by first | exact hr | exact hr.mono (by decide)) (by rfl) (pa_cons (pv 10) (pa_cons (pv 9) pa_nil))))) (pw_or1 (pt_not (pt_val (pe_cal C__law_right (by first | exact hr | exact hr.mono (by decide)) (by rfl) (pa_cons (pv 6) (pa_cons (pv 9) pa_nil)))))))) (pss_one (ps_ret pe_bl)) pss_nil)
      (pss_one (ps_if (PW.pt (pw_or (pt_not (pt_val (pe_cal C__law_right (by first | exact hr | exact hr.mono (by decide)) (by rfl) (pa_cons (pv 10) (pa_cons (pv 9) pa_nil))))) (pw_or1 (pt_not (pt_val (pe_cal C__law_right (by first | exact hr | exact hr.mono (by decide)) (by rfl) (pa_cons (pv 6) (pa_cons (pv 7) pa_nil)))))))) (pss_one (ps_ret pe_bl)) pss_nil))))))))))))))
      (pss_one (ps_ret pe_bl)))), ?_⟩
    refine fun q0 H0 nq0 s0 hq0 => ⟨_, rfl, _, rfl, a, _, rfl, s0.seq hS, fun q1 H1 nq1 s1 hq1 => ?_⟩
    rw [show (some (39 : Int)) = some ((39 : Nat) : Int) from rfl, cutV_to, ← List.map_take] at hq1
    refine ⟨q0, q1, _, _, rfl, rfl, SqL.of (s1 _ _ hq0), SqL.of hq1, (by rw [List.length_map, List.length_map, List.length_take]; exact sz (by show 1 + _ ≤ _; omega)), fun pe H2 npe s2 hE => ?_⟩
    rw [← List.map_append] at hE
    obtain ⟨cs, ecs⟩ : ∃ cs, cs = [0] ++ ns.take 39 := ⟨_, rfl⟩
    rw [← ecs] at hE
    have cl : cs.length ≤ 40 := by rw [ecs, List.length_append, List.length_take]; show 1 + _ ≤ _; omega
    have s02 := (s0.trans s1).trans s2
    refine ⟨pe, _, rfl, SqL.of hE, for_enum (K := K) (a := pe) (xs := cs.map V.int) (fun i σ H' => ∃ (u1 u2 u3 u4 u5 u6 u7 u8 u9 u10 u11 u12 : Option V), σ = [some (.ref a), u1, u2, u3, u4, u5, u6, u7, u8, u9, u10, u11, u12] ∧ Same H2 H')
      ⟨_, _, _, _, _, _, _, _, _, _, _, _, rfl, Same.refl _⟩ (fun i σ H' _ ⟨_, _, _, _, _, _, _, _, _, _, _, _, _, s⟩ => SqL.of (s _ _ hE)) ?_ (fun σ H' _ => k H')⟩
    rintro i y e σ H' hi he ⟨u1, u2, u3, u4, u5, u6, u7, u8, u9, u10, u11, u12, rfl, sm⟩
    rw [List.getElem?_map] at hi
    cases ed : cs[i]? with
    | none => rw [ed] at hi; cases hi
    | some d =>
      rw [ed] at hi
      cases hi
      have hi40 : i < 40 := by
        have := (List.getElem?_eq_some_iff.mp ed).1
        omega
      have sm1 := Same.put (o := .tup [.int (i : Nat), .int d]) sm he
      refine ⟨e, _, rfl, SqT.of upd_same, rfl, _, _, rfl, _, _, rfl, rfl, ?_⟩
      revert sm1
      generalize (upd H' e (.tup [.int (i : Nat), .int d])) = H9
      intro sm1
      have hS9 := (s02.trans sm1).seq hS
      refine fun g0 Ha na sa ha => ?_
      have ha' : Ha g0 = some (.lst (szs04.map V.int)) := by rw [ha]; rfl
      refine ⟨_, rfl, _, rfl, _, _, rfl, rfl, _, rfl, d, _, g0, szs04, rfl, ?_, ?_, SqL.of ha', by decide, sizes_ok (by decide), fun H14 pd ds s14 npd hD hds => ?_⟩
      · show (0 : Int) ≤ 400 + ((i : Nat) : Int)
        omega
      · show 400 + ((i : Nat) : Int) ≤ 100000
        omega
      have dl : ds.length = 75 := (Paired.len hds).symm
      obtain ⟨d0, g00, b0, B0⟩ := dig hds (j := 0) (z := 4) rfl
      obtain ⟨d1, g1, b1, B1⟩ := dig hds (j := 1) (z := 12) rfl
      obtain ⟨d2, g2, b2, B2⟩ := dig hds (j := 2) (z := 4) rfl
      obtain ⟨d3, g3, b3, B3⟩ := dig hds (j := 3) (z := 4) rfl
      have hDs := SqL.of (K := K) hD
      refine ⟨_, rfl, pd, _, _, _, rfl, rfl, hDs, B2, _, rfl, pd, _, _, _, rfl, rfl, hDs, B2, _, rfl, pd, _, _, _, rfl, rfl, hDs, B3, _, rfl, pd, _, _, _, rfl, rfl, hDs, B1, (by show 4 ≤ sizeLine; decide), fun q3 H15 n15 s15 hq3 => ?_⟩
      have hD15 := s15 _ _ hD
      obtain ⟨mv, AM, hmv⟩ : ∃ mv : Nat, atI [V.int (d2 : Nat), V.int (d2 : Nat), V.int (d3 : Nat), V.int (d1 : Nat)] (d0 : Int) = some (V.int (mv : Nat)) ∧ mv ≤ 11 := by
        rcases (show d0 = 0 ∨ d0 = 1 ∨ d0 = 2 ∨ d0 = 3 by omega) with rfl | rfl | rfl | rfl
        · exact ⟨d2, ats (i := 0) rfl, by omega⟩
        · exact ⟨d2, ats (i := 1) rfl, by omega⟩
        · exact ⟨d3, ats (i := 2) rfl, by omega⟩
        · exact ⟨d1, ats (i := 3) rfl, by omega⟩
      refine ⟨_, rfl, pd, _, _, _, rfl, rfl, SqL.of hD15, B0, q3, _, _, _, rfl, rfl, SqL.of hq3, AM, _, _, rfl, rfl, ?_⟩
      refine ⟨_, rfl, _, rfl, _, rfl, _, _, rfl, rfl, _, rfl, pd, _, rfl, SqL.of hD15, fun q4 H16 n16 s16 hq4 => ?_⟩
      have hq4' : H16 q4 = some (.lst (((ds.drop 13).take (1 + mv)).map V.int)) := by
        rw [hq4, show (13 : Int) + (1 + (mv : Int)) = ((13 + (1 + mv) : Nat) : Int) by omega]
        refine congrArg (fun l => some (HO.lst l)) ((cut_mid ds 13 (13 + (1 + mv))).trans ?_)
        rw [show 13 + (1 + mv) - 13 = 1 + mv by omega]
      refine ⟨q4, (ds.drop 13).take (1 + mv), rfl, SqL.of hq4', by rw [List.length_take]; omega, fun dd hd' => ?_, fun H17 z s17 sok zl0 => ?_⟩
      · have hP := Paired.tk (1 + mv) (Paired.dr 13 hds)
        have e94 : (szs04.drop 13).take (1 + mv) = List.replicate (1 + mv) 94 := by
          rcases (show mv = 0 ∨ mv = 1 ∨ mv = 2 ∨ mv = 3 ∨ mv = 4 ∨ mv = 5 ∨ mv = 6 ∨ mv = 7 ∨ mv = 8 ∨ mv = 9 ∨ mv = 10 ∨ mv = 11 by omega) with rfl | rfl | rfl | rfl | rfl | rfl | rfl | rfl | rfl | rfl | rfl | rfl <;> rfl
        rw [e94] at hP
        obtain ⟨x, hx, b⟩ := Paired.mem2 hP hd'
        rw [(List.mem_replicate.mp hx).2] at b
        exact b
      rw [List.length_take, List.length_drop, dl] at zl0
      have zl : z.length = 1 + mv := by omega
      have s1417 := (s15.trans s16).trans s17
      have hD17 := s1417 _ _ hD
      refine ⟨_, rfl, _, rfl, _, rfl, _, rfl, pd, _, rfl, SqL.of hD17, fun q5 H18 n18 s18 hq5 => ?_⟩
      have hq5' : H18 q5 = some (.lst (((ds.drop 25).take 48).map V.int)) := by
        rw [hq5, show (some (25 : Int)) = some ((25 : Nat) : Int) from rfl, show (some (73 : Int)) = some ((73 : Nat) : Int) from rfl, cut_mid]
      refine ⟨z, q5, _, rfl, SqL.of hq5', by rw [List.length_take]; omega, sok, by omega, by omega, fun H19 p rs s19 np0 hR tk => ?_⟩
      have n1 := tk.n1
      have n12 := tk.n12
      have many := tk.many
      have pl := pcs_len z rs
      obtain ⟨as, hpa, hrs⟩ := id hR
      refine ⟨_, rfl, z, rfl, sz (by omega), fun l H11 nl s11 hl => ?_⟩
      have hrs11 := TupAt.same s11 hrs
      have hS2 : SqL K H11 p ((as.zip rs).map fun x => V.ref x.1) := by
        rw [zip_fst V.ref hrs]
        exact SqL.of (s11 _ _ hpa)
      refine ⟨_, rfl, p, rfl, ⟨_, hS2⟩, fun D hD => lc_listM (K := K) (item := fun x : Addr × (Str × Str) => V.ref x.1) (p := fun _ => true) (f := fun x => V.str (jn x.2)) (l := as.zip rs) hS2 hD ?_ (fun x hx H2 s2 N M hM _ => ?_) (fun H12 s12 hL => ?_)⟩
      · rw [List.length_zip]
        omega
      · obtain ⟨hx1, hx2⟩ := zip_mem hrs11 x hx
        obtain ⟨i, hi, ei⟩ := List.mem_iff_getElem.mp hx2
        have ro := tk.rows i x.2 (by rw [List.getElem?_eq_getElem hi, ei])
        have ll := ro.len
        have le : (jn x.2).length = x.2.1.length + x.2.2.length := app_len _ _
        exact ⟨x.1, _, rfl, SqT.of (s2 _ _ hx1), rfl, _, _, rfl, _, _, rfl, rfl, rfl, _, rfl, _, rfl, _, _, rfl, rfl, sz (by omega), hM rfl⟩
      have ef : (as.zip rs).filter (fun _ => true) = as.zip rs := List.filter_eq_self.mpr fun _ _ => rfl
      rw [ef, zip_snd (fun r => V.str (jn r)) hrs] at hL
      have ecat : (sgs z).map V.str ++ rs.map (fun r => V.str (jn r)) = (pcs z rs).map V.str := by
        unfold pcs
        rw [List.map_append, List.map_map]; rfl
      refine ⟨l, D, _, _, rfl, rfl, SqL.of (s12 _ _ hl), SqL.of hL, (by rw [List.length_map, List.length_map, sgs_len]; exact sz (by omega)), fun lp H13 nlp s13 hP => ?_⟩
      rw [ecat] at hP
      have s1913 := (s11.trans s12).trans s13
      have hR13 := hR.same s1913
      have s1713 := (s18.trans s19).trans s1913
      have hD13 := s1713 _ _ hD17
      refine ⟨_, rfl, _, rfl, ?_⟩
      -- the digits handed on
      have ds5 : ∃ x8 x9 x10 x11 x12 : Nat, ((ds.drop 8).take 5).map V.int = [V.int (x8 : Nat), V.int (x9 : Nat), V.int (x10 : Nat), V.int (x11 : Nat), V.int (x12 : Nat)] := by
        obtain ⟨x8, f8, _, _⟩ := dig hds (j := 8) (z := 120) rfl
        obtain ⟨x9, f9, _, _⟩ := dig hds (j := 9) (z := 120) rfl
        obtain ⟨x10, f10, _, _⟩ := dig hds (j := 10) (z := 120) rfl
        obtain ⟨x11, f11, _, _⟩ := dig hds (j := 11) (z := 120) rfl
        obtain ⟨x12, f12, _, _⟩ := dig hds (j := 12) (z := 9) rfl
        have e : (ds.drop 8).take 5 = [(x8 : Int), x9, x10, x11, x12] := List.ext_getElem? fun j => by
          match j with
          | 0 => rw [List.getElem?_take, if_pos (by decide), List.getElem?_drop]; exact f8
          | 1 => rw [List.getElem?_take, if_pos (by decide), List.getElem?_drop]; exact f9
          | 2 => rw [List.getElem?_take, if_pos (by decide), List.getElem?_drop]; exact f10
          | 3 => rw [List.getElem?_take, if_pos (by decide), List.getElem?_drop]; exact f11
          | 4 => rw [List.getElem?_take, if_pos (by decide), List.getElem?_drop]; exact f12
          | j + 5 => rw [List.getElem?_take, if_neg (by omega)]; rfl
        exact ⟨x8, x9, x10, x11, x12, by rw [e]; rfl⟩
      have ds4 : ∃ x4 x5 x6 x7 : Nat, ((ds.drop 4).take 4).map V.int = [V.int (x4 : Nat), V.int (x5 : Nat), V.int (x6 : Nat), V.int (x7 : Nat)] := by
        obtain ⟨x4, f4, _, _⟩ := dig hds (j := 4) (z := 120) rfl
        obtain ⟨x5, f5, _, _⟩ := dig hds (j := 5) (z := 120) rfl
        obtain ⟨x6, f6, _, _⟩ := dig hds (j := 6) (z := 120) rfl
        obtain ⟨x7, f7, _, _⟩ := dig hds (j := 7) (z := 120) rfl
        have e : (ds.drop 4).take 4 = [(x4 : Int), x5, x6, x7] := List.ext_getElem? fun j => by
          match j with
          | 0 => rw [List.getElem?_take, if_pos (by decide), List.getElem?_drop]; exact f4
          | 1 => rw [List.getElem?_take, if_pos (by decide), List.getElem?_drop]; exact f5
          | 2 => rw [List.getElem?_take, if_pos (by decide), List.getElem?_drop]; exact f6
          | 3 => rw [List.getElem?_take, if_pos (by decide), List.getElem?_drop]; exact f7
          | j + 4 => rw [List.getElem?_take, if_neg (by omega)]; rfl
        exact ⟨x4, x5, x6, x7, by rw [e]; rfl⟩
      obtain ⟨x8, x9, x10, x11, x12, e5⟩ := ds5
      obtain ⟨x4, x5, x6, x7, e4⟩ := ds4
      obtain ⟨w0, gw0, bw0, C0⟩ := dig hds (j := 73) (z := 4) rfl
      obtain ⟨w1, gw1, bw1, C1⟩ := dig hds (j := 74) (z := 4) rfl
      have rv0 : RowsV K H13 (.ref p) := by
        obtain ⟨as', hp', ht'⟩ := id hR13
        have al' := Paired.len ht'
        exact .inr ⟨p, _, rfl, hp', by rw [List.length_map]; omega, rows_th tk ht'⟩
      have sv0 : SigV K H13 (.str z) := .inr ⟨z, rfl, by omega, insig_of sok⟩
      refine ⟨fun σ H' => ∃ rv : V, σ = [some (.ref a), some (.int (i : Nat)), some (.int d), some (.ref g0), some (.ref pd), some (.int (1 + (mv : Int))), some (.str z), some (.ref p), some (.ref lp), some rv, some (.str z), u11, u12] ∧ Same H13 H' ∧ RowsV K H' rv, ?_, ?_⟩
      · refine ⟨_, rfl, pd, _, _, _, rfl, rfl, SqL.of hD13, C0, _, _, rfl, rfl, _, rfl, ite2 (fun _ => ?_) (fun _ => ⟨_, rfl, Same.refl _, rv0⟩)⟩
        refine ⟨_, rfl, _, rfl, _, rfl, _, rfl, _, rfl, pd, _, rfl, SqL.of hD13, fun q6 H20 n20 s20 hq6 => ?_⟩
        have hq6' : H20 q6 = some (.lst [V.int (x8 : Nat), V.int (x9 : Nat), V.int (x10 : Nat), V.int (x11 : Nat), V.int (x12 : Nat)]) := by
          rw [hq6, show (some (8 : Int)) = some ((8 : Nat) : Int) from rfl, show (some (13 : Int)) = some ((13 : Nat) : Int) from rfl, cut_mid]
          exact congrArg (fun l => some (HO.lst l)) e5
        exact ⟨z, rs, p, lp, q6, x8, x9, x10, x11, x12, rfl, tk, hR13.same s20, s20 _ _ hP, hq6', fun H21 v s21 hv => ⟨v, rfl, s20.trans s21, hv⟩⟩
      rintro σ H20 ⟨rv, rfl, s20, hrv⟩
      refine ⟨fun σ H' => ∃ sv : V, σ = [some (.ref a), some (.int (i : Nat)), some (.int d), some (.ref g0), some (.ref pd), some (.int (1 + (mv : Int))), some (.str z), some (.ref p), some (.ref lp), some rv, some sv, u11, u12] ∧ Same H20 H' ∧ SigV K H' sv, ?_, ?_⟩
      · refine ⟨_, rfl, pd, _, _, _, rfl, rfl, SqL.of (s20 _ _ hD13), C1, rfl, _, rfl, ite2 (fun _ => ?_) (fun _ => ⟨_, rfl, Same.refl _, sv0.same s20⟩)⟩
        refine ⟨_, rfl, _, rfl, _, rfl, _, rfl, pd, _, rfl, SqL.of (s20 _ _ hD13), fun q6 H21 n21 s21 hq6 => ?_⟩
        have hq6' : H21 q6 = some (.lst [V.int (x4 : Nat), V.int (x5 : Nat), V.int (x6 : Nat), V.int (x7 : Nat)]) := by
          rw [hq6, show (some (4 : Int)) = some ((4 : Nat) : Int) from rfl, show (some (8 : Int)) = some ((8 : Nat) : Int) from rfl, cut_mid]
          exact congrArg (fun l => some (HO.lst l)) e4
        exact ⟨z, q6, x4, x5, x6, x7, rfl, sok, by omega, by omega, hq6', fun H22 v s22 hv => ⟨v, rfl, s21.trans s22, hv⟩⟩
      rintro σ H21 ⟨sv, rfl, s21, hsv⟩
      have hrv1 := rowsV_same hrv s21
      have sv1 := (sv0.same s20).same s21
      have rv1 := rowsV_same (rowsV_same rv0 s20) s21
      refine ⟨_, rfl, _, rfl, sv, rv, rfl, hsv, hrv1, fun H22 s22 => ⟨_, rfl, iteF ⟨_, rfl, _, rfl, _, _, rfl, sv1.same s22, rowsV_same hrv1 s22, fun H23 s23 => ⟨_, rfl, iteF ?_⟩⟩⟩⟩
      have s2123 := s22.trans s23
      refine ⟨_, rfl, _, rfl, sv, rv, rfl, hsv.same s2123, rowsV_same hrv1 s2123, fun H24 s24 => ⟨_, rfl, iteF ⟨_, rfl, _, rfl, _, _, rfl, (sv1.same s2123).same s24, rowsV_same (rowsV_same rv1 s2123) s24, fun H25 s25 => ⟨_, rfl, iteF ?_⟩⟩⟩⟩
      have sAll := sm1.trans (((sa.trans s14).trans s1417).trans s1713)
      exact ⟨_, _, _, _, _, _, _, _, _, _, _, _, rfl, sAll.trans ((s20.trans s21).trans (s2123.trans (s24.trans s25)))⟩
end
end Jr
namespace Jr
open PySem PySem.Spec PyProof.Rows L2
theorem tx_of {K : PySem.W.Frag} {h : Heap} {mg : Str → Option Value} {w : World} (X : K.In h) (G : h.Ns mainGlobals mg) (c : SaysC fa fn (fun K => (exs K).all id) w K) : Tx K mg := {
    n_len := He.free_ok X G (c.t.d.fact 0 (f := .free "len") rfl)
    n_range := He.free_ok X G (c.t.d.fact 1 (f := .free "range") rfl)
    n_max := He.free_ok X G (c.t.d.fact 2 (f := .free "max") rfl)
    n_isinstance := He.free_ok X G (c.t.d.fact 3 (f := .free "isinstance") rfl)
    n_str := He.free_ok X G (c.t.d.fact 4 (f := .free "str") rfl)
    n_bool := He.free_ok X G (c.t.d.fact 5 (f := .free "bool") rfl)
    n_list := He.free_ok X G (c.t.d.fact 6 (f := .free "list") rfl)
    n_tuple := He.free_ok X G (c.t.d.fact 7 (f := .free "tuple") rfl)
    n_ord := He.free_ok X G (c.t.d.fact 8 (f := .free "ord") rfl)
    n_enumerate := He.free_ok X G (c.t.d.fact 9 (f := .free "enumerate") rfl)
    n_ValueError := He.free_ok X G (c.t.d.fact 10 (f := .free "ValueError") rfl)
    c_MOST_SIGNS := He.int_ok X G (c.t.d.fact 11 (f := .int "MOST_SIGNS" 12) rfl)
    c_MOST_ROWS := He.int_ok X G (c.t.d.fact 12 (f := .int "MOST_ROWS" 24) rfl)
    c_MOST_JOINED := He.int_ok X G (c.t.d.fact 13 (f := .int "MOST_JOINED" 16) rfl)
    c_BLANK_CODE := He.int_ok X G (c.t.d.fact 14 (f := .int "BLANK_CODE" 32) rfl)
    c_PERCENT_CODE := He.int_ok X G (c.t.d.fact 15 (f := .int "PERCENT_CODE" 37) rfl)
    c_TILDE_CODE := He.int_ok X G (c.t.d.fact 16 (f := .int "TILDE_CODE" 126) rfl)
    g_JoinError := He.glo_ok X G (c.t.d.fact 17 (f := .glo "JoinError") rfl)
    rd_JoinError := (exAt (i := 0) c.more rfl)
    ga_JoinError := of_decide_eq_true (exAt (i := 1) c.more rfl)
    fc_JoinError := fcB_ok (exAt (i := 2) c.more rfl)
    g_NoTable := He.glo_ok X G (c.t.d.fact 18 (f := .glo "NoTable") rfl)
    xc_NoTable := xcB_ok (exAt (i := 3) c.more rfl)
    in_NoTable := of_decide_eq_true (exAt (i := 4) c.more rfl)
    it_NoTable := of_decide_eq_true (exAt (i := 5) c.more rfl)
    no_NoTable_part := of_decide_eq_true (exAt (i := 6) c.more rfl)
    no_NoTable_number := of_decide_eq_true (exAt (i := 7) c.more rfl)
    exm_NoTable_NoTable := of_decide_eq_true (exAt (i := 8) c.more rfl)
    g_Table := He.glo_ok X G (c.t.d.fact 19 (f := .glo "Table") rfl)
    cl_Table := He.cls_ok (c.t.d.fact 20 (f := .cls "Table") rfl)
    no_Table_sign_text := He.noat_ok (c.t.d.fact 21 (f := .noat "Table" "sign_text") rfl)
    no_Table_row_list := He.noat_ok (c.t.d.fact 22 (f := .noat "Table" "row_list") rfl)
    no_Table_piece_list := He.noat_ok (c.t.d.fact 23 (f := .noat "Table" "piece_list") rfl)
    no_Table_number_by_piece := He.noat_ok (c.t.d.fact 24 (f := .noat "Table" "number_by_piece") rfl)
    no_Table_rank_by_row := He.noat_ok (c.t.d.fact 25 (f := .noat "Table" "rank_by_row") rfl)
    no_Table_most_signs := He.noat_ok (c.t.d.fact 26 (f := .noat "Table" "most_signs") rfl)
    mk_Table := He.mkr_ok (c.t.d.fact 27 (f := .mkr "Table") rfl)
    m_Table_take_piece := He.meth_ok (c.t.d.fact 28 (f := .meth "Table" "take_piece") rfl)
    m_Table_may_take_row := He.meth_ok (c.t.d.fact 29 (f := .meth "Table" "may_take_row") rfl)
    m_Table_take_row := He.meth_ok (c.t.d.fact 30 (f := .meth "Table" "take_row") rfl)
    m_Table_signs := He.meth_ok (c.t.d.fact 31 (f := .meth "Table" "signs") rfl)
    m_Table_rows := He.meth_ok (c.t.d.fact 32 (f := .meth "Table" "rows") rfl)
    m_Table_which := He.meth_ok (c.t.d.fact 33 (f := .meth "Table" "which") rfl)
    d_JoinError___init__ := c.t.d.def_ 0 (d := ⟨("JoinError", some "__init__"), "__init__", "JoinError.__init__", defArgs s_JoinError___init__, defBody s_JoinError___init__, defScope s_JoinError___init__, [], []⟩) rfl
    d_NoTable___init__ := c.t.d.def_ 1 (d := ⟨("NoTable", some "__init__"), "__init__", "NoTable.__init__", defArgs s_NoTable___init__, defBody s_NoTable___init__, defScope s_NoTable___init__, [], []⟩) rfl
    g_may_be_sign := He.glo_ok X G (c.t.d.fact 34 (f := .glo "may_be_sign") rfl)
    d_may_be_sign := c.t.d.def_ 2 (d := ⟨("may_be_sign", none), "may_be_sign", "may_be_sign", defArgs s_may_be_sign, defBody s_may_be_sign, defScope s_may_be_sign, [], []⟩) rfl
    g_check_signs := He.glo_ok X G (c.t.d.fact 35 (f := .glo "check_signs") rfl)
    d_check_signs := c.t.d.def_ 3 (d := ⟨("check_signs", none), "check_signs", "check_signs", defArgs s_check_signs, defBody s_check_signs, defScope s_check_signs, [], []⟩) rfl
    d_Table___init__ := c.t.d.def_ 4 (d := ⟨("Table", some "__init__"), "__init__", "Table.__init__", defArgs s_Table___init__, defBody s_Table___init__, defScope s_Table___init__, [], []⟩) rfl
    d_Table_take_piece := c.t.d.def_ 5 (d := ⟨("Table", some "take_piece"), "take_piece", "Table.take_piece", defArgs s_Table_take_piece, defBody s_Table_take_piece, defScope s_Table_take_piece, [], []⟩) rfl
    d_Table_may_take_row := c.t.d.def_ 6 (d := ⟨("Table", some "may_take_row"), "may_take_row", "Table.may_take_row", defArgs s_Table_may_take_row, defBody s_Table_may_take_row, defScope s_Table_may_take_row, [], []⟩) rfl
    d_Table_take_row := c.t.d.def_ 7 (d := ⟨("Table", some "take_row"), "take_row", "Table.take_row", defArgs s_Table_take_row, defBody s_Table_take_row, defScope s_Table_take_row, [], []⟩) rfl
    d_Table_signs := c.t.d.def_ 8 (d := ⟨("Table", some "signs"), "signs", "Table.signs", defArgs s_Table_signs, defBody s_Table_signs, defScope s_Table_signs, [], []⟩) rfl
    d_Table_rows := c.t.d.def_ 9 (d := ⟨("Table", some "rows"), "rows", "Table.rows", defArgs s_Table_rows, defBody s_Table_rows, defScope s_Table_rows, [], []⟩) rfl
    d_Table_which := c.t.d.def_ 10 (d := ⟨("Table", some "which"), "which", "Table.which", defArgs s_Table_which, defBody s_Table_which, defScope s_Table_which, [], []⟩) rfl
    g__law_numbers := He.glo_ok X G (c.t.d.fact 36 (f := .glo "_law_numbers") rfl)
    d__law_numbers := c.t.d.def_ 11 (d := ⟨("_law_numbers", none), "_law_numbers", "_law_numbers", defArgs s__law_numbers, defBody s__law_numbers, defScope s__law_numbers, [], []⟩) rfl
    g__law_signs := He.glo_ok X G (c.t.d.fact 37 (f := .glo "_law_signs") rfl)
    d__law_signs := c.t.d.def_ 12 (d := ⟨("_law_signs", none), "_law_signs", "_law_signs", defArgs s__law_signs, defBody s__law_signs, defScope s__law_signs, [], []⟩) rfl
    g__law_rows := He.glo_ok X G (c.t.d.fact 38 (f := .glo "_law_rows") rfl)
    d__law_rows := c.t.d.def_ 13 (d := ⟨("_law_rows", none), "_law_rows", "_law_rows", defArgs s__law_rows, defBody s__law_rows, defScope s__law_rows, [], []⟩) rfl
    g__law_wrong_signs := He.glo_ok X G (c.t.d.fact 39 (f := .glo "_law_wrong_signs") rfl)
    d__law_wrong_signs := c.t.d.def_ 14 (d := ⟨("_law_wrong_signs", none), "_law_wrong_signs", "_law_wrong_signs", defArgs s__law_wrong_signs, defBody s__law_wrong_signs, defScope s__law_wrong_signs, [], []⟩) rfl
    g__law_wrong := He.glo_ok X G (c.t.d.fact 40 (f := .glo "_law_wrong") rfl)
    d__law_wrong := c.t.d.def_ 15 (d := ⟨("_law_wrong", none), "_law_wrong", "_law_wrong", defArgs s__law_wrong, defBody s__law_wrong, defScope s__law_wrong, [], []⟩) rfl
    g__law_spoilt_signs := He.glo_ok X G (c.t.d.fact 41 (f := .glo "_law_spoilt_signs") rfl)
    d__law_spoilt_signs := c.t.d.def_ 16 (d := ⟨("_law_spoilt_signs", none), "_law_spoilt_signs", "_law_spoilt_signs", defArgs s__law_spoilt_signs, defBody s__law_spoilt_signs, defScope s__law_spoilt_signs, [], []⟩) rfl
    g__law_spoilt_row := He.glo_ok X G (c.t.d.fact 42 (f := .glo "_law_spoilt_row") rfl)
    d__law_spoilt_row := c.t.d.def_ 17 (d := ⟨("_law_spoilt_row", none), "_law_spoilt_row", "_law_spoilt_row", defArgs s__law_spoilt_row, defBody s__law_spoilt_row, defScope s__law_spoilt_row, [], []⟩) rfl
    g__law_spoilt_rows := He.glo_ok X G (c.t.d.fact 43 (f := .glo "_law_spoilt_rows") rfl)
    d__law_spoilt_rows := c.t.d.def_ 18 (d := ⟨("_law_spoilt_rows", none), "_law_spoilt_rows", "_law_spoilt_rows", defArgs s__law_spoilt_rows, defBody s__law_spoilt_rows, defScope s__law_spoilt_rows, [], []⟩) rfl
    g__law_made := He.glo_ok X G (c.t.d.fact 44 (f := .glo "_law_made") rfl)
    d__law_made := c.t.d.def_ 19 (d := ⟨("_law_made", none), "_law_made", "_law_made", defArgs s__law_made, defBody s__law_made, defScope s__law_made, [], []⟩) rfl
    g__law_right := He.glo_ok X G (c.t.d.fact 45 (f := .glo "_law_right") rfl)
    d__law_right := c.t.d.def_ 20 (d := ⟨("_law_right", none), "_law_right", "_law_right", defArgs s__law_right, defBody s__law_right, defScope s__law_right, [], []⟩) rfl
    g_law := He.glo_ok X G (c.t.d.fact 46 (f := .glo "law") rfl)
    d_law := c.t.d.def_ 21 (d := ⟨("law", none), "law", "law", defArgs s_law, defBody s_law, defScope s_law, [], []⟩) rfl }
theorem law_fact {P : Program} {w : World} {K : PySem.W.Frag} {h : Heap} {mg : Str → Option Value} {f : Addr} (X : K.In h) (G : h.Ns mainGlobals mg) (hfa : mg ("law" : Str) = some (.ref f)) (c : SaysC fa fn (fun K => (exs K).all id) w K) :
    ∃ fd : FuncData, (∀ (s : Shared) (v : Value), BindsTo s fd ⟨[v], []⟩ [("_law_script", v)]) ∧ ∀ base : Heap, K.In base → base.Ns mainGlobals mg → FnOk P w K mg base CX0 9 f fd ["_law_script"] (spLaw K) := by
  have T := tx_of X G c
  have e := hfa.symm.trans (He.glo_ok X G (c.t.d.fact 46 (f := .glo "law") rfl))
  cases e
  obtain ⟨fd, F, ok⟩ := fn_law (P := P) (w := w) T
  have b := FunD.bindsA (ps := ["_law_script"]) F fun _ _ _ _ _ _ us hl => match us, hl with | [_], _ => rfl
  exact ⟨fd, fun s v => b s [v] rfl, fun base _ _ => ok base⟩
end Jr
open PySem PySem.W PySem.Calls PyProof.Rows
set_option maxRecDepth 100000 in
set_option maxHeartbeats 0 in
theorem PySem.Challenge.cw_joinranks_k04_tables_refused_holds : PySem.Challenge.rw_joinranks_k04_tables_refused.Holds := by
  w_on; o_law
  refine HandSHeadRun.head_any (r := OpenLaw.row PySem.Challenge.rw_joinranks_k04_tables_refused) (q := view (OpenLaw.row PySem.Challenge.rw_joinranks_k04_tables_refused).prog [29]) (H := Jr.hk) (ob := Jr.ob) (M := 4000) (loose := Jr.loose) (d := HandSHeadRun.topDef (OpenLaw.row PySem.Challenge.rw_joinranks_k04_tables_refused).prog 29) (kwd := []) Jr.ob_eq
    (by kernel_rfl) (fun s => by kernel_rfl) Jr.run (by kernel_rfl) (by kernel_rfl) (by kernel_rfl) (by rfl) (by first | assumption | decide +kernel) (by decide +kernel) ⟨rfl, rfl, rfl, rfl, rfl, by decide +kernel⟩ ?hw ?hc
  case hw => w_witness2
  case hc =>
    refine L2.walk_ofE (l := PySem.Challenge.rw_joinranks_k04_tables_refused) (n := 63) (k := 9) (x := "_law_script") (CX := L2.CX0) rfl (by decide) (by kernel_rfl) ⟨rfl, by decide, by decide⟩ ?F (fun _ _ _ _ z => z)
    intro w mg fa h Y G hmg0
    obtain ⟨K, KX, c⟩ := Y
    have hmg : mg ("law" : PySem.Str) = some (.ref fa) := by
      have e : (HandSHeadRun.topDef (OpenLaw.row PySem.Challenge.rw_joinranks_k04_tables_refused).prog 29).name = ("law" : PySem.Str) := by kernel_rfl
      rw [← e]
      exact hmg0
    obtain ⟨fd, hb, hF⟩ := Jr.law_fact (P := (PySem.Challenge.rw_joinranks_k04_tables_refused).prog) (w := w) KX G hmg c
    exact ⟨K, fd, Jr.spLaw K, KX, hb, fun H a ns hl _ hS => ⟨a, ns, rfl, hS, hl, fun _ => rfl⟩, hF⟩
#print axioms PySem.Challenge.cw_joinranks_k04_tables_refused_holds

