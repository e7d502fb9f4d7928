import PyProof.Rows.All
import Wide.All
import OpenK.AllK
import Wide.FinOn
import HandS.ForMost
import HandS.Exc
import HandS.ExcInit
import HandS.ExcIs
import HandS.ExcField
import PyProof.ReprReads
import HandS.NoneIn
import HandS.MakeKwOnly
import HandS.Flow
import PySem.Challenge.RW_foldsame_k89_errors_of_later_stages
set_option Elab.async false
set_option linter.all false
set_option maxRecDepth 100000
set_option maxHeartbeats 4000000
/-! Own rules: exceptions of own classes as values (made, read, asked by isinstance), repr of lists of plain values. -/
namespace PySem.W
open PySem PySem.Spec PySem.Calls PyProof.Rows
section
variable {prog : Program} {w : World} {A : Around} {E : Value → Shared → Prop} {s : Shared} {K : Frag} {x D : Addr} {ox : Obj} {od : Option Obj}
theorem fs_findClass (hdct : hasDictIn K D = true) (ha : findIn K (.ref D) "__class__" = some (some (.builtin "object.__class__"))) (hn : specialIn K (.builtin "object.__class__") "__get__" = some (some (.builtin "getset_descriptor.__get__")))
    (htk : takesIn K (.builtin "object.__class__") = some true) : findObj K D od "__class__" = some (.bind (.builtin "getset_descriptor.__get__") (.builtin "object.__class__")) := by
  obtain ⟨cd, hcd, _⟩ := any_some hdct
  unfold findObj; rw [hcd, Option.bind_some, ha, Option.bind_some]; simp [hn, htk]
theorem fs_class {Q : Option Value → Shared → Prop} (hga : findIn K (.ref D) "__getattribute__" = some (some (.builtin "BaseException.__getattribute__"))) (hgt : findIn K (.ref D) "__getattr__" = some none) (hsub : subIn K (.ref D) (.type "BaseException") = some true)
    (hdct : hasDictIn K D = true) (ha : findIn K (.ref D) "__class__" = some (some (.builtin "object.__class__")))
    (hn : specialIn K (.builtin "object.__class__") "__get__" = some (some (.builtin "getset_descriptor.__get__"))) (htk : takesIn K (.builtin "object.__class__") = some true) (hm : mroIn K D (.type "object") = some true)
    (KX : K.In s.heap) (J : InstAt s.heap x ox D od) (hq : Q (some (.ref D)) { s with toks := s.toks + 1 }) : wpAny (model prog w) A (getAttr? (.ref x) "__class__") Q E s := by
  have hfind : findObj K D od "__class__" = some (.bind (.builtin "getset_descriptor.__get__") (.builtin "object.__class__")) := fs_findClass hdct ha hn htk
  obtain ⟨hp, gg, dd, tt, oo⟩ := s
  have M0 := J.type (M := model prog w); have M1 := looks_findIn (M := model prog w) KX hga
  have M2 := looks_findIn (M := model prog w) KX hgt; have M3 := looks_find (M := model prog w) KX J hfind
  have hisB : Looks (model prog w) hp (isInstance (.ref x) (.type "BaseException")) true := M0.andThen (looks_subIn KX hsub)
  have e0 : (false && onTheHeap (Value.builtin "BaseException.__getattribute__")) = false := rfl
  have e2 : (Value.builtin "BaseException.__getattribute__" == Value.builtin "object.__getattribute__") = false := by decide +kernel
  have e1 : (onTheHeap (Value.ref D) && Value.builtin "BaseException.__getattribute__" == Value.builtin "object.__getattribute__") = false := by rw [e2] <;> rfl
  unfold getAttr? getAttrBy? getAttrBy
  refine wpAny_bind (wpAny_mkText (wpAny_bind (wpAny_attempt (wpAny_holding (wpAny_bind (M0.at (wpAny_bind (M1.at ?_))))))))
  show wpAny _ _ (if (onTheHeap (Value.ref D) && Value.builtin "BaseException.__getattribute__" == Value.builtin "object.__getattribute__") = true then _ else _) _ _ _
  rw [e1, if_neg Bool.false_ne_true]; unfold getAttrByItsOwn hookBefore
  refine wpAny_bind ?_
  rw [if_pos (show onTheHeap (Value.ref D) = true from rfl)]; refine M2.at ?_
  refine wpAny_bind (wpAny_attempt (wpAny_holding ?_)); unfold callGetattribute
  rw [e0, if_neg Bool.false_ne_true]; unfold boundAndCalled
  rw [PySem.F.excAttr_ValueError.ga.bind (.ref x)]; refine wpAny_bind (wpAny_pure ?_)
  show wpAny _ _ (call (.builtin "BaseException.__getattribute__") [.ref x, .str "__class__" tt]) _ _ _
  refine wpAny_call (codeAny_call_builtin PySem.F.excAttr_ValueError.ga.plain PySem.F.entry_bexc_ga ?_)
  refine @check_slot (model prog w) _ _ ⟨hp, gg, dd, tt + 1, oo⟩ "BaseException.__getattribute__" "BaseException" "__getattribute__" (.ref x) [.str "__class__" tt] [] _ (by decide +kernel) (by decide +kernel) hisB (PySem.F.args_bexc_ga (.ref x) (.str "__class__" tt)) ?_
  unfold Builtin.«object.__getattribute__»
  refine wpAny_bind (wpAny_of_eq (a := ((Value.ref x : Value), [Value.str "__class__" tt])) (by first | rfl | (simp only [slotArgs]; rfl)) ?_)
  refine wpAny_bind (wpAny_pure (wpAny_bind (M0.at (wpAny_bind (M3.at ?_)))))
  show wpAny _ _ (holding [Value.builtin "object.__class__"] (call (.builtin "getset_descriptor.__get__") [.builtin "object.__class__", .ref x, .ref D]) >>= ret) _ _ _
  refine wpAny_bind (wpAny_holding (wpAny_call (class_get (s := ⟨hp, gg, dd, tt + 1, oo⟩) (ox := ox) (od := od) KX J hm ?_))); refine wpAny_pure ?_
  show wpAny _ _ (handedOut (.ref D)) _ _ _
  rw [handedOut_of (v := .ref D) rfl]
  first | exact wpAny_pure (wpAny_pure hq) | exact wpAny_pure hq | exact wpAny_pure (wpAny_bind (wpAny_pure (wpAny_pure hq)))
theorem fs_kitx (hga : findIn K (.ref D) "__getattribute__" = some (some (.builtin "BaseException.__getattribute__"))) (hgt : findIn K (.ref D) "__getattr__" = some none) (hsub : subIn K (.ref D) (.type "BaseException") = some true) (hdct : hasDictIn K D = true) (ha : findIn K (.ref D) "__class__" = some (some (.builtin "object.__class__")))
    (hn : specialIn K (.builtin "object.__class__") "__get__" = some (some (.builtin "getset_descriptor.__get__"))) (htk : takesIn K (.builtin "object.__class__") = some true) (hm : mroIn K D (.type "object") = some true) :
    KitX K (.ref x) (.ref D) (fun h => ∃ ox od, InstAt h x ox D od) where
  ty := fun _ _ _ ⟨_, _, J⟩ => J.type
  it := fun _ _ KX _ => by
    obtain ⟨cc, hcc, _⟩ := any_some hdct
    unfold clsIn at hcc
    split at hcc
    · rename_i hlook
      intro A1 Q1 E1 s1 kk qq; unfold isType loadHead
      exact wpAny_bind (wpAny_loadPart (kk _ _ (KX _ _ hlook)) (wpAny_pure qq))
    · cases hcc
  ne := fun hh tp dd its nn sl KX htp => by
    obtain ⟨cc, hcc, _⟩ := any_some hdct
    refine Bool.eq_false_iff.mpr fun qq => ?_
    have eD : D = tp := Value.ref.inj (beq_iff_eq.mp qq)
    subst eD; unfold clsIn at hcc
    split at hcc
    · rename_i hlook
      have zz := (KX _ _ hlook).symm.trans htp; cases zz
    · cases hcc
  ca := fun KX ⟨_, _, J⟩ kk => fs_class hga hgt hsub hdct ha hn htk hm KX J kk
end
end PySem.W
namespace FS
open PySem PySem.Spec PyProof.Rows L2
/-! ### made -/
/-- C(e, ..) as a value, C's own __init__ keeping sp -/
def tMkV (C : Addr) (sp : Sp) (dvs : List V) (ta : TA) : TE := fun σ H Q => ta σ H fun vs H1 => vs.length ≤ 1000 ∧ ∀ a, H1 a = none →
  sp (.ref a :: (vs ++ dvs)) (upd H1 a (exo a C none)) (fun v H2 => v = .non ∧ Q (.ref a) H2) (fun _ _ _ => False)
section
variable {X : Cx} {e : Expr} {es : List Expr} {te : TE} {ta : TA} {p pos : Pos}
theorem pe_mkV {CX : CXT} {x : Str} {C fI : Addr} {k : Nat} {fd : FuncData} {ps : List Str} {sp : Sp} {ds : List Value} {dvs : List V} (T : OexC X.K C) (iC : PySem.W.findIn X.K (.ref C) "__init__" = some (some (.ref fI))) (tI : PySem.W.typeIn X.K (.ref fI) = some (.type "function"))
    (F1 : FnOk X.prog X.w X.K X.mg X.base CX k fI fd ps sp) (hr : Room (k + 1) X.A) (hb : Binds X.K fd ps ds) (hd : Vals dvs ds) (hx : Passes CX X (fun _ _ _ => False)) (hg : Gl X x) (hm : X.mg x = some (.ref C)) (ha : PA X (e :: es) ta)
    (hdb : (x == ("__debug__" : Str)) = false := by decide) (he : starEach (e :: es) X.env = (false, eval e X.env) :: starEach es X.env := by rfl) (hpl : (backTo pos (starEach es X.env)).any (·.1) = false := by rfl) :
    PE X (.Call (.Name x p) (e :: es) [] pos) (tMkV C sp dvs ta) := by
  refine ⟨fun pins st0 σ H Q I h => ?_⟩
  obtain ⟨nm, q, N, bs, bm, sn, sub, ab, col, dd, k0, k1, k2, k3, k5, hC, hbm⟩ := T.cls
  refine wpAny_Call_Name_kw (ld_glob I hg hm ?_ hdb)
  refine PySem.W.callWith_K (h₀ := X.base) I.ok.mod.kin T.kC (thn (ha.run pos pins st0 σ H _ I h) fun us s1 ⟨vs, H1, I1, r1, hz, q1⟩ => ⟨I1.kIn, ?_⟩) he hpl
  show wpAny _ _ (call (.ref C) us) _ _ _
  obtain ⟨hp, g, dr, tk, os⟩ := s1
  have hsz1 : hp.objs.size ≤ hp.objs.size + 1 := Nat.le_succ _
  have hn1 : H1 (hp.objs.size + 1) = none := I1.hok.fresh hsz1
  have hq1 := q1 (hp.objs.size + 1) hn1
  have kk1 : ∀ b o, hp.get? b = some o → ((hp.push (PySem.W.kdv_tup us)).push (PySem.HandSPX.excO C hp.objs.size)).get? b = some o := fun b o eo => Heap.get?_push_of_some _ (Heap.get?_push_of_some _ eo)
  have hget1 : ((hp.push (PySem.W.kdv_tup us)).push (PySem.HandSPX.excO C hp.objs.size)).get? (hp.objs.size + 1) = some (PySem.HandSPX.excO C hp.objs.size) := by heap_get
  have J2 : Inv X pins σ (upd H1 (hp.objs.size + 1) (exo (hp.objs.size + 1) C none)) ⟨(hp.push (PySem.W.kdv_tup us)).push (PySem.HandSPX.excO C hp.objs.size), g, dr, tk, os⟩ :=
    I1.laid (t' := tk) (a := hp.objs.size + 1) (o := exo (hp.objs.size + 1) C none) (h' := (hp.push (PySem.W.kdv_tup us)).push (PySem.HandSPX.excO C hp.objs.size)) kk1 hsz1 (exo_ok hget1)
  have rr2 : Vals (V.ref (hp.objs.size + 1) :: (vs ++ dvs)) (Value.ref (hp.objs.size + 1) :: (us ++ ds)) := .cons rfl (r1.append hd)
  have hl1 : (Value.ref (hp.objs.size + 1) :: us ++ ds).length = ps.length := by
    have e9 := rr2.length
    rw [F1.len _ _ _ _ hq1] at e9; exact e9.symm
  have hus1 : us.length ≤ sizeLine := by
    rw [← Paired.length r1, sizeLine_eq]; omega
  refine wpAny_call (PySem.HandSPX.call_own F.excBase_ValueError (fun Y => PySem.HandSPX.refsVE_contains Y bm hbm) (I1.kIn _ _ hC) (PySem.W.looks_findIn I1.kIn iC) (fun self => PySem.W.bind_fn I1.kIn self tI) hus1
    (codeAny_mono (F1.run _ X.stack _ _ ⟨Value.ref (hp.objs.size + 1) :: us, []⟩ (Value.ref (hp.objs.size + 1) :: (us ++ ds)) _ _ (fun _ _ _ => False) (hr.make C us []) (J2.env0.make C us []) (hb _ (Value.ref (hp.objs.size + 1) :: us) J2.kIn hl1) rr2 hq1) fun r s' hq' => ?_))
  cases r with
  | error er => exact hx pins σ _ _ er s' J2 hq'
  | ok fl =>
    cases fl with
    | ret u =>
      obtain ⟨v, H2, os2, bare2, un2, hok2, rv, ev, q2⟩ := hq'
      subst ev
      exact ⟨rv, .ref (hp.objs.size + 1), H2, J2.call' (ch := []) os2 un2 hok2 bare2 (fun b z => absurd z (by simp)), rfl, q2⟩
    | next => exact False.elim hq'
    | brk => exact False.elim hq'
    | cont => exact False.elim hq'
/-! ### read -/
def tXo (K : PySem.W.Frag) (f : Str) (te : TE) : TE := fun σ H Q => te σ H fun x H1 => ∃ (a C dd : Addr) (fs : List (Str × V)) (v : V), x = .ref a ∧ H1 a = some (exo a C (some dd)) ∧ H1 dd = some (exd dd fs) ∧ XfC K C ∧ PySem.W.findIn K (.ref C) f = some none ∧ fs.lookup f = some v ∧ Q v H1
theorem pe_xo {n : Str} (he : PE X e te) (hb : attributeBase e n X.env (eval e X.env) = eval e X.env := by rfl) : PE X (.Attribute e n pos) (tXo X.K n te) := by
  refine ⟨fun pins s σ H Q I h => ?_⟩
  refine attr_of hb (thn (he.run pins s σ H _ I h) fun u s1 hh => ?_)
  obtain ⟨x, H1, I1, rx, a, C, dd, fs, v, ex, ea, ed, T, hno, l, q⟩ := hh
  subst ex
  obtain rfl : u = Value.ref a := rx
  obtain ⟨t1, ho⟩ := exo_at I1.hok ea
  obtain ⟨mA, hns, hr⟩ := exd_at I1.hok ed
  obtain ⟨od, hod, hl⟩ := lookIn_ns hns
  obtain ⟨u, hu, ru⟩ := RelO.some_of (v := v) (o := mA n) (by rw [← l]; exact hr n)
  have J : PySem.W.InstAt s1.heap a { cls := .ref C, dict := some dd, data := .fields #[.ref t1, .none, .none, .none, .bool false, .none] } C (some od) := ⟨ho, rfl, rfl, hod⟩
  exact HandSPX.exc_get I1.kIn J T.ga T.gg T.exC (PySem.W.findObj_own T.hdC hno rfl (by rw [hl, hu])) (handed_of ru) ⟨v, H1, I1.tok _, ru, q⟩
end
/-! ### isinstance -/
def rIsO (K : PySem.W.Frag) : List V → Hp → VK → Prop := fun xs H Q => ∃ (a C d : Addr) (fs : List (Str × V)) (c : V) (cv : Value) (b : Bool), xs = [.ref a, c] ∧ H a = some (exo a C (some d)) ∧ H d = some (exd d fs) ∧ ExcC K C ∧ (∀ u, RelV c u → u = cv) ∧ PySem.W.kitOne K (.ref C) cv = some b ∧ Q (.bl b) H
theorem call_isO {X : Cx} : CallR X (.builtin "isinstance") (rIsO X.K) := by
  intro pins s σ H xs us Q I r h
  obtain ⟨a, C, d, fs, c, cv, b, rfl, ea, ed, T, hcv, e, q⟩ := h
  obtain ⟨u1, u2, rfl, r1, r2⟩ := vals2 r
  cases (show u1 = Value.ref a from r1)
  have ec := hcv _ r2
  subst ec
  obtain ⟨t1, ho⟩ := exo_at I.hok ea
  obtain ⟨mA, hns, hr⟩ := exd_at I.hok ed
  obtain ⟨od, hod, hl⟩ := lookIn_ns hns
  have J : PySem.W.InstAt s.heap a { cls := .ref C, dict := some d, data := .fields #[.ref t1, .none, .none, .none, .bool false, .none] } C (some od) := ⟨ho, rfl, rfl, hod⟩
  exact PySem.W.kia_one (PySem.W.fs_kitx T.hg T.hk T.hs T.hd T.ha T.hn T.ht T.hm) I.kIn ⟨_, _, J⟩ e (fun z => nomatch z) fun tk => ⟨.bl b, H, I.tok tk, rfl, q⟩
/-! ### repr of a list of plain values (an empty dict among them, not deeper) -/
inductive Dq (K : PySem.W.Frag) (H : Hp) : V → PyData → Prop
  | dp {v : V} {d : PyData} : Dp K H v d → d.hasDict = false → Dq K H v d
  | emp {a : Addr} : H a = some (.dK []) → Dq K H (.ref a) (.dict [])
inductive DqAll (K : PySem.W.Frag) (H : Hp) : List V → List PyData → Prop
  | nil : DqAll K H [] []
  | cons {v : V} {vs : List V} {d : PyData} {ds : List PyData} : Dq K H v d → DqAll K H vs ds → DqAll K H (v :: vs) (d :: ds)
section
variable {X : Cx} {pins : List (Addr × Obj)} {σ : L2.St} {H : Hp} {s : Shared}
theorem Dq.repr (I : Inv X pins σ H s) {v : V} {d : PyData} {u : Value} (h : Dq X.K H v d) (r : RelV v u) (hs : d.showable = true) (hz : d.shown.length ≤ sizeLine) :
    ∃ as bs, Reads s.heap u d as ∧ ReadAtMost s.heap d.depth bs ∧ ReprK X.prog X.w bs s.heap d.depth u d.shown := by
  cases h with
  | dp h hd =>
    obtain ⟨as, rd⟩ := Dp.reads I d v u h r
    obtain ⟨bs, h1, h2⟩ := ReprK.of_reads (prog := X.prog) (w := X.w) rd hs (PyData.noDict_hsm hd) hz
    exact ⟨as, bs, rd, h1, h2⟩
  | @emp a ea =>
    cases (show u = Value.ref a from r)
    obtain ⟨_, hsm, vs, kv, o, es, ep, h1, h2, h3, _, h4, _⟩ := (show ObjOk X.prog X.w H s.heap a (.dK []) from I.hok a _ ea)
    cases kv
    have e0 : es.toList = [] := by
      cases hq : es.toList with
      | nil => rfl
      | cons x xs =>
        rw [hq] at h4
        first | exact absurd h4 (by simp [Pairs]) | cases h4
    have rd : Reads s.heap (.ref a) (.dict []) (a :: [] ++ []) := .dict (kvs := []) h1 h2.1 h3 (by rw [e0]; exact .nil) (by rw [e0]; exact .nil)
    obtain ⟨bs, q1, q2⟩ := ReprK.of_reads (prog := X.prog) (w := X.w) rd hs (fun _ hm => by
      have : sysModules = a := by simpa using hm
      rw [this] at hsm
      simp at hsm) hz
    exact ⟨_, bs, rd, q1, q2⟩
theorem DqAll.repr (I : Inv X pins σ H s) : ∀ {vs : List V} {ds : List PyData} {us : List Value}, DqAll X.K H vs ds → Vals vs us → PyData.showableAll ds = true → (∀ t ∈ PyData.shownAll ds, t.length ≤ sizeLine) →
    ∃ as bs, ReadsAll s.heap us ds as ∧ ReadAtMost s.heap (PyData.depthAll ds) bs ∧ ReprAllK X.prog X.w bs s.heap (PyData.depthAll ds) us (PyData.shownAll ds)
  | _, _, _, .nil, .nil, _, _ => ⟨[], [], .nil, (fun _ h => nomatch h), by simp only [PyData.shownAll]; exact .nil⟩
  | _, _, _, .cons (d := d) (ds := ds) h hl, .cons r rl, hs, hz => by
    have hs2 : d.showable = true ∧ PyData.showableAll ds = true := by simpa [PyData.showableAll] using hs
    obtain ⟨a1, c1, rd1, q1, k1⟩ := Dq.repr I h r hs2.1 (hz _ (by simp only [PyData.shownAll]; exact List.mem_cons_self ..))
    obtain ⟨a2, c2, rd2, q2, k2⟩ := DqAll.repr I hl rl hs2.2 (fun t ht => hz t (by simp only [PyData.shownAll]; exact List.mem_cons_of_mem _ ht))
    refine ⟨_, c1 ++ c2, .cons rd1 rd2, ?_, ?_⟩
    · simp only [PyData.depthAll]
      exact (q1.mono (Nat.le_max_left _ _)).append (q2.mono (Nat.le_max_right _ _))
    · simp only [PyData.depthAll, PyData.shownAll]
      exact .cons ((k1.more fun b hb => List.mem_append_left _ hb).level_le (Nat.le_max_left _ _)) (k2.more_le (fun b hb => List.mem_append_right _ hb) (Nat.le_max_right _ _))
end
def rReprL (K : PySem.W.Frag) : List V → Hp → VK → Prop := fun xs H Q => ∃ (a : Addr) (v : V) (vs : List V) (ds : List PyData), xs = [.ref a] ∧ H a = some (.lst (v :: vs)) ∧ DqAll K H (v :: vs) ds ∧ PyData.showableAll ds = true ∧ PyData.depthAll ds ≤ 30 ∧
  (listText (PyData.shownAll ds)).length ≤ sizeLine ∧ Q (.str (listText (PyData.shownAll ds))) H
theorem call_reprL {X : Cx} (hg : X.A.guards = some []) (hu : X.A.units + 64 < cLine) : CallR X (.builtin "repr") (rReprL X.K) := by
  intro pins s σ H xs us Q I r h
  obtain ⟨a, v, vs, ds, rfl, ea, hd, hs, hdep, hz, q⟩ := h
  cases r with
  | cons ra rn =>
    cases rn
    rename_i u1
    cases (show u1 = Value.ref a from ra)
    obtain ⟨_, its, n, rv, ho⟩ := (show ObjOk X.prog X.w H s.heap a (.lst (v :: vs)) from I.hok a _ ea)
    cases rv with
    | @cons _ u _ ul r1 r2 =>
      obtain ⟨as, bs, rd, hb, hk⟩ := DqAll.repr I hd (.cons r1 r2) hs (fun t ht => Nat.le_trans (listText_mem_le ht) hz)
      have rr : Reads s.heap (.ref a) (.list ds) (a :: as) := .list ho rfl rfl rd
      have hna : a ∉ bs := not_mem_of_deeper rr (by simp only [PyData.depth]; omega) hb
      refine call_repr_slot (by omega) ⟨_, ho, rfl⟩ F.slot_list_repr.toG ?_
      exact call_list_reprK ho rfl rfl hna (by simpa using hk.length_eq) (fun i y e => hk.item i y (by simpa using e)) hg (fun b _ => Clear.nil b) (by show X.A.units + 1 + _ < cLine; omega) (fun _ _ e => e)
        (fun h' t tk hk' => ⟨_, _, rfl, .str (listText (PyData.shownAll ds)), H, I.kept (t' := tk) hk', ⟨_, rfl⟩, q⟩) hz
end FS

set_option Elab.async false
set_option linter.all false
set_option maxRecDepth 100000
set_option maxHeartbeats 4000000
/-! The law's own def is called where no guard stands: its promise may use that (repr of lists asks it). -/
namespace FS
open PySem PySem.Spec PyProof.Rows L2
structure FnG (P : Program) (w : World) (K : PySem.W.Frag) (mg : Str → Option Value) (base : Heap) (k : Nat) (f : Addr) (fd : FuncData) (ps : List Str) (sp : Sp) : Prop where
  len : ∀ vs H Q E, sp vs H Q E → vs.length = ps.length
  run : ∀ (A : Around) (out1 : List Env) (st1 : Shared) (H : Hp) (args : Args) (us : List Value) (vs : List V) (Q : VK) (E : XK), A.guards = some [] → Room k A → Env0 P w K mg base A out1 st1 H → BindsTo st1 fd args (ps.zip us) → Vals vs us → sp vs H Q E →
    codeAny (model P w) A (.call (.ref f) args) (CR CX0 out1 P w H st1 Q E) st1
section
variable {P : Program} {w : World} {K : PySem.W.Frag} {mg : Str → Option Value} {base : Heap}
theorem okG {x qual : Str} {st : Stmt} {f : Addr} {fd : FuncData} {N ps : List Str} {k : Nat} {sp : Sp} (F : Fun K x qual st f fd) (S : FnScope N ps (defScope st)) (hlen : ∀ vs H Q E, sp vs H Q E → vs.length = ps.length)
    (hbd : ∀ (cdv : Value) (A : Around) (out1 : List Env) (st1 : Shared) (H : Hp) (vs : List V) (Q : VK) (E : XK), (A.deeper (envOfC qual (defScope st) st1.heap.objs.size f cdv)).guards = some [] → Room k (A.deeper (envOfC qual (defScope st) st1.heap.objs.size f cdv)) → sp vs H Q E →
      ∃ t, PSs (cxOf CX0 P w K mg base N qual (defScope st) f cdv A out1 st1 H E).nox (defBody st) t ∧ t { nx := fun _ H' => Q .non H', rt := Q } (start N vs) H) : FnG P w K mg base (k + 1) f fd ps sp := by
  obtain ⟨oc, od, kV, doc, pm, an, cdv, ct, osl, rfl, lk, hcd⟩ := F.ex
  refine ⟨hlen, fun A out1 st1 H args us vs Q E hgd hr1 en0 hb1 rv1 hsp1 => ?_⟩
  have hl1 := hlen _ _ _ _ hsp1
  have KX1 : K.In st1.heap := en0.mod.kin.keeps fun b1 o1 e1 => (en0.bs b1 o1 e1).1
  have lim1 : st1.heap.NoLimit := en0.mod.nolimit.keeps fun b1 o1 e1 => (en0.bs b1 o1 e1).1
  have hknd : ∀ y1 ∈ ps.zip us, (defScope st).names.lookup y1.1 = some .local ∨ ((defScope st).names.lookup y1.1 = some .cell ∧ ((cellsFrom (st1.heap.objs.size + 1) (defScope st).names []).lookup y1.1).isSome = true) := fun ⟨n1, v1⟩ hy1 => by
    rcases S.par n1 (List.of_mem_zip hy1).1 with q1 | q1
    · exact .inl q1
    · exact .inr ⟨q1, PySem.W.cellsFrom_some _ _ _ (.inl q1)⟩
  refine codeAny_call_function hr1.depth (KX1 _ _ lk) rfl S.co S.gen rfl (PySem.W.codeRec_of KX1 hcd) (hb1 _ _ _ _ ?_)
  refine wpAny_newFunctionEnv_cells S.kind hknd fun env1 he1 st2 x1 => ?_
  subst he1; refine ⟨lim1.keeps x1.toInCall.keep, codeAny_func ?_⟩
  obtain ⟨t, ht0, hq1⟩ := hbd cdv A out1 st1 H vs Q E hgd (hr1.deeper _) hsp1
  have ht := ht0.nox
  have I1 : Inv (cxOf CX0 P w K mg base N qual (defScope st) f cdv A out1 st1 H E) [] (start N vs) H st2 := inv_start S hr1.hd en0 hl1 rv1 x1
  refine wpAny_mono (ht.run [] st2 (start N vs) H _ I1 hq1) (fun fl st3 hs1 => ?_) fun _ st3 hs1 => hs1
  have done1 : ∀ {σ1 : L2.St} {H1 : Hp} {v : V} {u : Value}, Inv (cxOf CX0 P w K mg base N qual (defScope st) f cdv A out1 st1 H E) [] σ1 H1 st3 → RelV v u → Q v H1 → CE out1 P w H st1 Q u st3 :=
    fun {σ1 H1 v u} J1 rv q1 => ⟨v, H1, J1.os, J1.bare, J1.base, J1.hok, rv, q1⟩
  cases fl with
  | ret u => obtain ⟨v, σ1, H1, J1, rv, q1⟩ := hs1; exact done1 J1 rv q1
  | next => obtain ⟨σ1, H1, J1, q1⟩ := hs1; exact done1 (v := V.non) (u := Value.none) J1 rfl q1
  | brk => obtain ⟨_, _, _, q1⟩ := hs1; exact False.elim q1
  | cont => obtain ⟨_, _, _, q1⟩ := hs1; exact False.elim q1
theorem law_callG {mb : Str → Option Value} {k : Nat} {fa a : Addr} {fd : FuncData} {x : Str} {sp : Sp} {st1 : Shared} {vs : List Value} {ns : List Int}
    (KX : K.In st1.heap) (hns : st1.heap.Ns mainGlobals mg) (hbl : st1.heap.Ns builtinsNs mb) (hbb : ∀ x : Str, x ≠ "__name__" → mb x = bootBuiltins x) (hlim : st1.heap.NoLimit) (hgn : st1.gens = #[])
    (hat : st1.heap.get? a = some { cls := .type "list", data := .seq vs.toArray }) (hi : IntsAre vs ns) (hl : ns.length ≤ sizeLine) (hr1 : Room k callerA)
    (F : ∀ base : Heap, K.In base → base.Ns mainGlobals mg → FnG P w K mg base k fa fd [x] sp) (hbind : ∀ (s : Shared) (u : Value), BindsTo s fd ⟨[u], []⟩ [(x, u)])
    (hsp1 : ∀ H : Hp, Only H → SqL K H a (ns.map V.int) → sp [.ref a] H (fun v _ => v = .bl true) fun _ _ _ => False) :
    codeAny (model P w) callerA (.call (.ref fa) ⟨[.ref a], []⟩) (fun r s' => r = .ok (.ret (.bool true)) ∧ OldK st1.heap s'.heap ∧ s'.os = st1.os ∧ AllBare s'.gens) st1 := by
  have rv1 := vals_ints hi
  have lenV1 := hi.length
  have core1 : ∀ H : Hp, Only H → SqL K H a (ns.map V.int) → HOk P w H st1.heap → (∀ b1, H b1 ≠ none → b1 = a) → (H a ≠ none → K.lookup a = none) →
      codeAny (model P w) callerA (.call (.ref fa) ⟨[.ref a], []⟩) (fun r s' => r = .ok (.ret (.bool true)) ∧ OldK st1.heap s'.heap ∧ s'.os = st1.os ∧ AllBare s'.gens) st1 := by
    intro H hO1 hS1 hok1 hA1 hK1
    have base1 : ∀ {b1 : Addr} {o1 : Obj}, st1.heap.get? b1 = some o1 → H b1 = none → (hidT st1.heap H).get? b1 = some o1 := fun e1 n1 => hidT_get e1 n1
    have noA1 : ∀ {b1 : Addr} {o1 : Obj} {es1 : Array DictEntry} {ep1 : Nat}, st1.heap.get? b1 = some o1 → o1.data = .dict es1 ep1 → H b1 = none := fun {b1 o1 es1 ep1} e1 d1 => by
      cases q1 : H b1 with
      | none => rfl
      | some u1 =>
        have e2 : b1 = a := hA1 b1 (by rw [q1]; simp)
        subst e2; rw [hat] at e1; cases e1
        have d2 : Data.seq vs.toArray _ = Data.dict es1 ep1 := d1
        cases d2
    have nsK1 : ∀ {b1 : Addr} {m : Str → Option Value}, st1.heap.Ns b1 m → (hidT st1.heap H).Ns b1 m := fun {b1 m} ⟨o1, es1, ep1, e1, d1, r1⟩ => ⟨o1, es1, ep1, base1 e1 (noA1 e1 d1), d1, r1⟩
    have hKb1 : K.In (hidT st1.heap H) := fun b1 o1 e1 => base1 (KX b1 o1 e1) (by
      cases q1 : H b1 with
      | none => rfl
      | some u1 =>
        have e2 : b1 = a := hA1 b1 (by rw [q1]; simp)
        subst e2; rw [hK1 (by rw [q1]; simp)] at e1; cases e1)
    have hM1 : Mod K mg (hidT st1.heap H) := ⟨hKb1, nsK1 hns, ⟨mb, nsK1 hbl, hbb⟩, let ⟨mc, h1, h2⟩ := hlim; ⟨mc, nsK1 h1, h2⟩⟩
    have en0 : Env0 P w K mg (hidT st1.heap H) callerA [] st1 H := ⟨rfl, hM1, fun b1 o1 e1 => of_hidT e1, Nat.le_of_eq (hidT_size _ _), trivial, fun b1 hb1 => absurd (show b1 ∈ ([] : List Addr) from hb1) (by simp), hok1, .of_eq hgn⟩
    refine codeAny_mono ((F _ hKb1 (nsK1 hns)).run callerA [] st1 H ⟨[.ref a], []⟩ [.ref a] [.ref a] _ _ rfl hr1 en0 (hbind st1 (.ref a)) (.cons rfl .nil) (hsp1 H hO1 hS1)) fun r s' h1 => ?_
    cases r with
    | error e1 => exact False.elim h1
    | ok fl =>
      cases fl with
      | next => exact False.elim h1
      | brk => exact False.elim h1
      | cont => exact False.elim h1
      | ret u1 =>
        obtain ⟨v1, H1, os1, bare1, un1, hok2, r1, q1⟩ := h1
        have q2 : v1 = .bl true := q1
        subst q2; obtain rfl : u1 = Value.bool true := r1
        refine ⟨rfl, OldK.of_keep fun b1 o1 e1 => ?_, os1, bare1⟩
        cases q3 : H b1 with
        | none => exact un1.keep b1 o1 e1 q3 (by intro z; exact absurd (show b1 ∈ ([] : List Addr) from z) (by simp)) (by simp)
        | some u2 =>
          rcases hO1 b1 with z1 | ⟨ob1, xs1, z1⟩
          · rw [q3] at z1; cases z1
          · have z2 := un1.frzs b1 ob1 _ z1
            obtain ⟨e3, _⟩ := hok1 b1 _ z1; obtain ⟨e4, _⟩ := hok2 b1 _ z2
            rw [e1] at e3; cases e3; exact e4
  cases hk1 : K.lookup a with
  | some o1 =>
    have e1 := KX a o1 hk1
    rw [hat] at e1; cases e1
    refine core1 (fun _ => none) (fun _ => .inl rfl) (.inr ⟨_, vs.toArray, _, hk1, rfl, rfl, rfl, by rw [List.size_toArray, lenV1]; exact hl, by simpa using rv1⟩) (fun b1 u1 z1 => by have z2 : (none : Option HO) = some u1 := z1; cases z2) (fun b1 z1 => absurd rfl z1) fun z1 => absurd rfl z1
  | none =>
    refine core1 (fun b1 => if b1 = a then some (.frz { cls := .type "list", data := .seq vs.toArray } (.lst (ns.map V.int))) else none) (fun b1 => ?_) (.inl (.inr ⟨{ cls := .type "list", data := .seq vs.toArray }, if_pos rfl⟩)) (fun b1 u1 z1 => ?_) (fun b1 z1 => ?_) fun _ => hk1
    · by_cases hb1 : b1 = a
      · exact .inr ⟨_, _, if_pos hb1⟩
      · exact .inl (if_neg hb1)
    · by_cases hb1 : b1 = a
      · have z2 := (if_pos hb1).symm.trans z1
        cases z2; subst hb1
        exact ⟨hat, by rw [List.length_map]; exact hl, vs, _, rv1, hat⟩
      · have z2 := (if_neg hb1).symm.trans z1
        cases z2
    · by_cases hb1 : b1 = a
      · exact hb1
      · exact absurd (if_neg hb1) z1
end
theorem walk_G {l : PySem.W.OpenLaw} {n k : Nat} {qp : Program} {loose : List Str} {XP : (Str → Option Value) → Heap → Prop} {YP : World → Heap → Prop} {dr : DefRec} {KK : Params → PySem.W.Frag} {sp : World → Sp} {x : Str}
    (hn : l.most = some n) (hn2 : n ≤ sizeLine) (hdf : dr.params.defaults = []) (hr1 : Room k callerA) (hY : ∀ (w : World) (h : Heap), YP w h → (KK w.params).In h)
    (F : ∀ (w : World) (mg : Str → Option Value) (fa : Addr) (h : Heap), (KK w.params).In h → h.Ns mainGlobals mg → mg dr.name = some (.ref fa) →
      ∃ fd : FuncData, (∀ (s : Shared) (u : Value), BindsTo s fd ⟨[u], []⟩ [(x, u)]) ∧ ∀ base : Heap, (KK w.params).In base → base.Ns mainGlobals mg → FnG l.prog w (KK w.params) mg base k fa fd [x] (sp w))
    (hsp1 : ∀ (w : World) (H : Hp) (a : Addr) (ns : List Int), ns.length ≤ n → Only H → SqL (KK w.params) H a (ns.map V.int) → sp w [.ref a] H (fun v _ => v = .bl true) fun _ _ _ => False) :
    PySem.W.WalkO qp loose XP YP l.row.toRowW dr [] (fun f vs => PySem.call f vs) := by
  refine Att.attach_call hn hdf fun w s0 st1 mg mb fa o pm cd doc a vs ns G Y ho hd hcd hmg hobj hints hlen hgn => ?_
  have KX1 := hY w _ Y
  obtain ⟨fd, hb1, hF1⟩ := F w mg fa _ KX1 G.T.g hmg
  exact law_callG KX1 G.T.g G.T.b G.T.builtins G.T.nolimit hgn hobj hints (Nat.le_trans hlen hn2) hr1 hF1 hb1 (fun H hO1 hS1 => hsp1 w H a ns hlen hO1 hS1)
end FS

set_option Elab.async false
set_option linter.all false
set_option maxRecDepth 100000
set_option maxHeartbeats 4000000
/-! What both laws on errors use: an error's class, a made error, plain values that repr shows, isinstance over a list of errors. -/
namespace FS
open PySem PySem.Spec PyProof.Rows L2
/-! ### heaps -/
theorem same_new {H : Hp} {p : Addr} {o : HO} (h : H p = none) : Same H (upd H p o) := fun b x e => by
  rw [upd_ne (ne_of_none e h)]; exact e
/-- all but p as it was -/
def Off (p : Addr) (H H' : Hp) : Prop := ∀ b o, b ≠ p → H b = some o → H' b = some o
theorem Off.of {p : Addr} {H H' : Hp} (h : Same H H') : Off p H H' := fun b o _ e => h b o e
theorem Off.trans {p : Addr} {H H1 H2 : Hp} (h : Off p H H1) (k : Off p H1 H2) : Off p H H2 := fun b o n e => k b o n (h b o n e)
theorem Off.put {p : Addr} {H : Hp} {o : HO} : Off p H (upd H p o) := fun b x n e => by rw [upd_ne n]; exact e
theorem Off.same {p : Addr} {H H1 H2 : Hp} (h : Same H H1) (hp : H p = none) (k : Off p H1 H2) : Same H H2 := fun b o e => k b o (ne_of_none e hp) (h b o e)
/-! ### plain values -/
mutual
theorem Dp_mono {K : PySem.W.Frag} {H H' : Hp} (s : Same H H') : ∀ (d : PyData) (v : V), Dp K H v d → Dp K H' v d
  | .none, _, h => by cases h; exact .non
  | .bool b, _, h => by cases h; exact .bl b
  | .int i, _, h => by cases h; exact .int i
  | .str x, _, h => by cases h; exact .str x
  | .list ds, _, h => by
    cases h with
    | lst hs ha => exact .lst (s.seq hs) (DpAll_mono s ds _ ha)
  | .tuple ds, _, h => by
    cases h with
    | tup hs ha =>
      refine .tup ?_ (DpAll_mono s ds _ ha)
      rcases hs with (h | ⟨o, h⟩) | h
      · exact .inl (.inl (s _ _ h))
      · exact .inl (.inr ⟨o, s _ _ h⟩)
      · exact .inr h
  | .dict _, _, h => by cases h
theorem DpAll_mono {K : PySem.W.Frag} {H H' : Hp} (s : Same H H') : ∀ (ds : List PyData) (vs : List V), DpAll K H vs ds → DpAll K H' vs ds
  | [], _, h => by cases h; exact .nil
  | d :: ds, _, h => by
    cases h with
    | cons h1 h2 => exact .cons (Dp_mono s d _ h1) (DpAll_mono s ds _ h2)
end
/-- a value that repr shows shortly -/
def Nice (K : PySem.W.Frag) (H : Hp) (v : V) (d : PyData) : Prop := Dq K H v d ∧ d.showable = true ∧ d.depth ≤ 5 ∧ d.shown.length ≤ 40
theorem Dq_mono {K : PySem.W.Frag} {H H' : Hp} {v : V} {d : PyData} (s : Same H H') (h : Dq K H v d) : Dq K H' v d := by
  cases h with
  | dp h hd => exact .dp (Dp_mono s d v h) hd
  | emp h => exact .emp (s _ _ h)
theorem Nice.mono {K : PySem.W.Frag} {H H' : Hp} {v : V} {d : PyData} (s : Same H H') (h : Nice K H v d) : Nice K H' v d := ⟨Dq_mono s h.1, h.2⟩
inductive NiceAll (K : PySem.W.Frag) (H : Hp) : List V → List PyData → Prop
  | nil : NiceAll K H [] []
  | cons {v : V} {vs : List V} {d : PyData} {ds : List PyData} : Nice K H v d → NiceAll K H vs ds → NiceAll K H (v :: vs) (d :: ds)
theorem NiceAll.dq {K : PySem.W.Frag} {H : Hp} : ∀ {vs : List V} {ds : List PyData}, NiceAll K H vs ds → DqAll K H vs ds
  | _, _, .nil => .nil
  | _, _, .cons h t => .cons h.1 t.dq
theorem NiceAll.show {K : PySem.W.Frag} {H : Hp} : ∀ {vs : List V} {ds : List PyData}, NiceAll K H vs ds → PyData.showableAll ds = true
  | _, _, .nil => by simp [PyData.showableAll]
  | _, _, .cons h t => by simp only [PyData.showableAll, h.2.1, t.show, Bool.and_self]
theorem NiceAll.depth {K : PySem.W.Frag} {H : Hp} : ∀ {vs : List V} {ds : List PyData}, NiceAll K H vs ds → PyData.depthAll ds ≤ 30
  | _, _, .nil => by simp [PyData.depthAll]
  | _, _, .cons h t => by
    simp only [PyData.depthAll]
    have h1 := h.2.2.1
    have h2 := t.depth
    omega
theorem text_len : ∀ (ts : List Str) (k : Nat) (acc : Str), (∀ t ∈ ts, t.length ≤ 40) → (textFrom k acc ts).length ≤ acc.length + 42 * ts.length
  | [], k, acc, _ => Nat.le_refl _
  | t :: r, k, acc, h => by
    have h1 := h t (List.mem_cons_self ..)
    have h2 : (Str.ofString "").length = 0 := by decide
    have h3 : (Str.ofString ", ").length = 2 := by decide
    unfold textFrom
    refine Nat.le_trans (text_len r _ _ (fun x hx => h x (List.mem_cons_of_mem _ hx))) ?_
    rw [List.length_cons]
    repeat rw [strLen_append]
    split <;> omega
theorem NiceAll.len {K : PySem.W.Frag} {H : Hp} : ∀ {vs : List V} {ds : List PyData}, NiceAll K H vs ds → (PyData.shownAll ds).length = vs.length ∧ ∀ t ∈ PyData.shownAll ds, t.length ≤ 40
  | _, _, .nil => ⟨by simp [PyData.shownAll], fun t h => by simp [PyData.shownAll] at h⟩
  | _, _, .cons h t => by
    obtain ⟨h1, h2⟩ := t.len
    simp only [PyData.shownAll]
    refine ⟨by rw [List.length_cons, List.length_cons, h1], fun x hx => ?_⟩
    rcases List.mem_cons.mp hx with rfl | hx
    · exact h.2.2.2
    · exact h2 x hx
theorem NiceAll.size {K : PySem.W.Frag} {H : Hp} {vs : List V} {ds : List PyData} (h : NiceAll K H vs ds) (hv : vs.length ≤ 1000) : (listText (PyData.shownAll ds)).length ≤ sizeLine := by
  obtain ⟨h1, h2⟩ := h.len
  have h3 := text_len (PyData.shownAll ds) 0 "[" h2
  have h4 : (Str.ofString "[").length = 1 := by decide
  have h5 : (Str.ofString "]").length = 1 := by decide
  unfold listText
  rw [strLen_append, sizeLine_eq]
  rw [h1] at h3
  omega
end FS

set_option Elab.async false
set_option linter.all false
set_option maxRecDepth 100000
set_option maxHeartbeats 4000000
namespace FS
open PySem PySem.Spec PyProof.Rows L2
/-! ### an error's class -/
structure EC (K : PySem.W.Frag) (mg : Str → Option Value) (nm : Str) (C fI : Addr) : Prop where
  oex : OexC K C
  gC : mg nm = some (.ref C)
  iC : PySem.W.findIn K (.ref C) "__init__" = some (some (.ref fI))
  tI : PySem.W.typeIn K (.ref fI) = some (.type "function")
  xf : XfC K C
  ec : ExcC K C
theorem ec_mk {K : PySem.W.Frag} {h : Heap} {mg : Str → Option Value} (X : K.In h) (G : h.Ns mainGlobals mg) {nm : Str} {C fI : Addr} {n1 q : Str} {N : Addr} {bs bm : List Value} {sn : List Str} {sub : List Value} {ab : Bool} {col : Option Bool} {dd : Option Addr} {m0 m1 m2 m3 m5 : Option Value}
    (aC : PySem.W.nsIn K mainGlobals nm = some (some (.ref C))) (xL : K.lookup C = some (excClassObj n1 q C N bs bm true sn sub ab col dd m0 m1 m2 m3 m5 "ValueError.__new__")) (bmv : PySem.HandSPX.refsVE bm = true)
    (sa : PySem.W.findIn K (.ref C) "__setattr__" = some (some (.builtin "object.__setattr__"))) (ga : PySem.W.findIn K (.ref C) "__getattribute__" = some (some (.builtin "BaseException.__getattribute__"))) (gg : PySem.W.findIn K (.ref C) "__getattr__" = some none)
    (a1 : PySem.W.findIn K (.ref C) "__init__" = some (some (.ref fI))) (t1 : PySem.W.typeIn K (.ref fI) = some (.type "function")) (kC : PySem.W.keepIn K (.ref C) = true) (eC : PySem.W.subIn K (.ref C) (.type "BaseException") = some true)
    (tC : PySem.W.typeIn K (.ref C) = some (.type "type")) (hC : PySem.W.hasDictIn K C = true) (cC : PySem.W.findIn K (.ref C) "__class__" = some (some (.builtin "object.__class__"))) (mC : PySem.W.mroIn K C (.type "object") = some true)
    (hn : PySem.W.specialIn K (.builtin "object.__class__") "__get__" = some (some (.builtin "getset_descriptor.__get__"))) (ht : PySem.W.takesIn K (.builtin "object.__class__") = some true) : EC K mg nm C fI :=
  ⟨⟨⟨n1, q, N, bs, bm, sn, sub, ab, col, dd, m0, m1, m2, m3, m5, xL, bmv⟩, sa, eC, tC, kC⟩, PySem.W.mg_of X G aC, a1, t1, ⟨ga, gg, eC, hC⟩, ⟨ga, gg, eC, hC, cC, hn, ht, mC⟩⟩
/-- isinstance's answer over classes -/
theorem kit_own {K : PySem.W.Frag} {D C : Addr} {b : Bool} (hd : PySem.W.hasDictIn K C = true) (ty : PySem.W.typeIn K (.ref C) = some (.type "type")) (h : PySem.W.subIn K (.ref D) (.ref C) = some b) (hb : D = C → b = true) : PySem.W.kitOne K (.ref D) (.ref C) = some b := by
  unfold PySem.W.kitOne
  by_cases e : D = C
  · subst e
    rw [if_pos (by simp), hb rfl]
  · have ne : ((Value.ref D) == (Value.ref C)) = false := beq_eq_false_iff_ne.mpr fun q => e (Value.ref.inj q)
    rw [ne, if_neg Bool.false_ne_true]
    obtain ⟨cd, hc, _⟩ := PySem.W.any_some hd
    show (if ((PySem.W.clsIn K C).isSome && PySem.W.typeIn K (.ref C) == some (.type "type")) = true then PySem.W.subIn K (.ref D) (.ref C) else none) = some b
    rw [if_pos (by rw [hc, ty] <;> rfl)]
    exact h
theorem kit_ve {K : PySem.W.Frag} {D : Addr} {b : Bool} (h : PySem.W.subIn K (.ref D) (.type "ValueError") = some b) : PySem.W.kitOne K (.ref D) (.type "ValueError") = some b := by
  unfold PySem.W.kitOne
  have ne : ((Value.ref D) == (Value.type "ValueError")) = false := beq_eq_false_iff_ne.mpr fun q => nomatch q
  rw [ne, if_neg Bool.false_ne_true]
  show (if PySem.W.kitMeta "ValueError" = true then PySem.W.subIn K (.ref D) (.type "ValueError") else none) = some b
  rw [if_pos (by decide +kernel)]
  exact h
/-! ### an error made -/
def ErrAt (H : Hp) (a C : Addr) (fs : List (Str × V)) : Prop := ∃ d, H a = some (exo a C (some d)) ∧ H d = some (exd d fs)
theorem ErrAt.mono {H H' : Hp} {a C : Addr} {fs : List (Str × V)} (s : Same H H') (h : ErrAt H a C fs) : ErrAt H' a C fs := by
  obtain ⟨d, h1, h2⟩ := h
  exact ⟨d, s _ _ h1, s _ _ h2⟩
def spI1 (C : Addr) (f : Str) : Sp := fun vs H Q _ => ∃ (a : Addr) (v : V), vs = [.ref a, v] ∧ H a = some (exo a C none) ∧ ∀ H', Off a H H' → ErrAt H' a C [(f, v)] → Q .non H'
def spI2 (C : Addr) (f g : Str) : Sp := fun vs H Q _ => ∃ (a : Addr) (v u : V), vs = [.ref a, v, u] ∧ H a = some (exo a C none) ∧ ∀ H', Off a H H' → ErrAt H' a C [(g, u), (f, v)] → Q .non H'
def spI3 (C : Addr) (f g i : Str) : Sp := fun vs H Q _ => ∃ (a : Addr) (v u x : V), vs = [.ref a, v, u, x] ∧ H a = some (exo a C none) ∧ ∀ H', Off a H H' → ErrAt H' a C [(i, x), (g, u), (f, v)] → Q .non H'
theorem off_first {H : Hp} {a dx C : Addr} {u : HO} (n : H dx = none) : Off a H (upd (upd H dx u) a (exo a C (some dx))) := fun b o hb e => by rw [upd_ne hb, upd_ne (ne_of_none e n)]; exact e
theorem err_first {H : Hp} {a dx C : Addr} {fs : List (Str × V)} (ne : dx ≠ a) : ErrAt (upd (upd H dx (exd dx fs)) a (exo a C (some dx))) a C fs := ⟨dx, upd_same, by rw [upd_ne ne, upd_same]⟩
theorem err_next {H : Hp} {a dx C : Addr} {fs : List (Str × V)} (ne : dx ≠ a) (h : H a = some (exo a C (some dx))) : ErrAt (upd H dx (exd dx fs)) a C fs := ⟨dx, by rw [upd_ne ne.symm]; exact h, upd_same⟩
section
variable {P : Program} {w : World} {K : PySem.W.Frag} {mg : Str → Option Value} {base : Heap} {H : Hp} {C : Addr} {f g i : Str} {Q : VK}
theorem mk1 {v : V} (h : ∀ a H', Same H H' → H a = none → ErrAt H' a C [(f, v)] → Q (.ref a) H') :
    [v].length ≤ 1000 ∧ ∀ a, H a = none → spI1 C f (.ref a :: ([v] ++ [])) (upd H a (exo a C none)) (fun v H2 => v = .non ∧ Q (.ref a) H2) (fun _ _ _ => False) :=
  ⟨by simp, fun a na => ⟨a, v, rfl, upd_same, fun H' o e => ⟨rfl, h a H' (Off.same (same_new na) na o) na e⟩⟩⟩
theorem mk2 {v u : V} (h : ∀ a H', Same H H' → H a = none → ErrAt H' a C [(g, u), (f, v)] → Q (.ref a) H') :
    [v, u].length ≤ 1000 ∧ ∀ a, H a = none → spI2 C f g (.ref a :: ([v, u] ++ [])) (upd H a (exo a C none)) (fun v H2 => v = .non ∧ Q (.ref a) H2) (fun _ _ _ => False) :=
  ⟨by simp, fun a na => ⟨a, v, u, rfl, upd_same, fun H' o e => ⟨rfl, h a H' (Off.same (same_new na) na o) na e⟩⟩⟩
theorem mk3 {v u x : V} (h : ∀ a H', Same H H' → H a = none → ErrAt H' a C [(i, x), (g, u), (f, v)] → Q (.ref a) H') :
    [v, u, x].length ≤ 1000 ∧ ∀ a, H a = none → spI3 C f g i (.ref a :: ([v, u, x] ++ [])) (upd H a (exo a C none)) (fun v H2 => v = .non ∧ Q (.ref a) H2) (fun _ _ _ => False) :=
  ⟨by simp, fun a na => ⟨a, v, u, x, rfl, upd_same, fun H' o e => ⟨rfl, h a H' (Off.same (same_new na) na o) na e⟩⟩⟩
end
/-! ### isinstance over a list of errors -/
inductive Isi (K : PySem.W.Frag) (H : Hp) (cv : Value) : List V → List Bool → Prop
  | nil : Isi K H cv [] []
  | cons {a C : Addr} {fs : List (Str × V)} {b : Bool} {vs : List V} {bs : List Bool} : ErrAt H a C fs → ExcC K C → PySem.W.kitOne K (.ref C) cv = some b → Isi K H cv vs bs → Isi K H cv (.ref a :: vs) (b :: bs)
theorem Isi.mono {K : PySem.W.Frag} {H H' : Hp} {cv : Value} (s : Same H H') : ∀ {vs : List V} {bs : List Bool}, Isi K H cv vs bs → Isi K H' cv vs bs
  | _, _, .nil => .nil
  | _, _, .cons h1 h2 h3 t => .cons (h1.mono s) h2 h3 (t.mono s)
theorem Isi.get {K : PySem.W.Frag} {H : Hp} {cv : Value} : ∀ {vs : List V} {bs : List Bool} {i : Nat} {v : V}, Isi K H cv vs bs → vs[i]? = some v → ∃ a C fs b, v = .ref a ∧ ErrAt H a C fs ∧ ExcC K C ∧ PySem.W.kitOne K (.ref C) cv = some b ∧ bs[i]? = some b
  | _, _, i, v, .nil, e => by simp at e
  | _, _, 0, v, .cons h1 h2 h3 t, e => by
    simp at e
    exact ⟨_, _, _, _, e.symm, h1, h2, h3, by simp⟩
  | _, _, i + 1, v, .cons h1 h2 h3 t, e => by
    simp at e
    obtain ⟨a, C, fs, b, r⟩ := t.get e
    exact ⟨a, C, fs, b, r.1, r.2.1, r.2.2.1, r.2.2.2.1, by simpa using r.2.2.2.2⟩
theorem Isi.len {K : PySem.W.Frag} {H : Hp} {cv : Value} : ∀ {vs : List V} {bs : List Bool}, Isi K H cv vs bs → bs.length = vs.length
  | _, _, .nil => rfl
  | _, _, .cons _ _ _ t => by rw [List.length_cons, List.length_cons, t.len]
/-- one isinstance -/
theorem isi_one {K : PySem.W.Frag} {H : Hp} {a C : Addr} {fs : List (Str × V)} {b : Bool} {c : V} {cv : Value} {Q : VK} (h1 : ErrAt H a C fs) (h2 : ExcC K C) (hc : ∀ u, RelV c u → u = cv) (h3 : PySem.W.kitOne K (.ref C) cv = some b) (q : Q (.bl b) H) : rIsO K [.ref a, c] H Q := by
  obtain ⟨d, e1, e2⟩ := h1
  exact ⟨a, C, d, fs, c, cv, b, rfl, e1, e2, h2, hc, h3, q⟩
/-- [isinstance(x, c) for x in xs] -/
theorem comp_isi {K : PySem.W.Frag} {i j : Nat} {σ : L2.St} {H : Hp} {Q : VK} {l : Addr} {vs : List V} {bs : List Bool} {c : V} {cv : Value} (h1 : σ[i]? = some (some (.ref l))) (hl : SqL K H l vs) (hv : Isi K H cv vs bs) (hc : ∀ u, RelV c u → u = cv) (hz : vs.length ≤ 100) (hj : j < σ.length)
    (hq : ∀ D H', Same H H' → H' D = some (.lst (bs.map .bl)) → Q (.ref D) H') : tLc (iList K (tVar i)) (gName j) tYes (tCB (rIsO K) (tCons (tVar j) (tCons (tC c) tNil))) [j] σ H Q := by
  refine ⟨_, h1, l, rfl, ⟨_, hl⟩, fun D hD => ?_⟩
  have s0 : Same H (upd H D (.lst [])) := same_new hD
  refine lc_list (xs := vs) (fun i H' => Same H H' ∧ H' D = some (.lst ((bs.take i).map .bl))) ⟨s0, upd_same⟩ (fun _ _ _ h => h.1.seq hl) (fun k x H' hx ⟨s, hd⟩ => ?_) (fun H' ⟨s, hd⟩ => hq D H' s ?_)
  · obtain ⟨a, C, fs, b, rfl, e1, e2, e3, e4⟩ := (hv.mono s).get hx
    refine ⟨by simp [wipe], ?_⟩
    refine ⟨.ref a, by simp [wipe, hj], ?_⟩
    dsimp only [tCons, tC, tNil]
    refine isi_one e1 e2 hc e3 ⟨_, hd, ?_, ?_, ?_⟩
    · rw [List.length_map, List.length_take]
      have := hv.len
      exact small1000 (by omega)
    · intro b' o e
      rw [upd_ne (ne_of_none e hD)]
      exact s _ _ e
    · rw [upd_same, List.take_add_one, e4, List.map_append]
      rfl
  · rw [hd, ← hv.len, List.take_length]
end FS

set_option Elab.async false
set_option linter.all false
set_option maxRecDepth 100000
set_option maxHeartbeats 4000000
namespace FS
open PySem PySem.Spec PyProof.Rows L2
section
variable {K : PySem.W.Frag} {H : Hp} {Q : VK}
theorem mkL {xs : List V} (hl : xs.length ≤ 1000) (h : ∀ p H', Same H H' → H p = none → H' p = some (.lst xs) → Q (.ref p) H') : xs.length ≤ sizeLine ∧ ∀ p, H p = none → Q (.ref p) (upd H p (.lst xs)) :=
  ⟨Nat.le_of_lt (small1000 hl), fun p np => h p _ (same_new np) np upd_same⟩
theorem mkT {xs : List V} (hl : xs.length ≤ 1000) (h : ∀ p H', Same H H' → H p = none → H' p = some (.tup xs) → Q (.ref p) H') : xs.length ≤ sizeLine ∧ ∀ p, H p = none → Q (.ref p) (upd H p (.tup xs)) :=
  ⟨Nat.le_of_lt (small1000 hl), fun p np => h p _ (same_new np) np upd_same⟩
theorem mkD (h : ∀ p H', Same H H' → H p = none → H' p = some (.dK []) → Q (.ref p) H') : ∀ p, H p = none → Q (.ref p) (upd H p (.dK [])) := fun p np => h p _ (same_new np) np upd_same
theorem mkCat {l b : Addr} {xs zs : List V} (hl : H l = some (.lst xs)) (hb : H b = some (.lst zs)) (hz : xs.length + zs.length ≤ 1000) (h : ∀ p H', Same H H' → H' p = some (.lst (xs ++ zs)) → Q (.ref p) H') : rCat (.ref l) (.ref b) H Q :=
  ⟨l, b, xs, zs, rfl, rfl, hl, hb, Nat.le_of_lt (small1000 hz), fun p np => h p _ (same_new np) upd_same⟩
theorem rp {a : Addr} {v : V} {vs : List V} {ds : List PyData} (ha : H a = some (.lst (v :: vs))) (hn : NiceAll K H (v :: vs) ds) (hl : (v :: vs).length ≤ 1000) (q : Q (.str (listText (PyData.shownAll ds))) H) : rReprL K [.ref a] H Q :=
  ⟨a, v, vs, ds, rfl, ha, hn.dq, hn.show, hn.depth, hn.size hl, q⟩
theorem rd_at {σ : L2.St} {l a C : Addr} {xs : List V} {i : Int} {j : Nat} {fs : List (Str × V)} {n : Str} {v : V} (hj : σ[j]? = some (some (.ref l))) (hL : H l = some (.lst xs)) (hx : atI xs i = some (.ref a)) (he : ErrAt H a C fs) (T : XfC K C)
    (no : PySem.W.findIn K (.ref C) n = some none) (hl : fs.lookup n = some v) (q : Q v H) : tXo K n (tOp (rIxL K) (tVar j) (tC (.int i))) σ H Q := by
  obtain ⟨d, h1, h2⟩ := he
  exact ⟨_, hj, l, xs, i, _, rfl, rfl, SqL.of hL, hx, a, C, d, fs, v, rfl, h1, h2, T, no, hl, q⟩
theorem dp_bools {a : Addr} {bs : List Bool} (h : H a = some (.lst (bs.map V.bl))) : Dp K H (.ref a) (.list (bs.map PyData.bool)) := by
  refine .lst (SqL.of h) ?_
  clear h
  induction bs with
  | nil => exact .nil
  | cons b r ih => exact .cons (.bl b) ih
/-- [spot == other for other in range(n)] -/
theorem comp_eq {σ : L2.St} {i j n : Nat} {z : Int} (hi : σ[i]? = some (some (.int z))) (hj : j < σ.length) (hne : i ≠ j) (hn : n ≤ 1000)
    (hq : ∀ D H', Same H H' → H' D = some (.lst ((List.range n).map fun k : Nat => V.bl (decide (V.int z = V.int (0 + (k : Int)))))) → Q (.ref D) H') : tLc (iRng1 (tCons (tC (.int (n : Int))) tNil)) (gName j) tYes (tOp rEq (tVar i) (tVar j)) [j] σ H Q := by
  refine ⟨(n : Int), rfl, by omega, by omega, fun D hD => ?_⟩
  refine lc_range (lo := 0) (n := n) (fun k H' => Same H H' ∧ H' D = some (.lst ((List.range k).map fun k : Nat => V.bl (decide (V.int z = V.int (0 + (k : Int))))))) ⟨same_new hD, upd_same⟩ (fun k H' hk ⟨s, hd⟩ => ?_) (fun H' ⟨s, hd⟩ => hq D H' s hd)
  refine ⟨by simp [wipe], ?_⟩
  refine ⟨.int z, ?_, .int (0 + (k : Int)), by simp [wipe, hj], rfl, _, hd, ?_, ?_, ?_⟩
  · simp [wipe, List.getElem?_set, hne.symm, hi]
  · rw [List.length_map, List.length_range]
    exact small1000 (by omega)
  · intro b o e
    rw [upd_ne (ne_of_none e hD)]
    exact s _ _ e
  · rw [upd_same, List.range_succ, List.map_append]
    rfl
theorem off_second {a dx C : Addr} {u1 u2 : HO} (n : H dx = none) : Off a H (upd (upd (upd H dx u1) a (exo a C (some dx))) dx u2) := fun b o hb e => by rw [upd_ne (ne_of_none e n), upd_ne hb, upd_ne (ne_of_none e n)]; exact e
theorem off_third {a dx C : Addr} {u1 u2 u3 : HO} (n : H dx = none) : Off a H (upd (upd (upd (upd H dx u1) a (exo a C (some dx))) dx u2) dx u3) := fun b o hb e => by rw [upd_ne (ne_of_none e n), upd_ne (ne_of_none e n), upd_ne hb, upd_ne (ne_of_none e n)]; exact e
end
end FS

set_option Elab.async false
set_option linter.all false
set_option maxRecDepth 100000
set_option maxHeartbeats 4000000
namespace FS
open PySem PySem.Spec PyProof.Rows L2
/-! Rules whose readings hand on a heap by a letter: what stood stands, and the new thing is there. -/
section
variable {X : Cx} {e : Expr} {es : List Expr} {te : TE} {t : TA} {p pos : Pos}
theorem pe_imp {t' : TE} (h : PE X e te) (i : ∀ σ H Q, t' σ H Q → te σ H Q) : PE X e t' := ⟨fun pins s σ H Q I q => h.run pins s σ H Q I (i σ H Q q)⟩
def tLstS (t : TA) : TE := fun σ H Q => t σ H fun xs H1 => xs.length ≤ 1000 ∧ ∀ p H', Same H1 H' → H1 p = none → H' p = some (.lst xs) → Q (.ref p) H'
def tTupS (t : TA) : TE := fun σ H Q => t σ H fun xs H1 => xs.length ≤ 1000 ∧ ∀ p H', Same H1 H' → H1 p = none → H' p = some (.tup xs) → Q (.ref p) H'
def tDictS : TE := fun _ H Q => ∀ p H', Same H H' → H p = none → H' p = some (.dK []) → Q (.ref p) H'
theorem pe_lstS (h : PA X es t) : PE X (.List es pos) (tLstS t) := by
  refine ⟨fun pins s0 σ H Q I hq => ?_⟩
  refine wpAny_List_spliced (thn (h.run pos pins s0 σ H _ I hq) fun us s1 ⟨xs, H1, I1, r, z, q⟩ => ⟨by rw [← r.length]; exact Nat.le_of_lt (small1000 z), ?_⟩)
  have nf : H1 s1.heap.objs.size = none := I1.hok.fresh (Nat.le_refl _)
  refine ⟨.ref s1.heap.objs.size, upd H1 s1.heap.objs.size (.lst xs), I1.laid (t' := s1.toks) (fun b u e1 => Heap.get?_push_of_some _ e1) (Nat.le_refl _) ?_, rfl, q _ _ (same_new nf) nf upd_same⟩
  exact ⟨Nat.le_of_lt (small1000 z), us, 0, r, Heap.get?_push_size _ rfl⟩
theorem pe_tupS {x1} (h : PA X es t) : PE X (.Tuple es x1 pos) (tTupS t) := by
  refine ⟨fun pins s0 σ H Q I hq => ?_⟩
  refine wpAny_Tuple_spliced (thn (h.run pos pins s0 σ H _ I hq) fun us s1 ⟨xs, H1, I1, r, z, q⟩ => ⟨by rw [← r.length]; exact Nat.le_of_lt (small1000 z), ?_⟩)
  have nf : H1 s1.heap.objs.size = none := I1.hok.fresh (Nat.le_refl _)
  refine ⟨.ref s1.heap.objs.size, upd H1 s1.heap.objs.size (.tup xs), I1.laid (t' := s1.toks) (fun b u e1 => Heap.get?_push_of_some _ e1) (Nat.le_refl _) ?_, rfl, q _ _ (same_new nf) nf upd_same⟩
  exact ⟨Nat.le_of_lt (small1000 z), us, r, ⟨_, Heap.get?_push_size _ rfl, rfl, _, rfl⟩⟩
theorem pe_dictS : PE X (.Dict [] [] pos) tDictS := pe_imp pe_dnewK fun σ H Q h p np => h p _ (same_new np) np upd_same
def rCatS : R2 := fun x y H Q => ∃ l b xs zs, x = .ref l ∧ y = .ref b ∧ H l = some (.lst xs) ∧ H b = some (.lst zs) ∧ xs.length + zs.length ≤ 1000 ∧ ∀ p H', Same H H' → H p = none → H' p = some (.lst (xs ++ zs)) → Q (.ref p) H'
theorem op_catS : OpR X (binaryOp .Add) rCatS := fun pins s σ H x y v u Q I rx ry ⟨l, b, xs, zs, e1, e2, h1, h2, hz, q⟩ =>
  op_cat pins s σ H x y v u Q I rx ry ⟨l, b, xs, zs, e1, e2, h1, h2, Nat.le_of_lt (small1000 hz), fun p np => q p _ (same_new np) np upd_same⟩
def rRepS : R2 := fun x y H Q => ∃ l k xs, x = .ref l ∧ y = .int k ∧ H l = some (.lst xs) ∧ 0 ≤ k ∧ k < 1000 ∧ xs.length * k.toNat ≤ 1000 ∧ ∀ p H', Same H H' → H p = none → H' p = some (.lst ((List.replicate k.toNat xs).flatten)) → Q (.ref p) H'
def tMk1 (C : Addr) (f : Str) (i : Nat) : TE := fun σ H Q => ∃ v, σ[i]? = some (some v) ∧ ∀ a H', Same H H' → H a = none → ErrAt H' a C [(f, v)] → Q (.ref a) H'
def tMk2 (C : Addr) (f g : Str) (i j : Nat) : TE := fun σ H Q => ∃ v u, σ[i]? = some (some v) ∧ σ[j]? = some (some u) ∧ ∀ a H', Same H H' → H a = none → ErrAt H' a C [(g, u), (f, v)] → Q (.ref a) H'
def tMk3 (C : Addr) (f g k : Str) (i j m : Nat) : TE := fun σ H Q => ∃ v u x, σ[i]? = some (some v) ∧ σ[j]? = some (some u) ∧ σ[m]? = some (some x) ∧ ∀ a H', Same H H' → H a = none → ErrAt H' a C [(k, x), (g, u), (f, v)] → Q (.ref a) H'
theorem pe_mk1 {C : Addr} {f : Str} {i : Nat} (h : PE X e (tMkV C (spI1 C f) [] (tCons (tVar i) tNil))) : PE X e (tMk1 C f i) := pe_imp h fun σ H Q ⟨v, e1, q⟩ => ⟨v, e1, mk1 q⟩
theorem pe_mk2 {C : Addr} {f g : Str} {i j : Nat} (h : PE X e (tMkV C (spI2 C f g) [] (tCons (tVar i) (tCons (tVar j) tNil)))) : PE X e (tMk2 C f g i j) := pe_imp h fun σ H Q ⟨v, u, e1, e2, q⟩ => ⟨v, e1, u, e2, mk2 q⟩
theorem pe_mk3 {C : Addr} {f g k : Str} {i j m : Nat} (h : PE X e (tMkV C (spI3 C f g k) [] (tCons (tVar i) (tCons (tVar j) (tCons (tVar m) tNil))))) : PE X e (tMk3 C f g k i j m) := pe_imp h fun σ H Q ⟨v, u, x, e1, e2, e3, q⟩ => ⟨v, e1, u, e2, x, e3, mk3 q⟩
def tCI (K : PySem.W.Frag) (i j : Nat) (c : V) : TE := fun σ H Q => ∃ (l : Addr) (vs : List V) (bs : List Bool) (cv : Value), σ[i]? = some (some (.ref l)) ∧ SqL K H l vs ∧ Isi K H cv vs bs ∧ (∀ u, RelV c u → u = cv) ∧ vs.length ≤ 100 ∧ j < σ.length ∧ ∀ D H', Same H H' → H' D = some (.lst (bs.map .bl)) → Q (.ref D) H'
theorem pe_ci {K : PySem.W.Frag} {i j : Nat} {c : V} (h : PE X e (tLc (iList K (tVar i)) (gName j) tYes (tCB (rIsO K) (tCons (tVar j) (tCons (tC c) tNil))) [j])) : PE X e (tCI K i j c) :=
  pe_imp h fun σ H Q ⟨l, vs, bs, cv, h1, h2, h3, h4, h5, h6, q⟩ => comp_isi h1 h2 h3 h4 h5 h6 q
def tCE (i j n : Nat) : TE := fun σ H Q => ∃ z : Int, σ[i]? = some (some (.int z)) ∧ j < σ.length ∧ ∀ D H', Same H H' → H' D = some (.lst ((List.range n).map fun k : Nat => V.bl (decide (V.int z = V.int (0 + (k : Int)))))) → Q (.ref D) H'
theorem pe_ce {i j n : Nat} (hne : i ≠ j) (hn : n ≤ 1000) (h : PE X e (tLc (iRng1 (tCons (tC (.int (n : Int))) tNil)) (gName j) tYes (tOp rEq (tVar i) (tVar j)) [j])) : PE X e (tCE i j n) := pe_imp h fun σ H Q ⟨z, h1, h2, q⟩ => comp_eq h1 h2 hne hn q
def tRep (K : PySem.W.Frag) (te : TE) : TE := fun σ H Q => te σ H fun x H1 => rReprL K [x] H1 Q
theorem pe_rep {K : PySem.W.Frag} (h : PE X e (tCB (rReprL K) (tCons te tNil))) : PE X e (tRep K te) := pe_imp h fun _ _ _ q => q
def tIsi (K : PySem.W.Frag) (te : TE) (c : V) : TE := fun σ H Q => te σ H fun x H1 => rIsO K [x, c] H1 Q
theorem pe_isi {K : PySem.W.Frag} {c : V} (h : PE X e (tCB (rIsO K) (tCons te (tCons (tC c) tNil)))) : PE X e (tIsi K te c) := pe_imp h fun _ _ _ q => q
end
end FS

set_option Elab.async false
set_option linter.all false
set_option maxRecDepth 100000
set_option maxHeartbeats 4000000
namespace FS
open PySem PySem.Spec PyProof.Rows L2
section
variable {X : Cx}
theorem count_eqU {y : V} : ∀ {xs : List V} {us : List Value}, Vals xs us → xs.all flatV = true → us.countP (eqU y) = xs.countP fun z => eqV z y
  | _, _, .nil, _ => rfl
  | x :: xs, u :: us, .cons r t, f => by
    rw [List.all_cons, Bool.and_eq_true] at f
    rw [List.countP_cons, List.countP_cons, eqU_of r f.1, count_eqU t f.2]
/-- xs.count(y), flat items -/
def rCntV (K : PySem.W.Frag) : V → List V → Hp → VK → Prop := fun x xs H Q => ∃ (p : Addr) (ys : List V) (y : V), x = .ref p ∧ xs = [y] ∧ SqL K H p ys ∧ flatV y = true ∧ ys.all flatV = true ∧ Q (.int (ys.countP (fun z => eqV z y) : Nat)) H
theorem mt_countV : MtR X "list.count" (rCntV X.K) := by
  intro pins s σ H x xs v us Q I rx rxs h
  obtain ⟨p, ys, y, rfl, rfl, hs, fy, fys, q⟩ := h
  cases rx
  obtain ⟨u, rfl, ru⟩ := rxs.one
  obtain ⟨its, rv, ⟨⟨cls, dd, data, sl⟩, n, ho, hc, hdn, hd⟩, hlen⟩ := I.list hs
  simp only at hc hd
  subst hc hd
  refine call_meets PySem.F.slot_list_count ⟨_, ho, rfl⟩ PySem.F.entry_list_count (PySem.F.args_list_count_2 _ _)
    (SeqAt.list_countAt p its.toArray n dd sl u (eqU y)) ⟨ho, fun z hz => mem_eqAt ru fy rv fys z (by simpa using hz), ?_⟩
  have ec : its.toArray.toList.countP (eqU y) = ys.countP fun z => eqV z y := count_eqU rv fys
  refine ⟨.int (ys.countP (fun z => eqV z y) : Nat), H, I.tok _, ⟨s.toks, ?_⟩, q⟩
  show Value.int ((its.toArray.toList.countP (eqU y) : Nat) : Int) s.toks = Value.int ((ys.countP (fun z => eqV z y) : Nat) : Int) s.toks
  rw [ec]
def rSlS (K : PySem.W.Frag) : V → Option Int → Option Int → Hp → VK → Prop := fun x lo hi H Q => ∃ a xs, x = .ref a ∧ SqL K H a xs ∧ ∀ p H', Same H H' → H p = none → H' p = some (.lst (cutV xs lo hi)) → Q (.ref p) H'
theorem sl_listS : SlR X (rSlS X.K) := fun pins s σ H x v vl vu lo hi sl Q I rx hs pl pu ⟨a, xs, e, hx, q⟩ =>
  sl_list pins s σ H x v vl vu lo hi sl Q I rx hs pl pu ⟨a, xs, e, hx, fun p np => q p _ (same_new np) np upd_same⟩
theorem call_listS : CallR X (.type "list") (fun xs H Q => ∃ p ys, xs = [.ref p] ∧ (SqL X.K H p ys ∨ SqT X.K H p ys) ∧ ∀ l H', Same H H' → H l = none → H' l = some (.lst ys) → Q (.ref l) H') := fun pins s σ H xs us Q I r ⟨p, ys, e, h, q⟩ =>
  call_list_of pins s σ H xs us Q I r ⟨p, ys, e, h, fun l nl => q l _ (same_new nl) nl upd_same⟩
theorem op_repS : OpR X (binaryOp .Mult) rRepS := fun pins s σ H x y v u Q I rx ry ⟨l, k, xs, e1, e2, h, k0, k1, hz, q⟩ =>
  op_rep pins s σ H x y v u Q I rx ry ⟨l, k, xs, e1, e2, h, by omega, by omega, Nat.le_of_lt (small1000 hz), fun p np => q p _ (same_new np) np upd_same⟩
end
theorem ixN_of {n j : Nat} (hj : j < n) : ixN n (j : Int) = some j := by
  unfold ixN
  rw [if_pos (by omega), if_pos (by omega)]; simp
theorem cut_ints (ns : List Int) (lo hi : Option Int) : ∃ ms : List Int, cutV (ns.map V.int) lo hi = ms.map V.int ∧ ms.length ≤ ns.length := by
  refine ⟨(ns.drop (HT.sIx (ns.map V.int).length 0 lo)).take (HT.sIx (ns.map V.int).length (ns.map V.int).length hi - HT.sIx (ns.map V.int).length 0 lo), ?_, ?_⟩
  · unfold cutV
    rw [List.map_take, List.map_drop]
  · rw [List.length_take, List.length_drop]
    omega
end FS

set_option Elab.async false
set_option linter.all false
set_option maxRecDepth 100000
set_option maxHeartbeats 4000000
/-! C(k = v, ..), an own exception class with its own __init__, keywords alone. -/
namespace PySem
namespace FSK
open PySem.W PySem.Calls PyProof.Rows PySem.HandSPX
section
variable {prog : Program} {w : World} {M : Model} {A : Around} {E : Value → Shared → Prop} {R : Result → Shared → Prop} {h : Heap} {g : Array GenState} {d : Drawn} {t : Nat} {os : OsState}
variable {nm q : Str} {C N : Addr} {bs bm bmB : List Value} {hdct : Bool} {sn : List Str} {sub : List Value} {ab : Bool} {col : Option Bool} {dd : Option Addr} {k0 k1 k2 k3 k5 : Option Value} {B newId initId : String} {kw : List (Str × Value)}
theorem check_newK (F : ExcBaseFacts B newId initId bmB) (hT : ∀ Y : String, bm.contains (.type Y) = bmB.contains (.type Y)) {Q : Unit → Shared → Prop}
    (hC1 : h.get? C = some (excClassObj nm q C N bs bm hdct sn sub ab col dd k0 k1 k2 k3 k5 newId)) (hq1 : Q () ⟨h, g, d, t, os⟩) : wpAny M A (checkBuiltinCall newId ⟨[.ref C], kw⟩) Q E ⟨h, g, d, t, os⟩ := by
  have hct1 : (Value.ref C :: bm).contains (.type B) = true := by rw [List.contains_cons, hT, F.hasB, Bool.or_true]
  have hst1 := F.noStar
  simp only [checkBuiltinCall, F.newKind, F.newSplit, F.newRow]
  repeat (first | refine wpAny_loadPart_at hC1 ?_ | (refine wpAny_isSubtype_exc hC1 ?_; rw [hct1]) | refine wpAny_staticBase_exc hC1 ?_ | refine wpAny_madeBy_exc hC1 ?_ | simp only [bne_self_eq_false, Bool.false_eq_true, if_false] | wp_step)
  exact hq1
theorem newK (F : ExcBaseFacts B newId initId bmB) (hT : ∀ Y : String, bm.contains (.type Y) = bmB.contains (.type Y))
    (hC1 : h.get? C = some (excClassObj nm q C N bs bm hdct sn sub ab col dd k0 k1 k2 k3 k5 newId))
    (hq1 : R (.ok (.ret (.ref (h.objs.size + 1)))) ⟨(h.push { cls := .type "tuple", data := .seq ([] : List Value).toArray }).push { cls := .ref C, data := .fields #[.ref h.objs.size, .none, .none, .none, .bool false, .none] }, g, d, t, os⟩) :
    codeAny (model prog w) A (.builtin newId ⟨[.ref C], kw⟩) R ⟨h, g, d, t, os⟩ := by
  have hends := F.ends
  have c1 : (Value.ref C :: bm).contains (.type B) = true := by rw [List.contains_cons, hT, F.hasB, Bool.or_true]
  have c2 : (Value.ref C :: bm).contains (.type "AttributeError") = false := by rw [List.contains_cons, hT, F.noAttr] <;> rfl
  have c3 : (Value.ref C :: bm).contains (.type "NameError") = false := by rw [List.contains_cons, hT, F.noName] <;> rfl
  refine codeAny_builtinAt F.entry ?_
  unfold Builtin.«BaseException.__new__»
  refine wpAt_bind ?_
  show wpAt _ _ _ (stack >>= _) _ _ _
  refine wpAt_bind (wpAt_stack fun p1 below1 => wpAt_of_wpAny ?_)
  wp_walk
  refine wpAt_of_wpAny ?_
  rw [F.owner]
  repeat (first | with_reducible refine wpAny_madeHere_exc F.canon hC1 ?_ | with_reducible refine wpAny_loadPart_at hC1 ?_ | (with_reducible refine wpAny_isSubtype_exc hC1 ?_; first | rw [c1] | rw [c2] | rw [c3]) | wp_step)
  show R _ _
  rw [Heap.size_push]; exact hq1
theorem check_tcK {Q : Unit → Shared → Prop} (hC1 : h.get? C = some (excClassObj nm q C N bs bm hdct sn sub ab col dd k0 k1 k2 k3 k5 newId)) (hq1 : Q () ⟨h, g, d, t, os⟩) : wpAny M A (checkBuiltinCall "type.__call__" ⟨[.ref C], kw⟩) Q E ⟨h, g, d, t, os⟩ := by
  have g3 := tc_sub
  have hTy1 : (⟨h, g, d, t, os⟩ : Shared).TypeIs (.ref C) "type" := ⟨_, hC1, rfl⟩
  simp only [checkBuiltinCall, tc_kind, tc_split]
  repeat (any_goals (first | assumption | with_reducible refine wpAny_loadPart_at hC1 ?_ | with_reducible refine wpAny_onRaise ?_ | with_reducible refine wpAny_map ?_ | wp_step))
theorem type_callK (F : ExcBaseFacts B newId initId bmB) (hT : ∀ Y : String, bm.contains (.type Y) = bmB.contains (.type Y)) {fI : Addr} {Q : Fin → Shared → Prop}
    (hC1 : h.get? C = some (excClassObj nm q C N bs bm hdct sn sub ab col dd k0 k1 k2 k3 k5 newId))
    (hi1 : W.Looks (model prog w) h (typeLookup (.ref C) "__init__") (some (.ref fI))) (hb1 : ∀ self, W.Looks (model prog w) h (bindSpecial (.ref fI) self) (.ref fI, [self]))
    (hq1 : codeAny (model prog w) A (.call (.ref fI) ⟨[.ref (h.objs.size + 1)], kw⟩)
      (fun r s' => match r with | .ok (.ret v) => v = .none ∧ Q (.done (.ret (.ref (h.objs.size + 1)))) s' | .ok _ => False | .error e => E e s')
      ⟨(h.push (W.kdv_tup [])).push (excO C h.objs.size), g, d, t, os⟩) :
    wpAny (model prog w) A (Builtin.«type.__call__» ⟨[.ref C], kw⟩) Q E ⟨h, g, d, t, os⟩ := by
  repeat (first | with_reducible refine wpAny_loadPart_at hC1 ?_ | with_reducible refine wpAny_madeBy_exc hC1 ?_ | wp_step)
  refine codeAny_call_builtin_code (Code.quiet_builtin _ F.quiet) (check_newK F hT hC1 ?_)
  refine newK F hT hC1 ?_
  show wpAny _ _ _ _ _ _
  have kk1 : ∀ b o, h.get? b = some o → ((h.push (W.kdv_tup [])).push (excO C h.objs.size)).get? b = some o := fun b o e => Heap.get?_push_of_some _ (Heap.get?_push_of_some _ e)
  have hC2 := kk1 _ _ hC1
  have hget1 : ((h.push (W.kdv_tup [])).push (excO C h.objs.size)).get? (h.objs.size + 1) = some (excO C h.objs.size) := by heap_get
  have hcC1 : (Value.ref C :: bm).contains (.ref C) = true := by simp
  have i2 := hi1.keeps kk1
  have b2 := (hb1 (.ref (h.objs.size + 1))).keeps kk1
  unfold isInstance
  repeat (first | with_reducible refine wpAny_loadPart_at hget1 ?_ | (with_reducible refine wpAny_isSubtype_exc hC2 ?_; rw [hcC1]) | wp_step)
  show wpAny _ _ (typeLookup (.ref C) _) _ _ _
  refine i2.at ?_
  refine wpAny_holding (wpAny_bind (b2.at ?_))
  refine wpAny_bind (wpAny_call (codeAny_mono hq1 fun r s' z => ?_))
  rcases r with e | (v | _ | _ | _) <;> first | exact z | exact z.elim | skip
  obtain ⟨rfl, z⟩ := z
  first | exact wpAny_pure (wpAny_pure z) | (wp_walk; exact z)
theorem callK (F : ExcBaseFacts B newId initId bmB) (hT : ∀ Y : String, bm.contains (.type Y) = bmB.contains (.type Y)) {fI : Addr}
    (hC1 : h.get? C = some (excClassObj nm q C N bs bm hdct sn sub ab col dd k0 k1 k2 k3 k5 newId))
    (hi1 : W.Looks (model prog w) h (typeLookup (.ref C) "__init__") (some (.ref fI))) (hb1 : ∀ self, W.Looks (model prog w) h (bindSpecial (.ref fI) self) (.ref fI, [self]))
    (hq1 : codeAny (model prog w) (A.under (.builtin "type.__call__" ⟨[.ref C], kw⟩)) (.call (.ref fI) ⟨[.ref (h.objs.size + 1)], kw⟩) (W.InitBack (h.objs.size + 1) R)
      ⟨(h.push (W.kdv_tup [])).push (excO C h.objs.size), g, d, t, os⟩) :
    codeAny (model prog w) A (.call (.ref C) ⟨[], kw⟩) R ⟨h, g, d, t, os⟩ := by
  have g1 := tc_lookup
  have g2 := tc_bind (.ref C)
  have hTy1 : (⟨h, g, d, t, os⟩ : Shared).TypeIs (.ref C) "type" := ⟨_, hC1, rfl⟩
  refine codeAny_of_tree ?_
  show wpAny _ _ (callAny (.ref C) _) _ _ _
  repeat (any_goals (first | assumption | with_reducible refine wpAny_loadPart_at hC1 ?_ | wp_step))
  refine ⟨rfl, ?_⟩
  refine codeAny_call_builtin_at (Code.quiet_builtin _ (by decide +kernel)) entry_typeCall (check_tcK hC1 (type_callK F hT hC1 hi1 hb1 ?_))
  refine codeAny_mono hq1 fun r s' z => ?_
  rcases r with e | (v | _ | _ | _) <;> exact z
end
end FSK
end PySem
namespace FS
open PySem PySem.Spec PyProof.Rows L2
/-- C(k = v, ..) as a value; gV puts the keywords' values in the parameters' order -/
def tMkK (C : Addr) (m : Nat) (sp : Sp) (gV : List V → List V → List V) (tk : TA) : TE := fun σ H Q => tk σ H fun zs H1 => zs.length = m ∧ ∀ a, H1 a = none →
  sp (gV [.ref a] zs) (upd H1 a (exo a C none)) (fun v H2 => v = .non ∧ Q (.ref a) H2) (fun _ _ _ => False)
section
variable {X : Cx} {p pos : Pos} {kws : List Keyword} {tk : TA}
theorem pe_mkK {CX : CXT} {x : Str} {C fI : Addr} {k : Nat} {fd : FuncData} {ps ks : List Str} {sp : Sp} {g : List Value → List Value → List Value} {gV : List V → List V → List V} (T : OexC X.K C) (iC : PySem.W.findIn X.K (.ref C) "__init__" = some (some (.ref fI))) (tI : PySem.W.typeIn X.K (.ref fI) = some (.type "function"))
    (F1 : FnOk X.prog X.w X.K X.mg X.base CX k fI fd ps sp) (hr : Room (k + 1) X.A) (hb : KBn X.K fd ps 1 ks g gV) (hx : Passes CX X (fun _ _ _ => False)) (hg : Gl X x) (hm : X.mg x = some (.ref C)) (hkw : PK X kws tk)
    (hall : (backToKw pos (keywordEach kws X.env)).all (·.1.isSome) = true := by rfl) (hks : (backToKw pos (keywordEach kws X.env)).filterMap (·.1) = ks := by rfl) (hdb : (x == ("__debug__" : Str)) = false := by decide)
    (hpl : ((backTo pos (starEach [] X.env)).any (·.1) || (backToKw pos (keywordEach kws X.env)).any (·.1.isNone)) = false := by rfl) :
    PE X (.Call (.Name x p) [] kws pos) (tMkK C ks.length sp gV tk) := by
  refine ⟨fun pins st0 σ H Q I h => ?_⟩
  obtain ⟨nm, q, N, bs, bm, sn, sub, ab, col, dd, k0, k1, k2, k3, k5, hC, hbm⟩ := T.cls
  refine wpAny_Call_Name_kw (ld_glob I hg hm ?_ hdb)
  refine PySem.W.callWith_KW0 (h₀ := X.base) I.ok.mod.kin T.kC hall ?_ hpl
  refine thn (hkw.run pos pins st0 σ H _ I h) fun ws s1 ⟨zs, H1, I1, rz, hz, q1⟩ => ⟨I1.kIn, ?_⟩
  rw [hks]
  show wpAny _ _ (call (.ref C) [] (ks.zip ws)) _ _ _
  obtain ⟨hp, g1, dr, tk1, os⟩ := s1
  have hsz1 : hp.objs.size ≤ hp.objs.size + 1 := Nat.le_succ _
  have hn1 : H1 (hp.objs.size + 1) = none := I1.hok.fresh hsz1
  have hq1 := q1 (hp.objs.size + 1) hn1
  have kk1 : ∀ b o, hp.get? b = some o → ((hp.push (PySem.W.kdv_tup [])).push (PySem.HandSPX.excO C hp.objs.size)).get? b = some o := fun b o eo => Heap.get?_push_of_some _ (Heap.get?_push_of_some _ eo)
  have hget1 : ((hp.push (PySem.W.kdv_tup [])).push (PySem.HandSPX.excO C hp.objs.size)).get? (hp.objs.size + 1) = some (PySem.HandSPX.excO C hp.objs.size) := by heap_get
  have J2 : Inv X pins σ (upd H1 (hp.objs.size + 1) (exo (hp.objs.size + 1) C none)) ⟨(hp.push (PySem.W.kdv_tup [])).push (PySem.HandSPX.excO C hp.objs.size), g1, dr, tk1, os⟩ :=
    I1.laid (t' := tk1) (a := hp.objs.size + 1) (o := exo (hp.objs.size + 1) C none) (h' := (hp.push (PySem.W.kdv_tup [])).push (PySem.HandSPX.excO C hp.objs.size)) kk1 hsz1 (exo_ok hget1)
  have rr1 : Vals [V.ref (hp.objs.size + 1)] [Value.ref (hp.objs.size + 1)] := .cons rfl .nil
  have rr2 := hb.rel rr1 rz
  have l2 : ws.length = ks.length := rz.length.symm.trans hz
  refine wpAny_call (PySem.FSK.callK F.excBase_ValueError (fun Y => PySem.HandSPX.refsVE_contains Y bm hbm) (I1.kIn _ _ hC) (PySem.W.looks_findIn I1.kIn iC) (fun self => PySem.W.bind_fn I1.kIn self tI)
    (codeAny_mono (F1.run _ X.stack _ _ ⟨[Value.ref (hp.objs.size + 1)], ks.zip ws⟩ (g [Value.ref (hp.objs.size + 1)] ws) _ _ (fun _ _ _ => False) (hr.make C [] (ks.zip ws)) (J2.env0.make C [] (ks.zip ws)) (hb.to _ [Value.ref (hp.objs.size + 1)] ws J2.kIn rfl l2) rr2 hq1) fun r s' hq' => ?_))
  cases r with
  | error er => exact hx pins σ _ _ er s' J2 hq'
  | ok fl =>
    cases fl with
    | ret u =>
      obtain ⟨v, H2, os2, bare2, un2, hok2, rv, ev, q2⟩ := hq'
      subst ev
      exact ⟨rv, .ref (hp.objs.size + 1), H2, J2.call' (ch := []) os2 un2 hok2 bare2 (fun b z => absurd z (by simp)), rfl, q2⟩
    | next => exact False.elim hq'
    | brk => exact False.elim hq'
    | cont => exact False.elim hq'
theorem pe_mkKv {e : Expr} {C : Addr} {f : Str} {i : Nat} (h : PE X e (tMkK C 1 (spI1 C f) (fun us ws => us ++ ws) (tCons (tVar i) tNil))) : PE X e (tMk1 C f i) := pe_imp h fun σ H Q ⟨v, e1, q⟩ => ⟨v, e1, rfl, (mk1 q).2⟩
theorem pe_mkKr {e : Expr} {C : Addr} {f g k : Str} {i j m : Nat} (h : PE X e (tMkK C 3 (spI3 C f g k) (fun us ws => us ++ ws.reverse) (tCons (tVar m) (tCons (tVar j) (tCons (tVar i) tNil))))) : PE X e (tMk3 C f g k i j m) :=
  pe_imp h fun σ H Q ⟨v, u, x, e1, e2, e3, q⟩ => ⟨x, e3, u, e2, v, e1, rfl, (mk3 q).2⟩
end
theorem kb1 {K : PySem.W.Frag} {x qual a b : Str} {st : Stmt} {f : Addr} {fd : FuncData} (F : Fun K x qual st f fd)
    (h : ∀ (kV doc pm : Value) (an : Option Addr) (cdv ct u w : Value), bindArgs (PySem.W.fnOf x qual (defArgs st) (defBody st) (defScope st) .none kV doc pm an cdv ct) ⟨[u], [(b, w)]⟩ = pure [(a, u), (b, w)]) : KBn K fd [a, b] 1 [b] (fun us ws => us ++ ws) (fun us ws => us ++ ws) := by
  obtain ⟨oc, od, kV, doc, pm, an, cdv, ct, osl, rfl, lk, hcd⟩ := F.ex
  exact ⟨fun s us ws _ l1 l2 => match us, ws, l1, l2 with | [u], [w], _, _ => .of_eq (h kV doc pm an cdv ct u w), fun r1 r2 => r1.append r2⟩
theorem kb3 {K : PySem.W.Frag} {x qual a b c d : Str} {st : Stmt} {f : Addr} {fd : FuncData} (F : Fun K x qual st f fd)
    (h : ∀ (kV doc pm : Value) (an : Option Addr) (cdv ct u w1 w2 w3 : Value), bindArgs (PySem.W.fnOf x qual (defArgs st) (defBody st) (defScope st) .none kV doc pm an cdv ct) ⟨[u], [(d, w1), (c, w2), (b, w3)]⟩ = pure [(a, u), (b, w3), (c, w2), (d, w1)]) : KBn K fd [a, b, c, d] 1 [d, c, b] (fun us ws => us ++ ws.reverse) (fun us ws => us ++ ws.reverse) := by
  obtain ⟨oc, od, kV, doc, pm, an, cdv, ct, osl, rfl, lk, hcd⟩ := F.ex
  refine ⟨fun s us ws _ l1 l2 => match us, ws, l1, l2 with | [u], [w1, w2, w3], _, _ => .of_eq (h kV doc pm an cdv ct u w1 w2 w3), fun r1 r2 => r1.append ?_⟩
  have rev : ∀ {vs : List V} {us : List Value}, Vals vs us → Vals vs.reverse us.reverse := by
    intro vs us r
    induction r with
    | nil => exact .nil
    | cons a _ ih => rw [List.reverse_cons, List.reverse_cons]; exact ih.append (.cons a .nil)
  exact rev r2
end FS

set_option Elab.async false
set_option linter.all false
set_option maxRecDepth 100000
set_option maxHeartbeats 4000000
namespace K89
open PySem PySem.Spec PyProof.Rows L2 FS
def top (i : Nat) : Stmt := PySem.Challenge.pw_foldsame_k89_errors_of_later_stages.main.body.getD i (.Pass ⟨0, 0, 0, 0⟩)
abbrev sLeft : Stmt := top 16
abbrev sDraw : Stmt := top 17
abbrev sSigns : Stmt := top 18
abbrev sMade : Stmt := top 19
abbrev sNamed : Stmt := top 20
abbrev sLaw : Stmt := top 21
abbrev sI (i : Nat) : Stmt := inClass (top i) 0
section
variable {P : Program} {w : World} {K : PySem.W.Frag} {mg : Str → Option Value} {base : Heap}
/-! ### _law_left -/
def spLeft (K : PySem.W.Frag) : Sp := fun vs H Q _ => ∃ (a : Addr) (ns : List Int), vs = [.ref a] ∧ SqL K H a (ns.map V.int) ∧ ns.length ≤ 63 ∧
  ∀ H' p (ms : List Int), Same H H' → H p = none → H' p = some (.lst (ms.map V.int)) → 2 ≤ ms.length → ms.length ≤ 100 → Q (.ref p) H'
theorem scLf : FnScope ["_law_script", "_law_left_here"] ["_law_script"] (defScope sLeft) := ⟨rfl, rfl, rfl, by decide +kernel, rfl, by decide +kernel, by decide +kernel⟩
theorem ok_left {f : Addr} {fd : FuncData} {k : Nat} (F : Fun K "_law_left" "_law_left" sLeft f fd) (zl : mg "list" = none) (zn : mg "len" = none) : FnOk P w K mg base CX0 (k + 1) f fd ["_law_script"] (spLeft K) := by
  refine F.ok scLf (fun vs H Q E h => ?_) (fun cdv A outer s H vs Q E hr h => ?_)
  · obtain ⟨a, ns, rfl, _⟩ := h
    rfl
  · obtain ⟨a, ns, rfl, hS, hlen, q⟩ := h
    refine ⟨_, pss_cons (ps_set (i := 1) scLf.nd rfl (.inl rfl) (pe_op op_catS (pe_lstS (pa_cons pe_int pa_nil)) (pe_callTy call_listS (by rfl) zl (by decide +kernel) (pa_cons (pe_slice sl_listS (pv 0) po_none (po_some pe_int)) pa_nil))))
      (pss_cons (ps_if (pt_cmpR op_eq (pe_callB call_len_seq (by rfl) zn PySem.boot_len (pa_cons (pv 1) pa_nil)) pe_int (nomark _))
          (pss_one (ps_expr (pe_bm PySem.F.plainAttrs_list PySem.F.slot_list_append PySem.F.type_list_append mt_append (pv 1) (pa_cons pe_int pa_nil)))) pss_nil)
      (pss_one (ps_ret (pv 1)))), ?_⟩
    refine ⟨by simp, fun l1 H1 s1 n1 h1 => ?_⟩
    obtain ⟨ms, em, lm⟩ := cut_ints ns none (some 63)
    refine ⟨.ref a, rfl, 63, rfl, a, _, rfl, s1.seq hS, fun l2 H2 s2 n2 h2 => ?_⟩
    rw [em] at h2
    refine ⟨l2, _, rfl, .inl (SqL.of h2), fun l3 H3 s3 n3 h3 => ?_⟩
    refine ⟨l1, l3, _, _, rfl, rfl, s3 _ _ (s2 _ _ h1), h3, ?_, fun l4 H4 s4 n4 h4 => ?_⟩
    · simp only [List.length_map, List.length_singleton]
      omega
    have t4 : Same H H4 := s1.trans (s2.trans (s3.trans s4))
    have n0 : H l4 = none := (s1.trans (s2.trans s3)).free n4
    have h5 : H4 l4 = some (.lst ((0 :: ms).map V.int)) := h4
    refine ⟨.ref l4, rfl, l4, _, rfl, .inl (SqL.of h5), rfl, _, rfl, ?_⟩
    refine ite2 (fun hc => ?_) (fun hc => ?_)
    · refine ⟨.ref l4, rfl, .inl ⟨rfl, _, SqL.of h5⟩, l4, _, _, rfl, rfl, h5, small1000 (by rw [List.length_map, List.length_cons]; omega), ?_⟩
      refine ⟨.ref l4, rfl, q _ l4 (0 :: ms ++ [0]) ?_ n0 ?_ ?_ ?_⟩
      · intro b o e
        rw [upd_ne (ne_of_none e n0)]
        exact t4 _ _ e
      · rw [upd_same, List.map_append]
        rfl
      · simp
      · simp
        omega
    · refine ⟨.ref l4, rfl, q _ l4 (0 :: ms) t4 n0 h5 ?_ ?_⟩
      · have h6 : ¬ (((0 :: ms).map V.int).length : Int) = 1 := fun e => hc (decide_eq_true (by rw [e]))
        rw [List.length_map, List.length_cons] at h6
        rw [List.length_cons]
        omega
      · rw [List.length_cons]
        omega
end
end K89

set_option Elab.async false
set_option linter.all false
set_option maxRecDepth 100000
set_option maxHeartbeats 4000000
namespace K89
open PySem PySem.Spec PyProof.Rows L2 FS
section
variable {P : Program} {w : World} {K : PySem.W.Frag} {mg : Str → Option Value} {base : Heap}
/-! ### _law_draw -/
def spDraw : Sp := fun vs H Q _ => ∃ (p : Addr) (ms : List Int), vs = [.ref p, .int 9] ∧ H p = some (.lst (ms.map V.int)) ∧ 2 ≤ ms.length ∧ ms.length ≤ 100 ∧
  ∀ H' (ms' : List Int) (r : Nat), Off p H H' → H' p = some (.lst (ms'.map V.int)) → ms'.length = ms.length → r < 9 → Q (.int r) H'
theorem scD : FnScope ["_law_left_here", "_law_most", "_law_spot", "_law_cell"] ["_law_left_here", "_law_most"] (defScope sDraw) := ⟨rfl, rfl, rfl, by decide +kernel, rfl, by decide +kernel, by decide +kernel⟩
theorem toN9 {x : Int} (h : 0 ≤ x) (h2 : x < 9) : ∃ r : Nat, x = (r : Int) ∧ r < 9 := ⟨x.toNat, by omega, by omega⟩
theorem at_int {ms : List Int} {j : Nat} (h : j < ms.length) : (ms.map V.int)[j]? = some (V.int (ms[j]'h)) := by
  rw [List.getElem?_map, List.getElem?_eq_getElem h]
  rfl
theorem set_int (ms : List Int) (j : Nat) (z : Int) : (ms.map V.int).set j (.int z) = (ms.set j z).map V.int := by rw [List.map_set]
theorem ok_draw {f : Addr} {fd : FuncData} {k : Nat} (F : Fun K "_law_draw" "_law_draw" sDraw f fd) (zn : mg "len" = none) (zi : mg "int" = none) : FnOk P w K mg base CX0 (k + 1) f fd ["_law_left_here", "_law_most"] spDraw := by
  refine F.ok scD (fun vs H Q E h => ?_) (fun cdv A outer s H vs Q E hr h => ?_)
  · obtain ⟨a, ms, rfl, _⟩ := h
    rfl
  · obtain ⟨p, ms, rfl, hp, h2, h100, q⟩ := h
    refine ⟨_, pss_cons (ps_asg (pe_op op_add (pe_ix ix_list (pv 0) pe_int (fun _ _ => rfl)) pe_int) (pg_sub (pv 0) pe_int set_list (fun _ => rfl)))
      (pss_cons (ps_set (i := 2) scD.nd rfl (.inl rfl) (pe_op op_add pe_int (pe_op op_mod (pe_ix ix_list (pv 0) pe_int (fun _ _ => rfl)) (pe_op op_sub (pe_callB call_len_seq (by rfl) zn PySem.boot_len (pa_cons (pv 0) pa_nil)) pe_int))))
      (pss_cons (ps_set (i := 3) scD.nd rfl (.inl rfl) (pe_ix ix_list (pv 0) (pv 2) (fun _ _ => rfl)))
      (pss_cons (ps_if (pt_cmpR op_ge (pv 3) (pe_op op_pow pe_int pe_int) (nomark _))
          (pss_cons (ps_asg (pe_op op_fdiv (pv 3) (pv 1)) (pg_sub (pv 0) (pv 2) set_list (fun _ => rfl)))
            (pss_one (ps_ret (pe_op op_mod (pe_callTy call_int1 (by rfl) zi (by decide +kernel) (pa_cons (pv 3) pa_nil)) (pv 1))))) pss_nil)
      (pss_cons (ps_asg (pe_op op_mod (pe_callTy call_int1 (by rfl) zi (by decide +kernel) (pa_cons (pe_op op_add (pe_op op_add (pe_op op_mul (pv 3) pe_int) (pe_op op_mul (pe_ix ix_list (pv 0) pe_int (fun _ _ => rfl)) pe_int)) pe_int) pa_nil)) pe_int) (pg_sub (pv 0) (pv 2) set_list (fun _ => rfl)))
      (pss_one (ps_ret (pe_op op_mod (pe_op op_fdiv (pe_ix ix_list (pv 0) (pv 2) (fun _ _ => rfl)) pe_int) (pv 1)))))))), ?_⟩
    have l0 : 0 < ms.length := by omega
    refine ⟨.ref p, rfl, p, _, 0, _, rfl, rfl, SqL.of hp, atI_nat (j := 0) (at_int l0), _, _, rfl, rfl, ?_⟩
    refine ⟨.ref p, rfl, p, _, 0, 0, rfl, rfl, hp, ixN_of (j := 0) (by rw [List.length_map]; exact l0), ?_⟩
    have h1 : (upd H p (.lst ((ms.map V.int).set 0 (.int (ms[0] + 1))))) p = some (.lst ((ms.set 0 (ms[0] + 1)).map V.int)) := by rw [upd_same, set_int]
    have ol : (ms.set 0 (ms[0] + 1)).length = ms.length := List.length_set
    have o1 : Off p H (upd H p (.lst ((ms.map V.int).set 0 (.int (ms[0] + 1))))) := Off.put
    have l1 : 0 < (ms.set 0 (ms[0] + 1)).length := by omega
    refine ⟨.ref p, rfl, p, _, 0, _, rfl, rfl, SqL.of h1, atI_nat (j := 0) (at_int l1), .ref p, rfl, p, _, rfl, .inl (SqL.of h1), _, _, rfl, rfl, _, _, rfl, rfl, ?_, _, _, rfl, rfl, ?_⟩
    · show (0 : Int) < (((ms.set 0 (ms[0] + 1)).map V.int).length : Int) - 1
      rw [List.length_map]
      omega
    obtain ⟨j, ej, hj⟩ : ∃ j : Nat, 1 + ((ms.set 0 (ms[0] + 1))[0] % ((((ms.set 0 (ms[0] + 1)).map V.int).length : Int) - 1)) = (j : Int) ∧ j < (ms.set 0 (ms[0] + 1)).length := by
      have e1 := Int.emod_nonneg ((ms.set 0 (ms[0] + 1))[0]) (b := (((ms.set 0 (ms[0] + 1)).map V.int).length : Int) - 1) (by rw [List.length_map]; omega)
      have e2 := Int.emod_lt_of_pos ((ms.set 0 (ms[0] + 1))[0]) (b := (((ms.set 0 (ms[0] + 1)).map V.int).length : Int) - 1) (by rw [List.length_map]; omega)
      refine ⟨(1 + ((ms.set 0 (ms[0] + 1))[0] % ((((ms.set 0 (ms[0] + 1)).map V.int).length : Int) - 1))).toNat, by omega, ?_⟩
      have e3 : (((ms.set 0 (ms[0] + 1)).map V.int).length : Int) = ((ms.set 0 (ms[0] + 1)).length : Int) := by rw [List.length_map]
      omega
    have ea : atI ((ms.set 0 (ms[0] + 1)).map V.int) (1 + ((ms.set 0 (ms[0] + 1))[0] % ((((ms.set 0 (ms[0] + 1)).map V.int).length : Int) - 1))) = some (.int ((ms.set 0 (ms[0] + 1))[j])) := by rw [ej]; exact atI_nat (at_int hj)
    have ei : ixN ((ms.set 0 (ms[0] + 1)).map V.int).length (1 + ((ms.set 0 (ms[0] + 1))[0] % ((((ms.set 0 (ms[0] + 1)).map V.int).length : Int) - 1))) = some j := by rw [ej]; exact ixN_of (by rw [List.length_map]; exact hj)
    refine ⟨.ref p, rfl, _, rfl, p, _, _, _, rfl, rfl, SqL.of h1, ea, ?_⟩
    refine ⟨_, rfl, _, _, rfl, rfl, ⟨by decide, by decide, by decide⟩, _, _, rfl, rfl, _, rfl, ?_⟩
    refine ite2 (fun hc => ?_) (fun hc => ?_)
    · refine ⟨_, rfl, _, rfl, _, _, rfl, rfl, ⟨by decide, by decide⟩, ?_⟩
      refine ⟨.ref p, rfl, _, rfl, p, _, _, j, rfl, rfl, h1, ei, ?_⟩
      refine ⟨_, rfl, .inl ⟨_, rfl, _, rfl, _, _, rfl, rfl, (show (0 : Int) < 9 by decide), ?_⟩⟩
      obtain ⟨r, er, hr9⟩ := toN9 (Int.emod_nonneg ((ms.set 0 (ms[0] + 1))[j]) (show (9 : Int) ≠ 0 by decide)) (Int.emod_lt_of_pos ((ms.set 0 (ms[0] + 1))[j]) (show (0 : Int) < 9 by decide))
      have hq := q (upd (upd H p (.lst ((ms.map V.int).set 0 (.int (ms[0] + 1))))) p (.lst (((ms.set 0 (ms[0] + 1)).map V.int).set j (.int ((ms.set 0 (ms[0] + 1))[j] / 9))))) ((ms.set 0 (ms[0] + 1)).set j ((ms.set 0 (ms[0] + 1))[j] / 9)) r (o1.trans Off.put) (by rw [upd_same, set_int]) (by rw [List.length_set, ol]) hr9
      rw [← er] at hq
      exact hq
    · refine ⟨_, rfl, _, _, rfl, rfl, .inr ⟨by decide, by decide⟩, .ref p, rfl, p, _, 0, _, rfl, rfl, SqL.of h1, atI_nat (j := 0) (at_int l1), _, _, rfl, rfl, .inr ⟨by decide, by decide⟩, _, _, rfl, rfl, _, _, rfl, rfl, .inl ⟨_, rfl, _, _, rfl, rfl, (show (0 : Int) < 2147483647 by decide), ?_⟩⟩
      refine ⟨.ref p, rfl, _, rfl, p, _, _, j, rfl, rfl, h1, ei, ?_⟩
      have h3 : (upd (upd H p (.lst ((ms.map V.int).set 0 (.int (ms[0] + 1))))) p (.lst (((ms.set 0 (ms[0] + 1)).map V.int).set j (.int (((ms.set 0 (ms[0] + 1))[j] * 48271 + (ms.set 0 (ms[0] + 1))[0] * 7919 + 11) % 2147483647))))) p
          = some (.lst (((ms.set 0 (ms[0] + 1)).set j (((ms.set 0 (ms[0] + 1))[j] * 48271 + (ms.set 0 (ms[0] + 1))[0] * 7919 + 11) % 2147483647)).map V.int)) := by rw [upd_same, set_int]
      have e3 : ((ms.set 0 (ms[0] + 1)).set j (((ms.set 0 (ms[0] + 1))[j] * 48271 + (ms.set 0 (ms[0] + 1))[0] * 7919 + 11) % 2147483647)).length = ms.length := by rw [List.length_set, ol]
      have ea2 : ∀ (l : List Int) (hl : l.length = ms.length), atI (l.map V.int) (1 + ((ms.set 0 (ms[0] + 1))[0] % ((((ms.set 0 (ms[0] + 1)).map V.int).length : Int) - 1))) = some (.int (l[j]'(by omega))) := fun l hl => by rw [ej]; exact atI_nat (at_int (by omega))
      refine ⟨.ref p, rfl, _, rfl, p, _, _, _, rfl, rfl, SqL.of h3, ea2 _ e3, _, _, rfl, rfl, ⟨by decide, by decide⟩, _, rfl, _, _, rfl, rfl, (show (0 : Int) < 9 by decide), ?_⟩
      generalize hz : (((ms.set 0 (ms[0] + 1)).set j (((ms.set 0 (ms[0] + 1))[j] * 48271 + (ms.set 0 (ms[0] + 1))[0] * 7919 + 11) % 2147483647))[j]'(by omega)) = z
      obtain ⟨r, er, hr9⟩ := toN9 (Int.emod_nonneg (z / 7) (show (9 : Int) ≠ 0 by decide)) (Int.emod_lt_of_pos (z / 7) (show (0 : Int) < 9 by decide))
      have hq := q _ _ r (o1.trans Off.put) h3 e3 hr9
      rw [← er] at hq
      exact hq
end
end K89

set_option Elab.async false
set_option linter.all false
set_option maxRecDepth 100000
set_option maxHeartbeats 8000000
namespace K89
open PySem PySem.Spec PyProof.Rows L2 FS
section
variable {P : Program} {w : World} {K : PySem.W.Frag} {mg : Str → Option Value} {base : Heap}
theorem boot_rep : bootBuiltins "repr" = some (.builtin "repr") := by decide +kernel
theorem boot_isi : bootBuiltins "isinstance" = some (.builtin "isinstance") := by decide +kernel
/-! ### the errors' own __init__ -/
theorem scI0 : FnScope ["self", "value"] ["self", "value"] (defScope (sI 10)) := ⟨rfl, rfl, rfl, by decide +kernel, rfl, by decide +kernel, by decide +kernel⟩
theorem ok_I0 {f C : Addr} {fd : FuncData} (F : Fun K "__init__" "NotFunction.__init__" (sI 10) f fd) (E : EC K mg "NotFunction" C f) (no0 : PySem.W.findIn K (.ref C) "value" = some none) : FnOk P w K mg base CX0 1 f fd ["self", "value"] (spI1 C "value") := by
  refine F.ok scI0 (fun vs H Q E h => ?_) (fun cdv A outer s H vs Q E1 hr h => ?_)
  · obtain ⟨a, v, rfl, _⟩ := h
    rfl
  · obtain ⟨a, v, rfl, ha, k⟩ := h
    refine ⟨_, pss_one (ps_ost (pv 0) (pv 1)), ?_⟩
    exact ⟨v, rfl, .ref a, rfl, a, C, rfl, E.oex, no0, .inl ⟨ha, fun dx n ne => k _ (off_first n) (err_first ne)⟩⟩
theorem scI1 : FnScope ["self", "one", "other", "later"] ["self", "one", "other", "later"] (defScope (sI 11)) := ⟨rfl, rfl, rfl, by decide +kernel, rfl, by decide +kernel, by decide +kernel⟩
theorem ok_I1 {f C : Addr} {fd : FuncData} (F : Fun K "__init__" "NotSure.__init__" (sI 11) f fd) (E : EC K mg "NotSure" C f) (no0 : PySem.W.findIn K (.ref C) "one" = some none) (no1 : PySem.W.findIn K (.ref C) "other" = some none) (no2 : PySem.W.findIn K (.ref C) "later" = some none) : FnOk P w K mg base CX0 1 f fd ["self", "one", "other", "later"] (spI3 C "one" "other" "later") := by
  refine F.ok scI1 (fun vs H Q E h => ?_) (fun cdv A outer s H vs Q E1 hr h => ?_)
  · obtain ⟨a, v, u, x, rfl, _⟩ := h
    rfl
  · obtain ⟨a, v, u, x, rfl, ha, k⟩ := h
    refine ⟨_, pss_cons (ps_ost (pv 0) (pv 1)) (pss_cons (ps_ost (pv 0) (pv 2)) (pss_one (ps_ost (pv 0) (pv 3)))), ?_⟩
    refine ⟨v, rfl, .ref a, rfl, a, C, rfl, E.oex, no0, .inl ⟨ha, fun dx n ne => ?_⟩⟩
    refine ⟨u, rfl, .ref a, rfl, a, C, rfl, E.oex, no1, .inr ⟨dx, [("one", v)], upd_same, (by rw [upd_ne ne, upd_same]), (by simp), ?_⟩⟩
    refine ⟨x, rfl, .ref a, rfl, a, C, rfl, E.oex, no2, .inr ⟨dx, [("other", u), ("one", v)], (by rw [upd_ne ne.symm, upd_same]), upd_same, (by simp), ?_⟩⟩
    exact k _ (off_third n) (err_next ne (by rw [upd_ne ne.symm, upd_same]))
theorem scI2 : FnScope ["self", "value"] ["self", "value"] (defScope (sI 12)) := ⟨rfl, rfl, rfl, by decide +kernel, rfl, by decide +kernel, by decide +kernel⟩
theorem ok_I2 {f C : Addr} {fd : FuncData} (F : Fun K "__init__" "Clash.__init__" (sI 12) f fd) (E : EC K mg "Clash" C f) (no0 : PySem.W.findIn K (.ref C) "value" = some none) : FnOk P w K mg base CX0 1 f fd ["self", "value"] (spI1 C "value") := by
  refine F.ok scI2 (fun vs H Q E h => ?_) (fun cdv A outer s H vs Q E1 hr h => ?_)
  · obtain ⟨a, v, rfl, _⟩ := h
    rfl
  · obtain ⟨a, v, rfl, ha, k⟩ := h
    refine ⟨_, pss_one (ps_ost (pv 0) (pv 1)), ?_⟩
    exact ⟨v, rfl, .ref a, rfl, a, C, rfl, E.oex, no0, .inl ⟨ha, fun dx n ne => k _ (off_first n) (err_first ne)⟩⟩
theorem scI3 : FnScope ["self", "row"] ["self", "row"] (defScope (sI 13)) := ⟨rfl, rfl, rfl, by decide +kernel, rfl, by decide +kernel, by decide +kernel⟩
theorem ok_I3 {f C : Addr} {fd : FuncData} (F : Fun K "__init__" "BadJournal.__init__" (sI 13) f fd) (E : EC K mg "BadJournal" C f) (no0 : PySem.W.findIn K (.ref C) "row" = some none) : FnOk P w K mg base CX0 1 f fd ["self", "row"] (spI1 C "row") := by
  refine F.ok scI3 (fun vs H Q E h => ?_) (fun cdv A outer s H vs Q E1 hr h => ?_)
  · obtain ⟨a, v, rfl, _⟩ := h
    rfl
  · obtain ⟨a, v, rfl, ha, k⟩ := h
    refine ⟨_, pss_one (ps_ost (pv 0) (pv 1)), ?_⟩
    exact ⟨v, rfl, .ref a, rfl, a, C, rfl, E.oex, no0, .inl ⟨ha, fun dx n ne => k _ (off_first n) (err_first ne)⟩⟩
theorem scI4 : FnScope ["self", "place"] ["self", "place"] (defScope (sI 14)) := ⟨rfl, rfl, rfl, by decide +kernel, rfl, by decide +kernel, by decide +kernel⟩
theorem ok_I4 {f C : Addr} {fd : FuncData} (F : Fun K "__init__" "BadQuestion.__init__" (sI 14) f fd) (E : EC K mg "BadQuestion" C f) (no0 : PySem.W.findIn K (.ref C) "place" = some none) : FnOk P w K mg base CX0 1 f fd ["self", "place"] (spI1 C "place") := by
  refine F.ok scI4 (fun vs H Q E h => ?_) (fun cdv A outer s H vs Q E1 hr h => ?_)
  · obtain ⟨a, v, rfl, _⟩ := h
    rfl
  · obtain ⟨a, v, rfl, ha, k⟩ := h
    refine ⟨_, pss_one (ps_ost (pv 0) (pv 1)), ?_⟩
    exact ⟨v, rfl, .ref a, rfl, a, C, rfl, E.oex, no0, .inl ⟨ha, fun dx n ne => k _ (off_first n) (err_first ne)⟩⟩
theorem scI5 : FnScope ["self", "moment"] ["self", "moment"] (defScope (sI 9)) := ⟨rfl, rfl, rfl, by decide +kernel, rfl, by decide +kernel, by decide +kernel⟩
theorem ok_I5 {f C : Addr} {fd : FuncData} (F : Fun K "__init__" "Noticed.__init__" (sI 9) f fd) (E : EC K mg "Noticed" C f) (no0 : PySem.W.findIn K (.ref C) "moment" = some none) : FnOk P w K mg base CX0 1 f fd ["self", "moment"] (spI1 C "moment") := by
  refine F.ok scI5 (fun vs H Q E h => ?_) (fun cdv A outer s H vs Q E1 hr h => ?_)
  · obtain ⟨a, v, rfl, _⟩ := h
    rfl
  · obtain ⟨a, v, rfl, ha, k⟩ := h
    refine ⟨_, pss_one (ps_ost (pv 0) (pv 1)), ?_⟩
    exact ⟨v, rfl, .ref a, rfl, a, C, rfl, E.oex, no0, .inl ⟨ha, fun dx n ne => k _ (off_first n) (err_first ne)⟩⟩
/-! ### what the law asks of the text -/
structure Txt (K : PySem.W.Frag) (mg : Str → Option Value) (Cf C0 f0 C1 f1 C2 f2 C3 f3 C4 f4 C5 f5 O0 O1 O2 O3 O4 O5 O6 : Addr) : Prop where
  gF : mg "FoldError" = some (.ref Cf)
  hF : PySem.W.hasDictIn K Cf = true
  tF : PySem.W.typeIn K (.ref Cf) = some (.type "type")
  gO0 : mg "BadText" = some (.ref O0)
  hO0 : PySem.W.hasDictIn K O0 = true
  tO0 : PySem.W.typeIn K (.ref O0) = some (.type "type")
  sO0 : PySem.W.subIn K (.ref O0) (.ref O0) = some true
  gO1 : mg "BadName" = some (.ref O1)
  hO1 : PySem.W.hasDictIn K O1 = true
  tO1 : PySem.W.typeIn K (.ref O1) = some (.type "type")
  sO1 : PySem.W.subIn K (.ref O1) (.ref O1) = some true
  gO2 : mg "BadModule" = some (.ref O2)
  hO2 : PySem.W.hasDictIn K O2 = true
  tO2 : PySem.W.typeIn K (.ref O2) = some (.type "type")
  sO2 : PySem.W.subIn K (.ref O2) (.ref O2) = some true
  gO3 : mg "BadValue" = some (.ref O3)
  hO3 : PySem.W.hasDictIn K O3 = true
  tO3 : PySem.W.typeIn K (.ref O3) = some (.type "type")
  sO3 : PySem.W.subIn K (.ref O3) (.ref O3) = some true
  gO4 : mg "UnknownName" = some (.ref O4)
  hO4 : PySem.W.hasDictIn K O4 = true
  tO4 : PySem.W.typeIn K (.ref O4) = some (.type "type")
  sO4 : PySem.W.subIn K (.ref O4) (.ref O4) = some true
  gO5 : mg "LimitExceeded" = some (.ref O5)
  hO5 : PySem.W.hasDictIn K O5 = true
  tO5 : PySem.W.typeIn K (.ref O5) = some (.type "type")
  sO5 : PySem.W.subIn K (.ref O5) (.ref O5) = some true
  gO6 : mg "NotLegal" = some (.ref O6)
  hO6 : PySem.W.hasDictIn K O6 = true
  tO6 : PySem.W.typeIn K (.ref O6) = some (.type "type")
  sO6 : PySem.W.subIn K (.ref O6) (.ref O6) = some true
  e0 : EC K mg "NotFunction" C0 f0
  n0_value : PySem.W.findIn K (.ref C0) "value" = some none
  sF0 : PySem.W.subIn K (.ref C0) (.ref Cf) = some true
  sV0 : PySem.W.subIn K (.ref C0) (.type "ValueError") = some true
  s0_0 : PySem.W.subIn K (.ref C0) (.ref C0) = some true
  s0_1 : PySem.W.subIn K (.ref C0) (.ref C1) = some false
  s0_2 : PySem.W.subIn K (.ref C0) (.ref C2) = some false
  s0_3 : PySem.W.subIn K (.ref C0) (.ref C3) = some false
  s0_4 : PySem.W.subIn K (.ref C0) (.ref C4) = some false
  s0_5 : PySem.W.subIn K (.ref C0) (.ref C5) = some false
  o0_0 : PySem.W.subIn K (.ref C0) (.ref O0) = some false
  o0_1 : PySem.W.subIn K (.ref C0) (.ref O1) = some false
  o0_2 : PySem.W.subIn K (.ref C0) (.ref O2) = some false
  o0_3 : PySem.W.subIn K (.ref C0) (.ref O3) = some false
  o0_4 : PySem.W.subIn K (.ref C0) (.ref O4) = some false
  o0_5 : PySem.W.subIn K (.ref C0) (.ref O5) = some false
  o0_6 : PySem.W.subIn K (.ref C0) (.ref O6) = some false
  e1 : EC K mg "NotSure" C1 f1
  n1_one : PySem.W.findIn K (.ref C1) "one" = some none
  n1_other : PySem.W.findIn K (.ref C1) "other" = some none
  n1_later : PySem.W.findIn K (.ref C1) "later" = some none
  sF1 : PySem.W.subIn K (.ref C1) (.ref Cf) = some true
  sV1 : PySem.W.subIn K (.ref C1) (.type "ValueError") = some true
  s1_0 : PySem.W.subIn K (.ref C1) (.ref C0) = some false
  s1_1 : PySem.W.subIn K (.ref C1) (.ref C1) = some true
  s1_2 : PySem.W.subIn K (.ref C1) (.ref C2) = some false
  s1_3 : PySem.W.subIn K (.ref C1) (.ref C3) = some false
  s1_4 : PySem.W.subIn K (.ref C1) (.ref C4) = some false
  s1_5 : PySem.W.subIn K (.ref C1) (.ref C5) = some false
  o1_0 : PySem.W.subIn K (.ref C1) (.ref O0) = some false
  o1_1 : PySem.W.subIn K (.ref C1) (.ref O1) = some false
  o1_2 : PySem.W.subIn K (.ref C1) (.ref O2) = some false
  o1_3 : PySem.W.subIn K (.ref C1) (.ref O3) = some false
  o1_4 : PySem.W.subIn K (.ref C1) (.ref O4) = some false
  o1_5 : PySem.W.subIn K (.ref C1) (.ref O5) = some false
  o1_6 : PySem.W.subIn K (.ref C1) (.ref O6) = some false
  e2 : EC K mg "Clash" C2 f2
  n2_value : PySem.W.findIn K (.ref C2) "value" = some none
  sF2 : PySem.W.subIn K (.ref C2) (.ref Cf) = some true
  sV2 : PySem.W.subIn K (.ref C2) (.type "ValueError") = some true
  s2_0 : PySem.W.subIn K (.ref C2) (.ref C0) = some false
  s2_1 : PySem.W.subIn K (.ref C2) (.ref C1) = some false
  s2_2 : PySem.W.subIn K (.ref C2) (.ref C2) = some true
  s2_3 : PySem.W.subIn K (.ref C2) (.ref C3) = some false
  s2_4 : PySem.W.subIn K (.ref C2) (.ref C4) = some false
  s2_5 : PySem.W.subIn K (.ref C2) (.ref C5) = some false
  o2_0 : PySem.W.subIn K (.ref C2) (.ref O0) = some false
  o2_1 : PySem.W.subIn K (.ref C2) (.ref O1) = some false
  o2_2 : PySem.W.subIn K (.ref C2) (.ref O2) = some false
  o2_3 : PySem.W.subIn K (.ref C2) (.ref O3) = some false
  o2_4 : PySem.W.subIn K (.ref C2) (.ref O4) = some false
  o2_5 : PySem.W.subIn K (.ref C2) (.ref O5) = some false
  o2_6 : PySem.W.subIn K (.ref C2) (.ref O6) = some false
  e3 : EC K mg "BadJournal" C3 f3
  n3_row : PySem.W.findIn K (.ref C3) "row" = some none
  sF3 : PySem.W.subIn K (.ref C3) (.ref Cf) = some true
  sV3 : PySem.W.subIn K (.ref C3) (.type "ValueError") = some true
  s3_0 : PySem.W.subIn K (.ref C3) (.ref C0) = some false
  s3_1 : PySem.W.subIn K (.ref C3) (.ref C1) = some false
  s3_2 : PySem.W.subIn K (.ref C3) (.ref C2) = some false
  s3_3 : PySem.W.subIn K (.ref C3) (.ref C3) = some true
  s3_4 : PySem.W.subIn K (.ref C3) (.ref C4) = some false
  s3_5 : PySem.W.subIn K (.ref C3) (.ref C5) = some false
  o3_0 : PySem.W.subIn K (.ref C3) (.ref O0) = some false
  o3_1 : PySem.W.subIn K (.ref C3) (.ref O1) = some false
  o3_2 : PySem.W.subIn K (.ref C3) (.ref O2) = some false
  o3_3 : PySem.W.subIn K (.ref C3) (.ref O3) = some false
  o3_4 : PySem.W.subIn K (.ref C3) (.ref O4) = some false
  o3_5 : PySem.W.subIn K (.ref C3) (.ref O5) = some false
  o3_6 : PySem.W.subIn K (.ref C3) (.ref O6) = some false
  e4 : EC K mg "BadQuestion" C4 f4
  n4_place : PySem.W.findIn K (.ref C4) "place" = some none
  sF4 : PySem.W.subIn K (.ref C4) (.ref Cf) = some true
  sV4 : PySem.W.subIn K (.ref C4) (.type "ValueError") = some true
  s4_0 : PySem.W.subIn K (.ref C4) (.ref C0) = some false
  s4_1 : PySem.W.subIn K (.ref C4) (.ref C1) = some false
  s4_2 : PySem.W.subIn K (.ref C4) (.ref C2) = some false
  s4_3 : PySem.W.subIn K (.ref C4) (.ref C3) = some false
  s4_4 : PySem.W.subIn K (.ref C4) (.ref C4) = some true
  s4_5 : PySem.W.subIn K (.ref C4) (.ref C5) = some false
  o4_0 : PySem.W.subIn K (.ref C4) (.ref O0) = some false
  o4_1 : PySem.W.subIn K (.ref C4) (.ref O1) = some false
  o4_2 : PySem.W.subIn K (.ref C4) (.ref O2) = some false
  o4_3 : PySem.W.subIn K (.ref C4) (.ref O3) = some false
  o4_4 : PySem.W.subIn K (.ref C4) (.ref O4) = some false
  o4_5 : PySem.W.subIn K (.ref C4) (.ref O5) = some false
  o4_6 : PySem.W.subIn K (.ref C4) (.ref O6) = some false
  e5 : EC K mg "Noticed" C5 f5
  n5_moment : PySem.W.findIn K (.ref C5) "moment" = some none
  sF5 : PySem.W.subIn K (.ref C5) (.ref Cf) = some true
  sV5 : PySem.W.subIn K (.ref C5) (.type "ValueError") = some true
  s5_0 : PySem.W.subIn K (.ref C5) (.ref C0) = some false
  s5_1 : PySem.W.subIn K (.ref C5) (.ref C1) = some false
  s5_2 : PySem.W.subIn K (.ref C5) (.ref C2) = some false
  s5_3 : PySem.W.subIn K (.ref C5) (.ref C3) = some false
  s5_4 : PySem.W.subIn K (.ref C5) (.ref C4) = some false
  s5_5 : PySem.W.subIn K (.ref C5) (.ref C5) = some true
  o5_0 : PySem.W.subIn K (.ref C5) (.ref O0) = some false
  o5_1 : PySem.W.subIn K (.ref C5) (.ref O1) = some false
  o5_2 : PySem.W.subIn K (.ref C5) (.ref O2) = some false
  o5_3 : PySem.W.subIn K (.ref C5) (.ref O3) = some false
  o5_4 : PySem.W.subIn K (.ref C5) (.ref O4) = some false
  o5_5 : PySem.W.subIn K (.ref C5) (.ref O5) = some false
  o5_6 : PySem.W.subIn K (.ref C5) (.ref O6) = some false
  zlen : mg "len" = none
  zlist : mg "list" = none
  zint : mg "int" = none
  zrange : mg "range" = none
  zrepr : mg "repr" = none
  zisinstance : mg "isinstance" = none
  zValueError : mg "ValueError" = none
theorem ne_cls {K : PySem.W.Frag} {D C : Addr} (h : PySem.W.subIn K (.ref D) (.ref C) = some false) (h2 : PySem.W.subIn K (.ref C) (.ref C) = some true) : D = C → false = true := fun e => by
  subst e
  rw [h] at h2
  cases h2
structure Sig (K : PySem.W.Frag) (Cf C0 C1 C2 C3 C4 C5 O0 O1 O2 O3 O4 O5 O6 C : Addr) (b0 b1 b2 b3 b4 b5 : Bool) : Prop where
  ec : ExcC K C
  k0 : PySem.W.kitOne K (.ref C) (.ref C0) = some b0
  k1 : PySem.W.kitOne K (.ref C) (.ref C1) = some b1
  k2 : PySem.W.kitOne K (.ref C) (.ref C2) = some b2
  k3 : PySem.W.kitOne K (.ref C) (.ref C3) = some b3
  k4 : PySem.W.kitOne K (.ref C) (.ref C4) = some b4
  k5 : PySem.W.kitOne K (.ref C) (.ref C5) = some b5
  q0 : PySem.W.kitOne K (.ref C) (.ref O0) = some false
  q1 : PySem.W.kitOne K (.ref C) (.ref O1) = some false
  q2 : PySem.W.kitOne K (.ref C) (.ref O2) = some false
  q3 : PySem.W.kitOne K (.ref C) (.ref O3) = some false
  q4 : PySem.W.kitOne K (.ref C) (.ref O4) = some false
  q5 : PySem.W.kitOne K (.ref C) (.ref O5) = some false
  q6 : PySem.W.kitOne K (.ref C) (.ref O6) = some false
  kF : PySem.W.kitOne K (.ref C) (.ref Cf) = some true
  kV : PySem.W.kitOne K (.ref C) (.type "ValueError") = some true
theorem sig0 {Cf C0 f0 C1 f1 C2 f2 C3 f3 C4 f4 C5 f5 O0 O1 O2 O3 O4 O5 O6 : Addr} (T : Txt K mg Cf C0 f0 C1 f1 C2 f2 C3 f3 C4 f4 C5 f5 O0 O1 O2 O3 O4 O5 O6) : Sig K Cf C0 C1 C2 C3 C4 C5 O0 O1 O2 O3 O4 O5 O6 C0 true false false false false false := {
  ec := T.e0.ec, kF := kit_own T.hF T.tF T.sF0 (fun _ => rfl), kV := kit_ve T.sV0
  k0 := kit_own T.e0.ec.hd T.e0.oex.tyC T.s0_0 (fun _ => rfl)
  k1 := kit_own T.e1.ec.hd T.e1.oex.tyC T.s0_1 (ne_cls T.s0_1 T.s1_1)
  k2 := kit_own T.e2.ec.hd T.e2.oex.tyC T.s0_2 (ne_cls T.s0_2 T.s2_2)
  k3 := kit_own T.e3.ec.hd T.e3.oex.tyC T.s0_3 (ne_cls T.s0_3 T.s3_3)
  k4 := kit_own T.e4.ec.hd T.e4.oex.tyC T.s0_4 (ne_cls T.s0_4 T.s4_4)
  k5 := kit_own T.e5.ec.hd T.e5.oex.tyC T.s0_5 (ne_cls T.s0_5 T.s5_5)
  q0 := kit_own T.hO0 T.tO0 T.o0_0 (ne_cls T.o0_0 T.sO0)
  q1 := kit_own T.hO1 T.tO1 T.o0_1 (ne_cls T.o0_1 T.sO1)
  q2 := kit_own T.hO2 T.tO2 T.o0_2 (ne_cls T.o0_2 T.sO2)
  q3 := kit_own T.hO3 T.tO3 T.o0_3 (ne_cls T.o0_3 T.sO3)
  q4 := kit_own T.hO4 T.tO4 T.o0_4 (ne_cls T.o0_4 T.sO4)
  q5 := kit_own T.hO5 T.tO5 T.o0_5 (ne_cls T.o0_5 T.sO5)
  q6 := kit_own T.hO6 T.tO6 T.o0_6 (ne_cls T.o0_6 T.sO6)
}
theorem sig1 {Cf C0 f0 C1 f1 C2 f2 C3 f3 C4 f4 C5 f5 O0 O1 O2 O3 O4 O5 O6 : Addr} (T : Txt K mg Cf C0 f0 C1 f1 C2 f2 C3 f3 C4 f4 C5 f5 O0 O1 O2 O3 O4 O5 O6) : Sig K Cf C0 C1 C2 C3 C4 C5 O0 O1 O2 O3 O4 O5 O6 C1 false true false false false false := {
  ec := T.e1.ec, kF := kit_own T.hF T.tF T.sF1 (fun _ => rfl), kV := kit_ve T.sV1
  k0 := kit_own T.e0.ec.hd T.e0.oex.tyC T.s1_0 (ne_cls T.s1_0 T.s0_0)
  k1 := kit_own T.e1.ec.hd T.e1.oex.tyC T.s1_1 (fun _ => rfl)
  k2 := kit_own T.e2.ec.hd T.e2.oex.tyC T.s1_2 (ne_cls T.s1_2 T.s2_2)
  k3 := kit_own T.e3.ec.hd T.e3.oex.tyC T.s1_3 (ne_cls T.s1_3 T.s3_3)
  k4 := kit_own T.e4.ec.hd T.e4.oex.tyC T.s1_4 (ne_cls T.s1_4 T.s4_4)
  k5 := kit_own T.e5.ec.hd T.e5.oex.tyC T.s1_5 (ne_cls T.s1_5 T.s5_5)
  q0 := kit_own T.hO0 T.tO0 T.o1_0 (ne_cls T.o1_0 T.sO0)
  q1 := kit_own T.hO1 T.tO1 T.o1_1 (ne_cls T.o1_1 T.sO1)
  q2 := kit_own T.hO2 T.tO2 T.o1_2 (ne_cls T.o1_2 T.sO2)
  q3 := kit_own T.hO3 T.tO3 T.o1_3 (ne_cls T.o1_3 T.sO3)
  q4 := kit_own T.hO4 T.tO4 T.o1_4 (ne_cls T.o1_4 T.sO4)
  q5 := kit_own T.hO5 T.tO5 T.o1_5 (ne_cls T.o1_5 T.sO5)
  q6 := kit_own T.hO6 T.tO6 T.o1_6 (ne_cls T.o1_6 T.sO6)
}
theorem sig2 {Cf C0 f0 C1 f1 C2 f2 C3 f3 C4 f4 C5 f5 O0 O1 O2 O3 O4 O5 O6 : Addr} (T : Txt K mg Cf C0 f0 C1 f1 C2 f2 C3 f3 C4 f4 C5 f5 O0 O1 O2 O3 O4 O5 O6) : Sig K Cf C0 C1 C2 C3 C4 C5 O0 O1 O2 O3 O4 O5 O6 C2 false false true false false false := {
  ec := T.e2.ec, kF := kit_own T.hF T.tF T.sF2 (fun _ => rfl), kV := kit_ve T.sV2
  k0 := kit_own T.e0.ec.hd T.e0.oex.tyC T.s2_0 (ne_cls T.s2_0 T.s0_0)
  k1 := kit_own T.e1.ec.hd T.e1.oex.tyC T.s2_1 (ne_cls T.s2_1 T.s1_1)
  k2 := kit_own T.e2.ec.hd T.e2.oex.tyC T.s2_2 (fun _ => rfl)
  k3 := kit_own T.e3.ec.hd T.e3.oex.tyC T.s2_3 (ne_cls T.s2_3 T.s3_3)
  k4 := kit_own T.e4.ec.hd T.e4.oex.tyC T.s2_4 (ne_cls T.s2_4 T.s4_4)
  k5 := kit_own T.e5.ec.hd T.e5.oex.tyC T.s2_5 (ne_cls T.s2_5 T.s5_5)
  q0 := kit_own T.hO0 T.tO0 T.o2_0 (ne_cls T.o2_0 T.sO0)
  q1 := kit_own T.hO1 T.tO1 T.o2_1 (ne_cls T.o2_1 T.sO1)
  q2 := kit_own T.hO2 T.tO2 T.o2_2 (ne_cls T.o2_2 T.sO2)
  q3 := kit_own T.hO3 T.tO3 T.o2_3 (ne_cls T.o2_3 T.sO3)
  q4 := kit_own T.hO4 T.tO4 T.o2_4 (ne_cls T.o2_4 T.sO4)
  q5 := kit_own T.hO5 T.tO5 T.o2_5 (ne_cls T.o2_5 T.sO5)
  q6 := kit_own T.hO6 T.tO6 T.o2_6 (ne_cls T.o2_6 T.sO6)
}
theorem sig3 {Cf C0 f0 C1 f1 C2 f2 C3 f3 C4 f4 C5 f5 O0 O1 O2 O3 O4 O5 O6 : Addr} (T : Txt K mg Cf C0 f0 C1 f1 C2 f2 C3 f3 C4 f4 C5 f5 O0 O1 O2 O3 O4 O5 O6) : Sig K Cf C0 C1 C2 C3 C4 C5 O0 O1 O2 O3 O4 O5 O6 C3 false false false true false false := {
  ec := T.e3.ec, kF := kit_own T.hF T.tF T.sF3 (fun _ => rfl), kV := kit_ve T.sV3
  k0 := kit_own T.e0.ec.hd T.e0.oex.tyC T.s3_0 (ne_cls T.s3_0 T.s0_0)
  k1 := kit_own T.e1.ec.hd T.e1.oex.tyC T.s3_1 (ne_cls T.s3_1 T.s1_1)
  k2 := kit_own T.e2.ec.hd T.e2.oex.tyC T.s3_2 (ne_cls T.s3_2 T.s2_2)
  k3 := kit_own T.e3.ec.hd T.e3.oex.tyC T.s3_3 (fun _ => rfl)
  k4 := kit_own T.e4.ec.hd T.e4.oex.tyC T.s3_4 (ne_cls T.s3_4 T.s4_4)
  k5 := kit_own T.e5.ec.hd T.e5.oex.tyC T.s3_5 (ne_cls T.s3_5 T.s5_5)
  q0 := kit_own T.hO0 T.tO0 T.o3_0 (ne_cls T.o3_0 T.sO0)
  q1 := kit_own T.hO1 T.tO1 T.o3_1 (ne_cls T.o3_1 T.sO1)
  q2 := kit_own T.hO2 T.tO2 T.o3_2 (ne_cls T.o3_2 T.sO2)
  q3 := kit_own T.hO3 T.tO3 T.o3_3 (ne_cls T.o3_3 T.sO3)
  q4 := kit_own T.hO4 T.tO4 T.o3_4 (ne_cls T.o3_4 T.sO4)
  q5 := kit_own T.hO5 T.tO5 T.o3_5 (ne_cls T.o3_5 T.sO5)
  q6 := kit_own T.hO6 T.tO6 T.o3_6 (ne_cls T.o3_6 T.sO6)
}
theorem sig4 {Cf C0 f0 C1 f1 C2 f2 C3 f3 C4 f4 C5 f5 O0 O1 O2 O3 O4 O5 O6 : Addr} (T : Txt K mg Cf C0 f0 C1 f1 C2 f2 C3 f3 C4 f4 C5 f5 O0 O1 O2 O3 O4 O5 O6) : Sig K Cf C0 C1 C2 C3 C4 C5 O0 O1 O2 O3 O4 O5 O6 C4 false false false false true false := {
  ec := T.e4.ec, kF := kit_own T.hF T.tF T.sF4 (fun _ => rfl), kV := kit_ve T.sV4
  k0 := kit_own T.e0.ec.hd T.e0.oex.tyC T.s4_0 (ne_cls T.s4_0 T.s0_0)
  k1 := kit_own T.e1.ec.hd T.e1.oex.tyC T.s4_1 (ne_cls T.s4_1 T.s1_1)
  k2 := kit_own T.e2.ec.hd T.e2.oex.tyC T.s4_2 (ne_cls T.s4_2 T.s2_2)
  k3 := kit_own T.e3.ec.hd T.e3.oex.tyC T.s4_3 (ne_cls T.s4_3 T.s3_3)
  k4 := kit_own T.e4.ec.hd T.e4.oex.tyC T.s4_4 (fun _ => rfl)
  k5 := kit_own T.e5.ec.hd T.e5.oex.tyC T.s4_5 (ne_cls T.s4_5 T.s5_5)
  q0 := kit_own T.hO0 T.tO0 T.o4_0 (ne_cls T.o4_0 T.sO0)
  q1 := kit_own T.hO1 T.tO1 T.o4_1 (ne_cls T.o4_1 T.sO1)
  q2 := kit_own T.hO2 T.tO2 T.o4_2 (ne_cls T.o4_2 T.sO2)
  q3 := kit_own T.hO3 T.tO3 T.o4_3 (ne_cls T.o4_3 T.sO3)
  q4 := kit_own T.hO4 T.tO4 T.o4_4 (ne_cls T.o4_4 T.sO4)
  q5 := kit_own T.hO5 T.tO5 T.o4_5 (ne_cls T.o4_5 T.sO5)
  q6 := kit_own T.hO6 T.tO6 T.o4_6 (ne_cls T.o4_6 T.sO6)
}
theorem sig5 {Cf C0 f0 C1 f1 C2 f2 C3 f3 C4 f4 C5 f5 O0 O1 O2 O3 O4 O5 O6 : Addr} (T : Txt K mg Cf C0 f0 C1 f1 C2 f2 C3 f3 C4 f4 C5 f5 O0 O1 O2 O3 O4 O5 O6) : Sig K Cf C0 C1 C2 C3 C4 C5 O0 O1 O2 O3 O4 O5 O6 C5 false false false false false true := {
  ec := T.e5.ec, kF := kit_own T.hF T.tF T.sF5 (fun _ => rfl), kV := kit_ve T.sV5
  k0 := kit_own T.e0.ec.hd T.e0.oex.tyC T.s5_0 (ne_cls T.s5_0 T.s0_0)
  k1 := kit_own T.e1.ec.hd T.e1.oex.tyC T.s5_1 (ne_cls T.s5_1 T.s1_1)
  k2 := kit_own T.e2.ec.hd T.e2.oex.tyC T.s5_2 (ne_cls T.s5_2 T.s2_2)
  k3 := kit_own T.e3.ec.hd T.e3.oex.tyC T.s5_3 (ne_cls T.s5_3 T.s3_3)
  k4 := kit_own T.e4.ec.hd T.e4.oex.tyC T.s5_4 (ne_cls T.s5_4 T.s4_4)
  k5 := kit_own T.e5.ec.hd T.e5.oex.tyC T.s5_5 (fun _ => rfl)
  q0 := kit_own T.hO0 T.tO0 T.o5_0 (ne_cls T.o5_0 T.sO0)
  q1 := kit_own T.hO1 T.tO1 T.o5_1 (ne_cls T.o5_1 T.sO1)
  q2 := kit_own T.hO2 T.tO2 T.o5_2 (ne_cls T.o5_2 T.sO2)
  q3 := kit_own T.hO3 T.tO3 T.o5_3 (ne_cls T.o5_3 T.sO3)
  q4 := kit_own T.hO4 T.tO4 T.o5_4 (ne_cls T.o5_4 T.sO4)
  q5 := kit_own T.hO5 T.tO5 T.o5_5 (ne_cls T.o5_5 T.sO5)
  q6 := kit_own T.hO6 T.tO6 T.o5_6 (ne_cls T.o5_6 T.sO6)
}
theorem kk (C : Addr) (u : Value) (h : RelV (V.ref C) u) : u = Value.ref C := h
theorem kv (u : Value) (h : RelV (V.ty "ValueError") u) : u = Value.type "ValueError" := h
/-! ### _law_signs -/
def spSigns (K : PySem.W.Frag) (Cf C0 C1 C2 C3 C4 C5 O0 O1 O2 O3 O4 O5 O6 : Addr) : Sp := fun vs H Q _ => ∃ (a C : Addr) (fs : List (Str × V)) (b0 b1 b2 b3 b4 b5 : Bool), vs = [.ref a] ∧ ErrAt H a C fs ∧ Sig K Cf C0 C1 C2 C3 C4 C5 O0 O1 O2 O3 O4 O5 O6 C b0 b1 b2 b3 b4 b5 ∧
  ∀ H' l sg, Same H H' → H' l = some (.lst [.ref sg, .bl true]) → H' sg = some (.lst [.bl b0, .bl b1, .bl b2, .bl b3, .bl b4, .bl b5]) → Q (.ref l) H'
theorem scS : FnScope ["_law_error", "_law_signs_here", "_law_others"] ["_law_error"] (defScope sSigns) := ⟨rfl, rfl, rfl, by decide +kernel, rfl, by decide +kernel, by decide +kernel⟩
theorem ok_signs {f Cf C0 f0 C1 f1 C2 f2 C3 f3 C4 f4 C5 f5 O0 O1 O2 O3 O4 O5 O6 : Addr} {fd : FuncData} {k : Nat} (F : Fun K "_law_signs" "_law_signs" sSigns f fd) (T : Txt K mg Cf C0 f0 C1 f1 C2 f2 C3 f3 C4 f4 C5 f5 O0 O1 O2 O3 O4 O5 O6) : FnOk P w K mg base CX0 (k + 1) f fd ["_law_error"] (spSigns K Cf C0 C1 C2 C3 C4 C5 O0 O1 O2 O3 O4 O5 O6) := by
  refine F.ok scS (fun vs H Q E h => ?_) (fun cdv A outer s H vs Q E hr h => ?_)
  · obtain ⟨a, C, fs, b0, b1, b2, b3, b4, b5, rfl, _⟩ := h
    rfl
  · obtain ⟨a, C, fs, b0, b1, b2, b3, b4, b5, rfl, er, sg, q⟩ := h
    refine ⟨_, (pss_cons (ps_set (i := 1) scS.nd rfl (.inl rfl) (pe_lstS (pa_cons (pe_isi (K := K) (pe_callB (id := "isinstance") (r := rIsO K) call_isO (by rfl) T.zisinstance boot_isi (pa_cons (pv 0) (pa_cons (pe_glob rfl T.e0.gC (v := .ref C0) rfl) pa_nil)))) (pa_cons (pe_isi (K := K) (pe_callB (id := "isinstance") (r := rIsO K) call_isO (by rfl) T.zisinstance boot_isi (pa_cons (pv 0) (pa_cons (pe_glob rfl T.e1.gC (v := .ref C1) rfl) pa_nil)))) (pa_cons (pe_isi (K := K) (pe_callB (id := "isinstance") (r := rIsO K) call_isO (by rfl) T.zisinstance boot_isi (pa_cons (pv 0) (pa_cons (pe_glob rfl T.e2.gC (v := .ref C2) rfl) pa_nil)))) pa_nil)))))
        (pss_cons (ps_set (i := 1) scS.nd rfl (.inl rfl) (pe_op op_catS (pv 1) (pe_lstS (pa_cons (pe_isi (K := K) (pe_callB (id := "isinstance") (r := rIsO K) call_isO (by rfl) T.zisinstance boot_isi (pa_cons (pv 0) (pa_cons (pe_glob rfl T.e3.gC (v := .ref C3) rfl) pa_nil)))) (pa_cons (pe_isi (K := K) (pe_callB (id := "isinstance") (r := rIsO K) call_isO (by rfl) T.zisinstance boot_isi (pa_cons (pv 0) (pa_cons (pe_glob rfl T.e4.gC (v := .ref C4) rfl) pa_nil)))) (pa_cons (pe_isi (K := K) (pe_callB (id := "isinstance") (r := rIsO K) call_isO (by rfl) T.zisinstance boot_isi (pa_cons (pv 0) (pa_cons (pe_glob rfl T.e5.gC (v := .ref C5) rfl) pa_nil)))) pa_nil))))))
        (pss_cons (ps_set (i := 2) scS.nd rfl (.inl rfl) (pe_lstS (pa_cons (pe_isi (K := K) (pe_callB (id := "isinstance") (r := rIsO K) call_isO (by rfl) T.zisinstance boot_isi (pa_cons (pv 0) (pa_cons (pe_glob rfl T.gO0 (v := .ref O0) rfl) pa_nil)))) (pa_cons (pe_isi (K := K) (pe_callB (id := "isinstance") (r := rIsO K) call_isO (by rfl) T.zisinstance boot_isi (pa_cons (pv 0) (pa_cons (pe_glob rfl T.gO1 (v := .ref O1) rfl) pa_nil)))) (pa_cons (pe_isi (K := K) (pe_callB (id := "isinstance") (r := rIsO K) call_isO (by rfl) T.zisinstance boot_isi (pa_cons (pv 0) (pa_cons (pe_glob rfl T.gO2 (v := .ref O2) rfl) pa_nil)))) pa_nil)))))
        (pss_cons (ps_set (i := 2) scS.nd rfl (.inl rfl) (pe_op op_catS (pv 2) (pe_lstS (pa_cons (pe_isi (K := K) (pe_callB (id := "isinstance") (r := rIsO K) call_isO (by rfl) T.zisinstance boot_isi (pa_cons (pv 0) (pa_cons (pe_glob rfl T.gO3 (v := .ref O3) rfl) pa_nil)))) (pa_cons (pe_isi (K := K) (pe_callB (id := "isinstance") (r := rIsO K) call_isO (by rfl) T.zisinstance boot_isi (pa_cons (pv 0) (pa_cons (pe_glob rfl T.gO4 (v := .ref O4) rfl) pa_nil)))) (pa_cons (pe_isi (K := K) (pe_callB (id := "isinstance") (r := rIsO K) call_isO (by rfl) T.zisinstance boot_isi (pa_cons (pv 0) (pa_cons (pe_glob rfl T.gO5 (v := .ref O5) rfl) pa_nil)))) pa_nil))))))
        (pss_cons (ps_expr (pe_bm PySem.F.plainAttrs_list PySem.F.slot_list_append PySem.F.type_list_append mt_append (pv 2) (pa_cons (pe_isi (K := K) (pe_callB (id := "isinstance") (r := rIsO K) call_isO (by rfl) T.zisinstance boot_isi (pa_cons (pv 0) (pa_cons (pe_glob rfl T.gO6 (v := .ref O6) rfl) pa_nil)))) pa_nil)))
        (pss_one (ps_ret (pe_lstS (pa_cons (pv 1) (pa_cons (pe_and (pe_cmpR (op_eqD hr.units) (pv 2) (pe_op op_repS (pe_lstS (pa_cons pe_bl pa_nil)) pe_int) (nomark _)) (pe_and (pe_isi (K := K) (pe_callB (id := "isinstance") (r := rIsO K) call_isO (by rfl) T.zisinstance boot_isi (pa_cons (pv 0) (pa_cons (pe_glob rfl T.gF (v := .ref Cf) rfl) pa_nil)))) (pe_one (pe_isi (K := K) (pe_callB (id := "isinstance") (r := rIsO K) call_isO (by rfl) T.zisinstance boot_isi (pa_cons (pv 0) (pa_cons (pe_bltn rfl T.zValueError (by decide +kernel) (v := .ty "ValueError") rfl) pa_nil))))))) pa_nil)))))))))), ?_⟩
    refine ⟨.ref a, rfl, isi_one (er) sg.ec (kk _) sg.k0 ?_⟩
    refine ⟨.ref a, rfl, isi_one (er) sg.ec (kk _) sg.k1 ?_⟩
    refine ⟨.ref a, rfl, isi_one (er) sg.ec (kk _) sg.k2 ?_⟩
    refine ⟨by simp, fun l1 H1 s1 n1 h1 => ?_⟩
    refine ⟨.ref l1, rfl, ?_⟩
    refine ⟨.ref a, rfl, isi_one (er.mono (s1)) sg.ec (kk _) sg.k3 ?_⟩
    refine ⟨.ref a, rfl, isi_one (er.mono (s1)) sg.ec (kk _) sg.k4 ?_⟩
    refine ⟨.ref a, rfl, isi_one (er.mono (s1)) sg.ec (kk _) sg.k5 ?_⟩
    refine ⟨by simp, fun l2 H2 s2 n2 h2 => ?_⟩
    refine ⟨_, _, _, _, rfl, rfl, s2 _ _ h1, h2, by simp, fun g3 H3 s3 n3 h3 => ?_⟩
    have t3 := s1.trans (s2.trans s3)
    refine ⟨.ref a, rfl, isi_one (er.mono (t3)) sg.ec (kk _) sg.q0 ?_⟩
    refine ⟨.ref a, rfl, isi_one (er.mono (t3)) sg.ec (kk _) sg.q1 ?_⟩
    refine ⟨.ref a, rfl, isi_one (er.mono (t3)) sg.ec (kk _) sg.q2 ?_⟩
    refine ⟨by simp, fun l4 H4 s4 n4 h4 => ?_⟩
    refine ⟨.ref l4, rfl, ?_⟩
    refine ⟨.ref a, rfl, isi_one (er.mono (t3.trans s4)) sg.ec (kk _) sg.q3 ?_⟩
    refine ⟨.ref a, rfl, isi_one (er.mono (t3.trans s4)) sg.ec (kk _) sg.q4 ?_⟩
    refine ⟨.ref a, rfl, isi_one (er.mono (t3.trans s4)) sg.ec (kk _) sg.q5 ?_⟩
    refine ⟨by simp, fun l5 H5 s5 n5 h5 => ?_⟩
    refine ⟨_, _, _, _, rfl, rfl, s5 _ _ h4, h5, by simp, fun o6 H6 s6 n6 h6 => ?_⟩
    have t6 := t3.trans (s4.trans (s5.trans s6))
    have hg := s6 _ _ (s5 _ _ (s4 _ _ h3))
    refine ⟨.ref o6, rfl, .inl ⟨rfl, _, SqL.of h6⟩, ?_⟩
    refine ⟨.ref a, rfl, isi_one (er.mono (t6)) sg.ec (kk _) sg.q6 ?_⟩
    have n0 : H o6 = none := (t3.trans (s4.trans s5)).free n6
    refine ⟨o6, _, _, rfl, rfl, h6, small1000 (by simp), ?_⟩
    have t7 : Same H (upd H6 o6 (.lst ([V.bl false, .bl false, .bl false, .bl false, .bl false, .bl false] ++ [.bl false]))) := fun b o e => by rw [upd_ne (ne_of_none e n0)]; exact t6 _ _ e
    have hg7 : (upd H6 o6 (.lst ([V.bl false, .bl false, .bl false, .bl false, .bl false, .bl false] ++ [.bl false]))) g3 = some (.lst ([V.bl b0, .bl b1, .bl b2] ++ [.bl b3, .bl b4, .bl b5])) := by rw [upd_ne (ne_of_none (s5 _ _ (s4 _ _ h3)) n6)]; exact hg
    have ho7 : (upd H6 o6 (.lst ([V.bl false, .bl false, .bl false, .bl false, .bl false, .bl false] ++ [.bl false]))) o6 = some (.lst (([false, false, false, false, false, false, false] : List Bool).map V.bl)) := upd_same
    refine ⟨.ref g3, rfl, .ref o6, rfl, by simp, fun l8 H8 s8 n8 h8 => ?_⟩
    refine ⟨l8, 7, [.bl false], rfl, rfl, h8, by decide, by decide, by simp, fun l9 H9 s9 n9 h9 => ?_⟩
    have h9' : H9 l9 = some (.lst (([false, false, false, false, false, false, false] : List Bool).map V.bl)) := h9
    refine ⟨_, _, dp_bools (s9 _ _ (s8 _ _ ho7)), dp_bools h9', by decide +kernel, by decide +kernel, true, by decide +kernel, iteT ?_⟩
    have t9 := t7.trans (s8.trans s9)
    refine ⟨.ref a, rfl, isi_one (er.mono t9) sg.ec (kk _) sg.kF ⟨true, rfl, iteT ?_⟩⟩
    refine ⟨.ref a, rfl, isi_one (er.mono t9) sg.ec kv sg.kV ?_⟩
    refine ⟨by simp, fun l10 H10 s10 n10 h10 => ?_⟩
    exact q H10 l10 g3 (t9.trans s10) h10 (s10 _ _ (s9 _ _ (s8 _ _ hg7)))
def Pack (C0 C1 C2 C3 C4 C5 : Addr) (H : Hp) (l : Addr) (x y z : V) : Prop := ∃ a0 a1 a2 a3 a4 a5 : Addr, H l = some (.lst [.ref a0, .ref a1, .ref a2, .ref a3, .ref a4, .ref a5]) ∧ ErrAt H a0 C0 [("value", x)] ∧ ErrAt H a1 C1 [("later", z), ("other", y), ("one", x)] ∧ ErrAt H a2 C2 [("value", x)] ∧ ErrAt H a3 C3 [("row", x)] ∧ ErrAt H a4 C4 [("place", x)] ∧ ErrAt H a5 C5 [("moment", x)]
theorem Pack.mono {C0 C1 C2 C3 C4 C5 : Addr} {H H' : Hp} {l : Addr} {x y z : V} (s : Same H H') (h : Pack C0 C1 C2 C3 C4 C5 H l x y z) : Pack C0 C1 C2 C3 C4 C5 H' l x y z := by
  obtain ⟨a0, a1, a2, a3, a4, a5, hl, h0, h1, h2, h3, h4, h5⟩ := h
  exact ⟨a0, a1, a2, a3, a4, a5, s _ _ hl, h0.mono s, h1.mono s, h2.mono s, h3.mono s, h4.mono s, h5.mono s⟩
def spMade (C0 C1 C2 C3 C4 C5 : Addr) : Sp := fun vs H Q _ => ∃ x y z : V, vs = [x, y, z] ∧ ∀ H' l, Same H H' → Pack C0 C1 C2 C3 C4 C5 H' l x y z → Q (.ref l) H'
theorem scM : FnScope ["_law_x", "_law_y", "_law_z"] ["_law_x", "_law_y", "_law_z"] (defScope sMade) := ⟨rfl, rfl, rfl, by decide +kernel, rfl, by decide +kernel, by decide +kernel⟩
theorem ok_made {f Cf C0 f0 C1 f1 C2 f2 C3 f3 C4 f4 C5 f5 O0 O1 O2 O3 O4 O5 O6 : Addr} {fd fd0 fd1 fd2 fd3 fd4 fd5 : FuncData} (F : Fun K "_law_made" "_law_made" sMade f fd) (T : Txt K mg Cf C0 f0 C1 f1 C2 f2 C3 f3 C4 f4 C5 f5 O0 O1 O2 O3 O4 O5 O6) (G0 : FnOk P w K mg base CX0 1 f0 fd0 ["self", "value"] (spI1 C0 "value")) (b0 : Binds K fd0 ["self", "value"] []) (G1 : FnOk P w K mg base CX0 1 f1 fd1 ["self", "one", "other", "later"] (spI3 C1 "one" "other" "later")) (b1 : Binds K fd1 ["self", "one", "other", "later"] []) (G2 : FnOk P w K mg base CX0 1 f2 fd2 ["self", "value"] (spI1 C2 "value")) (b2 : Binds K fd2 ["self", "value"] []) (G3 : FnOk P w K mg base CX0 1 f3 fd3 ["self", "row"] (spI1 C3 "row")) (b3 : Binds K fd3 ["self", "row"] []) (G4 : FnOk P w K mg base CX0 1 f4 fd4 ["self", "place"] (spI1 C4 "place")) (b4 : Binds K fd4 ["self", "place"] []) (G5 : FnOk P w K mg base CX0 1 f5 fd5 ["self", "moment"] (spI1 C5 "moment")) (b5 : Binds K fd5 ["self", "moment"] []) : FnOk P w K mg base CX0 3 f fd ["_law_x", "_law_y", "_law_z"] (spMade C0 C1 C2 C3 C4 C5) := by
  refine F.ok scM (fun vs H Q E h => ?_) (fun cdv A outer s H0 vs Q E hr h => ?_)
  · obtain ⟨x, y, z, rfl, _⟩ := h
    rfl
  · obtain ⟨x, y, z, rfl, q⟩ := h
    refine ⟨_, pss_one (ps_ret (pe_lstS (pa_cons (pe_mk1 (pe_mkV T.e0.oex T.e0.iC T.e0.tI G0 hr b0 .nil pass0 (by rfl) T.e0.gC (pa_cons (pv 0) pa_nil))) (pa_cons (pe_mk3 (pe_mkV T.e1.oex T.e1.iC T.e1.tI G1 hr b1 .nil pass0 (by rfl) T.e1.gC (pa_cons (pv 0) (pa_cons (pv 1) (pa_cons (pv 2) pa_nil))))) (pa_cons (pe_mk1 (pe_mkV T.e2.oex T.e2.iC T.e2.tI G2 hr b2 .nil pass0 (by rfl) T.e2.gC (pa_cons (pv 0) pa_nil))) (pa_cons (pe_mk1 (pe_mkV T.e3.oex T.e3.iC T.e3.tI G3 hr b3 .nil pass0 (by rfl) T.e3.gC (pa_cons (pv 0) pa_nil))) (pa_cons (pe_mk1 (pe_mkV T.e4.oex T.e4.iC T.e4.tI G4 hr b4 .nil pass0 (by rfl) T.e4.gC (pa_cons (pv 0) pa_nil))) (pa_cons (pe_mk1 (pe_mkV T.e5.oex T.e5.iC T.e5.tI G5 hr b5 .nil pass0 (by rfl) T.e5.gC (pa_cons (pv 0) pa_nil))) pa_nil)))))))), ?_⟩
    refine ⟨x, rfl, fun a0 H1 s1 n1 E0 => ?_⟩
    refine ⟨x, y, z, rfl, rfl, rfl, fun a1 H2 s2 n2 E1 => ?_⟩
    refine ⟨x, rfl, fun a2 H3 s3 n3 E2 => ?_⟩
    refine ⟨x, rfl, fun a3 H4 s4 n4 E3 => ?_⟩
    refine ⟨x, rfl, fun a4 H5 s5 n5 E4 => ?_⟩
    refine ⟨x, rfl, fun a5 H6 s6 n6 E5 => ?_⟩
    refine ⟨by simp, fun l H7 s7 n7 hl => ?_⟩
    exact q _ l (s1.trans (s2.trans (s3.trans (s4.trans (s5.trans (s6.trans (s7))))))) ⟨a0, a1, a2, a3, a4, a5, hl, E0.mono (s2.trans (s3.trans (s4.trans (s5.trans (s6.trans (s7)))))), E1.mono (s3.trans (s4.trans (s5.trans (s6.trans (s7))))), E2.mono (s4.trans (s5.trans (s6.trans (s7)))), E3.mono (s5.trans (s6.trans (s7))), E4.mono (s6.trans (s7)), E5.mono (s7)⟩
theorem scN : FnScope ["_law_x", "_law_y", "_law_z", "_law_found"] ["_law_x", "_law_y", "_law_z"] (defScope sNamed) := ⟨rfl, rfl, rfl, by decide +kernel, rfl, by decide +kernel, by decide +kernel⟩
theorem ok_named {f Cf C0 f0 C1 f1 C2 f2 C3 f3 C4 f4 C5 f5 O0 O1 O2 O3 O4 O5 O6 : Addr} {fd fd0 fd1 fd2 fd3 fd4 fd5 : FuncData} (F : Fun K "_law_named" "_law_named" sNamed f fd) (T : Txt K mg Cf C0 f0 C1 f1 C2 f2 C3 f3 C4 f4 C5 f5 O0 O1 O2 O3 O4 O5 O6) (G0 : FnOk P w K mg base CX0 1 f0 fd0 ["self", "value"] (spI1 C0 "value")) (G1 : FnOk P w K mg base CX0 1 f1 fd1 ["self", "one", "other", "later"] (spI3 C1 "one" "other" "later")) (G2 : FnOk P w K mg base CX0 1 f2 fd2 ["self", "value"] (spI1 C2 "value")) (G3 : FnOk P w K mg base CX0 1 f3 fd3 ["self", "row"] (spI1 C3 "row")) (G4 : FnOk P w K mg base CX0 1 f4 fd4 ["self", "place"] (spI1 C4 "place")) (G5 : FnOk P w K mg base CX0 1 f5 fd5 ["self", "moment"] (spI1 C5 "moment")) (k0 : KBn K fd0 ["self", "value"] 1 ["value"] (fun us ws => us ++ ws) (fun us ws => us ++ ws)) (k1 : KBn K fd1 ["self", "one", "other", "later"] 1 ["later", "other", "one"] (fun us ws => us ++ ws.reverse) (fun us ws => us ++ ws.reverse)) (k2 : KBn K fd2 ["self", "value"] 1 ["value"] (fun us ws => us ++ ws) (fun us ws => us ++ ws)) (k3 : KBn K fd3 ["self", "row"] 1 ["row"] (fun us ws => us ++ ws) (fun us ws => us ++ ws)) (k4 : KBn K fd4 ["self", "place"] 1 ["place"] (fun us ws => us ++ ws) (fun us ws => us ++ ws)) (k5 : KBn K fd5 ["self", "moment"] 1 ["moment"] (fun us ws => us ++ ws) (fun us ws => us ++ ws)) : FnOk P w K mg base CX0 3 f fd ["_law_x", "_law_y", "_law_z"] (spMade C0 C1 C2 C3 C4 C5) := by
  refine F.ok scN (fun vs H Q E h => ?_) (fun cdv A outer s H0 vs Q E hr h => ?_)
  · obtain ⟨x, y, z, rfl, _⟩ := h
    rfl
  · obtain ⟨x, y, z, rfl, q⟩ := h
    refine ⟨_, pss_cons (ps_set (i := 3) scN.nd rfl (.inl rfl) (pe_lstS (pa_cons (pe_mkKv (pe_mkK (ks := ["value"]) (gV := fun us ws => us ++ ws) T.e0.oex T.e0.iC T.e0.tI G0 hr k0 pass0 (by rfl) T.e0.gC (pk_cons (pv 0) pk_nil))) (pa_cons (pe_mkKr (pe_mkK (ks := ["later", "other", "one"]) (gV := fun us ws => us ++ ws.reverse) T.e1.oex T.e1.iC T.e1.tI G1 hr k1 pass0 (by rfl) T.e1.gC (pk_cons (pv 2) (pk_cons (pv 1) (pk_cons (pv 0) pk_nil))))) (pa_cons (pe_mkKv (pe_mkK (ks := ["value"]) (gV := fun us ws => us ++ ws) T.e2.oex T.e2.iC T.e2.tI G2 hr k2 pass0 (by rfl) T.e2.gC (pk_cons (pv 0) pk_nil))) (pa_cons (pe_mkKv (pe_mkK (ks := ["row"]) (gV := fun us ws => us ++ ws) T.e3.oex T.e3.iC T.e3.tI G3 hr k3 pass0 (by rfl) T.e3.gC (pk_cons (pv 0) pk_nil))) pa_nil)))))) (pss_one (ps_ret (pe_op op_catS (pv 3) (pe_lstS (pa_cons (pe_mkKv (pe_mkK (ks := ["place"]) (gV := fun us ws => us ++ ws) T.e4.oex T.e4.iC T.e4.tI G4 hr k4 pass0 (by rfl) T.e4.gC (pk_cons (pv 0) pk_nil))) (pa_cons (pe_mkKv (pe_mkK (ks := ["moment"]) (gV := fun us ws => us ++ ws) T.e5.oex T.e5.iC T.e5.tI G5 hr k5 pass0 (by rfl) T.e5.gC (pk_cons (pv 0) pk_nil))) pa_nil)))))), ?_⟩
    refine ⟨x, rfl, fun a0 H1 s1 n1 E0 => ?_⟩
    refine ⟨x, y, z, rfl, rfl, rfl, fun a1 H2 s2 n2 E1 => ?_⟩
    refine ⟨x, rfl, fun a2 H3 s3 n3 E2 => ?_⟩
    refine ⟨x, rfl, fun a3 H4 s4 n4 E3 => ?_⟩
    refine ⟨by simp, fun l1 H5 s5 n5 hl1 => ?_⟩
    refine ⟨.ref l1, rfl, ?_⟩
    refine ⟨x, rfl, fun a4 H6 s6 n6 E4 => ?_⟩
    refine ⟨x, rfl, fun a5 H7 s7 n7 E5 => ?_⟩
    refine ⟨by simp, fun l2 H8 s8 n8 hl2 => ?_⟩
    refine ⟨_, _, _, _, rfl, rfl, (s6.trans (s7.trans (s8))) _ _ hl1, hl2, by simp, fun l H9 s9 n9 hl => ?_⟩
    exact q _ l (s1.trans (s2.trans (s3.trans (s4.trans (s5.trans (s6.trans (s7.trans (s8.trans (s9))))))))) ⟨a0, a1, a2, a3, a4, a5, hl, E0.mono (s2.trans (s3.trans (s4.trans (s5.trans (s6.trans (s7.trans (s8.trans (s9)))))))), E1.mono (s3.trans (s4.trans (s5.trans (s6.trans (s7.trans (s8.trans (s9))))))), E2.mono (s4.trans (s5.trans (s6.trans (s7.trans (s8.trans (s9)))))), E3.mono (s5.trans (s6.trans (s7.trans (s8.trans (s9))))), E4.mono (s7.trans (s8.trans (s9))), E5.mono (s8.trans (s9))⟩
end
end K89

set_option Elab.async false
set_option linter.all false
set_option maxRecDepth 100000
set_option maxHeartbeats 8000000
namespace K89
open PySem PySem.Spec PyProof.Rows L2 FS
section
variable {P : Program} {w : World} {K : PySem.W.Frag} {mg : Str → Option Value} {base : Heap}
/-! ### the menu -/
def menu (t2 l3 t4 d5 : Addr) : List V := [.non, .int 7, .int (-1), .str "m.x", .ref t2, .ref l3, .bl true, .ref t4, .ref d5]
theorem menu_nice {p t1 t2 l3 t4 d5 : Addr} {H1 : Hp} (n1 : t1 ≠ p) (n2 : t2 ≠ p) (n3 : l3 ≠ p) (n4 : t4 ≠ p) (n5 : d5 ≠ p) (h1 : H1 t1 = some (.tup [.int 0, .int 1])) (h2 : H1 t2 = some (.tup [.ref t1, .int 5])) (h3 : H1 l3 = some (.lst [.int 1])) (h4 : H1 t4 = some (.tup []))
    (h5 : H1 d5 = some (.dK [])) (r : Nat) (hr : r < 9) : ∃ v d, (menu t2 l3 t4 d5)[r]? = some v ∧ ∀ H2, Off p H1 H2 → Nice K H2 v d := by
  have hcs : r = 0 ∨ r = 1 ∨ r = 2 ∨ r = 3 ∨ r = 4 ∨ r = 5 ∨ r = 6 ∨ r = 7 ∨ r = 8 := by omega
  rcases hcs with rfl | rfl | rfl | rfl | rfl | rfl | rfl | rfl | rfl
  · exact ⟨_, .none, rfl, fun H2 o => ⟨.dp .non rfl, by decide +kernel, by decide +kernel, by decide +kernel⟩⟩
  · exact ⟨_, .int 7, rfl, fun H2 o => ⟨.dp (.int 7) rfl, by decide +kernel, by decide +kernel, by decide +kernel⟩⟩
  · exact ⟨_, .int (-1), rfl, fun H2 o => ⟨.dp (.int _) rfl, by decide +kernel, by decide +kernel, by decide +kernel⟩⟩
  · exact ⟨_, .str "m.x", rfl, fun H2 o => ⟨.dp (.str _) rfl, by decide +kernel, by decide +kernel, by decide +kernel⟩⟩
  · exact ⟨_, .tuple [.tuple [.int 0, .int 1], .int 5], rfl, fun H2 o => ⟨.dp (.tup (.inl (.inl (o _ _ n2 h2))) (.cons (.tup (.inl (.inl (o _ _ n1 h1))) (.cons (.int _) (.cons (.int _) .nil))) (.cons (.int _) .nil))) rfl, by decide +kernel, by decide +kernel, by decide +kernel⟩⟩
  · exact ⟨_, .list [.int 1], rfl, fun H2 o => ⟨.dp (.lst (SqL.of (o _ _ n3 h3)) (.cons (.int _) .nil)) rfl, by decide +kernel, by decide +kernel, by decide +kernel⟩⟩
  · exact ⟨_, .bool true, rfl, fun H2 o => ⟨.dp (.bl _) rfl, by decide +kernel, by decide +kernel, by decide +kernel⟩⟩
  · exact ⟨_, .tuple [], rfl, fun H2 o => ⟨.dp (.tup (.inl (.inl (o _ _ n4 h4))) .nil) rfl, by decide +kernel, by decide +kernel, by decide +kernel⟩⟩
  · exact ⟨_, .dict [], rfl, fun H2 o => ⟨.emp (o _ _ n5 h5), by decide +kernel, by decide +kernel, by decide +kernel⟩⟩
theorem scL : FnScope ["_law_script", "_law_left_here", "_law_menu", "_law_turn", "_law_x", "_law_y", "_law_z", "_law_errors", "_law_told", "_law_k", "_law_signs_here", "_law_fits_all"] ["_law_script"] (defScope sLaw) := ⟨rfl, rfl, rfl, by decide +kernel, rfl, by decide +kernel, by decide +kernel⟩
theorem iteNS' {c A B : Prop} [Decidable c] (hc : c) (h : B) : if (!decide c) = true then A else B := by
  rw [decide_eq_true hc]
  exact iteF h
def spLaw (K : PySem.W.Frag) : Sp := fun vs H Q _ => ∃ (a : Addr) (ns : List Int), vs = [.ref a] ∧ SqL K H a (ns.map V.int) ∧ ns.length ≤ 63 ∧ ∀ H', Q (.bl true) H'
theorem pick {Cf C0 f0 C1 f1 C2 f2 C3 f3 C4 f4 C5 f5 O0 O1 O2 O3 O4 O5 O6 : Addr} {H : Hp} {x y z : V} {a0 a1 a2 a3 a4 a5 : Addr} (T : Txt K mg Cf C0 f0 C1 f1 C2 f2 C3 f3 C4 f4 C5 f5 O0 O1 O2 O3 O4 O5 O6) (h0 : ErrAt H a0 C0 [("value", x)]) (h1 : ErrAt H a1 C1 [("later", z), ("other", y), ("one", x)]) (h2 : ErrAt H a2 C2 [("value", x)]) (h3 : ErrAt H a3 C3 [("row", x)]) (h4 : ErrAt H a4 C4 [("place", x)]) (h5 : ErrAt H a5 C5 [("moment", x)])
    (i : Nat) (hi : i < 6) : ∃ (a C : Addr) (fs : List (Str × V)) (b0 b1 b2 b3 b4 b5 : Bool), atI [V.ref a0, .ref a1, .ref a2, .ref a3, .ref a4, .ref a5] (0 + (i : Int)) = some (.ref a) ∧ ErrAt H a C fs ∧ Sig K Cf C0 C1 C2 C3 C4 C5 O0 O1 O2 O3 O4 O5 O6 C b0 b1 b2 b3 b4 b5 ∧
      ([V.bl b0, .bl b1, .bl b2, .bl b3, .bl b4, .bl b5].countP fun z => eqV z (.bl true)) = 1 ∧ ([V.bl b0, .bl b1, .bl b2, .bl b3, .bl b4, .bl b5] : List V)[i]? = some (.bl true) ∧
      (∀ (m : Nat) (z : V), m < i → ([V.bl b0, .bl b1, .bl b2, .bl b3, .bl b4, .bl b5] : List V)[m]? = some z → eqV z (.bl true) = false) := by
  have hcs : i = 0 ∨ i = 1 ∨ i = 2 ∨ i = 3 ∨ i = 4 ∨ i = 5 := by omega
  have key : ∀ (i : Nat) (ys : List Bool), (∀ m, m < i → ys[m]? = some false) → ∀ (m : Nat) (z : V), m < i → (ys.map V.bl)[m]? = some z → eqV z (.bl true) = false := fun i ys h m z hm hz => by
    rw [List.getElem?_map, h m hm] at hz
    cases hz
    rfl
  rcases hcs with rfl | rfl | rfl | rfl | rfl | rfl
  · exact ⟨a0, C0, _, true, false, false, false, false, false, rfl, h0, sig0 T, rfl, rfl, key 0 [true, false, false, false, false, false] (by decide)⟩
  · exact ⟨a1, C1, _, false, true, false, false, false, false, rfl, h1, sig1 T, rfl, rfl, key 1 [false, true, false, false, false, false] (by decide)⟩
  · exact ⟨a2, C2, _, false, false, true, false, false, false, rfl, h2, sig2 T, rfl, rfl, key 2 [false, false, true, false, false, false] (by decide)⟩
  · exact ⟨a3, C3, _, false, false, false, true, false, false, rfl, h3, sig3 T, rfl, rfl, key 3 [false, false, false, true, false, false] (by decide)⟩
  · exact ⟨a4, C4, _, false, false, false, false, true, false, rfl, h4, sig4 T, rfl, rfl, key 4 [false, false, false, false, true, false] (by decide)⟩
  · exact ⟨a5, C5, _, false, false, false, false, false, true, rfl, h5, sig5 T, rfl, rfl, key 5 [false, false, false, false, false, true] (by decide)⟩
theorem ok_law {f fL fD fS fM fN Cf C0 f0 C1 f1 C2 f2 C3 f3 C4 f4 C5 f5 O0 O1 O2 O3 O4 O5 O6 : Addr} {fd fdL fdD fdS fdM fdN fd0 fd1 fd2 fd3 fd4 fd5 : FuncData} (F : Fun K "law" "law" sLaw f fd) (T : Txt K mg Cf C0 f0 C1 f1 C2 f2 C3 f3 C4 f4 C5 f5 O0 O1 O2 O3 O4 O5 O6)
    (FL : Fun K "_law_left" "_law_left" sLeft fL fdL) (bL : Binds K fdL ["_law_script"] []) (gL : mg "_law_left" = some (.ref fL)) (FD : Fun K "_law_draw" "_law_draw" sDraw fD fdD) (bD : Binds K fdD ["_law_left_here", "_law_most"] []) (gD : mg "_law_draw" = some (.ref fD))
    (FS1 : Fun K "_law_signs" "_law_signs" sSigns fS fdS) (bS : Binds K fdS ["_law_error"] []) (gS : mg "_law_signs" = some (.ref fS)) (FM : Fun K "_law_made" "_law_made" sMade fM fdM) (bM : Binds K fdM ["_law_x", "_law_y", "_law_z"] []) (gM : mg "_law_made" = some (.ref fM))
    (FN : Fun K "_law_named" "_law_named" sNamed fN fdN) (bN : Binds K fdN ["_law_x", "_law_y", "_law_z"] []) (gN : mg "_law_named" = some (.ref fN))
    (F0 : Fun K "__init__" "NotFunction.__init__" (sI 10) f0 fd0) (b0 : Binds K fd0 ["self", "value"] []) (k0 : KBn K fd0 ["self", "value"] 1 ["value"] (fun us ws => us ++ ws) (fun us ws => us ++ ws))
    (F1 : Fun K "__init__" "NotSure.__init__" (sI 11) f1 fd1) (b1 : Binds K fd1 ["self", "one", "other", "later"] []) (k1 : KBn K fd1 ["self", "one", "other", "later"] 1 ["later", "other", "one"] (fun us ws => us ++ ws.reverse) (fun us ws => us ++ ws.reverse))
    (F2 : Fun K "__init__" "Clash.__init__" (sI 12) f2 fd2) (b2 : Binds K fd2 ["self", "value"] []) (k2 : KBn K fd2 ["self", "value"] 1 ["value"] (fun us ws => us ++ ws) (fun us ws => us ++ ws))
    (F3 : Fun K "__init__" "BadJournal.__init__" (sI 13) f3 fd3) (b3 : Binds K fd3 ["self", "row"] []) (k3 : KBn K fd3 ["self", "row"] 1 ["row"] (fun us ws => us ++ ws) (fun us ws => us ++ ws))
    (F4 : Fun K "__init__" "BadQuestion.__init__" (sI 14) f4 fd4) (b4 : Binds K fd4 ["self", "place"] []) (k4 : KBn K fd4 ["self", "place"] 1 ["place"] (fun us ws => us ++ ws) (fun us ws => us ++ ws))
    (F5 : Fun K "__init__" "Noticed.__init__" (sI 9) f5 fd5) (b5 : Binds K fd5 ["self", "moment"] []) (k5 : KBn K fd5 ["self", "moment"] 1 ["moment"] (fun us ws => us ++ ws) (fun us ws => us ++ ws))
    : FnG P w K mg base 4 f fd ["_law_script"] (spLaw K) := by
  have G0 : FnOk P w K mg base CX0 1 f0 fd0 ["self", "value"] (spI1 C0 "value") := ok_I0 F0 T.e0 T.n0_value
  have G1 : FnOk P w K mg base CX0 1 f1 fd1 ["self", "one", "other", "later"] (spI3 C1 "one" "other" "later") := ok_I1 F1 T.e1 T.n1_one T.n1_other T.n1_later
  have G2 : FnOk P w K mg base CX0 1 f2 fd2 ["self", "value"] (spI1 C2 "value") := ok_I2 F2 T.e2 T.n2_value
  have G3 : FnOk P w K mg base CX0 1 f3 fd3 ["self", "row"] (spI1 C3 "row") := ok_I3 F3 T.e3 T.n3_row
  have G4 : FnOk P w K mg base CX0 1 f4 fd4 ["self", "place"] (spI1 C4 "place") := ok_I4 F4 T.e4 T.n4_place
  have G5 : FnOk P w K mg base CX0 1 f5 fd5 ["self", "moment"] (spI1 C5 "moment") := ok_I5 F5 T.e5 T.n5_moment
  have GL : FnOk P w K mg base CX0 1 fL fdL ["_law_script"] (spLeft K) := ok_left FL T.zlist T.zlen
  have GD : FnOk P w K mg base CX0 1 fD fdD ["_law_left_here", "_law_most"] spDraw := ok_draw FD T.zlen T.zint
  have GS : FnOk P w K mg base CX0 1 fS fdS ["_law_error"] (spSigns K Cf C0 C1 C2 C3 C4 C5 O0 O1 O2 O3 O4 O5 O6) := ok_signs FS1 T
  have GM : FnOk P w K mg base CX0 3 fM fdM ["_law_x", "_law_y", "_law_z"] (spMade C0 C1 C2 C3 C4 C5) := ok_made FM T G0 b0 G1 b1 G2 b2 G3 b3 G4 b4 G5 b5
  have GN : FnOk P w K mg base CX0 3 fN fdN ["_law_x", "_law_y", "_law_z"] (spMade C0 C1 C2 C3 C4 C5) := ok_named FN T G0 G1 G2 G3 G4 G5 k0 k1 k2 k3 k4 k5
  refine okG F scL (fun vs H Q E h => ?_) (fun cdv A outer s H vs Q E hgd hr h => ?_)
  · obtain ⟨a, ns, rfl, _⟩ := h
    rfl
  · obtain ⟨a, ns, rfl, hS, hlen, k⟩ := h
    refine ⟨_, (pss_cons (ps_set (i := 1) scL.nd rfl (.inl rfl) (pe_call GL (hr.mono (by decide)) rfl gL FL.kp bL .nil pass0 (pa_cons (pv 0) pa_nil)))
        (pss_cons (ps_set (i := 2) scL.nd rfl (.inl rfl) (pe_lstS (pa_cons pe_non (pa_cons pe_int (pa_cons (pe_un un_neg pe_int) (pa_cons pe_str (pa_cons (pe_tupS (pa_cons (pe_tupS (pa_cons pe_int (pa_cons pe_int pa_nil))) (pa_cons pe_int pa_nil))) (pa_cons (pe_lstS (pa_cons pe_int pa_nil)) (pa_cons pe_bl (pa_cons (pe_tupS pa_nil) (pa_cons pe_dictS pa_nil)))))))))))
        (pss_cons (ps_for PassesOwn.never rfl (pi_range1 rfl T.zrange (pa_cons pe_int pa_nil)) (pg_name (i := 3) scL.nd rfl (Or.inl rfl)) (pss_cons (ps_set (i := 4) scL.nd rfl (.inl rfl) (pe_ix ix_list (pv 2) (pe_call GD (hr.mono (by decide)) rfl gD FD.kp bD .nil pass0 (pa_cons (pv 1) (pa_cons pe_int pa_nil))) (fun _ _ => rfl)))
        (pss_cons (ps_set (i := 5) scL.nd rfl (.inl rfl) (pe_ix ix_list (pv 2) (pe_call GD (hr.mono (by decide)) rfl gD FD.kp bD .nil pass0 (pa_cons (pv 1) (pa_cons pe_int pa_nil))) (fun _ _ => rfl)))
        (pss_cons (ps_set (i := 6) scL.nd rfl (.inl rfl) (pe_ix ix_list (pv 2) (pe_call GD (hr.mono (by decide)) rfl gD FD.kp bD .nil pass0 (pa_cons (pv 1) (pa_cons pe_int pa_nil))) (fun _ _ => rfl)))
        (pss_one (ps_for PassesOwn.never rfl (pi_list (pe_lstS (pa_cons (pe_call GM hr rfl gM FM.kp bM .nil pass0 (pa_cons (pv 4) (pa_cons (pv 5) (pa_cons (pv 6) pa_nil)))) (pa_cons (pe_call GN hr rfl gN FN.kp bN .nil pass0 (pa_cons (pv 4) (pa_cons (pv 5) (pa_cons (pv 6) pa_nil)))) pa_nil)))) (pg_name (i := 7) scL.nd rfl (Or.inl rfl)) (pss_cons (ps_set (i := 8) scL.nd rfl (.inl rfl) (pe_lstS (pa_cons (pe_xo (pe_ix ix_list (pv 7) pe_int (fun _ _ => rfl))) (pa_cons (pe_xo (pe_ix ix_list (pv 7) pe_int (fun _ _ => rfl))) (pa_cons (pe_xo (pe_ix ix_list (pv 7) pe_int (fun _ _ => rfl))) (pa_cons (pe_xo (pe_ix ix_list (pv 7) pe_int (fun _ _ => rfl))) (pa_cons (pe_xo (pe_ix ix_list (pv 7) pe_int (fun _ _ => rfl))) (pa_cons (pe_xo (pe_ix ix_list (pv 7) pe_int (fun _ _ => rfl))) pa_nil))))))))
        (pss_cons (ps_if (PW.pt (pw_or (pt_cmpR op_ne (pe_rep (K := K) (pe_callB (id := "repr") (r := rReprL K) (call_reprL hgd hr.units) (by rfl) T.zrepr boot_rep (pa_cons (pv 8) pa_nil))) (pe_rep (K := K) (pe_callB (id := "repr") (r := rReprL K) (call_reprL hgd hr.units) (by rfl) T.zrepr boot_rep (pa_cons (pe_op op_repS (pe_lstS (pa_cons (pv 4) pa_nil)) pe_int) pa_nil))) (nomark _)) (pw_or1 (pt_cmpR op_ne (pe_rep (K := K) (pe_callB (id := "repr") (r := rReprL K) (call_reprL hgd hr.units) (by rfl) T.zrepr boot_rep (pa_cons (pe_lstS (pa_cons (pe_xo (pe_ix ix_list (pv 7) pe_int (fun _ _ => rfl))) (pa_cons (pe_xo (pe_ix ix_list (pv 7) pe_int (fun _ _ => rfl))) pa_nil))) pa_nil))) (pe_rep (K := K) (pe_callB (id := "repr") (r := rReprL K) (call_reprL hgd hr.units) (by rfl) T.zrepr boot_rep (pa_cons (pe_lstS (pa_cons (pv 5) (pa_cons (pv 6) pa_nil))) pa_nil))) (nomark _))))) (pss_one (ps_ret pe_bl)) pss_nil)
        (pss_one (ps_for PassesOwn.never rfl (pi_range1 rfl T.zrange (pa_cons pe_int pa_nil)) (pg_name (i := 9) scL.nd rfl (Or.inl rfl)) (pss_cons (ps_asg (pe_call GS (hr.mono (by decide)) rfl gS FS1.kp bS .nil pass0 (pa_cons (pe_ix ix_list (pv 7) (pv 9) (fun _ _ => rfl)) pa_nil)) (pg_unl rfl (pgs_cons (pg_name (i := 10) scL.nd rfl (Or.inl rfl)) (pgs_cons (pg_name (i := 11) scL.nd rfl (Or.inl rfl)) pgs_nil))))
        (pss_one (ps_if (PW.pt (pw_or (pt_cmpR op_ne (pe_bm PySem.F.plainAttrs_list PySem.F.slot_list_count PySem.F.type_list_count mt_countV (pv 10) (pa_cons pe_bl pa_nil)) pe_int (nomark _)) (pw_or (pt_cmpR op_ne (pe_bm PySem.F.plainAttrs_list PySem.F.slot_list_index PySem.F.type_list_index mt_index (pv 10) (pa_cons pe_bl pa_nil)) (pv 9) (nomark _)) (pw_or1 (pt_not (pt_val (pv 11))))))) (pss_one (ps_ret pe_bl)) pss_nil)))))))))))))
        (pss_one (ps_ret pe_bl))))), ?_⟩
    refine ⟨.ref a, rfl, a, ns, rfl, hS, hlen, fun H1 p ms s1 np hp h2 h100 => ?_⟩
    refine ⟨_, rfl, by simp, fun t1 H2 s2 n2 e1 => ⟨by simp, fun t2 H3 s3 n3 e2 => ⟨by simp, fun l3 H4 s4 n4 e3 => ⟨by simp, fun t4 H5 s5 n5 e4 => fun d5 H6 s6 n6 e5 => ⟨by simp, fun m H7 s7 n7 e7 => ?_⟩⟩⟩⟩⟩
    have p2 := s2 _ _ hp
    have p3 := s3 _ _ p2
    have p4 := s4 _ _ p3
    have p5 := s5 _ _ p4
    have p6 := s6 _ _ p5
    have p7 := s7 _ _ p6
    have NICE := fun r hr => menu_nice (K := K) (p := p) (ne_of_none hp n2).symm (ne_of_none p2 n3).symm (ne_of_none p3 n4).symm (ne_of_none p4 n5).symm (ne_of_none p5 n6).symm (s7 _ _ (s6 _ _ (s5 _ _ (s4 _ _ (s3 _ _ e1))))) (s7 _ _ (s6 _ _ (s5 _ _ (s4 _ _ e2)))) (s7 _ _ (s6 _ _ (s5 _ _ e3))) (s7 _ _ (s6 _ _ e4)) (s7 _ _ e5) r hr
    have nm : m ≠ p := (ne_of_none p6 n7).symm
    have hm : H7 m = some (.lst (menu t2 l3 t4 d5)) := e7
    clear e1 e2 e3 e4 e5 e7 n2 n3 n4 n5 n6 n7 p2 p3 p4 p5 p6 s1 s2 s3 s4 s5 s6 s7 np hp
    refine ⟨3, rfl, by decide, by decide, ?_⟩
    refine for_range (fun j σ H' => ∃ y3 y4 y5 y6 y7 y8 y9 y10 y11, σ = [some (.ref a), some (.ref p), some (.ref m), y3, y4, y5, y6, y7, y8, y9, y10, y11] ∧ Off p H7 H' ∧ ∃ ms : List Int, H' p = some (.lst (ms.map V.int)) ∧ 2 ≤ ms.length ∧ ms.length ≤ 100)
      ⟨_, _, _, _, _, _, _, _, _, rfl, Off.of (Same.refl H7), ms, p7, h2, h100⟩ ?_ (fun σ H' _ => k H')
    clear p7 h2 h100
    rintro j σ G0 hj ⟨y3, y4, y5, y6, y7, y8, y9, y10, y11, rfl, o0, ms, hp, h2, h100⟩
    refine ⟨.ref m, rfl, .ref p, rfl, p, ms, rfl, hp, h2, h100, fun G1 m1 r1 o1 hp1 hl1 hr1 => ?_⟩
    obtain ⟨x, dx, hx, NX⟩ := NICE r1 hr1
    have u1 := o0.trans o1
    refine ⟨m, _, _, x, rfl, rfl, SqL.of (u1 _ _ nm hm), atI_nat hx, ?_⟩
    refine ⟨.ref m, rfl, .ref p, rfl, p, m1, rfl, hp1, by omega, by omega, fun G2 m2 r2 o2 hp2 hl2 hr2 => ?_⟩
    obtain ⟨y, dy, hy, NY⟩ := NICE r2 hr2
    have u2 := u1.trans o2
    refine ⟨m, _, _, y, rfl, rfl, SqL.of (u2 _ _ nm hm), atI_nat hy, ?_⟩
    refine ⟨.ref m, rfl, .ref p, rfl, p, m2, rfl, hp2, by omega, by omega, fun G3 m3 r3 o3 hp3 hl3 hr3 => ?_⟩
    obtain ⟨z, dz, hz, NZ⟩ := NICE r3 hr3
    have u3 := u2.trans o3
    refine ⟨m, _, _, z, rfl, rfl, SqL.of (u3 _ _ nm hm), atI_nat hz, ?_⟩
    have N1 := NX G3 u3
    have N2 := NY G3 u3
    have N3 := NZ G3 u3
    have l3' : 2 ≤ m3.length := by omega
    have l3'' : m3.length ≤ 100 := by omega
    clear NX NY NZ hx hy hz u1 u2 o0 o1 o2 o3 hp hp1 hp2 hl1 hl2 hl3 hr1 hr2 hr3
    refine ⟨x, rfl, y, rfl, z, rfl, x, y, z, rfl, fun G4 la r4 PA1 => ?_⟩
    refine ⟨x, rfl, y, rfl, z, rfl, x, y, z, rfl, fun G5 lb r5 PB1 => ?_⟩
    refine ⟨by simp, fun dl G6 r6 n6 hdl => ⟨dl, rfl, ⟨_, SqL.of hdl⟩, ?_⟩⟩
    have q6 : Same G3 G6 := r4.trans (r5.trans r6)
    replace PA1 := PA1.mono (r5.trans r6)
    replace PB1 := PB1.mono r6
    refine for_list (K := K) (a := dl) (xs := [.ref la, .ref lb]) (fun i1 σ H' => ∃ y7 y8 y9 y10 y11, σ = [some (.ref a), some (.ref p), some (.ref m), some (.int (0 + (j : Int))), some x, some y, some z, y7, y8, y9, y10, y11] ∧ Same G6 H')
      ⟨_, _, _, _, _, rfl, Same.refl G6⟩ (fun i1 σ H' _ ⟨_, _, _, _, _, _, s⟩ => s.seq (SqL.of hdl)) ?_ (fun σ H' ⟨_, _, _, _, _, e, s⟩ => ⟨_, _, _, _, _, _, _, _, _, e, u3.trans (Off.of (q6.trans s)), m3, s _ _ (q6 _ _ hp3), l3', l3''⟩)
    rintro i1 v σ HB hx ⟨y7, y8, y9, y10, y11, rfl, sB⟩
    obtain ⟨l, rfl, PK1⟩ : ∃ l, v = .ref l ∧ Pack C0 C1 C2 C3 C4 C5 HB l x y z := by
      cases i1 with
      | zero => exact ⟨la, by simpa using hx.symm, PA1.mono sB⟩
      | succ i2 =>
        cases i2 with
        | zero => exact ⟨lb, by simpa using hx.symm, PB1.mono sB⟩
        | succ i3 => simp at hx
    obtain ⟨a0, a1, a2, a3, a4, a5, xl, E0, E1, E2, E3, E4, E5⟩ := PK1
    replace N1 := N1.mono (q6.trans sB)
    replace N2 := N2.mono (q6.trans sB)
    replace N3 := N3.mono (q6.trans sB)
    refine rd_at (i := 0) rfl xl rfl E0 T.e0.xf T.n0_value rfl ?_
    refine rd_at (i := 1) rfl xl rfl E1 T.e1.xf T.n1_one rfl ?_
    refine rd_at (i := 2) rfl xl rfl E2 T.e2.xf T.n2_value rfl ?_
    refine rd_at (i := 3) rfl xl rfl E3 T.e3.xf T.n3_row rfl ?_
    refine rd_at (i := 4) rfl xl rfl E4 T.e4.xf T.n4_place rfl ?_
    refine rd_at (i := 5) rfl xl rfl E5 T.e5.xf T.n5_moment rfl ?_
    refine ⟨by simp, fun k1 HC sC nC hk1 => ?_⟩
    have NN : ∀ {H' : Hp}, Same HB H' → NiceAll K H' [x, x, x, x, x, x] [dx, dx, dx, dx, dx, dx] := fun s =>
      .cons (N1.mono s) (.cons (N1.mono s) (.cons (N1.mono s) (.cons (N1.mono s) (.cons (N1.mono s) (.cons (N1.mono s) .nil)))))
    have NM : ∀ {H' : Hp}, Same HB H' → NiceAll K H' [y, z] [dy, dz] := fun s => .cons (N2.mono s) (.cons (N3.mono s) .nil)
    refine ⟨.ref k1, rfl, rp hk1 (NN sC) (by simp) ?_⟩
    refine ⟨x, rfl, by simp, fun k2 HD sD nD hk2 => ?_⟩
    refine ⟨k2, 6, [x], rfl, rfl, hk2, by decide, by decide, by simp, fun k3 HE sE nE hk3 => ?_⟩
    have hk3' : HE k3 = some (.lst [x, x, x, x, x, x]) := hk3
    have tE := sC.trans (sD.trans sE)
    refine rp hk3' (NN tE) (by simp) ⟨rfl, _, rfl, iteNS' rfl ?_⟩
    replace xl := tE _ _ xl
    replace E0 := E0.mono tE
    replace E1 := E1.mono tE
    replace E2 := E2.mono tE
    replace E3 := E3.mono tE
    replace E4 := E4.mono tE
    replace E5 := E5.mono tE
    refine rd_at (i := 1) rfl xl rfl E1 T.e1.xf T.n1_other rfl ?_
    refine rd_at (i := 1) rfl xl rfl E1 T.e1.xf T.n1_later rfl ?_
    refine ⟨by simp, fun k4 HF sF nF hk4 => ?_⟩
    refine rp hk4 (NM (tE.trans sF)) (by simp) ?_
    refine ⟨y, rfl, z, rfl, by simp, fun k5 HG sG nG hk5 => ?_⟩
    refine rp hk5 (NM (tE.trans (sF.trans sG))) (by simp) ⟨rfl, _, rfl, iteNS rfl ?_⟩
    have tG := sF.trans sG
    replace xl := tG _ _ xl
    replace E0 := E0.mono tG
    replace E1 := E1.mono tG
    replace E2 := E2.mono tG
    replace E3 := E3.mono tG
    replace E4 := E4.mono tG
    replace E5 := E5.mono tG
    have tB := tE.trans tG
    clear sC sD sE sF sG hk1 hk2 hk3 hk3' hk4 hk5 nC nD nE nF nG N1 N2 N3 NN NM
    refine ⟨6, rfl, by decide, by decide, ?_⟩
    refine for_range (fun i2 σ H' => ∃ y9 y10 y11, σ = [some (.ref a), some (.ref p), some (.ref m), some (.int (0 + (j : Int))), some x, some y, some z, some (.ref l), some (.ref k1), y9, y10, y11] ∧ Same HG H') ⟨_, _, _, rfl, Same.refl HG⟩ ?_ (fun σ H' ⟨_, _, _, e, s⟩ => ⟨_, _, _, _, _, e, sB.trans (tB.trans s)⟩)
    rintro i2 σ HH hi2 ⟨y9, y10, y11, rfl, sH⟩
    have hi6 : i2 < 6 := hi2
    obtain ⟨ae, C, fs, b0, b1, b2, b3, b4, b5, pa, pe1, psg, pc, pi1, pn⟩ := pick T (E0.mono sH) (E1.mono sH) (E2.mono sH) (E3.mono sH) (E4.mono sH) (E5.mono sH) i2 hi6
    refine ⟨.ref l, rfl, _, rfl, l, _, _, _, rfl, rfl, SqL.of (sH _ _ xl), pa, ae, C, fs, b0, b1, b2, b3, b4, b5, rfl, pe1, psg, fun HI lr sg sI hlr hsg => ?_⟩
    refine ⟨lr, _, rfl, SqL.of hlr, rfl, .ref sg, [.bl true], rfl, .bl true, [], rfl, rfl, ?_⟩
    refine ⟨.ref sg, rfl, .inl ⟨rfl, _, SqL.of hsg⟩, sg, _, .bl true, rfl, rfl, SqL.of hsg, rfl, rfl, rfl, _, rfl, ?_⟩
    refine iteNS' (by rw [pc]; rfl) ?_
    refine ⟨.ref sg, rfl, .inl ⟨rfl, _, SqL.of hsg⟩, sg, _, .bl true, i2, _, rfl, rfl, SqL.of hsg, rfl, rfl, pi1, rfl, pn, _, rfl, rfl, _, rfl, ?_⟩
    refine iteNS' (by rw [Int.zero_add]) ?_
    exact ⟨_, rfl, true, rfl, iteF ⟨_, _, _, rfl, sH.trans sI⟩⟩
end
end K89

set_option Elab.async false
set_option linter.all false
set_option maxRecDepth 100000
set_option maxHeartbeats 8000000
namespace K89
open PySem PySem.Spec PyProof.Rows L2 FS
theorem all_mk {l : PySem.W.OpenLaw} {w : World} {K : PySem.W.Frag} {h : Heap} {mg : Str → Option Value} {fa fL fD fS fM fN fW Cf C0 f0 C1 f1 C2 f2 C3 f3 C4 f4 C5 f5 O0 O1 O2 O3 O4 O5 O6 : Addr} (X : K.In h) (G : h.Ns mainGlobals mg) (hfa : mg "law" = some (.ref fa))
    {n10 q0 : Str} {N0 : Addr} {bs0 bm0 : List Value} {sn0 : List Str} {sub0 : List Value} {ab0 : Bool} {col0 : Option Bool} {dd0 : Option Addr} {m00 m10 m20 m30 m50 : Option Value}
    {ocI0 kVI0 dcI0 pmI0 cdI0 ctI0 : Value} {odI0 anI0 : Option Addr} {slI0 : Array (Option Value)}
    {n11 q1 : Str} {N1 : Addr} {bs1 bm1 : List Value} {sn1 : List Str} {sub1 : List Value} {ab1 : Bool} {col1 : Option Bool} {dd1 : Option Addr} {m01 m11 m21 m31 m51 : Option Value}
    {ocI1 kVI1 dcI1 pmI1 cdI1 ctI1 : Value} {odI1 anI1 : Option Addr} {slI1 : Array (Option Value)}
    {n12 q2 : Str} {N2 : Addr} {bs2 bm2 : List Value} {sn2 : List Str} {sub2 : List Value} {ab2 : Bool} {col2 : Option Bool} {dd2 : Option Addr} {m02 m12 m22 m32 m52 : Option Value}
    {ocI2 kVI2 dcI2 pmI2 cdI2 ctI2 : Value} {odI2 anI2 : Option Addr} {slI2 : Array (Option Value)}
    {n13 q3 : Str} {N3 : Addr} {bs3 bm3 : List Value} {sn3 : List Str} {sub3 : List Value} {ab3 : Bool} {col3 : Option Bool} {dd3 : Option Addr} {m03 m13 m23 m33 m53 : Option Value}
    {ocI3 kVI3 dcI3 pmI3 cdI3 ctI3 : Value} {odI3 anI3 : Option Addr} {slI3 : Array (Option Value)}
    {n14 q4 : Str} {N4 : Addr} {bs4 bm4 : List Value} {sn4 : List Str} {sub4 : List Value} {ab4 : Bool} {col4 : Option Bool} {dd4 : Option Addr} {m04 m14 m24 m34 m54 : Option Value}
    {ocI4 kVI4 dcI4 pmI4 cdI4 ctI4 : Value} {odI4 anI4 : Option Addr} {slI4 : Array (Option Value)}
    {n15 q5 : Str} {N5 : Addr} {bs5 bm5 : List Value} {sn5 : List Str} {sub5 : List Value} {ab5 : Bool} {col5 : Option Bool} {dd5 : Option Addr} {m05 m15 m25 m35 m55 : Option Value}
    {ocI5 kVI5 dcI5 pmI5 cdI5 ctI5 : Value} {odI5 anI5 : Option Addr} {slI5 : Array (Option Value)}
    {ocL kVL dcL pmL cdL ctL : Value} {odL anL : Option Addr} {slL : Array (Option Value)}
    {ocD kVD dcD pmD cdD ctD : Value} {odD anD : Option Addr} {slD : Array (Option Value)}
    {ocS kVS dcS pmS cdS ctS : Value} {odS anS : Option Addr} {slS : Array (Option Value)}
    {ocM kVM dcM pmM cdM ctM : Value} {odM anM : Option Addr} {slM : Array (Option Value)}
    {ocN kVN dcN pmN cdN ctN : Value} {odN anN : Option Addr} {slN : Array (Option Value)}
    {ocW kVW dcW pmW cdW ctW : Value} {odW anW : Option Addr} {slW : Array (Option Value)}
    (aF : PySem.W.nsIn K mainGlobals "FoldError" = some (some (.ref Cf)))
    (hF : PySem.W.hasDictIn K Cf = true) (tF : PySem.W.typeIn K (.ref Cf) = some (.type "type"))
    (hn : PySem.W.specialIn K (.builtin "object.__class__") "__get__" = some (some (.builtin "getset_descriptor.__get__"))) (ht : PySem.W.takesIn K (.builtin "object.__class__") = some true)
    (aO0 : PySem.W.nsIn K mainGlobals "BadText" = some (some (.ref O0))) (hO0 : PySem.W.hasDictIn K O0 = true) (tO0 : PySem.W.typeIn K (.ref O0) = some (.type "type")) (sO0 : PySem.W.subIn K (.ref O0) (.ref O0) = some true)
    (aO1 : PySem.W.nsIn K mainGlobals "BadName" = some (some (.ref O1))) (hO1 : PySem.W.hasDictIn K O1 = true) (tO1 : PySem.W.typeIn K (.ref O1) = some (.type "type")) (sO1 : PySem.W.subIn K (.ref O1) (.ref O1) = some true)
    (aO2 : PySem.W.nsIn K mainGlobals "BadModule" = some (some (.ref O2))) (hO2 : PySem.W.hasDictIn K O2 = true) (tO2 : PySem.W.typeIn K (.ref O2) = some (.type "type")) (sO2 : PySem.W.subIn K (.ref O2) (.ref O2) = some true)
    (aO3 : PySem.W.nsIn K mainGlobals "BadValue" = some (some (.ref O3))) (hO3 : PySem.W.hasDictIn K O3 = true) (tO3 : PySem.W.typeIn K (.ref O3) = some (.type "type")) (sO3 : PySem.W.subIn K (.ref O3) (.ref O3) = some true)
    (aO4 : PySem.W.nsIn K mainGlobals "UnknownName" = some (some (.ref O4))) (hO4 : PySem.W.hasDictIn K O4 = true) (tO4 : PySem.W.typeIn K (.ref O4) = some (.type "type")) (sO4 : PySem.W.subIn K (.ref O4) (.ref O4) = some true)
    (aO5 : PySem.W.nsIn K mainGlobals "LimitExceeded" = some (some (.ref O5))) (hO5 : PySem.W.hasDictIn K O5 = true) (tO5 : PySem.W.typeIn K (.ref O5) = some (.type "type")) (sO5 : PySem.W.subIn K (.ref O5) (.ref O5) = some true)
    (aO6 : PySem.W.nsIn K mainGlobals "NotLegal" = some (some (.ref O6))) (hO6 : PySem.W.hasDictIn K O6 = true) (tO6 : PySem.W.typeIn K (.ref O6) = some (.type "type")) (sO6 : PySem.W.subIn K (.ref O6) (.ref O6) = some true)
    (aC0 : PySem.W.nsIn K mainGlobals "NotFunction" = some (some (.ref C0)))
    (xL0 : K.lookup C0 = some (excClassObj n10 q0 C0 N0 bs0 bm0 true sn0 sub0 ab0 col0 dd0 m00 m10 m20 m30 m50 "ValueError.__new__")) (bv0 : PySem.HandSPX.refsVE bm0 = true)
    (sa0 : PySem.W.findIn K (.ref C0) "__setattr__" = some (some (.builtin "object.__setattr__"))) (ga0 : PySem.W.findIn K (.ref C0) "__getattribute__" = some (some (.builtin "BaseException.__getattribute__"))) (gg0 : PySem.W.findIn K (.ref C0) "__getattr__" = some none)
    (a10 : PySem.W.findIn K (.ref C0) "__init__" = some (some (.ref f0))) (t10 : PySem.W.typeIn K (.ref f0) = some (.type "function")) (kC0 : PySem.W.keepIn K (.ref C0) = true) (eC0 : PySem.W.subIn K (.ref C0) (.type "BaseException") = some true)
    (tC0 : PySem.W.typeIn K (.ref C0) = some (.type "type")) (hC0 : PySem.W.hasDictIn K C0 = true) (cC0 : PySem.W.findIn K (.ref C0) "__class__" = some (some (.builtin "object.__class__"))) (mC0 : PySem.W.mroIn K C0 (.type "object") = some true)
    (lI0 : K.lookup f0 = some ⟨ocI0, odI0, .func (PySem.W.fnOf "__init__" "NotFunction.__init__" (defArgs (sI 10)) (defBody (sI 10)) (defScope (sI 10)) .none kVI0 dcI0 pmI0 anI0 cdI0 ctI0), slI0⟩) (cI0 : PySem.W.codeIn K cdI0 "NotFunction.__init__" = true) (kI0 : PySem.W.keepIn K (.ref f0) = true)
    (n0_value : PySem.W.findIn K (.ref C0) "value" = some none)
    (sF0 : PySem.W.subIn K (.ref C0) (.ref Cf) = some true) (sV0 : PySem.W.subIn K (.ref C0) (.type "ValueError") = some true)
    (aC1 : PySem.W.nsIn K mainGlobals "NotSure" = some (some (.ref C1)))
    (xL1 : K.lookup C1 = some (excClassObj n11 q1 C1 N1 bs1 bm1 true sn1 sub1 ab1 col1 dd1 m01 m11 m21 m31 m51 "ValueError.__new__")) (bv1 : PySem.HandSPX.refsVE bm1 = true)
    (sa1 : PySem.W.findIn K (.ref C1) "__setattr__" = some (some (.builtin "object.__setattr__"))) (ga1 : PySem.W.findIn K (.ref C1) "__getattribute__" = some (some (.builtin "BaseException.__getattribute__"))) (gg1 : PySem.W.findIn K (.ref C1) "__getattr__" = some none)
    (a11 : PySem.W.findIn K (.ref C1) "__init__" = some (some (.ref f1))) (t11 : PySem.W.typeIn K (.ref f1) = some (.type "function")) (kC1 : PySem.W.keepIn K (.ref C1) = true) (eC1 : PySem.W.subIn K (.ref C1) (.type "BaseException") = some true)
    (tC1 : PySem.W.typeIn K (.ref C1) = some (.type "type")) (hC1 : PySem.W.hasDictIn K C1 = true) (cC1 : PySem.W.findIn K (.ref C1) "__class__" = some (some (.builtin "object.__class__"))) (mC1 : PySem.W.mroIn K C1 (.type "object") = some true)
    (lI1 : K.lookup f1 = some ⟨ocI1, odI1, .func (PySem.W.fnOf "__init__" "NotSure.__init__" (defArgs (sI 11)) (defBody (sI 11)) (defScope (sI 11)) .none kVI1 dcI1 pmI1 anI1 cdI1 ctI1), slI1⟩) (cI1 : PySem.W.codeIn K cdI1 "NotSure.__init__" = true) (kI1 : PySem.W.keepIn K (.ref f1) = true)
    (n1_one : PySem.W.findIn K (.ref C1) "one" = some none)
    (n1_other : PySem.W.findIn K (.ref C1) "other" = some none)
    (n1_later : PySem.W.findIn K (.ref C1) "later" = some none)
    (sF1 : PySem.W.subIn K (.ref C1) (.ref Cf) = some true) (sV1 : PySem.W.subIn K (.ref C1) (.type "ValueError") = some true)
    (aC2 : PySem.W.nsIn K mainGlobals "Clash" = some (some (.ref C2)))
    (xL2 : K.lookup C2 = some (excClassObj n12 q2 C2 N2 bs2 bm2 true sn2 sub2 ab2 col2 dd2 m02 m12 m22 m32 m52 "ValueError.__new__")) (bv2 : PySem.HandSPX.refsVE bm2 = true)
    (sa2 : PySem.W.findIn K (.ref C2) "__setattr__" = some (some (.builtin "object.__setattr__"))) (ga2 : PySem.W.findIn K (.ref C2) "__getattribute__" = some (some (.builtin "BaseException.__getattribute__"))) (gg2 : PySem.W.findIn K (.ref C2) "__getattr__" = some none)
    (a12 : PySem.W.findIn K (.ref C2) "__init__" = some (some (.ref f2))) (t12 : PySem.W.typeIn K (.ref f2) = some (.type "function")) (kC2 : PySem.W.keepIn K (.ref C2) = true) (eC2 : PySem.W.subIn K (.ref C2) (.type "BaseException") = some true)
    (tC2 : PySem.W.typeIn K (.ref C2) = some (.type "type")) (hC2 : PySem.W.hasDictIn K C2 = true) (cC2 : PySem.W.findIn K (.ref C2) "__class__" = some (some (.builtin "object.__class__"))) (mC2 : PySem.W.mroIn K C2 (.type "object") = some true)
    (lI2 : K.lookup f2 = some ⟨ocI2, odI2, .func (PySem.W.fnOf "__init__" "Clash.__init__" (defArgs (sI 12)) (defBody (sI 12)) (defScope (sI 12)) .none kVI2 dcI2 pmI2 anI2 cdI2 ctI2), slI2⟩) (cI2 : PySem.W.codeIn K cdI2 "Clash.__init__" = true) (kI2 : PySem.W.keepIn K (.ref f2) = true)
    (n2_value : PySem.W.findIn K (.ref C2) "value" = some none)
    (sF2 : PySem.W.subIn K (.ref C2) (.ref Cf) = some true) (sV2 : PySem.W.subIn K (.ref C2) (.type "ValueError") = some true)
    (aC3 : PySem.W.nsIn K mainGlobals "BadJournal" = some (some (.ref C3)))
    (xL3 : K.lookup C3 = some (excClassObj n13 q3 C3 N3 bs3 bm3 true sn3 sub3 ab3 col3 dd3 m03 m13 m23 m33 m53 "ValueError.__new__")) (bv3 : PySem.HandSPX.refsVE bm3 = true)
    (sa3 : PySem.W.findIn K (.ref C3) "__setattr__" = some (some (.builtin "object.__setattr__"))) (ga3 : PySem.W.findIn K (.ref C3) "__getattribute__" = some (some (.builtin "BaseException.__getattribute__"))) (gg3 : PySem.W.findIn K (.ref C3) "__getattr__" = some none)
    (a13 : PySem.W.findIn K (.ref C3) "__init__" = some (some (.ref f3))) (t13 : PySem.W.typeIn K (.ref f3) = some (.type "function")) (kC3 : PySem.W.keepIn K (.ref C3) = true) (eC3 : PySem.W.subIn K (.ref C3) (.type "BaseException") = some true)
    (tC3 : PySem.W.typeIn K (.ref C3) = some (.type "type")) (hC3 : PySem.W.hasDictIn K C3 = true) (cC3 : PySem.W.findIn K (.ref C3) "__class__" = some (some (.builtin "object.__class__"))) (mC3 : PySem.W.mroIn K C3 (.type "object") = some true)
    (lI3 : K.lookup f3 = some ⟨ocI3, odI3, .func (PySem.W.fnOf "__init__" "BadJournal.__init__" (defArgs (sI 13)) (defBody (sI 13)) (defScope (sI 13)) .none kVI3 dcI3 pmI3 anI3 cdI3 ctI3), slI3⟩) (cI3 : PySem.W.codeIn K cdI3 "BadJournal.__init__" = true) (kI3 : PySem.W.keepIn K (.ref f3) = true)
    (n3_row : PySem.W.findIn K (.ref C3) "row" = some none)
    (sF3 : PySem.W.subIn K (.ref C3) (.ref Cf) = some true) (sV3 : PySem.W.subIn K (.ref C3) (.type "ValueError") = some true)
    (aC4 : PySem.W.nsIn K mainGlobals "BadQuestion" = some (some (.ref C4)))
    (xL4 : K.lookup C4 = some (excClassObj n14 q4 C4 N4 bs4 bm4 true sn4 sub4 ab4 col4 dd4 m04 m14 m24 m34 m54 "ValueError.__new__")) (bv4 : PySem.HandSPX.refsVE bm4 = true)
    (sa4 : PySem.W.findIn K (.ref C4) "__setattr__" = some (some (.builtin "object.__setattr__"))) (ga4 : PySem.W.findIn K (.ref C4) "__getattribute__" = some (some (.builtin "BaseException.__getattribute__"))) (gg4 : PySem.W.findIn K (.ref C4) "__getattr__" = some none)
    (a14 : PySem.W.findIn K (.ref C4) "__init__" = some (some (.ref f4))) (t14 : PySem.W.typeIn K (.ref f4) = some (.type "function")) (kC4 : PySem.W.keepIn K (.ref C4) = true) (eC4 : PySem.W.subIn K (.ref C4) (.type "BaseException") = some true)
    (tC4 : PySem.W.typeIn K (.ref C4) = some (.type "type")) (hC4 : PySem.W.hasDictIn K C4 = true) (cC4 : PySem.W.findIn K (.ref C4) "__class__" = some (some (.builtin "object.__class__"))) (mC4 : PySem.W.mroIn K C4 (.type "object") = some true)
    (lI4 : K.lookup f4 = some ⟨ocI4, odI4, .func (PySem.W.fnOf "__init__" "BadQuestion.__init__" (defArgs (sI 14)) (defBody (sI 14)) (defScope (sI 14)) .none kVI4 dcI4 pmI4 anI4 cdI4 ctI4), slI4⟩) (cI4 : PySem.W.codeIn K cdI4 "BadQuestion.__init__" = true) (kI4 : PySem.W.keepIn K (.ref f4) = true)
    (n4_place : PySem.W.findIn K (.ref C4) "place" = some none)
    (sF4 : PySem.W.subIn K (.ref C4) (.ref Cf) = some true) (sV4 : PySem.W.subIn K (.ref C4) (.type "ValueError") = some true)
    (aC5 : PySem.W.nsIn K mainGlobals "Noticed" = some (some (.ref C5)))
    (xL5 : K.lookup C5 = some (excClassObj n15 q5 C5 N5 bs5 bm5 true sn5 sub5 ab5 col5 dd5 m05 m15 m25 m35 m55 "ValueError.__new__")) (bv5 : PySem.HandSPX.refsVE bm5 = true)
    (sa5 : PySem.W.findIn K (.ref C5) "__setattr__" = some (some (.builtin "object.__setattr__"))) (ga5 : PySem.W.findIn K (.ref C5) "__getattribute__" = some (some (.builtin "BaseException.__getattribute__"))) (gg5 : PySem.W.findIn K (.ref C5) "__getattr__" = some none)
    (a15 : PySem.W.findIn K (.ref C5) "__init__" = some (some (.ref f5))) (t15 : PySem.W.typeIn K (.ref f5) = some (.type "function")) (kC5 : PySem.W.keepIn K (.ref C5) = true) (eC5 : PySem.W.subIn K (.ref C5) (.type "BaseException") = some true)
    (tC5 : PySem.W.typeIn K (.ref C5) = some (.type "type")) (hC5 : PySem.W.hasDictIn K C5 = true) (cC5 : PySem.W.findIn K (.ref C5) "__class__" = some (some (.builtin "object.__class__"))) (mC5 : PySem.W.mroIn K C5 (.type "object") = some true)
    (lI5 : K.lookup f5 = some ⟨ocI5, odI5, .func (PySem.W.fnOf "__init__" "Noticed.__init__" (defArgs (sI 9)) (defBody (sI 9)) (defScope (sI 9)) .none kVI5 dcI5 pmI5 anI5 cdI5 ctI5), slI5⟩) (cI5 : PySem.W.codeIn K cdI5 "Noticed.__init__" = true) (kI5 : PySem.W.keepIn K (.ref f5) = true)
    (n5_moment : PySem.W.findIn K (.ref C5) "moment" = some none)
    (sF5 : PySem.W.subIn K (.ref C5) (.ref Cf) = some true) (sV5 : PySem.W.subIn K (.ref C5) (.type "ValueError") = some true)
    (s0_0 : PySem.W.subIn K (.ref C0) (.ref C0) = some true)
    (s0_1 : PySem.W.subIn K (.ref C0) (.ref C1) = some false)
    (s0_2 : PySem.W.subIn K (.ref C0) (.ref C2) = some false)
    (s0_3 : PySem.W.subIn K (.ref C0) (.ref C3) = some false)
    (s0_4 : PySem.W.subIn K (.ref C0) (.ref C4) = some false)
    (s0_5 : PySem.W.subIn K (.ref C0) (.ref C5) = some false)
    (o0_0 : PySem.W.subIn K (.ref C0) (.ref O0) = some false)
    (o0_1 : PySem.W.subIn K (.ref C0) (.ref O1) = some false)
    (o0_2 : PySem.W.subIn K (.ref C0) (.ref O2) = some false)
    (o0_3 : PySem.W.subIn K (.ref C0) (.ref O3) = some false)
    (o0_4 : PySem.W.subIn K (.ref C0) (.ref O4) = some false)
    (o0_5 : PySem.W.subIn K (.ref C0) (.ref O5) = some false)
    (o0_6 : PySem.W.subIn K (.ref C0) (.ref O6) = some false)
    (s1_0 : PySem.W.subIn K (.ref C1) (.ref C0) = some false)
    (s1_1 : PySem.W.subIn K (.ref C1) (.ref C1) = some true)
    (s1_2 : PySem.W.subIn K (.ref C1) (.ref C2) = some false)
    (s1_3 : PySem.W.subIn K (.ref C1) (.ref C3) = some false)
    (s1_4 : PySem.W.subIn K (.ref C1) (.ref C4) = some false)
    (s1_5 : PySem.W.subIn K (.ref C1) (.ref C5) = some false)
    (o1_0 : PySem.W.subIn K (.ref C1) (.ref O0) = some false)
    (o1_1 : PySem.W.subIn K (.ref C1) (.ref O1) = some false)
    (o1_2 : PySem.W.subIn K (.ref C1) (.ref O2) = some false)
    (o1_3 : PySem.W.subIn K (.ref C1) (.ref O3) = some false)
    (o1_4 : PySem.W.subIn K (.ref C1) (.ref O4) = some false)
    (o1_5 : PySem.W.subIn K (.ref C1) (.ref O5) = some false)
    (o1_6 : PySem.W.subIn K (.ref C1) (.ref O6) = some false)
    (s2_0 : PySem.W.subIn K (.ref C2) (.ref C0) = some false)
    (s2_1 : PySem.W.subIn K (.ref C2) (.ref C1) = some false)
    (s2_2 : PySem.W.subIn K (.ref C2) (.ref C2) = some true)
    (s2_3 : PySem.W.subIn K (.ref C2) (.ref C3) = some false)
    (s2_4 : PySem.W.subIn K (.ref C2) (.ref C4) = some false)
    (s2_5 : PySem.W.subIn K (.ref C2) (.ref C5) = some false)
    (o2_0 : PySem.W.subIn K (.ref C2) (.ref O0) = some false)
    (o2_1 : PySem.W.subIn K (.ref C2) (.ref O1) = some false)
    (o2_2 : PySem.W.subIn K (.ref C2) (.ref O2) = some false)
    (o2_3 : PySem.W.subIn K (.ref C2) (.ref O3) = some false)
    (o2_4 : PySem.W.subIn K (.ref C2) (.ref O4) = some false)
    (o2_5 : PySem.W.subIn K (.ref C2) (.ref O5) = some false)
    (o2_6 : PySem.W.subIn K (.ref C2) (.ref O6) = some false)
    (s3_0 : PySem.W.subIn K (.ref C3) (.ref C0) = some false)
    (s3_1 : PySem.W.subIn K (.ref C3) (.ref C1) = some false)
    (s3_2 : PySem.W.subIn K (.ref C3) (.ref C2) = some false)
    (s3_3 : PySem.W.subIn K (.ref C3) (.ref C3) = some true)
    (s3_4 : PySem.W.subIn K (.ref C3) (.ref C4) = some false)
    (s3_5 : PySem.W.subIn K (.ref C3) (.ref C5) = some false)
    (o3_0 : PySem.W.subIn K (.ref C3) (.ref O0) = some false)
    (o3_1 : PySem.W.subIn K (.ref C3) (.ref O1) = some false)
    (o3_2 : PySem.W.subIn K (.ref C3) (.ref O2) = some false)
    (o3_3 : PySem.W.subIn K (.ref C3) (.ref O3) = some false)
    (o3_4 : PySem.W.subIn K (.ref C3) (.ref O4) = some false)
    (o3_5 : PySem.W.subIn K (.ref C3) (.ref O5) = some false)
    (o3_6 : PySem.W.subIn K (.ref C3) (.ref O6) = some false)
    (s4_0 : PySem.W.subIn K (.ref C4) (.ref C0) = some false)
    (s4_1 : PySem.W.subIn K (.ref C4) (.ref C1) = some false)
    (s4_2 : PySem.W.subIn K (.ref C4) (.ref C2) = some false)
    (s4_3 : PySem.W.subIn K (.ref C4) (.ref C3) = some false)
    (s4_4 : PySem.W.subIn K (.ref C4) (.ref C4) = some true)
    (s4_5 : PySem.W.subIn K (.ref C4) (.ref C5) = some false)
    (o4_0 : PySem.W.subIn K (.ref C4) (.ref O0) = some false)
    (o4_1 : PySem.W.subIn K (.ref C4) (.ref O1) = some false)
    (o4_2 : PySem.W.subIn K (.ref C4) (.ref O2) = some false)
    (o4_3 : PySem.W.subIn K (.ref C4) (.ref O3) = some false)
    (o4_4 : PySem.W.subIn K (.ref C4) (.ref O4) = some false)
    (o4_5 : PySem.W.subIn K (.ref C4) (.ref O5) = some false)
    (o4_6 : PySem.W.subIn K (.ref C4) (.ref O6) = some false)
    (s5_0 : PySem.W.subIn K (.ref C5) (.ref C0) = some false)
    (s5_1 : PySem.W.subIn K (.ref C5) (.ref C1) = some false)
    (s5_2 : PySem.W.subIn K (.ref C5) (.ref C2) = some false)
    (s5_3 : PySem.W.subIn K (.ref C5) (.ref C3) = some false)
    (s5_4 : PySem.W.subIn K (.ref C5) (.ref C4) = some false)
    (s5_5 : PySem.W.subIn K (.ref C5) (.ref C5) = some true)
    (o5_0 : PySem.W.subIn K (.ref C5) (.ref O0) = some false)
    (o5_1 : PySem.W.subIn K (.ref C5) (.ref O1) = some false)
    (o5_2 : PySem.W.subIn K (.ref C5) (.ref O2) = some false)
    (o5_3 : PySem.W.subIn K (.ref C5) (.ref O3) = some false)
    (o5_4 : PySem.W.subIn K (.ref C5) (.ref O4) = some false)
    (o5_5 : PySem.W.subIn K (.ref C5) (.ref O5) = some false)
    (o5_6 : PySem.W.subIn K (.ref C5) (.ref O6) = some false)
    (zlen : PySem.W.nsIn K mainGlobals "len" = some none)
    (zlist : PySem.W.nsIn K mainGlobals "list" = some none)
    (zint : PySem.W.nsIn K mainGlobals "int" = some none)
    (zrange : PySem.W.nsIn K mainGlobals "range" = some none)
    (zrepr : PySem.W.nsIn K mainGlobals "repr" = some none)
    (zisinstance : PySem.W.nsIn K mainGlobals "isinstance" = some none)
    (zValueError : PySem.W.nsIn K mainGlobals "ValueError" = some none)
    (aL : PySem.W.nsIn K mainGlobals "_law_left" = some (some (.ref fL)))
    (lL : K.lookup fL = some ⟨ocL, odL, .func (PySem.W.fnOf "_law_left" "_law_left" (defArgs sLeft) (defBody sLeft) (defScope sLeft) .none kVL dcL pmL anL cdL ctL), slL⟩) (cL : PySem.W.codeIn K cdL "_law_left" = true) (kL : PySem.W.keepIn K (.ref fL) = true)
    (aD : PySem.W.nsIn K mainGlobals "_law_draw" = some (some (.ref fD)))
    (lD : K.lookup fD = some ⟨ocD, odD, .func (PySem.W.fnOf "_law_draw" "_law_draw" (defArgs sDraw) (defBody sDraw) (defScope sDraw) .none kVD dcD pmD anD cdD ctD), slD⟩) (cD : PySem.W.codeIn K cdD "_law_draw" = true) (kD : PySem.W.keepIn K (.ref fD) = true)
    (aS : PySem.W.nsIn K mainGlobals "_law_signs" = some (some (.ref fS)))
    (lS : K.lookup fS = some ⟨ocS, odS, .func (PySem.W.fnOf "_law_signs" "_law_signs" (defArgs sSigns) (defBody sSigns) (defScope sSigns) .none kVS dcS pmS anS cdS ctS), slS⟩) (cS : PySem.W.codeIn K cdS "_law_signs" = true) (kS : PySem.W.keepIn K (.ref fS) = true)
    (aM : PySem.W.nsIn K mainGlobals "_law_made" = some (some (.ref fM)))
    (lM : K.lookup fM = some ⟨ocM, odM, .func (PySem.W.fnOf "_law_made" "_law_made" (defArgs sMade) (defBody sMade) (defScope sMade) .none kVM dcM pmM anM cdM ctM), slM⟩) (cM : PySem.W.codeIn K cdM "_law_made" = true) (kM : PySem.W.keepIn K (.ref fM) = true)
    (aN : PySem.W.nsIn K mainGlobals "_law_named" = some (some (.ref fN)))
    (lN : K.lookup fN = some ⟨ocN, odN, .func (PySem.W.fnOf "_law_named" "_law_named" (defArgs sNamed) (defBody sNamed) (defScope sNamed) .none kVN dcN pmN anN cdN ctN), slN⟩) (cN : PySem.W.codeIn K cdN "_law_named" = true) (kN : PySem.W.keepIn K (.ref fN) = true)
    (aW : PySem.W.nsIn K mainGlobals "law" = some (some (.ref fW)))
    (lW : K.lookup fW = some ⟨ocW, odW, .func (PySem.W.fnOf "law" "law" (defArgs sLaw) (defBody sLaw) (defScope sLaw) .none kVW dcW pmW anW cdW ctW), slW⟩) (cW : PySem.W.codeIn K cdW "law" = true) (kW : PySem.W.keepIn K (.ref fW) = true)
    : ∃ fd : FuncData, (∀ (s : Shared) (v : Value), BindsTo s fd ⟨[v], []⟩ [("_law_script", v)]) ∧ ∀ base : Heap, K.In base → base.Ns mainGlobals mg → FnG l.prog w K mg base 4 fa fd ["_law_script"] (spLaw K) := by
  have e := hfa.symm.trans (PySem.W.mg_of X G aW)
  cases e
  have T : Txt K mg Cf C0 f0 C1 f1 C2 f2 C3 f3 C4 f4 C5 f5 O0 O1 O2 O3 O4 O5 O6 := {
    gF := PySem.W.mg_of X G aF, hF := hF, tF := tF
    gO0 := PySem.W.mg_of X G aO0, hO0 := hO0, tO0 := tO0, sO0 := sO0
    gO1 := PySem.W.mg_of X G aO1, hO1 := hO1, tO1 := tO1, sO1 := sO1
    gO2 := PySem.W.mg_of X G aO2, hO2 := hO2, tO2 := tO2, sO2 := sO2
    gO3 := PySem.W.mg_of X G aO3, hO3 := hO3, tO3 := tO3, sO3 := sO3
    gO4 := PySem.W.mg_of X G aO4, hO4 := hO4, tO4 := tO4, sO4 := sO4
    gO5 := PySem.W.mg_of X G aO5, hO5 := hO5, tO5 := tO5, sO5 := sO5
    gO6 := PySem.W.mg_of X G aO6, hO6 := hO6, tO6 := tO6, sO6 := sO6
    e0 := ec_mk X G aC0 xL0 bv0 sa0 ga0 gg0 a10 t10 kC0 eC0 tC0 hC0 cC0 mC0 hn ht
    n0_value := n0_value
    sF0 := sF0, sV0 := sV0
    s0_0 := s0_0, s0_1 := s0_1, s0_2 := s0_2, s0_3 := s0_3, s0_4 := s0_4, s0_5 := s0_5, o0_0 := o0_0, o0_1 := o0_1, o0_2 := o0_2, o0_3 := o0_3, o0_4 := o0_4, o0_5 := o0_5, o0_6 := o0_6
    e1 := ec_mk X G aC1 xL1 bv1 sa1 ga1 gg1 a11 t11 kC1 eC1 tC1 hC1 cC1 mC1 hn ht
    n1_one := n1_one
    n1_other := n1_other
    n1_later := n1_later
    sF1 := sF1, sV1 := sV1
    s1_0 := s1_0, s1_1 := s1_1, s1_2 := s1_2, s1_3 := s1_3, s1_4 := s1_4, s1_5 := s1_5, o1_0 := o1_0, o1_1 := o1_1, o1_2 := o1_2, o1_3 := o1_3, o1_4 := o1_4, o1_5 := o1_5, o1_6 := o1_6
    e2 := ec_mk X G aC2 xL2 bv2 sa2 ga2 gg2 a12 t12 kC2 eC2 tC2 hC2 cC2 mC2 hn ht
    n2_value := n2_value
    sF2 := sF2, sV2 := sV2
    s2_0 := s2_0, s2_1 := s2_1, s2_2 := s2_2, s2_3 := s2_3, s2_4 := s2_4, s2_5 := s2_5, o2_0 := o2_0, o2_1 := o2_1, o2_2 := o2_2, o2_3 := o2_3, o2_4 := o2_4, o2_5 := o2_5, o2_6 := o2_6
    e3 := ec_mk X G aC3 xL3 bv3 sa3 ga3 gg3 a13 t13 kC3 eC3 tC3 hC3 cC3 mC3 hn ht
    n3_row := n3_row
    sF3 := sF3, sV3 := sV3
    s3_0 := s3_0, s3_1 := s3_1, s3_2 := s3_2, s3_3 := s3_3, s3_4 := s3_4, s3_5 := s3_5, o3_0 := o3_0, o3_1 := o3_1, o3_2 := o3_2, o3_3 := o3_3, o3_4 := o3_4, o3_5 := o3_5, o3_6 := o3_6
    e4 := ec_mk X G aC4 xL4 bv4 sa4 ga4 gg4 a14 t14 kC4 eC4 tC4 hC4 cC4 mC4 hn ht
    n4_place := n4_place
    sF4 := sF4, sV4 := sV4
    s4_0 := s4_0, s4_1 := s4_1, s4_2 := s4_2, s4_3 := s4_3, s4_4 := s4_4, s4_5 := s4_5, o4_0 := o4_0, o4_1 := o4_1, o4_2 := o4_2, o4_3 := o4_3, o4_4 := o4_4, o4_5 := o4_5, o4_6 := o4_6
    e5 := ec_mk X G aC5 xL5 bv5 sa5 ga5 gg5 a15 t15 kC5 eC5 tC5 hC5 cC5 mC5 hn ht
    n5_moment := n5_moment
    sF5 := sF5, sV5 := sV5
    s5_0 := s5_0, s5_1 := s5_1, s5_2 := s5_2, s5_3 := s5_3, s5_4 := s5_4, s5_5 := s5_5, o5_0 := o5_0, o5_1 := o5_1, o5_2 := o5_2, o5_3 := o5_3, o5_4 := o5_4, o5_5 := o5_5, o5_6 := o5_6
    zlen := PySem.W.mg_none_of X G zlen, zlist := PySem.W.mg_none_of X G zlist, zint := PySem.W.mg_none_of X G zint, zrange := PySem.W.mg_none_of X G zrange, zrepr := PySem.W.mg_none_of X G zrepr, zisinstance := PySem.W.mg_none_of X G zisinstance, zValueError := PySem.W.mg_none_of X G zValueError }
  have FL := fun_mk (st := sLeft) lL cL kL
  have bL := FL.binds (ps := ["_law_script"]) fun _ _ _ _ _ _ us hl => match us, hl with | [_], _ => rfl
  have FD := fun_mk (st := sDraw) lD cD kD
  have bD := FD.binds (ps := ["_law_left_here", "_law_most"]) fun _ _ _ _ _ _ us hl => match us, hl with | [_, _], _ => rfl
  have FS := fun_mk (st := sSigns) lS cS kS
  have bS := FS.binds (ps := ["_law_error"]) fun _ _ _ _ _ _ us hl => match us, hl with | [_], _ => rfl
  have FM := fun_mk (st := sMade) lM cM kM
  have bM := FM.binds (ps := ["_law_x", "_law_y", "_law_z"]) fun _ _ _ _ _ _ us hl => match us, hl with | [_, _, _], _ => rfl
  have FN := fun_mk (st := sNamed) lN cN kN
  have bN := FN.binds (ps := ["_law_x", "_law_y", "_law_z"]) fun _ _ _ _ _ _ us hl => match us, hl with | [_, _, _], _ => rfl
  have F0 := fun_mk (st := sI 10) lI0 cI0 kI0
  have b0 := F0.binds (ps := ["self", "value"]) fun _ _ _ _ _ _ us hl => match us, hl with | [_, _], _ => rfl
  have q0 := kb1 (a := "self") (b := "value") F0 fun _ _ _ _ _ _ _ _ => rfl
  have F1 := fun_mk (st := sI 11) lI1 cI1 kI1
  have b1 := F1.binds (ps := ["self", "one", "other", "later"]) fun _ _ _ _ _ _ us hl => match us, hl with | [_, _, _, _], _ => rfl
  have q1 := kb3 (a := "self") (b := "one") (c := "other") (d := "later") F1 fun _ _ _ _ _ _ _ _ _ _ => rfl
  have F2 := fun_mk (st := sI 12) lI2 cI2 kI2
  have b2 := F2.binds (ps := ["self", "value"]) fun _ _ _ _ _ _ us hl => match us, hl with | [_, _], _ => rfl
  have q2 := kb1 (a := "self") (b := "value") F2 fun _ _ _ _ _ _ _ _ => rfl
  have F3 := fun_mk (st := sI 13) lI3 cI3 kI3
  have b3 := F3.binds (ps := ["self", "row"]) fun _ _ _ _ _ _ us hl => match us, hl with | [_, _], _ => rfl
  have q3 := kb1 (a := "self") (b := "row") F3 fun _ _ _ _ _ _ _ _ => rfl
  have F4 := fun_mk (st := sI 14) lI4 cI4 kI4
  have b4 := F4.binds (ps := ["self", "place"]) fun _ _ _ _ _ _ us hl => match us, hl with | [_, _], _ => rfl
  have q4 := kb1 (a := "self") (b := "place") F4 fun _ _ _ _ _ _ _ _ => rfl
  have F5 := fun_mk (st := sI 9) lI5 cI5 kI5
  have b5 := F5.binds (ps := ["self", "moment"]) fun _ _ _ _ _ _ us hl => match us, hl with | [_, _], _ => rfl
  have q5 := kb1 (a := "self") (b := "moment") F5 fun _ _ _ _ _ _ _ _ => rfl
  exact ⟨PySem.W.fnOf "law" "law" (defArgs sLaw) (defBody sLaw) (defScope sLaw) .none kVW dcW pmW anW cdW ctW, fun s v => .of_eq rfl, fun base _ _ =>
    ok_law (fun_mk (st := sLaw) lW cW kW) T FL bL (PySem.W.mg_of X G aL) FD bD (PySem.W.mg_of X G aD) FS bS (PySem.W.mg_of X G aS) FM bM (PySem.W.mg_of X G aM) FN bN (PySem.W.mg_of X G aN) F0 b0 q0 F1 b1 q1 F2 b2 q2 F3 b3 q3 F4 b4 q4 F5 b5 q5⟩
end K89
open PySem PySem.W PyProof.Rows in
set_option maxRecDepth 100000 in
set_option maxHeartbeats 0 in
theorem PySem.Challenge.cw_foldsame_k89_errors_of_later_stages_holds : PySem.Challenge.rw_foldsame_k89_errors_of_later_stages.Holds := by
  w_on; o_law; k_head; (case hw => w_witness2)
  k_fill
  refine FS.walk_G (l := PySem.Challenge.rw_foldsame_k89_errors_of_later_stages) (n := 63) (k := 4) (x := "_law_script") (sp := fun w => K89.spLaw _) rfl (by decide) rfl ⟨rfl, by decide, by decide⟩ (fun w h Y => PySem.W.kIn_of Y) ?F (fun _ _ a ns hl _ hS => ⟨a, ns, rfl, hS, hl, fun _ => rfl⟩)
  case F =>
    intro w mg fa h KX G hmg
    refine' K89.all_mk KX G hmg ?aF ?hF ?tF ?hn ?ht ?aO0 ?hO0 ?tO0 ?sO0 ?aO1 ?hO1 ?tO1 ?sO1 ?aO2 ?hO2 ?tO2 ?sO2 ?aO3 ?hO3 ?tO3 ?sO3 ?aO4 ?hO4 ?tO4 ?sO4 ?aO5 ?hO5 ?tO5 ?sO5 ?aO6 ?hO6 ?tO6 ?sO6 ?aC0 ?xL0 ?bv0 ?sa0 ?ga0 ?gg0 ?a10 ?t10 ?kC0 ?eC0 ?tC0 ?hC0 ?cC0 ?mC0 ?lI0 ?cI0 ?kI0 ?n0_value ?sF0 ?sV0 ?aC1 ?xL1 ?bv1 ?sa1 ?ga1 ?gg1 ?a11 ?t11 ?kC1 ?eC1 ?tC1 ?hC1 ?cC1 ?mC1 ?lI1 ?cI1 ?kI1 ?n1_one ?n1_other ?n1_later ?sF1 ?sV1 ?aC2 ?xL2 ?bv2 ?sa2 ?ga2 ?gg2 ?a12 ?t12 ?kC2 ?eC2 ?tC2 ?hC2 ?cC2 ?mC2 ?lI2 ?cI2 ?kI2 ?n2_value ?sF2 ?sV2 ?aC3 ?xL3 ?bv3 ?sa3 ?ga3 ?gg3 ?a13 ?t13 ?kC3 ?eC3 ?tC3 ?hC3 ?cC3 ?mC3 ?lI3 ?cI3 ?kI3 ?n3_row ?sF3 ?sV3 ?aC4 ?xL4 ?bv4 ?sa4 ?ga4 ?gg4 ?a14 ?t14 ?kC4 ?eC4 ?tC4 ?hC4 ?cC4 ?mC4 ?lI4 ?cI4 ?kI4 ?n4_place ?sF4 ?sV4 ?aC5 ?xL5 ?bv5 ?sa5 ?ga5 ?gg5 ?a15 ?t15 ?kC5 ?eC5 ?tC5 ?hC5 ?cC5 ?mC5 ?lI5 ?cI5 ?kI5 ?n5_moment ?sF5 ?sV5 ?s0_0 ?s0_1 ?s0_2 ?s0_3 ?s0_4 ?s0_5 ?o0_0 ?o0_1 ?o0_2 ?o0_3 ?o0_4 ?o0_5 ?o0_6 ?s1_0 ?s1_1 ?s1_2 ?s1_3 ?s1_4 ?s1_5 ?o1_0 ?o1_1 ?o1_2 ?o1_3 ?o1_4 ?o1_5 ?o1_6 ?s2_0 ?s2_1 ?s2_2 ?s2_3 ?s2_4 ?s2_5 ?o2_0 ?o2_1 ?o2_2 ?o2_3 ?o2_4 ?o2_5 ?o2_6 ?s3_0 ?s3_1 ?s3_2 ?s3_3 ?s3_4 ?s3_5 ?o3_0 ?o3_1 ?o3_2 ?o3_3 ?o3_4 ?o3_5 ?o3_6 ?s4_0 ?s4_1 ?s4_2 ?s4_3 ?s4_4 ?s4_5 ?o4_0 ?o4_1 ?o4_2 ?o4_3 ?o4_4 ?o4_5 ?o4_6 ?s5_0 ?s5_1 ?s5_2 ?s5_3 ?s5_4 ?s5_5 ?o5_0 ?o5_1 ?o5_2 ?o5_3 ?o5_4 ?o5_5 ?o5_6 ?zlen ?zlist ?zint ?zrange ?zrepr ?zisinstance ?zValueError ?aL ?lL ?cL ?kL ?aD ?lD ?cD ?kD ?aS ?lS ?cS ?kS ?aM ?lM ?cM ?kM ?aN ?lN ?cN ?kN ?aW ?lW ?cW ?kW
    (case aF => k_is)
    (case hF => k_is)
    (case tF => k_is)
    (case hn => k_is)
    (case ht => k_is)
    (case aO0 => k_is)
    (case hO0 => k_is)
    (case tO0 => k_is)
    (case sO0 => first | rfl | k_is)
    (case aO1 => k_is)
    (case hO1 => k_is)
    (case tO1 => k_is)
    (case sO1 => first | rfl | k_is)
    (case aO2 => k_is)
    (case hO2 => k_is)
    (case tO2 => k_is)
    (case sO2 => first | rfl | k_is)
    (case aO3 => k_is)
    (case hO3 => k_is)
    (case tO3 => k_is)
    (case sO3 => first | rfl | k_is)
    (case aO4 => k_is)
    (case hO4 => k_is)
    (case tO4 => k_is)
    (case sO4 => first | rfl | k_is)
    (case aO5 => k_is)
    (case hO5 => k_is)
    (case tO5 => k_is)
    (case sO5 => first | rfl | k_is)
    (case aO6 => k_is)
    (case hO6 => k_is)
    (case tO6 => k_is)
    (case sO6 => first | rfl | k_is)
    (case aC0 => k_is)
    (case xL0 => k_is)
    (case bv0 => rfl)
    (case sa0 => k_is)
    (case ga0 => k_is)
    (case gg0 => k_is)
    (case a10 => k_is)
    (case t10 => k_is)
    (case kC0 => k_is)
    (case eC0 => k_is)
    (case tC0 => k_is)
    (case hC0 => k_is)
    (case cC0 => k_is)
    (case mC0 => k_is)
    (case lI0 => k_is)
    (case cI0 => k_is)
    (case kI0 => k_is)
    (case n0_value => k_is)
    (case sF0 => k_is)
    (case sV0 => k_is)
    (case aC1 => k_is)
    (case xL1 => k_is)
    (case bv1 => rfl)
    (case sa1 => k_is)
    (case ga1 => k_is)
    (case gg1 => k_is)
    (case a11 => k_is)
    (case t11 => k_is)
    (case kC1 => k_is)
    (case eC1 => k_is)
    (case tC1 => k_is)
    (case hC1 => k_is)
    (case cC1 => k_is)
    (case mC1 => k_is)
    (case lI1 => k_is)
    (case cI1 => k_is)
    (case kI1 => k_is)
    (case n1_one => k_is)
    (case n1_other => k_is)
    (case n1_later => k_is)
    (case sF1 => k_is)
    (case sV1 => k_is)
    (case aC2 => k_is)
    (case xL2 => k_is)
    (case bv2 => rfl)
    (case sa2 => k_is)
    (case ga2 => k_is)
    (case gg2 => k_is)
    (case a12 => k_is)
    (case t12 => k_is)
    (case kC2 => k_is)
    (case eC2 => k_is)
    (case tC2 => k_is)
    (case hC2 => k_is)
    (case cC2 => k_is)
    (case mC2 => k_is)
    (case lI2 => k_is)
    (case cI2 => k_is)
    (case kI2 => k_is)
    (case n2_value => k_is)
    (case sF2 => k_is)
    (case sV2 => k_is)
    (case aC3 => k_is)
    (case xL3 => k_is)
    (case bv3 => rfl)
    (case sa3 => k_is)
    (case ga3 => k_is)
    (case gg3 => k_is)
    (case a13 => k_is)
    (case t13 => k_is)
    (case kC3 => k_is)
    (case eC3 => k_is)
    (case tC3 => k_is)
    (case hC3 => k_is)
    (case cC3 => k_is)
    (case mC3 => k_is)
    (case lI3 => k_is)
    (case cI3 => k_is)
    (case kI3 => k_is)
    (case n3_row => k_is)
    (case sF3 => k_is)
    (case sV3 => k_is)
    (case aC4 => k_is)
    (case xL4 => k_is)
    (case bv4 => rfl)
    (case sa4 => k_is)
    (case ga4 => k_is)
    (case gg4 => k_is)
    (case a14 => k_is)
    (case t14 => k_is)
    (case kC4 => k_is)
    (case eC4 => k_is)
    (case tC4 => k_is)
    (case hC4 => k_is)
    (case cC4 => k_is)
    (case mC4 => k_is)
    (case lI4 => k_is)
    (case cI4 => k_is)
    (case kI4 => k_is)
    (case n4_place => k_is)
    (case sF4 => k_is)
    (case sV4 => k_is)
    (case aC5 => k_is)
    (case xL5 => k_is)
    (case bv5 => rfl)
    (case sa5 => k_is)
    (case ga5 => k_is)
    (case gg5 => k_is)
    (case a15 => k_is)
    (case t15 => k_is)
    (case kC5 => k_is)
    (case eC5 => k_is)
    (case tC5 => k_is)
    (case hC5 => k_is)
    (case cC5 => k_is)
    (case mC5 => k_is)
    (case lI5 => k_is)
    (case cI5 => k_is)
    (case kI5 => k_is)
    (case n5_moment => k_is)
    (case sF5 => k_is)
    (case sV5 => k_is)
    (case s0_0 => first | rfl | k_is)
    (case s0_1 => k_is)
    (case s0_2 => k_is)
    (case s0_3 => k_is)
    (case s0_4 => k_is)
    (case s0_5 => k_is)
    (case o0_0 => k_is)
    (case o0_1 => k_is)
    (case o0_2 => k_is)
    (case o0_3 => k_is)
    (case o0_4 => k_is)
    (case o0_5 => k_is)
    (case o0_6 => k_is)
    (case s1_0 => k_is)
    (case s1_1 => first | rfl | k_is)
    (case s1_2 => k_is)
    (case s1_3 => k_is)
    (case s1_4 => k_is)
    (case s1_5 => k_is)
    (case o1_0 => k_is)
    (case o1_1 => k_is)
    (case o1_2 => k_is)
    (case o1_3 => k_is)
    (case o1_4 => k_is)
    (case o1_5 => k_is)
    (case o1_6 => k_is)
    (case s2_0 => k_is)
    (case s2_1 => k_is)
    (case s2_2 => first | rfl | k_is)
    (case s2_3 => k_is)
    (case s2_4 => k_is)
    (case s2_5 => k_is)
    (case o2_0 => k_is)
    (case o2_1 => k_is)
    (case o2_2 => k_is)
    (case o2_3 => k_is)
    (case o2_4 => k_is)
    (case o2_5 => k_is)
    (case o2_6 => k_is)
    (case s3_0 => k_is)
    (case s3_1 => k_is)
    (case s3_2 => k_is)
    (case s3_3 => first | rfl | k_is)
    (case s3_4 => k_is)
    (case s3_5 => k_is)
    (case o3_0 => k_is)
    (case o3_1 => k_is)
    (case o3_2 => k_is)
    (case o3_3 => k_is)
    (case o3_4 => k_is)
    (case o3_5 => k_is)
    (case o3_6 => k_is)
    (case s4_0 => k_is)
    (case s4_1 => k_is)
    (case s4_2 => k_is)
    (case s4_3 => k_is)
    (case s4_4 => first | rfl | k_is)
    (case s4_5 => k_is)
    (case o4_0 => k_is)
    (case o4_1 => k_is)
    (case o4_2 => k_is)
    (case o4_3 => k_is)
    (case o4_4 => k_is)
    (case o4_5 => k_is)
    (case o4_6 => k_is)
    (case s5_0 => k_is)
    (case s5_1 => k_is)
    (case s5_2 => k_is)
    (case s5_3 => k_is)
    (case s5_4 => k_is)
    (case s5_5 => first | rfl | k_is)
    (case o5_0 => k_is)
    (case o5_1 => k_is)
    (case o5_2 => k_is)
    (case o5_3 => k_is)
    (case o5_4 => k_is)
    (case o5_5 => k_is)
    (case o5_6 => k_is)
    (case zlen => k_is)
    (case zlist => k_is)
    (case zint => k_is)
    (case zrange => k_is)
    (case zrepr => k_is)
    (case zisinstance => k_is)
    (case zValueError => k_is)
    (case aL => k_is)
    (case lL => k_is)
    (case cL => k_is)
    (case kL => k_is)
    (case aD => k_is)
    (case lD => k_is)
    (case cD => k_is)
    (case kD => k_is)
    (case aS => k_is)
    (case lS => k_is)
    (case cS => k_is)
    (case kS => k_is)
    (case aM => k_is)
    (case lM => k_is)
    (case cM => k_is)
    (case kM => k_is)
    (case aN => k_is)
    (case lN => k_is)
    (case cN => k_is)
    (case kN => k_is)
    (case aW => k_is)
    (case lW => k_is)
    (case cW => k_is)
    (case kW => k_is)
